import PyProof.Rows.All
import Wide.All
import OpenK.AllK
import Wide.FinOn
import Lean
import PyProof.EqAt
import PyProof.EqKinds
import PyProof.TupleCall
import PyProof.NeKinds
import PyProof.ListRange
import PyProof.MaxThree
import PyProof.DictWalks
import PyProof.Rows.SortWalk
import PyProof.Rows.TopTwo
import PyProof.RangeIter
import PyProof.ExcArgsOwn
import PyProof.ExcBaseAll.ValueError
import PyProof.ExcAttrAll.ValueError
import KE.KIsAll
import OpenK.KOwn
import PyProof.StrBlock
import PyProof.DictItems
import PyProof.DictItemsLoops
import PyProof.DictValues
import PySem.Challenge.RW_hissroom_k34_a_room_is_full
set_option Elab.async false
set_option linter.all false
set_option maxRecDepth 100000
local macro_rules | `(tactic| omega) => `(tactic| lia)
set_option genSizeOf false
set_option maxHeartbeats 4000000
theorem gxA {α:Type _}{l:List α}{i:Nat}(h:i<l.length):l[i]?=some l[i]:=List.getElem?_eq_getElem h
theorem gxB {α:Type _}{l:List α}{i:Nat}{a:α}(h:l[i]?=some a):∃ h:i<l.length,l[i]=a:=List.getElem?_eq_some_iff.mp h
theorem fC {α β:Type _}{as:List α}(f:α->β):(as.map f).length=as.length:=List.length_map f
theorem gxD {α:Type _}{l:List α}{i:Nat}{a:α}(e:l[i]?=some a):a∈l:=List.mem_of_getElem? e
theorem gxE {α:Type _}{as bs:List α}:(as++bs).length=as.length+bs.length:=List.length_append
theorem gxF {α:Type _}{l₁ l₂:List α}{i:Nat}(h:i<l₁.length):(l₁++l₂)[i]?=l₁[i]?:=List.getElem?_append_left h
theorem gxG {α:Type _}{l₁ l₂:List α}{i:Nat}(h:l₁.length<=i):(l₁++l₂)[i]?=l₂[i - l₁.length]?:=List.getElem?_append_right h
theorem gxI {α:Type _}{a:α}(b:α){l:List α}(h:a∈l):a∈b::l:=List.mem_cons_of_mem b h
theorem gxJ {n:Nat}:(List.range n).length=n:=List.length_range
theorem gxK (n:Nat):(n:Int).toNat=n:=Int.toNat_natCast n
theorem gxL {h:PySem.Heap}{a:PySem.Addr}{u:PySem.Obj}(v:PySem.Obj)(e:h.get? a=some u):(h.push v).get? a=some u:=PySem.Heap.get?_push_of_some v e
theorem dY {α β:Type}{M:PySem.Model}{A:PySem.Around}{E:PySem.Value->PySem.Shared->Prop}{s:PySem.Shared}{m:PySem.Sem α}{f:α->PySem.Sem β}{Q:β->PySem.Shared->Prop}(h:PySem.wpAny M A m (fun a s=>PySem.wpAny M A (f a) Q E s) E s):PySem.wpAny M A (m >>= f) Q E s:=PySem.wpAny_bind h
theorem gxN {h:PySem.Heap}{a:PySem.Addr}{o:PySem.Obj}(e:h.get? a=some o):a<h.objs.size:=PySem.Heap.lt_size e
theorem gxH {α β:Type _}{f:α->β}{l:List α}{i:Nat}:(l.map f)[i]?=(l[i]?).map f:=List.getElem?_map ..
abbrev aa:=@Nat.le_refl
abbrev ae:=@if_neg
abbrev af:=@PySem.F.excBase_ValueError
abbrev ag:=@if_pos
abbrev ah:=@PySem.wpAny_pure
abbrev ai:=@List.map_cons
abbrev aj:=@decide_eq_false
abbrev ak:=@List.getElem?_set_ne
abbrev ao:=@decide_eq_true
abbrev aq:=@Nat.lt_of_lt_of_le
abbrev ar:=@List.size_toArray
abbrev au:=@PySem.Heap.get?_push_size
abbrev av:=@List.mem_cons_self
abbrev aw:=@Nat.le_trans
abbrev az:=@List.getElem?_set_self
abbrev aA:=@Bool.false_ne_true
abbrev aB:=@List.map_map
abbrev aC:=@Nat.ne_of_lt
abbrev aD:=@List.mem_append_right
abbrev aE:=@List.map_append
abbrev aF:=@PyProof.Rows.boot_isinstance
abbrev aG:=@List.length_cons
abbrev aH:=@List.append_assoc
abbrev aI:=@List.length_replicate
abbrev aJ:=@Option.some.inj
abbrev aK:=@List.length_set
abbrev aL:=@PySem.W.mg_none_of
abbrev aM:=@List.length_take
abbrev aN:=@List.mem_of_mem_take
abbrev aO:=@List.length_singleton
abbrev aP:=@List.append_nil
abbrev aQ:=@Nat.sub_self
abbrev aR:=@PySem.wpAny_field
abbrev aS:=@PySem.W.mg_of
abbrev aT:=@List.take_left
abbrev aU:=@List.getD_eq_getElem?_getD
abbrev aV:=@PySem.wpAny_newObj_type
abbrev aW:=@Nat.le_add_right
abbrev aX:=@Nat.zero_le
abbrev aY:=@PySem.Heap.size_push
abbrev aZ:=@Ne.symm
abbrev a6:=@PySem.wpAny_mono
abbrev a8:=@List.filter_cons
abbrev a9:=@Nat.ne_of_gt
abbrev ba:=@Nat.lt_succ_of_lt
abbrev bb:=@PySem.Heap.get?_update_other
abbrev bc:=@Bool.and_eq_true
abbrev bf:=@List.any_cons
abbrev bg:=@PyProof.Rows.boot_list
abbrev bh:=@PySem.W.kia_one
abbrev bj:=@List.find?_cons
abbrev bo:=@Nat.lt_irrefl
abbrev bp:=@List.not_mem_nil
abbrev bq:=@List.getElem?_take_of_lt
abbrev br:=@PyProof.Rows.callWith_type1
abbrev bt:=@Option.isSome_map
abbrev bu:=@PySem.wpAny_callSpecial?_slot
abbrev bw:=@PySem.PassesOwn.never
abbrev bx:=@List.idxOf_cons
abbrev bz:=@PySem.F.plainAttrs_str
abbrev bA:=@List.take_of_length_le
abbrev bB:=@of_decide_eq_true
abbrev bC:=@List.nodup_append
abbrev bD:=@congrArg
abbrev bE:=@PySem.wpAny_holding
abbrev bF:=@List.mem_cons
abbrev bG:=@PySem.wpAny_truthy_bool
abbrev bH:=@List.cons.injEq
abbrev bI:=@PySem.wpAny_call_entry
abbrev bJ:=@PySem.wpAny_Call_Name_kw
abbrev bL:=@Nat.lt_succ_self
abbrev bM:=@PySem.wpAny_seqItems
abbrev bN:=@List.mem_append_left
abbrev bO:=@Nat.le_succ_of_le
abbrev bP:=@List.map_congr_left
abbrev bQ:=@List.getElem_of_mem
abbrev bR:=@List.filterMap_cons
abbrev bS:=@Array.length_toList
abbrev bT:=@Nat.lt_of_le_of_lt
abbrev bU:=@PySem.F.slot_tuple_iterator_next
abbrev bV:=@PySem.F.type_str_join
abbrev bW:=@PySem.F.slot_str_join
abbrev bX:=@List.length_filter_le
abbrev bY:=@PySem.Heap.get?_update_self
abbrev bZ:=@PySem.wpAny_passesOwn
abbrev b7:=@List.idxOf_append
abbrev b8:=@PySem.wpAny_comprehension_free
abbrev b9:=@List.length_filterMap_le
abbrev cb:=@PySem.mem_of_lookup
abbrev cc:=@beq_self_eq_true
abbrev cf:=@Nat.add_sub_cancel_left
abbrev cj:=@List.length_drop
abbrev ck:=@List.getElem_mem
abbrev cm:=@List.all_eq_true
abbrev cp:=@PySem.wpAny_setField_rec
abbrev cq:=@PySem.W.callWith_K
abbrev cu:=@PyProof.Rows.boot_bool
abbrev cw:=@PySem.Calls.callWith_builtin
abbrev cx:=@Bool.eq_iff_iff
abbrev cy:=@List.set_comm
abbrev cz:=@PySem.wpAny_setField
abbrev cA:=@PySem.boot_len
abbrev cC:=@List.set_append_left
abbrev cD:=@List.lookup_cons
abbrev cE:=@List.drop_eq_getElem_cons
abbrev cF:=@List.getElem?_range
abbrev cG:=@PySem.wpAny_standAt
abbrev cI:=@or_false
abbrev cJ:=@List.all_cons
abbrev cK:=@PySem.wpAny_execs_nil
abbrev cL:=@PySem.pushCells_keeps
abbrev cM:=@beq_false_of_ne
abbrev cN:=@List.length_nil
abbrev cO:=@List.count_cons
abbrev cP:=@Int.natCast_add
abbrev cQ:=@Int.emod_nonneg
abbrev cU:=@PySem.tupleKind_room_in1
abbrev cV:=@PyProof.Rows.assignInOrder_cons
abbrev cW:=@PySem.Obj.data_mapFields
abbrev cX:=@List.zip_cons_cons
abbrev cY:=@List.lookup_append
abbrev cZ:=@Bool.false_eq_true
abbrev c4:=@PyProof.Rows.boot_tuple
abbrev c6:=@decide_eq_true_eq
abbrev c7:=@PySem.W.cellsFrom_some
abbrev c8:=@PyProof.Rows.boot_dict
abbrev c9:=@List.set_set
namespace L2
open PySem PySem.Spec PyProof.Rows
abbrev Key:=Sum Int Str
def keyIs:Key->Value->Bool
 | .inl k,v=>Value.isInt k v
 | .inr x,v=>Value.isStrOf x v
def keyH (w:World):Key->Int
 | .inl k=>hashInt k
 | .inr x=>hashStr w x
theorem keyIs_shape:∀ {k:Key} {v:Value},keyIs k v=true->(∃ i t,k=Sum.inl i/\v=Value.int i t)\/(∃ x t,k=Sum.inr x/\v=Value.str x t)
 | .inl i,v,h=>by
  obtain⟨t,e⟩:=Value.isInt_shape (k:=i) (v:=v) h
  exact .inl ⟨i,t,rfl,e⟩
 | .inr x,v,h=>by
  obtain⟨t,e⟩:=Value.isStrOf_shape (x:=x) (v:=v) h
  exact .inr ⟨x,t,rfl,e⟩
theorem keyIs_int (i:Int)(t:Tok):keyIs (.inl i) (.int i t)=true:=by simp[keyIs,Value.isInt]
theorem keyIs_str (x:Str)(t:Tok):keyIs (.inr x) (.str x t)=true:=by simp[keyIs,Value.isStrOf]
theorem key_ll (a b:Int):decide ((Sum.inl a:Key)=Sum.inl b)=(a==b):=by
 by_cases e:a=b
 ·subst e;simp
 ·have h:¬ (Sum.inl a:Key)=Sum.inl b:=fun q=>e (Sum.inl.inj q)
  rw[aj h]
  exact(beq_eq_false_iff_ne.mpr e).symm
theorem key_rr (a b:Str):decide ((Sum.inr a:Key)=Sum.inr b)=decide (a=b):=by
 by_cases e:a=b
 ·subst e;simp
 ·have h:¬ (Sum.inr a:Key)=Sum.inr b:=fun q=>e (Sum.inr.inj q)
  rw[aj h,aj e]
theorem key_lr (a:Int)(b:Str):decide ((Sum.inl a:Key)=Sum.inr b)=false:=aj (fun q=>nomatch q)
theorem key_rl (a:Str)(b:Int):decide ((Sum.inr a:Key)=Sum.inl b)=false:=aj (fun q=>nomatch q)
def eK (prog:Program)(w:World):PySem.KeyKind prog w Key where
 is:=keyIs
 hash:=keyH w
 inj:=fun v a b ha hb=>by
  rcases keyIs_shape ha with⟨i,t,rfl,rfl⟩ | ⟨x,t,rfl,rfl⟩
  ·rcases keyIs_shape hb with⟨j,u,rfl,e⟩ | ⟨y,u,rfl,e⟩
   ·injection e with e1 _;rw[e1]
   ·exact nomatch e
  ·rcases keyIs_shape hb with⟨j,u,rfl,e⟩ | ⟨y,u,rfl,e⟩
   ·exact nomatch e
   ·injection e with e1 _;rw[e1]
 byValue:=fun k v h=>by
  rcases keyIs_shape h with⟨i,t,rfl,rfl⟩ | ⟨x,t,rfl,rfl⟩<;> rfl
 pyHash:=fun hv h=>by
  rcases keyIs_shape hv with⟨i,t,rfl,rfl⟩ | ⟨x,t,rfl,rfl⟩
  ·exact wpAny_pyHash_int h
  ·exact wpAny_pyHash_str h
 eqBool:=fun hu hv h=>by
  rcases keyIs_shape hu with⟨i,t,rfl,rfl⟩ | ⟨x,t,rfl,rfl⟩
  ·rcases keyIs_shape hv with⟨j,u,rfl,rfl⟩ | ⟨y,u,rfl,rfl⟩
   ·rw[key_ll]at h;exact wpAny_eqBool_int h
   ·rw[key_lr]at h;exact SeqAt.EqAt.int_str i t y u _ _ _ _ h
  ·rcases keyIs_shape hv with⟨j,u,rfl,rfl⟩ | ⟨y,u,rfl,rfl⟩
   ·rw[key_rl]at h;exact SeqAt.EqAt.str_int x t j u _ _ _ _ h
   ·rw[key_rr]at h;exact wpAny_eqBool_str h
 «strs»:=fun k x t v h=>by
  rcases keyIs_shape h with⟨i,u,rfl,e⟩ | ⟨y,u,rfl,e⟩
  ·exact nomatch e
  ·injection e with e1 _
   subst e1
   cases v <;> rfl
theorem mixKind_int (prog:Program)(w:World)(i:Int)(t:Tok):(eK prog w).is (.inl i) (.int i t)=true:=keyIs_int i t
theorem mixKind_str (prog:Program)(w:World)(x:Str)(t:Tok):(eK prog w).is (.inr x) (.str x t)=true:=keyIs_str x t
inductive V where
 | fB | bl (b:Bool) | int (i:Int) | str (x:Str) | byt (b:Array UInt8) | flt (b:UInt64) | ref (a:Addr) | ty (n:String)
 deriving DecidableEq
def RelV:V->Value->Prop
 | .fB,u=>u=Value.none
 | .bl b,u=>u=Value.bool b
 | .int i,u=>∃ t,u=Value.int i t
 | .str x,u=>∃ t,u=Value.str x t
 | .byt b,u=>∃ t,u=Value.bytes b t
 | .flt b,u=>∃ t,u=Value.float b t
 | .ref a,u=>u=Value.ref a
 | .ty n,u=>u=Value.type n
abbrev Vals:List V->List Value->Prop:=Paired RelV
theorem Vals.length {xs:List V}{us:List Value}(r:Vals xs us):xs.length=us.length:=Paired.length r
theorem Vals.get:∀ {xs:List V} {us:List Value} {i:Nat} {x:V},Vals xs us->xs[i]?=some x->∃ u,us[i]?=some u/\RelV x u
 | _,_,_,_,.nil,e=>by simp at e
 | _,_,0,_,.cons r _,e=>by simp at e;subst e;exact⟨_,rfl,r⟩
 | _,_,i+1,x,.cons _ t,e=>by
  obtain⟨u,h1,h2⟩:=Vals.get (i:=i) (x:=x) t (by simpa using e)
  exact⟨u,by simpa using h1,h2⟩
theorem Vals.set {x:V}{u:Value}(r:RelV x u):∀ {xs:List V} {us:List Value} (i:Nat),Vals xs us->Vals (xs.set i x) (us.set i u)
 | _,_,_,.nil=>.nil
 | _,_,0,.cons _ t=>.cons r t
 | _,_,i+1,.cons q t=>.cons q (Vals.set r i t)
theorem Vals.append {xs ys:List V}{us ws:List Value}(h:Vals xs us)(s:Vals ys ws):Vals (xs++ys) (us++ws):=by
 induction h with
 | nil=>exact s
 | cons r t ih=>exact .cons r ih
theorem Vals.take:∀ {xs:List V} {us:List Value} (n:Nat),Vals xs us->Vals (xs.take n) (us.take n)
 | _,_,0,_=>.nil
 | _,_,_+1,.nil=>.nil
 | _,_,n+1,.cons r t=>.cons r (Vals.take n t)
theorem Vals.drop:∀ {xs:List V} {us:List Value} (n:Nat),Vals xs us->Vals (xs.drop n) (us.drop n)
 | _,_,0,r=>r
 | _,_,_+1,.nil=>.nil
 | _,_,n+1,.cons _ t=>Vals.drop n t
theorem Vals.none_of:∀ {xs:List V} {us:List Value} {i:Nat},Vals xs us->xs[i]?=none->us[i]?=none:=fun {xs us i} r e=>by
 have h1:=r.length
 have h2:xs.length<=i:=List.getElem?_eq_none_iff.mp e
 exact List.getElem?_eq_none_iff.mpr (by omega)
def RelO:Option V->Option Value->Prop
 | some v,some u=>RelV v u
 | none,none=>True
 | _,_=>False
def KV {κ:Type}:List (κ×V)->List (κ×Value)->Prop:=Paired fun(p:κ×V) (q:κ×Value)=>p.1=q.1/\RelV p.2 q.2
def kV:Key->V
 | .inl i=>.int i
 | .inr x=>.str x
inductive HO where
 | lst (xs:List V)
 | tup (xs:List V)
 | dK (kvs:List (Key×V)) | dT (kvs:List (List Key×V))
 | set (S:Int->Bool) (n:Nat)
 | ins (C dx:Addr) (fs:List (Str×V))
 | own (x:Addr)
 | xd (fs:List (Str×V))
 | met (f x:Addr)
 | rng (lo hi:Int)
 | frz (o:Obj) (u:HO)
 | tbl (ps:Array Value)
 | ext (φ:Heap->Prop)
abbrev Hp:=Addr->Option HO
def upd (H:Hp)(a:Addr)(o:HO):Hp:=fun b=>if b=a then some o else H b
theorem dE {H:Hp}{a:Addr}{o:HO}:upd H a o a=some o:=by unfold upd;rw[ag rfl]
theorem dQ {H:Hp}{a b:Addr}{o:HO}(h:b≠a):upd H a o b=H b:=by unfold upd;rw[ae h]
theorem ne_of {H:Hp}{a b:Addr}{o u:HO}(h:H a=some o)(h':H b=some u)(d:o≠u):a≠b:=by
 intro e;subst e;rw[h]at h';exact d (aJ h')
theorem eI {H:Hp}{a b:Addr}{o:HO}(h:H a=some o)(h':H b=none):a≠b:=by
 intro e;subst e;rw[h]at h';cases h'
section
variable (P:Program)(w:World)
def fj (H:Hp)(h:Heap)(a:Addr):HO->Prop
 | .lst xs=>xs.length<=sizeLine/\∃(d7:List Value) (n:Nat),Vals xs d7/\h.get? a=some { cls:=.type "list",data:=.seq d7.toArray n}
 | .tup xs=>xs.length<=sizeLine/\∃ d7:List Value,Vals xs d7/\IsTup h a d7.toArray
 | .dK kvs=>kvs.length<=sizeLine/\(a==sysModules)=false/\∃ vs,KV kvs vs/\h.DictOf (eK P w) a vs
 | .dT kvs=>kvs.length<=sizeLine/\(a==sysModules)=false/\∃ xs:List (List Key×Addr×Value),
  Paired (fun(p:List Key×V) (q:List Key×Addr×Value)=>p.1=q.1/\H q.2.1=some (.tup (p.1.map kV))/\RelV p.2 q.2.2) kvs xs /\
  ∃ o es ep,h.get? a=some o/\o.ExactDict/\o.data=.dict es ep/\es.toList=xs.map (entryOfKey (tupleKind (eK P w)))/\(xs.map (·.1)).Nodup
 | .set S n=>h.SetOf (intKind P w) a S n
 | .ins C dx fs=>H dx=some (.own a)/\fs.length<=1000/\dx≠a/\h.get? a=some (PySem.W.instObj C dx) /\
  ∃ mA,h.Ns1 dx mA/\(∀ f,RelO (fs.lookup f) (mA f))/\PySem.Within mA (fs.map (·.1))
 | .own _=>∃ o,h.get? a=some o
 | .xd fs=>∃ mA,h.Ns1 a mA/\∀ f,RelO (fs.lookup f) (mA f)
 | .rng lo hi=>∃ t u v,h.get? a=some { cls:=.type "range",data:=.fields #[.int lo t,.int hi u,.int 1 v]}
 | .frz o u=>h.get? a=some o/\fj H h a u
 | .tbl ps=>h.get? a=some { cls:=.none,data:=.fields ps}
 | .met f x=>h.get? a=some (PySem.W.methodObj (.ref f) (.ref x))
 | .ext φ=>φ h/\(∃ o,h.get? a=some o)/\∀ h1 h2:Heap,φ h1->(∀ o,h1.get? a=some o->h2.get? a=some o)->φ h2
def HOk (H:Hp)(h:Heap):Prop:=∀ a o,H a=some o->fj P w H h a o
end
section
variable {P:Program}{w:World}{H H':Hp}{h h':Heap}{a:Addr}{o:HO}
theorem fj.lt (x:fj P w H h a o):a<h.objs.size:=by
 cases o with
 | lst xs=>obtain⟨_,_,_,_,e⟩:=x;exact gxN e
 | tup xs=>obtain⟨_,_,_,p⟩:=x;exact p.lt
 | dK kvs=>obtain⟨_,_,_,_,o,_,_,e,_⟩:=x;exact gxN e
 | dT kvs=>obtain⟨_,_,_,_,o,_,_,e,_⟩:=x;exact gxN e
 | set S n=>obtain⟨o,_,_,_,e,_⟩:=x;exact gxN e
 | ins C dx fs=>obtain⟨_,_,_,e,_⟩:=x;exact gxN e
 | own y=>obtain⟨_,e⟩:=x;exact gxN e
 | xd fs=>obtain⟨_,⟨_,_,_,e,_⟩,_⟩:=x;exact gxN e
 | rng lo hi=>obtain⟨_,_,_,e⟩:=x;exact gxN e
 | frz ob u=>obtain⟨e,_⟩:=x;exact gxN e
 | tbl ps=>exact gxN (show h.get? a=some _ from x)
 | met f y=>exact gxN (show h.get? a=some _ from x)
 | ext φ=>obtain⟨_,⟨_,e⟩,_⟩:=x;exact gxN e
theorem Paired.mapP {α β:Type}{F G:α->β->Prop}{l₁:List α}{l₂:List β}(h:Paired F l₁ l₂)(f:∀ a b,F a b->G a b):Paired G l₁ l₂:=by
 induction h with
 | nil=>exact .nil
 | cons r t ih=>exact .cons (f _ _ r) ih
theorem fj.stay (x:fj P w H h a o)(k:∀ b u,(b=a\/H b=some (.own a))->h.get? b=some u->h'.get? b=some u)
 (ho:∀ b,H b=some (.own a)->H' b=some (.own a)) (ht:∀ b xs,H b=some (.tup xs)->H' b=some (.tup xs)):fj P w H' h' a o:=by
 induction o with
 | lst xs=>obtain⟨z,d7,n,r,e⟩:=x;exact⟨z,d7,n,r,k _ _ (.inl rfl) e⟩
 | tup xs=>obtain⟨z,d7,r,ob,e,c⟩:=x;exact⟨z,d7,r,ob,k _ _ (.inl rfl) e,c⟩
 | dK kvs=>obtain⟨z,y,vs,r,ob,es,ep,e,c⟩:=x;exact⟨z,y,vs,r,ob,es,ep,k _ _ (.inl rfl) e,c⟩
 | dT kvs =>
  obtain⟨z,y,xs,r,ob,es,ep,e,c⟩:=x
  exact⟨z,y,xs,Paired.mapP r fun p q z=>⟨z.1,ht _ _ z.2.1,z.2.2⟩,ob,es,ep,k _ _ (.inl rfl) e,c⟩
 | set S n=>obtain⟨ob,es,ep,t,e,c⟩:=x;exact⟨ob,es,ep,t,k _ _ (.inl rfl) e,c⟩
 | ins C dx fs =>
  obtain⟨d,z,ne,e,mA,⟨od,es,ep,e2,c⟩,r⟩:=x
  exact⟨ho _ d,z,ne,k _ _ (.inl rfl) e,mA,⟨od,es,ep,k _ _ (.inr d) e2,c⟩,r⟩
 | own y=>obtain⟨ob,e⟩:=x;exact⟨ob,k _ _ (.inl rfl) e⟩
 | xd fs=>obtain⟨mA,⟨od,es,ep,e,c⟩,r⟩:=x;exact⟨mA,⟨od,es,ep,k _ _ (.inl rfl) e,c⟩,r⟩
 | rng lo hi=>obtain⟨t,u,v,e⟩:=x;exact⟨t,u,v,k _ _ (.inl rfl) e⟩
 | frz ob u ih=>obtain⟨e,q⟩:=x;exact⟨k _ _ (.inl rfl) e,ih q⟩
 | tbl ps =>
  have e:h.get? a=some { cls:=.none,data:=.fields ps}:=x
  show h'.get? a=some { cls:=.none,data:=.fields ps}
  exact k a _ (.inl rfl) e
 | met f y =>
  have e:h.get? a=some (PySem.W.methodObj (.ref f) (.ref y)):=x
  show h'.get? a=some (PySem.W.methodObj (.ref f) (.ref y))
  exact k a _ (.inl rfl) e
 | ext φ=>obtain⟨p,⟨o,e⟩,st⟩:=x;exact⟨st _ _ p fun o q=>k _ _ (.inl rfl) q,⟨o,k _ _ (.inl rfl) e⟩,st⟩
theorem HOk.lt (x:HOk P w H h)(e:H a=some o):a<h.objs.size:=(x a o e).lt
theorem HOk.fresh (x:HOk P w H h)(e:h.objs.size<=a):H a=none:=by
 cases q:H a with
 | none=>rfl
 | some u=>exact absurd (aq (x.lt q) e) (bo _)
theorem HOk.kept (x:HOk P w H h)(k:∀ b u,h.get? b=some u->h'.get? b=some u):HOk P w H h':=fun a o e =>
 (x a o e).stay (fun b u _ q=>k b u q) (fun _ q=>q) fun _ _ q=>q
theorem HOk.laid (x:HOk P w H h)(k:∀ b u,h.get? b=some u->h'.get? b=some u)(hp:h.objs.size<=a)(new:fj P w (upd H a o) h' a o):HOk P w (upd H a o) h':=fun b u e=>by
 have hn:=x.fresh hp
 by_cases hb:b=a
 ·subst hb;rw[dE]at e;cases e;exact new
 ·rw[dQ hb]at e
  exact(x b u e).stay (fun c v _ q=>k c v q) (fun c q=>by rw[dQ (eI q hn)];exact q) fun c xs q=>by rw[dQ (eI q hn)];exact q
end
def Rd (H:Hp)(a:Addr)(u:HO):Prop:=H a=some u\/∃ o,H a=some (.frz o u)
theorem Rd.ok {P:Program}{w:World}{H:Hp}{h:Heap}{a:Addr}{u:HO}(r:Rd H a u)(x:HOk P w H h):fj P w H h a u:=by
 rcases r with r | ⟨o,r⟩
 ·exact x a u r
 ·obtain⟨_,q⟩:=x a _ r
  exact q
def Mut:Option HO->Prop
 | some (.lst _)=>True
 | some (.dK _)=>True
 | some (.dT _)=>True
 | some (.set _ _)=>True
 | some (.ins _ _ _)=>True
 | some (.ext _)=>True
 | _=>False
section
variable {P:Program}{w:World}{H:Hp}{h h':Heap}{x e:Addr}{o':HO}
theorem HOk.write (ok:HOk P w H h)(mu:Mut (H x))(he:e=x\/H e=some (.own x))(k:∀ b u,b≠e->h.get? b=some u->h'.get? b=some u)(heo:∃ u,h'.get? e=some u)
 (new:fj P w (upd H x o') h' x o'):HOk P w (upd H x o') h':=fun b u q=>by
 have nown:∀ c y,H c=some (.own y)->c≠x:=fun c y r z=>by subst z;rw[r]at mu;exact mu
 have ntup:∀ c xs,H c=some (.tup xs)->c≠x:=fun c xs r z=>by subst z;rw[r]at mu;exact mu
 by_cases hb:b=x
 ·subst hb;rw[dE]at q;cases q;exact new
 ·rw[dQ hb]at q
  by_cases hbe:b=e
  ·have q':H b=some (.own x):=by
    rcases he with z | z
    ·exact absurd (hbe.trans z) hb
    ·rw[hbe];exact z
   rw[q]at q';cases q'
   obtain⟨v,hv⟩:=heo
   exact⟨v,by rw[hbe];exact hv⟩
  ·refine(ok b u q).stay (fun c v hc r=>k c v ?_ r) (fun c r=>by rw[dQ (nown c b r)];exact r) fun c xs r=>by rw[dQ (ntup c xs r)];exact r
   rcases hc with rfl | hc
   ·exact hbe
   ·rintro rfl
    rcases he with z | z
    ·exact nown c b hc z
    ·rw[hc]at z;cases z;exact hb rfl
end
structure Un (fs ex:List Addr)(H H':Hp)(h h':Heap):Prop where
 keep:∀ b o,h.get? b=some o->H b=none->b∉fs->b∉ex->h'.get? b=some o
 slot:∀ b o,h.get? b=some o->H b=none->b∈fs->b∉ex->∃ sl,h'.get? b=some { o with slots:=sl}
 free:∀ b o,h.get? b=some o->H b=none->b∉ex->H' b=none
 there:∀ b o,h.get? b=some o->b∉ex->∃ o',h'.get? b=some o'
 tups:∀ b xs,H b=some (.tup xs)->H' b=some (.tup xs)
 frzs:∀ b o u,H b=some (.frz o u)->H' b=some (.frz o u)
 tbls:∀ b ps,H b=some (.tbl ps)->∃ more,H' b=some (.tbl (ps++more))
section
variable {fs fs' ex ex':List Addr}{H H1 H2:Hp}{h h1 h2 h':Heap}{a x e:Addr}{o:HO}
theorem Un.any (u:Un fs ex H H1 h h1){b:Addr}{ob:Obj}(q:h.get? b=some ob)(n:H b=none)(hx:b∉ex):∃ sl,h1.get? b=some { ob with slots:=sl}:=by
 by_cases hb:b∈fs
 ·exact u.slot b ob q n hb hx
 ·exact⟨ob.slots,u.keep b ob q n hb hx⟩
theorem Un.trans (a:Un fs ex H H1 h h1)(b:Un fs ex H1 H2 h1 h2):Un fs ex H H2 h h2 where
 keep:=fun c ob q n hc hx=>b.keep c ob (a.keep c ob q n hc hx) (a.free c ob q n hx) hc hx
 slot:=fun c ob q n hc hx=>by
  obtain⟨sl,e1⟩:=a.slot c ob q n hc hx
  obtain⟨sl',e2⟩:=b.slot c _ e1 (a.free c ob q n hx) hc hx
  exact⟨sl',e2⟩
 free:=fun c ob q n hx=>by
  obtain⟨o',e1⟩:=a.there c ob q hx
  exact b.free c o' e1 (a.free c ob q n hx) hx
 there:=fun c ob q hx=>by
  obtain⟨o',e1⟩:=a.there c ob q hx
  exact b.there c o' e1 hx
 tups:=fun c xs q=>b.tups c xs (a.tups c xs q)
 frzs:=fun c ob xs q=>b.frzs c ob xs (a.frzs c ob xs q)
 tbls:=fun c ps q=>by
  obtain⟨m1,e1⟩:=a.tbls c ps q
  obtain⟨m2,e2⟩:=b.tbls c _ e1
  exact⟨m1++m2,by rw[e2,Array.append_assoc]⟩
theorem Un.kept (k:∀ b u,h.get? b=some u->h'.get? b=some u):Un fs ex H H h h' :=
 ⟨fun b ob q _ _ _=>k b ob q,fun b ob q _ _ _=>⟨ob.slots,k b ob q⟩,fun _ _ _ n _=>n,fun b ob q _=>⟨ob,k b ob q⟩,fun _ _ q=>q,fun _ _ _ q=>q,fun _ ps q=>⟨#[],by rw[q];simp⟩⟩
theorem Un.refl:Un fs ex H H h h:=Un.kept fun _ _ q=>q
theorem Un.laid (k:∀ b u,h.get? b=some u->h'.get? b=some u)(hp:h.objs.size<=a)(hn:H a=none):Un fs ex H (upd H a o) h h' where
 keep:=fun b u q _ _ _=>k b u q
 slot:=fun b u q _ _ _=>⟨u.slots,k b u q⟩
 free:=fun b u q n _=>by rw[dQ (aC (aq (gxN q) hp))];exact n
 there:=fun b u q _=>⟨u,k b u q⟩
 tups:=fun b xs q=>by rw[dQ (eI q hn)];exact q
 frzs:=fun b u xs q=>by rw[dQ (eI q hn)];exact q
 tbls:=fun b ps q=>⟨#[],by rw[dQ (eI q hn),q];simp⟩
theorem Un.write (mu:Mut (H x))(he:e=x\/H e=some (.own x))(k:∀ b u,b≠e->h.get? b=some u->h'.get? b=some u)(heo:∃ u,h'.get? e=some u):Un fs ex H (upd H x o) h h':=by
 have hx:∀ b,H b=none->b≠x:=fun b n z=>by subst z;rw[n]at mu;exact mu
 have hb:∀ b,H b=none->b≠e:=fun b n z=>by
  subst z
  rcases he with r | r
  ·exact hx b n r
  ·rw[n]at r;cases r
 have hm:∀ b u,H b=some u->¬ Mut (some u)->b≠x:=fun b u q nm z=>by subst z;rw[q]at mu;exact nm mu
 refine⟨fun b u q n _ _=>k b u (hb b n) q,fun b u q n _ _=>⟨u.slots,k b u (hb b n) q⟩,fun b u q n _=>by rw[dQ (hx b n)];exact n,fun b u q _=>?_,
  fun b xs q=>by rw[dQ (hm b _ q fun z=>z)];exact q,fun b u xs q=>by rw[dQ (hm b _ q fun z=>z)];exact q,fun b ps q=>⟨#[],by rw[dQ (hm b _ q fun z=>z),q];simp⟩⟩
 by_cases hbe:b=e
 ·subst hbe;exact heo
 ·exact⟨u,k b u hbe q⟩
theorem Un.mono (u:Un fs ex H H1 h h1)(hs:∀ b∈fs,b∈fs')(hx:∀ b∈ex,b∈ex'):Un fs' ex' H H1 h h1 :=
 ⟨fun b ob q n hb he=>u.keep b ob q n (fun z=>hb (hs b z)) fun z=>he (hx b z),fun _ _ q n _ he=>u.any q n fun z=>he (hx _ z),fun b ob q n he=>u.free b ob q n fun z=>he (hx b z),fun b ob q he=>u.there b ob q fun z=>he (hx b z),u.tups,u.frzs,u.tbls⟩
end
def trk (h:Heap)(H:Hp):List Addr:=(List.range h.objs.size).filter fun a=>(H a).isSome
def hidT (h:Heap)(H:Hp):Heap:=PySem.W.hideAll h (trk h H)
theorem hidT_size (h:Heap)(H:Hp):(hidT h H).objs.size=h.objs.size:=PySem.W.hideAll_size _ _
theorem hidT_get {h:Heap}{H:Hp}{b:Addr}{o:Obj}(e:h.get? b=some o)(n:H b=none):(hidT h H).get? b=some o :=
 PySem.W.hideAll_get _ e fun hm=>by
  have q:(H b).isSome=true:=(List.mem_filter.mp hm).2
  rw[n]at q;simp at q
theorem of_hidT {h:Heap}{H:Hp}{b:Addr}{o:Obj}(e:(hidT h H).get? b=some o):h.get? b=some o/\H b=none:=by
 have e':h.get? b=some o:=PySem.W.of_hideAll (trk h H) e
 refine⟨e',?_⟩
 cases q:H b with
 | none=>rfl
 | some x =>
  have hm:b∈trk h H:=List.mem_filter.mpr ⟨List.mem_range.mpr (gxN e'),by simp[q]⟩
  have z:(hidT h H).get? b=none:=PySem.W.hideAll_none (trk h H) hm
  rw[z]at e;cases e
def allNews (g h:Heap)(L:Addr):List (Addr×Obj):=(List.range h.objs.size).filterMap fun a=>if a=L\/(g.get? a).isSome=true then none else(h.get? a).map fun o=>(a,o)
def rest (g h:Heap)(L d:Addr):List (Addr×Obj):=(allNews g h L).filter fun p=>decide (p.1≠d)
structure Mod (K:PySem.W.Frag)(mg:Str->Option Value)(base:Heap):Prop where
 kin:K.In base
 glob:base.Ns mainGlobals mg
 blt:∃ mb,base.Ns builtinsNs mb/\∀ x:Str,x ≠ "__name__"->mb x=bootBuiltins x
 nolimit:base.NoLimit
structure Cx where
 prog:Program
 w:World
 K:PySem.W.Frag
 mg:Str->Option Value
 base:Heap
 A:Around
 N:List Str
 s₀:Shared
 H₀:Hp
 env:Env
 outer:List Env
 stack:List Env
 ex:List Addr
 fn:Str->Bool
 calm:Bool
 pn:List (Addr×Obj)
 xe:Value->Shared->Prop
def frs (l:List Env):List Addr:=l.filterMap (·.frame)
abbrev Cx.fs (X:Cx):List Addr:=frs X.outer
def Vis (sc:Scope)(x:Str):Prop:=sc.names.lookup x=some .local\/sc.names.lookup x=some .cell\/sc.names.lookup x=some .free
def Loc (sc:Scope)(x:Str):Prop:=sc.names.lookup x=some .local\/sc.names.lookup x=some .cell
def Look (env:Env)(h:Heap)(m:Str->Option Value)(x:Str)(u:Value):Prop :=
 (env.kindOf x=some .local/\m x=some u)\/((env.kindOf x=some .cell\/env.kindOf x=some .free)/\∃ c,env.cells.lookup x=some c/\h.IsCell c (some u))
structure Cx.Ok (X:Cx):Prop where
 mod:Mod X.K X.mg X.base
 kind:X.env.scope.kind=.function
 glob:X.env.globals=mainGlobals
 blt:X.env.builtins=builtinsNs
 above:X.s₀.heap.objs.size<=X.env.locals
 inj:∀ x y c,X.env.cells.lookup x=some c->X.env.cells.lookup y=some c->x=y
 has:∀ x,(X.env.kindOf x=some .cell\/X.env.kindOf x=some .free)->∃ c,X.env.cells.lookup x=some c
 cab:∀ x c,X.fn x=true->X.env.cells.lookup x=some c->X.s₀.heap.objs.size<=c
 hd:X.calm=true->X.A.handled=none
 frames:X.A.frames=some X.stack
 stk:X.stack=X.outer\/(X.stack=X.env::X.outer/\X.env.frame=some X.env.locals)
 exf:∀ b∈X.ex,b≠X.env.locals/\∀ x c,X.env.cells.lookup x=some c->c≠b
 bs:∀ b o,X.base.get? b=some o->X.s₀.heap.get? b=some o/\X.H₀ b=none
 bsz:X.base.objs.size<=X.s₀.heap.objs.size
 noex:∀ b o,X.base.get? b=some o->b∉X.ex
 exfs:∀ b∈X.ex,b∉X.fs
 funs:X.s₀.heap.FunFrames X.base X.outer
 frf:∀ b∈X.fs,X.H₀ b=none
structure Inv (X:Cx)(pins:List (Addr×Obj))(σ:List (Option V))(H:Hp)(s:Shared):Prop where
 ok:X.Ok
 os:s.os=X.s₀.os
 bare:AllBare s.gens
 base:Un X.fs X.ex X.H₀ H X.s₀.heap s.heap
 loc:∃ m,s.heap.Ns X.env.locals m/\∀(i:Nat) (x:Str) (v:V),X.N[i]?=some x->σ[i]?=some (some v)->Vis X.env.scope x->∃ u,RelV v u/\Look X.env s.heap m x u
 cell:∀ x c,X.env.cells.lookup x=some c->∃ v,s.heap.IsCell c v
 free:H X.env.locals=none
 freeC:∀ x c,X.env.cells.lookup x=some c->H c=none
 pin:∀ p∈X.pn++pins,s.heap.get? p.1=some p.2/\H p.1=none/\p.1≠X.env.locals/\p.1∉X.fs/\∀ v,p.2.data≠.cell v
 dX:HOk X.prog X.w H s.heap
 len:σ.length=X.N.length
section
variable {X:Cx}{pins:List (Addr×Obj)}{σ:List (Option V)}{H H':Hp}{s:Shared}{h':Heap}
theorem Cx.Ok.nofr (ok:X.Ok){b:Addr}{o:Obj}(e:X.base.get? b=some o):b∉X.fs:=fun hb=>by
 have:=(ok.funs.mem hb).1
 rw[e]at this;cases this
theorem Inv.bs (I:Inv X pins σ H s):∀ b o,X.base.get? b=some o->s.heap.get? b=some o/\H b=none:=fun b o e =>
 ⟨I.base.keep b o (I.ok.bs b o e).1 (I.ok.bs b o e).2 (I.ok.nofr e) (I.ok.noex b o e),I.base.free b o (I.ok.bs b o e).1 (I.ok.bs b o e).2 (I.ok.noex b o e)⟩
theorem Inv.bk (I:Inv X pins σ H s):∀ b o,X.base.get? b=some o->s.heap.get? b=some o:=fun b o e=>(I.bs b o e).1
theorem Inv.mod (I:Inv X pins σ H s):Mod X.K X.mg X.base:=I.ok.mod
theorem Inv.kIn (I:Inv X pins σ H s):X.K.In s.heap:=I.ok.mod.kin.keeps I.bk
theorem Inv.fr (I:Inv X pins σ H s):∃ m,Fr X.base X.env.locals s.heap m :=
 let ⟨m,hn,_⟩:=I.loc
 ⟨m,hn,I.bk,aw I.ok.bsz I.ok.above⟩
theorem Inv.lt (I:Inv X pins σ H s):X.env.locals<s.heap.objs.size:=let ⟨_,hn,_⟩:=I.loc;hn.lt
theorem Inv.sz (I:Inv X pins σ H s):X.s₀.heap.objs.size<=s.heap.objs.size:=aw I.ok.above (Nat.le_of_lt I.lt)
theorem Inv.nofs (I:Inv X pins σ H s){a:Addr}(h:s.heap.objs.size<=a):a∉X.fs:=fun hb=>by
 obtain⟨_,o,ho,_⟩:=I.ok.funs.mem hb
 exact absurd (aq (gxN ho) (aw I.sz h)) (bo _)
theorem Inv.cne (I:Inv X pins σ H s):∀ x c,X.env.cells.lookup x=some c->c≠X.env.locals:=fun x c e z=>by
 obtain⟨v,o,ho,hd⟩:=I.cell x c e
 obtain⟨m,⟨o',es,ep,ho',hd',_⟩,_⟩:=I.loc
 rw[z,ho']at ho;cases ho;rw[hd']at hd;cases hd
theorem Inv.funs (I:Inv X pins σ H s):s.heap.FunFrames X.base X.outer:=by
 have all:∀(l:List Env),(∀ b∈frs l,b∈X.fs)->X.s₀.heap.FunFrames X.base l->s.heap.FunFrames X.base l:=by
  intro l
  induction l with
  | nil=>intro _ _;trivial
  | cons env r ih =>
   intro hs hl
   obtain⟨hk,⟨L,o,hf,hn,ho,hd⟩,hr⟩:=hl
   have hL:L∈X.fs:=hs L (by unfold frs;rw[bR,hf];exact av)
   obtain⟨sl,e⟩:=I.base.slot L o ho (I.ok.frf L hL) hL fun z=>I.ok.exfs L z hL
   exact⟨hk,⟨L,_,hf,hn,e,hd⟩,ih (fun b hb=>hs b (by unfold frs;rw[bR,hf];exact gxI _ hb)) hr⟩
 exact all X.outer (fun _ hb=>hb) I.ok.funs
theorem Inv.stack (I:Inv X pins σ H s):s.heap.FunFrames X.base X.stack:=by
 rcases I.ok.stk with e | ⟨e,hf⟩
 ·rw[e];exact I.funs
 ·rw[e]
  obtain⟨m,hn,_⟩:=I.loc
  refine .cons (by rw[I.ok.kind];decide) hf hn ?_ I.funs
  exact Heap.get?_none_of_le (aw I.ok.bsz I.ok.above)
theorem Inv.stkSub (I:Inv X pins σ H s):∀ b∈frs X.stack,b∈X.env.locals::X.fs:=fun b hb=>by
 rcases I.ok.stk with e | ⟨e,hf⟩
 ·rw[e]at hb;exact gxI _ hb
 ·rw[e]at hb
  unfold frs at hb
  rw[bR,hf]at hb
  exact hb
theorem Inv.stkFree (I:Inv X pins σ H s):∀ b∈frs X.stack,H b=none:=fun b hb=>by
 rcases List.mem_cons.mp (I.stkSub b hb)with e | hb
 ·rw[e];exact I.free
 ·obtain⟨_,o,ho,_⟩:=I.ok.funs.mem hb
  exact I.base.free b o ho (I.ok.frf b hb) fun z=>I.ok.exfs b z hb
theorem Inv.step {g':Array GenState}{t':Nat}{d':Drawn}{ch:List Addr}(I:Inv X pins σ H s)
 (hch:∀ b∈ch,(b∈X.ex\/X.s₀.heap.objs.size<=b)/\b≠X.env.locals/\(∀ x c,X.env.cells.lookup x=some c->c≠b)/\∀ p∈X.pn++pins,p.1≠b)
 (keep:∀ b o,b≠X.env.locals->b∉X.fs->b∉ch->s.heap.get? b=some o->H b=none->h'.get? b=some o)
 (slot:∀ b o,b≠X.env.locals->b∈X.fs->b∉ch->s.heap.get? b=some o->H b=none->∃ sl,h'.get? b=some { o with slots:=sl}) (free:∀ b o,b∉ch->s.heap.get? b=some o->H b=none->H' b=none)
 (there:∀ b o,b∉ch->s.heap.get? b=some o->∃ o',h'.get? b=some o')
 (tups:∀ b xs,H b=some (.tup xs)->H' b=some (.tup xs)) (frzs:∀ b o u,H b=some (.frz o u)->H' b=some (.frz o u)) (tbls:∀ b ps,H b=some (.tbl ps)->∃ more,H' b=some (.tbl (ps++more)))
 (ns:∀ m,s.heap.Ns X.env.locals m->h'.Ns X.env.locals m) (dX:HOk X.prog X.w H' h') (hg:AllBare g') :
 Inv X pins σ H' { s with heap:=h',gens:=g',drawn:=d',toks:=t'}:=by
 have neL:∀ b o,X.s₀.heap.get? b=some o->b≠X.env.locals:=fun b o e=>aC (aq (gxN e) I.ok.above)
 have neC:∀ b o,X.s₀.heap.get? b=some o->b∉X.ex->b∉ch:=fun b o e hx hb=>by
  rcases(hch b hb).1 with z | z
  ·exact hx z
  ·exact absurd (aq (gxN e) z) (bo _)
 have cellK:∀ x c,X.env.cells.lookup x=some c->∀ v,s.heap.IsCell c v->h'.IsCell c v:=fun x c e v ⟨o,ho,hd⟩=>by
  have nch:c∉ch:=fun z=>(hch c z).2.2.1 x c e rfl
  by_cases hc:c∈X.fs
  ·obtain⟨sl,q⟩:=slot c o (I.cne x c e) hc nch ho (I.freeC x c e)
   exact⟨_,q,hd⟩
  ·exact⟨o,keep c o (I.cne x c e) hc nch ho (I.freeC x c e),hd⟩
 refine⟨I.ok,I.os,hg,⟨fun b o e n hb hx=>?_,fun b o e n hb hx=>?_,fun b o e n hx=>?_,fun b o e hx=>?_,fun b xs e=>tups b xs (I.base.tups b xs e),fun b o xs e=>frzs b o xs (I.base.frzs b o xs e),fun b ps e=>?_⟩,?_,fun x c e=>?_,?_,fun x c e=>?_,fun p hp=>?_,dX,I.len⟩
 ·exact keep b o (neL b o e) hb (neC b o e hx) (I.base.keep b o e n hb hx) (I.base.free b o e n hx)
 ·obtain⟨sl,e1⟩:=I.base.slot b o e n hb hx
  obtain⟨sl',e2⟩:=slot b _ (neL b o e) hb (neC b o e hx) e1 (I.base.free b o e n hx)
  exact⟨sl',e2⟩
 ·obtain⟨o',e1⟩:=I.base.there b o e hx
  exact free b o' (neC b o e hx) e1 (I.base.free b o e n hx)
 ·obtain⟨o',e1⟩:=I.base.there b o e hx
  exact there b o' (neC b o e hx) e1
 ·obtain⟨m1,e1⟩:=I.base.tbls b ps e
  obtain⟨m2,e2⟩:=tbls b _ e1
  exact⟨m1++m2,by rw[e2,Array.append_assoc]⟩
 ·obtain⟨m,hn,hl⟩:=I.loc
  refine⟨m,ns m hn,fun i x v e1 e2 e3=>?_⟩
  obtain⟨u,r,l⟩:=hl i x v e1 e2 e3
  refine⟨u,r,?_⟩
  rcases l with l | ⟨k,c,e,z⟩
  ·exact .inl l
  ·exact .inr ⟨k,c,e,cellK x c e _ z⟩
 ·obtain⟨v,z⟩:=I.cell x c e
  exact⟨v,cellK x c e v z⟩
 ·obtain⟨m,⟨o,_,_,ho,_⟩,_⟩:=I.loc
  exact free _ o (fun z=>(hch _ z).2.1 rfl) ho I.free
 ·obtain⟨v,o,ho,hd⟩:=I.cell x c e
  exact free c o (fun z=>(hch c z).2.2.1 x c e rfl) ho (I.freeC x c e)
 ·obtain⟨e,n,ne,nf,d⟩:=I.pin p hp
  have nch:p.1∉ch:=fun z=>(hch p.1 z).2.2.2 p hp rfl
  exact⟨keep p.1 p.2 ne nf nch e n,free p.1 p.2 nch e n,ne,nf,d⟩
theorem Inv.un {t':Nat}(I:Inv X pins σ H s)(u:Un X.fs [] H H' s.heap h')(dX:HOk X.prog X.w H' h'):Inv X pins σ H' { s with heap:=h',toks:=t'}:=by
 obtain⟨m,⟨o,es,ep,ho,r⟩,_⟩:=id I.loc
 obtain⟨sl,hL⟩:=u.any ho I.free (by simp)
 exact I.step (g':=s.gens) (d':=s.drawn) (ch:=[]) (fun _ z=>nomatch z) (fun b o _ hb _ e n=>u.keep b o e n hb (by simp)) (fun b o _ hb _ e n=>u.slot b o e n hb (by simp)) (fun b o _ e n=>u.free b o e n (by simp)) (fun b o _ e=>u.there b o e (by simp)) u.tups u.frzs u.tbls (fun m' hm=>by
  obtain⟨o',es',ep',ho',r'⟩:=hm
  rw[ho]at ho';cases ho'
  exact⟨_,es',ep',hL,r'⟩) dX I.bare
theorem Inv.call {g':Array GenState}{t':Nat}{d':Drawn}{ch:List Addr}(I:Inv X pins σ H s)(u:Un (frs X.stack) ch H H' s.heap h')(dX:HOk X.prog X.w H' h')(hg:AllBare g')
 (hch:∀ b∈ch,(b∈X.ex\/X.s₀.heap.objs.size<=b)/\b≠X.env.locals/\(∀ x c,X.env.cells.lookup x=some c->c≠b)/\∀ p∈X.pn++pins,p.1≠b) :
 Inv X pins σ H' { s with heap:=h',gens:=g',drawn:=d',toks:=t'}:=by
 obtain⟨m,⟨o,es,ep,ho,r⟩,_⟩:=id I.loc
 obtain⟨sl,hL⟩:=u.any ho I.free fun z=>(hch _ z).2.1 rfl
 exact I.step (ch:=ch) hch (fun b o hL hb hc e n=>u.keep b o e n (fun z=>(List.mem_cons.mp (I.stkSub b z)).elim hL hb) hc) (fun b o _ _ hc e n=>u.any e n hc) (fun b o hc e n=>u.free b o e n hc) (fun b o hc e=>u.there b o e hc) u.tups u.frzs u.tbls (fun m' hm=>by
  obtain⟨o',es',ep',ho',r'⟩:=hm
  rw[ho]at ho';cases ho'
  exact⟨_,es',ep',hL,r'⟩) dX hg
theorem Inv.turned {t':Nat}{it:Addr}(I:Inv X pins σ H s)(k:∀ b o,b≠it->s.heap.get? b=some o->h'.get? b=some o)(hn:H it=none)(hL:it≠X.env.locals)
 (h1:it∈X.ex\/X.s₀.heap.objs.size<=it) (h2:∀ x c,X.env.cells.lookup x=some c->c≠it) (h3:∀ p∈X.pn++pins,p.1≠it):Inv X pins σ H { s with heap:=h',toks:=t'}:=by
 have nit:∀ b u,H b=some u->b≠it:=fun b u e z=>by rw[z,hn]at e;cases e
 refine I.step (g':=s.gens) (d':=s.drawn) (ch:=[it]) (fun b hb=>?_) (fun b o _ _ hc e _=>k b o (fun z=>hc (by simp[z])) e) (fun b o _ _ hc e _=>⟨o.slots,k b o (fun z=>hc (by simp[z])) e⟩) (fun _ _ _ _ n=>n)
  (fun b o hc e=>⟨o,k b o (fun z=>hc (by simp[z])) e⟩) (fun _ _ e=>e) (fun _ _ _ e=>e) (fun b ps e=>⟨#[],by rw[e];simp⟩) (fun m hm=>?_) (fun b u e=>?_) I.bare
 ·have e:b=it:=by simpa using hb
  subst e
  exact⟨h1,hL,h2,h3⟩
 ·obtain⟨o,es,ep,ho,r⟩:=hm
  exact⟨o,es,ep,k _ o (aZ hL) ho,r⟩
 ·refine(I.dX b u e).stay (fun c v hc q=>k c v ?_ q) (fun _ q=>q) fun _ _ q=>q
  rcases hc with z | z
  ·rw[z];exact nit b u e
  ·exact nit c _ z
theorem Inv.tok (I:Inv X pins σ H s)(t:Nat):Inv X pins σ H { s with toks:=t}:=I.un (h':=s.heap) (t':=t) Un.refl I.dX
theorem Inv.kept {t':Nat}(I:Inv X pins σ H s)(k:∀ b u,s.heap.get? b=some u->h'.get? b=some u):Inv X pins σ H { s with heap:=h',toks:=t'}:=I.un (Un.kept k) (I.dX.kept k)
theorem Inv.laid {a:Addr}{o:HO}{t':Nat}(I:Inv X pins σ H s)(k:∀ b u,s.heap.get? b=some u->h'.get? b=some u)(hp:s.heap.objs.size<=a)(new:fj X.prog X.w (upd H a o) h' a o) :
 Inv X pins σ (upd H a o) { s with heap:=h',toks:=t'}:=I.un (Un.laid k hp (I.dX.fresh hp)) (I.dX.laid k hp new)
theorem Inv.write {x e:Addr}{o:HO}{t':Nat}(I:Inv X pins σ H s)(mu:Mut (H x))(he:e=x\/H e=some (.own x))(k:∀ b u,b≠e->s.heap.get? b=some u->h'.get? b=some u)(heo:∃ u,h'.get? e=some u)
 (new:fj X.prog X.w (upd H x o) h' x o):Inv X pins σ (upd H x o) { s with heap:=h',toks:=t'}:=I.un (Un.write mu he k heo) (I.dX.write mu he k heo new)
theorem Inv.weak {σ':List (Option V)}(I:Inv X pins σ H s)(hl:σ'.length=σ.length)(w:∀(i:Nat) v,σ'[i]?=some (some v)->σ[i]?=some (some v)):Inv X pins σ' H s :=
 ⟨I.ok,I.os,I.bare,I.base,let ⟨m,hn,hl'⟩:=I.loc;⟨m,hn,fun i x v e1 e2 e3=>hl' i x v e1 (w i v e2) e3⟩,I.cell,I.free,I.freeC,I.pin,I.dX,hl.trans I.len⟩
theorem Inv.pins_of {pins':List (Addr×Obj)}(I:Inv X pins σ H s)(h:∀ p∈pins',s.heap.get? p.1=some p.2/\H p.1=none/\p.1≠X.env.locals/\p.1∉X.fs/\∀ v,p.2.data≠.cell v):Inv X pins' σ H s :=
 ⟨I.ok,I.os,I.bare,I.base,I.loc,I.cell,I.free,I.freeC,fun p hp=>(List.mem_append.mp hp).elim (fun z=>I.pin p (bN _ z)) (h p),I.dX,I.len⟩
theorem nodup_ix {N:List Str}(hN:N.Nodup){i j:Nat}{x:Str}(a:N[i]?=some x)(b:N[j]?=some x):i=j:=by
 obtain⟨h1,e1⟩:=gxB a
 obtain⟨h2,e2⟩:=gxB b
 exact(List.getElem_inj hN).mp (e1.trans e2.symm)
theorem store_ok2 {M:Model}{A:Around}{E:Value->Shared->Prop}{i:Nat}{x:Str}{v:V}{u:Value}{Q:Unit->Shared->Prop}(I:Inv X pins σ H s)(hN:X.N.Nodup)(hi:X.N[i]?=some x)(hx:Loc X.env.scope x)(r:RelV v u)
 (h:∀ s',Inv X pins (σ.set i (some v)) H s'->(∃ a,Heap.SameBut a s.heap s'.heap/\(a=X.env.locals\/X.env.cells.lookup x=some a))->Q () s') (hf:X.fn x=true\/X.env.scope.names.lookup x=some .local:=by first | exact .inl rfl | exact .inr rfl | assumption):wpAny M A (storeName X.env x u) Q E s:=by
 obtain⟨m,hn,hl⟩:=id I.loc
 have hcls:(X.env.scope.kind==.class||(X.env.scope.kind==.module&&X.env.locals != X.env.globals))=false:=by rw[I.ok.kind];rfl
 have hiσ:i<σ.length:=by rw[I.len];exact(gxB hi).1
 have cne:=I.cne
 have tracked:∀ {a:Addr} {h':Heap},(∃ o,s.heap.get? a=some o/\H a=none)->Heap.SameBut a s.heap h'->HOk X.prog X.w H h':=fun {a h'} ha hs b ob e=>by
  obtain⟨_,_,hfree⟩:=ha
  refine(I.dX b ob e).stay (fun c w' hc q=>(hs.2 c ?_).trans q) (fun _ q=>q) fun _ _ q=>q
  rintro rfl
  rcases hc with rfl | hc
  ·rw[hfree]at e;cases e
  ·rw[hfree]at hc;cases hc
 rcases hx with hk | hk
 ·refine wpAny_storeName_local hk hn (fun h' hn' hs=>?_) hcls
  obtain⟨oL,_,_,hoL,_⟩:=id hn
  refine h _ ⟨I.ok,I.os,I.bare,⟨fun b o e n hb hx=>?_,fun b o e n hb hx=>?_,I.base.free,fun b o e hx=>?_,I.base.tups,I.base.frzs,I.base.tbls⟩,⟨_,hn',fun j y v' e1 e2 e3=>?_⟩,fun y c e=>?_,I.free,I.freeC,fun p hp=>?_,tracked ⟨oL,hoL,I.free⟩ hs,by simpa using I.len⟩ ⟨_,hs,.inl rfl⟩
  ·exact(hs.2 b (aC (aq (gxN e) I.ok.above))).trans (I.base.keep b o e n hb hx)
  ·obtain⟨sl,e1⟩:=I.base.slot b o e n hb hx
   exact⟨sl,(hs.2 b (aC (aq (gxN e) I.ok.above))).trans e1⟩
  ·obtain⟨o',e1⟩:=I.base.there b o e hx
   exact⟨o',(hs.2 b (aC (aq (gxN e) I.ok.above))).trans e1⟩
  ·by_cases hj:j=i
   ·subst hj
    rw[hi]at e1;cases e1
    rw[az hiσ]at e2
    cases e2
    exact⟨u,r,.inl ⟨hk,by simp⟩⟩
   ·rw[ak (aZ hj)]at e2
    obtain⟨u',r',q⟩:=hl j y v' e1 e2 e3
    refine⟨u',r',?_⟩
    rcases q with⟨k,e⟩ | ⟨k,c,e,z⟩
    ·refine .inl ⟨k,?_⟩
     have:y≠x:=fun e=>hj (nodup_ix hN e1 (e▸hi))
     simp[this,e]
    ·exact .inr ⟨k,c,e,z.sameBut hs (cne y c e)⟩
  ·obtain⟨w',z⟩:=I.cell y c e
   exact⟨w',z.sameBut hs (cne y c e)⟩
  ·obtain⟨e,n,ne,nf,d⟩:=I.pin p hp
   exact⟨(hs.2 p.1 ne).trans e,n,ne,nf,d⟩
 ·have hfn:X.fn x=true:=by
   rcases hf with z | z
   ·exact z
   ·rw[z]at hk;cases hk
  obtain⟨c,hc⟩:=I.ok.has x (.inl hk)
  obtain⟨w',z⟩:=I.cell x c hc
  refine wpAny_storeName_cell I.ok.kind hk hc z (fun h' hc' hs=>?_)
  obtain⟨oc,hoc,hocd⟩:=id z
  refine h { s with heap:=h'} ⟨I.ok,I.os,I.bare,⟨fun b o e n hb hx=>?_,fun b o e n hb hx=>?_,I.base.free,fun b o e hx=>?_,I.base.tups,I.base.frzs,I.base.tbls⟩,⟨m,hn.sameBut hs (aZ (cne x c hc)),fun j y v' e1 e2 e3=>?_⟩,fun y c' e=>?_,I.free,I.freeC,fun p hp=>?_,tracked ⟨oc,hoc,I.freeC x c hc⟩ hs,by simpa using I.len⟩ ⟨c,hs,.inr hc⟩
  ·exact(hs.2 b (aC (aq (gxN e) (I.ok.cab x c hfn hc)))).trans (I.base.keep b o e n hb hx)
  ·obtain⟨sl,e1⟩:=I.base.slot b o e n hb hx
   exact⟨sl,(hs.2 b (aC (aq (gxN e) (I.ok.cab x c hfn hc)))).trans e1⟩
  ·obtain⟨o',e1⟩:=I.base.there b o e hx
   exact⟨o',(hs.2 b (aC (aq (gxN e) (I.ok.cab x c hfn hc)))).trans e1⟩
  ·by_cases hj:j=i
   ·subst hj
    rw[hi]at e1;cases e1
    rw[az hiσ]at e2
    cases e2
    exact⟨u,r,.inr ⟨.inl hk,c,hc,hc'⟩⟩
   ·rw[ak (aZ hj)]at e2
    obtain⟨u',r',q⟩:=hl j y v' e1 e2 e3
    refine⟨u',r',?_⟩
    rcases q with q | ⟨k,c',e,z'⟩
    ·exact .inl q
    ·refine .inr ⟨k,c',e,z'.sameBut hs ?_⟩
     rintro rfl
     exact hj (nodup_ix hN e1 (I.ok.inj _ _ _ e hc▸hi))
  ·by_cases hcc:c'=c
   ·subst hcc;exact⟨_,hc'⟩
   ·obtain⟨w2,z2⟩:=I.cell y c' e
    exact⟨w2,z2.sameBut hs hcc⟩
  ·obtain⟨e,n,ne,nf,d⟩:=I.pin p hp
   refine⟨(hs.2 p.1 ?_).trans e,n,ne,nf,d⟩
   intro q
   rw[q,hoc]at e
   have q':oc=p.2:=aJ e
   exact d w' (by rw[<- q'];exact hocd)
theorem store_ok {M:Model}{A:Around}{E:Value->Shared->Prop}{i:Nat}{x:Str}{v:V}{u:Value}{Q:Unit->Shared->Prop}(I:Inv X pins σ H s)(hN:X.N.Nodup)(hi:X.N[i]?=some x)(hx:Loc X.env.scope x)(r:RelV v u)
 (h:∀ s',Inv X pins (σ.set i (some v)) H s'->Q () s') (hf:X.fn x=true\/X.env.scope.names.lookup x=some .local:=by first | exact .inl rfl | exact .inr rfl | assumption):wpAny M A (storeName X.env x u) Q E s :=
 store_ok2 I hN hi hx r (fun s' I' _=>h s' I') hf
theorem Inv.call' {s':Shared}{ch:List Addr}(I:Inv X pins σ H s)(ho:s'.os=s.os)(u:Un (frs X.stack) ch H H' s.heap s'.heap)(dX:HOk X.prog X.w H' s'.heap)(hg:AllBare s'.gens)
 (hch:∀ b∈ch,(b∈X.ex\/X.s₀.heap.objs.size<=b)/\b≠X.env.locals/\(∀ x c,X.env.cells.lookup x=some c->c≠b)/\∀ p∈X.pn++pins,p.1≠b):Inv X pins σ H' s':=by
 obtain⟨h',g',d',t',o'⟩:=s'
 have e:o'=s.os:=ho
 subst e
 exact I.call (g':=g') (t':=t') (d':=d') u dX hg hch
end
abbrev XK:=Value->Option Addr->Hp->Prop
abbrev St:=List (Option V)
abbrev VK:=V->Hp->Prop
abbrev TE:=St->Hp->VK->Prop
abbrev TT:=St->Hp->(Bool->Hp->Prop)->Prop
abbrev TA:=St->Hp->(List V->Hp->Prop)->Prop
structure Ends where
 nx:St->Hp->Prop
 rt:VK
 bk:St->Hp->Prop:=fun _ _=>False
 ct:St->Hp->Prop:=fun _ _=>False
abbrev TS:=Ends->St->Hp->Prop
def EP (X:Cx)(pins:List (Addr×Obj))(σ:St)(Q:VK)(u:Value)(s':Shared):Prop:=∃ v H',Inv X pins σ H' s'/\RelV v u/\Q v H'
def TP (X:Cx)(pins:List (Addr×Obj))(σ:St)(Q:Bool->Hp->Prop)(b:Bool)(s':Shared):Prop:=∃ H',Inv X pins σ H' s'/\Q b H'
def AP (X:Cx)(pins:List (Addr×Obj))(σ:St)(Q:List V->Hp->Prop)(us:List Value)(s':Shared):Prop:=∃ vs H',Inv X pins σ H' s'/\Vals vs us/\Q vs H'
def SP (X:Cx)(pins:List (Addr×Obj))(D:Ends)(f:Flow)(s':Shared):Prop :=
 match f with
 | .next=>∃ σ' H',Inv X pins σ' H' s'/\D.nx σ' H'
 | .brk=>∃ σ' H',Inv X pins σ' H' s'/\D.bk σ' H'
 | .cont=>∃ σ' H',Inv X pins σ' H' s'/\D.ct σ' H'
 | .ret u=>∃ v σ' H',Inv X pins σ' H' s'/\RelV v u/\D.rt v H'
def PE (X:Cx)(e:Expr)(t:TE):Prop :=
 ∀(pins:List (Addr×Obj)) (s:Shared) (σ:St) (H:Hp) (Q:VK),Inv X pins σ H s->t σ H Q->wpAny (model X.prog X.w) X.A (eval e X.env) (EP X pins σ Q) X.xe s
def PT (X:Cx)(e:Expr)(t:TT):Prop :=
 ∀(pins:List (Addr×Obj)) (s:Shared) (σ:St) (H:Hp) (Q:Bool->Hp->Prop),Inv X pins σ H s->t σ H Q->wpAny (model X.prog X.w) X.A (isTrue e X.env (eval e X.env)) (TP X pins σ Q) X.xe s
def PW (X:Cx)(e:Expr)(t:TT):Prop :=
 ∀(whole:Sem Value) (pins:List (Addr×Obj)) (s:Shared) (σ:St) (H:Hp) (Q:Bool->Hp->Prop),Inv X pins σ H s->t σ H Q->wpAny (model X.prog X.w) X.A (isTrue e X.env whole) (TP X pins σ Q) X.xe s
theorem PW.pt {X:Cx}{e:Expr}{t:TT}(h:PW X e t):PT X e t:=h _
def PA (X:Cx)(es:List Expr)(t:TA):Prop :=
 ∀(pos:Pos) (pins:List (Addr×Obj)) (s:Shared) (σ:St) (H:Hp) (Q:List V->Hp->Prop),Inv X pins σ H s->t σ H Q->wpAny (model X.prog X.w) X.A (spliced (backTo pos (starEach es X.env))) (AP X pins σ Q) X.xe s
def PS (X:Cx)(st:Stmt)(t:TS):Prop :=
 ∀(pins:List (Addr×Obj)) (s:Shared) (σ:St) (H:Hp) (D:Ends),Inv X pins σ H s->t D σ H->wpAny (model X.prog X.w) X.A (exec st X.env) (SP X pins D) X.xe s
def PSs (X:Cx)(st:List Stmt)(t:TS):Prop :=
 ∀(pins:List (Addr×Obj)) (s:Shared) (σ:St) (H:Hp) (D:Ends),Inv X pins σ H s->t D σ H->wpAny (model X.prog X.w) X.A (execs st X.env) (SP X pins D) X.xe s
theorem fo {α:Type}{t:Sem α}{Q Q':α->Shared->Prop}{M:Model}{A:Around}{E:Value->Shared->Prop}{s:Shared}(h:wpAny M A t Q E s)(hQ:∀ a s,Q a s->Q' a s):wpAny M A t Q' E s:=a6 h hQ fun _ _ x=>x
section
variable {X:Cx}
theorem bin {a b:Expr}{ta tb:TE}(ha:PE X a ta)(hb:PE X b tb){pins:List (Addr×Obj)}{s:Shared}{σ:St}{H:Hp}{R:V->V->Hp->Prop}(I:Inv X pins σ H s)(h:ta σ H fun x H1=>tb σ H1 fun y H2=>R x y H2)
 {α:Type} {Q:α->Shared->Prop} {f:Value->Value->Sem α}
 (hf:∀ v u s2 x y H2,Inv X pins σ H2 s2->RelV x v->RelV y u->R x y H2->wpAny (model X.prog X.w) X.A (f v u) Q X.xe s2) :
 wpAny (model X.prog X.w) X.A (eval a X.env) (fun v s₁=>wpAny (model X.prog X.w) X.A (eval b X.env) (fun u s₂=>wpAny (model X.prog X.w) X.A (f v u) Q X.xe s₂) X.xe s₁) X.xe s:=by
 refine fo (ha pins s σ H _ I h) fun v s1 hq2=>?_
 obtain⟨x,H1,I1,r1,q1⟩:=hq2
 refine fo (hb pins s1 σ H1 _ I1 q1) fun u s2 hq3=>?_
 obtain⟨y,H2,I2,r2,q2⟩:=hq3
 exact hf v u s2 x y H2 I2 r1 r2 q2
def tVar (i:Nat):TE:=fun σ H Q=>∃ v,σ[i]?=some (some v)/\Q v H
def tC (v:V):TE:=fun _ H Q=>Q v H
theorem pe_var {i:Nat}{x:Str}{pos:Pos}(hN:X.N[i]?=some x)(hv:Vis X.env.scope x)(hd:(x==("__debug__" : Str))=false:=by decide)(hcd:(x==("__classdict__" : Str))=false:=by decide):PE X (.Name x pos) (tVar i):=by
 intro pins s σ H Q I h
 obtain⟨v,e,h⟩:=h
 obtain⟨m,hn,hl⟩:=I.loc
 obtain⟨u,r,l⟩:=hl i x v hN e hv
 have fin:EP X pins σ Q u s:=⟨v,H,I,r,h⟩
 rcases l with⟨hk,hm⟩ | ⟨hk,c,hc,hcell⟩
 ·exact wpAny_Name (wpAny_loadName_local I.ok.kind hk hn hm fin) hd
 ·rcases hk with hk | hk
  ·exact wpAny_Name (wpAny_loadName_cell I.ok.kind hk hc hcell fin) hd
  ·exact wpAny_Name (wpAny_loadName_free I.ok.kind hk hc hcell fin hcd) hd
theorem fm {i j pos}:PE X (.Constant (.int i) j pos) (tC (.int i)):=fun _ _ _ H _ I h=>wpAny_Constant_int ⟨.int i,H,I.tok _,⟨_,rfl⟩,h⟩
theorem pe_bl {b j pos}:PE X (.Constant (.bool b) j pos) (tC (.bl b)):=fun _ _ _ H _ I h=>Constant_bool ⟨.bl b,H,I,rfl,h⟩
theorem pe_non {j pos}:PE X (.Constant .none j pos) (tC .fB):=fun _ _ _ H _ I h=>Constant_none ⟨.fB,H,I,rfl,h⟩
theorem pe_str {x j pos}:PE X (.Constant (.str x) j pos) (tC (.str x)):=fun _ _ _ H _ I h=>Calls.Constant_str ⟨.str x,H,I.tok _,⟨_,rfl⟩,h⟩
def Gl (X:Cx)(x:Str):Prop:=X.env.kindOf x=some .globalImplicit
theorem ld_glob {E:Value->Shared->Prop}{pins:List (Addr×Obj)}{s:Shared}{σ:St}{H:Hp}{x:Str}{u:Value}{pos:Pos}{Q:Value->Shared->Prop}(I:Inv X pins σ H s)(hg:Gl X x)(hm:X.mg x=some u)(h:Q u s)
 (hd:(x==("__debug__" : Str))=false:=by decide):wpAny (model X.prog X.w) X.A (eval (.Name x pos) X.env) Q E s :=
 Calls.Name_function_global I.ok.kind hg (Calls.loadGlobal_global (by rw[I.ok.glob];exact I.mod.glob.keeps I.bk) hm h) hd
theorem ld_blt {E:Value->Shared->Prop}{pins:List (Addr×Obj)}{s:Shared}{σ:St}{H:Hp}{x:Str}{u:Value}{pos:Pos}{Q:Value->Shared->Prop}(I:Inv X pins σ H s)(hg:Gl X x)(hm:X.mg x=none)(hv:bootBuiltins x=some u)(h:Q u s)
 (hn:x ≠ "__name__":=by decide) (hd:(x==("__debug__" : Str))=false:=by decide):wpAny (model X.prog X.w) X.A (eval (.Name x pos) X.env) Q E s:=by
 obtain⟨mb,h1,h2⟩:=I.mod.blt
 exact Calls.Name_function_global I.ok.kind hg (Calls.loadGlobal_builtin (by rw[I.ok.glob];exact I.mod.glob.keeps I.bk) hm (by rw[I.ok.blt];exact h1.keeps I.bk) ((h2 x hn).trans hv) h) hd
theorem pe_glob {x:Str}{v:V}{u:Value}{pos:Pos}(hg:Gl X x)(hm:X.mg x=some u)(r:RelV v u)(hd:(x==("__debug__" : Str))=false:=by decide):PE X (.Name x pos) (tC v) :=
 fun _ _ _ H _ I h=>ld_glob I hg hm ⟨v,H,I,r,h⟩ hd
theorem pe_bltn {x:Str}{v:V}{u:Value}{pos:Pos}(hg:Gl X x)(hm:X.mg x=none)(hv:bootBuiltins x=some u)(r:RelV v u)(hn:x ≠ "__name__":=by decide)(hd:(x==("__debug__" : Str))=false:=by decide):PE X (.Name x pos) (tC v) :=
 fun _ _ _ H _ I h=>ld_blt I hg hm hv ⟨v,H,I,r,h⟩ hn hd
variable {a b:Expr}{ta tb:TE}{pos:Pos}
def PC (X:Cx)(op:CmpOp)(a b:Expr)(t:TE):Prop :=
 ∀(pins:List (Addr×Obj)) (s:Shared) (σ:St) (H:Hp) (Q:VK),Inv X pins σ H s->t σ H Q ->
  wpAny (model X.prog X.w) X.A (eval a X.env) (fun v s₁=>wpAny (model X.prog X.w) X.A (eval b X.env) (fun u s₂=>wpAny (model X.prog X.w) X.A (compareOp op v u) (EP X pins σ Q) X.xe s₂) X.xe s₁) X.xe s
theorem nobehind (b:Expr){op:CmpOp}(h:op≠.In)(h2:op≠.NotIn):behindInMarks op b=false:=by
 have e1:(op==CmpOp.In)=false:=by cases op <;> first | rfl | exact absurd rfl h
 have e2:(op==CmpOp.NotIn)=false:=by cases op <;> first | rfl | exact absurd rfl h2
 cases b <;> simp[behindInMarks,e1,e2]
def tIsN (ta:TE):TE:=fun σ H Q=>ta σ H fun x H1=>Q (.bl (decide (x=.fB))) H1
def tNotN (ta:TE):TE:=fun σ H Q=>ta σ H fun x H1=>Q (.bl (!decide (x=.fB))) H1
theorem RelV.none_iff {x:V}{v:Value}(r:RelV x v):(v==Value.none)=decide (x=.fB):=by
 cases x with
 | fB=>cases r;rfl
 | bl _=>cases r;rfl
 | int _=>obtain⟨t,rfl⟩:=r;rfl
 | str _=>obtain⟨t,rfl⟩:=r;rfl
 | byt _=>obtain⟨t,rfl⟩:=r;rfl
 | flt _=>obtain⟨t,rfl⟩:=r;rfl
 | ref _=>cases r;rfl
 | ty _=>cases r;rfl
theorem pc_isN {j pos'}(ha:PE X a ta):PC X .Is a (.Constant .none j pos') (tIsN ta):=by
 intro pins s σ H Q I h
 refine fo (ha pins s σ H _ I h) fun v s1 hq4=>?_
 obtain⟨x,H1,I1,r1,q1⟩:=hq4
 exact Constant_none (is_none_gen ⟨.bl _,H1,I1,by rw[r1.none_iff];rfl,q1⟩)
theorem pc_notN {j pos'}(ha:PE X a ta):PC X .IsNot a (.Constant .none j pos') (tNotN ta):=by
 intro pins s σ H Q I h
 refine fo (ha pins s σ H _ I h) fun v s1 hq5=>?_
 obtain⟨x,H1,I1,r1,q1⟩:=hq5
 exact Constant_none (isnot_none_gen ⟨.bl _,H1,I1,by rw[r1.none_iff];rfl,q1⟩)
def tB (t:TE):TT:=fun σ H Q=>t σ H fun x H1=>∃ c,x=.bl c/\Q c H1
theorem pe_cmp {op:CmpOp}{t:TE}(h:PC X op a b t)(h1:behindInMarks op b=false:=by first | exact nobehind _ (by decide) (by decide) | rfl):PE X (.Compare a [op] [b] pos) t:=fun pins s σ H Q I hw=>wpAny_Compare1 (h pins s σ H Q I hw) h1
theorem pt_cmp {op:CmpOp}{t:TE}(h:PC X op a b t)(h1:behindInMarks op b=false:=by first | exact nobehind _ (by decide) (by decide) | rfl):PT X (.Compare a [op] [b] pos) (tB t):=by
 intro pins s σ H Q I hw
 refine wpAny_isTrue_Compare1 (fo (h pins s σ H _ I hw) fun v s1 h1=>fo h1 fun u s2 h2=>fo h2 fun c s3 hq6=>?_) h1
 obtain⟨x,H1,I1,r1,q1⟩:=hq6
 obtain⟨d,rfl,q⟩:=q1
 cases r1
 exact bG ⟨H1,I1,q⟩
variable {tA tB':TT}{rest:List Expr}
def tAnd (t u:TT):TT:=fun σ H Q=>t σ H fun c H1=>if c=true then u σ H1 Q else Q false H1
def tOr (t u:TT):TT:=fun σ H Q=>t σ H fun c H1=>if c=true then Q true H1 else u σ H1 Q
def tNot (t:TT):TT:=fun σ H Q=>t σ H fun c H1=>Q (!c) H1
theorem pw_and1 (ha:PT X a tA):PW X (.BoolOp .And [a] pos) tA:=by
 intro wh pins s σ H Q I h
 refine isTrue_and (fo (ha pins s σ H Q I h) fun c s1 e=>?_)
 cases c with
 | true=>exact isTrue_and_nil e
 | false=>exact e
theorem pw_or1 (ha:PT X a tA):PW X (.BoolOp .Or [a] pos) tA:=by
 intro wh pins s σ H Q I h
 refine isTrue_or (fo (ha pins s σ H Q I h) fun c s1 e=>?_)
 cases c with
 | false=>exact isTrue_or_nil e
 | true=>exact e
theorem pw_and (ha:PT X a tA)(hb:PW X (.BoolOp .And (b::rest) pos) tB'):PW X (.BoolOp .And (a::b::rest) pos) (tAnd tA tB'):=by
 intro wh pins s σ H Q I h
 refine isTrue_and (fo (ha pins s σ H _ I h) fun c s1 hq0=>?_)
 obtain⟨H1,I1,q1⟩:=hq0
 cases c with
 | true=>exact hb wh pins s1 σ H1 Q I1 q1
 | false=>exact⟨H1,I1,q1⟩
theorem pw_or (ha:PT X a tA)(hb:PW X (.BoolOp .Or (b::rest) pos) tB'):PW X (.BoolOp .Or (a::b::rest) pos) (tOr tA tB'):=by
 intro wh pins s σ H Q I h
 refine isTrue_or (fo (ha pins s σ H _ I h) fun c s1 hq1=>?_)
 obtain⟨H1,I1,q1⟩:=hq1
 cases c with
 | true=>exact⟨H1,I1,q1⟩
 | false=>exact hb wh pins s1 σ H1 Q I1 q1
theorem pt_not (ha:PT X a tA):PT X (.UnaryOp .Not a pos) (tNot tA):=by
 intro pins s σ H Q I h
 exact isTrue_not (ha pins s σ H (fun c H1=>Q (!c) H1) I h)
theorem pe_one {op}{t:TE}(h:PE X a t):PE X (.BoolOp op [a] pos) t:=fun pins s σ H Q I hw=>BoolOp_one (h pins s σ H Q I hw)
def tIf (t:TT)(ta tb:TE):TE:=fun σ H Q=>t σ H fun c H1=>if c=true then ta σ H1 Q else tb σ H1 Q
theorem pe_ifExp {c:Expr}(hc:PT X c tA)(ha:PE X a ta)(hb:PE X b tb):PE X (.IfExp c a b pos) (tIf tA ta tb):=by
 intro pins s σ H Q I h
 refine wpAny_IfExp (fo (hc pins s σ H _ I h) fun d s1 hq2=>?_)
 obtain⟨H1,I1,q1⟩:=hq2
 cases d with
 | true=>exact ha pins s1 σ H1 Q I1 q1
 | false=>exact hb pins s1 σ H1 Q I1 q1
end
def SqL (K:PySem.W.Frag)(H:Hp)(a:Addr)(xs:List V):Prop :=
 Rd H a (.lst xs) \/
  ∃(o:Obj) (d7:Array Value) (n:Nat),K.lookup a=some o/\o.cls=.type "list"/\o.dict=none/\o.data=.seq d7 n/\d7.size<=sizeLine/\Vals xs d7.toList
def SqT (K:PySem.W.Frag)(H:Hp)(a:Addr)(xs:List V):Prop :=
 Rd H a (.tup xs) \/
  ∃(o:Obj) (d7:Array Value) (n:Nat),K.lookup a=some o/\o.cls=.type "tuple"/\o.data=.seq d7 n/\d7.size<=sizeLine/\Vals xs d7.toList
def absV:Value->Option V
 | .none=>some .fB
 | .bool b=>some (.bl b)
 | .int i _=>some (.int i)
 | .str x _=>some (.str x)
 | .bytes b _=>some (.byt b)
 | .float b _=>some (.flt b)
 | .ref a=>some (.ref a)
 | .type n=>some (.ty n)
 | _=>none
theorem RelV.abs {x:V}{u:Value}(r:RelV x u):absV u=some x:=by
 cases x with
 | fB=>cases r;rfl
 | bl _=>cases r;rfl
 | int _=>obtain⟨t,rfl⟩:=r;rfl
 | str _=>obtain⟨t,rfl⟩:=r;rfl
 | byt _=>obtain⟨t,rfl⟩:=r;rfl
 | flt _=>obtain⟨t,rfl⟩:=r;rfl
 | ref _=>cases r;rfl
 | ty _=>cases r;rfl
theorem RelV.inj {x y:V}{u:Value}(r:RelV x u)(q:RelV y u):x=y:=aJ (r.abs.symm.trans q.abs)
theorem Vals.inj {xs ys:List V}{us:List Value}(h:Vals xs us)(g:Vals ys us):xs=ys:=by
 induction h generalizing ys with
 | nil=>cases g;rfl
 | cons r t ih =>
  cases g with
  | cons r' t'=>rw[r.inj r',ih t']
section
variable {X:Cx}{pins:List (Addr×Obj)}{σ:St}{H:Hp}{s:Shared}{a:Addr}{xs ys:List V}
theorem SqL.of {K:PySem.W.Frag}(h:H a=some (.lst xs)):SqL K H a xs:=.inl (.inl h)
theorem SqT.of {K:PySem.W.Frag}(h:H a=some (.tup xs)):SqT K H a xs:=.inl (.inl h)
theorem Inv.list (I:Inv X pins σ H s)(h:SqL X.K H a xs):∃ d7:List Value,Vals xs d7/\PlainL s.heap a d7.toArray/\xs.length<=sizeLine:=by
 rcases h with h | ⟨o,d7,n,hk,hc,hd,hs,hz,r⟩
 ·obtain⟨z,d7,n,r,e⟩:=h.ok I.dX
  exact⟨d7,r,⟨_,n,e,rfl,rfl,rfl⟩,z⟩
 ·refine⟨d7.toList,r,⟨o,n,I.kIn a o hk,hc,hd,by simpa using hs⟩,?_⟩
  have e:=r.length
  simp only[bS]at e
  omega
theorem Inv.tuple (I:Inv X pins σ H s)(h:SqT X.K H a xs):∃ d7:List Value,Vals xs d7/\IsTup s.heap a d7.toArray/\xs.length<=sizeLine:=by
 rcases h with h | ⟨o,d7,n,hk,hc,hs,hz,r⟩
 ·obtain⟨z,d7,r,p⟩:=h.ok I.dX
  exact⟨d7,r,p,z⟩
 ·refine⟨d7.toList,r,⟨o,I.kIn a o hk,hc,n,by simpa using hs⟩,?_⟩
  have e:=r.length
  simp only[bS]at e
  omega
theorem Inv.list_inj (I:Inv X pins σ H s)(h:SqL X.K H a xs)(h':SqL X.K H a ys):xs=ys:=by
 obtain⟨d7,r,⟨o,n,e,_,_,d⟩,_⟩:=I.list h
 obtain⟨its',r',⟨o',n',e',_,_,d'⟩,_⟩:=I.list h'
 rw[e]at e';cases e'
 rw[d]at d'
 injection d' with d1 _
 have:d7=its':=by simpa using bD Array.toList d1
 subst this
 exact r.inj r'
end
abbrev Cx.wish (X:Cx)(E:Value->Shared->Prop):Cx:={ X with xe:=E}
abbrev Cx.nox (X:Cx):Cx:=X.wish fun _ _=>False
theorem Cx.Ok.wish {X:Cx}(ok:X.Ok)(E:Value->Shared->Prop):(X.wish E).Ok :=
 ⟨ok.mod,ok.kind,ok.glob,ok.blt,ok.above,ok.inj,ok.has,ok.cab,ok.hd,ok.frames,ok.stk,ok.exf,ok.bs,ok.bsz,ok.noex,ok.exfs,ok.funs,ok.frf⟩
theorem Cx.Ok.unwish {X:Cx}{E:Value->Shared->Prop}(ok:(X.wish E).Ok):X.Ok :=
 ⟨ok.mod,ok.kind,ok.glob,ok.blt,ok.above,ok.inj,ok.has,ok.cab,ok.hd,ok.frames,ok.stk,ok.exf,ok.bs,ok.bsz,ok.noex,ok.exfs,ok.funs,ok.frf⟩
section
variable {X:Cx}{pins:List (Addr×Obj)}{σ:St}{H:Hp}{s:Shared}{E:Value->Shared->Prop}
theorem Inv.wish (I:Inv X pins σ H s)(E:Value->Shared->Prop):Inv (X.wish E) pins σ H s:=⟨I.ok.wish E,I.os,I.bare,I.base,I.loc,I.cell,I.free,I.freeC,I.pin,I.dX,I.len⟩
theorem Inv.unwish (I:Inv (X.wish E) pins σ H s):Inv X pins σ H s:=⟨I.ok.unwish,I.os,I.bare,I.base,I.loc,I.cell,I.free,I.freeC,I.pin,I.dX,I.len⟩
theorem SP.unwish {D:Ends}{f:Flow}{s':Shared}(h:SP (X.wish E) pins D f s'):SP X pins D f s':=by
 cases f with
 | next=>obtain⟨σ',H',I,q⟩:=h;exact⟨σ',H',I.unwish,q⟩
 | brk=>obtain⟨σ',H',I,q⟩:=h;exact⟨σ',H',I.unwish,q⟩
 | cont=>obtain⟨σ',H',I,q⟩:=h;exact⟨σ',H',I.unwish,q⟩
 | ret u=>obtain⟨v,σ',H',I,r,q⟩:=h;exact⟨v,σ',H',I.unwish,r,q⟩
theorem PSs.nox {st:List Stmt}{t:TS}(h:PSs X.nox st t):PSs X st t:=fun pins s σ H D I hw =>
 a6 (h pins s σ H D (I.wish _) hw) (fun _ _ q=>q.unwish) fun _ _ z=>False.elim z
end
section
variable {X:Cx}{st:Stmt}{rest:List Stmt}{t u:TS}{e:Expr}{te:TE}{pos:Pos}
def tNext:TS:=fun D σ H=>D.nx σ H
def tSeq (t u:TS):TS:=fun D σ H=>t { D with nx:=u D} σ H
theorem pss_nil:PSs X [] tNext:=fun _ _ σ H _ I h=>cK ⟨σ,H,I,h⟩
theorem pss_cons (h1:PS X st t)(h2:PSs X rest u):PSs X (st::rest) (tSeq t u):=by
 intro pins s σ H D I h
 refine wpAny_execs_cons (fo (h1 pins s σ H { D with nx:=u D} I h) fun f s1 q=>?_)
 cases f with
 | next =>
  obtain⟨σ',H',I',q⟩:=q
  exact h2 pins s1 σ' H' D I' q
 | ret v=>exact q
 | brk=>exact q
 | cont=>exact q
theorem pss_one (h1:PS X st t):PSs X [st] t:=by
 intro pins s σ H D I h
 refine wpAny_execs_cons (fo (h1 pins s σ H D I h) fun f s1 q=>?_)
 cases f with
 | next=>exact cK q
 | ret v=>exact q
 | brk=>exact q
 | cont=>exact q
theorem Inv.quiet {pins:List (Addr×Obj)}{σ:St}{H:Hp}{s:Shared}(I:Inv X pins σ H s):interactive X.env=false:=by simp[interactive,I.ok.kind]
def tDrop (te:TE):TS:=fun D σ H=>te σ H fun _ H1=>D.nx σ H1
theorem ps_expr (he:PE X e te)(hs:swapsWith e none pos.line X.env=pure false:=by rfl):PS X (.Expr e pos) (tDrop te):=by
 intro pins s σ H D I h
 exact wpAny_Expr_any (fo (he pins s σ H _ I h) fun v s1 hq3=>by obtain⟨x,H1,I1,r1,q1⟩:=hq3;exact⟨σ,H1,I1,q1⟩) I.quiet hs
def tRet (te:TE):TS:=fun D σ H=>te σ H D.rt
theorem ps_ret (he:PE X e te):PS X (.Return (some e) pos) (tRet te):=by
 intro pins s σ H D I h
 exact wpAny_Return_some (fo (he pins s σ H _ I h) fun v s1 hq4=>by obtain⟨x,H1,I1,r1,q1⟩:=hq4;exact⟨x,σ,H1,I1,r1,q1⟩)
def tIfS (c:TT)(t u:TS):TS:=fun D σ H=>c σ H fun b H1=>if b=true then t D σ H1 else u D σ H1
theorem ps_if {c:Expr}{a b:List Stmt}{tc:TT}(hc:PT X c tc)(ha:PSs X a t)(hb:PSs X b u):PS X (.If c a b pos) (tIfS tc t u):=by
 intro pins s σ H D I h
 refine wpAny_If (fo (hc pins s σ H _ I h) fun d s1 hq5=>?_)
 obtain⟨H1,I1,q1⟩:=hq5
 cases d with
 | true=>exact ha pins s1 σ H1 D I1 q1
 | false=>exact hb pins s1 σ H1 D I1 q1
end
abbrev TG:=V->St->Hp->(St->Hp->Prop)->Prop
abbrev TGs:=List V->St->Hp->(St->Hp->Prop)->Prop
def PG (X:Cx)(target:Expr)(t:TG):Prop :=
 ∀(pins:List (Addr×Obj)) (s:Shared) (σ:St) (H:Hp) (v:V) (u:Value) (Q:St->Hp->Prop),Inv X pins σ H s->RelV v u->t v σ H Q ->
  wpAny (model X.prog X.w) X.A (assign target X.env u) (fun _ s'=>∃ σ' H',Inv X pins σ' H' s'/\Q σ' H') X.xe s
def PGs (X:Cx)(ts:List Expr)(t:TGs):Prop :=
 ∀(pins:List (Addr×Obj)) (s:Shared) (σ:St) (H:Hp) (vs:List V) (us:List Value) (Q:St->Hp->Prop),Inv X pins σ H s->Vals vs us->t vs σ H Q ->
  wpAny (model X.prog X.w) X.A (assignInOrder ((assignEach ts X.env).map (·.2)) us) (fun _ s'=>∃ σ' H',Inv X pins σ' H' s'/\Q σ' H') X.xe s
abbrev TSet:=V->V->V->Hp->(Hp->Prop)->Prop
def PSet (X:Cx)(t:TSet):Prop :=
 ∀(pins:List (Addr×Obj)) (s:Shared) (σ:St) (H:Hp) (o i v:V) (ov iv u:Value) (Q:Hp->Prop),Inv X pins σ H s->RelV o ov->RelV i iv->RelV v u->t o i v H Q ->
  wpAny (model X.prog X.w) X.A (setItem ov iv u) (fun _ s'=>∃ H',Inv X pins σ H' s'/\Q H') X.xe s
abbrev TIp:=V->V->Hp->VK->Prop
def PIp (X:Cx)(op:Operator)(t:TIp):Prop :=
 ∀(pins:List (Addr×Obj)) (s:Shared) (σ:St) (H:Hp) (x y:V) (v u:Value) (Q:VK),Inv X pins σ H s->RelV x v->RelV y u->t x y H Q ->
  wpAny (model X.prog X.w) X.A (inplaceOp op v u) (EP X pins σ Q) X.xe s
section
variable {X:Cx}{pos:Pos}
def gName (i:Nat):TG:=fun v σ H Q=>Q (σ.set i (some v)) H
theorem pg_name {i:Nat}{x:Str}(hN:X.N.Nodup)(hi:X.N[i]?=some x)(hx:Loc X.env.scope x)(hf:X.fn x=true\/X.env.scope.names.lookup x=some .local:=by first | exact .inl rfl | exact .inr rfl | assumption):PG X (.Name x pos) (gName i):=by
 intro pins s σ H v u Q I r h
 exact wpAny_assign_Name (store_ok I hN hi hx r (fun s' I'=>⟨_,H,I',h⟩) hf)
def gNil:TGs:=fun vs σ H Q=>vs=[]/\Q σ H
def gCons (t:TG)(u:TGs):TGs:=fun vs σ H Q=>∃ v r,vs=v::r/\t v σ H fun σ' H'=>u r σ' H' Q
theorem pgs_nil:PGs X [] gNil:=by
 intro pins s σ H vs us Q I r h
 obtain⟨e,h⟩:=h
 subst e
 cases r
 exact assignInOrder_nil ⟨σ,H,I,h⟩
theorem pgs_cons {e:Expr}{es:List Expr}{t:TG}{u:TGs}(h1:PG X e t)(h2:PGs X es u)
 (hs:(assignEach (e::es) X.env).map (·.2)=assign e X.env::(assignEach es X.env).map (·.2):=by rfl):PGs X (e::es) (gCons t u):=by
 intro pins s σ H vs us Q I r h
 obtain⟨v,vr,e1,h⟩:=h
 subst e1
 cases r with
 | cons r rr =>
  rw[hs]
  refine cV (fo (h1 pins s σ H _ _ _ I r h) fun _ s1 hq6=>?_)
  obtain⟨σ1,H1,I1,q1⟩:=hq6
  exact h2 pins s1 σ1 H1 _ _ Q I1 rr q1
def gTup (K:PySem.W.Frag)(n:Nat)(t:TGs):TG:=fun v σ H Q=>∃ a xs,v=.ref a/\SqT K H a xs/\xs.length=n/\t xs σ H Q
theorem pg_tup {es:List Expr}{k:Nat}{t:TGs}{n:Nat}(hc:X.calm=true)(h:PGs X es t)
 (hn:(assignEach es X.env).length=n:=by rfl) (hst:(assignEach es X.env).findIdx? (·.1)=none:=by rfl):PG X (.Tuple es k pos) (gTup X.K n t):=by
 intro pins s σ H v u Q I r hw
 obtain⟨a,xs,e1,hq,hl,hw⟩:=hw
 subst e1
 cases r
 obtain⟨d7,rv,ht,hz⟩:=I.tuple hq
 refine assign_Tuple_tuple (I.ok.hd hc) ht (by simp[hn,<- hl,rv.length]) hst fun h' hx=>?_
 have I1:Inv X pins σ H { s with heap:=h'}:=I.kept (t':=s.toks) fun b o e=>hx b o (aC (gxN e)) e
 exact h pins _ σ H xs _ Q I1 (by simpa using rv) hw
def gSub (to ti:TE)(t:TSet):TG:=fun v σ H Q=>to σ H fun o H1=>ti σ H1 fun i H2=>t o i v H2 fun H3=>Q σ H3
theorem pg_sub {o i:Expr}{to ti:TE}{t:TSet}(ho:PE X o to)(hi:PE X i ti)(hs:PSet X t)
 (ha:∀ v,assign (.Subscript o i pos) X.env v=(do
   let ov <- holding [v] (eval o X.env)
   let iv <- holding [v,ov] (eval i X.env)
   standAt pos
   holding [v,ov,iv] (setItem ov iv v)
   release [v,ov,iv] []):=by intro _;rfl):PG X (.Subscript o i pos) (gSub to ti t):=by
 intro pins s σ H v u Q I r h
 rw[ha]
 refine dY (bE (fo (ho pins s σ H _ I h) fun ov s1 hq0=>?_))
 obtain⟨x,H1,I1,r1,q1⟩:=hq0
 refine dY (bE (fo (hi pins s1 σ H1 _ I1 q1) fun iv s2 hq1=>?_))
 obtain⟨y,H2,I2,r2,q2⟩:=hq1
 refine dY (cG (dY (bE (fo (hs pins s2 σ H2 x y v ov iv u _ I2 r1 r2 r q2) fun _ s3 hq2=>?_))))
 obtain⟨H3,I3,q3⟩:=hq2
 exact wpAny_release ⟨σ,H3,I3,q3⟩
def tAsg (te:TE)(g:TG):TS:=fun D σ H=>te σ H fun x H1=>g x σ H1 D.nx
theorem ps_asg {tg e:Expr}{te:TE}{g:TG}(he:PE X e te)(hg:PG X tg g)(hs:swapsWithSole [tg] e pos.line X.env=pure false:=by rfl)(hw:swappedStores [tg] e X.env=pure none:=by rfl)
 (h1:(assignEach [tg] X.env).map (·.2)=[assign tg X.env]:=by rfl):PS X (.Assign [tg] e pos) (tAsg te g):=by
 intro pins s σ H D I h
 refine wpAny_Assign_stores (fo (he pins s σ H _ I h) fun v s1 hq3=>?_) hs hw
 obtain⟨x,H1,I1,r1,q1⟩:=hq3
 rw[h1]
 exact fo (hg pins s1 σ H1 x v _ I1 r1 q1) fun _ s2 q=>q
theorem ps_set {i:Nat}{x:Str}{e:Expr}{te:TE}{pos':Pos}(hN:X.N.Nodup)(hi:X.N[i]?=some x)(hx:Loc X.env.scope x)(he:PE X e te)(hs:swapsWith e (some (.Name x pos')) pos.line X.env=pure false:=by rfl)(hf:X.fn x=true\/X.env.scope.names.lookup x=some .local:=by first | exact .inl rfl | exact .inr rfl | assumption) :
 PS X (.Assign [.Name x pos'] e pos) (tAsg te (gName i)):=by
 intro pins s σ H D I h
 refine wpAny_Assign_Name (fo (he pins s σ H _ I h) fun v s1 hq4=>?_) hs
 obtain⟨y,H1,I1,r1,q1⟩:=hq4
 exact store_ok I1 hN hi hx r1 (fun s2 I2=>⟨_,H1,I2,q1⟩) hf
def tAug (i:Nat)(te:TE)(ti:TIp):TS:=fun D σ H=>∃ x,σ[i]?=some (some x)/\te σ H fun y H1=>ti x y H1 fun z H2=>D.nx (σ.set i (some z)) H2
theorem ps_aug {i:Nat}{x:Str}{e:Expr}{te:TE}{op:Operator}{ti:TIp}{pos':Pos}(hN:X.N.Nodup)(hi:X.N[i]?=some x)(hx:Loc X.env.scope x)(he:PE X e te)(ho:PIp X op ti)(hf:X.fn x=true\/X.env.scope.names.lookup x=some .local:=by first | exact .inl rfl | exact .inr rfl | assumption) :
 PS X (.AugAssign (.Name x pos') op e pos) (tAug i te ti):=by
 intro pins s σ H D I h
 obtain⟨v,e1,h⟩:=h
 obtain⟨m,hn,hl⟩:=I.loc
 have vis:Vis X.env.scope x:=by rcases hx with k | k;exact .inl k;exact .inr (.inl k)
 obtain⟨u,r,l⟩:=hl i x v hi e1 vis
 refine wpAny_AugAssign_Name ?_
 have go:wpAny (model X.prog X.w) X.A (eval e X.env) (fun w s₂=>wpAny (model X.prog X.w) X.A (inplaceOp op u w) (fun r s₃=>wpAny (model X.prog X.w) X.A (storeName X.env x r) (fun _=>SP X pins D .next) X.xe s₃) X.xe s₂) X.xe s:=by
  refine fo (he pins s σ H _ I h) fun w s1 hq5=>?_
  obtain⟨y,H1,I1,r1,q1⟩:=hq5
  refine fo (ho pins s1 σ H1 v y u w _ I1 r r1 q1) fun z s2 hq6=>?_
  obtain⟨zv,H2,I2,r2,q2⟩:=hq6
  exact store_ok I2 hN hi hx r2 (fun s3 I3=>⟨_,H2,I3,q2⟩) hf
 rcases l with⟨hk,hm⟩ | ⟨hk,c,hc,hcell⟩
 ·exact wpAny_loadName_local I.ok.kind hk hn hm go
 ·rcases hk with hk | hk
  ·exact wpAny_loadName_cell I.ok.kind hk hc hcell go
  ·rcases hx with k | k
   ·have:X.env.scope.names.lookup x=some .free:=hk
    rw[k]at this;cases this
   ·have:X.env.scope.names.lookup x=some .free:=hk
    rw[k]at this;cases this
def tAugS (to ti te:TE)(tget:V->V->Hp->VK->Prop)(tip:TIp)(tset:TSet):TS:=fun D σ H=>to σ H fun o H1=>ti σ H1 fun i H2=>tget o i H2 fun x H3=>te σ H3 fun y H4=>tip x y H4 fun z H5=>tset o i z H5 fun H6=>D.nx σ H6
def PGet (X:Cx)(t:V->V->Hp->VK->Prop):Prop :=
 ∀(pins:List (Addr×Obj)) (s:Shared) (σ:St) (H:Hp) (o i:V) (ov iv:Value) (Q:VK),Inv X pins σ H s->RelV o ov->RelV i iv->t o i H Q ->
  wpAny (model X.prog X.w) X.A (getItem ov iv) (EP X pins σ Q) X.xe s
theorem ps_augS {o i e:Expr}{to ti te:TE}{tget:V->V->Hp->VK->Prop}{tip:TIp}{tset:TSet}{op:Operator}{tpos:Pos}(ho:PE X o to)(hi:PE X i ti)(hg:PGet X tget)(he:PE X e te)(hp:PIp X op tip)(hs:PSet X tset)
 (ha:∀ ov iv new,augStore i ov iv new=(do holding [new,ov,iv] (setItem ov iv new);release [new,ov,iv] [];pure .next):=by intros;rfl):PS X (.AugAssign (.Subscript o i tpos) op e pos) (tAugS to ti te tget tip tset):=by
 intro pins s σ H D I h
 refine wpAny_AugAssign_SubscriptAny (fo (ho pins s σ H _ I h) fun ov s1 hq0=>?_) ha
 obtain⟨x1,H1,I1,r1,q1⟩:=hq0
 refine fo (hi pins s1 σ H1 _ I1 q1) fun iv s2 hq1=>?_
 obtain⟨x2,H2,I2,r2,q2⟩:=hq1
 refine fo (hg pins s2 σ H2 x1 x2 ov iv _ I2 r1 r2 q2) fun old s3 hq2=>?_
 obtain⟨x3,H3,I3,r3,q3⟩:=hq2
 refine fo (he pins s3 σ H3 _ I3 q3) fun v s4 hq3=>?_
 obtain⟨x4,H4,I4,r4,q4⟩:=hq3
 refine fo (hp pins s4 σ H4 x3 x4 old v _ I4 r3 r4 q4) fun new s5 hq4=>?_
 obtain⟨x5,H5,I5,r5,q5⟩:=hq4
 exact fo (hs pins s5 σ H5 x1 x2 x5 ov iv new _ I5 r1 r2 r5 q5) fun _ s6 hq5=>by obtain⟨H6,I6,q6⟩:=hq5;exact⟨σ,H6,I6,q6⟩
def ipI (f:Int->Int->Int):TIp:=fun x y H Q=>∃ i j,x=.int i/\y=.int j/\Q (.int (f i j)) H
theorem ip_add:PIp X .Add (ipI fun i j=>i+j):=by
 intro pins s σ H x y v u Q I r1 r2 h
 obtain⟨i,j,e1,e2,q⟩:=h
 subst e1;subst e2
 obtain⟨t,rfl⟩:=r1
 obtain⟨t',rfl⟩:=r2
 exact iadd_int ⟨.int _,H,I.tok _,⟨_,rfl⟩,q⟩
end
section
variable {X:Cx}{pos:Pos}
def tWhile (c:TT)(tb:TS):TS:=fun D σ H=>∃ W:Nat->St->Hp->Prop,(∃ m,W m σ H)/\∀ m σ H,W m σ H ->
 c σ H fun b H1=>if b=true then ∃ N:St->Hp->Prop,(∀ σ' H',N σ' H'->∃ m',m'<m/\W m' σ' H')/\tb { D with nx:=N,ct:=N,bk:=D.nx} σ H1 else D.nx σ H1
theorem ps_while {c:Expr}{body:List Stmt}{tc:TT}{tb:TS}(hp:PassesOwn (model X.prog X.w) X.A X.env X.xe)(hc:PT X c tc)(hb:PSs X body tb):PS X (.While c body [] pos) (tWhile tc tb):=by
 intro pins s σ H D I h
 obtain⟨W,⟨m0,w0⟩,turn⟩:=h
 refine wpAny_While (codeAny_whileLoop (fun n s'=>∃ σ' H',Inv X pins σ' H' s'/\W n σ' H') ?_ m0 ⟨σ,H,I,w0⟩)
 rintro n s1 ⟨σ1,H1,I1,w1⟩
 refine bZ hp (fo (hc pins s1 σ1 H1 _ I1 (turn n σ1 H1 w1)) fun b s2 hq6=>?_)
 obtain⟨H2,I2,q2⟩:=hq6
 cases b with
 | true =>
  obtain⟨N,hN,q2⟩:=q2
  rw[ag rfl]
  refine bZ hp (fo (hb pins s2 σ1 H2 _ I2 q2) fun f s3 q3=>?_)
  cases f with
  | next =>
   obtain⟨σ3,H3,I3,n3⟩:=q3
   obtain⟨m',hm,w3⟩:=hN σ3 H3 n3
   exact⟨m',hm,σ3,H3,I3,w3⟩
  | cont =>
   obtain⟨σ3,H3,I3,n3⟩:=q3
   obtain⟨m',hm,w3⟩:=hN σ3 H3 n3
   exact⟨m',hm,σ3,H3,I3,w3⟩
  | brk=>exact q3
  | ret v=>exact q3
 | false =>
  rw[ae aA]
  exact cK ⟨σ1,H2,I2,q2⟩
end
structure It where
 go:Nat->Hp->Prop
 yld:Nat->Hp->V->Hp->Prop
 stop:Nat->Hp->Prop
def FpOk (X:Cx)(pins:List (Addr×Obj))(H:Hp)(b:Addr):Prop :=
 H b=none/\b≠X.env.locals/\b∉X.fs/\(b∈X.ex\/X.s₀.heap.objs.size<=b)/\(∀ x c,X.env.cells.lookup x=some c->c≠b)/\∀ p∈X.pn++pins,p.1≠b
theorem Inv.fpOk {X:Cx}{pins:List (Addr×Obj)}{σ:St}{H H':Hp}{s:Shared}{b:Addr}(I:Inv X pins σ H s)(hb:s.heap.objs.size<=b)(hn:H' b=none):FpOk X pins H' b:=by
 refine⟨hn,a9 (aq I.lt hb),I.nofs hb,.inr (aw I.sz hb),fun x c e z=>?_,fun p hp z=>?_⟩
 ·obtain⟨v,q⟩:=I.cell x c e
  exact absurd (aq q.lt (by rw[z];exact hb)) (bo _)
 ·exact absurd (aq (gxN (I.pin p hp).1) (by rw[z];exact hb)) (bo _)
structure Turn (P:Program)(w:World)(K:PySem.W.Frag)(tg:Expr)(J:It)(fp:List Addr)(it:Addr)(tn:Nat->Heap->Prop)(CM:Cx->Prop:=fun X=>X.calm=true):Prop where
 mem:it∈fp
 obj:∀ i h,tn i h->∀ b∈fp,∃ o,h.get? b=some o/\∀ v,o.data≠.cell v
 keep:∀ i h h',tn i h->(∀ b∈fp,∀ o,h.get? b=some o->h'.get? b=some o)->tn i h'
 item:∀(X:Cx),X.prog=P->X.w=w->X.K=K->CM X->∀(i:Nat) (pins:List (Addr×Obj)) (s:Shared) (σ:St) (H:Hp) (E:Value->Shared->Prop),Inv X pins σ H s->(∀ b∈fp,FpOk X pins H b)->tn i s.heap->J.go i H ->
  wpAny (model P w) X.A (pyNext (.ref it)) (fun r s1=>∃ u,r=some u /\
   wpAny (model P w) X.A (letOwnedTupleGo tg (.ref it) u) (fun _ s2=>∃ x H',Inv X pins σ H' s2/\RelV x u/\J.yld i H x H'/\tn (i+1) s2.heap/\∀ b∈fp,H' b=none) E s1) E s
 done:∀(X:Cx),X.prog=P->X.w=w->X.K=K->CM X->∀(i:Nat) (pins:List (Addr×Obj)) (s:Shared) (σ:St) (H:Hp) (E:Value->Shared->Prop),Inv X pins σ H s->(∀ b∈fp,FpOk X pins H b)->tn i s.heap->J.stop i H ->
  wpAny (model P w) X.A (pyNext (.ref it)) (fun r s1=>r=none/\Inv X pins σ H s1) E s
 self:∀(A:Around) (i:Nat) (s:Shared) (Q:Value->Shared->Prop) (E:Value->Shared->Prop),tn i s.heap->Q (.ref it) s->wpAny (model P w) A (pyIter (.ref it)) Q E s
abbrev TI:=St->Hp->(It->Hp->Prop)->Prop
def PIE (X:Cx)(pins:List (Addr×Obj))(σ:St)(tg:Expr)(R:It->Hp->Prop)(itv:Value)(s2:Shared):Prop :=
 ∃(it:Addr) (fp:List Addr) (tn:Nat->Heap->Prop) (J:It) (H':Hp),itv=.ref it/\Inv X pins σ H' s2/\Turn X.prog X.w X.K tg J fp it tn/\tn 0 s2.heap/\(∀ b∈fp,FpOk X pins H' b)/\R J H'
def PI (X:Cx)(tg iter:Expr)(wi:TI):Prop :=
 ∀(pins:List (Addr×Obj)) (s:Shared) (σ:St) (H:Hp) (R:It->Hp->Prop),Inv X pins σ H s->wi σ H R ->
  wpAny (model X.prog X.w) X.A (eval iter X.env) (fun v s1=>wpAny (model X.prog X.w) X.A (pyIter v) (PIE X pins σ tg R) X.xe s1) X.xe s
theorem go_of {M:Model}{A:Around}{E:Value->Shared->Prop}{s:Shared}{tg:Expr}{it:Addr}{u:Value}{o:Obj}{n:String}{vs:Array Value}{Q:Unit->Shared->Prop}(ho:s.heap.get? it=some o)(hc:o.cls=.type n)(hd:o.data=.fields vs)
 (hn:["enumerate", "zip", "dict_itemiterator", "dict_reverseitemiterator", "odict_iterator", "itertools.zip_longest", "itertools.pairwise"].contains n=false) (hQ:Q () s):wpAny M A (letOwnedTupleGo tg (.ref it) u) Q E s:=by
 unfold letOwnedTupleGo
 cases tg <;> first
  | exact ah hQ
  | (cases u <;> first
      | exact ah hQ
      | (refine dY (wpAny_load ho ?_)
         rw[hc,hd]
         show wpAny M A (if(["enumerate", "zip", "dict_itemiterator", "dict_reverseitemiterator", "odict_iterator", "itertools.zip_longest", "itertools.pairwise"].contains n&&vs[0]?==some (rawInt _))=true then _ else _) Q E s
         rw[ae (by intro h;rw[hn,Bool.false_and]at h;cases h)]
         exact ah hQ))
def Itl (K:PySem.W.Frag)(a:Addr):It :=
 ⟨fun i H=>∃ xs x,SqL K H a xs/\xs[i]?=some x,fun i H x H'=>H'=H/\∀ xs,SqL K H a xs->xs[i]?=some x,fun i H=>∃ xs,SqL K H a xs/\xs.length<=i⟩
def Itr (lo:Int)(n:Nat):It:=⟨fun i _=>i<n,fun i H x H'=>H'=H/\x=.int (lo+i),fun i _=>n<=i⟩
theorem turn_list {P:Program}{w:World}{K:PySem.W.Frag}{tg:Expr}(a it:Addr):Turn P w K tg (Itl K a) [it] it (fun i h=>h.IsListIter it a i) where
 mem:=by simp
 obj:=fun i h st b hb=>by
  have e:b=it:=by simpa using hb
  subst e
  obtain⟨o,e,c,d⟩:=st
  exact⟨o,e,fun v z=>by rw[d]at z;cases z⟩
 keep:=fun i h h' st k=>st.at fun o e=>k it (by simp) o e
 item:=by
  intro X hP hw hK hc i pins s σ H E I hf st hg
  subst hP hw hK
  obtain⟨xs,x,hq,hx⟩:=hg
  obtain⟨d7,rv,p,hz⟩:=I.list hq
  obtain⟨u,hu,ru⟩:=rv.get hx
  obtain⟨f0,f1,f2,f3,f4,f5⟩:=hf it (by simp)
  refine wpAny_pyNext_list_item st p.isList (x:=u) (by simpa using hu) fun h' st' sb=>?_
  have I1:Inv X pins σ H { s with heap:=h'}:=I.turned (t':=s.toks) (fun b o hb e=>(sb.2 b hb).trans e) f0 f1 f3 f4 f5
  obtain⟨o,e,c,d⟩:=id st'
  exact⟨u,rfl,go_of (s:={ s with heap:=h'}) e c d (by decide) ⟨x,H,I1,ru,⟨rfl,fun ys hy=>by rw[I.list_inj hy hq];exact hx⟩,st',fun b hb=>(hf b hb).1⟩⟩
 done:=by
  intro X hP hw hK hc i pins s σ H E I hf st hg
  subst hP hw hK
  obtain⟨xs,hq,hx⟩:=hg
  obtain⟨d7,rv,p,hz⟩:=I.list hq
  obtain⟨f0,f1,f2,f3,f4,f5⟩:=hf it (by simp)
  have hl:=rv.length
  exact wpAny_pyNext_list_end (I.ok.hd hc) st p.isList (by simp;omega) fun h' eb=>⟨rfl,I.turned (t':=s.toks) (fun b o hb e=>eb b o hb e) f0 f1 f3 f4 f5⟩
 self:=fun _ _ _ _ _ st h=>wpAny_pyIter_listiter st h
theorem turn_range {P:Program}{w:World}{K:PySem.W.Frag}{tg:Expr}(it:Addr)(lo:Int)(n:Nat):Turn P w K tg (Itr lo n) [it] it (fun i h=>IsRangeIter h it (lo+(i:Nat)*1) ((n:Int) - (i:Nat)) 1) where
 mem:=by simp
 obj:=fun i h st b hb=>by
  have e:b=it:=by simpa using hb
  subst e
  exact⟨_,st,fun v z=>by
   have z':Data.fields _=Data.cell v:=z
   cases z'⟩
 keep:=fun i h h' st k=>k it (by simp) _ st
 item:=by
  intro X hP hw hK hc i pins s σ H E I hf st hg
  subst hP hw hK
  obtain⟨f0,f1,f2,f3,f4,f5⟩:=hf it (by simp)
  have W:=Walks.range (prog:=X.prog) (w:=X.w) (I.ok.hd hc) it lo 1 n
  refine W.item i s _ _ hg st fun v h' tk hv st' kk=>?_
  obtain⟨t,rfl⟩:=hv
  have I1:Inv X pins σ H { s with heap:=h',toks:=tk}:=I.turned (fun b o hb e=>kk b o (by simpa using hb) e) f0 f1 f3 f4 f5
  refine⟨_,rfl,go_of (s:={ s with heap:=h',toks:=tk}) (n := "range_iterator") st' rfl rfl (by decide) ⟨.int (lo+i),H,I1,⟨t,?_⟩,⟨rfl,rfl⟩,st',fun b hb=>(hf b hb).1⟩⟩
  rw[Int.mul_one]
 done:=by
  intro X hP hw hK hc i pins s σ H E I hf st hg
  subst hP hw hK
  obtain⟨f0,f1,f2,f3,f4,f5⟩:=hf it (by simp)
  exact wpAny_pyNext_range_end (I.ok.hd hc) st (by have:n<=i:=hg;omega) fun h' eb=>⟨rfl,I.turned (t':=s.toks) (fun b o hb e=>eb b o hb e) f0 f1 f3 f4 f5⟩
 self:=fun _ _ _ _ _ st h=>wpAny_pyIter_rangeiter st h
section
variable {X:Cx}{tg:Expr}
def iList (K:PySem.W.Frag)(tl:TE):TI:=fun σ H R=>tl σ H fun x H1=>∃ a,x=.ref a/\(∃ xs,SqL K H1 a xs)/\R (Itl K a) H1
theorem pi_list {l:Expr}{tl:TE}(hl:PE X l tl):PI X tg l (iList X.K tl):=by
 intro pins s σ H R I h
 refine fo (hl pins s σ H _ I h) fun v s1 hq0=>?_
 obtain⟨x,H1,I1,r1,q1⟩:=hq0
 obtain⟨a,e,⟨xs,hq⟩,q⟩:=q1
 subst e
 cases r1
 obtain⟨d7,rv,p,hz⟩:=I1.list hq
 refine wpAny_pyIter_list p.isList ?_
 refine⟨s1.heap.objs.size,[s1.heap.objs.size],_,_,H1,rfl,I1.kept (t':=s1.toks) fun b o e=>gxL _ e,turn_list a _,⟨_,au _ rfl,rfl,rfl⟩,fun b hb=>?_,q⟩
 have e:b=s1.heap.objs.size:=by simpa using hb
 subst e
 exact I1.fpOk (aa _) (I1.dX.fresh (aa _))
theorem range_it {pins:List (Addr×Obj)}{σ:St}{H:Hp}{s:Shared}{R:It->Hp->Prop}{E:Value->Shared->Prop}{lo hi:Int}{t u v:Tok}{tk:Nat}(I:Inv X pins σ H s)(h1:-(2 ^ 62)<=lo)(h2:lo<2 ^ 62)(h3:-(2 ^ 62)<=hi)(h4:hi<2 ^ 62)
 (q:R (Itr lo (hi - lo).toNat) H):wpAny (model X.prog X.w) X.A (pyIter (.ref s.heap.objs.size)) (PIE X pins σ tg R) E { s with heap:=s.heap.push { cls:=.type "range",data:=.fields #[.int lo t,.int hi u,.int 1 v]},toks:=tk}:=by
 refine wpAny_pyIter_range (IsRange.new ..) (small_one h1 h2 h3 h4) ?_
 have I1:Inv X pins σ H { s with heap:=s.heap.push { cls:=.type "range",data:=.fields #[.int lo t,.int hi u,.int 1 v]},toks:=tk}:=I.kept fun b o e=>gxL _ e
 refine⟨(s.heap.push { cls:=.type "range",data:=.fields #[.int lo t,.int hi u,.int 1 v]}).objs.size,[(s.heap.push { cls:=.type "range",data:=.fields #[.int lo t,.int hi u,.int 1 v]}).objs.size],_,_,H,rfl,
  I1.kept (t':=tk) fun b o e=>gxL _ e,turn_range _ lo (hi - lo).toNat,?_,fun b hb=>?_,q⟩
 ·have e1:lo+((0:Nat):Int)*1=lo:=by simp
  have e2:(((hi - lo).toNat:Nat):Int) - ((0:Nat):Int)=Builtin.Range.rangeSize lo hi 1:=by rw[rangeSize_one];split <;> omega
  show IsRangeIter _ _ (lo+((0:Nat):Int)*1) ((((hi - lo).toNat:Nat):Int) - ((0:Nat):Int)) 1
  rw[e1,e2]
  exact au _ rfl
 ·have e:b=(s.heap.push { cls:=.type "range",data:=.fields #[.int lo t,.int hi u,.int 1 v]}).objs.size:=by simpa using hb
  subst e
  exact I1.fpOk (aa _) (I1.dX.fresh (aa _))
def iRng1 (ta:TA):TI:=fun σ H R=>ta σ H fun vs H1=>∃ j:Int,vs=[.int j] /\ -(2 ^ 62)<=j/\j<2 ^ 62/\R (Itr 0 j.toNat) H1
def iRng2 (ta:TA):TI:=fun σ H R=>ta σ H fun vs H1=>∃ i j:Int,vs=[.int i,.int j]/\(-(2 ^ 62)<=i/\i<2 ^ 62 /\ -(2 ^ 62)<=j/\j<2 ^ 62)/\R (Itr i (j - i).toNat) H1
theorem pi_range1 {a:Expr}{ta:TA}{p pos:Pos}(hg:Gl X "range")(hm:X.mg "range"=none)(ha:PA X [a] ta)(hs:starEach [a] X.env=[(false,eval a X.env)]:=by rfl):PI X tg (.Call (.Name "range" p) [a] [] pos) (iRng1 ta):=by
 intro pins s σ H R I h
 refine Call_ (ld_blt I hg hm boot_range (br (fo (ha pos pins s σ H _ I h) fun us s1 hq1=>?_) hs rfl))
 obtain⟨vs,H1,I1,r1,q1⟩:=hq1
 obtain⟨j,e,q1,q2,q⟩:=q1
 subst e
 cases r1 with
 | cons r rr =>
  cases rr
  obtain⟨t,rfl⟩:=r
  exact call_range_1 (range_it I1 (by omega) (by omega) q1 q2 (by simpa using q))
theorem pi_range2 {a b:Expr}{ta:TA}{p pos:Pos}(hg:Gl X "range")(hm:X.mg "range"=none)(ha:PA X [a,b] ta)(hs:starEach [a,b] X.env=[(false,eval a X.env),(false,eval b X.env)]:=by rfl)(hs2:starEach [b] X.env=[(false,eval b X.env)]:=by rfl) :
 PI X tg (.Call (.Name "range" p) [a,b] [] pos) (iRng2 ta):=by
 intro pins s σ H R I h
 refine Call_ (ld_blt I hg hm boot_range (br (fo (ha pos pins s σ H _ I h) fun us s1 hq2=>?_) (by rw[hs,hs2]) (by rw[hs2];rfl)))
 obtain⟨vs,H1,I1,r1,q1⟩:=hq2
 obtain⟨i,j,e,⟨q1,q2,q3,q4⟩,q⟩:=q1
 subst e
 cases r1 with
 | cons r rr =>
  cases rr with
  | cons r' rr =>
   cases rr
   obtain⟨t,rfl⟩:=r
   obtain⟨t',rfl⟩:=r'
   exact call_range_2 (range_it I1 q1 q2 q3 q4 q)
def tFor (wi:TI)(g:TG)(tb:TS):TS:=fun D σ H=>wi σ H fun J H1=>∃ W:Nat->Nat->St->Hp->Prop,(∃ m,W 0 m σ H1)/\∀ i m σ H,W i m σ H ->
 (J.stop i H/\D.nx σ H)\/(J.go i H/\∃ N:St->Hp->Prop,(∀ σ' H',N σ' H'->∃ m',m'<m/\W (i+1) m' σ' H')/\∀ x H',J.yld i H x H'->g x σ H' fun σ2 H2=>tb { D with nx:=N,ct:=N,bk:=D.nx} σ2 H2)
def pinsAt (fp:List Addr)(h:Heap):List (Addr×Obj):=fp.filterMap fun b=>(h.get? b).map fun o=>(b,o)
theorem mem_pinsAt {fp:List Addr}{h:Heap}{b:Addr}{o:Obj}(hb:b∈fp)(e:h.get? b=some o):(b,o)∈pinsAt fp h:=List.mem_filterMap.mpr ⟨b,hb,by rw[e];rfl⟩
theorem of_pinsAt {fp:List Addr}{h:Heap}{p:Addr×Obj}(hp:p∈pinsAt fp h):p.1∈fp/\h.get? p.1=some p.2:=by
 obtain⟨b,hb,e⟩:=List.mem_filterMap.mp hp
 cases q:h.get? b with
 | none=>rw[q]at e;cases e
 | some o =>
  rw[q]at e
  have e':(b,o)=p:=aJ e
  subst e'
  exact⟨hb,q⟩
theorem Inv.pinned {pins:List (Addr×Obj)}{σ:St}{H:Hp}{s:Shared}{fp:List Addr}(I:Inv X pins σ H s)(hf:∀ b∈fp,FpOk X pins H b)(ho:∀ b∈fp,∃ o,s.heap.get? b=some o/\∀ v,o.data≠.cell v):Inv X (pins++pinsAt fp s.heap) σ H s :=
 I.pins_of fun p hp=>(List.mem_append.mp hp).elim (fun z=>I.pin p (aD _ z)) fun z=>by
  obtain⟨hb,e⟩:=of_pinsAt z
  obtain⟨f0,f1,f2,_⟩:=hf p.1 hb
  obtain⟨o,e',d⟩:=ho p.1 hb
  rw[e]at e';cases e'
  exact⟨e,f0,f1,f2,d⟩
theorem Inv.unpinned {pins pl:List (Addr×Obj)}{σ:St}{H:Hp}{s:Shared}(I:Inv X (pins++pl) σ H s):Inv X pins σ H s:=I.pins_of fun p hp=>I.pin p (aD _ (bN _ hp))
theorem ps_for {iter:Expr}{body:List Stmt}{wi:TI}{g:TG}{tb:TS}{pos:Pos}(hp:PassesOwn (model X.prog X.w) X.A X.env X.xe)(hc:X.calm=true)(hi:PI X tg iter wi)(hg:PG X tg g)(hb:PSs X body tb)
 (hs:∀ x,foldedSetIterable iter X.env x=pure x:=by intro _;rfl):PS X (.For tg iter body [] pos) (tFor wi g tb):=by
 intro pins s σ H D I h
 refine wpAny_For (fo (hi pins s σ H _ I h) fun v s1 h1=>fo h1 fun itv s2 h2=>?_) hs
 obtain⟨it,fp,tn,J,H2,e,I2,T,st2,f2,W,⟨m0,w0⟩,turn⟩:=h2
 subst e
 have stat:∀ {H':Hp},(∀ b∈fp,H' b=none)->∀ b∈fp,FpOk X pins H' b:=fun hn b hb=>⟨hn b hb,(f2 b hb).2⟩
 refine codeAny_forLoop_any (fun n s'=>∃ i σ' H',Inv X pins σ' H' s'/\tn i s'.heap/\(∀ b∈fp,H' b=none)/\W i n σ' H') ?_ m0 ⟨0,σ,H2,I2,st2,fun b hb=>(f2 b hb).1,w0⟩
 rintro n s3 ⟨i,σ3,H3,I3,st3,fr3,w3⟩
 rcases turn i n σ3 H3 w3 with⟨stop,qn⟩ | ⟨go,N,hN,step⟩
 ·refine bZ hp (fo (T.done X rfl rfl rfl hc i pins s3 σ3 H3 X.xe I3 (stat fr3) st3 stop) fun r s4 hq3=>?_)
  obtain⟨hr,I4⟩:=hq3
  subst hr
  exact cK ⟨σ3,H3,I4,qn⟩
 ·refine bZ hp (fo (T.item X rfl rfl rfl hc i pins s3 σ3 H3 X.xe I3 (stat fr3) st3 go) fun r s4 hq4=>?_)
  obtain⟨u,hr,h4⟩:=hq4
  subst hr
  refine bZ hp (fo h4 fun _ s5 hq5=>?_)
  obtain⟨x,H5,I5,r5,y5,st5,fr5⟩:=hq5
  have I5':=I5.pinned (stat fr5) (T.obj _ _ st5)
  refine bZ hp (fo (hg _ s5 σ3 H5 x u _ I5' r5 (step x H5 y5)) fun _ s6 hq6=>?_)
  obtain⟨σ6,H6,I6,q6⟩:=hq6
  refine bZ hp (fo (hb _ s6 σ6 H6 _ I6 q6) fun f s7 q7=>?_)
  have again:∀ {σ7:St} {H7:Hp},Inv X (pins++pinsAt fp s5.heap) σ7 H7 s7->N σ7 H7->∃ m,m<n/\∃ i σ' H',Inv X pins σ' H' s7/\tn i s7.heap/\(∀ b∈fp,H' b=none)/\W i m σ' H':=fun {σ7 H7} I7 n7=>by
   obtain⟨m',hm,w7⟩:=hN σ7 H7 n7
   refine⟨m',hm,i+1,σ7,H7,I7.unpinned,T.keep _ _ _ st5 fun b hb o e=>(I7.pin (b,o) (aD _ (aD _ (mem_pinsAt hb e)))).1,fun b hb=>?_,w7⟩
   obtain⟨o,e,d⟩:=T.obj _ _ st5 b hb
   exact(I7.pin (b,o) (aD _ (aD _ (mem_pinsAt hb e)))).2.1
  cases f with
  | next=>obtain⟨σ7,H7,I7,n7⟩:=q7;exact again I7 n7
  | cont=>obtain⟨σ7,H7,I7,n7⟩:=q7;exact again I7 n7
  | brk=>obtain⟨σ7,H7,I7,q7⟩:=q7;exact⟨σ7,H7,I7.unpinned,q7⟩
  | ret v=>obtain⟨x7,σ7,H7,I7,r7,q7⟩:=q7;exact⟨x7,σ7,H7,I7.unpinned,r7,q7⟩
end
abbrev R2:=V->V->Hp->VK->Prop
def OpR (X:Cx)(f:Value->Value->Sem Value)(r:R2):Prop :=
 ∀(pins:List (Addr×Obj)) (s:Shared) (σ:St) (H:Hp) (x y:V) (v u:Value) (Q:VK),Inv X pins σ H s->RelV x v->RelV y u->r x y H Q ->
  wpAny (model X.prog X.w) X.A (f v u) (EP X pins σ Q) X.xe s
def CallR (X:Cx)(f:Value)(r:List V->Hp->VK->Prop):Prop :=
 ∀(pins:List (Addr×Obj)) (s:Shared) (σ:St) (H:Hp) (xs:List V) (us:List Value) (Q:VK),Inv X pins σ H s->Vals xs us->r xs H Q ->
  wpAny (model X.prog X.w) X.A (call f us) (EP X pins σ Q) X.xe s
def tOp (r:R2)(ta tb:TE):TE:=fun σ H Q=>ta σ H fun x H1=>tb σ H1 fun y H2=>r x y H2 Q
def rI (C:Int->Int->Prop)(g:Int->Int->V):R2:=fun x y H Q=>∃ i j,x=.int i/\y=.int j/\C i j/\Q (g i j) H
def rI0 (g:Int->Int->V):R2:=fun x y H Q=>∃ i j,x=.int i/\y=.int j/\Q (g i j) H
section
variable {X:Cx}{a b c:Expr}{ta tb tc:TE}{pos:Pos}
theorem binT (ha:PE X a ta)(hb:PE X b tb){pins:List (Addr×Obj)}{s:Shared}{σ:St}{H:Hp}{R:V->V->Hp->Prop}(I:Inv X pins σ H s)
 (h:ta σ H fun x H1=>tb σ H1 fun y H2=>R x y H2) {Q:Value->Shared->Prop} {f:Value->Value->Sem Value}
 (hf:∀ v u s2 x y H2,Inv X pins σ H2 s2->RelV x v->RelV y u->R x y H2->wpAny (model X.prog X.w) X.A (f v u) Q X.xe s2) :
 wpAny (model X.prog X.w) X.A (eval a X.env) (fun v s₁=>wpAny (model X.prog X.w) X.A (eval b X.env) (fun u s₂=>wpAny (model X.prog X.w) X.A (f v u) Q X.xe s₂) X.xe s₁) X.xe s:=by
 refine fo (ha pins s σ H _ I h) fun v s1 hq0=>?_
 obtain⟨x,H1,I1,r1,q1⟩:=hq0
 refine fo (hb pins s1 σ H1 _ I1 q1) fun u s2 hq1=>?_
 obtain⟨y,H2,I2,r2,q2⟩:=hq1
 exact hf v u s2 x y H2 I2 r1 r2 q2
theorem pe_op {op:Operator}{r:R2}(ho:OpR X (binaryOp op) r)(ha:PE X a ta)(hb:PE X b tb):PE X (.BinOp a op b pos) (tOp r ta tb):=by
 intro pins s σ H Q I h
 exact wpAny_BinOp (binT ha hb I h fun v u s2 x y H2 I2 rx ry q=>ho pins s2 σ H2 x y v u Q I2 rx ry q)
theorem opI {f:Value->Value->Sem Value}{C:Int->Int->Prop}{g:Int->Int->Int}
 (rule:∀(i j:Int) (t u:Tok) (s:Shared) (Q:Value->Shared->Prop) (E:Value->Shared->Prop),C i j->Q (.int (g i j) s.toks) { s with toks:=s.toks+1}->wpAny (model X.prog X.w) X.A (f (.int i t) (.int j u)) Q E s) :
 OpR X f (rI C fun i j=>.int (g i j)):=by
 intro pins s σ H x y v u Q I rx ry h
 obtain⟨i,j,rfl,rfl,hc,q⟩:=h
 obtain⟨t,rfl⟩:=rx
 obtain⟨t',rfl⟩:=ry
 exact rule i j t t' s _ _ hc ⟨.int (g i j),H,I.tok _,⟨_,rfl⟩,q⟩
theorem opI0 {f:Value->Value->Sem Value}{g:Int->Int->Int}
 (rule:∀(i j:Int) (t u:Tok) (s:Shared) (Q:Value->Shared->Prop) (E:Value->Shared->Prop),Q (.int (g i j) s.toks) { s with toks:=s.toks+1}->wpAny (model X.prog X.w) X.A (f (.int i t) (.int j u)) Q E s) :
 OpR X f (rI0 fun i j=>.int (g i j)):=by
 intro pins s σ H x y v u Q I rx ry h
 obtain⟨i,j,rfl,rfl,q⟩:=h
 obtain⟨t,rfl⟩:=rx
 obtain⟨t',rfl⟩:=ry
 exact rule i j t t' s _ _ ⟨.int (g i j),H,I.tok _,⟨_,rfl⟩,q⟩
theorem opB0 {f:Value->Value->Sem Value}{g:Int->Int->Bool}
 (rule:∀(i j:Int) (t u:Tok) (s:Shared) (Q:Value->Shared->Prop) (E:Value->Shared->Prop),Q (.bool (g i j)) s->wpAny (model X.prog X.w) X.A (f (.int i t) (.int j u)) Q E s) :
 OpR X f (rI0 fun i j=>.bl (g i j)):=by
 intro pins s σ H x y v u Q I rx ry h
 obtain⟨i,j,rfl,rfl,q⟩:=h
 obtain⟨t,rfl⟩:=rx
 obtain⟨t',rfl⟩:=ry
 exact rule i j t t' s _ _ ⟨.bl (g i j),H,I,rfl,q⟩
def CDiv (i j:Int):Prop:=0<j/\j<1073741824
def CPow (i j:Int):Prop:=0<=j/\j<=1000000/\i.natAbs<2 ^ 64
def CMul (i j:Int):Prop:=(-(2 ^ 64)<i/\i<2 ^ 64)\/(-(2 ^ 64)<j/\j<2 ^ 64)
theorem CMul.ok {i j:Int}(h:CMul i j):IntMulOk i j:=by
 rcases h with⟨h1,h2⟩ | ⟨h1,h2⟩
 ·exact .of_left (intBits_le_64 h1 h2)
 ·exact .of_right (intBits_le_64 h1 h2)
theorem op_add:OpR X (binaryOp .Add) (rI0 fun i j=>.int (i+j)):=opI0 fun _ _ _ _ _ _ _ q=>add_int q
theorem op_sub:OpR X (binaryOp .Sub) (rI0 fun i j=>.int (i - j)):=opI0 fun _ _ _ _ _ _ _ q=>sub_int q
theorem op_mul:OpR X (binaryOp .Mult) (rI CMul fun i j=>.int (i*j)):=opI fun _ _ _ _ _ _ _ hc q=>mul_int q hc.ok
theorem op_fdiv:OpR X (binaryOp .FloorDiv) (rI CDiv fun i j=>.int (i / j)):=opI fun i j _ _ _ _ _ hc q=>by
 have h1:(0:Int)<j:=hc.1
 have h2:j<1073741824:=hc.2
 exact floordiv_int (by omega) (by rw[Int.fdiv_eq_ediv_of_nonneg i (by omega)];exact q) (.inl (PyProof.noPylong_small (by omega)))
theorem op_mod:OpR X (binaryOp .Mod) (rI (fun _ j=>0<j) fun i j=>.int (i%j)):=opI fun i j _ _ _ _ _ hc q=>by
 have h1:(0:Int)<j:=hc
 exact mod_int' (by omega) (by rw[Int.fmod_eq_emod_of_nonneg i (by omega)];exact q)
theorem op_pow:OpR X (binaryOp .Pow) (rI CPow fun i j=>.int (i ^ j.toNat)):=opI fun _ _ _ _ _ _ _ hc q=>pow_int_small hc.1 hc.2.1 hc.2.2 q
end
def scal:V->V->Bool
 | .fB,.fB=>true | .fB,.int _=>true | .int _,.fB=>true | .fB,.bl _=>true | .bl _,.fB=>true | .fB,.str _=>true | .str _,.fB=>true
 | .int _,.int _=>true | .bl _,.bl _=>true | .str _,.str _=>true | .byt _,.byt _=>true
 | .int _,.str _=>true | .str _,.int _=>true | .bl _,.str _=>true | .str _,.bl _=>true
 | _,_=>false
def rEq:R2:=fun x y H Q=>scal x y=true/\Q (.bl (decide (x=y))) H
def rNe:R2:=fun x y H Q=>scal x y=true/\Q (.bl (!decide (x=y))) H
theorem dec_int {i j:Int}:decide (V.int i=V.int j)=(i==j):=by
 rw[cx]
 simp
theorem dec_bl {i j:Bool}:decide (V.bl i=V.bl j)=(i==j):=by
 rw[cx]
 simp
theorem dec_str {i j:Str}:decide (V.str i=V.str j)=(i==j):=by
 rw[cx]
 simp
theorem dec_byt {i j:Array UInt8}:decide (V.byt i=V.byt j)=(i.toList==j.toList):=by
 rw[cx]
 cases i
 cases j
 simp
section
variable {X:Cx}{a b c:Expr}{ta tb tc:TE}{pos:Pos}
theorem e9 {pins:List (Addr×Obj)}{σ:St}{H:Hp}{s:Shared}{Q:VK}{k k':Bool}(I:Inv X pins σ H s)(q:Q (.bl k) H)(e:k=k'):EP X pins σ Q (.bool k') s:=by
 subst e
 exact⟨.bl k,H,I,rfl,q⟩
theorem op_eq:OpR X (compareOp .Eq) rEq:=by
 intro pins s σ H x y v u Q I rx ry h
 obtain⟨hs,q⟩:=h
 cases x with
 | fB =>
  cases rx
  cases y with
  | fB=>cases ry;exact PySem.EqNone.eq_none_none (e9 I q (by simp))
  | bl j=>cases ry;exact PySem.EqNone.eq_none_bool (e9 I q (by simp))
  | int j=>obtain⟨t',rfl⟩:=ry;exact PySem.EqNone.eq_none_int (e9 I q (by simp))
  | str j=>obtain⟨t',rfl⟩:=ry;exact PySem.EqNone.eq_none_str (e9 I q (by simp))
  | _=>exact absurd (show false=true from hs) aA
 | bl i =>
  cases rx
  cases y with
  | fB=>cases ry;exact PySem.EqNone.eq_bool_none (e9 I q (by simp))
  | bl j=>cases ry;exact eq_bool (e9 I q dec_bl)
  | str j=>obtain⟨t',rfl⟩:=ry;exact PySem.EqMixed.eq_bool_str (e9 I q (by simp))
  | _=>exact absurd (show false=true from hs) aA
 | int i =>
  obtain⟨t,rfl⟩:=rx
  cases y with
  | fB=>cases ry;exact PySem.EqNone.eq_int_none (e9 I q (by simp))
  | int j=>obtain⟨t',rfl⟩:=ry;exact eq_int (e9 I q dec_int)
  | str j=>obtain⟨t',rfl⟩:=ry;exact PySem.EqMixed.eq_int_str (e9 I q (by simp))
  | _=>exact absurd (show false=true from hs) aA
 | str i =>
  obtain⟨t,rfl⟩:=rx
  cases y with
  | fB=>cases ry;exact PySem.EqNone.eq_str_none (e9 I q (by simp))
  | bl j=>cases ry;exact PySem.EqMixed.eq_str_bool (e9 I q (by simp))
  | int j=>obtain⟨t',rfl⟩:=ry;exact PySem.EqMixed.eq_str_int (e9 I q (by simp))
  | str j=>obtain⟨t',rfl⟩:=ry;exact eq_str (e9 I q dec_str)
  | _=>exact absurd (show false=true from hs) aA
 | byt i =>
  obtain⟨t,rfl⟩:=rx
  cases y with
  | byt j=>obtain⟨t',rfl⟩:=ry;exact PySem.W.eq_bytes (e9 I q dec_byt)
  | _=>exact absurd (show false=true from hs) aA
 | _=>cases y <;> exact absurd (show false=true from hs) aA
theorem op_ne:OpR X (compareOp .NotEq) rNe:=by
 intro pins s σ H x y v u Q I rx ry h
 obtain⟨hs,q⟩:=h
 cases x with
 | fB =>
  cases rx
  cases y with
  | fB=>cases ry;exact PySem.EqNone.ne_none_none (e9 I q (by simp))
  | bl j=>cases ry;exact PySem.EqNone.ne_none_bool (e9 I q (by simp))
  | int j=>obtain⟨t',rfl⟩:=ry;exact PySem.EqNone.ne_none_int (e9 I q (by simp))
  | str j=>obtain⟨t',rfl⟩:=ry;exact PySem.EqNone.ne_none_str (e9 I q (by simp))
  | _=>exact absurd (show false=true from hs) aA
 | bl i =>
  cases rx
  cases y with
  | fB=>cases ry;exact PySem.EqNone.ne_bool_none (e9 I q (by simp))
  | bl j=>cases ry;exact ne_bool (e9 I q (bD not dec_bl))
  | str j=>obtain⟨t',rfl⟩:=ry;exact PySem.EqMixed.ne_bool_str (e9 I q (by simp))
  | _=>exact absurd (show false=true from hs) aA
 | int i =>
  obtain⟨t,rfl⟩:=rx
  cases y with
  | fB=>cases ry;exact PySem.EqNone.ne_int_none (e9 I q (by simp))
  | int j=>obtain⟨t',rfl⟩:=ry;exact ne_int (e9 I q (bD not dec_int))
  | str j=>obtain⟨t',rfl⟩:=ry;exact PySem.EqMixed.ne_int_str (e9 I q (by simp))
  | _=>exact absurd (show false=true from hs) aA
 | str i =>
  obtain⟨t,rfl⟩:=rx
  cases y with
  | fB=>cases ry;exact PySem.EqNone.ne_str_none (e9 I q (by simp))
  | bl j=>cases ry;exact PySem.EqMixed.ne_str_bool (e9 I q (by simp))
  | int j=>obtain⟨t',rfl⟩:=ry;exact PySem.EqMixed.ne_str_int (e9 I q (by simp))
  | str j=>obtain⟨t',rfl⟩:=ry;exact ne_str (e9 I q (bD not dec_str))
  | _=>exact absurd (show false=true from hs) aA
 | byt i =>
  obtain⟨t,rfl⟩:=rx
  cases y with
  | byt j=>obtain⟨t',rfl⟩:=ry;exact PySem.W.ne_bytes (e9 I q (bD not dec_byt))
  | _=>exact absurd (show false=true from hs) aA
 | _=>cases y <;> exact absurd (show false=true from hs) aA
theorem op_lt:OpR X (compareOp .Lt) (rI0 fun i j=>.bl (decide (i<j))):=opB0 fun _ _ _ _ _ _ _ q=>lt_int q
theorem op_le:OpR X (compareOp .LtE) (rI0 fun i j=>.bl (decide (i<=j))):=opB0 fun _ _ _ _ _ _ _ q=>le_int q
theorem op_gt:OpR X (compareOp .Gt) (rI0 fun i j=>.bl (decide (j<i))):=opB0 fun _ _ _ _ _ _ _ q=>gt_int q
theorem op_ge:OpR X (compareOp .GtE) (rI0 fun i j=>.bl (decide (j<=i))):=opB0 fun _ _ _ _ _ _ _ q=>ge_int q
theorem op_in_str:OpR X (compareOp .In) (fun x y H Q=>∃ i j,x=.str i/\y=.str j/\Q (.bl (!(Builtin.Str.occurrences j i 0 j.length 1).isEmpty)) H):=by
 intro pins s σ H x y v u Q I rx ry h
 obtain⟨i,j,rfl,rfl,q⟩:=h
 obtain⟨t,rfl⟩:=rx
 obtain⟨t',rfl⟩:=ry
 exact in_str (e9 I q rfl)
theorem OpR.or {f:Value->Value->Sem Value}{r r':R2}(h:OpR X f r)(h':OpR X f r'):OpR X f (fun x y H Q=>r x y H Q\/r' x y H Q):=by
 intro pins s σ H x y v u Q I rx ry q
 rcases q with q | q
 ·exact h pins s σ H x y v u Q I rx ry q
 ·exact h' pins s σ H x y v u Q I rx ry q
theorem nomark (b:Expr){op:CmpOp}(h:op≠.In:=by decide)(h2:op≠.NotIn:=by decide):behindInMarks op b=false:=by
 have e1:(op==CmpOp.In)=false:=by cases op <;> first | rfl | exact absurd rfl h
 have e2:(op==CmpOp.NotIn)=false:=by cases op <;> first | rfl | exact absurd rfl h2
 cases b <;> simp[behindInMarks,e1,e2]
theorem pe_cmpR {op:CmpOp}{r:R2}(ho:OpR X (compareOp op) r)(ha:PE X a ta)(hb:PE X b tb)(hm:behindInMarks op b=false):PE X (.Compare a [op] [b] pos) (tOp r ta tb):=by
 intro pins s σ H Q I h
 exact wpAny_Compare1 (binT ha hb I h fun v u s2 x y H2 I2 rx ry q=>ho pins s2 σ H2 x y v u Q I2 rx ry q) hm
def tChain (r r':R2)(ta tb tc:TE):TE:=fun σ H Q=>ta σ H fun x H1=>tb σ H1 fun y H2=>r x y H2 fun z H3=>∃ k,z=.bl k /\
 (if k=true then tc σ H3 fun w' H4=>r' y w' H4 Q else Q (.bl false) H3)
theorem pe_chain {op op':CmpOp}{r r':R2}(ho:OpR X (compareOp op) r)(ho':OpR X (compareOp op') r')(ha:PE X a ta)(hb:PE X b tb)(hc:PE X c tc)
 (hm:lastMarks [op,op'] [b,c]=false:=by with_unfolding_all rfl):PE X (.Compare a [op,op'] [b,c] pos) (tChain r r' ta tb tc):=by
 intro pins s σ H Q I h
 refine Compare_chain (fo (ha pins s σ H _ I h) fun v s1 ⟨x,H1,I1,r1,q1⟩=>chain_link (fo (hb pins s1 σ H1 _ I1 q1) fun u s2 ⟨y,H2,I2,r2,q2⟩ =>
  fo (ho pins s2 σ H2 x y v u _ I2 r1 r2 q2) fun d s3 ⟨z,H3,I3,r3,k,e,q3⟩=>?_)) hm
 subst e
 cases r3
 refine bG ?_
 cases k with
 | false=>exact ite_ff ⟨.bl false,H3,I3,rfl,q3⟩
 | true=>exact ite_tt (chain_last (fo (hc pins s3 σ H3 _ I3 q3) fun w' s4 hq3=>by obtain⟨z',H4,I4,r4,q4⟩:=hq3;exact ho' pins s4 σ H4 y z' u w' Q I4 r2 r4 q4))
theorem line63:(sizeLine:Nat)<2 ^ 63:=by rw[sizeLine_eq];decide
theorem op_add_str:OpR X (binaryOp .Add) (fun x y H Q=>∃ i j,x=.str i/\y=.str j/\i.length+j.length<=sizeLine/\Q (.str (i++j)) H):=by
 intro pins s σ H x y v u Q I rx ry h
 obtain⟨i,j,rfl,rfl,hz,q⟩:=h
 obtain⟨t,rfl⟩:=rx
 obtain⟨t',rfl⟩:=ry
 exact add_str (fun t' tk=>⟨.str (i++j),H,I.tok _,⟨_,rfl⟩,q⟩) hz
theorem vals1 {x:V}{us:List Value}(r:Vals [x] us):∃ u,us=[u]/\RelV x u:=by
 cases r with
 | cons r1 r2=>cases r2;exact⟨_,rfl,r1⟩
theorem vals2 {x y:V}{us:List Value}(r:Vals [x,y] us):∃ u w',us=[u,w']/\RelV x u/\RelV y w':=by
 cases r with
 | cons r1 r2 =>
  cases r2 with
  | cons r3 r4=>cases r4;exact⟨_,_,rfl,r1,r3⟩
theorem call_max2 (hc:X.calm=true):CallR X (.builtin "max") (fun xs H Q=>∃ i j,xs=[.int i,.int j]/\Q (.int (if j>i then j else i)) H):=by
 intro pins s σ H xs us Q I r h
 obtain⟨i,j,rfl,q⟩:=h
 obtain⟨u,w',rfl,⟨t,rfl⟩,⟨t',rfl⟩⟩:=vals2 r
 refine max_two_ints (I.ok.hd hc) fun h' tk k=>⟨_,H,I.kept k,?_,q⟩
 by_cases hj:j>i
 ·rw[ag hj,ag hj];exact⟨_,rfl⟩
 ·rw[ae hj,ae hj];exact⟨_,rfl⟩
end
structure ObjM (h:Heap)(x dx C:Addr)(mA:Str->Option Value):Prop where
 obj:h.get? x=some (PySem.W.instObj C dx)
 ns:h.Ns1 dx mA
 ne:dx≠x
theorem lookIn_ns {h:Heap}{dx:Addr}{mA:Str->Option Value}(n:h.Ns1 dx mA):∃ od,h.get? dx=some od/\∀ name,PySem.W.lookIn name od=some (mA name):=by
 obtain⟨o,es,ep,ho,hd,hk,_,hm⟩:=n
 refine⟨o,ho,fun name=>?_⟩
 have e:=hm name
 unfold nsFind findBy at e
 rw[<- Array.find?_toList]at e
 unfold PySem.W.lookIn
 rw[hd]
 dsimp only
 split
 ·rename_i y q
  rw[q]at e
  exact bD some e
 ·rename_i q
  rw[q]at e
  have a:es.toList.any (·.refKey)=false:=by
   rw[List.any_eq_false]
   intro y hy
   obtain⟨z,t,hkey⟩:=hk y (Array.mem_toList_iff.mp hy)
   simp[DictEntry.refKey,hkey]
  have a':¬ es.toList.any (·.refKey)=true:=by rw[a];exact aA
  rw[ae a']
  exact bD some e
theorem ObjM.look {h:Heap}{x dx C:Addr}{mA:Str->Option Value}(I:ObjM h x dx C mA):∃ od,PySem.W.InstAt h x (PySem.W.instObj C dx) C (some od)/\∀ name,PySem.W.lookIn name od=some (mA name) :=
 let ⟨od,ho,hl⟩:=lookIn_ns I.ns
 ⟨od,⟨I.obj,rfl,rfl,ho⟩,hl⟩
section
variable {prog:Program}{w:World}{A:Around}{E:Value->Shared->Prop}{s:Shared}{K:PySem.W.Frag}{x dx C f:Addr}{mA:Str->Option Value}{name:Str}{v:Value}
theorem get_map {expr:Bool}{Q:Value->Shared->Prop}(X:K.In s.heap)(I:ObjM s.heap x dx C mA)(hg:PySem.W.plainGet K C name=true)(hh:PySem.W.hasDictIn K C=true)
 (ha:PySem.W.findIn K (.ref C) name=some none) (hv:mA name=some v) (hv':PySem.W.handedIn v=true) (h:Q v { s with toks:=s.toks+1}) :
 wpAny (model prog w) A (getAttr (.ref x) name expr) Q E s:=by
 obtain⟨od,J,hl⟩:=I.look
 exact PySem.W.get_value X J (PySem.W.plainGet_of hg).1 (PySem.W.findObj_own hh ha rfl (by rw[hl,hv])) hv' h
theorem get_meth {pl:Sem Bool}{Q:Value×List Value->Shared->Prop}(X:K.In s.heap)(I:ObjM s.heap x dx C mA)(hg:PySem.W.plainGet K C name=true)
 (hf:PySem.W.findIn K (.ref C) name=some (some (.ref f))) (ht:PySem.W.isFn K (.ref f)=true) (hv:mA name=none) (h:Q (.ref f,[.ref x]) s) :
 wpAny (model prog w) A (getMethod (.ref x) name pl) Q E s:=by
 obtain⟨od,J,hl⟩:=I.look
 exact PySem.W.method_fn X J (PySem.W.plainGet_of hg).1 (PySem.W.plainGet_of hg).2 hf (beq_iff_eq.mp ht) (by show(PySem.W.lookIn name od).map (·.isSome)=some false;rw[hl,hv];rfl) h
theorem set_map {ns:List Str}{Q:Unit->Shared->Prop}(X:K.In s.heap)(I:ObjM s.heap x dx C mA)
 (hs:PySem.W.findIn K (.ref C) "__setattr__"=some (some (.builtin "object.__setattr__"))) (hp:PySem.W.plainOver K C=true) (ht:PySem.W.takerIn K C name=some none) (hh:PySem.W.hasDictIn K C=true)
 (hw:PySem.Within mA ns) (hsz:ns.length<=sizeLine)
 (h:∀ h',ObjM h' x dx C (fun y=>if y=name then some v else mA y)->Heap.SameBut dx s.heap h'->Q () { s with heap:=h',toks:=s.toks+2}) :
 wpAny (model prog w) A (setAttr (.ref x) name v) Q E s:=by
 obtain⟨od,J,hl⟩:=I.look
 refine PySem.W.set_plain X J hs (PySem.W.osa_open (s:={ s with toks:=s.toks+1}) (r:=none) X J hp ht fun b=>?_)
 obtain⟨cd,hc,hd'⟩:=PySem.W.any_some hh
 have hx:s.heap.get? x=some ⟨.ref C,some dx,.plain,#[]⟩:=I.obj
 refine dY (ah (dY (dY (wpAny_loadPart hx (dY (PySem.W.Looks.here (s:={ s with toks:=s.toks+1}) (PySem.W.looks_clsIn X hc) ?_))))))
 rw[hd']
 refine ah (a:=some dx) (dY (ah (dY ?_)))
 refine wpAny_nsSet1 (s:={ s with toks:=s.toks+1}) I.ns fun h' hn2 hs2=>?_
 obtain⟨oD,esD,epD,hoD,hdD,hcD⟩:=hn2.count (PySem.Within.cons name v hw)
 refine dY (wpAny_lookBehind hoD (by rw[hdD];exact pastItsLine_dict (aw hcD (by rw[aG];omega))) ?_)
 exact ah (h _ ⟨(hs2.2 _ (aZ I.ne)).trans I.obj,hn2,I.ne⟩ hs2)
theorem make_map {R:Result->Shared->Prop}{vs:List Value}{kw:List (Str×Value)}(X:K.In s.heap)(hm:PySem.W.makesIn K C=true)
 (hi:PySem.W.findIn K (.ref C) "__init__"=some (some (.ref f))) (hf:PySem.W.typeIn K (.ref f)=some (.type "function"))
 (h:codeAny (model prog w) (A.under (.builtin "type.__call__" ⟨.ref C::vs,kw⟩)) (.call (.ref f) ⟨.ref (s.heap.objs.size+1)::vs,kw⟩) (PySem.W.InitBack (s.heap.objs.size+1) R)
   { s with heap:=(s.heap.push PySem.W.emptyDict).push (PySem.W.instObj C s.heap.objs.size)}) :
 codeAny (model prog w) A (.call (.ref C) ⟨vs,kw⟩) R s:=by
 obtain⟨hh,g,d,t,os⟩:=s
 exact PySem.W.make_core (PySem.W.makes_of X hm) (PySem.W.looks_findIn X hi) (fun self=>PySem.W.bind_fn X self hf) (.inl rfl) h
end
def putF (f:Str)(v:V):List (Str×V)->List (Str×V)
 | []=>[(f,v)]
 | (g,x)::r=>if g=f then(g,v)::r else(g,x)::putF f v r
theorem lookup_putF (f g:Str)(v:V):∀ fs:List (Str×V),(putF f v fs).lookup g=if g=f then some v else fs.lookup g
 | []=>by
  show List.lookup g [(f,v)]=_
  by_cases h:g=f
  ·have hb:(g==f)=true:=beq_iff_eq.mpr h
   simp only[List.lookup,hb,ag h]
  ·have hb:(g==f)=false:=beq_eq_false_iff_ne.mpr h
   simp only[List.lookup,hb,ae h]
 | (k,x)::r=>by
  have ih:=lookup_putF f g v r
  rw[show putF f v ((k,x)::r)=(if k=f then(k,v)::r else(k,x)::putF f v r)from rfl]
  by_cases hk:k=f
  ·rw[ag hk]
   by_cases h:g=k
   ·have hb:(g==k)=true:=beq_iff_eq.mpr h
    simp only[List.lookup,hb,ag (h.trans hk)]
   ·have hb:(g==k)=false:=beq_eq_false_iff_ne.mpr h
    simp only[List.lookup,hb,ae (fun e:g=f=>h (e.trans hk.symm))]
  ·rw[ae hk]
   by_cases h:g=k
   ·have hb:(g==k)=true:=beq_iff_eq.mpr h
    simp only[List.lookup,hb,ae (fun e:g=f=>hk (h.symm.trans e))]
   ·have hb:(g==k)=false:=beq_eq_false_iff_ne.mpr h
    simp only[List.lookup,hb]
    exact ih
theorem keys_putF (f:Str)(v:V):∀ fs:List (Str×V),f∈(putF f v fs).map (·.1)/\∀ g,g∈fs.map (·.1)->g∈(putF f v fs).map (·.1)
 | []=>⟨by simp[putF],fun g h=>by simp at h⟩
 | (k,x)::r=>by
  obtain⟨i1,i2⟩:=keys_putF f v r
  rw[show putF f v ((k,x)::r)=(if k=f then(k,v)::r else(k,x)::putF f v r)from rfl]
  by_cases hk:k=f
  ·rw[ag hk]
   subst hk
   exact⟨by simp,fun g h=>by simpa using h⟩
  ·rw[ae hk]
   refine⟨?_,fun g h=>?_⟩
   ·rw[ai]
    exact gxI _ i1
   ·rw[ai]at h ⊢
    rcases List.mem_cons.mp h with e | e
    ·exact List.mem_cons.mpr (.inl e)
    ·exact gxI _ (i2 g e)
theorem length_putF (f:Str)(v:V):∀ fs:List (Str×V),(putF f v fs).length<=fs.length+1
 | []=>by simp[putF]
 | (k,x)::r=>by
  have ih:=length_putF f v r
  rw[show putF f v ((k,x)::r)=(if k=f then(k,v)::r else(k,x)::putF f v r)from rfl]
  by_cases hk:k=f
  ·rw[ag hk,aG,aG];omega
  ·rw[ae hk,aG,aG];omega
theorem RelO.some_of {v:V}{o:Option Value}(r:RelO (some v) o):∃ u,o=some u/\RelV v u:=by
 cases o with
 | none=>exact(show False from r).elim
 | some u=>exact⟨u,rfl,r⟩
theorem RelO.none_of {o:Option Value}(r:RelO none o):o=none:=by
 cases o with
 | none=>rfl
 | some u=>exact(show False from r).elim
theorem handed_of {v:V}{u:Value}(r:RelV v u):PySem.W.handedIn u=true:=by
 cases v with
 | fB=>cases(show u=Value.none from r);rfl
 | bl b=>cases(show u=Value.bool b from r);rfl
 | int i=>obtain⟨t,e⟩:=(show ∃ t,u=Value.int i t from r);cases e;rfl
 | str x=>obtain⟨t,e⟩:=(show ∃ t,u=Value.str x t from r);cases e;rfl
 | byt b=>obtain⟨t,e⟩:=(show ∃ t,u=Value.bytes b t from r);cases e;rfl
 | flt b=>obtain⟨t,e⟩:=(show ∃ t,u=Value.float b t from r);cases e;rfl
 | ref a=>cases(show u=Value.ref a from r);rfl
 | ty n=>cases(show u=Value.type n from r);rfl
section
variable {P:Program}{w:World}{H H':Hp}{h h':Heap}{a C dx:Addr}{fs fs':List (Str×V)}
theorem ins_get (dX:HOk P w H h)(e:H a=some (.ins C dx fs)):∃ mA,ObjM h a dx C mA/\(∀ f,RelO (fs.lookup f) (mA f))/\PySem.Within mA (fs.map (·.1))/\fs.length<=1000/\H dx=some (.own a):=by
 obtain⟨d,z,ne,ob,mA,n,r,q⟩:=(show fj P w H h a (.ins C dx fs)from dX a _ e)
 exact⟨mA,⟨ob,n,ne⟩,r,q,z,d⟩
end
structure Cls (K:PySem.W.Frag)(C:Addr):Prop where
 pg:PySem.W.plainGet K C Str.empty=true
 hd:PySem.W.hasDictIn K C=true
 po:PySem.W.plainOver K C=true
 sa:PySem.W.findIn K (.ref C) "__setattr__"=some (some (.builtin "object.__setattr__"))
theorem Cls.get {K:PySem.W.Frag}{C:Addr}(c:Cls K C)(f:Str):PySem.W.plainGet K C f=true:=c.pg
def NoAttr (K:PySem.W.Frag)(C:Addr)(f:Str):Prop:=PySem.W.findIn K (.ref C) f=some none
theorem NoAttr.taker {K:PySem.W.Frag}{C:Addr}{f:Str}(n:NoAttr K C f):PySem.W.takerIn K C f=some none:=by
 unfold PySem.W.takerIn
 rw[show PySem.W.findIn K (.ref C) f=some none from n]
 rfl
structure Meth (K:PySem.W.Frag)(C:Addr)(m:Str)(f:Addr):Prop where
 at_:PySem.W.findIn K (.ref C) m=some (some (.ref f))
 fn:PySem.W.isFn K (.ref f)=true
 kp:PySem.W.keepIn K (.ref f)=true
section
variable {X:Cx}{pins:List (Addr×Obj)}{σ:St}{H:Hp}{s:Shared}{a C dx:Addr}{fs:List (Str×V)}{f:Str}{v:V}{A:Around}{E:Value->Shared->Prop}
theorem getattr_ok {b:Bool}{Q:Value->Shared->Prop}(I:Inv X pins σ H s)(e:H a=some (.ins C dx fs))(c:Cls X.K C)(n:NoAttr X.K C f)(l:fs.lookup f=some v)
 (h:∀ u s',Inv X pins σ H s'->RelV v u->Q u s'):wpAny (model X.prog X.w) A (getAttr (.ref a) f b) Q E s:=by
 obtain⟨mA,O,r,_,_,_⟩:=ins_get I.dX e
 obtain⟨u,hu,ru⟩:=RelO.some_of (v:=v) (o:=mA f) (by rw[<- l];exact r f)
 exact get_map I.kIn O (c.get f) c.hd n hu (handed_of ru) (h u _ (I.tok _) ru)
theorem getmeth_ok {m:Str}{g:Addr}{pl:Sem Bool}{Q:Value×List Value->Shared->Prop}(I:Inv X pins σ H s)(e:H a=some (.ins C dx fs))(c:Cls X.K C)(k:Meth X.K C m g)(l:fs.lookup m=none)
 (h:Q (.ref g,[.ref a]) s):wpAny (model X.prog X.w) A (getMethod (.ref a) m pl) Q E s:=by
 obtain⟨mA,O,r,_,_,_⟩:=ins_get I.dX e
 have hn:mA m=none:=RelO.none_of (by rw[<- l];exact r m)
 exact get_meth I.kIn O (c.get m) k.at_ k.fn hn h
theorem setattr_ok {y:V}{u:Value}{Q:Unit->Shared->Prop}(I:Inv X pins σ H s)(e:H a=some (.ins C dx fs))(c:Cls X.K C)(n:NoAttr X.K C f)(hl:fs.length<1000)(ry:RelV y u)
 (h:∀ s',Inv X pins σ (upd H a (.ins C dx (putF f y fs))) s'->Q () s'):wpAny (model X.prog X.w) A (setAttr (.ref a) f u) Q E s:=by
 obtain⟨mA,O,r,wi,_,ho⟩:=ins_get I.dX e
 have hz:(fs.map (·.1)).length<=sizeLine:=by rw[fC,sizeLine_eq];omega
 refine set_map I.kIn O c.sa c.po n.taker c.hd wi hz fun h' O' sb=>h _ ?_
 have hd:∃ o,h'.get? dx=some o:=let ⟨o,_,_,e',_⟩:=O'.ns;⟨o,e'⟩
 refine I.write (x:=a) (e:=dx) (by rw[e];exact True.intro) (.inr ho) (fun b q hb z=>(sb.2 b hb).trans z) hd ?_
 refine⟨by rw[dQ O.ne];exact ho,?_,O.ne,O'.obj,_,O'.ns,fun g=>?_,fun g hg=>?_⟩
 ·have:=length_putF f y fs;omega
 ·show RelO ((putF f y fs).lookup g) (if g=f then some u else mA g)
  rw[lookup_putF]
  by_cases q:g=f
  ·rw[ag q,ag q];exact ry
  ·rw[ae q,ae q];exact r g
 ·by_cases q:g=f
  ·rw[q];exact(keys_putF f y fs).1
  ·refine(keys_putF f y fs).2 g (wi g fun z=>hg ?_)
   show(if g=f then some u else mA g)=none
   rw[ae q];exact z
theorem Inv.made (I:Inv X pins σ H s):Inv X pins σ (upd (upd H s.heap.objs.size (.own (s.heap.objs.size+1))) (s.heap.objs.size+1) (.ins C s.heap.objs.size []))
 { s with heap:=(s.heap.push PySem.W.emptyDict).push (PySem.W.instObj C s.heap.objs.size)}:=by
 have e1:(s.heap.push PySem.W.emptyDict).get? s.heap.objs.size=some PySem.W.emptyDict:=au s.heap rfl
 have e2:((s.heap.push PySem.W.emptyDict).push (PySem.W.instObj C s.heap.objs.size)).get? (s.heap.objs.size+1)=some (PySem.W.instObj C s.heap.objs.size):=by
  have:=au (s.heap.push PySem.W.emptyDict) (o:=PySem.W.instObj C s.heap.objs.size) rfl
  rwa [aY]at this
 have e3:(s.heap.push PySem.W.emptyDict).Ns s.heap.objs.size (fun _=>none):=⟨PySem.W.emptyDict,#[],_,e1,rfl,(fun e he=>absurd he (by simp)),fun _=>rfl⟩
 have I1:=I.laid (a:=s.heap.objs.size) (o:=.own (s.heap.objs.size+1)) (h':=s.heap.push PySem.W.emptyDict) (t':=s.toks) (fun b u q=>gxL _ q) (aa _) ⟨_,e1⟩
 refine I1.laid (a:=s.heap.objs.size+1) (o:=.ins C s.heap.objs.size []) (t':=s.toks) (fun b u q=>gxL _ q) (Nat.le_of_eq (aY _ _)) ?_
 have ne:s.heap.objs.size≠s.heap.objs.size+1:=aC (bL _)
 refine⟨by rw[dQ ne,dE],aX _,ne,e2,fun _=>none,(Heap.Ns1.of_empty e3).at fun o q=>gxL _ q,fun _=>True.intro,fun y hy=>absurd rfl hy⟩
theorem attr_of {prog:Program}{w:World}{env:Env}{e:Expr}{f:Str}{pos:Pos}{s:Shared}{Q:Value->Shared->Prop}(hb:attributeBase e f env (eval e env)=eval e env)
 (h:wpAny (model prog w) A (eval e env) (fun o s₁=>wpAny (model prog w) A (getAttr o f true) Q E s₁) E s):wpAny (model prog w) A (eval (.Attribute e f pos) env) Q E s :=
 Attribute_any_ h (by rw[arm_eval_Attribute,hb])
end
def tFld (K:PySem.W.Frag)(ta:TE)(f:Str):TE:=fun σ H Q=>ta σ H fun x H1=>∃ a C dx fs v,x=.ref a/\H1 a=some (.ins C dx fs)/\Cls K C/\NoAttr K C f/\fs.lookup f=some v/\Q v H1
def sFld (K:PySem.W.Frag)(ta tv:TE)(f:Str):TS:=fun D σ H=>tv σ H fun y H1=>ta σ H1 fun x H2=>∃ a C dx fs,x=.ref a/\H2 a=some (.ins C dx fs)/\Cls K C/\NoAttr K C f/\fs.length<1000 /\
 D.nx σ (upd H2 a (.ins C dx (putF f y fs)))
def InOp (X:Cx)(op:Operator)(rd:V->V->Hp->VK->Prop):Prop :=
 ∀(pins:List (Addr×Obj)) (s:Shared) (σ:St) (H:Hp) (x y:V) (u v:Value) (Q:VK),Inv X pins σ H s->RelV x u->RelV y v->rd x y H Q->wpAny (model X.prog X.w) X.A (inplaceOp op u v) (EP X pins σ Q) X.xe s
def sFldAug (K:PySem.W.Frag)(ta tv:TE)(rd:V->V->Hp->VK->Prop)(f:Str):TS:=fun D σ H=>ta σ H fun x H1=>∃ a C dx fs v,x=.ref a/\H1 a=some (.ins C dx fs)/\Cls K C/\NoAttr K C f/\fs.lookup f=some v /\
 tv σ H1 fun y H2=>rd v y H2 fun z H3=>∃ dx' fs',H3 a=some (.ins C dx' fs')/\fs'.length<1000/\D.nx σ (upd H3 a (.ins C dx' (putF f z fs')))
section
variable {X:Cx}{o e value:Expr}{f:Str}{pos pos' tpos:Pos}{ta tv:TE}
theorem pe_fld (he:PE X e ta)(hb:attributeBase e f X.env (eval e X.env)=eval e X.env):PE X (.Attribute e f pos) (tFld X.K ta f):=by
 intro pins s σ H Q I h
 refine attr_of hb (fo (he pins s σ H _ I h) fun u s1 hq4=>?_)
 obtain⟨x,H1,I1,rx,a,C,dx,fs,v,ex,ea,c,n,l,q⟩:=hq4
 subst ex
 obtain rfl:u=Value.ref a:=rx
 exact getattr_ok I1 ea c n l fun u' s2 I2 ru=>⟨v,H1,I2,ru,q⟩
theorem ps_fld (ha:PE X o ta)(hv:PE X value tv)(hs:swapsWith value (some (.Attribute o f pos')) pos.line X.env=pure false):PS X (.Assign [.Attribute o f pos'] value pos) (sFld X.K ta tv f):=by
 intro pins s σ H D I h
 refine plainObj_wpAny_Assign_Attribute (fo (hv pins s σ H _ I h) fun u s1 hq5=>?_) hs
 obtain⟨y,H1,I1,ry,q⟩:=hq5
 refine fo (ha pins s1 σ H1 _ I1 q) fun ov s2 hq6=>?_
 obtain⟨x,H2,I2,rx,a,C,dx,fs,ex,ea,c,n,l,q2⟩:=hq6
 subst ex
 obtain rfl:ov=Value.ref a:=rx
 exact setattr_ok I2 ea c n l ry fun s3 I3=>⟨σ,_,I3,q2⟩
theorem ps_fldaug {op:Operator}{rd:V->V->Hp->VK->Prop}(ha:PE X o ta)(hv:PE X value tv)(hop:InOp X op rd):PS X (.AugAssign (.Attribute o f tpos) op value pos) (sFldAug X.K ta tv rd f):=by
 intro pins s σ H D I h
 refine wpAny_AugAssign_AttributeAny (fo (ha pins s σ H _ I h) fun ov s1 hq0=>?_)
 obtain⟨x,H1,I1,rx,a,C,dx,fs,v,ex,ea,c,n,l,q⟩:=hq0
 subst ex
 obtain rfl:ov=Value.ref a:=rx
 refine getattr_ok I1 ea c n l fun u s2 I2 ru=>fo (hv pins s2 σ H1 _ I2 q) fun w3 s3 hq1=>?_
 obtain⟨y,H2,I3,ry,q3⟩:=hq1
 refine fo (hop pins s3 σ H2 v y u w3 _ I3 ru ry q3) fun w4 s4 hq2=>?_
 obtain⟨z,H3,I4,rz,dx',fs',ea',l',q4⟩:=hq2
 exact setattr_ok I4 ea' c n l' rz fun s5 I5=>⟨σ,_,I5,q4⟩
def rAdd:V->V->Hp->VK->Prop:=fun x y H Q=>∃ i j,x=.int i/\y=.int j/\Q (.int (i+j)) H
theorem in_add:InOp X .Add rAdd:=by
 rintro pins s σ H x y u v Q I rx ry ⟨i,j,rfl,rfl,q⟩
 obtain⟨t,rfl⟩:=(show ∃ t,u=Value.int i t from rx)
 obtain⟨t',rfl⟩:=(show ∃ t',v=Value.int j t' from ry)
 exact PyProof.Rows.iadd_int ⟨.int (i+j),H,I.tok _,⟨_,rfl⟩,q⟩
theorem methcall_of {pl:Sem Bool}{m:Str}{apos:Pos}{args:List Expr}{pins:List (Addr×Obj)}{s:Shared}{σ:St}{H:Hp}{Q:Value->Shared->Prop}{te:TE}(he:PE X e te)(I:Inv X pins σ H s)
 (h:te σ H fun x H1=>∃ a C dx fs g,x=.ref a/\H1 a=some (.ins C dx fs)/\Cls X.K C/\Meth X.K C m g/\fs.lookup m=none /\
   ∀ s1,Inv X pins σ H1 s1->wpAny (model X.prog X.w) X.A (callWith pos (.ref g) [.ref a] (backTo pos (starEach args X.env)) (backToKw pos (keywordEach [] X.env))) Q X.xe s1)
 (ht:eval (.Call (.Attribute e m apos) args [] pos) X.env=(do
   let ov <- eval e X.env
   standAt apos.atName
   let (f,first) <- holding [ov] (getMethod ov m pl)
   callWith pos f first (backTo pos (starEach args X.env)) (backToKw pos (keywordEach [] X.env)))) :
 wpAny (model X.prog X.w) X.A (eval (.Call (.Attribute e m apos) args [] pos) X.env) Q X.xe s:=by
 refine PySem.W.methodCall_KW (pl:=pl) (fo (he pins s σ H _ I h) fun u s1 hq3=>?_) ht
 obtain⟨x,H1,I1,rx,a,C,dx,fs,g,ex,ea,c,k,l,q⟩:=hq3
 subst ex
 obtain rfl:u=Value.ref a:=rx
 exact getmeth_ok I1 ea c k l (q s1 I1)
end
section
variable {X:Cx}{pins:List (Addr×Obj)}{σ:St}{H:Hp}{s:Shared}{A:Around}{E:Value->Shared->Prop}{Q:Value->Shared->Prop}{c:Value}{b:Bool}
inductive TyOf (K:PySem.W.Frag)(H:Hp):V->Value->Prop where
 | fB:TyOf K H .fB (.type "NoneType")
 | bl (x:Bool):TyOf K H (.bl x) (.type "bool")
 | int (i:Int):TyOf K H (.int i) (.type "int")
 | str (x:Str):TyOf K H (.str x) (.type "str")
 | flt (x:UInt64):TyOf K H (.flt x) (.type "float")
 | lst {a:Addr} {xs:List V} (e:H a=some (.lst xs)):TyOf K H (.ref a) (.type "list")
 | frz {a:Addr} {o:Obj} {xs:List V} (e:H a=some (.frz o (.lst xs))):TyOf K H (.ref a) (.type "list")
 | tup {a:Addr} {xs:List V} (e:H a=some (.tup xs)):TyOf K H (.ref a) (.type "tuple")
 | dK {a:Addr} {kvs:List (Key×V)} (e:H a=some (.dK kvs)):TyOf K H (.ref a) (.type "dict")
 | dT {a:Addr} {kvs:List (List Key×V)} (e:H a=some (.dT kvs)):TyOf K H (.ref a) (.type "dict")
 | ins {a C dx:Addr} {fs:List (Str×V)} (e:H a=some (.ins C dx fs)) (cl:Cls K C) (ha:PySem.W.findIn K (.ref C) "__class__"=some (some (.builtin "object.__class__")))
  (hn:PySem.W.specialIn K (.builtin "object.__class__") "__get__"=some (some (.builtin "getset_descriptor.__get__"))) (htk:PySem.W.takesIn K (.builtin "object.__class__")=some true)
  (hm:PySem.W.mroIn K C (.type "object")=some true):TyOf K H (.ref a) (.ref C)
theorem isinst_ok {x:V}{u t:Value}(I:Inv X pins σ H s)(rx:RelV x u)(ty:TyOf X.K H x t)(e:PySem.W.kitOne X.K t c=some b)(h:∀ tk,Q (.bool b) { s with toks:=tk}) :
 wpAny (model X.prog X.w) A (call (.builtin "isinstance") [u,c]) Q E s:=by
 cases ty with
 | fB=>cases(show u=Value.none from rx);exact bh PySem.W.kitx_none I.kIn True.intro e (fun z=>nomatch z) h
 | bl y=>cases(show u=Value.bool y from rx);exact bh PySem.W.kitx_bool I.kIn True.intro e (fun z=>nomatch z) h
 | int i=>obtain⟨t,q⟩:=(show ∃ t,u=Value.int i t from rx);cases q;exact bh PySem.W.kitx_int I.kIn True.intro e (fun z=>nomatch z) h
 | str y=>obtain⟨t,q⟩:=(show ∃ t,u=Value.str y t from rx);cases q;exact bh PySem.W.kitx_str I.kIn True.intro e (fun z=>nomatch z) h
 | flt y=>obtain⟨t,q⟩:=(show ∃ t,u=Value.float y t from rx);cases q;exact bh PySem.W.kitx_float I.kIn True.intro e (fun z=>nomatch z) h
 | @lst a xs ea =>
  cases(show u=Value.ref a from rx)
  obtain⟨_,_,n,_,h1⟩:=(show fj X.prog X.w H s.heap a (.lst xs)from I.dX a _ ea)
  exact bh PySem.W.kitx_list I.kIn ⟨_,h1,rfl⟩ e (fun z=>nomatch z) h
 | @frz a ob xs ea =>
  cases(show u=Value.ref a from rx)
  obtain⟨_,_,_,n,_,h1⟩:=(show fj X.prog X.w H s.heap a (.frz ob (.lst xs))from I.dX a _ ea)
  exact bh PySem.W.kitx_list I.kIn ⟨_,h1,rfl⟩ e (fun z=>nomatch z) h
 | @tup a xs ea =>
  cases(show u=Value.ref a from rx)
  obtain⟨_,_,_,p⟩:=(show fj X.prog X.w H s.heap a (.tup xs)from I.dX a _ ea)
  obtain⟨o,h1,h2,_⟩:=p
  exact bh PySem.W.kitx_tuple I.kIn ⟨o,h1,h2⟩ e (fun z=>nomatch z) h
 | @dK a kvs ea =>
  cases(show u=Value.ref a from rx)
  obtain⟨_,_,vs,_,p⟩:=(show fj X.prog X.w H s.heap a (.dK kvs)from I.dX a _ ea)
  obtain⟨o,es,ep,h1,h2,_⟩:=p
  exact bh PySem.W.kitx_dict I.kIn ⟨o,h1,h2.1⟩ e (fun z=>nomatch z) h
 | @dT a kvs ea =>
  cases(show u=Value.ref a from rx)
  obtain⟨_,_,xs,_,o,es,ep,h1,h2,_⟩:=(show fj X.prog X.w H s.heap a (.dT kvs)from I.dX a _ ea)
  exact bh PySem.W.kitx_dict I.kIn ⟨o,h1,h2.1⟩ e (fun z=>nomatch z) h
 | @ins a C dx fs ea cl ha hn htk hm =>
  cases(show u=Value.ref a from rx)
  obtain⟨mA,O,_⟩:=ins_get I.dX ea
  obtain⟨od,J,_⟩:=O.look
  exact bh (PySem.W.kitx_own (cl.get _) cl.hd ha hn htk hm) I.kIn J e (fun z=>nomatch z) h
end
structure Room (k:Nat)(A:Around):Prop where
 hd:A.handled=none
 dp:A.depth+3*k+5<recursionLimit
 un:A.units+16*k+200<cLine
theorem Room.mono {j k:Nat}{A:Around}(r:Room k A)(h:j<=k):Room j A:=⟨r.hd,by have:=r.dp;omega,by have:=r.un;omega⟩
theorem Room.deeper {k:Nat}{A:Around}(r:Room (k+1) A)(env:Env):Room k (A.deeper env) :=
 ⟨r.hd,by have:=r.dp;show A.depth+1+3*k+5<_;omega,by have:=r.un;show A.units+3+16*k+200<_;omega⟩
theorem make_depth {A:Around}{C:Addr}{us:List Value}{kw:List (Str×Value)}:(A.under (.builtin "type.__call__" ⟨.ref C::us,kw⟩)).depth=A.depth+1:=by
 first | rfl | simp[Around.under,Code.weight,Code.isCreation,Code.isGuard,Code.isCaller,Code.frames,Code.isFrame,guardIds]
theorem make_units {A:Around}{C:Addr}{us:List Value}{kw:List (Str×Value)}:(A.under (.builtin "type.__call__" ⟨.ref C::us,kw⟩)).units=A.units+1:=by
 first | rfl | simp[Around.under,Code.cUnits,Code.frames,Code.isFrame]
theorem Room.make {k:Nat}{A:Around}(r:Room (k+1) A)(C:Addr)(us:List Value)(kw:List (Str×Value)):Room k (A.under (.builtin "type.__call__" ⟨.ref C::us,kw⟩)) :=
 ⟨r.hd,by have:=r.dp;rw[make_depth];omega,by have:=r.un;rw[make_units];omega⟩
theorem Room.depth {k:Nat}{A:Around}(r:Room k A):A.depth<recursionLimit:=by have:=r.dp;omega
theorem Room.units {k:Nat}{A:Around}(r:Room k A):A.units+64<cLine:=by have:=r.un;omega
def tNil:TA:=fun _ H Q=>Q [] H
def tCons (ta:TE)(tr:TA):TA:=fun σ H Q=>ta σ H fun x H1=>tr σ H1 fun xs H2=>Q (x::xs) H2
section
variable {X:Cx}{e:Expr}{es:List Expr}{te:TE}{t:TA}{pos:Pos}
theorem pa_nil:PA X [] tNil:=fun _ _ _ _ H Q I h=>Calls.spliced_nil ⟨[],H,I,.nil,h⟩
theorem dN (ha:PE X e te)(hr:PA X es t)(hs:starEach (e::es) X.env=(false,eval e X.env)::starEach es X.env:=by rfl):PA X (e::es) (tCons te t):=by
 intro pos pins s σ H Q I h
 rw[hs]
 show wpAny _ _ (spliced ((false,eval e X.env)::backTo pos (starEach es X.env))) _ _ s
 refine Calls.spliced_cons (fo (ha pins s σ H _ I h) fun u s1 hq4=>?_)
 obtain⟨x,H1,I1,r1,q1⟩:=hq4
 exact fo (hr pos pins s1 σ H1 _ I1 q1) fun us s2 hq5=>by obtain⟨xs,H2,I2,r2,q2⟩:=hq5;exact⟨x::xs,H2,I2,.cons r1 r2,q2⟩
def tTup (t:TA):TE:=fun σ H Q=>t σ H fun xs H1=>xs.length<=sizeLine/\∀ p,H1 p=none->Q (.ref p) (upd H1 p (.tup xs))
def tLst (t:TA):TE:=fun σ H Q=>t σ H fun xs H1=>xs.length<=sizeLine/\∀ p,H1 p=none->Q (.ref p) (upd H1 p (.lst xs))
theorem pe_tup {x1}(h:PA X es t):PE X (.Tuple es x1 pos) (tTup t):=by
 intro pins s σ H Q I hq
 refine wpAny_Tuple_spliced (fo (h pos pins s σ H _ I hq) fun us s1 ⟨xs,H1,I1,r,z,q⟩=>⟨by rw[<- r.length];exact z,?_⟩)
 have hf:H1 s1.heap.objs.size=none:=I1.dX.fresh (aa _)
 refine⟨.ref s1.heap.objs.size,upd H1 s1.heap.objs.size (.tup xs),I1.laid (t':=s1.toks) (fun b u e=>gxL _ e) (aa _) ?_,rfl,q _ hf⟩
 exact⟨z,us,r,⟨_,au _ rfl,rfl,_,rfl⟩⟩
theorem pe_lst (h:PA X es t):PE X (.List es pos) (tLst t):=by
 intro pins s σ H Q I hq
 refine wpAny_List_spliced (fo (h pos pins s σ H _ I hq) fun us s1 ⟨xs,H1,I1,r,z,q⟩=>⟨by rw[<- r.length];exact z,?_⟩)
 have hf:H1 s1.heap.objs.size=none:=I1.dX.fresh (aa _)
 refine⟨.ref s1.heap.objs.size,upd H1 s1.heap.objs.size (.lst xs),I1.laid (t':=s1.toks) (fun b u e=>gxL _ e) (aa _) ?_,rfl,q _ hf⟩
 exact⟨z,us,0,r,au _ rfl⟩
end
abbrev Sp:=List V->Hp->VK->XK->Prop
abbrev CXT:=List Env->Hp->Shared->XK->Value->Shared->Prop
structure Env0 (P:Program)(w:World)(K:PySem.W.Frag)(mg:Str->Option Value)(base:Heap)(A:Around)(outer:List Env)(s:Shared)(H:Hp):Prop where
 frames:A.frames=some outer
 mod:Mod K mg base
 bs:∀ b o,base.get? b=some o->s.heap.get? b=some o/\H b=none
 bsz:base.objs.size<=s.heap.objs.size
 funs:s.heap.FunFrames base outer
 frf:∀ b∈frs outer,H b=none
 dX:HOk P w H s.heap
 bare:AllBare s.gens
def CE (outer:List Env)(P:Program)(w:World)(H:Hp)(s:Shared)(Q:VK)(u:Value)(s':Shared):Prop :=
 ∃ v H',s'.os=s.os/\AllBare s'.gens/\Un (frs outer) [] H H' s.heap s'.heap/\HOk P w H' s'.heap/\RelV v u/\Q v H'
def CR (CX:CXT)(outer:List Env)(P:Program)(w:World)(H:Hp)(s:Shared)(Q:VK)(E:XK)(r:Result)(s':Shared):Prop :=
 match r with
 | .ok (.ret u)=>CE outer P w H s Q u s'
 | .ok _=>False
 | .error e=>CX outer H s E e s'
structure d8 (P:Program)(w:World)(K:PySem.W.Frag)(mg:Str->Option Value)(base:Heap)(CX:CXT)(k:Nat)(f:Addr)(fd:FuncData)(ps:List Str)(sp:Sp):Prop where
 len:∀ vs H Q E,sp vs H Q E->vs.length=ps.length
 run:∀(A:Around) (outer:List Env) (s:Shared) (H:Hp) (args:Args) (us:List Value) (vs:List V) (Q:VK) (E:XK),Room k A->Env0 P w K mg base A outer s H->BindsTo s fd args (ps.zip us)->Vals vs us->sp vs H Q E ->
  codeAny (model P w) A (.call (.ref f) args) (CR CX outer P w H s Q E) s
theorem d8.mono {P:Program}{w:World}{K:PySem.W.Frag}{mg:Str->Option Value}{base:Heap}{CX:CXT}{j k:Nat}{f:Addr}{fd:FuncData}{ps:List Str}{sp:Sp}(F:d8 P w K mg base CX j f fd ps sp)(h:j<=k) :
 d8 P w K mg base CX k f fd ps sp:=⟨F.len,fun A outer s H args us vs Q E hr=>F.run A outer s H args us vs Q E (hr.mono h)⟩
theorem d8.imp {P:Program}{w:World}{K:PySem.W.Frag}{mg:Str->Option Value}{base:Heap}{CX:CXT}{k:Nat}{f:Addr}{fd:FuncData}{ps:List Str}{sp sp':Sp}(F:d8 P w K mg base CX k f fd ps sp)
 (h:∀ vs H Q E,sp' vs H Q E->sp vs H Q E):d8 P w K mg base CX k f fd ps sp' :=
 ⟨fun vs H Q E q=>F.len vs H Q E (h _ _ _ _ q),fun A outer s H args us vs Q E hr he hb hv hs=>F.run A outer s H args us vs Q E hr he hb hv (h _ _ _ _ hs)⟩
theorem Env0.make {P:Program}{w:World}{K:PySem.W.Frag}{mg:Str->Option Value}{base:Heap}{A:Around}{outer:List Env}{s:Shared}{H:Hp}(e:Env0 P w K mg base A outer s H)(C:Addr)(us:List Value)(kw:List (Str×Value)) :
 Env0 P w K mg base (A.under (.builtin "type.__call__" ⟨.ref C::us,kw⟩)) outer s H:=⟨by first | exact e.frames | (simpa [Around.under,Code.envs,Code.isFrame,pushEnvs]using e.frames),e.mod,e.bs,e.bsz,e.funs,e.frf,e.dX,e.bare⟩
section
variable {X:Cx}{pins:List (Addr×Obj)}{σ:St}{H:Hp}{s s':Shared}
theorem Inv.env0 (I:Inv X pins σ H s):Env0 X.prog X.w X.K X.mg X.base X.A X.stack s H :=
 ⟨I.ok.frames,I.ok.mod,I.bs,aw I.ok.bsz I.sz,I.stack,I.stkFree,I.dX,I.bare⟩
theorem Inv.after {Q:VK}{u:Value}(I:Inv X pins σ H s)(h:CE X.stack X.prog X.w H s Q u s'):EP X pins σ Q u s':=by
 obtain⟨v,H',os,bare,un,dX,r,q⟩:=h
 obtain⟨hh,g,d,t,os'⟩:=s'
 obtain rfl:os'=s.os:=os
 exact⟨v,H',I.call (h':=hh) (g':=g) (d':=d) (t':=t) (ch:=[]) un dX bare (fun b z=>absurd z (by simp)),r,q⟩
end
def tCall (sp:Sp)(dvs:List V)(E:XK)(t:TA):TE:=fun σ H Q=>t σ H fun vs H1=>sp (vs++dvs) H1 Q E
def tMeth (C:Addr)(m:Str)(sp:Sp)(dvs:List V)(E:XK)(ta:TE)(t:TA):TE:=fun σ H Q=>ta σ H fun x H1=>∃ a dx fs,x=.ref a/\H1 a=some (.ins C dx fs)/\fs.lookup m=none /\
 t σ H1 fun vs H2=>sp (x::(vs++dvs)) H2 Q E
def tMake (C:Addr)(sp:Sp)(dvs:List V)(E:XK)(t:TA):TE:=fun σ H Q=>t σ H fun vs H1=>∀ x dx,H1 x=none->H1 dx=none->dx≠x ->
 sp (.ref x::(vs++dvs)) (upd (upd H1 dx (.own x)) x (.ins C dx [])) (fun v H2=>v=.fB/\Q (.ref x) H2) E
def Binds (K:PySem.W.Frag)(fd:FuncData)(ps:List Str)(ds:List Value):Prop :=
 ∀(s:Shared) (us:List Value),K.In s.heap->(us++ds).length=ps.length->BindsTo s fd ⟨us,[]⟩ (ps.zip (us++ds))
theorem Binds.all {K:PySem.W.Frag}{fd:FuncData}{ps:List Str}(h:∀ us:List Value,us.length=ps.length->bindArgs fd ⟨us,[]⟩=pure (ps.zip us)):Binds K fd ps []:=fun s us _ hl=>by
 rw[aP]at hl ⊢
 exact .of_eq (h us hl)
def Passes (CX:CXT)(X:Cx)(E:XK):Prop:=∀(pins:List (Addr×Obj)) (σ:St) (H:Hp) (s:Shared) (e:Value) (s':Shared),Inv X pins σ H s->CX X.stack H s E e s'->X.xe e s'
section
variable {X:Cx}{CX:CXT}{k:Nat}{f C:Addr}{fd:FuncData}{ps:List Str}{sp:Sp}{dvs:List V}{ds:List Value}{E:XK}{x m:Str}{p pos apos:Pos}{e o:Expr}{es:List Expr}{ta:TE}{t:TA}
theorem run_fn {pins:List (Addr×Obj)}{σ:St}{H:Hp}{s:Shared}{Q:VK}{us:List Value}{vs:List V}(F:d8 X.prog X.w X.K X.mg X.base CX k f fd ps sp)(hr:Room k X.A)(hb:Binds X.K fd ps ds)(hd:Vals dvs ds)(hx:Passes CX X E)
 (I:Inv X pins σ H s) (r:Vals vs us) (h:sp (vs++dvs) H Q E):wpAny (model X.prog X.w) X.A (call (.ref f) us) (EP X pins σ Q) X.xe s:=by
 have r2:Vals (vs++dvs) (us++ds):=r.append hd
 have hl:(us++ds).length=ps.length:=by rw[<- r2.length];exact F.len _ _ _ _ h
 refine wpAny_call (codeAny_mono (F.run X.A X.stack s H ⟨us,[]⟩ (us++ds) (vs++dvs) Q E hr I.env0 (hb s us I.kIn hl) r2 h) fun r s' hq=>?_)
 cases r with
 | error e=>exact hx pins σ H s e s' I hq
 | ok fl =>
  cases fl with
  | ret u=>exact I.after hq
  | next=>exact False.elim hq
  | brk=>exact False.elim hq
  | cont=>exact False.elim hq
theorem pe_call (F:d8 X.prog X.w X.K X.mg X.base CX k f fd ps sp)(hr:Room k X.A)(hg:Gl X x)(hm:X.mg x=some (.ref f))(hk:PySem.W.keepIn X.K (.ref f)=true)(hb:Binds X.K fd ps ds)(hd:Vals dvs ds)(hx:Passes CX X E)
 (ha:PA X (e::es) t) (hdb:(x==("__debug__" : Str))=false:=by decide) (he:starEach (e::es) X.env=(false,eval e X.env)::starEach es X.env:=by rfl) (hpl:(backTo pos (starEach es X.env)).any (·.1)=false:=by rfl) :
 PE X (.Call (.Name x p) (e::es) [] pos) (tCall sp dvs E t):=by
 intro pins s σ H Q I h
 refine bJ (ld_glob I hg hm ?_ hdb)
 refine cq (h₀:=X.base) I.ok.mod.kin hk (fo (ha pos pins s σ H _ I h) fun us s1 hq1=>?_) he hpl
 obtain⟨vs,H1,I1,r,q⟩:=hq1
 refine⟨I1.kIn,?_⟩
 exact run_fn F hr hb hd hx I1 r q
theorem pe_meth {pl:Sem Bool}(he:PE X o ta)(c:Cls X.K C)(hm:Meth X.K C m f)(F:d8 X.prog X.w X.K X.mg X.base CX k f fd ps sp)(hr:Room k X.A)(hb:Binds X.K fd ps ds)(hd:Vals dvs ds)(hx:Passes CX X E)(ha:PA X (e::es) t)
 (hst:starEach (e::es) X.env=(false,eval e X.env)::starEach es X.env:=by rfl) (hpl:(backTo pos (starEach es X.env)).any (·.1)=false:=by rfl)
 (ht:eval (.Call (.Attribute o m apos) (e::es) [] pos) X.env=(do
   let ov <- eval o X.env
   standAt apos.atName
   let (f,first) <- holding [ov] (getMethod ov m pl)
   callWith pos f first (backTo pos (starEach (e::es) X.env)) (backToKw pos (keywordEach [] X.env))):=by rfl) :
 PE X (.Call (.Attribute o m apos) (e::es) [] pos) (tMeth C m sp dvs E ta t):=by
 intro pins s σ H Q I h
 refine PySem.W.methodCall_KW (pl:=pl) (fo (he pins s σ H _ I h) fun u s1 hq2=>?_) ht
 obtain⟨x,H1,I1,rx,a,dx,fs,ex,ea,l,q⟩:=hq2
 subst ex
 obtain rfl:u=Value.ref a:=rx
 refine getmeth_ok I1 ea c hm l ?_
 refine cq (first:=[.ref a]) (h₀:=X.base) I.ok.mod.kin hm.kp (fo (ha pos pins s1 σ H1 _ I1 q) fun us s2 hq3=>?_) hst hpl
 obtain⟨vs,H2,I2,r,q2⟩:=hq3
 refine⟨I2.kIn,?_⟩
 exact run_fn (us:=.ref a::us) (vs:=.ref a::vs) F hr hb hd hx I2 (.cons rfl r) q2
theorem pe_meth0 {pl:Sem Bool}(he:PE X o ta)(c:Cls X.K C)(hm:Meth X.K C m f)(F:d8 X.prog X.w X.K X.mg X.base CX k f fd ps sp)(hr:Room k X.A)(hb:Binds X.K fd ps ds)(hd:Vals dvs ds)(hx:Passes CX X E)
 (ht:eval (.Call (.Attribute o m apos) [] [] pos) X.env=(do
   let ov <- eval o X.env
   standAt apos.atName
   let (f,first) <- holding [ov] (getMethod ov m pl)
   callWith pos f first (backTo pos (starEach [] X.env)) (backToKw pos (keywordEach [] X.env))):=by rfl) :
 PE X (.Call (.Attribute o m apos) [] [] pos) (tMeth C m sp dvs E ta tNil):=by
 intro pins s σ H Q I h
 refine PySem.W.methodCall_KW (pl:=pl) (fo (he pins s σ H _ I h) fun u s1 hq4=>?_) ht
 obtain⟨x,H1,I1,rx,a,dx,fs,ex,ea,l,q⟩:=hq4
 subst ex
 obtain rfl:u=Value.ref a:=rx
 refine getmeth_ok I1 ea c hm l ?_
 exact PySem.W.callWith_K0 (first:=[.ref a]) I1.kIn hm.kp (run_fn (us:=[.ref a]) (vs:=[.ref a]) F hr hb hd hx I1 (.cons rfl .nil) q)
structure Mk (K:PySem.W.Frag)(C f:Addr):Prop where
 makes:PySem.W.makesIn K C=true
 init:PySem.W.findIn K (.ref C) "__init__"=some (some (.ref f))
 fn:PySem.W.isFn K (.ref f)=true
 kp:PySem.W.keepIn K (.ref C)=true
theorem run_make {pins:List (Addr×Obj)}{σ:St}{H:Hp}{s:Shared}{Q:VK}{us:List Value}{vs:List V}(M:Mk X.K C f)(F:d8 X.prog X.w X.K X.mg X.base CX k f fd ps sp)(hr:Room (k+1) X.A)(hb:Binds X.K fd ps ds)(hd:Vals dvs ds)
 (hx:Passes CX X E) (I:Inv X pins σ H s) (r:Vals vs us)
 (h:∀ x dx,H x=none->H dx=none->dx≠x->sp (.ref x::(vs++dvs)) (upd (upd H dx (.own x)) x (.ins C dx [])) (fun v H2=>v=.fB/\Q (.ref x) H2) E) :
 wpAny (model X.prog X.w) X.A (call (.ref C) us) (EP X pins σ Q) X.xe s:=by
 have hq:=h (s.heap.objs.size+1) s.heap.objs.size (I.dX.fresh (Nat.le_succ _)) (I.dX.fresh (aa _)) (aC (bL _))
 have I2:=Inv.made (C:=C) I
 have r2:Vals (V.ref (s.heap.objs.size+1)::(vs++dvs)) (Value.ref (s.heap.objs.size+1)::(us++ds)):=.cons rfl (r.append hd)
 have hl:(Value.ref (s.heap.objs.size+1)::us++ds).length=ps.length:=by
  have e:=r2.length
  rw[F.len _ _ _ _ hq]at e
  exact e.symm
 refine wpAny_call (make_map (f:=f) I.kIn M.makes M.init (beq_iff_eq.mp M.fn) (codeAny_mono (F.run _ X.stack _ _ ⟨Value.ref (s.heap.objs.size+1)::us,[]⟩ (Value.ref (s.heap.objs.size+1)::(us++ds)) _ _ E (hr.make C us [])
  (I2.env0.make C us []) (hb _ (Value.ref (s.heap.objs.size+1)::us) I2.kIn hl) r2 hq) fun r s' hq'=>?_))
 cases r with
 | error e=>exact hx pins σ _ _ e s' I2 hq'
 | ok fl =>
  cases fl with
  | ret u =>
   obtain⟨v,H',I3,rv,ev,q3⟩:=I2.after hq'
   subst ev
   exact⟨rv,⟨V.ref (s.heap.objs.size+1),H',I3,rfl,q3⟩⟩
  | next=>exact False.elim hq'
  | brk=>exact False.elim hq'
  | cont=>exact False.elim hq'
theorem pe_make (M:Mk X.K C f)(F:d8 X.prog X.w X.K X.mg X.base CX k f fd ps sp)(hr:Room (k+1) X.A)(hg:Gl X x)(hm:X.mg x=some (.ref C))(hb:Binds X.K fd ps ds)(hd:Vals dvs ds)(hx:Passes CX X E)
 (ha:PA X (e::es) t) (hdb:(x==("__debug__" : Str))=false:=by decide) (he:starEach (e::es) X.env=(false,eval e X.env)::starEach es X.env:=by rfl) (hpl:(backTo pos (starEach es X.env)).any (·.1)=false:=by rfl) :
 PE X (.Call (.Name x p) (e::es) [] pos) (tMake C sp dvs E t):=by
 intro pins s σ H Q I h
 refine bJ (ld_glob I hg hm ?_ hdb)
 refine cq (h₀:=X.base) I.ok.mod.kin M.kp (fo (ha pos pins s σ H _ I h) fun us s1 hq5=>?_) he hpl
 obtain⟨vs,H1,I1,r,q⟩:=hq5
 refine⟨I1.kIn,?_⟩
 exact run_make M F hr hb hd hx I1 r q
end
structure dw (N P:List Str)(sc:Scope):Prop where
 kind:sc.kind=.function
 co:sc.isCoroutine=false
 gen:sc.isGenerator=false
 nd:N.Nodup
 pre:N.take P.length=P
 par:∀ x∈P,sc.names.lookup x=some .local\/sc.names.lookup x=some .cell
 nofree:∀ y∈sc.names,y.2≠.free
theorem bindL_out {kindOf:Str->Option NameKind}{x:Str}:∀ {binds:List (Str×Value)} {m:Str->Option Value},(∀ v,(x,v)∉binds)->bindL kindOf binds m x=m x
 | [],_,_=>rfl
 | (n,v)::r,m,h=>by
  unfold bindL
  rw[bindL_out fun w hw=>h w (gxI _ hw)]
  split
  ·have:x≠n:=by rintro rfl;exact h v av
   simp[this]
  ·rfl
theorem bindC_out {kindOf:Str->Option NameKind}{x:Str}:∀ {binds:List (Str×Value)} {m:Str->Option Value},(∀ v,(x,v)∉binds)->bindC kindOf binds m x=m x
 | [],_,_=>rfl
 | (n,v)::r,m,h=>by
  unfold bindC
  rw[bindC_out fun w hw=>h w (gxI _ hw)]
  split
  ·rfl
  ·have:x≠n:=by rintro rfl;exact h v av
   simp[this]
theorem bindL_get {kindOf:Str->Option NameKind}{x:Str}{v:Value}:∀ {P:List Str} {vs:List Value} {i:Nat} {m:Str->Option Value},P.Nodup->P[i]?=some x->vs[i]?=some v->kindOf x=some .local ->
 bindL kindOf (P.zip vs) m x=some v
 | [],_,_,_,_,h,_,_=>by simp at h
 | _::_,[],_,_,_,_,h,_=>by simp at h
 | p::P,w::vs,0,m,nd,h1,h2,hk=>by
  simp at h1 h2;subst h1;subst h2
  show bindL kindOf ((p,w)::P.zip vs) m p=_
  unfold bindL
  rw[bindL_out fun v hv=>(List.nodup_cons.mp nd).1 (List.of_mem_zip hv).1,ag hk]
  simp
 | p::P,w::vs,i+1,m,nd,h1,h2,hk=>by
  show bindL kindOf ((p,w)::P.zip vs) m x=_
  unfold bindL
  exact bindL_get (i:=i) (List.nodup_cons.mp nd).2 (by simpa using h1) (by simpa using h2) hk
theorem bindC_get {kindOf:Str->Option NameKind}{x:Str}{v:Value}:∀ {P:List Str} {vs:List Value} {i:Nat} {m:Str->Option Value},P.Nodup->P[i]?=some x->vs[i]?=some v->kindOf x≠some .local ->
 bindC kindOf (P.zip vs) m x=some v
 | [],_,_,_,_,h,_,_=>by simp at h
 | _::_,[],_,_,_,_,h,_=>by simp at h
 | p::P,w::vs,0,m,nd,h1,h2,hk=>by
  simp at h1 h2;subst h1;subst h2
  show bindC kindOf ((p,w)::P.zip vs) m p=_
  unfold bindC
  rw[bindC_out fun v hv=>(List.nodup_cons.mp nd).1 (List.of_mem_zip hv).1,ae hk]
  simp
 | p::P,w::vs,i+1,m,nd,h1,h2,hk=>by
  show bindC kindOf ((p,w)::P.zip vs) m x=_
  unfold bindC
  exact bindC_get (i:=i) (List.nodup_cons.mp nd).2 (by simpa using h1) (by simpa using h2) hk
def start (N:List Str)(vs:List V):St:=vs.map some++List.replicate (N.length - vs.length) none
def cxOf (CX:CXT)(P:Program)(w:World)(K:PySem.W.Frag)(mg:Str->Option Value)(base:Heap)(N:List Str)(qual:Str)(scope:Scope)(f:Addr)(cd:Value)(A:Around)(outer:List Env)(s:Shared)(H:Hp)(E:XK):Cx where
 prog:=P
 w:=w
 K:=K
 mg:=mg
 base:=base
 A:=A.deeper (envOfC qual scope s.heap.objs.size f cd)
 N:=N
 s₀:=s
 H₀:=H
 env:=envOfC qual scope s.heap.objs.size f cd
 outer:=outer
 stack:=envOfC qual scope s.heap.objs.size f cd::outer
 ex:=[]
 calm:=true
 fn:=fun _=>true
 pn:=[]
 xe:=fun e s'=>wpAny (model P w) (A.deeper (envOfC qual scope s.heap.objs.size f cd)) (leaving (envOfC qual scope s.heap.objs.size f cd) e) (fun _ s''=>CX outer H s E e s'') (fun e' s''=>CX outer H s E e' s'') s'
theorem cell_has {sc:Scope}{n:Nat}{x:Str}(h:sc.names.lookup x=some .cell):∃ c,(cellsFrom n sc.names []).lookup x=some c:=by
 have q:=c7 sc.names n [] (.inl h)
 exact Option.isSome_iff_exists.mp q
theorem inv_start {CX:CXT}{P:Program}{w:World}{K:PySem.W.Frag}{mg:Str->Option Value}{base:Heap}{N ps:List Str}{qual:Str}{scope:Scope}{f:Addr}{cd:Value}{A:Around}{outer:List Env}{s s1:Shared}{H:Hp}{E:XK}{us:List Value}{vs:List V}
 (S:dw N ps scope) (hd:A.handled=none) (e0:Env0 P w K mg base A outer s H) (hl:vs.length=ps.length) (r:Vals vs us)
 (x:InCallC s s.heap.objs.size (bindL (envOfC qual scope s.heap.objs.size f cd).kindOf (ps.zip us) fun _=>none) (cellsFrom (s.heap.objs.size+1) scope.names []) (bindC (envOfC qual scope s.heap.objs.size f cd).kindOf (ps.zip us) fun _=>none) s1) :
 Inv (cxOf CX P w K mg base N qual scope f cd A outer s H E) [] (start N vs) H s1:=by
 have hpl:ps.length<=N.length:=by have:=bD List.length S.pre;rw[aM]at this;omega
 obtain⟨h1,tk,rfl,hk⟩:=x.done
 have noA:∀ b:Addr,b∉(cxOf CX P w K mg base N qual scope f cd A outer s H E).ex:=fun b z=>absurd (show b∈([]:List Addr)from z) (by simp)
 refine⟨⟨e0.mod,S.kind,rfl,rfl,aa _,fun y z c h1 h2=>?_,fun y hy=>?_,fun y c _ h=>?_,fun _=>hd,Around.frames_deeper e0.frames,.inr ⟨rfl,rfl⟩,fun b z=>absurd z (noA b),e0.bs,e0.bsz,fun b _ _=>noA b,fun b z=>absurd z (noA b),e0.funs,e0.frf⟩,
  rfl,e0.bare,Un.kept hk,⟨_,x.toInCall.ns,fun i y v h1 h2 h3=>?_⟩,fun y c h=>⟨_,x.cell y c h⟩,e0.dX.fresh (aa _),fun y c h=>?_,fun p hp=>absurd (show p∈([]:List (Addr×Obj))from hp) (by simp),e0.dX.kept hk,?_⟩
 ·exact name_of_addr x.apart (cb h1) (cb h2)
 ·have hy:scope.names.lookup y=some .cell\/scope.names.lookup y=some .free:=hy
  rcases hy with hy | hy
  ·exact cell_has hy
  ·exact absurd rfl (S.nofree _ (cb hy))
 ·exact Nat.le_of_lt (x.above y c (cb h))
 ·have hi:i<vs.length:=by
   unfold start at h2
   by_cases hi:i<vs.length
   ·exact hi
   ·rw[gxG (by simpa using hi)]at h2
    rw[List.getElem?_replicate]at h2
    split at h2 <;> cases h2
  have ha:vs[i]?=some v:=by
   unfold start at h2
   rw[gxF (by simpa using hi),gxH]at h2
   cases e:vs[i]? with
   | none=>rw[e]at h2;cases h2
   | some a=>rw[e]at h2;cases h2;rfl
  obtain⟨u,hu,rv⟩:=r.get ha
  have hp:ps[i]?=some y:=by
   rw[<- S.pre,bq (by omega)];exact h1
  have ndP:ps.Nodup:=by rw[<- S.pre];exact S.nd.sublist (List.take_sublist _ _)
  refine⟨u,rv,?_⟩
  rcases S.par y (gxD hp)with k | k
  ·exact .inl ⟨k,bindL_get ndP hp hu k⟩
  ·obtain⟨c,e⟩:=cell_has (n:=s.heap.objs.size+1) k
   refine .inr ⟨.inl k,c,e,?_⟩
   have q:=x.cell y c e
   rw[bindC_get ndP hp hu (by show scope.names.lookup y≠_;rw[k];decide)]at q
   exact q
 ·exact e0.dX.fresh (Nat.le_of_lt (x.above y c (cb h)))
 ·unfold start
  show _=N.length
  rw[gxE,fC,aI]
  omega
theorem fn_of {CX:CXT}{P:Program}{w:World}{K:PySem.W.Frag}{mg:Str->Option Value}{base:Heap}{k:Nat}{f:Addr}{name qual:Str}{params:Arguments}{body:List Stmt}{scope:Scope}{dV kV doc pm cdv ct oc:Value}{an od:Option Addr}
 {osl:Array (Option Value)} {N ps:List Str} {sp:Sp} (lk:K.lookup f=some ⟨oc,od,.func (PySem.W.fnOf name qual params body scope dV kV doc pm an cdv ct),osl⟩) (hcd:PySem.W.codeIn K cdv qual=true) (S:dw N ps scope)
 (len:∀ vs H Q E,sp vs H Q E->vs.length=ps.length)
 (hbody:∀(A:Around) (outer:List Env) (s:Shared) (H:Hp) (vs:List V) (Q:VK) (E:XK),Room k (A.deeper (envOfC qual scope s.heap.objs.size f cdv))->sp vs H Q E ->
   ∃ t,PSs (cxOf CX P w K mg base N qual scope f cdv A outer s H E) body t/\t { nx:=fun _ H'=>Q .fB H',rt:=Q} (start N vs) H) :
 d8 P w K mg base CX (k+1) f (PySem.W.fnOf name qual params body scope dV kV doc pm an cdv ct) ps sp:=by
 refine⟨len,fun A outer s H args us vs Q E hr e0 hb r hsp=>?_⟩
 have hl:=len _ _ _ _ hsp
 have KX:K.In s.heap:=e0.mod.kin.keeps fun b o e=>(e0.bs b o e).1
 have lim:s.heap.NoLimit:=e0.mod.nolimit.keeps fun b o e=>(e0.bs b o e).1
 have hkind:∀ y∈ps.zip us,scope.names.lookup y.1=some .local\/(scope.names.lookup y.1=some .cell/\((cellsFrom (s.heap.objs.size+1) scope.names []).lookup y.1).isSome=true):=fun⟨n,v⟩ hy=>by
  rcases S.par n (List.of_mem_zip hy).1 with q | q
  ·exact .inl q
  ·exact .inr ⟨q,c7 _ _ _ (.inl q)⟩
 refine codeAny_call_function hr.depth (KX _ _ lk) rfl S.co S.gen rfl (PySem.W.codeRec_of KX hcd) (hb _ _ _ _ ?_)
 refine wpAny_newFunctionEnv_cells S.kind hkind fun env he s1 x=>?_
 subst he
 refine⟨lim.keeps x.toInCall.keep,codeAny_func ?_⟩
 obtain⟨t,ht,hq⟩:=hbody A outer s H vs Q E (hr.deeper _) hsp
 have I:Inv (cxOf CX P w K mg base N qual scope f cdv A outer s H E) [] (start N vs) H s1:=inv_start S hr.hd e0 hl r x
 refine a6 (ht [] s1 (start N vs) H _ I hq) (fun fl s' hs=>?_) fun e s' hs=>hs
 have fin:∀ {σ':St} {H':Hp} {v:V} {u:Value},Inv (cxOf CX P w K mg base N qual scope f cdv A outer s H E) [] σ' H' s'->RelV v u->Q v H'->CE outer P w H s Q u s' :=
  fun {σ' H' v u} J rv q=>⟨v,H',J.os,J.bare,J.base,J.dX,rv,q⟩
 cases fl with
 | ret u =>
  obtain⟨v,σ',H',J,rv,q⟩:=hs
  exact fin J rv q
 | next =>
  obtain⟨σ',H',J,q⟩:=hs
  exact fin (v:=V.fB) (u:=Value.none) J rfl q
 | brk =>
  obtain⟨_,_,_,q⟩:=hs
  exact False.elim q
 | cont =>
  obtain⟨_,_,_,q⟩:=hs
  exact False.elim q
section
variable {X:Cx}{x:Str}{p pos:Pos}{e:Expr}{es:List Expr}{t:TA}{id T:String}{r:List V->Hp->VK->Prop}
def tCB (r:List V->Hp->VK->Prop)(t:TA):TE:=fun σ H Q=>t σ H fun vs H1=>r vs H1 Q
theorem eZ (hc:CallR X (.builtin id) r)(hg:Gl X x)(hm:X.mg x=none)(hv:bootBuiltins x=some (.builtin id))(ha:PA X (e::es) t)(hn:x ≠ "__name__":=by decide)(hdb:(x==("__debug__" : Str))=false:=by decide)
 (he:starEach (e::es) X.env=(false,eval e X.env)::starEach es X.env:=by rfl) (hpl:(backTo pos (starEach es X.env)).any (·.1)=false:=by rfl):PE X (.Call (.Name x p) (e::es) [] pos) (tCB r t):=by
 intro pins s σ H Q I h
 refine bJ (ld_blt I hg hm hv ?_ hn hdb)
 exact PyProof.Rows.callWith_builtin1 (fo (ha pos pins s σ H _ I h) fun us s1 hq6=>by obtain⟨vs,H1,I1,r1,q1⟩:=hq6;exact hc pins s1 σ H1 vs us Q I1 r1 q1) he hpl
theorem pe_callTy (hc:CallR X (.type T) r)(hg:Gl X x)(hm:X.mg x=none)(hv:bootBuiltins x=some (.type T))(ha:PA X (e::es) t)(hn:x ≠ "__name__":=by decide)(hdb:(x==("__debug__" : Str))=false:=by decide)
 (he:starEach (e::es) X.env=(false,eval e X.env)::starEach es X.env:=by rfl) (hpl:(backTo pos (starEach es X.env)).any (·.1)=false:=by rfl):PE X (.Call (.Name x p) (e::es) [] pos) (tCB r t):=by
 intro pins s σ H Q I h
 refine bJ (ld_blt I hg hm hv ?_ hn hdb)
 exact br (fo (ha pos pins s σ H _ I h) fun us s1 hq0=>by obtain⟨vs,H1,I1,r1,q1⟩:=hq0;exact hc pins s1 σ H1 vs us Q I1 r1 q1) he hpl
end
end L2
namespace HT
open PySem PyProof.Rows
section
variable {prog:Program}{w:World}{A:Around}{E:Value->Shared->Prop}{s:Shared}
def sIx (n d:Nat):Option Int->Nat
 | none=>d
 | some v=>if v<0 then(v+(n:Int)).toNat else min v.toNat n
theorem sIx_none (n d:Nat):sIx n d none=d:=rfl
theorem sIx_nat (n d k:Nat):sIx n d (some (k:Int))=min k n:=by
 show(if(k:Int)<0 then((k:Int)+(n:Int)).toNat else min (k:Int).toNat n)=min k n
 rw[ae (by omega),gxK]
theorem sIx_le (n d:Nat)(hd:d<=n)(o:Option Int):sIx n d o<=n:=by
 cases o with
 | none=>exact hd
 | some v =>
  show(if v<0 then(v+(n:Int)).toNat else min v.toNat n)<=n
  by_cases hv:v<0
  ·rw[ag hv];omega
  ·rw[ae hv];exact Nat.min_le_right _ _
theorem clip_eq (v:Int)(n d:Nat):(if v<0 then max (v+(n:Int)) 0 else min v (n:Int))=((sIx n d (some v):Nat):Int):=by
 show(if v<0 then max (v+(n:Int)) 0 else min v (n:Int))=(((if v<0 then(v+(n:Int)).toNat else min v.toNat n):Nat):Int)
 by_cases hv:v<0
 ·simp only[ag hv];omega
 ·simp only[ae hv];omega
theorem adjust_gen (lo hi:Option Int)(n:Nat):Builtin.Slice.sliceAdjust lo hi 1 (n:Int)=(((sIx n 0 lo:Nat):Int),((sIx n n hi:Nat):Int)):=by
 have h1:¬ ((1:Int)<0):=by omega
 unfold Builtin.Slice.sliceAdjust
 simp only[h1,if_false]
 refine Prod.ext ?_ ?_
 ·cases lo with
  | none=>rfl
  | some v=>exact clip_eq v n 0
 ·cases hi with
  | none=>rfl
  | some v=>exact clip_eq v n n
theorem places_gen (i j:Nat):Builtin.Slice.slicePlaces (i:Int) (j:Int) 1=j - i:=by
 unfold Builtin.Slice.slicePlaces
 have h1:(1:Int)>0:=by omega
 simp only[h1,if_true,Int.ediv_one]
 split <;> omega
theorem slicePart_ {v:Value}{o:Option Int}{Q:Option Int->Shared->Prop}(p:IsPart v o)(h:Q o s):wpAny (model prog w) A (Builtin.Slice.slicePartIndex v) Q E s:=by
 cases p with
 | none=>exact slicePart_none h
 | int i t=>exact slicePart_int h
theorem sliceApplied_gen {sl:Addr}{vl vu:Value}{lo hi:Option Int}{n:Nat}{Q:Int×Int×Nat->Shared->Prop}(hs:s.heap.IsSliceOf sl vl vu .none)(pl:IsPart vl lo)(pu:IsPart vu hi)
 (h:Q (((sIx n 0 lo:Nat):Int),1,sIx n n hi - sIx n 0 lo) s):wpAny (model prog w) A (Builtin.Slice.sliceApplied (.ref sl) (pure (n:Int))) Q E s:=by
 obtain⟨os,hos,hcs,hds⟩:=id hs
 unfold Builtin.Slice.sliceApplied Builtin.Slice.sliceFields
 refine dY (dY (aR hos hds (x:=vl) rfl (dY (aR hos hds (x:=vu) rfl (dY (aR hos hds (x:=.none) rfl (ah ?_)))))))
 refine dY (slicePart_none ?_)
 show wpAny _ _ (if((1:Int)==0)=true then _ else _) _ _ s
 rw[ae (by decide)]
 refine dY (slicePart_ pl (dY (slicePart_ pu (dY (ah ?_)))))
 show wpAny _ _ (match Builtin.Slice.sliceAdjust lo hi 1 (n:Int)with | (lo,hi)=>pure (lo,(1:Int),Builtin.Slice.slicePlaces lo hi 1)) _ _ s
 rw[adjust_gen lo hi n]
 show wpAny _ _ (pure (((sIx n 0 lo:Nat):Int),(1:Int),Builtin.Slice.slicePlaces ((sIx n 0 lo:Nat):Int) ((sIx n n hi:Nat):Int) 1)) _ _ s
 rw[places_gen]
 exact ah h
theorem pick_gen (xs:Array Value)(i k:Nat):((List.range k).filterMap fun(m:Nat)=>xs[((i:Int)+(m:Int)*1).toNat]?).toArray=((xs.toList.drop i).take k).toArray:=by
 have e:(fun(m:Nat)=>xs[((i:Int)+(m:Int)*1).toNat]?)=fun m=>xs[i+m]?:=by
  funext m
  have:((i:Int)+(m:Int)*1).toNat=i+m:=by omega
  rw[this]
 rw[e]
 have:=pick_run xs i k
 rw[List.filterMap_map]at this
 have e2:((fun x=>xs[x]?) ∘ fun x=>i+x)=fun m=>xs[i+m]?:=rfl
 rw[e2]at this
 rw[this]
theorem getItem_tuple_cut {t sl:Addr}{items:Array Value}{vl vu:Value}{lo hi:Option Int}{Q:Value->Shared->Prop}(ht:IsTup s.heap t items)(hs:s.heap.IsSliceOf sl vl vu .none)(pl:IsPart vl lo)(pu:IsPart vu hi)
 (hw:¬ (sIx items.size 0 lo=0/\sIx items.size items.size hi=items.size))
 (h:Q (.ref s.heap.objs.size) { s with heap:=s.heap.push { cls:=.type "tuple",data:=.seq ((items.toList.drop (sIx items.size 0 lo)).take (sIx items.size items.size hi - sIx items.size 0 lo)).toArray}})
 (hsz:items.size<=sizeLine):wpAny (model prog w) A (getItem (.ref t) (.ref sl)) Q E s:=by
 have htake:sizeOk (.seq ((items.toList.drop (sIx items.size 0 lo)).take (sIx items.size items.size hi - sIx items.size 0 lo)).toArray):=by
  show((items.toList.drop (sIx items.size 0 lo)).take (sIx items.size items.size hi - sIx items.size 0 lo)).toArray.size<=sizeLine
  rw[ar,aM,cj,bS]
  omega
 have hj:sIx items.size items.size hi<=items.size:=sIx_le _ _ (aa _) hi
 obtain⟨os,hos,hcs,hds⟩:=id hs
 have hTs:s.TypeIs (.ref sl) "slice":=⟨os,hos,hcs⟩
 unfold getItem
 try with_reducible refine bE ?_
 first | refine dY (ah ?_) | skip
 refine dY (wpAny_sequenceKey ht.typeIs (by decide) ?_)
 refine dY (bu (name:=Str.ofString "__getitem__") ht.typeIs PyProof.Rows.slot_tuple_getitem
  (bI PyProof.Rows.slot_tuple_getitem ht.typeIs entry_tuple_getitem ?_ (args_tuple_getitem _ _)))
 show wpAny _ _ (Builtin.Tuple.tupleItemsOf (.ref t) >>= _) _ _ s
 refine dY (tupleItemsOf_ ht ?_)
 refine dY (wpAny_typeOf hTs ?_)
 rw[ag (by decide)]
 refine dY (sliceApplied_gen hs pl pu ?_)
 have hno:¬ ((((sIx items.size 0 lo:Nat):Int)==0&&(1:Int)==1&&(sIx items.size items.size hi - sIx items.size 0 lo)==items.size)=true):=by
  intro q
  rw[bc,bc]at q
  have q1:((sIx items.size 0 lo:Nat):Int)=0:=eq_of_beq q.1.1
  have q2:sIx items.size items.size hi - sIx items.size 0 lo=items.size:=eq_of_beq q.2
  exact hw ⟨by omega,by omega⟩
 show wpAny _ _ (if(((sIx items.size 0 lo:Nat):Int)==0&&(1:Int)==1&&(sIx items.size items.size hi - sIx items.size 0 lo)==items.size)=true then _ else _) _ _ s
 rw[ae hno,pick_gen]
 first
  | exact dY (m:=Builtin.Tuple.tupleExact _) (aV (ah ⟨_,rfl,ah h⟩) htake)
  | exact dY (m:=Builtin.Tuple.tupleExact _) (aV (dY (ah (ah ⟨_,rfl,ah h⟩))) htake)
  | exact dY (dY (m:=Builtin.Tuple.tupleExact _) (aV (ah (ah ⟨_,rfl,ah h⟩)) htake))
  | exact dY (dY (m:=Builtin.Tuple.tupleExact _) (aV (ah ⟨_,rfl,ah h⟩) htake))
end
end HT
namespace L2
open PySem PySem.Spec PyProof.Rows
abbrev TO:=St->Hp->(Option Int->Hp->Prop)->Prop
def PO (X:Cx)(e:Option Expr)(t:TO):Prop :=
 ∀(pins:List (Addr×Obj)) (s:Shared) (σ:St) (H:Hp) (Q:Option Int->Hp->Prop),Inv X pins σ H s->t σ H Q ->
  wpAny (model X.prog X.w) X.A (evalPart e X.env) (fun u s'=>∃ o H',Inv X pins σ H' s'/\IsPart u o/\Q o H') X.xe s
def tNoPart:TO:=fun _ H Q=>Q none H
section
variable {X:Cx}{e:Expr}{te:TE}{lo hi:Option Expr}{tl th:TO}{pos p2:Pos}
theorem po_none:PO X none tNoPart:=by
 intro pins s σ H Q I h
 rw[evalPart_none]
 exact ah ⟨none,H,I,.none,h⟩
def SlR (X:Cx)(r:V->Option Int->Option Int->Hp->VK->Prop):Prop :=
 ∀(pins:List (Addr×Obj)) (s:Shared) (σ:St) (H:Hp) (x:V) (v vl vu:Value) (lo hi:Option Int) (sl:Addr) (Q:VK),Inv X pins σ H s->RelV x v->s.heap.IsSliceOf sl vl vu .none->IsPart vl lo->IsPart vu hi->r x lo hi H Q ->
  ∃ T id,typeLookup (.type T) "__getitem__"=pure (some (.builtin id))/\s.TypeIs v T/\wpAny (model X.prog X.w) X.A (getItem v (.ref sl)) (EP X pins σ Q) X.xe s
def tSl (r:V->Option Int->Option Int->Hp->VK->Prop)(te:TE)(tl th:TO):TE:=fun σ H Q=>te σ H fun x H1=>tl σ H1 fun l H2=>th σ H2 fun u H3=>r x l u H3 Q
theorem pe_slice {r:V->Option Int->Option Int->Hp->VK->Prop}(hr:SlR X r)(he:PE X e te)(hl:PO X lo tl)(hu:PO X hi th):PE X (.Subscript e (.Slice lo hi none p2) pos) (tSl r te tl th):=by
 intro pins s σ H Q I h
 refine Subscript_ (fo (he pins s σ H _ I h) fun v s1 hq1=>?_)
 obtain⟨x,H1,I1,r1,q1⟩:=hq1
 refine wpAny_Slice (fo (hl pins s1 σ H1 _ I1 q1) fun vl s2 hq2=>?_)
 obtain⟨l,H2,I2,pl,q2⟩:=hq2
 refine fo (hu pins s2 σ H2 _ I2 q2) fun vu s3 hq3=>?_
 obtain⟨u,H3,I3,pu,q3⟩:=hq3
 rw[evalPart_none]
 refine ah ?_
 have I4:Inv X pins σ H3 { s3 with heap:=s3.heap.push { cls:=.type "slice",data:=.fields #[vl,vu,.none]}}:=I3.kept (t':=s3.toks) fun b ob q=>gxL _ q
 obtain⟨T,id,hT,ht,hg⟩:=hr pins { s3 with heap:=s3.heap.push { cls:=.type "slice",data:=.fields #[vl,vu,.none]}} σ H3 x v vl vu l u s3.heap.objs.size Q I4 r1 (Heap.IsSliceOf.new ..) pl pu q3
 show wpAny (model X.prog X.w) X.A (subscriptTail e (.Slice lo hi none p2) v (.ref s3.heap.objs.size)) (EP X pins σ Q) X.xe { s3 with heap:=s3.heap.push { cls:=.type "slice",data:=.fields #[vl,vu,.none]}}
 exact tail_any (ops:=[.ref s3.heap.objs.size,v]) ht hT hg (by with_unfolding_all rfl)
def cutV (xs:List V)(lo hi:Option Int):List V:=(xs.drop (HT.sIx xs.length 0 lo)).take (HT.sIx xs.length xs.length hi - HT.sIx xs.length 0 lo)
theorem cutV_length (xs:List V)(lo hi:Option Int):(cutV xs lo hi).length<=xs.length:=by
 unfold cutV
 rw[aM,cj]
 omega
def rSlT (K:PySem.W.Frag):V->Option Int->Option Int->Hp->VK->Prop:=fun x lo hi H Q=>∃ a xs,x=.ref a/\SqT K H a xs /\
 ¬ (HT.sIx xs.length 0 lo=0/\HT.sIx xs.length xs.length hi=xs.length)/\∀ p,H p=none->Q (.ref p) (upd H p (.tup (cutV xs lo hi)))
theorem sl_tup:SlR X (rSlT X.K):=by
 intro pins s σ H x v vl vu lo hi sl Q I rx hs pl pu h
 obtain⟨a,xs,rfl,hx,hw,q⟩:=h
 cases rx
 obtain⟨d7,r,ht,hz⟩:=I.tuple hx
 have hlen:d7.toArray.size=xs.length:=by rw[ar];exact r.length.symm
 refine⟨"tuple",_,PyProof.Rows.slot_tuple_getitem.lookup,ht.typeIs,?_⟩
 refine HT.getItem_tuple_cut ht hs pl pu (by rw[hlen];exact hw) ?_ (by rw[hlen];exact hz)
 rw[hlen]
 refine⟨.ref s.heap.objs.size,_,I.laid (t':=s.toks) (o:=.tup (cutV xs lo hi)) (fun b ob q=>gxL _ q) (aa _) ?_,rfl,q _ (I.dX.fresh (aa _))⟩
 exact⟨aw (cutV_length xs lo hi) hz,_,(r.drop (HT.sIx xs.length 0 lo)).take (HT.sIx xs.length xs.length hi - HT.sIx xs.length 0 lo),IsTup.new _ _⟩
end
def ixN (n:Nat)(i:Int):Option Nat:=if 0<=i then(if i<n then some i.toNat else none)else if -(n:Int)<=i then some (i+n).toNat else none
def atI {α:Type}(xs:List α)(i:Int):Option α:=(ixN xs.length i).bind fun j=>xs[j]?
theorem ixN_seq {n:Nat}{i:Int}{j:Nat}(h:ixN n i=some j):seqIndex? i n=some j/\j<n /\ -(n:Int)<=i/\i<n:=by
 unfold ixN at h
 by_cases h0:0<=i
 ·rw[ag h0]at h
  by_cases h1:i<n
  ·rw[ag h1]at h
   have e:i.toNat=j:=aJ h
   exact⟨by rw[seqIndex_of h0 h1,e],by omega,by omega,h1⟩
  ·rw[ae h1]at h;cases h
 ·rw[ae h0]at h
  by_cases h1:-(n:Int)<=i
  ·rw[ag h1]at h
   have e:(i+n).toNat=j:=aJ h
   exact⟨by rw[seqIndex_neg (by omega) h1,e],by omega,h1,by omega⟩
  ·rw[ae h1]at h;cases h
theorem atI_get {α:Type}{xs:List α}{i:Int}{v:α}(h:atI xs i=some v):∃ j,seqIndex? i xs.length=some j/\xs[j]?=some v/\j<xs.length /\ -(xs.length:Int)<=i/\i<xs.length:=by
 unfold atI at h
 cases e:ixN xs.length i with
 | none=>rw[e]at h;cases h
 | some j =>
  rw[e]at h
  obtain⟨h1,h2,h3,h4⟩:=ixN_seq e
  exact⟨j,h1,h,h2,h3,h4⟩
theorem atI_nat {α:Type}{xs:List α}{j:Nat}{v:α}(h:xs[j]?=some v):atI xs (j:Int)=some v:=by
 have hj:j<xs.length:=(gxB h).1
 have e:ixN xs.length (j:Int)=some j:=by
  unfold ixN
  rw[ag (by omega),ag (by omega)];simp
 unfold atI;rw[e];exact h
def PlainIx (b:Expr):Prop:=∀ o i,subscripted b false o i=operate [o,i] (getItem o i)
def IxR (X:Cx)(r:R2):Prop :=
 ∀(value slice:Expr) (pins:List (Addr×Obj)) (s:Shared) (σ:St) (H:Hp) (x y:V) (v u:Value) (Q:VK),Inv X pins σ H s->RelV x v->RelV y u->r x y H Q ->
  subscripted slice false v u=operate [v,u] (getItem v u)->wpAny (model X.prog X.w) X.A (subscriptTail value slice v u) (EP X pins σ Q) X.xe s
def MtR (X:Cx)(id:String)(r:V->List V->Hp->VK->Prop):Prop :=
 ∀(pins:List (Addr×Obj)) (s:Shared) (σ:St) (H:Hp) (x:V) (xs:List V) (v:Value) (us:List Value) (Q:VK),Inv X pins σ H s->RelV x v->Vals xs us->r x xs H Q ->
  wpAny (model X.prog X.w) X.A (call (.builtin id) (v::us)) (EP X pins σ Q) X.xe s
section
variable {X:Cx}{a b:Expr}{ta tb:TE}{pos:Pos}
theorem IxR.or {r r':R2}(h:IxR X r)(h':IxR X r'):IxR X (fun x y H Q=>r x y H Q\/r' x y H Q):=by
 intro value slice pins s σ H x y v u Q I rx ry q hs
 rcases q with q | q
 ·exact h value slice pins s σ H x y v u Q I rx ry q hs
 ·exact h' value slice pins s σ H x y v u Q I rx ry q hs
theorem pe_ix {r:R2}(hr:IxR X r)(ha:PE X a ta)(hb:PE X b tb)(hs:PlainIx b):PE X (.Subscript a b pos) (tOp r ta tb):=by
 intro pins s σ H Q I h
 exact Subscript_ (binT ha hb I h fun v u s2 x y H2 I2 rx ry q=>hr a b pins s2 σ H2 x y v u Q I2 rx ry q (hs _ _))
def rIxL (K:PySem.W.Frag):R2:=fun x y H Q=>∃ p xs i v,x=.ref p/\y=.int i/\SqL K H p xs/\atI xs i=some v/\Q v H
def rIxT (K:PySem.W.Frag):R2:=fun x y H Q=>∃ p xs i v,x=.ref p/\y=.int i/\SqT K H p xs/\atI xs i=some v/\Q v H
def rIxS:R2:=fun x y H Q=>∃ z i c,x=.str z/\y=.int i/\z.length<=sizeLine/\atI z.cps.toList i=some c/\Q (.str ⟨#[c]⟩) H
theorem ix_list:IxR X (rIxL X.K):=by
 intro value slice pins s σ H x y v u Q I rx ry h hs
 obtain⟨p,xs,i,z,rfl,rfl,hq,he,q⟩:=h
 cases rx
 obtain⟨t,rfl⟩:=ry
 obtain⟨d7,r,pl,hz⟩:=I.list hq
 obtain⟨j,h1,h2,h3,h4,h5⟩:=atI_get he
 obtain⟨w,ew,rw'⟩:=r.get h2
 have hl:=r.length
 have hn:=line63
 have fin:EP X pins σ Q w s:=⟨z,H,I,rw',q⟩
 by_cases h0:0<=i
 ·have hj:i.toNat=j:=by
   rw[seqIndex_of h0 h5]at h1
   exact aJ h1
  exact item_listR pl.isList h0 (by omega) (by rw[hj];simpa using ew) fin hs
 ·have hj:(i+(d7.toArray.size:Int)).toNat=j:=by
   rw[seqIndex_neg (by omega) h4]at h1
   rw[ar,<- hl]
   exact aJ h1
  exact subscriptTail_builtinR (x:=w) pl.isList.typeIs slot_list_getitem.lookup
   (wpAny_getItem_list_neg (Q:=fun r s'=>r=w/\EP X pins σ Q r s') pl.isList (by omega) (by rw[ar]<;> omega) (by omega) (by rw[hj];simpa using ew) ⟨rfl,fin⟩) hs
theorem ix_tup:IxR X (rIxT X.K):=by
 intro value slice pins s σ H x y v u Q I rx ry h hs
 obtain⟨p,xs,i,z,rfl,rfl,hq,he,q⟩:=h
 cases rx
 obtain⟨t,rfl⟩:=ry
 obtain⟨d7,r,pl,hz⟩:=I.tuple hq
 obtain⟨j,h1,h2,h3,h4,h5⟩:=atI_get he
 obtain⟨w,ew,rw'⟩:=r.get h2
 have hl:=r.length
 have hn:=line63
 have fin:EP X pins σ Q w s:=⟨z,H,I,rw',q⟩
 exact subscriptTail_builtinR (x:=w) pl.typeIs slot_tuple_getitem.lookup
  (getItem_tuple (j:=j) (Q:=fun r s'=>r=w/\EP X pins σ Q r s') pl (by omega) (by omega) (by rw[ar,<- hl];exact h1) (by simpa using ew) ⟨rfl,fin⟩) hs
theorem ix_str:IxR X rIxS:=by
 intro value slice pins s σ H x y v u Q I rx ry h hs
 obtain⟨z,i,c,rfl,rfl,hz,he,q⟩:=h
 obtain⟨t,rfl⟩:=rx
 obtain⟨t',rfl⟩:=ry
 obtain⟨j,h1,h2,h3,h4,h5⟩:=atI_get he
 have hl:z.cps.toList.length=z.length:=by simp[Str.length]
 rw[hl]at h1 h4 h5
 have hn:=line63
 exact tail_any (typeIs_str s z t) slot_str_getitem.lookup (getItem_str (c:=c) (by
  have e1:decide (i < -(2 ^ 63:Int))=false:=aj (by omega)
  have e2:decide (i≥2 ^ 63)=false:=aj (by omega)
  rw[e1,e2,Bool.or_false]) (by rw[h1];simpa using h2) ⟨.str ⟨#[c]⟩,H,I.tok _,⟨_,rfl⟩,q⟩) hs
def rIx (K:PySem.W.Frag):R2:=fun x y H Q=>rIxL K x y H Q\/rIxT K x y H Q\/rIxS x y H Q
theorem ix_seq:IxR X (rIx X.K):=ix_list.or (ix_tup.or ix_str)
theorem mapSeq_set (d7:List Value)(n j:Nat)(u:Value):Obj.mapSeq (·.setIfInBounds j u) { cls:=.type "list",data:=.seq d7.toArray n}={ cls:=.type "list",data:=.seq (d7.set j u).toArray n}:=by
 simp[Obj.mapSeq]
theorem Inv.lst {pins:List (Addr×Obj)}{σ:St}{H:Hp}{s:Shared}{p:Addr}{xs:List V}(I:Inv X pins σ H s)(h:H p=some (.lst xs)) :
 ∃(d7:List Value) (n:Nat),Vals xs d7/\s.heap.get? p=some { cls:=.type "list",data:=.seq d7.toArray n}/\xs.length<=sizeLine:=by
 obtain⟨z,d7,n,r,e⟩:=I.dX p _ h
 exact⟨d7,n,r,e,z⟩
theorem Inv.lstUpd {pins:List (Addr×Obj)}{σ:St}{H:Hp}{s:Shared}{p:Addr}{xs ys:List V}{d7 its':List Value}{n n':Nat}{f:Obj->Obj}(I:Inv X pins σ H s)(h:H p=some (.lst xs))
 (ho:s.heap.get? p=some { cls:=.type "list",data:=.seq d7.toArray n}) (hf:f { cls:=.type "list",data:=.seq d7.toArray n}={ cls:=.type "list",data:=.seq its'.toArray n'}) (r:Vals ys its') (hz:ys.length<=sizeLine) (t:Nat) :
 Inv X pins σ (upd H p (.lst ys)) { s with heap:=s.heap.update p f,toks:=t}:=by
 have e:(s.heap.update p f).get? p=some { cls:=.type "list",data:=.seq its'.toArray n'}:=by
  rw[bY f ho (by rw[hf]<;> rfl),hf]
 refine I.write (x:=p) (e:=p) (by rw[h];trivial) (.inl rfl) (fun b u hb q=>(bb _ _ (aZ hb)).trans q) ⟨_,e⟩ ?_
 exact⟨hz,its',n',r,e⟩
def rSetL:V->V->V->Hp->(Hp->Prop)->Prop:=fun o i v H Q=>∃ p xs k j,o=.ref p/\i=.int k/\H p=some (.lst xs)/\ixN xs.length k=some j/\Q (upd H p (.lst (xs.set j v)))
theorem set_list:PSet X rSetL:=by
 intro pins s σ H o i v ov iv u Q I ro ri rv h
 obtain⟨p,xs,k,j,rfl,rfl,hp,hj,q⟩:=h
 cases ro
 obtain⟨t,rfl⟩:=ri
 obtain⟨d7,n,r,ho,hz⟩:=I.lst hp
 obtain⟨h1,h2,h3,h4⟩:=ixN_seq hj
 have hl:=r.length
 have hn:=line63
 have I':Inv X pins σ (upd H p (.lst (xs.set j v))) { s with heap:=s.heap.update p (Obj.mapSeq (·.setIfInBounds j u))} :=
  I.lstUpd hp ho (mapSeq_set d7 n j u) (r.set rv j) (by rw[aK];exact hz) s.toks
 by_cases h0:0<=k
 ·have hk:k.toNat=j:=by
   rw[seqIndex_of h0 h4]at h1
   exact aJ h1
  exact PySem.W.ki_setAt ho h0 (by omega) (by rw[ar,<- hl];exact h4) (by rw[hk];exact⟨_,I',q⟩)
 ·have hk:(k+(d7.toArray.size:Int)).toNat=j:=by
   rw[seqIndex_neg (by omega) h3]at h1
   rw[ar,<- hl]
   exact aJ h1
  exact PySem.W.ki_setBack ho (by omega) (by rw[ar,<- hl];exact h3) (by omega) (by rw[hk];exact⟨_,I',q⟩)
theorem slice_bounds (lo hi:Option Int)(n:Nat):(sliceBounds lo hi none n).1=((HT.sIx n 0 lo:Nat):Int)/\(sliceBounds lo hi none n).2.1=((HT.sIx n n hi:Nat):Int)/\(sliceBounds lo hi none n).2.2=1:=by
 refine⟨?_,?_,rfl⟩
 ·cases lo with
  | none=>simp[sliceBounds,HT.sIx]
  | some i =>
   simp only[sliceBounds,HT.sIx,Option.getD_none,show(1:Int)>0 by decide,if_true]
   by_cases h:i<0
   ·simp only[h,if_true]<;> omega
   ·simp only[h,if_false]<;> omega
 ·cases hi with
  | none=>simp[sliceBounds,HT.sIx]
  | some i =>
   simp only[sliceBounds,HT.sIx,Option.getD_none,show(1:Int)>0 by decide,if_true]
   by_cases h:i<0
   ·simp only[h,if_true]<;> omega
   ·simp only[h,if_false]<;> omega
theorem slicePick_cut (d7:List Value)(lo hi:Option Int):slicePick d7.toArray lo hi none=((d7.drop (HT.sIx d7.length 0 lo)).take (HT.sIx d7.length d7.length hi - HT.sIx d7.length 0 lo)).toArray:=by
 obtain⟨h1,h2,h3⟩:=slice_bounds lo hi d7.toArray.size
 unfold slicePick
 rw[h1,h2,h3]
 simp only[sliceRange_one,pick_run,ar]<;> rfl
def rSlL (K:PySem.W.Frag):V->Option Int->Option Int->Hp->VK->Prop:=fun x lo hi H Q=>∃ a xs,x=.ref a/\SqL K H a xs/\∀ p,H p=none->Q (.ref p) (upd H p (.lst (cutV xs lo hi)))
theorem sl_list:SlR X (rSlL X.K):=by
 intro pins s σ H x v vl vu lo hi sl Q I rx hs pl pu h
 obtain⟨a,xs,rfl,hx,q⟩:=h
 cases rx
 obtain⟨d7,r,ht,hz⟩:=I.list hx
 have hlen:=r.length
 refine⟨"list",_,slot_list_getitem.lookup,ht.isList.typeIs,?_⟩
 refine wpAny_getItem_list_slice ht.isList hs pl pu .none (by simp) ?_ (by rw[ar]<;> omega)
 rw[slicePick_cut,<- hlen]
 refine⟨.ref s.heap.objs.size,_,I.laid (t':=s.toks) (o:=.lst (cutV xs lo hi)) (fun b ob q=>gxL _ q) (aa _) ?_,rfl,q _ (I.dX.fresh (aa _))⟩
 exact⟨aw (cutV_length xs lo hi) hz,_,0,(r.drop (HT.sIx xs.length 0 lo)).take (HT.sIx xs.length xs.length hi - HT.sIx xs.length 0 lo),au _ rfl⟩
def flatV:V->Bool
 | .fB=>true
 | .bl _=>true
 | .int _=>true
 | .str _=>true
 | _=>false
def eqV:V->V->Bool
 | .fB,.fB=>true
 | .bl a,.bl b=>a==b
 | .bl a,.int b=>(if a then 1 else 0)==b
 | .int a,.bl b=>a==(if b then 1 else 0)
 | .int a,.int b=>a==b
 | .str a,.str b=>a==b
 | _,_=>false
theorem eqAt_V {A:Around}{s:Shared}{y x:V}{u v:Value}(ry:RelV y u)(rx:RelV x v)(fy:flatV y=true)(fx:flatV x=true):SeqAt.EqAt A s u v (eqV y x):=by
 cases y with
 | fB =>
  cases ry
  cases x with
  | fB=>cases rx;exact SeqAt.EqAt.same _
  | bl b=>cases rx;exact SeqAt.EqAt.none_bool b
  | int b=>obtain⟨t,rfl⟩:=rx;exact SeqAt.EqAt.none_int b t
  | str b=>obtain⟨t,rfl⟩:=rx;exact SeqAt.EqAt.none_str b t
  | _=>exact absurd (show false=true from fx) aA
 | bl a =>
  cases ry
  cases x with
  | fB=>cases rx;exact SeqAt.EqAt.bool_none a
  | bl b=>cases rx;exact SeqAt.EqAt.bool_bool a b
  | int b=>obtain⟨t,rfl⟩:=rx;exact SeqAt.EqAt.bool_int a b t
  | str b=>obtain⟨t,rfl⟩:=rx;exact SeqAt.EqAt.bool_str a b t
  | _=>exact absurd (show false=true from fx) aA
 | int a =>
  obtain⟨t',rfl⟩:=ry
  cases x with
  | fB=>cases rx;exact SeqAt.EqAt.int_none a t'
  | bl b=>cases rx;exact SeqAt.EqAt.int_bool a t' b
  | int b=>obtain⟨t,rfl⟩:=rx;exact SeqAt.EqAt.int_int a t' b t
  | str b=>obtain⟨t,rfl⟩:=rx;exact SeqAt.EqAt.int_str a t' b t
  | _=>exact absurd (show false=true from fx) aA
 | str a =>
  obtain⟨t',rfl⟩:=ry
  cases x with
  | fB=>cases rx;exact SeqAt.EqAt.str_none a t'
  | bl b=>cases rx;exact SeqAt.EqAt.str_bool a t' b
  | int b=>obtain⟨t,rfl⟩:=rx;exact SeqAt.EqAt.str_int a t' b t
  | str b=>obtain⟨t,rfl⟩:=rx;exact SeqAt.EqAt.str_str a t' b t
  | _=>exact absurd (show false=true from fx) aA
 | _=>exact absurd (show false=true from fy) aA
def eqU (x:V)(u:Value):Bool:=match u with
 | .none=>eqV .fB x
 | .bool b=>eqV (.bl b) x
 | .int i _=>eqV (.int i) x
 | .str z _=>eqV (.str z) x
 | _=>false
theorem eqU_of {x y:V}{u:Value}(r:RelV y u)(f:flatV y=true):eqU x u=eqV y x:=by
 cases y with
 | fB=>cases r;rfl
 | bl b=>cases r;rfl
 | int i=>obtain⟨t,rfl⟩:=r;rfl
 | str z=>obtain⟨t,rfl⟩:=r;rfl
 | _=>exact absurd (show false=true from f) aA
theorem any_eqU {x:V}:∀ {xs:List V} {us:List Value},Vals xs us->xs.all flatV=true->us.any (eqU x)=xs.any fun y=>eqV y x
 | _,_,.nil,_=>rfl
 | y::xs,u::us,.cons r t,f=>by
  rw[cJ,bc]at f
  rw[bf,bf,eqU_of r f.1,any_eqU t f.2]
theorem mem_eqAt {A:Around}{s:Shared}{x:V}{v:Value}(rx:RelV x v)(fx:flatV x=true):∀ {xs:List V} {us:List Value},Vals xs us->xs.all flatV=true->∀ u∈us,SeqAt.EqAt A s u v (eqU x u)
 | _,_,.nil,_=>fun u hu=>by cases hu
 | y::xs,u::us,.cons r t,f=>fun u' hu=>by
  rw[cJ,bc]at f
  rcases List.mem_cons.mp hu with rfl | hu
  ·rw[eqU_of r f.1];exact eqAt_V r rx f.1 fx
  ·exact mem_eqAt rx fx t f.2 u' hu
def inV (x:V)(xs:List V):Bool:=xs.any fun y=>eqV y x
def rIn (K:PySem.W.Frag)(neg:Bool):R2:=fun x y H Q=>∃ p xs,y=.ref p/\(SqL K H p xs\/SqT K H p xs)/\flatV x=true/\xs.all flatV=true/\Q (.bl (if neg then !inV x xs else inV x xs)) H
theorem op_in_seq:OpR X (compareOp .In) (rIn X.K false):=by
 intro pins s σ H x y v u Q I rx ry h
 obtain⟨p,xs,rfl,hq,fx,fs,q⟩:=h
 cases ry
 rcases hq with hq | hq
 ·obtain⟨d7,r,pl,hz⟩:=I.list hq
  refine SeqAt.in_listAt (eqU x) pl.isList (fun w hw=>mem_eqAt rx fx r fs w (by simpa using hw)) ⟨.bl _,H,I,rfl,?_⟩
  rw[show d7.toArray.any (eqU x)=d7.any (eqU x) by simp,any_eqU r fs]
  exact q
 ·obtain⟨d7,r,pl,hz⟩:=I.tuple hq
  refine SeqAt.in_tupleAt (eqU x) pl (fun w hw=>mem_eqAt rx fx r fs w (by simpa using hw)) ⟨.bl _,H,I,rfl,?_⟩
  rw[show d7.toArray.any (eqU x)=d7.any (eqU x) by simp,any_eqU r fs]
  exact q
theorem op_notIn_seq:OpR X (compareOp .NotIn) (rIn X.K true):=by
 intro pins s σ H x y v u Q I rx ry h
 obtain⟨p,xs,rfl,hq,fx,fs,q⟩:=h
 cases ry
 rcases hq with hq | hq
 ·obtain⟨d7,r,pl,hz⟩:=I.list hq
  refine SeqAt.notIn_listAt (eqU x) pl.isList (fun w hw=>mem_eqAt rx fx r fs w (by simpa using hw)) ⟨.bl _,H,I,rfl,?_⟩
  rw[show d7.toArray.any (eqU x)=d7.any (eqU x) by simp,any_eqU r fs]
  exact q
 ·obtain⟨d7,r,pl,hz⟩:=I.tuple hq
  refine SeqAt.notIn_tupleAt (eqU x) pl (fun w hw=>mem_eqAt rx fx r fs w (by simpa using hw)) ⟨.bl _,H,I,rfl,?_⟩
  rw[show d7.toArray.any (eqU x)=d7.any (eqU x) by simp,any_eqU r fs]
  exact q
theorem op_notIn_str:OpR X (compareOp .NotIn) (fun x y H Q=>∃ i j,x=.str i/\y=.str j/\Q (.bl (!(!(Builtin.Str.occurrences j i 0 j.length 1).isEmpty))) H):=by
 intro pins s σ H x y v u Q I rx ry h
 obtain⟨i,j,rfl,rfl,q⟩:=h
 obtain⟨t,rfl⟩:=rx
 obtain⟨t',rfl⟩:=ry
 exact notIn_str ⟨.bl _,H,I,rfl,q⟩
theorem call_len_seq:CallR X (.builtin "len") (fun xs H Q=>∃ p ys,xs=[.ref p]/\(SqL X.K H p ys\/SqT X.K H p ys)/\Q (.int ys.length) H):=by
 intro pins s σ H xs us Q I r h
 obtain⟨p,ys,rfl,hq,q⟩:=h
 obtain⟨u,rfl,rx⟩:=vals1 r
 cases rx
 have hn:=line63
 rcases hq with hq | hq
 ·obtain⟨d7,r',pl,hz⟩:=I.list hq
  have hlen:=r'.length
  exact Calls.call_len_list pl.isList (by simp only[ar]<;> omega) ⟨.int ys.length,H,I.tok _,⟨s.toks+1,by rw[ar,hlen]⟩,q⟩
 ·obtain⟨d7,r',pl,hz⟩:=I.tuple hq
  have hlen:=r'.length
  exact len_tuple pl (by simp only[ar]<;> omega) ⟨.int ys.length,H,I.tok _,⟨s.toks+1,by rw[ar,hlen]⟩,q⟩
theorem call_len_str:CallR X (.builtin "len") (fun xs H Q=>∃ z,xs=[.str z]/\z.length<=sizeLine/\Q (.int z.length) H):=by
 intro pins s σ H xs us Q I r h
 obtain⟨z,rfl,hz,q⟩:=h
 obtain⟨u,rfl,t,rfl⟩:=vals1 r
 have hn:=line63
 exact len_str (by omega) ⟨.int z.length,H,I.tok _,⟨_,rfl⟩,q⟩
theorem CallR.or {f:Value}{r r':List V->Hp->VK->Prop}(h:CallR X f r)(h':CallR X f r'):CallR X f (fun xs H Q=>r xs H Q\/r' xs H Q):=by
 intro pins s σ H xs us Q I rs q
 rcases q with q | q
 ·exact h pins s σ H xs us Q I rs q
 ·exact h' pins s σ H xs us Q I rs q
theorem call_list_of:CallR X (.type "list") (fun xs H Q=>∃ p ys,xs=[.ref p]/\(SqL X.K H p ys\/SqT X.K H p ys)/\∀ l,H l=none->Q (.ref l) (upd H l (.lst ys))):=by
 intro pins s σ H xs us Q I r h
 obtain⟨p,ys,rfl,hq,q⟩:=h
 obtain⟨u,rfl,rx⟩:=vals1 r
 cases rx
 have fin:∀(d7:List Value),Vals ys d7->ys.length<=sizeLine->∀(h':Heap) (c':Nat),(∀ b o',s.heap.get? b=some o'->h'.get? b=some o') ->
  h'.get? s.heap.objs.size=some { cls:=.type "list",dict:=none,data:=.seq d7.toArray c',slots:=#[]}->EP X pins σ Q (.ref s.heap.objs.size) { s with heap:=h'}:=fun d7 r' hz h' c' kp e =>
  ⟨.ref s.heap.objs.size,_,I.laid (t':=s.toks) kp (aa _) (show fj X.prog X.w _ h' _ (.lst ys)from⟨hz,d7,c',r',e⟩),rfl,q _ (I.dX.fresh (aa _))⟩
 rcases hq with hq | hq
 ·obtain⟨d7,r',pl,hz⟩:=I.list hq
  have hlen:=r'.length
  obtain⟨o,ho,hc,n,hd⟩:=pl.isList
  exact call_list_seq p (.inl rfl) ho hc hd (fun h' c' kp e=>fin d7 r' hz h' c' kp e) (by simp only[ar]<;> omega)
 ·obtain⟨d7,r',pl,hz⟩:=I.tuple hq
  have hlen:=r'.length
  obtain⟨o,ho,hc,n,hd⟩:=pl
  exact call_list_seq p (.inr rfl) ho hc hd (fun h' c' kp e=>fin d7 r' hz h' c' kp e) (by simp only[ar]<;> omega)
def tyV (K:PySem.W.Frag)(T:String)(x:V)(H:Hp):Prop:=match x with
 | .str _=>T = "str"
 | .int _=>T = "int"
 | .ref p=>(T = "list"/\∃ xs,SqL K H p xs)\/(T = "tuple"/\∃ o,K.lookup p=some o/\o.cls=.type "tuple"/\o.dict=none) \/
  (T = "dict"/\((∃ kvs,H p=some (.dK kvs))\/∃ kvs,H p=some (.dT kvs)))\/(T = "set"/\∃ S n,H p=some (.set S n))
 | _=>False
theorem tyV_is {pins:List (Addr×Obj)}{σ:St}{H:Hp}{s:Shared}{T:String}{x:V}{v:Value}(I:Inv X pins σ H s)(r:RelV x v)(ty:tyV X.K T x H) :
 s.TypeIs v T/\∀ a,v=.ref a->∃ ob,s.heap.get? a=some ob/\ob.dict=none:=by
 cases x with
 | str z =>
  obtain⟨t,rfl⟩:=r
  cases(show T = "str" from ty)
  exact⟨typeIs_str s z t,fun _ e=>nomatch e⟩
 | int i =>
  obtain⟨t,rfl⟩:=r
  cases(show T = "int" from ty)
  exact⟨typeIs_int s i t,fun _ e=>nomatch e⟩
 | ref p =>
  cases r
  rcases ty with⟨rfl,xs,hq⟩ | ⟨rfl,o,hk,hc,hd⟩ | ⟨rfl,hk⟩ | ⟨rfl,S,n,hk⟩
  ·obtain⟨d7,_,pl,_⟩:=I.list hq
   refine⟨pl.isList.typeIs,fun a e=>?_⟩
   cases e
   obtain⟨o,n,e,c,hd,_⟩:=pl
   exact⟨o,e,hd⟩
  ·refine⟨⟨o,I.kIn p o hk,hc⟩,fun a e=>?_⟩
   cases e
   exact⟨o,I.kIn _ o hk,hd⟩
  ·have z:∃ o,s.heap.get? p=some o/\o.ExactDict:=by
    rcases hk with⟨kvs,hk⟩ | ⟨kvs,hk⟩
    ·obtain⟨_,_,_,_,o,_,_,e,ex,_⟩:=I.dX p _ hk
     exact⟨o,e,ex⟩
    ·obtain⟨_,_,_,_,o,_,_,e,ex,_⟩:=I.dX p _ hk
     exact⟨o,e,ex⟩
   obtain⟨o,e,ex⟩:=z
   refine⟨⟨o,e,ex.1⟩,fun a e2=>?_⟩
   cases e2
   exact⟨o,e,ex.2.1⟩
  ·obtain⟨o,_,_,_,e,ex,_⟩:=I.dX p _ hk
   refine⟨⟨o,e,ex.1⟩,fun a e2=>?_⟩
   cases e2
   exact⟨o,e,ex.2.1⟩
 | _=>exact False.elim ty
def tBM (K:PySem.W.Frag)(T:String)(r:V->List V->Hp->VK->Prop)(to:TE)(t:TA):TE:=fun σ H Q=>to σ H fun x H1=>tyV K T x H1/\t σ H1 fun xs H2=>r x xs H2 Q
variable {o e:Expr}{es:List Expr}{to:TE}{t:TA}{name:Str}{apos cpos:Pos}{T id:String}{r:V->List V->Hp->VK->Prop}
theorem pe_bm (pa:PlainAttrs T)(slot:Slot T name id)(hty:typeOf (.builtin id)=pure (.type "method_descriptor"))(hm:MtR X id r)(ho:PE X o to)(ha:PA X (e::es) t)
 (hbase:attributeBase o name X.env (eval o X.env)=eval o X.env:=by rfl)
 (hfew:((backTo cpos (starEach (e::es) X.env)).all (fun x=>!x.1)&&(backToKw cpos (keywordEach [] X.env)).all (fun x=>x.1.isSome)
   && decide ((e::es).length+([]:List Keyword).length+(if([]:List Keyword).isEmpty then 0 else 1)<30))=true:=by rfl)
 (hline:(apos.endLine==cpos.line)=true:=by rfl) (hs:starEach (e::es) X.env=(false,eval e X.env)::starEach es X.env:=by rfl) (hplain:(backTo cpos (starEach es X.env)).any (·.1)=false:=by rfl) :
 PE X (.Call (.Attribute o name apos) (e::es) [] cpos) (tBM X.K T r to t):=by
 intro pins s σ H Q I h
 refine wpAny_Call_method_late hbase hfew hline rfl (fo (ho pins s σ H _ I h) fun v s1 hq4=>?_)
 obtain⟨x,H1,I1,r1,ty,q1⟩:=hq4
 obtain⟨h1,h2⟩:=tyV_is I1 r1 ty
 refine⟨T,id,pa,slot,hty,h1,h2,?_⟩
 have hA:=ha cpos pins s1 σ H1 _ I1 q1
 rw[hs]at hA ⊢
 refine cw (by show(false||(backTo cpos (starEach es X.env)).any (·.1))=false;rw[hplain]<;> rfl) (Calls.evalArgs_plain ?_)
 exact fo hA fun us s2 hq5=>by obtain⟨vs,H2,I2,r2,q2⟩:=hq5;exact hm pins s2 σ H2 x vs v us Q I2 r1 r2 q2
end
def MtM (X:Cx)(id:String)(r:V->List V->Hp->VK->Prop):Prop :=
 ∀(pins:List (Addr×Obj)) (s:Shared) (σ:St) (H:Hp) (x:V) (xs:List V) (v:Value) (us:List Value) (Q:VK),Inv X pins σ H s->RelV x v->Vals xs us->r x xs H Q ->
  wpAny (model X.prog X.w) X.A (call (.builtin id) (v::us)) (EP X pins σ Q) X.xe s
theorem Vals.one {x:V}{us:List Value}(h:Vals [x] us):∃ u,us=[u]/\RelV x u:=by
 cases h with
 | cons r t=>cases t;exact⟨_,rfl,r⟩
theorem Vals.two {x y:V}{us:List Value}(h:Vals [x,y] us):∃ u v,us=[u,v]/\RelV x u/\RelV y v:=by
 cases h with
 | cons r t=>obtain⟨v,rfl,q⟩:=Vals.one t;exact⟨_,v,rfl,r,q⟩
section
variable {X:Cx}{pins:List (Addr×Obj)}{σ:St}{H:Hp}{s:Shared}{l b:Addr}{xs ys zs:List V}
theorem Inv.lset {d7 its':List Value}{n:Nat}{f:Array Value->Array Value}{t':Nat}(I:Inv X pins σ H s)(hH:H l=some (.lst xs))
 (e:s.heap.get? l=some { cls:=.type "list",data:=.seq d7.toArray n}) (hf:f d7.toArray=its'.toArray) (hv:Vals ys its') (hz:ys.length<=sizeLine) :
 Inv X pins σ (upd H l (.lst ys)) { s with heap:=s.heap.update l (Obj.mapSeq f),toks:=t'}:=by
 have q:=PySem.IsL.update e f
 rw[hf]at q
 refine I.write (x:=l) (e:=l) (by rw[hH];exact trivial) (.inl rfl) (fun b' u hb hu=>(bb s.heap (Obj.mapSeq f) (aZ hb)).trans hu) ⟨_,q⟩ ?_
 exact⟨hz,its',_,hv,q⟩
theorem Inv.lnew {d7:List Value}{t':Nat}(I:Inv X pins σ H s)(hv:Vals ys d7)(hz:ys.length<=sizeLine) :
 Inv X pins σ (upd H s.heap.objs.size (.lst ys)) { s with heap:=s.heap.push { cls:=.type "list",data:=.seq d7.toArray},toks:=t'} :=
 I.laid (fun _ _ q=>gxL _ q) (aa _) ⟨hz,d7,0,hv,au _ rfl⟩
theorem Inv.fresh (I:Inv X pins σ H s):H s.heap.objs.size=none:=I.dX.fresh (aa _)
theorem Inv.lstM (I:Inv X pins σ H s)(hH:H l=some (.lst xs)):xs.length<=sizeLine/\∃(d7:List Value) (n:Nat),Vals xs d7/\xs.length=d7.length/\s.heap.get? l=some { cls:=.type "list",data:=.seq d7.toArray n}:=by
 obtain⟨z,d7,n,r,e⟩:=I.dX l _ hH
 exact⟨z,d7,n,r,r.length,e⟩
theorem notLongL {n:Nat}(h:n<=sizeLine):Builtin.List.listTooLong n=false:=by
 unfold Builtin.List.listTooLong
 exact aj (by omega)
end
section
variable {X:Cx}
def rAppend:V->List V->Hp->VK->Prop:=fun x vs H Q=>∃ l xs y,x=.ref l/\vs=[y]/\H l=some (.lst xs)/\xs.length<sizeLine/\Q .fB (upd H l (.lst (xs++[y])))
theorem mt_append:MtM X "list.append" rAppend:=by
 intro pins s σ H x vs v us Q I rx rv h
 obtain⟨l,xs,y,rfl,rfl,hH,hz,q⟩:=h
 cases rx
 obtain⟨u,rfl,ru⟩:=rv.one
 obtain⟨z,d7,n,r,hl,e⟩:=I.lstM hH
 refine call_meets F.slot_list_append ⟨_,e,rfl⟩ F.entry_list_append (F.args_list_append_2 _ _) (PySem.list_append l d7.toArray n u (by rw[ar];omega)) ⟨e,?_⟩
 refine⟨.fB,_,I.lset (its':=d7++[u]) hH e (by simp) (r.append (.cons ru .nil)) ?_,rfl,q⟩
 rw[gxE,aO]
 omega
def rExtend:V->List V->Hp->VK->Prop:=fun x vs H Q=>∃ l b xs zs,x=.ref l/\vs=[.ref b]/\H l=some (.lst xs)/\H b=some (.lst zs)/\xs.length+zs.length<=sizeLine/\Q .fB (upd H l (.lst (xs++zs)))
theorem mt_extend:MtM X "list.extend" rExtend:=by
 intro pins s σ H x vs v us Q I rx rv h
 obtain⟨l,b,xs,zs,rfl,rfl,hH,hB,hz,q⟩:=h
 cases rx
 obtain⟨u,rfl,ru⟩:=rv.one
 cases ru
 obtain⟨z,d7,n,r,hl,e⟩:=I.lstM hH
 obtain⟨z2,its2,n2,r2,hl2,e2⟩:=I.lstM hB
 have hsz:d7.toArray.size+its2.toArray.size<=sizeLine:=by rw[ar,ar];omega
 have hlong:¬ (!d7.toArray.isEmpty&&Builtin.List.listTooLong (d7.toArray.size+its2.toArray.size))=true:=by
  rw[notLongL hsz,Bool.and_false]
  exact aA
 refine call_meets F.slot_list_extend ⟨_,e,rfl⟩ F.entry_list_extend (F.args_list_extend_2 _ _)
  (AutoSeq1.list_extend_list_list_0 l d7.toArray n b its2.toArray n2 hlong (by rw[ar];omega) (by omega)) ⟨e,e2,?_⟩
 refine⟨.fB,_,I.lset (its':=d7++its2) hH e (by simp) (r.append r2) ?_,rfl,q⟩
 rw[gxE]
 omega
def rCat:R2:=fun x y H Q=>∃ l b xs zs,x=.ref l/\y=.ref b/\H l=some (.lst xs)/\H b=some (.lst zs)/\xs.length+zs.length<=sizeLine/\∀ p,H p=none->Q (.ref p) (upd H p (.lst (xs++zs)))
theorem op_cat:OpR X (binaryOp .Add) rCat:=by
 intro pins s σ H x y v u Q I rx ry h
 obtain⟨l,b,xs,zs,rfl,rfl,hH,hB,hz,q⟩:=h
 cases rx
 cases ry
 obtain⟨z,d7,n,r,hl,e⟩:=I.lstM hH
 obtain⟨z2,its2,n2,r2,hl2,e2⟩:=I.lstM hB
 refine PySem.P.add_list e e2 ?_ (by rw[ar,ar];omega)
 have ea:d7.toArray++its2.toArray=(d7++its2).toArray:=by simp
 rw[ea]
 exact⟨.ref _,_,I.lnew (t':=s.toks) (r.append r2) (by rw[gxE];omega),rfl,q _ I.fresh⟩
end
section
variable {prog:Program}{w:World}{A:Around}{E:Value->Shared->Prop}{s:Shared}
theorem splice_eq (d7 its2:List Value)(a c:Nat):d7.toArray.extract 0 a++its2.toArray++d7.toArray.extract c d7.toArray.size=(d7.take a++its2++d7.drop c).toArray:=by
 apply Array.toList_inj.mp
 first
  | (simp
     exact bA (by simp))
  | simp[bA]
  | simp
end
end L2
namespace Att
open PySem PySem.W PySem.Calls PyProof.Rows
theorem ints_of_wellAll {P:Params}{h:Heap}:∀(ns:List Int) (vs:List Value),WellAll P h vs (ns.map WData.int)->IntsAre vs ns:=by
 intro ns
 induction ns with
 | nil =>
  intro vs w
  rw[List.map_nil]at w
  cases w
  exact .nil
 | cons n ns ih =>
  intro vs w
  rw[ai]at w
  cases w with
  | cons a b =>
   cases a
   exact .cons _ _ (ih _ b)
theorem script_of {l:OpenLaw}{n:Nat}(hn:l.most=some n){P:Params}{h:Heap}{args:List WData}{vals:List Value}
 (hpre:l.row.toRowW.claim.pre args=true) (hwl:WellAll P h vals args) :
 ∃ a vs ns,vals=[Value.ref a]/\args=[WData.list (ns.map WData.int)]/\h.get? a=some { cls:=.type "list",data:=.seq vs.toArray}/\IntsAre vs ns/\ns.length<=n:=by
 have hsh:WShape.hasAll [] args [.list .int]=true:=(pre_splitW hpre).1
 have hc:l.pre.holds [] { args:=args}=true:=(pre_splitW hpre).2
 obtain⟨d,r,rfl,h1,h2⟩:=hasAllW_cons hsh
 obtain rfl:=hasAllW_nil h2
 obtain⟨xs,rfl,h3⟩:=hasW_list h1
 obtain⟨ns,rfl⟩:=items_int h3
 have hlen:ns.length<=n:=by
  unfold OpenLaw.pre at hc
  have h4:(WTm.not (.lt (.lit (.int (n:Int))) (.len (.arg 0)))).holds [] { args:=[.list (ns.map .int)]}=true:=by
   have h4:=(holds_andW hc).1
   rw[hn]at h4
   exact h4
  have h5:=condW_of h4 (w_not (w_lt w_lit (w_len_list (w_arg rfl))))
  rw[fC]at h5
  refine Nat.le_of_not_lt fun q=>?_
  have q':(n:Int)<((ns.length:Nat):Int):=by omega
  first
   | (rw[ao q']at h5;exact absurd h5 (by decide))
   | (simp at h5;omega)
 cases hwl with
 | cons w1 w2 =>
  cases w2
  cases w1 with
  | list ho hall=>exact⟨_,_,ns,rfl,rfl,ho,ints_of_wellAll ns _ hall,hlen⟩
theorem post_true (l:OpenLaw)(args:List WData):l.row.toRowW.claim.post args (.bool true) args=true :=
 postW_of (r:=l.row.toRowW) (X:=(true==true))
  (show WShape.has [] (.bool true) .bool=true by first | rfl | decide | simp[WShape.has,WShape.arms,WShape.armsAll])
  (show(WTm.eq .res (.lit (.bool true))).value [] { args:=args,res:=some (.bool true),after:=args}=some (.bool (true==true))from w_eq_bool (w_res rfl) w_lit) rfl
theorem attach_call {l:OpenLaw}{n:Nat}{q:Program}{loose:List Str}{XP:(Str->Option Value)->Heap->Prop}{YP:World->Heap->Prop}{d:DefRec}
 (hn:l.most=some n) (hdf:d.params.defaults=[])
 (call:∀(w:World) (s₀ s₁:Shared) (mg mb:Str->Option Value) (fa:Addr) (o:Obj) (pm cd doc:Value) (a:Addr) (vs:List Value) (ns:List Int),
   Ground q loose [] XP w s₀ mg mb s₁.heap->YP w s₁.heap ->
   s₁.heap.get? fa=some o->o.data=.func (docDef d.name d.params d.body d.scope pm cd doc)->s₁.heap.CodeRec cd d.name->mg d.name=some (.ref fa) ->
   s₁.heap.get? a=some { cls:=.type "list",data:=.seq vs.toArray}->IntsAre vs ns->ns.length<=n->s₁.gens=#[] ->
   codeAny (model l.prog w) callerA (.call (.ref fa) ⟨[.ref a],[]⟩) (fun r s'=>r=.ok (.ret (.bool true))/\OldK s₁.heap s'.heap/\s'.os=s₁.os/\AllBare s'.gens) s₁) :
 WalkO q loose XP YP l.row.toRowW d [] (fun f vs=>PySem.call f vs):=by
 intro w s₀ s₁ mg mb G Y fa o pm cd doc dV kV ho hd hcd hD hmg hg args vals as hpre hlay hrd hwl hlo
 obtain rfl:dV=.none:=Dflts.none hD hdf
 obtain rfl:kV=.none:=Dflts.noKw hD
 obtain⟨a,vs,ns,rfl,rfl,hobj,hints,hlen⟩:=script_of hn hpre hwl
 refine enter_call (codeAny_mono (call w s₀ s₁ mg mb fa o pm cd doc a vs ns G Y ho (fd_plain hd) hcd hmg hobj hints hlen hg) fun r s' hq=>?_)
 obtain⟨rfl,h2,h3,h4⟩:=hq
 exact⟨.inl ⟨.bool true,.bool true,[],rfl,fun _=>rfl,.bool true,post_true l _,fun _=>⟨List.Pairwise.nil,fun _ hm=>(nomatch hm)⟩⟩,h2,h3,h4⟩
end Att
namespace L2
open PySem PySem.Spec PyProof.Rows
theorem vals_ints {vs:List Value}{ns:List Int}(h:IntsAre vs ns):Vals (ns.map V.int) vs:=by
 induction h with
 | nil=>exact .nil
 | cons n t h ih=>exact .cons ⟨t,rfl⟩ ih
def Only (H:Hp):Prop:=∀ b,H b=none\/∃ o xs,H b=some (.frz o (.lst xs))
theorem law_call {P:Program}{w:World}{K:PySem.W.Frag}{mg mb:Str->Option Value}{CX:CXT}{k:Nat}{fa a:Addr}{fd:FuncData}{x:Str}{sp:Sp}{s₁:Shared}{vs:List Value}{ns:List Int}
 (KX:K.In s₁.heap) (hns:s₁.heap.Ns mainGlobals mg) (hb:s₁.heap.Ns builtinsNs mb) (hbb:∀ x:Str,x ≠ "__name__"->mb x=bootBuiltins x) (hlim:s₁.heap.NoLimit) (hg:s₁.gens=#[])
 (ha:s₁.heap.get? a=some { cls:=.type "list",data:=.seq vs.toArray}) (hi:IntsAre vs ns) (hl:ns.length<=sizeLine) (hr:Room k callerA)
 (F:∀ base:Heap,K.In base->base.Ns mainGlobals mg->d8 P w K mg base CX k fa fd [x] sp) (hbind:∀(s:Shared) (u:Value),BindsTo s fd ⟨[u],[]⟩ [(x,u)])
 (hsp:∀ H:Hp,Only H->SqL K H a (ns.map V.int)->sp [.ref a] H (fun v _=>v=.bl true) fun _ _ _=>False)
 (hCX:∀ H e s',CX [] H s₁ (fun _ _ _=>False) e s'->False) :
 codeAny (model P w) callerA (.call (.ref fa) ⟨[.ref a],[]⟩) (fun r s'=>r=.ok (.ret (.bool true))/\OldK s₁.heap s'.heap/\s'.os=s₁.os/\AllBare s'.gens) s₁:=by
 have rv:=vals_ints hi
 have lenV:=hi.length
 have core:∀ H:Hp,Only H->SqL K H a (ns.map V.int)->HOk P w H s₁.heap->(∀ b,H b≠none->b=a)->(H a≠none->K.lookup a=none) ->
  codeAny (model P w) callerA (.call (.ref fa) ⟨[.ref a],[]⟩) (fun r s'=>r=.ok (.ret (.bool true))/\OldK s₁.heap s'.heap/\s'.os=s₁.os/\AllBare s'.gens) s₁:=by
  intro H hO hS dX hA hK
  have base_of:∀ {b:Addr} {o:Obj},s₁.heap.get? b=some o->H b=none->(hidT s₁.heap H).get? b=some o:=fun e n=>hidT_get e n
  have noA:∀ {b:Addr} {o:Obj} {es:Array DictEntry} {ep:Nat},s₁.heap.get? b=some o->o.data=.dict es ep->H b=none:=fun {b o es ep} e d=>by
   cases q:H b with
   | none=>rfl
   | some u =>
    have e':b=a:=hA b (by rw[q];simp)
    subst e'
    rw[ha]at e;cases e
    have d':Data.seq vs.toArray _=Data.dict es ep:=d
    cases d'
  have nsK:∀ {b:Addr} {m:Str->Option Value},s₁.heap.Ns b m->(hidT s₁.heap H).Ns b m:=fun {b m} hq6=>by obtain⟨o,es,ep,e,d,r⟩:=hq6;exact⟨o,es,ep,base_of e (noA e d),d,r⟩
  have hKb:K.In (hidT s₁.heap H):=fun b o e=>base_of (KX b o e) (by
   cases q:H b with
   | none=>rfl
   | some u =>
    have e':b=a:=hA b (by rw[q];simp)
    subst e'
    rw[hK (by rw[q];simp)]at e;cases e)
  have hM:Mod K mg (hidT s₁.heap H):=⟨hKb,nsK hns,⟨mb,nsK hb,hbb⟩,let ⟨mc,h1,h2⟩:=hlim;⟨mc,nsK h1,h2⟩⟩
  have e0:Env0 P w K mg (hidT s₁.heap H) callerA [] s₁ H:=⟨rfl,hM,fun b o e=>of_hidT e,Nat.le_of_eq (hidT_size _ _),trivial,fun b hb=>absurd (show b∈([]:List Addr)from hb) (by simp),dX,.of_eq hg⟩
  refine codeAny_mono ((F _ hKb (nsK hns)).run callerA [] s₁ H ⟨[.ref a],[]⟩ [.ref a] [.ref a] _ _ hr e0 (hbind s₁ (.ref a)) (.cons rfl .nil) (hsp H hO hS)) fun r s' h=>?_
  cases r with
  | error e=>exact(hCX H e s' h).elim
  | ok fl =>
   cases fl with
   | next=>exact False.elim h
   | brk=>exact False.elim h
   | cont=>exact False.elim h
   | ret u =>
    obtain⟨v,H',os,bare,un,hok',r',q⟩:=h
    have q':v=.bl true:=q
    subst q'
    obtain rfl:u=Value.bool true:=r'
    refine⟨rfl,OldK.of_keep fun b o e=>?_,os,bare⟩
    cases q:H b with
    | none=>exact un.keep b o e q (by intro z;exact absurd (show b∈([]:List Addr)from z) (by simp)) (by simp)
    | some u =>
     rcases hO b with z | ⟨ob,xs,z⟩
     ·rw[q]at z;cases z
     ·have z2:=un.frzs b ob _ z
      obtain⟨e1,_⟩:=dX b _ z
      obtain⟨e2,_⟩:=hok' b _ z2
      rw[e]at e1;cases e1
      exact e2
 cases hk:K.lookup a with
 | some o =>
  have e:=KX a o hk
  rw[ha]at e
  cases e
  refine core (fun _=>none) (fun _=>.inl rfl) (.inr ⟨_,vs.toArray,_,hk,rfl,rfl,rfl,by rw[ar,lenV];exact hl,by simpa using rv⟩) (fun b u z=>by have z':(none:Option HO)=some u:=z;cases z') (fun b z=>absurd rfl z) fun z=>absurd rfl z
 | none =>
  refine core (fun b=>if b=a then some (.frz { cls:=.type "list",data:=.seq vs.toArray} (.lst (ns.map V.int)))else none) (fun b=>?_) (.inl (.inr ⟨{ cls:=.type "list",data:=.seq vs.toArray},ag rfl⟩)) (fun b u z=>?_) (fun b z=>?_) fun _=>hk
  ·by_cases hb:b=a
   ·exact .inr ⟨_,_,ag hb⟩
   ·exact .inl (ae hb)
  ·by_cases hb:b=a
   ·have z':=(ag hb).symm.trans z
    cases z'
    subst hb
    exact⟨ha,by rw[fC];exact hl,vs,_,rv,ha⟩
   ·have z':=(ae hb).symm.trans z
    cases z'
  ·by_cases hb:b=a
   ·exact hb
   ·exact absurd (ae hb) z
theorem walk_of {l:PySem.W.OpenLaw}{n k:Nat}{q:Program}{loose:List Str}{XP:(Str->Option Value)->Heap->Prop}{YP:World->Heap->Prop}{d:DefRec}{K:Params->PySem.W.Frag}{CX:World->CXT}{sp:World->Sp}{x:Str}
 (hn:l.most=some n) (hn2:n<=sizeLine) (hdf:d.params.defaults=[]) (hr:Room k callerA)
 (hY:∀(w:World) (h:Heap),YP w h->(K w.params).In h)
 (F:∀(w:World) (mg:Str->Option Value) (fa:Addr) (h:Heap),(K w.params).In h->h.Ns mainGlobals mg->mg d.name=some (.ref fa) ->
   ∃ fd:FuncData,(∀(s:Shared) (u:Value),BindsTo s fd ⟨[u],[]⟩ [(x,u)]) /\
    ∀ base:Heap,(K w.params).In base->base.Ns mainGlobals mg->d8 l.prog w (K w.params) mg base (CX w) k fa fd [x] (sp w))
 (hsp:∀(w:World) (H:Hp) (a:Addr) (ns:List Int),ns.length<=n->Only H->SqL (K w.params) H a (ns.map V.int)->sp w [.ref a] H (fun v _=>v=.bl true) fun _ _ _=>False)
 (hCX:∀(w:World) (H:Hp) (s:Shared) (e:Value) (s':Shared),CX w [] H s (fun _ _ _=>False) e s'->False) :
 PySem.W.WalkO q loose XP YP l.row.toRowW d [] (fun f vs=>PySem.call f vs):=by
 refine Att.attach_call hn hdf fun w s₀ s₁ mg mb fa o pm cd doc a vs ns G Y ho hd hcd hmg hobj hints hlen hg=>?_
 have KX:=hY w _ Y
 obtain⟨fd,hb,hF⟩:=F w mg fa _ KX G.T.g hmg
 exact law_call KX G.T.g G.T.b G.T.builtins G.T.nolimit hg hobj hints (aw hlen hn2) hr hF hb (fun H hO hS=>hsp w H a ns hlen hO hS) fun H e s'=>hCX w H s₁ e s'
def defArgs (s:Stmt):Arguments:=match s with
 | .FunctionDef _ a _ _ _ _ _ _ _ _=>a
 | _=>{ posonlyargs:=[],args:=[],vararg:=none,kwonlyargs:=[],kw_defaults:=[],kwarg:=none,defaults:=[]}
def defBody (s:Stmt):List Stmt:=match s with
 | .FunctionDef _ _ b _ _ _ _ _ _ _=>b
 | _=>[]
def dk (s:Stmt):Scope:=match s with
 | .FunctionDef _ _ _ _ _ _ sc _ _ _=>sc
 | _=>{ kind:=.function,names:=[],isGenerator:=false,isCoroutine:=false}
abbrev CX0:CXT:=fun _ _ _ _ _ _=>False
abbrev E0:XK:=fun _ _ _=>False
theorem pass0 {X:Cx}:Passes CX0 X E0:=fun _ _ _ _ _ _ _ h=>h.elim
structure Fun (K:PySem.W.Frag)(x qual:Str)(st:Stmt)(f:Addr)(fd:FuncData):Prop where
 ex:∃(oc:Value) (od:Option Addr) (kV doc pm:Value) (an:Option Addr) (cdv ct:Value) (osl:Array (Option Value)),
  fd=PySem.W.fnOf x qual (defArgs st) (defBody st) (dk st) .none kV doc pm an cdv ct/\K.lookup f=some ⟨oc,od,.func fd,osl⟩/\PySem.W.codeIn K cdv qual=true
 kp:PySem.W.keepIn K (.ref f)=true
section
variable {P:Program}{w:World}{K:PySem.W.Frag}{mg:Str->Option Value}{base:Heap}
theorem Fun.ok {x qual:Str}{st:Stmt}{f:Addr}{fd:FuncData}{N ps:List Str}{k:Nat}{sp:Sp}(F:Fun K x qual st f fd)(S:dw N ps (dk st))(len:∀ vs H Q E,sp vs H Q E->vs.length=ps.length)
 (hbody:∀(cdv:Value) (A:Around) (outer:List Env) (s:Shared) (H:Hp) (vs:List V) (Q:VK) (E:XK),Room k (A.deeper (envOfC qual (dk st) s.heap.objs.size f cdv))->sp vs H Q E ->
   ∃ t,PSs (cxOf CX0 P w K mg base N qual (dk st) f cdv A outer s H E).nox (defBody st) t/\t { nx:=fun _ H'=>Q .fB H',rt:=Q} (start N vs) H):d8 P w K mg base CX0 (k+1) f fd ps sp:=by
 obtain⟨oc,od,kV,doc,pm,an,cdv,ct,osl,rfl,lk,hcd⟩:=F.ex
 refine fn_of lk hcd S len fun A outer s H vs Q E hr hsp=>?_
 obtain⟨t,h,q⟩:=hbody cdv A outer s H vs Q E hr hsp
 exact⟨t,h.nox,q⟩
theorem Fun.binds {x qual:Str}{st:Stmt}{f:Addr}{fd:FuncData}{ps:List Str}(F:Fun K x qual st f fd)
 (h:∀(kV doc pm:Value) (an:Option Addr) (cdv ct:Value) (us:List Value),us.length=ps.length->bindArgs (PySem.W.fnOf x qual (defArgs st) (defBody st) (dk st) .none kV doc pm an cdv ct) ⟨us,[]⟩=pure (ps.zip us)):Binds K fd ps []:=by
 obtain⟨oc,od,kV,doc,pm,an,cdv,ct,osl,rfl,lk,hcd⟩:=F.ex
 exact .all (h kV doc pm an cdv ct)
theorem fun_mk {x qual:Str}{st:Stmt}{f:Addr}{oc:Value}{od an:Option Addr}{osl:Array (Option Value)}{kV doc pm cdv ct:Value}(l:K.lookup f=some ⟨oc,od,.func (PySem.W.fnOf x qual (defArgs st) (defBody st) (dk st) .none kV doc pm an cdv ct),osl⟩)
 (c:PySem.W.codeIn K cdv qual=true) (k:PySem.W.keepIn K (.ref f)=true):Fun K x qual st f (PySem.W.fnOf x qual (defArgs st) (defBody st) (dk st) .none kV doc pm an cdv ct):=⟨⟨oc,od,kV,doc,pm,an,cdv,ct,osl,rfl,l,c⟩,k⟩
end
theorem fg {A:Around}{k:Nat}(hr:Room k A):A.units+1<cLine:=bT (Nat.add_le_add_left (by decide:1<=64) _) hr.units
section
variable {X:Cx}
theorem pv (i:Nat){x:Str}{pos:Pos}(hN:X.N[i]?=some x:=by rfl)(hv:Vis X.env.scope x:=by first | exact Or.inl rfl | exact Or.inr (Or.inl rfl) | exact Or.inr (Or.inr rfl))(hd:(x==("__debug__" : Str))=false:=by decide)
 (hcd:(x==("__classdict__" : Str))=false:=by decide):PE X (.Name x pos) (tVar i):=pe_var hN hv hd hcd
end
def Same (H H':Hp):Prop:=∀ b o,H b=some o->H' b=some o
theorem Same.refl (H:Hp):Same H H:=fun _ _ h=>h
theorem Same.trans {H H1 H2:Hp}(a:Same H H1)(b:Same H1 H2):Same H H2:=fun c o h=>b c o (a c o h)
theorem Same.free {H H':Hp}(e:Same H H'){l:Addr}(h:H' l=Option.none):H l=Option.none:=by
 cases q:H l with
 | none=>rfl
 | some o =>
  rw[e l o q]at h
  cases h
end L2
namespace L2
open PySem PySem.W PyProof.Rows
noncomputable abbrev twRun:=Fast.tw14082659384304107361
noncomputable abbrev twTab:=Fast.tw14364793385576792824
noncomputable abbrev twSeen:=Fast.tw4187177175401517315
noncomputable abbrev S00 (w:World)(os:OsState):Shared:=⟨boot_heap w.params,#[],boot_drawn,boot_toks,os⟩
theorem boot_size (P:Params):((boot_heap P).isNs mainGlobals,(boot_heap P).objs.size,(boot_heap P).nsMap mainGlobals "__annotations__")=(true,11,some (.ref 6)):=by kernel_rfl
theorem left_of {p q:Program}{loose:List Str}{Xt:Shared->Bool}{α:Type}{Yf:Shared->α}{Ya:World->α}{N M:Nat}
 (e:opening p=plainProg p.main.scope.names) (hN:Nat.ble 600 N=true) (f:∀ s,fenceModules? p s=some s) (le:Nat.ble M N=true)
 (h:∀(w:World) (os:OsState),(twRun twTab p w 11 (some (.ref 6)) M (S00 w os) (topStub p)).map (fun s =>
   (staticsOk (importedModules p.main.body) (boot_heap w.params) s.heap&&namesBound p s.heap&&gensDone s&&laidKept (boot_heap w.params) s.heap,twSeen q loose (importedModules p.main.body) Xt true s,Yf s))=some (true,openGood q loose,Ya w)) :
 LeftO p q loose Xt Yf Ya N:=fun w=>by
 obtain⟨⟨h0,gs,d,k,os⟩,e1,e2⟩:=Option.map_eq_some_iff.mp (boot_open e hN f w)
 obtain⟨rfl,rfl,rfl,rfl⟩:h0=boot_heap w.params/\gs=#[]/\d=boot_drawn/\k=boot_toks:=by simpa using e2
 have b:=boot_size w.params
 simp only[Prod.mk.injEq]at b
 obtain⟨s1,r,e3⟩:=Option.map_eq_some_iff.mp (h w os)
 simp only[Prod.mk.injEq]at e3
 have r':topRun treeTable p w 11 (some (.ref 6)) M (S00 w os) (topStub p)=some s1:=by
  rw[show topRun=twRun from Fast.te14082659384304107361,show treeTable=twTab from Fast.te14364793385576792824];exact r
 have r2:=topRun_mono (N - M) _ _ _ _ r'
 rw[show M+(N - M)=N by have:=Nat.le_of_ble_eq_true le;omega]at r2
 have t:topFrom treeTable p w N ⟨boot_heap w.params,#[],boot_drawn,boot_toks,os⟩=some s1:=by
  unfold topFrom
  dsimp only
  rw[b.1,b.2.1,b.2.2,r2]
  show(match staticsOk (importedModules p.main.body) (boot_heap w.params) s1.heap&&namesBound p s1.heap&&gensDone s1&&laidKept (boot_heap w.params) s1.heap with | true=>_ | false=>_)=_
  rw[e3.1]
 unfold openEnds
 rw[e1]
 show(topFrom treeTable p w N _).map _=_
 rw[t]
 refine bD some (Prod.ext ?_ e3.2.2)
 rw[<- e3.2.1]
 exact congrFun (congrFun (congrFun (congrFun (congrFun (congrFun Fast.te4187177175401517315 q) loose) (importedModules p.main.body)) Xt) true) s1
def enP (P:Params)(x:Str)(t:Nat)(v:Value):DictEntry:=⟨PyData.keyHash P x,.str x t,v⟩
def mainO (P:Params)(nm:Str)(t:Nat)(es:List (Str×Nat×Value)):Obj:=⟨.type "dict",none,.dict ((([("__name__",165,.str nm t),("__doc__",166,.none),("__package__",167,.none),("__loader__",168,.builtin "__main__.__loader__#opaque"),("__spec__",169,.none),("__annotations__",170,.ref 6),("__builtins__",171,.ref 4),("__file__",173,.str "/claim/cut.py" 172),("__cached__",174,.none)]:List (Str×Nat×Value))++es).map fun e=>enP P e.1 e.2.1 e.2.2).toArray (es.length+9),#[]⟩
abbrev sS (x:String):Str:=Str.ofString x
abbrev me (x:String)(t:Nat)(v:Value):Str×Nat×Value:=(Str.ofString x,t,v)
abbrev ko (a:Addr)(o:Obj):Addr×Obj:=(a,o)
abbrev sr (a:Addr):Option (Option Value):=some (some (.ref a))
abbrev sn:Option (Option Value):=some none
def fnQ (x q:Str)(s:Stmt)(pm:Value)(c:Addr):Obj:=⟨.type "function",none,.func (fnOf x q (defArgs s) (defBody s) (dk s) .none .none .none pm none (.ref c) .none),#[]⟩
def coQ (x q:Str)(t l a r1 r2:Nat)(v1 v2:Value)(r3 t2:Nat):Obj:=⟨.type "code",none,.fields #[.str x t,.str q (t+1),.str "/claim/cut.py" (t+2),.int l 0,.int a 0,.int 0 0,.int 0 0,.int 3 0,.ref r1,.bool true,.int 181 0,.ref r2,.none,v1,v2,.ref r3,.int t2 0,.int l 0,.str "/claim/cut.py" (t2+1)],#[]⟩
theorem fun_of {K:Frag}{x q:Str}{s:Stmt}{f c:Addr}{pm:Value}(l:K.lookup f=some (fnQ x q s pm c):=by kernel_rfl)(c':codeIn K (.ref c) q=true:=by kernel_rfl)(k:keepIn K (.ref f)=true:=by kernel_rfl):Fun K x q s f (fnOf x q (defArgs s) (defBody s) (dk s) .none .none .none pm none (.ref c) .none):=fun_mk l c' k
theorem bn1 {α:Type}{P:List α->Prop}(h:∀ a,P [a])(us:List α)(e:us.length=1):P us:=by
 obtain⟨a,rfl⟩:=List.length_eq_one_iff.mp e
 exact h a
theorem bnS {α:Type}{P:List α->Prop}{n:Nat}(h:∀ a us,us.length=n->P (a::us))(us:List α)(e:us.length=n+1):P us:=by
 cases us with
 | nil=>cases e
 | cons a us=>exact h a us (Nat.succ.inj e)
def clsBody (s:Stmt):List Stmt:=match s with
 | .ClassDef _ _ _ b _ _ _ _ _ _ _=>b
 | _=>[]
def defPos (s:Stmt):Pos:=match s with
 | .FunctionDef _ _ _ _ _ _ _ _ _ p=>p
 | _=>⟨0,0,0,0⟩
end L2
namespace L2
open PySem PySem.Spec PyProof.Rows
def closOf (cells:List (Str×Addr)):List (Str×NameKind)->List (Str×Addr)->List (Str×Addr)
 | [],acc=>acc
 | (n,k)::r,acc=>if k==.free then closOf cells r ((n,(cells.lookup n).getD 0)::acc)else closOf cells r acc
theorem closOf_run {env:Env}(f:Str×NameKind->List (Str×Addr)->Sem (ForInStep (List (Str×Addr))))
 (hf:∀ n k cs,f (n,k) cs=if k==.free then(do let a <- cellOf env n;pure (.yield ((n,a)::cs)))else pure (.yield cs)) :
 ∀(names:List (Str×NameKind)) (acc:List (Str×Addr)),(∀ y∈names,y.2=.free->∃ c,env.cells.lookup y.1=some c) ->
  forIn names acc f=pure (closOf env.cells names acc)
 | [],acc,_=>by rw[List.forIn_nil];rfl
 | (n,k)::r,acc,h=>by
  rw[List.forIn_cons,hf]
  unfold closOf
  have hr:∀ y∈r,y.2=.free->∃ c,env.cells.lookup y.1=some c:=fun y hy=>h y (gxI _ hy)
  by_cases hk:(k==NameKind.free)=true
  ·rw[ag hk,ag hk]
   obtain⟨c,hc⟩:=h (n,k) av (by simpa using hk)
   have hc':env.cells.lookup n=some c:=hc
   have e:cellOf env n=pure c:=by unfold cellOf;rw[hc']
   rw[e,hc',pure_bind,pure_bind]
   exact closOf_run f hf r _ hr
  ·rw[ae hk,ae hk,pure_bind]
   exact closOf_run f hf r _ hr
theorem closureFor_eq {scope:Scope}{env:Env}(h:∀ y∈scope.names,y.2=.free->∃ c,env.cells.lookup y.1=some c):closureFor scope env=pure (closOf env.cells scope.names []):=by
 simp only[closureFor]
 rw[closOf_run (env:=env) _ (fun n k cs=>by
  by_cases hk:(k==NameKind.free)=true
  ·simp only[hk,if_true]
  ·simp only[Bool.not_eq_true]at hk;simp only[hk,cZ,if_false]) scope.names [] h]
 rfl
theorem closOf_mem {cells:List (Str×Addr)}:∀ {names:List (Str×NameKind)} {acc:List (Str×Addr)},(∀ y∈names,y.2=.free->∃ c,cells.lookup y.1=some c) ->
 ∀ n c,(n,c)∈closOf cells names acc->(n,c)∈acc\/cells.lookup n=some c
 | [],acc,_,n,c,h=>.inl h
 | (m,k)::r,acc,hf,n,c,h=>by
  unfold closOf at h
  have hr:∀ y∈r,y.2=.free->∃ c,cells.lookup y.1=some c:=fun y hy=>hf y (gxI _ hy)
  split at h
  ·rename_i hk
   rcases closOf_mem hr n c h with h | h
   ·rcases List.mem_cons.mp h with e | h
    ·cases e
     obtain⟨c,hc⟩:=hf (m,k) av (by simpa using hk)
     have hc':cells.lookup m=some c:=hc
     exact .inr (by rw[hc'];rfl)
    ·exact .inl h
   ·exact .inr h
  ·exact closOf_mem hr n c h
theorem closOf_acc {cells:List (Str×Addr)}:∀(names:List (Str×NameKind)) (acc:List (Str×Addr)) (n:Str),(acc.lookup n).isSome=true->((closOf cells names acc).lookup n).isSome=true
 | [],acc,n,h=>h
 | (m,k)::r,acc,n,h=>by
  unfold closOf
  split
  ·refine closOf_acc r _ n ?_
   rw[cD]
   cases n==m
   ·exact h
   ·rfl
  ·exact closOf_acc r _ n h
theorem closOf_has {cells:List (Str×Addr)}:∀(names:List (Str×NameKind)) (acc:List (Str×Addr)) (n:Str),(n,NameKind.free)∈names->((closOf cells names acc).lookup n).isSome=true
 | (m,k)::r,acc,n,h=>by
  unfold closOf
  rcases List.mem_cons.mp h with e | h
  ·cases e
   refine closOf_acc r _ m ?_
   simp
  ·split
   ·exact closOf_has r _ n h
   ·exact closOf_has r _ n h
theorem cellsFrom_app:∀(names:List (Str×NameKind)) (n:Nat) (a b:List (Str×Addr)),cellsFrom n names (a++b)=cellsFrom n names a++b
 | [],_,_,_=>rfl
 | (m,k)::r,n,a,b=>by
  unfold cellsFrom
  split
  ·exact cellsFrom_app r (n+1) ((m,n)::a) b
  ·exact cellsFrom_app r n a b
theorem newEnv_comp {M:Model}{A:Around}{E:Value->Shared->Prop}{s:Shared}{scope:Scope}{cl:List (Str×Addr)}{env:Env}{Q:Env->Shared->Prop}
 (h:Q (newEnv scope s.heap.objs.size env.globals (cellsFrom (s.heap.objs.size+1) scope.names cl) env.qual none .none (some env) builtinsNs) { s with heap:=pushCells (s.heap.push { cls:=.type "dict",data:=.dict #[]}) scope.names}) :
 wpAny M A (newFunctionEnv scope env.globals cl [] env.qual none .none (some env)) Q E s:=by
 simp only[newFunctionEnv,Option.isSome_some,if_true]
 refine dY (wpAny_alloc ?_)
 refine dY (wpAny_layCells _ (fun name kind cells=>by cases hkc:kind==NameKind.cell <;> simp[hkc]) _ _ _ _ ?_)
 rw[show({ s with heap:=s.heap.push { cls:=.type "dict",data:=.dict #[]}}:Shared).heap.objs.size=s.heap.objs.size+1 from aY ..]
 rw[List.forIn_nil]
 exact dY (ah (ah h))
def fk (js:List (Option Nat))(σ:St):St:=js.map fun o=>o.bind fun j=>(σ[j]?).join
def compChk (XN:List Str)(xsc:Scope)(N:List Str)(js:List (Option Nat))(sc:Scope):Bool :=
 (sc.kind==.function)&&(sc.names.all fun y=>(y.2 != .local)||(sc.names.lookup y.1==some .local)) &&
 (sc.names.all fun y=>(y.2 != .free)||(xsc.names.lookup y.1==some .cell)||(xsc.names.lookup y.1==some .free)) &&
 (js.length==N.length)&&decide N.Nodup &&
 ((N.zip js).all fun p=>match p.2 with
   | none=>true
   | some j=>XN[j]?==some p.1&&sc.names.contains (p.1,NameKind.free)&&sc.names.lookup p.1==some .free&&!(sc.names.contains (p.1,NameKind.cell)))
structure CompOk (X:Cx)(N:List Str)(js:List (Option Nat))(sc:Scope):Prop where
 kind:sc.kind=.function
 loc:∀ y∈sc.names,y.2=.local->sc.names.lookup y.1=some .local
 free:∀ y∈sc.names,y.2=.free->X.env.kindOf y.1=some .cell\/X.env.kindOf y.1=some .free
 len:js.length=N.length
 nd:N.Nodup
 slot:∀(i:Nat) (x:Str) (j:Nat),N[i]?=some x->js[i]?=some (some j)->X.N[j]?=some x/\(x,NameKind.free)∈sc.names/\sc.names.lookup x=some .free/\(x,NameKind.cell)∉sc.names
theorem compOk {X:Cx}{XN:List Str}{xsc:Scope}{N:List Str}{js:List (Option Nat)}{sc:Scope}(h:compChk XN xsc N js sc=true)(hN:X.N=XN:=by rfl)(hs:X.env.scope=xsc:=by rfl):CompOk X N js sc:=by
 subst hN;subst hs
 unfold compChk at h
 simp only[bc,cm,Bool.or_eq_true,bne_iff_ne,beq_iff_eq,c6]at h
 obtain⟨⟨⟨⟨⟨h1,h2⟩,h3⟩,h4⟩,h5⟩,h6⟩:=h
 refine⟨h1,fun y hy e=>(h2 y hy).resolve_left fun z=>z e,fun y hy e=>?_,h4,h5,fun i x j e1 e2=>?_⟩
 ·rcases h3 y hy with(z | z) | z
  ·exact absurd e z
  ·exact .inl z
  ·exact .inr z
 ·have hm:(x,some j)∈N.zip js:=List.mem_iff_getElem?.mpr ⟨i,by rw[List.getElem?_zip_eq_some];exact⟨e1,e2⟩⟩
  have q:=h6 _ hm
  simp only[bc,beq_iff_eq,List.contains_iff_mem,Bool.not_eq_true',List.contains_eq_mem,c6,decide_eq_false_iff_not]at q
  exact⟨q.1.1.1,q.1.1.2,q.1.2,q.2⟩
theorem cellsFrom_mem:∀(names:List (Str×NameKind)) (n:Nat) (acc:List (Str×Addr)) (x:Str) (c:Addr),(x,c)∈cellsFrom n names acc->(x,NameKind.cell)∈names\/(x,c)∈acc
 | [],_,_,_,_,h=>.inr h
 | (m,k)::r,n,acc,x,c,h=>by
  unfold cellsFrom at h
  split at h
  ·rename_i hk
   rcases cellsFrom_mem r _ _ x c h with h | h
   ·exact .inl (gxI _ h)
   ·rcases List.mem_cons.mp h with e | h
    ·cases e
     have hk':k=NameKind.cell:=by simpa using hk
     exact .inl (by rw[hk'];exact av)
    ·exact .inr h
  ·rcases cellsFrom_mem r _ _ x c h with h | h
   ·exact .inl (gxI _ h)
   ·exact .inr h
theorem lookup_mapk {α β:Type}(g:Str->α->β):∀(l:List (Str×α)) (x:Str),(l.map fun p=>(p.1,g p.1 p.2)).lookup x=(l.lookup x).map (g x)
 | [],_=>rfl
 | (n,k)::r,x=>by
  rw[ai,cD,cD]
  cases hb:x==n with
  | true=>rw[beq_iff_eq.mp hb];rfl
  | false=>exact lookup_mapk g r x
def relK (env:Env)(x:Str)(k:NameKind):NameKind:=if(k==.free&&env.scope.kind==.function&&env.kindOf x==some .cell)then .cell else k
theorem lookup_relabel {sc:Scope}{env:Env}{x:Str}:(relabel sc env).names.lookup x=(sc.names.lookup x).map (relK env x):=by
 rw[<- lookup_mapk]
 unfold relabel
 congr 1
 refine bP fun p _=>?_
 obtain⟨n,k⟩:=p
 show(if _ then _ else _)=(n,relK env n k)
 unfold relK
 split <;> rfl
theorem relK_vis {env:Env}{x:Str}{k:NameKind}(h:relK env x k=.cell\/relK env x k=.free):k=.cell\/k=.free:=by
 unfold relK at h
 split at h
 ·rename_i q
  simp only[bc,beq_iff_eq]at q
  exact .inr q.1.1
 ·exact h
theorem relK_free {env:Env}{x:Str}:relK env x .free=.cell\/relK env x .free=.free:=by
 unfold relK
 split
 ·exact .inl rfl
 ·exact .inr rfl
def envC (sc:Scope)(C:Addr)(env:Env):Env where
 scope:=relabel sc env
 locals:=C
 globals:=env.globals
 cells:=cellsFrom (C+1) sc.names (closOf env.cells sc.names [])
 qual:=env.qual
 func:=none
 code:=env.code
 frame:=env.frame
 builtins:=env.builtins
def cxC (X:Cx)(N:List Str)(sc:Scope)(fp:List Addr)(s:Shared)(H:Hp):Cx where
 prog:=X.prog
 w:=X.w
 K:=X.K
 mg:=X.mg
 base:=X.base
 A:=X.A
 N:=N
 s₀:=s
 H₀:=H
 env:=envC sc (s.heap.objs.size+1) X.env
 outer:=X.stack
 stack:=X.stack
 ex:=fp
 fn:=fun x=>sc.names.lookup x==some .cell
 calm:=X.calm
 pn:=[]
 xe:=fun _ _=>False
def heapC (sc:Scope)(h:Heap):Heap:=pushCells ((h.push { cls:=.type "list",dict:=none,data:=.seq ([]:List Value).toArray}).push { cls:=.type "dict",data:=.dict #[]}) sc.names
theorem heapC_keeps {sc:Scope}{h:Heap}:∀ b o,h.get? b=some o->(heapC sc h).get? b=some o:=fun b o e=>cL _ _ b o (gxL _ (gxL _ e))
theorem heapC_acc {sc:Scope}{h:Heap}:(heapC sc h).get? h.objs.size=some { cls:=.type "list",dict:=none,data:=.seq ([]:List Value).toArray} :=
 cL _ _ _ _ (gxL _ (au _ rfl))
theorem getStart {js:List (Option Nat)}{σ:St}{i:Nat}{v:V}(h:(fk js σ)[i]?=some (some v)):∃ j,js[i]?=some (some j)/\σ[j]?=some (some v):=by
 unfold fk at h
 rw[gxH]at h
 cases e:js[i]? with
 | none=>rw[e]at h;cases h
 | some o =>
  rw[e]at h
  cases o with
  | none=>cases h
  | some j =>
   refine⟨j,rfl,?_⟩
   have h':(σ[j]?).join=some v:=aJ h
   cases q:σ[j]? with
   | none=>rw[q]at h';cases h'
   | some z=>rw[q]at h';have:z=some v:=h';rw[this]
section
variable {X:Cx}{pins:List (Addr×Obj)}{σ:St}{H:Hp}{s:Shared}{N:List Str}{js:List (Option Nat)}{sc:Scope}{fp:List Addr}
theorem inv_comp (I:Inv X pins σ H s)(hc:CompOk X N js sc)(hf:∀ b∈fp,FpOk X pins H b)(ho:∀ b∈fp,∃ o,s.heap.get? b=some o)(tk:Nat) :
 Inv (cxC X N sc fp s H) [] (fk js σ) H { s with heap:=heapC sc s.heap,toks:=tk}:=by
 have hC:(s.heap.push { cls:=.type "list",dict:=none,data:=.seq ([]:List Value).toArray}).objs.size=s.heap.objs.size+1:=aY ..
 have freeX:∀ y∈sc.names,y.2=.free->∃ c,X.env.cells.lookup y.1=some c:=fun y hy e=>I.ok.has y.1 (hc.free y hy e)
 have ok:=cellsFrom_ok sc.names ((s.heap.push { cls:=.type "list",dict:=none,data:=.seq ([]:List Value).toArray}).push { cls:=.type "dict",data:=.dict #[]}) (s.heap.objs.size+1+1) [] ⟨fun _ _ hm=>(nomatch hm),List.Pairwise.nil⟩
  (by rw[aY,hC];exact aa _)
 rw[aY,hC]at ok
 have eC:(envC sc (s.heap.objs.size+1) X.env).cells=cellsFrom (s.heap.objs.size+1+1) sc.names []++closOf X.env.cells sc.names []:=cellsFrom_app sc.names _ [] _
 have lk:∀ x c,(envC sc (s.heap.objs.size+1) X.env).cells.lookup x=some c->(x,c)∈cellsFrom (s.heap.objs.size+1+1) sc.names []\/X.env.cells.lookup x=some c:=fun x c e=>by
  rw[eC]at e
  rcases List.mem_append.mp (mem_of_lookup e)with h | h
  ·exact .inl h
  ·rcases closOf_mem freeX x c h with h | h
   ·cases h
   ·exact .inr h
 have big:∀(x:Str) (c:Nat),(x,c)∈cellsFrom (s.heap.objs.size+1+1) sc.names []->s.heap.objs.size+1+1<=c:=fun x c h=>(ok.empty x c h).2
 have small:∀(x:Str) (c:Nat),X.env.cells.lookup x=some c->c<s.heap.objs.size:=fun x c h=>let ⟨_,q⟩:=I.cell x c h;q.lt
 have has:∀ x,((envC sc (s.heap.objs.size+1) X.env).kindOf x=some .cell\/(envC sc (s.heap.objs.size+1) X.env).kindOf x=some .free)->∃ c,(envC sc (s.heap.objs.size+1) X.env).cells.lookup x=some c:=fun x h=>by
  have h':(relabel sc X.env).names.lookup x=some .cell\/(relabel sc X.env).names.lookup x=some .free:=h
  rw[lookup_relabel]at h'
  rw[eC,cY]
  cases q:sc.names.lookup x with
  | none=>rw[q]at h';rcases h' with h' | h' <;> cases h'
  | some k =>
   rw[q]at h'
   have hk:=relK_vis (env:=X.env) (x:=x) (k:=k) (h'.elim (fun z=>.inl (aJ z)) fun z=>.inr (aJ z))
   rcases hk with rfl | rfl
   ·obtain⟨c,hc'⟩:=cell_has (n:=s.heap.objs.size+1+1) q
    exact⟨c,by rw[hc'];rfl⟩
   ·have z:=closOf_has (cells:=X.env.cells) sc.names [] x (mem_of_lookup q)
    obtain⟨c,hc'⟩:=Option.isSome_iff_exists.mp z
    cases q2:(cellsFrom (s.heap.objs.size+1+1) sc.names []).lookup x with
    | none=>exact⟨c,by rw[hc'];rfl⟩
    | some d=>exact⟨d,rfl⟩
 have okY:(cxC X N sc fp s H).Ok:=by
  refine⟨I.ok.mod,hc.kind,I.ok.glob,I.ok.blt,Nat.le_succ _,fun x y c h1 h2=>?_,has,fun x c hx h=>?_,I.ok.hd,I.ok.frames,.inl rfl,fun b hb=>⟨?_,fun x c h=>?_⟩,I.bs,aw I.ok.bsz I.sz,fun b o e hb=>?_,fun b hb hs=>?_,I.stack,I.stkFree⟩
  ·rcases lk x c h1 with g1 | g1 <;> rcases lk y c h2 with g2 | g2
   ·exact name_of_addr ok.apart g1 g2
   ·exact absurd (aq (small _ _ g2) (aw (aW _ 2) (big _ _ g1))) (bo _)
   ·exact absurd (aq (small _ _ g1) (aw (aW _ 2) (big _ _ g2))) (bo _)
   ·exact I.ok.inj x y c g1 g2
  ·have hx':sc.names.lookup x=some .cell:=by simpa [cxC]using hx
   have h':(envC sc (s.heap.objs.size+1) X.env).cells.lookup x=some c:=h
   rw[eC,cY]at h'
   obtain⟨c2,hc'⟩:=cell_has (n:=s.heap.objs.size+1+1) hx'
   rw[hc']at h'
   have e:c2=c:=aJ h'
   subst e
   exact aw (aW _ 2) (big _ _ (mem_of_lookup hc'))
  ·obtain⟨o,e⟩:=ho b hb
   exact aC (ba (gxN e))
  ·obtain⟨o,e⟩:=ho b hb
   have l:=gxN e
   rcases lk x c h with g | g
   ·exact a9 (aq l (aw (aW _ 2) (big _ _ g)))
   ·exact(hf b hb).2.2.2.2.1 x c g
  ·rcases(hf b hb).2.2.2.1 with z | z
   ·exact I.ok.noex b o e z
   ·exact absurd (aq (gxN e) (aw I.ok.bsz z)) (bo _)
  ·rcases List.mem_cons.mp (I.stkSub b hs)with z | z
   ·exact(hf b hb).2.1 z
   ·exact(hf b hb).2.2.1 z
 have keepH:∀ b u,s.heap.get? b=some u->(heapC sc s.heap).get? b=some u:=heapC_keeps
 have nsC:(heapC sc s.heap).Ns (s.heap.objs.size+1) fun _=>none:=by
  have q:=(Heap.Ns.new (s.heap.push { cls:=.type "list",dict:=none,data:=.seq ([]:List Value).toArray}) (.type "dict")).keeps (cL sc.names _)
  rw[hC]at q
  exact q
 refine⟨okY,rfl,I.bare,Un.kept keepH,⟨_,nsC,fun i x v e1 e2 e3=>?_⟩,fun x c h=>?_,I.dX.fresh (Nat.le_succ _),fun x c h=>?_,fun p hp=>absurd (show p∈([]:List (Addr×Obj))from hp) (by simp),I.dX.kept keepH,?_⟩
 ·obtain⟨j,hj,hv⟩:=getStart e2
  obtain⟨g1,g2,g3,g4⟩:=hc.slot i x j e1 hj
  have kx:=hc.free _ g2 rfl
  obtain⟨m,hn,hl⟩:=I.loc
  obtain⟨u,r,l⟩:=hl j x v g1 hv (.inr kx)
  refine⟨u,r,?_⟩
  rcases l with⟨z,_⟩ | ⟨_,c,hcc,hcell⟩
  ·have z':X.env.kindOf x=some .local:=z
   rcases kx with k | k <;> (have k':X.env.kindOf x=_:=k;rw[z']at k';cases k')
  ·have kY:(envC sc (s.heap.objs.size+1) X.env).kindOf x=some .cell\/(envC sc (s.heap.objs.size+1) X.env).kindOf x=some .free:=by
    show(relabel sc X.env).names.lookup x=some .cell\/(relabel sc X.env).names.lookup x=some .free
    rw[lookup_relabel,g3]
    rcases relK_free (env:=X.env) (x:=x)with q | q
    ·exact .inl (show some (relK X.env x .free)=_ by rw[q])
    ·exact .inr (show some (relK X.env x .free)=_ by rw[q])
   obtain⟨c',h'⟩:=has x kY
   refine .inr ⟨kY,c',h',?_⟩
   rcases lk x c' h' with g | g
   ·rcases cellsFrom_mem _ _ _ _ _ g with z | z
    ·exact absurd z g4
    ·cases z
   ·rw[hcc]at g;cases g
    exact hcell.keeps keepH
 ·rcases lk x c h with g | g
  ·exact⟨_,(ok.empty x c g).1⟩
  ·obtain⟨v,q⟩:=I.cell x c g
   exact⟨v,q.keeps keepH⟩
 ·rcases lk x c h with g | g
  ·exact I.dX.fresh (aw (aW _ 2) (big _ _ g))
  ·exact I.freeC x c g
 ·show(fk js σ).length=N.length
  unfold fk
  rw[fC];exact hc.len
end
section
variable {X:Cx}{pins:List (Addr×Obj)}{σ:St}{H:Hp}{s:Shared}
theorem Inv.adopt {D:Addr}{ys:List V}{d7:List Value}{n:Nat}(I:Inv X pins σ H s)(hn:H D=none)(hL:D≠X.env.locals)(h1:X.s₀.heap.objs.size<=D)(h2:∀ x c,X.env.cells.lookup x=some c->c≠D)(h3:∀ p∈X.pn++pins,p.1≠D)
 (e:s.heap.get? D=some { cls:=.type "list",data:=.seq d7.toArray n}) (r:Vals ys d7) (hz:ys.length<=sizeLine):Inv X pins σ (upd H D (.lst ys)) s:=by
 have ne:∀ b,b∉[D]->b≠D:=fun b h z=>h (by simp[z])
 refine I.step (g':=s.gens) (d':=s.drawn) (t':=s.toks) (h':=s.heap) (ch:=[D]) (fun b hb=>?_) (fun b o _ _ _ q _=>q) (fun b o _ _ _ q _=>⟨o.slots,q⟩) (fun b o hb q z=>by rw[dQ (ne b hb)];exact z) (fun b o _ q=>⟨o,q⟩)
  (fun b xs q=>by rw[dQ (eI q hn)];exact q) (fun b o u q=>by rw[dQ (eI q hn)];exact q) (fun b ps q=>⟨#[],by rw[dQ (eI q hn),q];simp⟩) (fun m q=>q) (fun b u q=>?_) I.bare
 ·have z:b=D:=by simpa using hb
  subst z
  exact⟨.inr h1,hL,h2,h3⟩
 ·by_cases hb:b=D
  ·subst hb;rw[dE]at q;cases q
   exact⟨hz,d7,n,r,e⟩
  ·rw[dQ hb]at q
   exact(I.dX b u q).stay (fun c v _ z=>z) (fun c z=>by rw[dQ (eI z hn)];exact z) fun c xs z=>by rw[dQ (eI z hn)];exact z
def PTs (X:Cx)(ifs:List Expr)(t:TT):Prop :=
 ∀(pins:List (Addr×Obj)) (s:Shared) (σ:St) (H:Hp) (Q:Bool->Hp->Prop),Inv X pins σ H s->t σ H Q ->
  wpAny (model X.prog X.w) X.A (forIn ifs true fun c r=>if r=true then do let ok <- isTrue c X.env (eval c X.env);pure (ForInStep.yield ok)else pure (ForInStep.yield r)) (TP X pins σ Q) X.xe s
def tYes:TT:=fun _ H Q=>Q true H
theorem pts_nil:PTs X [] tYes:=fun _ _ _ H _ I h=>wpAny_tests_nil ⟨H,I,h⟩
theorem pts_one {c:Expr}{t:TT}(h:PT X c t):PTs X [c] t:=fun pins s σ H Q I q=>wpAny_tests_one (h pins s σ H Q I q)
def Ext (σ σ':St):Prop:=σ.length=σ'.length/\∀(i:Nat) v,σ[i]?=some (some v)->σ'[i]?=some (some v)
theorem Ext.own2 {v u:Option V}{r:St}:Ext (none::none::r) (v::u::r):=⟨rfl,fun i z h=>by
 match i,h with
 | 0,h=>simp at h
 | 1,h=>simp at h
 | i+2,h=>simpa using h⟩
def wComp (js:List (Option Nat))(g:TG)(tt:TT)(te:TE)(J:It)(σ:St)(H1:Hp)(fin:List V->Hp->Prop):Prop :=
 ∃ W:Nat->Nat->List V->Hp->Prop,(∃ m,W 0 m [] H1)/\∀ i m ys H,W i m ys H ->
  (J.stop i H/\fin ys H)\/(J.go i H/\∀ x H',J.yld i H x H'->g x (fk js σ) H' fun σ2 H2=>Ext (fk js σ) σ2/\tt σ2 H2 fun b H3 =>
    if b=true then te σ2 H3 fun y H4=>ys.length<sizeLine/\∃ m',m'<m/\W (i+1) m' (ys++[y]) H4 else ∃ m',m'<m/\W (i+1) m' ys H3)
theorem compLoop_any {prog:Program}{w:World}{A:Around}{R:Result->Shared->Prop}{s:Shared}{elt target iter:Expr}{ifs:List Expr}{scope:Scope}{pos:Pos}{it acc:Value}{env:Env}(I:Nat->Shared->Prop)
 (turn:∀ n s,I n s->wpAny (model prog w) A (pyNext it) (fun r s₁=>match r with
   | none=>R (.ok .next) s₁
   | some v=>wpAny (model prog w) A (letOwnedTupleGo target it v) (fun _ s₁'=>wpAny (model prog w) A (assign target env v) (fun _ s₂ =>
    wpAny (model prog w) A (forIn ifs true fun c r=>if r=true then do let ok <- isTrue c env (eval c env);pure (ForInStep.yield ok)else pure (ForInStep.yield r)) (fun ok s₃ =>
     if ok=true then wpAny (model prog w) A (eval elt env) (fun x s₄ =>
      wpAny (model prog w) A (call (.builtin "list.append") [acc,x]) (fun _ s₅=>∃ m,m<n/\I m s₅) (fun _ _=>False) s₄) (fun _ _=>False) s₃
     else ∃ m,m<n/\I m s₃) (fun _ _=>False) s₂) (fun _ _=>False) s₁') (fun _ _=>False) s₁) (fun _ _=>False) s)
 (n:Nat) (h:I n s) :
 codeAny (model prog w) A (.compLoop (.ListComp elt [⟨target,iter,ifs,0⟩] scope pos) 0 it acc env) R s:=by
 refine codeAny_loop rfl I (fun n s hI=>?_) n h
 show wpAny _ A ((compTurn (.ListComp elt [⟨target,iter,ifs,0⟩] scope pos) 0 it acc env).onRaise (fun x=>do noteFrame x env;theTreesLotGoes x)) _ _ s
 refine wpAny_noted ?_
 rw[compTurn_list]
 refine dY (cG (dY (a6 (turn n s hI) (fun r s₁ h₁=>?_) fun _ _ h'=>h'.elim)))
 cases r with
 | none=>exact ah h₁
 | some v =>
  refine dY (a6 h₁ (fun _ s₁' h₁'=>?_) fun _ _ h'=>h'.elim)
  refine dY (a6 h₁' (fun _ s₂ h₂=>dY (a6 h₂ (fun ok s₃ h₃=>?_) fun _ _ h'=>h'.elim)) fun _ _ h'=>h'.elim)
  cases ok with
  | false=>exact ah ⟨rfl,h₃⟩
  | true =>
   exact dY (dY (a6 h₃ (fun x s₄ h₄=>dY (a6 h₄ (fun _ s₅ h₅=>ah (ah ⟨rfl,h₅⟩)) fun _ _ h'=>h'.elim)) fun _ _ h'=>h'.elim))
variable {N:List Str}{js:List (Option Nat)}{sc:Scope}{fp:List Addr}{tg elt iter:Expr}{ifs:List Expr}{g:TG}{tt:TT}{te:TE}
def lobj (d7:List Value)(n:Nat):Obj:={ cls:=.type "list",data:=.seq d7.toArray n}
theorem comp_block {J:It}{it:Addr}{tn:Nat->Heap->Prop}{pos:Pos}{R:Result->Shared->Prop}{fin:List V->Hp->Prop}{tk:Nat}(I:Inv X pins σ H s)(hc:CompOk X N js sc){CM:Cx->Prop}(calm:CM (cxC X N sc fp s H))
 (T:Turn X.prog X.w X.K tg J fp it tn CM) (st:tn 0 s.heap) (hf:∀ b∈fp,FpOk X pins H b)
 (hg:PG (cxC X N sc fp s H) tg g) (ht:PTs (cxC X N sc fp s H) ifs tt) (he:PE (cxC X N sc fp s H) elt te) (q:wComp js g tt te J σ H fin)
 (hR:∀ s' H' ys m,Inv X pins σ (upd H' s.heap.objs.size (.lst ys)) s'->H' s.heap.objs.size=none->fin ys H'->s'.heap.Ns (s.heap.objs.size+1) m->H' (s.heap.objs.size+1)=none->R (.ok .next) s') :
 codeAny (model X.prog X.w) X.A (.compStart (.ListComp elt [⟨tg,iter,ifs,0⟩] sc pos) 0 (.ref it) (.ref s.heap.objs.size) (envC sc (s.heap.objs.size+1) X.env)) R { s with heap:=heapC sc s.heap,toks:=tk}:=by
 have hob:∀ b∈fp,∃ o,s.heap.get? b=some o:=fun b hb=>let ⟨o,e,_⟩:=T.obj 0 s.heap st b hb;⟨o,e⟩
 have I0:=inv_comp I hc hf hob tk
 have okY:=I0.ok
 obtain⟨W,⟨m0,w0⟩,turn⟩:=q
 have small:∀ b∈fp,b≠s.heap.objs.size:=fun b hb=>let ⟨o,e⟩:=hob b hb;aC (gxN e)
 have stat:∀ {d7:List Value} {k:Nat} {H':Hp},(∀ b∈fp,H' b=none)->∀ b∈fp,FpOk (cxC X N sc fp s H) [(s.heap.objs.size,lobj d7 k)] H' b:=fun {d7 k H'} hn b hb =>
  ⟨hn b hb,(okY.exf b hb).1,okY.exfs b hb,.inl hb,(okY.exf b hb).2,fun p hp=>by
   have e:p=(s.heap.objs.size,lobj d7 k):=by simpa [cxC]using hp
   rw[e];exact(small b hb).symm⟩
 have st0:tn 0 (heapC sc s.heap):=T.keep 0 _ _ st fun b _ o e=>heapC_keeps b o e
 have I1:Inv (cxC X N sc fp s H) [(s.heap.objs.size,lobj [] 0)] (fk js σ) H { s with heap:=heapC sc s.heap,toks:=tk}:=I0.pins_of fun p hp=>by
  have e:p=(s.heap.objs.size,lobj [] 0):=by simpa using hp
  subst e
  refine⟨heapC_acc,I.dX.fresh (aa _),aC (bL _),fun z=>?_,fun v z=>by cases z⟩
  obtain⟨_,o,ho,_⟩:=okY.funs.mem z
  exact bo _ (gxN ho)
 have loop:codeAny (model X.prog X.w) X.A (.compLoop (.ListComp elt [⟨tg,iter,ifs,0⟩] sc pos) 0 (.ref it) (.ref s.heap.objs.size) (envC sc (s.heap.objs.size+1) X.env)) R { s with heap:=heapC sc s.heap,toks:=tk}:=by
  refine compLoop_any (fun n s'=>∃ i ys d7 k H',Inv (cxC X N sc fp s H) [(s.heap.objs.size,lobj d7 k)] (fk js σ) H' s'/\tn i s'.heap/\(∀ b∈fp,H' b=none)/\Vals ys d7/\ys.length<=sizeLine/\W i n ys H') ?_ m0
   ⟨0,[],[],0,H,I1,st0,fun b hb=>(hf b hb).1,.nil,aX _,w0⟩
  rintro n s3 ⟨i,ys,d7,k,H3,I3,st3,fr3,rv,hz,w3⟩
  have len:=rv.length
  rcases turn i n ys H3 w3 with⟨stop,qf⟩ | ⟨go,step⟩
  ·refine fo (T.done (cxC X N sc fp s H) rfl rfl rfl calm i _ s3 _ H3 _ I3 (stat fr3) st3 stop) fun r s4 hq0=>?_
   obtain⟨hr,I4⟩:=hq0
   subst hr
   show R (.ok .next) s4
   have hD:=I4.pin (s.heap.objs.size,lobj d7 k) (aD _ av)
   obtain⟨m,hns,_⟩:=I4.loc
   have IX:Inv X pins σ H3 s4:=I.call' (ch:=fp) I4.os I4.base I4.dX I4.bare fun b hb=>by
    obtain⟨f0,f1,f2,f3,f4,f5⟩:=hf b hb
    exact⟨f3,f1,f4,f5⟩
   have neD:∀(b:Addr) (o:Obj),s.heap.get? b=some o->b≠s.heap.objs.size:=fun b o e=>aC (gxN e)
   refine hR s4 H3 ys m (IX.adopt hD.2.1 (a9 I.lt) I.sz (fun x c e=>?_) (fun p hp=>neD _ _ (I.pin p hp).1) hD.1 rv hz) hD.2.1 qf hns I4.free
   obtain⟨v,q⟩:=I.cell x c e
   exact aC q.lt
  ·refine fo (T.item (cxC X N sc fp s H) rfl rfl rfl calm i _ s3 _ H3 _ I3 (stat fr3) st3 go) fun r s4 hq1=>?_
   obtain⟨u,hr,h4⟩:=hq1
   subst hr
   refine fo h4 fun _ s5 hq2=>?_
   obtain⟨x,H5,I5,r5,y5,st5,fr5⟩:=hq2
   have I5':=I5.pinned (stat fr5) (T.obj _ _ st5)
   refine fo (hg _ s5 _ H5 x u _ I5' r5 (step x H5 y5)) fun _ s6 ⟨σ6,H6,I6,⟨ext6,q6⟩⟩=>?_
   refine fo (ht _ s6 σ6 H6 _ I6 q6) fun b s7 hq3=>?_
   obtain⟨H7,I7,q7⟩:=hq3
   have back:∀ {s':Shared} {H':Hp},Inv (cxC X N sc fp s H) ([(s.heap.objs.size,lobj d7 k)]++pinsAt fp s5.heap) σ6 H' s'->tn (i+1) s'.heap/\(∀ b∈fp,H' b=none)/\Inv (cxC X N sc fp s H) [(s.heap.objs.size,lobj d7 k)] (fk js σ) H' s':=fun {s' H'} I'=>by
    refine⟨T.keep _ _ _ st5 fun b hb o e=>(I'.pin (b,o) (aD _ (aD _ (mem_pinsAt hb e)))).1,fun b hb=>?_,(I'.weak ext6.1 ext6.2).unpinned⟩
    obtain⟨o,e,d⟩:=T.obj _ _ st5 b hb
    exact(I'.pin (b,o) (aD _ (aD _ (mem_pinsAt hb e)))).2.1
   cases b with
   | false =>
    rw[ae aA]at q7 ⊢
    obtain⟨m',hm,w7⟩:=q7
    obtain⟨t7,f7,I7'⟩:=back I7
    exact⟨m',hm,i+1,ys,d7,k,H7,I7',t7,f7,rv,hz,w7⟩
   | true =>
    rw[ag rfl]at q7 ⊢
    refine fo (he _ s7 σ6 H7 _ I7 q7) fun y s8 hq4=>?_
    obtain⟨yv,H8,I8,ry,hlt,m',hm,w8⟩:=hq4
    obtain⟨t8,f8,I8'⟩:=back I8
    have hD:=I8'.pin (s.heap.objs.size,lobj d7 k) (aD _ av)
    have eD:s8.heap.get? s.heap.objs.size=some { cls:=.type "list",data:=.seq d7.toArray k}:=hD.1
    refine call_meets F.slot_list_append ⟨_,eD,rfl⟩ F.entry_list_append (F.args_list_append_2 _ _) (PySem.list_append s.heap.objs.size d7.toArray k y (by rw[ar];omega)) ⟨eD,?_⟩
    have q:=PySem.IsL.update eD (·.push y)
    have epush:d7.toArray.push y=(d7++[y]).toArray:=by simp
    have keep:∀(b:Addr) (o:Obj),b≠s.heap.objs.size->s8.heap.get? b=some o->(s8.heap.update s.heap.objs.size (Obj.mapSeq (·.push y))).get? b=some o:=fun b o hb e=>(bb s8.heap (Obj.mapSeq (·.push y)) (aZ hb)).trans e
    have cellD:∀ x c,(cxC X N sc fp s H).env.cells.lookup x=some c->c≠s.heap.objs.size:=fun x c e z=>by
     obtain⟨v,o,ho,hd⟩:=I8'.cell x c e
     rw[z,eD]at ho;cases ho
     cases hd
    have I9:Inv (cxC X N sc fp s H) [] (fk js σ) H8 { s8 with heap:=s8.heap.update s.heap.objs.size (Obj.mapSeq (·.push y))} :=
     (I8'.pins_of (pins':=[]) fun p hp=>absurd hp (by simp)).turned (t':=s8.toks) keep hD.2.1 hD.2.2.1 (.inr (aa _)) cellD (fun p hp=>absurd (show p∈([]:List (Addr×Obj))from hp) (by simp))
    rw[epush]at q
    obtain⟨k',q'⟩:∃ k',(s8.heap.update s.heap.objs.size (Obj.mapSeq (·.push y))).get? s.heap.objs.size=some (lobj (d7++[y]) k'):=⟨_,q⟩
    refine⟨m',hm,i+1,ys++[yv],d7++[y],k',H8,I9.pins_of fun p hp=>?_,T.keep _ _ _ t8 fun b hb o e=>keep b o (small b hb) e,f8,rv.append (.cons ry .nil),by rw[gxE,aO];omega,w8⟩
    have e:p=(s.heap.objs.size,lobj (d7++[y]) k'):=by simpa using hp
    subst e
    exact⟨q',hD.2.1,hD.2.2.1,hD.2.2.2.1,fun v z=>by cases z⟩
 exact codeAny_compStart_list loop (T.self _ 0 _ _ _ st0 loop)
def tComp (wi:TI)(js:List (Option Nat))(g:TG)(tt:TT)(te:TE):TE:=fun σ H Q=>wi σ H fun J H1=>wComp js g tt te J σ H1 fun ys H'=>∀ D,H' D=none->Q (.ref D) (upd H' D (.lst ys))
theorem pe_comp {wi:TI}{pos:Pos}(hc:CompOk X N js sc)(calm:X.calm=true)(hi:PI X tg iter wi)(hg:∀ fp s H,PG (cxC X N sc fp s H) tg g)(ht:∀ fp s H,PTs (cxC X N sc fp s H) ifs tt)(he:∀ fp s H,PE (cxC X N sc fp s H) elt te)
 (hs:∀ x,foldedSetIterable iter X.env x=pure x:=by intro _;rfl):PE X (.ListComp elt [⟨tg,iter,ifs,0⟩] sc pos) (tComp wi js g tt te):=by
 intro pins s σ H Q I h
 rw[eval_ListComp]
 refine b8 (use:=none) rfl hs (closureFor_eq fun y hy e=>I.ok.has y.1 (hc.free y hy e)) hc.kind hc.loc (fo (hi pins s σ H _ I h) fun v s1 h1=>fo h1 fun itv s2 h2=>?_)
 obtain⟨it,fp,tn,J,H2,e,I2,T,st2,f2,q⟩:=h2
 subst e
 refine aV (newEnv_comp ?_)
 have hC:(s2.heap.push { cls:=.type "list",dict:=none,data:=.seq ([]:List Value).toArray}).objs.size=s2.heap.objs.size+1:=aY ..
 simp only[hC]
 refine comp_block (tk:=s2.toks) I2 hc calm T st2 f2 (hg fp s2 H2) (ht fp s2 H2) (he fp s2 H2) q fun s' H' ys m IX nD qf nC hn=>?_
 refine⟨m,nC,fun h' sb=>?_⟩
 have neC:∀(b:Addr) (o:Obj),s2.heap.get? b=some o->b≠s2.heap.objs.size+1:=fun b o e=>aC (ba (gxN e))
 have IY:Inv X pins σ (upd H' s2.heap.objs.size (.lst ys)) { s' with heap:=h'}:=IX.turned (t':=s'.toks) (it:=s2.heap.objs.size+1) (fun b o hb e=>(sb.2 b hb).trans e) (by rw[dQ (a9 (bL _))];exact hn)
  (a9 (ba I2.lt)) (.inr (bO I2.sz)) (fun x c e=>let ⟨v,z⟩:=I2.cell x c e;aC (ba z.lt)) (fun p hp=>neC _ _ (I2.pin p hp).1)
 exact⟨.ref _,_,IY,rfl,qf _ nD⟩
theorem ps_setComp {wi:TI}{pos pos' spos:Pos}{i:Nat}{x:Str}(hc:CompOk X N js sc)(calm:X.calm=true)(hN:X.N.Nodup)(hx':X.N[i]?=some x)(hx:Loc X.env.scope x)(hi:PI X tg iter wi)(hg:∀ fp s H,PG (cxC X N sc fp s H) tg g)
 (ht:∀ fp s H,PTs (cxC X N sc fp s H) ifs tt) (he:∀ fp s H,PE (cxC X N sc fp s H) elt te) (hsw:swapsWith (.ListComp elt [⟨tg,iter,ifs,0⟩] sc pos) (some (.Name x pos')) spos.line X.env=pure true:=by rfl)
 (hs:∀ x,foldedSetIterable iter X.env x=pure x:=by intro _;rfl) (hf:X.fn x=true\/X.env.scope.names.lookup x=some .local:=by first | exact .inl rfl | exact .inr rfl | assumption) :
 PS X (.Assign [.Name x pos'] (.ListComp elt [⟨tg,iter,ifs,0⟩] sc pos) spos) (tAsg (tComp wi js g tt te) (gName i)):=by
 intro pins s σ H D I h
 rw[exec_Assign_Name_used _ _ _ _ hsw]
 refine dY (cG (dY ?_))
 show wpAny _ X.A (do let _ <- comprehension (.ListComp elt [⟨tg,iter,ifs,0⟩] sc pos) sc X.env _ (newList []) false (eval iter X.env) (some (assign (.Name x pos') X.env))) _ _ s
 refine dY (a6 (b8 (use:=some (assign (.Name x pos') X.env)) (Q:=fun _ s'=>SP X pins D .next s') rfl hs (closureFor_eq fun y hy e=>I.ok.has y.1 (hc.free y hy e)) hc.kind hc.loc
  (fo (hi pins s σ H _ I h) fun v s1 h1=>fo h1 fun itv s2 h2=>?_)) (fun _ s' hq=>ah (ah hq)) fun _ _ e=>e)
 obtain⟨it,fp,tn,J,H2,e,I2,T,st2,f2,q⟩:=h2
 subst e
 refine aV (newEnv_comp ?_)
 have hC:(s2.heap.push { cls:=.type "list",dict:=none,data:=.seq ([]:List Value).toArray}).objs.size=s2.heap.objs.size+1:=aY ..
 simp only[hC]
 refine comp_block (tk:=s2.toks) I2 hc calm T st2 f2 (hg fp s2 H2) (ht fp s2 H2) (he fp s2 H2) q fun s' H' ys m IX nD qf nC hn=>?_
 have neC:∀(b:Addr) (o:Obj),s2.heap.get? b=some o->b≠s2.heap.objs.size+1:=fun b o e=>aC (ba (gxN e))
 have hnC:upd H' s2.heap.objs.size (.lst ys) (s2.heap.objs.size+1)=none:=by rw[dQ (a9 (bL _))];exact hn
 show wpAny _ X.A (assign (.Name x pos') X.env (.ref s2.heap.objs.size)) _ _ s'
 refine wpAny_assign_Name (store_ok2 (v:=.ref s2.heap.objs.size) IX hN hx' hx rfl (fun s'' IZ ch=>?_) hf)
 obtain⟨a,sba,ha⟩:=ch
 have hac:s2.heap.objs.size+1≠a:=by
  rcases ha with z | z
  ·rw[z];exact a9 (ba I2.lt)
  ·obtain⟨v,z⟩:=I2.cell x a z
   exact a9 (ba z.lt)
 refine⟨m,nC.sameBut sba hac,fun h' sb=>?_⟩
 have IY:Inv X pins (σ.set i (some (.ref s2.heap.objs.size))) (upd H' s2.heap.objs.size (.lst ys)) { s'' with heap:=h'}:=IZ.turned (t':=s''.toks) (it:=s2.heap.objs.size+1) (fun b o hb e=>(sb.2 b hb).trans e) hnC
  (a9 (ba I2.lt)) (.inr (bO I2.sz)) (fun x c e=>let ⟨v,z⟩:=I2.cell x c e;aC (ba z.lt)) (fun p hp=>neC _ _ (I2.pin p hp).1)
 exact⟨_,_,IY,qf _ nD⟩
end
open Builtin Builtin.Str
def cutL {α:Type}(xs:List α)(lo hi:Option Int):List α:=(xs.drop (HT.sIx xs.length 0 lo)).take (HT.sIx xs.length xs.length hi - HT.sIx xs.length 0 lo)
theorem clip_lo (n:Nat)(lo:Option Int):(match lo with | none=>(0:Int) | some i=>max 0 (min (if i<0 then i+(n:Int)else i) (n:Int)))=((HT.sIx n 0 lo:Nat):Int):=by
 cases lo with
 | none=>rfl
 | some i=>unfold HT.sIx;dsimp only;split <;> omega
theorem clip_hi (n:Nat)(hi:Option Int):(match hi with | none=>(n:Int) | some i=>max 0 (min (if i<0 then i+(n:Int)else i) (n:Int)))=((HT.sIx n n hi:Nat):Int):=by
 cases hi with
 | none=>rfl
 | some i=>unfold HT.sIx;dsimp only;split <;> omega
theorem sliceIx_eq (lo hi:Option Int)(n:Nat):strSliceIndices lo hi 1 n=sliceRange ((HT.sIx n 0 lo:Nat):Int) ((HT.sIx n n hi:Nat):Int) 1:=by
 rw[<- clip_lo,<- clip_hi]
 unfold strSliceIndices
 cases lo <;> cases hi <;> rfl
theorem sliced_eq (x:Str)(lo hi:Option Int):(strSliceIndices lo hi 1 x.length).filterMap (x.cps[·]?)=cutL x.cps.toList lo hi:=by
 have hl:x.cps.toList.length=x.length:=by simp[Str.length]
 unfold cutL
 rw[hl]
 have ha:=HT.sIx_le x.length 0 (aX _) lo
 have hb:=HT.sIx_le x.length x.length (aa _) hi
 by_cases hab:HT.sIx x.length 0 lo<=HT.sIx x.length x.length hi
 ·rw[<- StrLaws.sliced_plain x hab hb,sliceIx_eq,sliceIx_eq]
  congr 2
  ·rw[HT.sIx_nat,Nat.min_eq_left ha]
  ·rw[HT.sIx_nat,Nat.min_eq_left hb]
 ·rw[sliceIx_eq]
  have e:HT.sIx x.length x.length hi - HT.sIx x.length 0 lo=0:=by omega
  rw[e,List.take_zero]
  unfold sliceRange
  have h1:¬ (((HT.sIx x.length 0 lo:Nat):Int)<((HT.sIx x.length x.length hi:Nat):Int)):=by omega
  simp[h1]
theorem cutL_len {α:Type}(xs:List α)(lo hi:Option Int):(cutL xs lo hi).length<=xs.length:=by
 unfold cutL
 rw[aM,cj]
 omega
section
variable {X:Cx}
def rSlS:V->Option Int->Option Int->Hp->VK->Prop:=fun x lo hi H Q=>∃ z:Str,x=.str z/\z.length<=sizeLine/\Q (.str ⟨(cutL z.cps.toList lo hi).toArray⟩) H
theorem sl_str:SlR X rSlS:=by
 intro pins s σ H x v vl vu lo hi sl Q I rx hs pl pu h
 obtain⟨z,rfl,hz,q⟩:=h
 obtain⟨t,rfl⟩:=rx
 refine⟨"str",_,F.slot_str_getitem.lookup,typeIs_str _ _ _,?_⟩
 obtain⟨l,el⟩:∃ l:Option (Int×Tok),vl=partValue l/\l.map (·.1)=lo:=by
  cases pl with
  | none=>exact⟨none,rfl,rfl⟩
  | int i t=>exact⟨some (i,t),rfl,rfl⟩
 obtain⟨u,eu⟩:∃ u:Option (Int×Tok),vu=partValue u/\u.map (·.1)=hi:=by
  cases pu with
  | none=>exact⟨none,rfl,rfl⟩
  | int i t=>exact⟨some (i,t),rfl,rfl⟩
 obtain⟨rfl,el⟩:=el
 obtain⟨rfl,eu⟩:=eu
 refine wpAny_getItem_str_slice (l:=l) (u:=u) (st:=none) hs rfl ?_
 unfold sliceMade
 have e:slicePicked z l u none=strSliceIndices lo hi 1 z.length:=by unfold slicePicked;rw[el,eu];rfl
 rw[e,sliced_eq]
 by_cases hc:(((none:Option (Int×Tok)).map (·.1)).getD 1==1&&(strSliceIndices lo hi 1 z.length).length==z.length)=true
 ·rw[ag hc]
  refine⟨.str z,H,I,⟨_,rfl⟩,?_⟩
  have hc':(strSliceIndices lo hi 1 z.length).length=z.length:=by simpa using hc
  have hl:z.cps.toList.length=z.length:=by simp[Str.length]
  have h3:cutL z.cps.toList lo hi=z.cps.toList:=by
   rw[sliceIx_eq]at hc'
   unfold sliceRange at hc'
   have ha:=HT.sIx_le z.length 0 (aX _) lo
   have hb:=HT.sIx_le z.length z.length (aa _) hi
   rw[fC,gxJ]at hc'
   unfold cutL
   rw[hl]
   by_cases hlt:((HT.sIx z.length 0 lo:Nat):Int)<((HT.sIx z.length z.length hi:Nat):Int)
   ·simp[hlt]at hc'
    have a0:HT.sIx z.length 0 lo=0:=by omega
    have b0:HT.sIx z.length z.length hi=z.length:=by omega
    rw[a0,b0,List.drop_zero,Nat.sub_zero,<- hl,List.take_length]
   ·simp[hlt]at hc'
    have z0:z.cps.toList=[]:=List.length_eq_zero_iff.mp (by omega)
    rw[z0];simp
  have e2:(⟨(cutL z.cps.toList lo hi).toArray⟩:Str)=z:=by rw[h3]
  rw[e2]at q
  exact q
 ·rw[ae hc]
  refine⟨?_,.str _,H,I.tok _,⟨_,rfl⟩,q⟩
  have hl:z.cps.toList.length=z.length:=by simp[Str.length]
  have:=cutL_len z.cps.toList lo hi
  show(cutL z.cps.toList lo hi).toArray.size<=sizeLine
  rw[ar]
  omega
theorem vals_strs:∀ {ys:List Str} {us:List Value},Vals (ys.map V.str) us->StrsAre us ys
 | [],_,h=>by cases h;exact .nil
 | y::r,_,h=>by
  cases h with
  | cons a b=>obtain⟨t,rfl⟩:=a;exact .cons _ _ (vals_strs b)
theorem glued_empty:∀(ys:List Str) (acc:Array Nat),ys.foldl (fun acc p=>acc++(#[]:Array Nat)++p.cps) acc=acc++(ys.map (·.cps.toList)).flatten.toArray
 | [],acc=>by simp
 | y::r,acc=>by
  rw[List.foldl_cons,glued_empty r,ai,List.flatten_cons]
  apply Array.toList_inj.mp
  simp
theorem join_empty (z:Str)(hz:z.cps=#[])(ys:List Str):Txt.join z ys=⟨(ys.map (·.cps.toList)).flatten.toArray⟩:=by
 unfold Txt.join glued
 rw[hz]
 congr 1
 cases ys with
 | nil=>rfl
 | cons y r =>
  show List.foldl _ y.cps r=_
  rw[glued_empty,ai,List.flatten_cons]
  apply Array.toList_inj.mp
  simp
def rJoin (K:PySem.W.Frag):V->List V->Hp->VK->Prop:=fun x vs H Q=>∃(z:Str) (l:Addr) (ys:List Str),x=.str z/\z.cps=#[]/\vs=[.ref l]/\SqL K H l (ys.map V.str)/\(ys.map (·.length)).sum<=16777216/\Q (.str ⟨(ys.map (·.cps.toList)).flatten.toArray⟩) H
theorem mt_join:MtR X "str.join" (rJoin X.K):=by
 intro pins s σ H x vs v us Q I rx rv h
 obtain⟨z,l,ys,rfl,hz,rfl,hl,hs,q⟩:=h
 obtain⟨t,rfl⟩:=rx
 obtain⟨u,rfl,ru⟩:=rv.one
 cases ru
 obtain⟨d7,r,p,_⟩:=I.list hl
 have zl:z.length=0:=by unfold Str.length;rw[hz];rfl
 refine join_list p.isList (ys:=ys) (by simpa using vals_strs r) (by rw[zl];omega) fun t' k=>?_
 rw[join_empty z hz]
 exact⟨.str _,H,I.tok _,⟨_,rfl⟩,q⟩
theorem rep_one (c:Nat):∀(n:Nat) (acc:Array Nat),(List.replicate n #[c]).foldl (·++·) acc=acc++(List.replicate n c).toArray
 | 0,acc=>by simp
 | n+1,acc=>by
  rw[List.replicate_succ,List.foldl_cons,rep_one c n,List.replicate_succ]
  apply Array.toList_inj.mp
  simp
theorem mul_one (c:Nat)(n:Int):Txt.mul ⟨#[c]⟩ n=⟨(List.replicate n.toNat c).toArray⟩:=by
 unfold Txt.mul
 by_cases h1:n<1
 ·rw[ag h1]
  have e:n.toNat=0:=by omega
  rw[e];rfl
 ·rw[ae h1]
  by_cases h2:(n==1||(⟨#[c]⟩:Str).length==0)=true
  ·rw[ag h2]
   have e:n=1:=by simpa [Str.length]using h2
   rw[e];rfl
  ·rw[ae h2]
   congr 1
   have:=rep_one c n.toNat #[]
   rw[this]
   apply Array.toList_inj.mp
   simp
theorem op_mul_str:OpR X (binaryOp .Mult) (fun x y H Q=>∃(c:Nat) (n:Int),x=.str ⟨#[c]⟩/\y=.int n /\ -1000000<=n/\n<=1000000/\Q (.str ⟨(List.replicate n.toNat c).toArray⟩) H):=by
 intro pins s σ H x y v u Q I rx ry h
 obtain⟨c,n,rfl,rfl,h1,h2,q⟩:=h
 obtain⟨t,rfl⟩:=rx
 obtain⟨t',rfl⟩:=ry
 refine SB.mul ⟨?_,fun hn _=>?_,fun hn _=>?_⟩ fun t' k=>?_
 ·rw[aj (by omega),aj (by omega)];rfl
 ·have e:((⟨#[c]⟩:Str).length:Int)=1:=rfl
  rw[e]
  have:(1:Int)<=(2 ^ 63 - 1) / n:=(Int.le_ediv_iff_mul_le (by omega)).mpr (by omega)
  omega
 ·have e:(⟨#[c]⟩:Str).length=1:=rfl
  rw[e]
  unfold tooLong sizeLine
  rw[aj (by omega)]
 ·rw[mul_one]
  exact⟨.str _,H,I.tok _,⟨_,rfl⟩,q⟩
theorem cnt_count (c:Nat):∀ l:List Nat,countIn (.str ⟨#[c]⟩) (l.map fun n=>PyData.str ⟨#[n]⟩)=((l.count c:Nat):Int)
 | []=>rfl
 | n::r=>by
  have h:=cnt_cons c n r
  unfold cnt at h
  rw[h,cnt_count c r,cO]
  by_cases e:n=c
  ·rw[ag e,ag (by simpa using e)];omega
  ·rw[ae e,ae (by simpa using e)];omega
def rCount:V->List V->Hp->VK->Prop:=fun x vs H Q=>∃(z:Str) (c:Nat),x=.str z/\vs=[.str ⟨#[c]⟩]/\Q (.int ((z.cps.toList.count c:Nat):Int)) H
theorem mt_count:MtR X "str.count" rCount:=by
 intro pins s σ H x vs v us Q I rx rv h
 obtain⟨z,c,rfl,rfl,q⟩:=h
 obtain⟨t,rfl⟩:=rx
 obtain⟨u,rfl,ru⟩:=rv.one
 obtain⟨t',rfl⟩:=ru
 refine SC.count ?_
 rw[count_is,cnt_count]
 exact⟨.int _,H,I.tok _,⟨_,rfl⟩,q⟩
def Its (l:List Nat):It:=⟨fun i _=>i<l.length,fun i H x H'=>H'=H/\∃ c,l[i]?=some c/\x=.str ⟨#[c]⟩,fun i _=>i=l.length⟩
theorem turn_str {P:Program}{w:World}{K:PySem.W.Frag}{tg:Expr}{it:Addr}{z:Str}{n:String}{St:Nat->Heap->Prop}
 (W:∀ A':Around,A'.handled=none->Walks P w A' it [it] [it] z.cps.size (SignAt z) St) (hn:["enumerate", "zip", "dict_itemiterator", "dict_reverseitemiterator", "odict_iterator", "itertools.zip_longest", "itertools.pairwise"].contains n=false)
 (ob:∀ i h,St i h->∃ o vs,h.get? it=some o/\o.cls=.type n/\o.data=.fields vs) (slf:∀(A:Around) (i:Nat) (s:Shared) (Q:Value->Shared->Prop) (E:Value->Shared->Prop),St i s.heap->Q (.ref it) s->wpAny (model P w) A (pyIter (.ref it)) Q E s):Turn P w K tg (Its z.cps.toList) [it] it St where
 mem:=by simp
 obj:=fun i h st b hb=>by
  have e:b=it:=by simpa using hb
  subst e
  obtain⟨o,vs,e,c,d⟩:=ob i h st
  exact⟨o,e,fun v z=>by rw[d]at z;cases z⟩
 keep:=fun i h h' st k=>(W { handled:=none,depth:=0,units:=0,frames:=none} rfl).frame i h h' st k
 item:=by
  intro X hP hw hK hc i pins s σ H E I hf st hg
  subst hP hw hK
  obtain⟨f0,f1,f2,f3,f4,f5⟩:=hf it (by simp)
  have hg':i<z.cps.toList.length:=hg
  refine(W X.A (I.ok.hd hc)).item i s _ _ (by simpa using hg') st fun v h' tk hv st' kk=>?_
  obtain⟨c,u,hcc,rfl⟩:=hv
  have I1:Inv X pins σ H { s with heap:=h',toks:=tk}:=I.turned (fun b o hb e=>kk b o (by simpa using hb) e) f0 f1 f3 f4 f5
  obtain⟨o,vs,e,c',d⟩:=ob _ _ st'
  refine⟨_,rfl,go_of (s:={ s with heap:=h',toks:=tk}) (n:=n) e c' d hn ⟨.str ⟨#[c]⟩,H,I1,⟨u,rfl⟩,⟨rfl,c,by simpa using hcc,rfl⟩,st',fun b hb=>(hf b hb).1⟩⟩
 done:=by
  intro X hP hw hK hc i pins s σ H E I hf st hg
  subst hP hw hK
  obtain⟨f0,f1,f2,f3,f4,f5⟩:=hf it (by simp)
  have e:i=z.cps.size:=by have:i=z.cps.toList.length:=hg;simpa using this
  subst e
  exact(W X.A (I.ok.hd hc)).done s _ _ st fun h' tk eb=>⟨rfl,I.turned (t':=tk) (fun b o hb e=>eb b o (by simpa using hb) e) f0 f1 f3 f4 f5⟩
 self:=slf
def iStr (tl:TE):TI:=fun σ H R=>tl σ H fun x H1=>∃ z:Str,x=.str z/\R (Its z.cps.toList) H1
theorem pi_str {tg l:Expr}{tl:TE}(hl:PE X l tl):PI X tg l (iStr tl):=by
 intro pins s σ H R I h
 refine fo (hl pins s σ H _ I h) fun v s1 hq5=>?_
 obtain⟨x,H1,I1,r1,z,e,q⟩:=hq5
 subst e
 obtain⟨t,rfl⟩:=r1
 have fp:∀ b∈[s1.heap.objs.size],FpOk X pins H1 b:=fun b hb=>by
  have e:b=s1.heap.objs.size:=by simpa using hb
  subst e
  exact I1.fpOk (aa _) (I1.dX.fresh (aa _))
 have kp:∀(o:Obj),Inv X pins σ H1 { s1 with heap:=s1.heap.push o}:=fun o=>I1.kept (t':=s1.toks) fun b o' e=>gxL _ e
 cases ha:z.cps.all (·<128)
 ·refine wpAny_pyIter_wide ha ⟨s1.heap.objs.size,[s1.heap.objs.size],fun i h=>h.IsStrIter s1.heap.objs.size "str_iterator" z t i,_,H1,rfl,kp _,turn_str (n := "str_iterator") (fun A' hA=>Walks.strWide hA _ z t) (by decide) (fun i h st=>let ⟨o,a,b,c⟩:=st;⟨o,_,a,b,c⟩) (fun _ _ _ _ _ st h=>wpAny_pyIter_striter_wide st h),⟨_,au _ rfl,rfl,rfl⟩,fp,q⟩
 ·refine wpAny_pyIter_ascii ha ⟨s1.heap.objs.size,[s1.heap.objs.size],fun i h=>h.IsStrIter s1.heap.objs.size "str_ascii_iterator" z t i,_,H1,rfl,kp _,turn_str (n := "str_ascii_iterator") (fun A' hA=>Walks.strAscii hA _ z t) (by decide) (fun i h st=>let ⟨o,a,b,c⟩:=st;⟨o,_,a,b,c⟩) (fun _ _ _ _ _ st h=>wpAny_pyIter_striter_ascii st h),⟨_,au _ rfl,rfl,rfl⟩,fp,q⟩
theorem call_isi:CallR X (.builtin "isinstance") (fun vs H Q=>∃ x T t b,vs=[x,.ty T]/\TyOf X.K H x t/\PySem.W.kitOne X.K t (.type T)=some b/\Q (.bl b) H):=by
 intro pins s σ H vs us Q I rv h
 obtain⟨x,T,t,b,rfl,ty,e,q⟩:=h
 obtain⟨u,w',rfl,r1,r2⟩:=vals2 rv
 cases r2
 exact isinst_ok I r1 ty e fun tk=>⟨.bl b,H,I.tok tk,rfl,q⟩
end
end L2
namespace L2
open PySem PySem.Spec PyProof.Rows
open Builtin Builtin.Str
section
variable {X:Cx}
theorem OpR.imp {f:Value->Value->Sem Value}{r r':R2}(h:OpR X f r)(hi:∀ x y H Q,r' x y H Q->r x y H Q):OpR X f r':=fun pins s σ H x y v u Q I r1 r2 q=>h pins s σ H x y v u Q I r1 r2 (hi x y H Q q)
theorem PE.imp {e:Expr}{t t':TE}(h:PE X e t)(hi:∀ σ H Q,t' σ H Q->t σ H Q):PE X e t':=fun pins s σ H Q I q=>h pins s σ H Q I (hi σ H Q q)
theorem PT.imp {e:Expr}{t t':TT}(h:PT X e t)(hi:∀ σ H Q,t' σ H Q->t σ H Q):PT X e t':=fun pins s σ H Q I q=>h pins s σ H Q I (hi σ H Q q)
theorem PG.imp {e:Expr}{t t':TG}(h:PG X e t)(hi:∀ v σ H Q,t' v σ H Q->t v σ H Q):PG X e t':=fun pins s σ H v u Q I r q=>h pins s σ H v u Q I r (hi v σ H Q q)
theorem PGs.imp {e:List Expr}{t t':TGs}(h:PGs X e t)(hi:∀ v σ H Q,t' v σ H Q->t v σ H Q):PGs X e t':=fun pins s σ H v u Q I r q=>h pins s σ H v u Q I r (hi v σ H Q q)
theorem PS.imp {e:Stmt}{t t':TS}(h:PS X e t)(hi:∀ D σ H,t' D σ H->t D σ H):PS X e t':=fun pins s σ H D I q=>h pins s σ H D I (hi D σ H q)
theorem CallR.imp {f:Value}{r r':List V->Hp->VK->Prop}(h:CallR X f r)(hi:∀ vs H Q,r' vs H Q->r vs H Q):CallR X f r':=fun pins s σ H vs us Q I rv q=>h pins s σ H vs us Q I rv (hi vs H Q q)
theorem MtR.imp {id:String}{r r':V->List V->Hp->VK->Prop}(h:MtR X id r)(hi:∀ x vs H Q,r' x vs H Q->r x vs H Q):MtR X id r':=fun pins s σ H x vs v us Q I r1 rv q=>h pins s σ H x vs v us Q I r1 rv (hi x vs H Q q)
def cVar (i:Nat):TE:=fun σ H Q=>match σ[i]? with | some (some v)=>Q v H | _=>False
theorem pvC (i:Nat){x:Str}{pos:Pos}(hN:X.N[i]?=some x:=by rfl)(hv:Vis X.env.scope x:=by first | exact Or.inl rfl | exact Or.inr (Or.inl rfl) | exact Or.inr (Or.inr rfl))(hd:(x==("__debug__" : Str))=false:=by decide)
 (hcd:(x==("__classdict__" : Str))=false:=by decide):PE X (.Name x pos) (cVar i):=(pe_var (i:=i) hN hv hd hcd).imp fun σ H Q q=>by
 unfold cVar at q
 split at q
 ·rename_i v e;exact⟨v,e,q⟩
 ·exact q.elim
def rAddC:R2:=fun x y H Q=>match x,y with
 | .int i,.int j=>Q (.int (i+j)) H
 | .str i,.str j=>i.length+j.length<=sizeLine/\Q (.str (i++j)) H
 | .ref l,.ref b=>∃ xs zs,H l=some (.lst xs)/\H b=some (.lst zs)/\xs.length+zs.length<=sizeLine/\∀ p,H p=none->Q (.ref p) (upd H p (.lst (xs++zs)))
 | _,_=>False
theorem addC:OpR X (binaryOp .Add) rAddC:=(op_add.or (op_add_str.or op_cat)).imp fun x y H Q q=>by
 unfold rAddC at q
 split at q
 ·exact .inl ⟨_,_,rfl,rfl,q⟩
 ·exact .inr (.inl ⟨_,_,rfl,rfl,q.1,q.2⟩)
 ·obtain⟨xs,zs,a,b,c,d⟩:=q;exact .inr (.inr ⟨_,_,xs,zs,rfl,rfl,a,b,c,d⟩)
 ·exact q.elim
def rI2 (C:Int->Int->Prop)(g:Int->Int->V):R2:=fun x y H Q=>match x,y with
 | .int i,.int j=>C i j/\Q (g i j) H
 | _,_=>False
def rI2' (g:Int->Int->V):R2:=fun x y H Q=>match x,y with
 | .int i,.int j=>Q (g i j) H
 | _,_=>False
theorem OpR.i2 {f:Value->Value->Sem Value}{C:Int->Int->Prop}{g:Int->Int->V}(h:OpR X f (rI C g)):OpR X f (rI2 C g):=h.imp fun x y H Q q=>by
 unfold rI2 at q
 split at q
 ·exact⟨_,_,rfl,rfl,q.1,q.2⟩
 ·exact q.elim
theorem OpR.i2' {f:Value->Value->Sem Value}{g:Int->Int->V}(h:OpR X f (rI0 g)):OpR X f (rI2' g):=h.imp fun x y H Q q=>by
 unfold rI2' at q
 split at q
 ·exact⟨_,_,rfl,rfl,q⟩
 ·exact q.elim
theorem subC:OpR X (binaryOp .Sub) (rI2' fun i j=>.int (i - j)):=op_sub.i2'
def rMulC:R2:=fun x y H Q=>match x,y with
 | .int i,.int j=>CMul i j/\Q (.int (i*j)) H
 | .str z,.int n=>∃ c:Nat,z=⟨#[c]⟩ /\ -1000000<=n/\n<=1000000/\Q (.str ⟨(List.replicate n.toNat c).toArray⟩) H
 | _,_=>False
theorem mulC:OpR X (binaryOp .Mult) rMulC:=(op_mul.or op_mul_str).imp fun x y H Q q=>by
 unfold rMulC at q
 split at q
 ·exact .inl ⟨_,_,rfl,rfl,q.1,q.2⟩
 ·obtain⟨c,rfl,a,b,d⟩:=q;exact .inr ⟨c,_,rfl,rfl,a,b,d⟩
 ·exact q.elim
theorem divC:OpR X (binaryOp .FloorDiv) (rI2 CDiv fun i j=>.int (i / j)):=op_fdiv.i2
theorem modC:OpR X (binaryOp .Mod) (rI2 (fun _ j=>0<j) fun i j=>.int (i%j)):=op_mod.i2
theorem powC:OpR X (binaryOp .Pow) (rI2 CPow fun i j=>.int (i ^ j.toNat)):=op_pow.i2
theorem ltC:OpR X (compareOp .Lt) (rI2' fun i j=>.bl (decide (i<j))):=op_lt.i2'
theorem leC:OpR X (compareOp .LtE) (rI2' fun i j=>.bl (decide (i<=j))):=op_le.i2'
theorem gtC:OpR X (compareOp .Gt) (rI2' fun i j=>.bl (decide (j<i))):=op_gt.i2'
theorem geC:OpR X (compareOp .GtE) (rI2' fun i j=>.bl (decide (j<=i))):=op_ge.i2'
def rEqC (neg:Bool):R2:=fun x y H Q=>match x,y with
 | .int i,.int j=>Q (.bl (neg != decide (i=j))) H
 | .str i,.str j=>Q (.bl (neg != decide (i=j))) H
 | .bl i,.bl j=>Q (.bl (neg != decide (i=j))) H
 | _,_=>False
theorem dec_congr {p q:Prop}[Decidable p][Decidable q](h:p↔q):decide p=decide q:=by
 by_cases hp:p
 ·rw[ao hp,ao (h.mp hp)]
 ·rw[aj hp,aj fun z=>hp (h.mpr z)]
theorem dI {i j:Int}:decide (V.int i=V.int j)=decide (i=j):=dec_congr (by simp)
theorem dS {i j:Str}:decide (V.str i=V.str j)=decide (i=j):=dec_congr (by simp)
theorem dB {i j:Bool}:decide (V.bl i=V.bl j)=decide (i=j):=dec_congr (by simp)
theorem eqC:OpR X (compareOp .Eq) (rEqC false):=op_eq.imp fun x y H Q q=>by
 unfold rEqC at q
 split at q
 ·exact⟨rfl,by rw[dI];simpa using q⟩
 ·exact⟨rfl,by rw[dS];simpa using q⟩
 ·exact⟨rfl,by rw[dB];simpa using q⟩
 ·exact q.elim
theorem neC:OpR X (compareOp .NotEq) (rEqC true):=op_ne.imp fun x y H Q q=>by
 unfold rEqC at q
 split at q
 ·exact⟨rfl,by rw[dI];simpa using q⟩
 ·exact⟨rfl,by rw[dS];simpa using q⟩
 ·exact⟨rfl,by rw[dB];simpa using q⟩
 ·exact q.elim
def cT (t:TE):TT:=fun σ H Q=>t σ H fun x H1=>match x with | .bl c=>Q c H1 | _=>False
end
def bK (Q:Bool->Hp->Prop):VK:=fun x H1=>match x with | .bl c=>Q c H1 | _=>False
section
variable {X:Cx}{a b e:Expr}{t ta tb:TE}{pos:Pos}
def cB (t:TE):TT:=fun σ H Q=>t σ H (bK Q)
theorem pt_cmpC {op:CmpOp}{r:R2}(ho:OpR X (compareOp op) r)(ha:PE X a ta)(hb:PE X b tb)(hm:behindInMarks op b=false):PT X (.Compare a [op] [b] pos) (cB (tOp r ta tb)):=by
 intro pins s σ H Q I h
 have hE:=pe_cmpR (pos:=pos) ho ha hb hm
 refine wpAny_isTrue_Compare1 ?_ hm
 refine binT ha hb I h fun v u s2 x y H2 I2 rx ry q=>?_
 refine fo (ho _ s2 σ H2 x y v u _ I2 rx ry q) fun c s3 hq6=>?_
 obtain⟨z,H3,I3,r3,q3⟩:=hq6
 cases z with
 | bl d=>cases r3;exact bG ⟨H3,I3,q3⟩
 | _=>exact(show False from q3).elim
theorem pt_valC (h:PE X e t)(he:∀ whole,isTrue e X.env whole=(do let v <- whole;standAt e.pos;holding [v] (truthy v)):=by intro _;rfl):PT X e (cB t):=by
 intro pins s σ H Q I hw
 refine isTrue_plain (fo (h pins s σ H _ I hw) fun v s1 hq0=>?_) (he _)
 obtain⟨x,H1,I1,r1,q1⟩:=hq0
 cases x with
 | bl d=>cases r1;exact bG ⟨H1,I1,q1⟩
 | _=>exact(show False from q1).elim
def cAnd (ta tb:TE):TE:=fun σ H Q=>ta σ H fun x H1=>match x with | .bl c=>if c=true then tb σ H1 Q else Q (.bl false) H1 | _=>False
def cNot (ta:TE):TE:=fun σ H Q=>ta σ H fun x H1=>match x with | .bl c=>Q (.bl (!c)) H1 | _=>False
theorem pe_andC {rest:List Expr}(ha:PE X a ta)(hb:PE X (.BoolOp .And (b::rest) pos) tb):PE X (.BoolOp .And (a::b::rest) pos) (cAnd ta tb):=by
 intro pins s σ H Q I h
 refine BoolOp_and (fo (ha pins s σ H _ I h) fun v s1 hq1=>?_)
 obtain⟨x,H1,I1,r1,q1⟩:=hq1
 cases x with
 | bl c =>
  cases r1
  refine bG ?_
  cases c with
  | true=>exact hb pins s1 σ H1 Q I1 q1
  | false=>exact⟨.bl false,H1,I1,rfl,q1⟩
 | _=>exact(show False from q1).elim
theorem pe_notC (ha:PE X a ta):PE X (.UnaryOp .Not a pos) (cNot ta):=by
 intro pins s σ H Q I h
 refine UnaryOp_ (fo (ha pins s σ H _ I h) fun v s1 hq2=>?_)
 obtain⟨x,H1,I1,r1,q1⟩:=hq2
 cases x with
 | bl c=>cases r1;exact not_of (bG ⟨.bl (!c),H1,I1,rfl,q1⟩)
 | _=>exact(show False from q1).elim
def opt {α:Type}(o:Option α)(k:α->Prop):Prop:=match o with | some v=>k v | none=>False
theorem opt_ex {α:Type}{o:Option α}{k:α->Prop}(h:opt o k):∃ v,o=some v/\k v:=by
 cases o with
 | none=>exact h.elim
 | some v=>exact⟨v,rfl,h⟩
def rIxC:R2:=fun x y H Q=>match x,y with
 | .ref p,.int i=>∃ xs,(H p=some (.lst xs)\/H p=some (.tup xs))/\opt (atI xs i) fun v=>Q v H
 | .str z,.int i=>z.length<=sizeLine/\opt (atI z.cps.toList i) fun c=>Q (.str ⟨#[c]⟩) H
 | _,_=>False
theorem IxR.imp {r r':R2}(h:IxR X r)(hi:∀ x y H Q,r' x y H Q->r x y H Q):IxR X r':=fun value slice pins s σ H x y v u Q I r1 r2 q=>h value slice pins s σ H x y v u Q I r1 r2 (hi x y H Q q)
theorem ixC:IxR X rIxC:=ix_seq.imp fun x y H Q q=>by
 unfold rIxC at q
 split at q
 ·obtain⟨xs,h,q⟩:=q
  obtain⟨v,e,q⟩:=opt_ex q
  rcases h with h | h
  ·exact .inl ⟨_,xs,_,v,rfl,rfl,SqL.of h,e,q⟩
  ·exact .inr (.inl ⟨_,xs,_,v,rfl,rfl,SqT.of h,e,q⟩)
 ·obtain⟨hz,q⟩:=q
  obtain⟨v,e,q⟩:=opt_ex q
  exact .inr (.inr ⟨_,_,v,rfl,rfl,hz,e,q⟩)
 ·exact q.elim
def rSlC:V->Option Int->Option Int->Hp->VK->Prop:=fun x lo hi H Q=>match x with
 | .ref p=>∃ xs,H p=some (.lst xs)/\∀ l,H l=none->Q (.ref l) (upd H l (.lst (cutV xs lo hi)))
 | .str z=>z.length<=sizeLine/\Q (.str ⟨(cutL z.cps.toList lo hi).toArray⟩) H
 | _=>False
theorem slC:SlR X rSlC:=by
 intro pins s σ H x v vl vu lo hi sl Q I rx hs pl pu h
 unfold rSlC at h
 split at h
 ·obtain⟨xs,h1,h2⟩:=h
  exact sl_list pins s σ H _ v vl vu lo hi sl Q I rx hs pl pu ⟨_,xs,rfl,SqL.of h1,h2⟩
 ·exact sl_str pins s σ H _ v vl vu lo hi sl Q I rx hs pl pu ⟨_,rfl,h.1,h.2⟩
 ·exact h.elim
def cNo:TO:=fun _ H Q=>Q none H
def cPart (t:TE):TO:=fun σ H Q=>t σ H fun x H1=>match x with | .int i=>Q (some i) H1 | _=>False
theorem po_noC:PO X none cNo:=po_none
theorem po_someC {te:TE}(h:PE X e te):PO X (some e) (cPart te):=by
 intro pins s σ H Q I hw
 rw[evalPart_some]
 refine fo (h pins s σ H _ I hw) fun u s1 hq3=>?_
 obtain⟨x,H1,I1,r1,q1⟩:=hq3
 cases x with
 | int i=>obtain⟨t,rfl⟩:=r1;exact⟨some i,H1,I1,.int i t,q1⟩
 | _=>exact(show False from q1).elim
def rLenC:List V->Hp->VK->Prop:=fun vs H Q=>match vs with
 | [.ref p]=>∃ xs,(H p=some (.lst xs)\/H p=some (.tup xs))/\Q (.int xs.length) H
 | [.str z]=>z.length<=sizeLine/\Q (.int z.length) H
 | _=>False
theorem lenC:CallR X (.builtin "len") rLenC:=(call_len_seq.or call_len_str).imp fun vs H Q q=>by
 unfold rLenC at q
 split at q
 ·obtain⟨xs,h,q⟩:=q
  rcases h with h | h
  ·exact .inl ⟨_,xs,rfl,.inl (SqL.of h),q⟩
  ·exact .inl ⟨_,xs,rfl,.inr (SqT.of h),q⟩
 ·exact .inr ⟨_,rfl,q.1,q.2⟩
 ·exact q.elim
def rSetC:TSet:=fun o i v H Q=>match o,i with
 | .ref p,.int k=>∃ xs,H p=some (.lst xs)/\opt (ixN xs.length k) fun j=>Q (upd H p (.lst (xs.set j v)))
 | _,_=>False
theorem setC:PSet X rSetC:=by
 intro pins s σ H o i v ov iv u Q I ro ri rv h
 unfold rSetC at h
 split at h
 ·obtain⟨xs,hx,q⟩:=h
  obtain⟨j,e,q⟩:=opt_ex q
  exact set_list pins s σ H _ _ v ov iv u Q I ro ri rv ⟨_,xs,_,j,rfl,rfl,hx,e,q⟩
 ·exact h.elim
def rGetC:V->V->Hp->VK->Prop:=fun o i H Q=>match o,i with
 | .ref p,.int k=>∃ xs,H p=some (.lst xs)/\0<=k/\opt (xs[k.toNat]?) fun v=>Q v H
 | _,_=>False
theorem getC:PGet X rGetC:=by
 intro pins s σ H o i ov iv Q I ro ri h
 unfold rGetC at h
 split at h
 ·obtain⟨xs,hx,h0,q⟩:=h
  obtain⟨v,e,q⟩:=opt_ex q
  cases ro
  obtain⟨t,rfl⟩:=ri
  obtain⟨z,d7,n,r,hl,ho⟩:=I.lstM hx
  obtain⟨w,ew,rw'⟩:=r.get e
  have hlt:=(gxB e).1
  have hn:=line63
  exact wpAny_getItem_list (x:=w) (⟨_,ho,rfl,n,rfl⟩:s.heap.IsList _ d7.toArray) h0 (by omega) (by simpa using ew) ⟨v,H,I,rw',q⟩
 ·exact h.elim
def ipC (f:Int->Int->Int):TIp:=fun x y H Q=>match x,y with | .int i,.int j=>Q (.int (f i j)) H | _,_=>False
theorem ip_addC:PIp X .Add (ipC fun i j=>i+j):=by
 intro pins s σ H x y v u Q I r1 r2 h
 unfold ipC at h
 split at h
 ·exact ip_add pins s σ H _ _ v u Q I r1 r2 ⟨_,_,rfl,rfl,h⟩
 ·exact h.elim
def cTup (n:Nat)(t:TGs):TG:=fun v σ H Q=>match v with | .ref a=>∃ xs,H a=some (.tup xs)/\xs.length=n/\t xs σ H Q | _=>False
def cCons (t:TG)(u:TGs):TGs:=fun vs σ H Q=>match vs with | v::r=>t v σ H fun σ' H'=>u r σ' H' Q | []=>False
def cNil:TGs:=fun vs σ H Q=>match vs with | []=>Q σ H | _=>False
theorem pg_tupC {es:List Expr}{k:Nat}{t:TGs}{n:Nat}(hc:X.calm=true)(h:PGs X es t)(hn:(assignEach es X.env).length=n:=by rfl)(hst:(assignEach es X.env).findIdx? (·.1)=none:=by rfl):PG X (.Tuple es k pos) (cTup n t) :=
 (pg_tup (pos:=pos) (k:=k) hc h hn hst).imp fun v σ H Q q=>by
  unfold cTup at q
  split at q
  ·obtain⟨xs,a,b,c⟩:=q;exact⟨_,xs,rfl,SqT.of a,b,c⟩
  ·exact q.elim
theorem dq {es:List Expr}{t:TG}{u:TGs}(h1:PG X e t)(h2:PGs X es u)(hs:(assignEach (e::es) X.env).map (·.2)=assign e X.env::(assignEach es X.env).map (·.2):=by rfl):PGs X (e::es) (cCons t u) :=
 (pgs_cons h1 h2 hs).imp fun v σ H Q q=>by
  unfold cCons at q
  split at q
  ·exact⟨_,_,rfl,q⟩
  ·exact q.elim
theorem eY:PGs X [] cNil:=pgs_nil.imp fun v σ H Q q=>by
 unfold cNil at q
 split at q
 ·exact⟨rfl,q⟩
 ·exact q.elim
def rJoinC:V->List V->Hp->VK->Prop:=fun x vs H Q=>match x,vs with
 | .str z,[.ref l]=>z.cps=#[]/\∃ ys:List Str,H l=some (.lst (ys.map V.str))/\(ys.map (·.length)).sum<=16777216/\Q (.str ⟨(ys.map (·.cps.toList)).flatten.toArray⟩) H
 | _,_=>False
theorem joinC:MtR X "str.join" rJoinC:=mt_join.imp fun x vs H Q q=>by
 unfold rJoinC at q
 split at q
 ·obtain⟨a,ys,b,c,d⟩:=q;exact⟨_,_,ys,rfl,a,rfl,SqL.of b,c,d⟩
 ·exact q.elim
def rCountC:V->List V->Hp->VK->Prop:=fun x vs H Q=>match x,vs with
 | .str z,[.str y]=>∃ c:Nat,y=⟨#[c]⟩/\Q (.int ((z.cps.toList.count c:Nat):Int)) H
 | _,_=>False
theorem countC:MtR X "str.count" rCountC:=mt_count.imp fun x vs H Q q=>by
 unfold rCountC at q
 split at q
 ·obtain⟨c,rfl,q⟩:=q;exact⟨_,c,rfl,rfl,q⟩
 ·exact q.elim
def rIsiC (K:PySem.W.Frag):List V->Hp->VK->Prop:=fun vs H Q=>match vs with
 | [x,.ty T]=>∃ t b,TyOf K H x t/\PySem.W.kitOne K t (.type T)=some b/\Q (.bl b) H
 | _=>False
theorem isiC:CallR X (.builtin "isinstance") (rIsiC X.K):=call_isi.imp fun vs H Q q=>by
 unfold rIsiC at q
 split at q
 ·obtain⟨t,b,h1,h2,h3⟩:=q;exact⟨_,_,t,b,rfl,h1,h2,h3⟩
 ·exact q.elim
def rListC (K:PySem.W.Frag):List V->Hp->VK->Prop:=fun vs H Q=>match vs with
 | [.ref p]=>∃ ys,SqL K H p ys/\∀ l,H l=none->Q (.ref l) (upd H l (.lst ys))
 | _=>False
theorem listC:CallR X (.type "list") (rListC X.K):=call_list_of.imp fun vs H Q q=>by
 unfold rListC at q
 split at q
 ·obtain⟨ys,h1,h2⟩:=q;exact⟨_,ys,rfl,.inl h1,h2⟩
 ·exact q.elim
def rMaxC:List V->Hp->VK->Prop:=fun vs H Q=>∃ i j,vs=[.int i,.int j]/\Q (.int (max i j)) H
theorem maxC (hc:X.calm=true):CallR X (.builtin "max") rMaxC:=(call_max2 hc).imp fun vs H Q q=>by
 obtain⟨i,j,rfl,q⟩:=q
 refine⟨_,_,rfl,?_⟩
 have e:(if j>i then j else i)=max i j:=by split <;> omega
 rw[e];exact q
end
theorem iteD {c A B:Prop}[Decidable c](h1:c->A)(h2:¬ c->B):if decide c=true then A else B:=by
 by_cases h:c
 ·rw[ag (ao h)];exact h1 h
 ·rw[ae (by simp[h])];exact h2 h
theorem iteDn {c A B:Prop}[Decidable c](h1:¬ c->A)(h2:c->B):if(true != decide c)=true then A else B:=by
 by_cases h:c
 ·rw[ae (by simp[h])];exact h2 h
 ·rw[ag (by simp[h])];exact h1 h
theorem iteDf {c A B:Prop}[Decidable c](h1:c->A)(h2:¬ c->B):if(false != decide c)=true then A else B:=by
 by_cases h:c
 ·rw[ag (by simp[h])];exact h1 h
 ·rw[ae (by simp[h])];exact h2 h
def CNx (n i:Nat)(Pv:Nat->List V->Hp->Prop)(ys:List V):VK:=fun y H4=>ys.length<sizeLine/\∃ m',m'<n - i/\(m'=n - (i+1)/\i+1<=n/\Pv (i+1) (ys++[y]) H4)
theorem cnx {n i:Nat}{Pv:Nat->List V->Hp->Prop}{ys:List V}{y:V}{H:Hp}(hi:i<n)(hl:ys.length<sizeLine)(p:Pv (i+1) (ys++[y]) H):CNx n i Pv ys y H:=⟨hl,n - (i+1),by omega,rfl,hi,p⟩
def CSk (n i:Nat)(Pv:Nat->List V->Hp->Prop)(ys:List V)(H3:Hp):Prop:=∃ m',m'<n - i/\(m'=n - (i+1)/\i+1<=n/\Pv (i+1) ys H3)
end L2
namespace L2
open PySem PySem.Spec PyProof.Rows
structure Cal (P:Program)(w:World)(K:PySem.W.Frag)(mg:Str->Option Value)(base:Heap)(x:Str)(k:Nat)(ps:List Str)(sp:Sp):Prop where
 ex:∃ f fd,d8 P w K mg base CX0 k f fd ps sp/\mg x=some (.ref f)/\PySem.W.keepIn K (.ref f)=true/\Binds K fd ps []
theorem pe_callC {X:Cx}{x:Str}{p pos:Pos}{e:Expr}{es:List Expr}{t:TA}{k:Nat}{ps:List Str}{sp:Sp}(C:Cal X.prog X.w X.K X.mg X.base x k ps sp)(hr:Room k X.A)(hg:Gl X x)(ha:PA X (e::es) t)
 (hdb:(x==("__debug__" : Str))=false:=by decide) (he:starEach (e::es) X.env=(false,eval e X.env)::starEach es X.env:=by rfl) (hpl:(backTo pos (starEach es X.env)).any (·.1)=false:=by rfl) :
 PE X (.Call (.Name x p) (e::es) [] pos) (tCall sp [] E0 t):=by
 obtain⟨f,fd,F,hm,hk,hb⟩:=C.ex
 exact pe_call F hr hg hm hk hb .nil pass0 ha hdb he hpl
def tCut (t u:TS):TS:=fun D σ H=>∃ M:St->Hp->Prop,t { D with nx:=M} σ H/\∀ σ' H',M σ' H'->u D σ' H'
theorem pss_cut {X:Cx}{st:Stmt}{rest:List Stmt}{t u:TS}(h1:PS X st t)(h2:PSs X rest u):PSs X (st::rest) (tCut t u):=by
 intro pins s σ H D I h
 obtain⟨M,a,b⟩:=h
 refine wpAny_execs_cons (fo (h1 pins s σ H { D with nx:=M} I a) fun f s1 q=>?_)
 cases f with
 | next =>
  obtain⟨σ',H',I',q⟩:=q
  exact h2 pins s1 σ' H' D I' (b σ' H' q)
 | ret v=>exact q
 | brk=>exact q
 | cont=>exact q
def SB (b:Addr)(H H':Hp):Prop:=∀ c o,c≠b->H c=some o->H' c=some o
theorem SB.trans {b:Addr}{H H1 H2:Hp}(h:SB b H H1)(h':SB b H1 H2):SB b H H2:=fun c o n e=>h' c o n (h c o n e)
theorem dh {α:Type}{o:Option α}{k:α->Prop}{v:α}(e:o=some v)(h:k v):opt o k:=by rw[e];exact h
def OB (b:Addr)(H H':Hp):Prop:=∀ c,c≠b->H' c=H c
theorem OB.refl {b:Addr}{H:Hp}:OB b H H:=fun _ _=>rfl
theorem OB.upd {b:Addr}{H H':Hp}{o:HO}(h:OB b H H'):OB b H (L2.upd H' b o):=fun c n=>by rw[dQ n];exact h c n
theorem pM:(0:Int)<2147483647:=by decide
theorem pN:(0:Int)<1000000007:=by decide
def OX (l:List Nat):Prop:=∀ c∈l,c=111\/c=120
theorem OX.of {l:List Nat}(h:l.all (fun c=>c==111||c==120)=true):OX l:=fun c hc=>by
 have:=List.all_eq_true.mp h c hc
 simpa using this
theorem OX.app {a b:List Nat}(ha:OX a)(hb:OX b):OX (a++b):=fun c h=>(List.mem_append.mp h).elim (ha c) (hb c)
theorem OX.rep {c n:Nat}(h:c=111\/c=120):OX (List.replicate n c):=fun d hd=>by rw[(List.mem_replicate.mp hd).2];exact h
theorem atI_in {l:List Nat}{v:Int}(h0:0<=v)(h1:v<l.length):∃ c,atI l v=some c/\c∈l:=by
 have hlt:v.toNat<l.length:=by omega
 refine⟨l[v.toNat],?_,ck _⟩
 have q:=atI_nat (xs:=l) (j:=v.toNat) (v:=l[v.toNat]) (gxA hlt)
 rwa [Int.toNat_of_nonneg h0]at q
theorem app_str (a b:List Nat):((⟨a.toArray⟩:Str)++(⟨b.toArray⟩:Str))=⟨(a++b).toArray⟩:=by
 show(⟨a.toArray++b.toArray⟩:Str)=_
 congr 1
 simp
theorem lenS (a:List Nat):(⟨a.toArray⟩:Str).length=a.length:=by simp[Str.length]
theorem flat_signs:∀ l:List Nat,((l.map fun c=>(⟨#[c]⟩:Str)).map (·.cps.toList)).flatten=l
 | []=>rfl
 | c::r=>by rw[ai,ai,List.flatten_cons,flat_signs r];rfl
theorem sum_signs:∀ l:List Nat,((l.map fun c=>(⟨#[c]⟩:Str)).map (·.length)).sum=l.length
 | []=>rfl
 | c::r=>by
  rw[ai,ai,List.sum_cons,sum_signs r]
  show 1+r.length=r.length+1
  omega
def spLaw (K:PySem.W.Frag):Sp:=fun vs H Q _=>∃(a:Addr) (ns:List Int),vs=[.ref a]/\SqL K H a (ns.map V.int)/\ns.length<=63/\∀ H',Q (.bl true) H'
theorem fne (b:Bool):(false != b)=b:=by cases b <;> rfl
theorem tne (b:Bool):(true != b)=!b:=by cases b <;> rfl
theorem kit_same (K:PySem.W.Frag)(T:String):PySem.W.kitOne K (.type T) (.type T)=some true:=by unfold PySem.W.kitOne;simp
def ItOf (c:Bool)(h:Heap)(it a:Addr)(k:Nat):Prop:=if c=true then h.IsTupleIter it a k else h.IsListIter it a k
def SqOf (c:Bool)(h:Heap)(a:Addr)(d7:Array Value):Prop:=if c=true then h.IsTuple a d7 else h.IsList a d7
theorem ItOf.extBut {c:Bool}{h h':Heap}{it a b:Addr}{k:Nat}(x:ItOf c h it a k)(hs:Heap.ExtBut b h h')(hab:it≠b):ItOf c h' it a k:=by
 cases c with
 | true=>exact Heap.IsTupleIter.extBut x hs hab
 | false=>exact Heap.IsListIter.extBut x hs hab
theorem SqOf.extBut {c:Bool}{h h':Heap}{a b:Addr}{d7:Array Value}(x:SqOf c h a d7)(hs:Heap.ExtBut b h h')(hab:a≠b):SqOf c h' a d7:=by
 cases c with
 | true=>exact Heap.IsTuple.extBut x hs hab
 | false=>exact Heap.IsList.extBut x hs hab
theorem SqOf.lt {c:Bool}{h:Heap}{a:Addr}{d7:Array Value}(x:SqOf c h a d7):a≠h.objs.size:=by
 cases c with
 | true=>obtain⟨o,e,_⟩:=x;exact aC (gxN e)
 | false=>obtain⟨o,e,_⟩:=x;exact aC (gxN e)
theorem ItOf.ex {c:Bool}{h:Heap}{it a:Addr}{k:Nat}(x:ItOf c h it a k):∃ o,h.get? it=some o:=by
 cases c with
 | true=>obtain⟨o,e,_⟩:=x;exact⟨o,e⟩
 | false=>obtain⟨o,e,_⟩:=x;exact⟨o,e⟩
theorem ItOf.data {c:Bool}{h:Heap}{it a:Addr}{k:Nat}(x:ItOf c h it a k):∃ o,h.get? it=some o/\∀ v,o.data≠.cell v:=by
 cases c with
 | true=>obtain⟨o,e,_,d⟩:=x;exact⟨o,e,fun v z=>by rw[d]at z;cases z⟩
 | false=>obtain⟨o,e,_,d⟩:=x;exact⟨o,e,fun v z=>by rw[d]at z;cases z⟩
theorem ItOf.at {c:Bool}{h h':Heap}{it a:Addr}{k:Nat}(x:ItOf c h it a k)(e:∀ o,h.get? it=some o->h'.get? it=some o):ItOf c h' it a k:=by
 cases c with
 | true=>obtain⟨o,q,r⟩:=x;exact⟨o,e o q,r⟩
 | false=>obtain⟨o,q,r⟩:=x;exact⟨o,e o q,r⟩
section
variable {prog:Program}{w:World}{A:Around}{E:Value->Shared->Prop}{s:Shared}
theorem nextT_item {it t:Addr}{i:Nat}{items}{x:Value}{Q:Value->Shared->Prop}(hit:s.heap.IsTupleIter it t i)(ht:s.heap.IsTuple t items)(hx:items[i]?=some x)
 (hQ:∀ h',h'.IsTupleIter it t (i+1)->Heap.SameBut it s.heap h'->Q x { s with heap:=h'}):wpAny (model prog w) A (Builtin.SmallTypes.nextOf (.ref it)) Q E s:=by
 obtain⟨o,ho,hc,hd⟩:=id hit
 obtain⟨ol,hol,_,nl,hdl⟩:=ht
 unfold Builtin.SmallTypes.nextOf
 refine dY (bu (name:=Str.ofString "__next__") hit.typeIs bU (bI bU hit.typeIs F.entry_tuple_iterator_next ?_ (F.args_tuple_iterator_next_1 _)))
 show wpAny _ _ (field (.ref it) 0 >>= _) _ _ s
 refine dY (aR ho hd (x:=.ref t) rfl ?_)
 show wpAny _ _ (if(Value.ref t==Value.none)=true then _ else _) _ _ s
 rw[ae (show ¬ ((Value.ref t==Value.none)=true)from aA)]
 show wpAny _ _ (field (.ref it) 1 >>= _) _ _ s
 refine dY (aR ho hd (x:=.int i 0) rfl ?_)
 show wpAny _ _ (seqItems? (.ref t) >>= _) _ _ s
 refine dY (bM hol hdl ?_)
 simp only[gxK,hx]
 refine dY (cz ho hd (by simp) (ah ⟨x,rfl,ah (hQ _ ?_ (Heap.SameBut.update ..))⟩))
 exact⟨_,bY _ ho (Obj.isFreed_of_fields (cW hd _)),(Obj.cls_mapFields ..).trans hc,by rw[cW hd];simp[rawInt]⟩
theorem nextT_end {it t:Addr}{i:Nat}{items}{Q:Value->Shared->Prop}(hh:A.handled=none)(hit:s.heap.IsTupleIter it t i)(ht:s.heap.IsTuple t items)(hx:items[i]?=none)
 (hE:∀ h' e,Heap.ExtBut it s.heap h'->(∃ o,h'.get? e=some o/\o.cls=.type "StopIteration")->E (.ref e) { s with heap:=h'}):wpAny (model prog w) A (Builtin.SmallTypes.nextOf (.ref it)) Q E s:=by
 obtain⟨o,ho,hc,hd⟩:=id hit
 obtain⟨ol,hol,_,nl,hdl⟩:=ht
 unfold Builtin.SmallTypes.nextOf
 refine dY (bu (name:=Str.ofString "__next__") hit.typeIs bU (bI bU hit.typeIs F.entry_tuple_iterator_next ?_ (F.args_tuple_iterator_next_1 _)))
 show wpAny _ _ (field (.ref it) 0 >>= _) _ _ s
 refine dY (aR ho hd (x:=.ref t) rfl ?_)
 show wpAny _ _ (if(Value.ref t==Value.none)=true then _ else _) _ _ s
 rw[ae (show ¬ ((Value.ref t==Value.none)=true)from aA)]
 show wpAny _ _ (field (.ref it) 1 >>= _) _ _ s
 refine dY (aR ho hd (x:=.int i 0) rfl ?_)
 show wpAny _ _ (seqItems? (.ref t) >>= _) _ _ s
 refine dY (bM hol hdl ?_)
 simp only[gxK,hx]
 refine dY (wpAny_rule (dY (cz ho hd (by simp) ?_)))
 show wpAny _ _ (newExc (.type "StopIteration") [] >>= _) _ _ _
 refine dY ?_
 simp only[newExc,newTuple]
 refine dY (aV ?_ (by size_fits))
 refine dY (m:=firstArgMember _ _) (wpAny_of_eq (a:=Value.none) (by first | rfl | (simp only[firstArgMember];rfl)) ?_)
 refine aV ?_ (by size_fits)
 simp only[raiseNew]
 refine dY (wpAny_handled ?_)
 first | rw[show A.in1.handled=none from hh] | rw[hh]
 refine dY (ah (wpAny_throw ?_))
 exact hE _ _ (((Heap.SameBut.update ..).extBut.push _).push _) ⟨_,au _ rfl,rfl⟩
theorem nextG_item {c:Bool}{it l:Addr}{i:Nat}{items:Array Value}{x:Value}{Q:Value->Shared->Prop}(hit:ItOf c s.heap it l i)(hl:SqOf c s.heap l items)(hx:items[i]?=some x)
 (hQ:∀ h',ItOf c h' it l (i+1)->Heap.SameBut it s.heap h'->Q x { s with heap:=h'}):wpAny (model prog w) A (Builtin.SmallTypes.nextOf (.ref it)) Q E s:=by
 cases c with
 | true=>exact nextT_item hit hl hx hQ
 | false=>exact wpAny_nextOf_list_item hit hl hx hQ
theorem nextG_end {c:Bool}{it l:Addr}{i:Nat}{items:Array Value}{Q:Value->Shared->Prop}(hh:A.handled=none)(hit:ItOf c s.heap it l i)(hl:SqOf c s.heap l items)(hx:items[i]?=none)
 (hE:∀ h' e,Heap.ExtBut it s.heap h'->(∃ o,h'.get? e=some o/\o.cls=.type "StopIteration")->E (.ref e) { s with heap:=h'}):wpAny (model prog w) A (Builtin.SmallTypes.nextOf (.ref it)) Q E s:=by
 cases c with
 | true=>exact nextT_end hh hit hl hx hE
 | false=>exact wpAny_nextOf_list_end hh hit hl hx hE
structure ZS (c:Bool)(z TI TO i1 i2 l1 l2:Addr)(f a b:Value)(k1 k2:Nat)(xs ys:Array Value)(h:Heap):Prop where
 z:IsZip h z TI TO f
 ti:IsPair h TI (.ref i1) (.ref i2)
 to:IsPair h TO a b
 n1:ItOf c h i1 l1 k1
 n2:ItOf c h i2 l2 k2
 q1:SqOf c h l1 xs
 q2:SqOf c h l2 ys
def ZK (z TO i1 i2:Addr)(h h':Heap):Prop:=∀ d o,d≠z->d≠TO->d≠i1->d≠i2->h.get? d=some o->h'.get? d=some o
theorem ZK.trans {z TO i1 i2:Addr}{h h1 h2:Heap}(a:ZK z TO i1 i2 h h1)(b:ZK z TO i1 i2 h1 h2):ZK z TO i1 i2 h h2:=fun d o q1 q2 q3 q4 e=>b d o q1 q2 q3 q4 (a d o q1 q2 q3 q4 e)
section
variable {c:Bool}{z TI TO i1 i2 l1 l2:Addr}{f f' a b x y:Value}{k1 k2:Nat}{xs ys:Array Value}{h h':Heap}
theorem ZS.mz (S:ZS c z TI TO i1 i2 l1 l2 f a b k1 k2 xs ys h)(D:ZipApart z TI TO i1 i2 l1 l2)(e:IsZip h' z TI TO f')(k:Heap.ExtBut z h h'):ZS c z TI TO i1 i2 l1 l2 f' a b k1 k2 xs ys h' :=
 ⟨e,k _ _ D.TIz S.ti,k _ _ D.TOz S.to,S.n1.extBut k D.i1z,S.n2.extBut k D.i2z,S.q1.extBut k D.l1z,S.q2.extBut k D.l2z⟩
theorem ZS.m1 {j:Nat}(S:ZS c z TI TO i1 i2 l1 l2 f a b k1 k2 xs ys h)(D:ZipApart z TI TO i1 i2 l1 l2)(e:ItOf c h' i1 l1 j)(k:Heap.ExtBut i1 h h'):ZS c z TI TO i1 i2 l1 l2 f a b j k2 xs ys h' :=
 ⟨k _ _ D.i1z.symm S.z,k _ _ D.TIi1 S.ti,k _ _ D.TOi1 S.to,e,S.n2.extBut k D.i12.symm,S.q1.extBut k D.l1i1,S.q2.extBut k D.l2i1⟩
theorem ZS.m2 {j:Nat}(S:ZS c z TI TO i1 i2 l1 l2 f a b k1 k2 xs ys h)(D:ZipApart z TI TO i1 i2 l1 l2)(e:ItOf c h' i2 l2 j)(k:Heap.ExtBut i2 h h'):ZS c z TI TO i1 i2 l1 l2 f a b k1 j xs ys h' :=
 ⟨k _ _ D.i2z.symm S.z,k _ _ D.TIi2 S.ti,k _ _ D.TOi2 S.to,S.n1.extBut k D.i12,e,S.q1.extBut k D.l1i2,S.q2.extBut k D.l2i2⟩
theorem ZS.mo (S:ZS c z TI TO i1 i2 l1 l2 f a b k1 k2 xs ys h)(D:ZipApart z TI TO i1 i2 l1 l2)(e:IsPair h' TO x y)(k:Heap.ExtBut TO h h'):ZS c z TI TO i1 i2 l1 l2 f x y k1 k2 xs ys h' :=
 ⟨k _ _ D.TOz.symm S.z,k _ _ D.TITO S.ti,e,S.n1.extBut k D.TOi1.symm,S.n2.extBut k D.TOi2.symm,S.q1.extBut k D.l1TO,S.q2.extBut k D.l2TO⟩
theorem ZS.push (S:ZS c z TI TO i1 i2 l1 l2 f a b k1 k2 xs ys h)(o:Obj):ZS c z TI TO i1 i2 l1 l2 f a b k1 k2 xs ys (h.push o) :=
 ⟨gxL _ S.z,gxL _ S.ti,gxL _ S.to,S.n1.at fun _ e=>gxL _ e,S.n2.at fun _ e=>gxL _ e,
  S.q1.extBut (b:=h.objs.size) (fun _ _ _ e=>gxL _ e) (S.q1.lt),S.q2.extBut (b:=h.objs.size) (fun _ _ _ e=>gxL _ e) (S.q2.lt)⟩
theorem zk_z (k:Heap.ExtBut z h h'):ZK z TO i1 i2 h h':=fun d o q _ _ _ e=>k d o q e
theorem zk_o (k:Heap.ExtBut TO h h'):ZK z TO i1 i2 h h':=fun d o _ q _ _ e=>k d o q e
theorem zk_1 (k:Heap.ExtBut i1 h h'):ZK z TO i1 i2 h h':=fun d o _ _ q _ e=>k d o q e
theorem zk_2 (k:Heap.ExtBut i2 h h'):ZK z TO i1 i2 h h':=fun d o _ _ _ q e=>k d o q e
end
section
variable {c:Bool}{z TI TO i1 i2 l1 l2:Addr}{k1 k2:Nat}{xs ys:Array Value}{x y a b:Value}
theorem zip_turn {Q:Value->Shared->Prop}(D:ZipApart z TI TO i1 i2 l1 l2)(S:ZS c z TI TO i1 i2 l1 l2 .none a b k1 k2 xs ys s.heap)(hx:xs[k1]?=some x)(hy:ys[k2]?=some y)
 (hQ:∀ h',ZS c z TI TO i1 i2 l1 l2 (rawInt s.heap.objs.size) x y (k1+1) (k2+1) xs ys h'->IsPair h' s.heap.objs.size x y->ZK z TO i1 i2 s.heap h'->Q (.ref s.heap.objs.size) { s with heap:=h'}) :
 wpAny (model prog w) A (Builtin.«zip.__next__» ⟨[.ref z],[]⟩) (fun fin s'=>∃ v,fin=.done (.ret v)/\Q v s') E s:=by
 refine dY (ah (dY (aR S.z rfl (x:=.bool false) rfl (dY (aR S.z rfl (x:=.ref TI) rfl (dY (bM S.ti rfl ?_)))))))
 refine dY (m:=Builtin.SmallTypes.ownedTupleIsFree (.ref z)) (dY (aR S.z rfl (x:=.none) rfl (ah ?_)))
 refine dY (wpAny_rule (dY (aR S.z rfl (x:=.ref TO) rfl (dY (cp S.z (by simp) fun g1 e1 t1=>?_)))))
 have S1:=S.mz D (f':=.ellipsis) e1 t1.extBut
 refine dY ?_
 rw[show(#[Value.ref i1,Value.ref i2]:Array Value).toList.zipIdx=[(.ref i1,0),(.ref i2,1)]from rfl,List.forIn_cons]
 refine dY (dY (wpAny_onRaise (dY (nextG_item S1.n1 S1.q1 hx fun g2 e2 t2=>ah ?_))))
 have S2:=S1.m1 D e2 t2.extBut
 refine dY (bM S2.to rfl (dY (wpAny_updateSeq_pair S2.to fun g3 e3 t3=>dY (wpAny_letGo (ah ?_)))))
 have S3:=S2.mo D (x:=x) (y:=b) e3 t3.extBut
 dsimp only
 rw[List.forIn_cons]
 refine dY (dY (wpAny_onRaise (dY (nextG_item S3.n2 S3.q2 hy fun g4 e4 t4=>ah ?_))))
 have S4:=S3.m2 D e4 t4.extBut
 refine dY (bM S4.to rfl (dY (wpAny_updateSeq_pair S4.to fun g5 e5 t5=>dY (wpAny_letGo (ah ?_)))))
 have S5:=S4.mo D (x:=x) (y:=y) e5 t5.extBut
 dsimp only
 rw[List.forIn_nil]
 have sz:g5.objs.size=s.heap.objs.size:=t5.1.trans (t4.1.trans (t3.1.trans (t2.1.trans t1.1)))
 refine ah (dY (bM S5.to rfl (dY (wpAny_newTuple ?_))))
 have S6:=S5.push { cls:=.type "tuple",data:=.seq #[x,y]}
 refine dY (m:=Builtin.SmallTypes.ownedTupleHandOut (.ref z) (.ref g5.objs.size)) (dY (cp S6.z (by simp) fun g7 e7 t7=>?_))
 have S7:=S6.mz D (f':=rawInt g5.objs.size) e7 t7.extBut
 refine cp S7.z (by simp) fun g8 e8 t8=>?_
 have S8:=S7.mz D (f':=rawInt g5.objs.size) e8 t8.extBut
 have zlt:g5.objs.size≠z:=a9 (gxN S5.z)
 have hT:IsPair g8 g5.objs.size x y:=t8.extBut _ _ zlt (t7.extBut _ _ zlt (au _ rfl))
 have kk:ZK z TO i1 i2 s.heap g8:=((((((zk_z t1.extBut).trans (zk_1 t2.extBut)).trans (zk_o t3.extBut)).trans (zk_2 t4.extBut)).trans (zk_o t5.extBut)).trans (fun d o _ _ _ _ e=>gxL _ e)).trans ((zk_z t7.extBut).trans (zk_z t8.extBut))
 rw[sz]at S8 hT
 refine ah ⟨_,rfl,?_⟩
 show Q (.ref g5.objs.size) _
 rw[sz]
 exact hQ g8 S8 hT kk
theorem zip_over {Q:Fin->Shared->Prop}(hh:A.handled=none)(D:ZipApart z TI TO i1 i2 l1 l2)(S:ZS c z TI TO i1 i2 l1 l2 .none a b k1 k2 xs ys s.heap)(hx:xs[k1]?=none)
 (hE:∀ h' e,ZK z TO i1 i2 s.heap h'->(∃ o,h'.get? e=some o/\o.cls=.type "StopIteration")->E (.ref e) { s with heap:=h'}) :
 wpAny (model prog w) A (Builtin.«zip.__next__» ⟨[.ref z],[]⟩) Q E s:=by
 refine dY (ah (dY (aR S.z rfl (x:=.bool false) rfl (dY (aR S.z rfl (x:=.ref TI) rfl (dY (bM S.ti rfl ?_)))))))
 refine dY (m:=Builtin.SmallTypes.ownedTupleIsFree (.ref z)) (dY (aR S.z rfl (x:=.none) rfl (ah ?_)))
 refine dY (wpAny_rule (dY (aR S.z rfl (x:=.ref TO) rfl (dY (cp S.z (by simp) fun g1 e1 t1=>?_)))))
 have S1:=S.mz D (f':=.ellipsis) e1 t1.extBut
 refine dY ?_
 rw[show(#[Value.ref i1,Value.ref i2]:Array Value).toList.zipIdx=[(.ref i1,0),(.ref i2,1)]from rfl,List.forIn_cons]
 refine dY (dY (wpAny_onRaise (dY (nextG_end hh S1.n1 S1.q1 hx fun g2 e t2 he=>?_))))
 obtain⟨oe,hoe,hce⟩:=he
 have hz2:IsZip g2 z TI TO .ellipsis:=t2 _ _ D.i1z.symm S1.z
 have hez:e≠z:=fun q=>by subst q;rw[hz2]at hoe;cases hoe;simp at hce
 exact cp hz2 (by simp) fun g3 _ t3=>hE g3 e (((zk_z t1.extBut).trans (zk_1 t2)).trans (zk_z t3.extBut)) ⟨oe,t3.extBut _ _ hez hoe,hce⟩
theorem zip_item {Q:Option Value->Shared->Prop}(D:ZipApart z TI TO i1 i2 l1 l2)(S:ZS c z TI TO i1 i2 l1 l2 .none a b k1 k2 xs ys s.heap)(hx:xs[k1]?=some x)(hy:ys[k2]?=some y)
 (hQ:∀ h',ZS c z TI TO i1 i2 l1 l2 (rawInt s.heap.objs.size) x y (k1+1) (k2+1) xs ys h'->IsPair h' s.heap.objs.size x y->ZK z TO i1 i2 s.heap h'->Q (some (.ref s.heap.objs.size)) { s with heap:=h'}) :
 wpAny (model prog w) A (pyNext (.ref z)) Q E s:=by
 have ty:s.TypeIs (.ref z) "zip":=⟨_,S.z,rfl⟩
 unfold pyNext
 exact dY (wpAny_attempt (bu (name:=Str.ofString "__next__") ty F.slot_zip_next (bI F.slot_zip_next ty F.entry_zip_next (zip_turn D S hx hy fun h' a1 a2 a3=>ah (hQ h' a1 a2 a3)) (F.args_zip_next_1 _))))
theorem zip_end {Q:Option Value->Shared->Prop}(hh:A.handled=none)(D:ZipApart z TI TO i1 i2 l1 l2)(S:ZS c z TI TO i1 i2 l1 l2 .none a b k1 k2 xs ys s.heap)(hx:xs[k1]?=none)
 (hQ:∀ h',ZK z TO i1 i2 s.heap h'->Q none { s with heap:=h'}):wpAny (model prog w) A (pyNext (.ref z)) Q E s:=by
 have ty:s.TypeIs (.ref z) "zip":=⟨_,S.z,rfl⟩
 unfold pyNext
 refine dY (wpAny_attempt (bu (name:=Str.ofString "__next__") ty F.slot_zip_next (bI F.slot_zip_next ty F.entry_zip_next (zip_over hh D S hx fun h' e hk he=>?_) (F.args_zip_next_1 _))))
 obtain⟨o,ho,hc⟩:=he
 exact dY (wpAny_isInstance (T := "StopIteration") (b:=true) ⟨o,ho,hc⟩ isSubtype_stop (ah (hQ _ hk)))
end
end
def SqC (c:Bool)(H:Hp)(a:Addr)(xs:List V):Prop:=if c=true then H a=some (.tup xs)else H a=some (.lst xs)
theorem SqC.inj {c:Bool}{H:Hp}{a:Addr}{xs ys:List V}(h:SqC c H a xs)(h':SqC c H a ys):xs=ys:=by
 cases c with
 | true=>have h1:H a=some (.tup xs):=h;have h2:H a=some (.tup ys):=h';rw[h1]at h2;cases h2;rfl
 | false=>have h1:H a=some (.lst xs):=h;have h2:H a=some (.lst ys):=h';rw[h1]at h2;cases h2;rfl
theorem SqC.ex {c:Bool}{H:Hp}{a:Addr}{xs:List V}(h:SqC c H a xs):∃ o,H a=some o:=by
 cases c with
 | true=>exact⟨_,h⟩
 | false=>exact⟨_,h⟩
theorem SqC.val {X:Cx}{pins:List (Addr×Obj)}{σ:St}{H:Hp}{s:Shared}{c:Bool}{a:Addr}{xs:List V}(I:Inv X pins σ H s)(h:SqC c H a xs):∃ d7:List Value,Vals xs d7/\SqOf c s.heap a d7.toArray:=by
 cases c with
 | true =>
  obtain⟨_,d7,r,p⟩:=(show fj X.prog X.w H s.heap a (.tup xs)from I.dX a _ h)
  exact⟨d7,r,p⟩
 | false =>
  obtain⟨_,d7,n,r,_,e⟩:=I.lstM h
  exact⟨d7,r,⟨_,e,rfl,n,rfl⟩⟩
def Itz (c:Bool)(a1 a2:Addr):It :=
 ⟨fun i H=>∃ xs ys x y,SqC c H a1 xs/\SqC c H a2 ys/\xs[i]?=some x/\ys[i]?=some y,
  fun i H v H'=>∃ T x y,v=.ref T/\H T=none/\H'=upd H T (.tup [x,y])/\(∀ xs,SqC c H a1 xs->xs[i]?=some x)/\(∀ ys,SqC c H a2 ys->ys[i]?=some y),
  fun i H=>∃ xs ys,SqC c H a1 xs/\SqC c H a2 ys/\xs.length<=i⟩
section
variable {X:Cx}{pins:List (Addr×Obj)}{σ:St}{H:Hp}{s:Shared}
theorem Inv.turnT {ch:List Addr}{h'':Heap}{x y:V}{u v:Value}(I:Inv X pins σ H s)(fr:∀ b∈ch,FpOk X pins H b)(kp':∀ b o,b∉ch->s.heap.get? b=some o->h''.get? b=some o)(hT':IsPair h'' s.heap.objs.size u v)(ru:RelV x u)(rv:RelV y v) :
 Inv X pins σ (upd H s.heap.objs.size (.tup [x,y])) { s with heap:=h''}:=by
 have hn:H s.heap.objs.size=none:=I.dX.fresh (aa _)
 refine I.step (g':=s.gens) (d':=s.drawn) (t':=s.toks) (h':=h'') (ch:=ch) (fun b hb=>?_) (fun b o _ _ hb e _=>kp' b o hb e) (fun b o _ _ hb e _=>⟨o.slots,kp' b o hb e⟩)
  (fun b o hb e n=>by rw[dQ (aC (gxN e))];exact n) (fun b o hb e=>⟨o,kp' b o hb e⟩)
  (fun b zs e=>by rw[dQ (eI e hn)];exact e) (fun b o u e=>by rw[dQ (eI e hn)];exact e) (fun b ps e=>⟨#[],by rw[dQ (eI e hn),e];simp⟩) (fun m hm=>?_) (fun b o e=>?_) I.bare
 ·obtain⟨f0,f1,f2,f3,f4,f5⟩:=fr b hb
  exact⟨f3,f1,f4,f5⟩
 ·obtain⟨o,es,ep,ho,rr⟩:=hm
  exact⟨o,es,ep,kp' _ o (fun q=>(fr _ q).2.1 rfl) ho,rr⟩
 ·by_cases hb:b=s.heap.objs.size
  ·subst hb;rw[dE]at e;cases e
   exact⟨by show 2<=sizeLine;decide,[u,v],.cons ru (.cons rv .nil),⟨_,hT',rfl,0,rfl⟩⟩
  ·rw[dQ hb]at e
   refine(I.dX b o e).stay (fun d v' hd q=>kp' d v' (fun hm=>?_) q) (fun d q=>by rw[dQ (eI q hn)];exact q) fun d zs q=>by rw[dQ (eI q hn)];exact q
   have nn:=(fr d hm).1
   rcases hd with rfl | hd
   ·rw[nn]at e;cases e
   ·rw[nn]at hd;cases hd
theorem Inv.turnK {ch:List Addr}{h'':Heap}(I:Inv X pins σ H s)(fr:∀ b∈ch,FpOk X pins H b)(kp':∀ b o,b∉ch->s.heap.get? b=some o->h''.get? b=some o):Inv X pins σ H { s with heap:=h''}:=by
 refine I.step (g':=s.gens) (d':=s.drawn) (t':=s.toks) (h':=h'') (ch:=ch) (fun b hb=>?_) (fun b o _ _ hb e _=>kp' b o hb e) (fun b o _ _ hb e _=>⟨o.slots,kp' b o hb e⟩)
  (fun b o hb e n=>n) (fun b o hb e=>⟨o,kp' b o hb e⟩) (fun b zs e=>e) (fun b o u e=>e) (fun b ps e=>⟨#[],by rw[e];simp⟩) (fun m hm=>?_) (fun b o e=>?_) I.bare
 ·obtain⟨f0,f1,f2,f3,f4,f5⟩:=fr b hb
  exact⟨f3,f1,f4,f5⟩
 ·obtain⟨o,es,ep,ho,rr⟩:=hm
  exact⟨o,es,ep,kp' _ o (fun q=>(fr _ q).2.1 rfl) ho,rr⟩
 ·refine(I.dX b o e).stay (fun d v' hd q=>kp' d v' (fun hm=>?_) q) (fun d q=>q) fun d zs q=>q
  have nn:=(fr d hm).1
  rcases hd with rfl | hd
  ·rw[nn]at e;cases e
  ·rw[nn]at hd;cases hd
end
theorem turn_zip {P:Program}{w:World}{K:PySem.W.Frag}{elts:List Expr}{kk:Nat}{tpos:Pos}{c:Bool}{z TI TO i1 i2 l1 l2:Addr}(D:ZipApart z TI TO i1 i2 l1 l2) :
 Turn P w K (.Tuple elts kk tpos) (Itz c l1 l2) [z,TI,TO,i1,i2] z (fun i h=>IsZip h z TI TO .none/\IsPair h TI (.ref i1) (.ref i2)/\(∃ a b,IsPair h TO a b)/\ItOf c h i1 l1 i/\ItOf c h i2 l2 i) where
 mem:=by simp
 obj:=fun i h st b hb=>by
  obtain⟨hz,hTI,⟨a,b',hTO⟩,h1,h2⟩:=st
  simp only[bF,bp,cI]at hb
  rcases hb with rfl | rfl | rfl | rfl | rfl
  ·exact⟨_,hz,fun v q=>by cases q⟩
  ·exact⟨_,hTI,fun v q=>by cases q⟩
  ·exact⟨_,hTO,fun v q=>by cases q⟩
  ·exact h1.data
  ·exact h2.data
 keep:=fun i h h' st k=>by
  obtain⟨hz,hTI,⟨a,b',hTO⟩,h1,h2⟩:=st
  exact⟨k z (by simp) _ hz,k TI (by simp) _ hTI,⟨a,b',k TO (by simp) _ hTO⟩,h1.at fun o e=>k i1 (by simp) o e,h2.at fun o e=>k i2 (by simp) o e⟩
 item:=by
  intro X hP hw hK hc i pins s σ H E I hf st hg
  subst hP hw hK
  obtain⟨hz,hTI,⟨a,b',hTO⟩,h1,h2⟩:=st
  obtain⟨xs,ys,x,y,q1,q2,ex,ey⟩:=hg
  obtain⟨us,r1,p1⟩:=q1.val I
  obtain⟨ws,r2,p2⟩:=q2.val I
  obtain⟨u,eu,ru⟩:=r1.get ex
  obtain⟨v,ev,rv⟩:=r2.get ey
  refine zip_item D ⟨hz,hTI,hTO,h1,h2,p1,p2⟩ (by simpa using eu) (by simpa using ev) fun h' S' hT hk=>?_
  refine⟨_,rfl,wpAny_letOwnedTupleGo_zip S'.z fun h'' e'' t''=>?_⟩
  have S'':=S'.mz D (f':=.none) e'' t''.extBut
  have Tz:s.heap.objs.size≠z:=a9 (gxN hz)
  have hT':IsPair h'' s.heap.objs.size u v:=t''.extBut _ _ Tz hT
  have kp:ZK z TO i1 i2 s.heap h'':=hk.trans (zk_z t''.extBut)
  have hn:H s.heap.objs.size=none:=I.dX.fresh (aa _)
  have fr:∀ b∈[z,TO,i1,i2],FpOk X pins H b:=fun b hb=>hf b (by
   simp only[bF,bp,cI]at hb ⊢
   rcases hb with q | q | q | q <;> simp[q])
  have kp':∀ b o,b∉[z,TO,i1,i2]->s.heap.get? b=some o->h''.get? b=some o:=fun b o hb e=>kp b o (fun q=>hb (by simp[q])) (fun q=>hb (by simp[q])) (fun q=>hb (by simp[q])) (fun q=>hb (by simp[q])) e
  have I1:Inv X pins σ (upd H s.heap.objs.size (.tup [x,y])) { s with heap:=h''}:=I.turnT fr kp' hT' ru rv
  refine⟨.ref s.heap.objs.size,_,I1,rfl,⟨_,x,y,rfl,hn,rfl,fun zs q=>by rw[q.inj q1];exact ex,fun zs q=>by rw[q.inj q2];exact ey⟩,⟨S''.z,S''.ti,⟨_,_,S''.to⟩,S''.n1,S''.n2⟩,fun b hb=>?_⟩
  obtain⟨o,e,_⟩:∃ o,s.heap.get? b=some o/\True:=by
   simp only[bF,bp,cI]at hb
   rcases hb with rfl | rfl | rfl | rfl | rfl
   ·exact⟨_,hz,trivial⟩
   ·exact⟨_,hTI,trivial⟩
   ·exact⟨_,hTO,trivial⟩
   ·obtain⟨o,e⟩:=h1.ex;exact⟨o,e,trivial⟩
   ·obtain⟨o,e⟩:=h2.ex;exact⟨o,e,trivial⟩
  rw[dQ (aC (gxN e))]
  exact(hf b hb).1
 done:=by
  intro X hP hw hK hc i pins s σ H E I hf st hg
  subst hP hw hK
  obtain⟨hz,hTI,⟨a,b',hTO⟩,h1,h2⟩:=st
  obtain⟨xs,ys,q1,q2,hx⟩:=hg
  obtain⟨us,r1,p1⟩:=q1.val I
  obtain⟨ws,r2,p2⟩:=q2.val I
  have hl:=r1.length
  refine zip_end (I.ok.hd hc) D ⟨hz,hTI,hTO,h1,h2,p1,p2⟩ (by simp;omega) fun h' hk=>⟨rfl,?_⟩
  have fr:∀ b∈[z,TO,i1,i2],FpOk X pins H b:=fun b hb=>hf b (by
   simp only[bF,bp,cI]at hb ⊢
   rcases hb with q | q | q | q <;> simp[q])
  have kp':∀ b o,b∉[z,TO,i1,i2]->s.heap.get? b=some o->h'.get? b=some o:=fun b o hb e=>hk b o (fun q=>hb (by simp[q])) (fun q=>hb (by simp[q])) (fun q=>hb (by simp[q])) (fun q=>hb (by simp[q])) e
  exact I.turnK fr kp'
 self:=fun _ _ _ _ _ st h=>wpAny_pyIter_zip st.1 h
def tIt (a:Addr):Obj:={ cls:=.type "tuple_iterator",data:=.fields #[.ref a,.int 0 0]}
def zH (l1 l2:Addr)(h:Heap):Heap :=
 ((((h.push (tIt l1)).push (tIt l2)).push { cls:=.type "tuple",data:=.seq #[.ref h.objs.size,.ref (h.push (tIt l1)).objs.size]}).push { cls:=.type "tuple",data:=.seq #[.none,.none]}).push
  { cls:=.type "zip",data:=.fields #[.none,.bool false,.bool false,.ref ((h.push (tIt l1)).push (tIt l2)).objs.size,.ref (((h.push (tIt l1)).push (tIt l2)).push { cls:=.type "tuple",data:=.seq #[.ref h.objs.size,.ref (h.push (tIt l1)).objs.size]}).objs.size]}
theorem zip_newT (l1 l2:Addr)(xs ys:Array Value):Meets (Builtin.«zip.__new__» ⟨[.type "zip",.ref l1,.ref l2],[]⟩) (fun _ R s=>s.heap.IsTuple l1 xs/\s.heap.IsTuple l2 ys /\
 R (.ok (.ret (.ref (s.heap.objs.size+4)))) { s with heap:=zH l1 l2 s.heap}) :=
 .of_wp fun prog w A R s h=>by
  obtain⟨hp,g,d,tk,os⟩:=s;obtain⟨hl1,hl2,h⟩:=h
  have hsub:=sub_zip
  have t1:Heap.IsTuple (Shared.heap ⟨hp,g,d,tk,os⟩) l1 xs:=hl1
  have t2:Heap.IsTuple (Shared.heap ⟨hp.push { cls:=.type "tuple_iterator",data:=.fields #[.ref l1,.int 0 0]},g,d,tk,os⟩) l2 ys:=Heap.IsTuple.push hl2 _
  wp_walk using wpAny_pyIter_tuple t1,wpAny_pyIter_tuple t2
  refine⟨_,rfl,?_⟩
  have e:hp.objs.size+4=((((hp.push (tIt l1)).push (tIt l2)).push { cls:=.type "tuple",data:=.seq #[.ref hp.objs.size,.ref (hp.push (tIt l1)).objs.size]}).push { cls:=.type "tuple",data:=.seq #[.none,.none]}).objs.size:=by
   simp only[aY]
  have h':R (.ok (.ret (.ref (hp.objs.size+4)))) _:=h
  rw[e]at h'
  exact h'
theorem zip_made {prog:Program}{w:World}{A:Around}{E:Value->Shared->Prop}{s:Shared}{c:Bool}{l1 l2:Addr}{xs ys:Array Value}{Q:Value->Shared->Prop}(p1:SqOf c s.heap l1 xs)(p2:SqOf c s.heap l2 ys)
 (h:∀ h',IsZip h' (s.heap.objs.size+4) (s.heap.objs.size+2) (s.heap.objs.size+3) .none->IsPair h' (s.heap.objs.size+2) (.ref s.heap.objs.size) (.ref (s.heap.objs.size+1))->IsPair h' (s.heap.objs.size+3) .none .none ->
   ItOf c h' s.heap.objs.size l1 0->ItOf c h' (s.heap.objs.size+1) l2 0->(∀ b o,s.heap.get? b=some o->h'.get? b=some o)->Q (.ref (s.heap.objs.size+4)) { s with heap:=h'}) :
 wpAny (model prog w) A (call (.type "zip") [.ref l1,.ref l2]) Q E s:=by
 cases c with
 | false=>exact call_zip_2 p1 p2 fun h' a1 a2 a3 a4 a5 _ a7=>h h' a1 a2 a3 a4 a5 a7
 | true =>
  refine callType_new F.called_zip (by decide) (F.typeCall_zip_2 _ _) (F.newCall_zip_2 _ _) (fun obj=>F.args_object_init_3 obj _ _) F.entry_zip_new (zip_newT l1 l2 xs ys) ⟨p1,p2,?_⟩
  have z1:(s.heap.push (tIt l1)).objs.size=s.heap.objs.size+1:=aY ..
  have z2:((s.heap.push (tIt l1)).push (tIt l2)).objs.size=s.heap.objs.size+2:=by rw[aY,z1]
  have z3:(((s.heap.push (tIt l1)).push (tIt l2)).push { cls:=.type "tuple",data:=.seq #[.ref s.heap.objs.size,.ref (s.heap.push (tIt l1)).objs.size]}).objs.size=s.heap.objs.size+3:=by rw[aY,z2]
  have z4:((((s.heap.push (tIt l1)).push (tIt l2)).push { cls:=.type "tuple",data:=.seq #[.ref s.heap.objs.size,.ref (s.heap.push (tIt l1)).objs.size]}).push { cls:=.type "tuple",data:=.seq #[.none,.none]}).objs.size=s.heap.objs.size+4:=by rw[aY,z3]
  have g0:(zH l1 l2 s.heap).get? s.heap.objs.size=some (tIt l1):=gxL _ (gxL _ (gxL _ (gxL _ (au _ rfl))))
  have g1:(zH l1 l2 s.heap).get? (s.heap.push (tIt l1)).objs.size=some (tIt l2):=gxL _ (gxL _ (gxL _ (au _ rfl)))
  have g2:(zH l1 l2 s.heap).get? ((s.heap.push (tIt l1)).push (tIt l2)).objs.size=some _:=gxL _ (gxL _ (au _ rfl))
  have g3:(zH l1 l2 s.heap).get? (((s.heap.push (tIt l1)).push (tIt l2)).push { cls:=.type "tuple",data:=.seq #[.ref s.heap.objs.size,.ref (s.heap.push (tIt l1)).objs.size]}).objs.size=some _:=gxL _ (au _ rfl)
  have g4:(zH l1 l2 s.heap).get? ((((s.heap.push (tIt l1)).push (tIt l2)).push { cls:=.type "tuple",data:=.seq #[.ref s.heap.objs.size,.ref (s.heap.push (tIt l1)).objs.size]}).push { cls:=.type "tuple",data:=.seq #[.none,.none]}).objs.size=some _:=au _ rfl
  rw[z1]at g1
  rw[z2,z1]at g2
  rw[z3]at g3
  rw[z4,z2,z3]at g4
  exact⟨⟨_,g4,rfl⟩,h _ g4 g2 g3 ⟨_,g0,rfl,rfl⟩ ⟨_,g1,rfl,rfl⟩ fun b o e=>gxL _ (gxL _ (gxL _ (gxL _ (gxL _ e))))⟩
section
variable {X:Cx}
def iZip (ta:TA):TI:=fun σ H R=>ta σ H fun vs H1=>match vs with
 | [.ref a,.ref b]=>∃(c:Bool) (xs ys:List V),SqC c H1 a xs/\SqC c H1 b ys/\R (Itz c a b) H1
 | _=>False
theorem pi_zip {elts:List Expr}{kk:Nat}{tpos:Pos}{a b:Expr}{ta:TA}{p pos:Pos}(hg:Gl X "zip")(hm:X.mg "zip"=none)(ha:PA X [a,b] ta)(hs:starEach [a,b] X.env=[(false,eval a X.env),(false,eval b X.env)]:=by rfl)(hs2:starEach [b] X.env=[(false,eval b X.env)]:=by rfl) :
 PI X (.Tuple elts kk tpos) (.Call (.Name "zip" p) [a,b] [] pos) (iZip ta):=by
 intro pins s σ H R I h
 refine Call_ (ld_blt I hg hm boot_zip (br (fo (ha pos pins s σ H _ I h) fun us s1 hq4=>?_) (by rw[hs,hs2]) (by rw[hs2];rfl)))
 obtain⟨vs,H1,I1,r1,q1⟩:=hq4
 try dsimp only at q1
 split at q1
 ·rename_i l1 l2
  obtain⟨c,xs,ys,q1,q2,q⟩:=q1
  obtain⟨u1,u2,rfl,e1,e2⟩:=r1.two
  cases e1;cases e2
  obtain⟨us,r1,p1⟩:=q1.val I1
  obtain⟨ws,r2,p2⟩:=q2.val I1
  have lt:∀ {l:Addr} {o:HO},H1 l=some o->l<s1.heap.objs.size:=fun e=>I1.dX.lt e
  obtain⟨o1,w1⟩:=q1.ex
  obtain⟨o2,w2⟩:=q2.ex
  refine zip_made p1 p2 fun h' hz hTI hTO n1 n2 kp=>wpAny_pyIter_zip hz ?_
  have I2:Inv X pins σ H1 { s1 with heap:=h'}:=I1.kept (t':=s1.toks) kp
  refine⟨s1.heap.objs.size+4,_,_,_,H1,rfl,I2,turn_zip (c:=c) (zipApart_new (lt w1) (lt w2)),⟨hz,hTI,⟨_,_,hTO⟩,n1,n2⟩,fun b hb=>?_,q⟩
  have hb':s1.heap.objs.size<=b:=by
   simp only[bF,bp,cI]at hb
   rcases hb with e | e | e | e | e <;> subst e
   ·exact aW ..
   ·exact aW ..
   ·exact aW ..
   ·exact aa _
   ·exact aW ..
  exact I1.fpOk hb' (I1.dX.fresh hb')
 ·exact q1.elim
def rAllC (g:List Bool->Bool):List V->Hp->VK->Prop:=fun vs H Q=>match vs with
 | [.ref p]=>∃ bs:List Bool,H p=some (.lst (bs.map V.bl))/\Q (.bl (g bs)) H
 | _=>False
theorem range_all (bs:List Bool):(List.range bs.length).all (fun i=>bs.getD i true)=bs.all id:=by
 rw[cx,cm,cm]
 constructor
 ·intro h b hb
  obtain⟨i,hi,e⟩:=bQ hb
  have:=h i (by simpa using hi)
  rw[aU,gxA hi,e]at this
  exact this
 ·intro h i hi
  have hi':i<bs.length:=by simpa using hi
  rw[aU,gxA hi']
  exact h _ (ck _)
theorem allC (hc:X.calm=true):CallR X (.builtin "all") (rAllC fun bs=>bs.all id):=by
 intro pins s σ H vs us Q I rv h
 unfold rAllC at h
 split at h
 ·rename_i p
  obtain⟨bs,hp,q⟩:=h
  obtain⟨u,rfl,ru⟩:=rv.one
  cases ru
  obtain⟨z,d7,n,r,hl,e⟩:=I.lstM hp
  have isl:s.heap.IsList p d7.toArray:=⟨_,e,rfl,n,rfl⟩
  have lt:p≠s.heap.objs.size:=aC (gxN e)
  refine call_all_walk (wpAny_pyIter_list isl ⟨_,_,_,_,_,_,fun i=>bs.getD i true,rfl,Walks.list (A:=X.A.in1) (I.ok.hd hc) s.heap.objs.size p lt d7.toArray,⟨⟨_,au _ rfl,rfl,rfl⟩,isl.push _⟩,?_,fun h' tk kp=>?_⟩)
  ·intro i v s' Q' E' hv hq
   have hv':d7[i]?=some v:=by simpa using hv
   have hb:∃ b,bs[i]?=some b/\v=.bool b:=by
    cases eb:(bs.map V.bl)[i]? with
    | none=>have:=r.none_of eb;rw[hv']at this;cases this
    | some y =>
     obtain⟨u,hu,ry⟩:=r.get eb
     rw[hv']at hu;cases hu
     rw[gxH]at eb
     cases e2:bs[i]? with
     | none=>rw[e2]at eb;cases eb
     | some b=>rw[e2]at eb;cases eb;exact⟨b,rfl,ry⟩
   obtain⟨b,eb,rfl⟩:=hb
   have e3:bs.getD i true=b:=by rw[aU,eb];rfl
   have hq':Q' (bs.getD i true) s':=hq
   rw[e3]at hq'
   exact bG hq'
  ·have I2:Inv X pins σ H { s with heap:=h',toks:=tk}:=I.kept fun b o e'=>kp b o (by simpa using aC (gxN e')) (gxL _ e')
   have len:d7.toArray.size=bs.length:=by rw[ar,<- hl,fC]
   rw[len,range_all]
   exact⟨.bl _,H,I2,rfl,q⟩
 ·exact h.elim
def rEqN:R2:=fun x y H Q=>match x,y with
 | .fB,.fB=>Q (.bl true) H
 | .int i,.int j=>Q (.bl (decide (i=j))) H
 | .str i,.str j=>Q (.bl (decide (i=j))) H
 | .bl i,.bl j=>Q (.bl (decide (i=j))) H
 | _,_=>False
theorem eqN:OpR X (compareOp .Eq) rEqN:=op_eq.imp fun x y H Q q=>by
 unfold rEqN at q
 split at q
 ·exact⟨rfl,by simpa using q⟩
 ·exact⟨rfl,by rw[dI];exact q⟩
 ·exact⟨rfl,by rw[dS];exact q⟩
 ·exact⟨rfl,by rw[dB];exact q⟩
 ·exact q.elim
end
section
variable {js:List (Option Nat)}{g:TG}{tt:TT}{te:TE}{σ:St}{H:Hp}{fin:List V->Hp->Prop}
theorem compZip {c:Bool}{a1 a2:Addr}{xs zs:List V}(hn:xs.length=zs.length)(Pv:Nat->List V->Hp->Prop)(h0:Pv 0 [] H)(hl:∀ i ys H,Pv i ys H->SqC c H a1 xs/\SqC c H a2 zs)
 (hs:∀ i x y ys H T,i<xs.length->xs[i]?=some x->zs[i]?=some y->Pv i ys H->H T=none->g (.ref T) (fk js σ) (upd H T (.tup [x,y])) fun σ2 H2=>Ext (fk js σ) σ2/\tt σ2 H2 fun b H3=>if b=true then te σ2 H3 (CNx xs.length i Pv ys)else CSk xs.length i Pv ys H3)
 (hd:∀ ys H,Pv xs.length ys H->fin ys H):wComp js g tt te (Itz c a1 a2) σ H fin:=by
 refine⟨fun i m ys H=>m=xs.length - i/\i<=xs.length/\Pv i ys H,⟨xs.length,by simp,aX _,h0⟩,?_⟩
 rintro i m ys H ⟨rfl,hi,p⟩
 obtain⟨q1,q2⟩:=hl i ys H p
 by_cases hlt:i<xs.length
 ·refine .inr ⟨⟨xs,zs,xs[i],zs[i]'(by omega),q1,q2,by simp[hlt],by simp[show i<zs.length by omega]⟩,fun v H' yl=>?_⟩
  obtain⟨T,x,y,rfl,hT,rfl,h1,h2⟩:=yl
  exact hs i x y ys H T hlt (h1 xs q1) (h2 zs q2) p hT
 ·have e:i=xs.length:=by omega
  subst e
  exact .inl ⟨⟨xs,zs,q1,q2,aa _⟩,hd ys H p⟩
end
inductive DV where
 | fB | bl (b:Bool) | int (i:Int) | str (z:Str) | lst (ds:List DV) | tup (ds:List DV)
mutual
def dep:DV->Nat
 | .lst ds=>depL ds+1
 | .tup ds=>depL ds+1
 | _=>0
def depL:List DV->Nat
 | []=>0
 | d::ds=>max (dep d) (depL ds)
end
mutual
def wid:DV->Nat
 | .lst ds=>max ds.length (widL ds)
 | .tup ds=>max ds.length (widL ds)
 | _=>0
def widL:List DV->Nat
 | []=>0
 | d::ds=>max (wid d) (widL ds)
end
mutual
def Is (H:Hp):DV->V->Prop
 | .fB,v=>v=.fB
 | .bl b,v=>v=.bl b
 | .int i,v=>v=.int i
 | .str z,v=>v=.str z
 | .lst ds,v=>∃ p vs,v=.ref p/\H p=some (.lst vs)/\IsAll H ds vs
 | .tup ds,v=>∃ p vs,v=.ref p/\H p=some (.tup vs)/\IsAll H ds vs
def IsAll (H:Hp):List DV->List V->Prop
 | [],vs=>vs=[]
 | d::ds,vs=>∃ v r,vs=v::r/\Is H d v/\IsAll H ds r
end
mutual
theorem Is.mono {H H':Hp}(s:Same H H'):∀(d:DV) (v:V),Is H d v->Is H' d v
 | .fB,_,h=>h
 | .bl _,_,h=>h
 | .int _,_,h=>h
 | .str _,_,h=>h
 | .lst ds,_,h=>by
  obtain⟨p,vs,e,hp,q⟩:=h
  exact⟨p,vs,e,s _ _ hp,IsAll.mono s ds vs q⟩
 | .tup ds,_,h=>by
  obtain⟨p,vs,e,hp,q⟩:=h
  exact⟨p,vs,e,s _ _ hp,IsAll.mono s ds vs q⟩
theorem IsAll.mono {H H':Hp}(s:Same H H'):∀(ds:List DV) (vs:List V),IsAll H ds vs->IsAll H' ds vs
 | [],_,h=>h
 | d::ds,_,h=>by
  obtain⟨v,r,e,h1,h2⟩:=h
  exact⟨v,r,e,Is.mono s d v h1,IsAll.mono s ds r h2⟩
end
theorem IsAll.len {H:Hp}:∀ {ds:List DV} {vs:List V},IsAll H ds vs->vs.length=ds.length
 | [],_,h=>by rw[show _=[]from h];rfl
 | d::ds,_,h=>by obtain⟨v,r,rfl,_,h2⟩:=h;rw[aG,aG,IsAll.len h2]
theorem IsAll.get {H:Hp}:∀ {ds:List DV} {vs:List V} {i:Nat} {v:V},IsAll H ds vs->vs[i]?=some v->∃ d,ds[i]?=some d/\Is H d v
 | [],_,i,v,h,e=>by rw[show _=[]from h]at e;simp at e
 | d::ds,_,0,v,h,e=>by
  obtain⟨v',r,rfl,h1,h2⟩:=h
  simp at e;subst e;exact⟨d,rfl,h1⟩
 | d::ds,_,i+1,v,h,e=>by
  obtain⟨v',r,rfl,h1,h2⟩:=h
  obtain⟨d',e1,e2⟩:=IsAll.get (i:=i) h2 (by simpa using e)
  exact⟨d',by simpa using e1,e2⟩
theorem depL_get:∀ {ds:List DV} {i:Nat} {d:DV},ds[i]?=some d->dep d<=depL ds
 | d::ds,0,d',h=>by simp at h;subst h;unfold depL;omega
 | d::ds,i+1,d',h=>by have:=depL_get (ds:=ds) (i:=i) (by simpa using h);unfold depL;omega
theorem widL_get:∀ {ds:List DV} {i:Nat} {d:DV},ds[i]?=some d->wid d<=widL ds
 | d::ds,0,d',h=>by simp at h;subst h;unfold widL;omega
 | d::ds,i+1,d',h=>by have:=widL_get (ds:=ds) (i:=i) (by simpa using h);unfold widL;omega
def spSame (n:Nat):Sp:=fun vs H Q _=>match vs with
 | [x,y]=>∃ d,dep d<=n/\wid d<sizeLine/\Is H d x/\Is H d y/\∀ H',Same H H'->Q (.bl true) H'
 | _=>False
def spNo:Sp:=fun _ _ _ _=>False
def spS:Nat->Sp
 | 0=>spNo
 | n+1=>spSame n
theorem Same.upd {H:Hp}{p:Addr}{o:HO}(h:H p=none):Same H (L2.upd H p o):=fun b u e=>by rw[dQ (eI e h)];exact e
theorem cutL_to {α:Type}{l:List α}{n:Int}(h:0<=n):cutL l none (some n)=l.take n.toNat:=by
 obtain⟨m,rfl⟩:∃ m:Nat,n=(m:Int):=⟨n.toNat,by omega⟩
 unfold cutL
 rw[HT.sIx_nat,HT.sIx_none,List.drop_zero,Nat.sub_zero,gxK]
 by_cases hm:m<=l.length
 ·rw[Nat.min_eq_left hm]
 ·rw[Nat.min_eq_right (by omega),List.take_length,bA (by omega)]
theorem cutL_from {α:Type}{l:List α}{n:Int}(h:0<=n):cutL l (some n) none=l.drop n.toNat:=by
 obtain⟨m,rfl⟩:∃ m:Nat,n=(m:Int):=⟨n.toNat,by omega⟩
 unfold cutL
 rw[HT.sIx_nat,HT.sIx_none,gxK]
 by_cases hm:m<=l.length
 ·rw[Nat.min_eq_left hm,bA (by rw[cj];omega)]
 ·rw[Nat.min_eq_right (by omega),List.drop_of_length_le (aa _),List.drop_of_length_le (by omega),List.take_nil]
end L2
namespace L2
open PySem PySem.Spec PyProof.Rows
section
variable {X:Cx}
def rAppendC:V->List V->Hp->VK->Prop:=fun x vs H Q=>∃ l y xs,x=.ref l/\vs=[y]/\H l=some (.lst xs)/\xs.length<sizeLine/\Q .fB (upd H l (.lst (xs++[y])))
theorem appendC:MtR X "list.append" rAppendC:=MtR.imp mt_append fun x vs H Q q=>by
 obtain⟨l,y,xs,rfl,rfl,a,b,c⟩:=q
 exact⟨_,xs,_,rfl,rfl,a,b,c⟩
end
def PairsAt (H:Hp):List V->List (Nat×Nat)->Prop:=Paired fun v r=>∃ p,v=.ref p/\H p=some (.tup [.int r.1,.int r.2])
def TupS (H H':Hp):Prop:=∀ p xs,H p=some (.tup xs)->H' p=some (.tup xs)
theorem TupS.trans {H H1 H2:Hp}(a:TupS H H1)(b:TupS H1 H2):TupS H H2:=fun p xs h=>b p xs (a p xs h)
theorem PairsAt.mono {H H':Hp}(t:TupS H H'):∀ {vs:List V} {rs:List (Nat×Nat)},PairsAt H vs rs->PairsAt H' vs rs
 | _,_,.nil=>.nil
 | _,_,.cons ⟨p,e,h⟩ r=>.cons ⟨p,e,t _ _ h⟩ (PairsAt.mono t r)
def dvp (r:Nat×Nat):DV:=.tup [.int r.1,.int r.2]
theorem PairsAt.all {H:Hp}:∀ {vs:List V} {rs:List (Nat×Nat)},PairsAt H vs rs->IsAll H (rs.map dvp) vs
 | _,_,.nil=>rfl
 | _,_,.cons ⟨p,e,h⟩ r=>⟨_,_,rfl,⟨p,_,e,h,_,_,rfl,rfl,_,_,rfl,rfl,rfl⟩,PairsAt.all r⟩
def rr (l:List Nat):Nat->Nat×List (Nat×Nat)
 | 0=>(0,[])
 | i+1=>if l[i]?=some 120 then(i+1,if(rr l i).1<i then(rr l i).2++[((rr l i).1,i)]else(rr l i).2)else rr l i
inductive D where
 | fB | bl (b:Bool) | int (i:Int) | str (z:Str) | lst (ds:List D) | tup (ds:List D) | dic (ks:List Key) (ds:List D) | mr (k:Nat) | obj (C:Addr) (ns:List Str) (ds:List D) | fdc (ks:List Key) (ds:List D) | fn (a:Addr)
inductive MO where
 | box | lst (ds:List D) | dic (ks:List Key) (ds:List D) | fdic (o:Obj) (kvs:List (Key×V)) (ds:List D) | ins (C:Addr) (ns:List Str) (ds:List D) | dtu (ks:List (List Key)) (ds:List D) | gx (φ:List Addr) (H:Hp) | exc (c:Value)
abbrev MS:=List MO
def lvM (μ:MS)(k:Nat):Option (List D):=match μ[k]? with | some (.lst ds)=>some ds | _=>none
theorem lvM_eq {μ:MS}{k:Nat}{ds:List D}(h:lvM μ k=some ds):μ[k]?=some (.lst ds):=by
 unfold lvM at h
 split at h
 ·cases h;assumption
 ·cases h
theorem lvM_of {μ:MS}{k:Nat}{ds:List D}(h:μ[k]?=some (.lst ds)):lvM μ k=some ds:=by unfold lvM;rw[h]
theorem lvM_new {μ:MS}{ds:List D}:lvM (μ++[.lst ds]) μ.length=some ds:=lvM_of (by rw[gxG (aa _),aQ];rfl)
abbrev DE:=List (Option D)
mutual
def DIs (φ:List Addr)(H:Hp):D->V->Prop
 | .fB,v=>v=.fB
 | .bl b,v=>v=.bl b
 | .int i,v=>v=.int i
 | .str z,v=>v=.str z
 | .lst ds,v=>∃ p vs,v=.ref p/\p∉φ/\H p=some (.lst vs)/\dJ φ H ds vs
 | .tup ds,v=>∃ p vs,v=.ref p/\p∉φ/\H p=some (.tup vs)/\dJ φ H ds vs
 | .dic ks ds,v=>∃ p kvs vs,v=.ref p/\p∉φ/\H p=some (.dK kvs)/\kvs.map (·.1)=ks/\vs=kvs.map (·.2)/\dJ φ H ds vs
 | .mr k,v=>∃ p,φ[k]?=some p/\v=.ref p
 | .obj C ns ds,v=>∃ p dx fs vs,v=.ref p/\p∉φ/\H p=some (.ins C dx fs)/\fs.map (·.1)=ns/\vs=fs.map (·.2)/\dJ φ H ds vs
 | .fdc ks ds,v=>∃ p o kvs vs,v=.ref p/\p∉φ/\H p=some (.frz o (.dK kvs))/\kvs.map (·.1)=ks/\vs=kvs.map (·.2)/\dJ φ H ds vs
 | .fn a,v=>v=.ref a
def dJ (φ:List Addr)(H:Hp):List D->List V->Prop
 | [],vs=>vs=[]
 | d::ds,vs=>∃ v r,vs=v::r/\DIs φ H d v/\dJ φ H ds r
end
structure Fr (φ:List Addr)(H:Hp)(ee:List Addr)(H':Hp):Prop where
 ext:∃ ψ,ee=φ++ψ/\∀ c∈ψ,H c=none
 keep:∀ c o,c∉φ->H c=some o->H' c=some o
 dom:∀ c,H' c=none->H c=none
theorem Fr.refl (φ:List Addr)(H:Hp):Fr φ H φ H:=⟨⟨[],by simp,fun _ h=>nomatch h⟩,fun _ _ _ h=>h,fun _ h=>h⟩
theorem Fr.trans {φ d9 φ2:List Addr}{H H1 H2:Hp}(a:Fr φ H d9 H1)(b:Fr d9 H1 φ2 H2):Fr φ H φ2 H2:=by
 obtain⟨⟨ψ,rfl,hψ⟩,k1,d1⟩:=a
 obtain⟨⟨χ,rfl,hχ⟩,k2,d2⟩:=b
 refine⟨⟨ψ++χ,by simp,fun c hc=>?_⟩,fun c o hc e=>k2 c o (fun h=>?_) (k1 c o hc e),fun c h=>d1 c (d2 c h)⟩
 ·rcases List.mem_append.mp hc with h | h
  ·exact hψ c h
  ·exact d1 c (hχ c h)
 ·rcases List.mem_append.mp h with h | h
  ·exact hc h
  ·rw[hψ c h]at e;cases e
theorem Fr.same {φ:List Addr}{H H':Hp}(h:Same H H'):Fr φ H φ H':=⟨⟨[],by simp,fun _ h=>nomatch h⟩,fun c o _ e=>h c o e,fun c e=>h.free e⟩
theorem Fr.new {φ:List Addr}{H:Hp}{p:Addr}{o:HO}(h:H p=none):Fr φ H φ (upd H p o):=.same (Same.upd h)
theorem Fr.put {φ:List Addr}{H:Hp}{p:Addr}{o:HO}(h:p∈φ):Fr φ H φ (upd H p o) :=
 ⟨⟨[],by simp,fun _ h=>nomatch h⟩,fun c u hc e=>by rw[dQ (show c≠p from fun z=>hc (by rw[z];exact h))];exact e,fun c e=>by
  unfold upd at e
  split at e
  ·cases e
  ·exact e⟩
theorem Fr.snoc {φ:List Addr}{H:Hp}{p:Addr}(h:H p=none):Fr φ H (φ++[p]) H:=⟨⟨[p],rfl,fun c hc=>by rw[List.mem_singleton.mp hc];exact h⟩,fun _ _ _ e=>e,fun _ e=>e⟩
theorem Fr.notin {φ ee:List Addr}{H H':Hp}(f:Fr φ H ee H'){p:Addr}{o:HO}(h:p∉φ)(e:H p=some o):p∉ee:=by
 obtain⟨⟨ψ,rfl,hψ⟩,_,_⟩:=f
 intro hc
 rcases List.mem_append.mp hc with q | q
 ·exact h q
 ·rw[hψ p q]at e;cases e
theorem Fr.get {φ ee:List Addr}{H H':Hp}(f:Fr φ H ee H'){k:Nat}{p:Addr}(h:φ[k]?=some p):ee[k]?=some p:=by
 obtain⟨⟨ψ,rfl,hψ⟩,_,_⟩:=f
 rw[gxF (gxB h).1];exact h
mutual
theorem DIs.mono {φ ee:List Addr}{H H':Hp}(f:Fr φ H ee H'):∀ {d:D} {v:V},DIs φ H d v->DIs ee H' d v
 | .fB,_,h=>h
 | .bl _,_,h=>h
 | .int _,_,h=>h
 | .str _,_,h=>h
 | .lst _,_,h=>by obtain⟨p,vs,e,n,hp,q⟩:=h;exact⟨p,vs,e,f.notin n hp,f.keep _ _ n hp,dJ.mono f q⟩
 | .tup _,_,h=>by obtain⟨p,vs,e,n,hp,q⟩:=h;exact⟨p,vs,e,f.notin n hp,f.keep _ _ n hp,dJ.mono f q⟩
 | .dic _ _,_,h=>by obtain⟨p,kvs,vs,e,n,hp,q1,q2,q⟩:=h;exact⟨p,kvs,vs,e,f.notin n hp,f.keep _ _ n hp,q1,q2,dJ.mono f q⟩
 | .mr _,_,h=>by obtain⟨p,e,q⟩:=h;exact⟨p,f.get e,q⟩
 | .obj _ _ _,_,h=>by obtain⟨p,dx,fs,vs,e,n,hp,q1,q2,q⟩:=h;exact⟨p,dx,fs,vs,e,f.notin n hp,f.keep _ _ n hp,q1,q2,dJ.mono f q⟩
 | .fdc _ _,_,h=>by obtain⟨p,dx,fs,vs,e,n,hp,q1,q2,q⟩:=h;exact⟨p,dx,fs,vs,e,f.notin n hp,f.keep _ _ n hp,q1,q2,dJ.mono f q⟩
 | .fn _,_,h=>h
theorem dJ.mono {φ ee:List Addr}{H H':Hp}(f:Fr φ H ee H'):∀ {ds:List D} {vs:List V},dJ φ H ds vs->dJ ee H' ds vs
 | [],_,h=>h
 | _::_,_,h=>by obtain⟨v,r,e,h1,h2⟩:=h;exact⟨v,r,e,DIs.mono f h1,dJ.mono f h2⟩
end
theorem dJ.len {φ:List Addr}{H:Hp}:∀ {ds:List D} {vs:List V},dJ φ H ds vs->vs.length=ds.length
 | [],_,h=>by rw[show _=[]from h];rfl
 | d::ds,_,h=>by obtain⟨v,r,rfl,_,h2⟩:=h;rw[aG,aG,dJ.len h2]
theorem dJ.get {φ:List Addr}{H:Hp}:∀ {ds:List D} {vs:List V} {i:Nat} {d:D},dJ φ H ds vs->ds[i]?=some d->∃ v,vs[i]?=some v/\DIs φ H d v
 | [],_,i,d,h,e=>by simp at e
 | d::ds,_,0,d',h,e=>by obtain⟨v',r,rfl,h1,h2⟩:=h;simp at e;subst e;exact⟨v',rfl,h1⟩
 | d::ds,_,i+1,d',h,e=>by
  obtain⟨v',r,rfl,h1,h2⟩:=h
  obtain⟨v,e1,e2⟩:=dJ.get (i:=i) h2 (by simpa using e)
  exact⟨v,by simpa using e1,e2⟩
theorem dJ.getV {φ:List Addr}{H:Hp}{ds:List D}{vs:List V}{i:Nat}{v:V}(h:dJ φ H ds vs)(e:vs[i]?=some v):∃ d,ds[i]?=some d/\DIs φ H d v:=by
 have hl:=h.len
 have hi:=(gxB e).1
 obtain⟨u,e1,e2⟩:=h.get (d:=ds[i]'(by omega)) (gxA (by omega))
 rw[e]at e1;cases e1
 exact⟨_,gxA (by omega),e2⟩
theorem dJ.app {φ:List Addr}{H:Hp}:∀ {ds es:List D} {vs us:List V},dJ φ H ds vs->dJ φ H es us->dJ φ H (ds++es) (vs++us)
 | [],_,_,_,h,g=>by rw[show _=[]from h];exact g
 | d::ds,es,_,us,h,g=>by obtain⟨v,r,rfl,h1,h2⟩:=h;exact⟨v,r++us,rfl,h1,h2.app g⟩
theorem dJ.take {φ:List Addr}{H:Hp}:∀ {ds:List D} {vs:List V} (n:Nat),dJ φ H ds vs->dJ φ H (ds.take n) (vs.take n)
 | _,_,0,_=>rfl
 | [],_,n+1,h=>by rw[show _=[]from h];rfl
 | d::ds,_,n+1,h=>by obtain⟨v,r,rfl,h1,h2⟩:=h;exact⟨v,r.take n,rfl,h1,h2.take n⟩
theorem dJ.drop {φ:List Addr}{H:Hp}:∀ {ds:List D} {vs:List V} (n:Nat),dJ φ H ds vs->dJ φ H (ds.drop n) (vs.drop n)
 | _,_,0,h=>h
 | [],_,n+1,h=>by rw[show _=[]from h];rfl
 | d::ds,_,n+1,h=>by obtain⟨v,r,rfl,h1,h2⟩:=h;exact h2.drop n
theorem dJ.set {φ:List Addr}{H:Hp}{d:D}{v:V}(hd:DIs φ H d v):∀ {ds:List D} {vs:List V} (n:Nat),dJ φ H ds vs->dJ φ H (ds.set n d) (vs.set n v)
 | [],_,n,h=>by rw[show _=[]from h];cases n <;> rfl
 | e::ds,_,0,h=>by obtain⟨w,r,rfl,h1,h2⟩:=h;exact⟨v,r,rfl,hd,h2⟩
 | e::ds,_,n+1,h=>by obtain⟨w,r,rfl,h1,h2⟩:=h;exact⟨w,r.set n v,rfl,h1,h2.set hd n⟩
theorem dJ.bls {φ:List Addr}{H:Hp}:∀ {ns:List Bool} {vs:List V},dJ φ H (ns.map D.bl) vs->vs=ns.map V.bl
 | [],_,h=>h
 | n::ns,_,h=>by obtain⟨v,r,rfl,h1,h2⟩:=h;rw[show v=.bl n from h1,dJ.bls h2];rfl
theorem dJ.strs {φ:List Addr}{H:Hp}:∀ {ns:List Str} {vs:List V},dJ φ H (ns.map D.str) vs->vs=ns.map V.str
 | [],_,h=>h
 | n::ns,_,h=>by obtain⟨v,r,rfl,h1,h2⟩:=h;rw[show v=.str n from h1,dJ.strs h2];rfl
def BxF (φ:List Addr)(H:Hp)(b:Addr):Prop:=∃(q:Addr) (ns:List Int) (i r z:Int),H b=some (.lst [.ref q,.int i,.int r,.int z])/\H q=some (.lst (ns.map V.int))/\q∉φ/\0<=i/\0<=z/\z<2147483647
def ExcIs (p:Addr)(c:Value)(h:Heap):Prop:=∃ oe vs,h.get? p=some oe/\oe.cls=c/\oe.dict=none/\oe.data=.fields vs/\vs[2]?=some .none
def MoIs (φ:List Addr)(H:Hp):MO->Addr->Prop
 | .box,p=>BxF φ H p
 | .lst ds,p=>∃ vs,H p=some (.lst vs)/\dJ φ H ds vs
 | .dic ks ds,p=>∃ kvs vs,H p=some (.dK kvs)/\kvs.map (·.1)=ks/\vs=kvs.map (·.2)/\dJ φ H ds vs
 | .fdic o kvs ds,p=>H p=some (.frz o (.dK kvs))/\dJ φ H ds (kvs.map (·.2))
 | .ins C ns ds,p=>∃ dx fs,H p=some (.ins C dx fs)/\fs.map (·.1)=ns/\dJ φ H ds (fs.map (·.2))
 | .dtu ks ds,p=>∃ kvs,H p=some (.dT kvs)/\kvs.map (·.1)=ks/\dJ φ H ds (kvs.map (·.2))
 | .gx eE H0,p=>Fr eE H0 φ H/\H p=H0 p/\(∃ o,H p=some o)/\∀ zs,H p≠some (.tup zs)
 | .exc c,p=>H p=some (.ext (ExcIs p c))
structure dZ (φ:List Addr)(H:Hp)(μ:MS):Prop where
 nd:φ.Nodup
 len:φ.length=μ.length
 at_:∀(k:Nat) (m:MO),μ[k]?=some m->∃ p,φ[k]?=some p/\MoIs φ H m p
theorem MoIs.mono {φ ee:List Addr}{H H':Hp}(f:Fr φ H ee H'){m:MO}{p:Addr}(s:∀ o,H p=some o->H' p=some o)(h:MoIs φ H m p):MoIs ee H' m p:=by
 cases m with
 | box=>obtain⟨q,ns,i,r,z,h1,h2,h3,h4⟩:=h;exact⟨q,ns,i,r,z,s _ h1,f.keep _ _ h3 h2,f.notin h3 h2,h4⟩
 | lst ds=>obtain⟨vs,h1,h2⟩:=h;exact⟨vs,s _ h1,h2.mono f⟩
 | dic ks ds=>obtain⟨kvs,vs,h1,h2,h3,h4⟩:=h;exact⟨kvs,vs,s _ h1,h2,h3,h4.mono f⟩
 | fdic o kvs ds=>exact⟨s _ h.1,h.2.mono f⟩
 | ins C ns ds=>obtain⟨dx,fs,h1,h2,h3⟩:=h;exact⟨dx,fs,s _ h1,h2,h3.mono f⟩
 | dtu ks ds=>obtain⟨kvs,h1,h2,h3⟩:=h;exact⟨kvs,s _ h1,h2,h3.mono f⟩
 | gx eE H0=>obtain⟨h1,h2,⟨o,h3⟩,h4⟩:=h;exact⟨h1.trans f,(s _ h3).trans (h3.symm.trans h2),⟨o,s _ h3⟩,fun zs e=>h4 zs (h3.trans ((s _ h3).symm.trans e))⟩
 | exc c=>exact s _ h
theorem MoIs.ex {φ:List Addr}{H:Hp}{m:MO}{p:Addr}(h:MoIs φ H m p):∃ o,H p=some o:=by
 cases m with
 | box=>obtain⟨q,ns,i,r,z,h1,_⟩:=h;exact⟨_,h1⟩
 | lst ds=>obtain⟨vs,h1,_⟩:=h;exact⟨_,h1⟩
 | dic ks ds=>obtain⟨kvs,vs,h1,_⟩:=h;exact⟨_,h1⟩
 | fdic o kvs ds=>exact⟨_,h.1⟩
 | ins C ns ds=>obtain⟨dx,fs,h1,_⟩:=h;exact⟨_,h1⟩
 | dtu ks ds=>obtain⟨kvs,h1,_⟩:=h;exact⟨_,h1⟩
 | gx eE H0=>exact h.2.2.1
 | exc c=>exact⟨_,h⟩
theorem dZ.same {φ:List Addr}{H H':Hp}{μ:MS}(h:dZ φ H μ)(s:Same H H'):dZ φ H' μ :=
 ⟨h.nd,h.len,fun k m e=>let ⟨p,e1,e2⟩:=h.at_ k m e;⟨p,e1,e2.mono (.same s) fun o q=>s _ _ q⟩⟩
theorem dZ.mem {φ:List Addr}{H:Hp}{μ:MS}(h:dZ φ H μ){p:Addr}(hp:p∈φ):∃ o,H p=some o:=by
 obtain⟨k,hk,e⟩:=bQ hp
 obtain⟨q,e1,e2⟩:=h.at_ k (μ[k]'(by have:=h.len;omega)) (gxA _)
 rw[gxA hk,e]at e1
 cases e1
 exact e2.ex
theorem dZ.fresh {φ:List Addr}{H:Hp}{μ:MS}(h:dZ φ H μ){p:Addr}(hp:H p=none):p∉φ:=fun q=>by
 obtain⟨o,e⟩:=h.mem q
 rw[hp]at e;cases e
theorem dZ.snoc {φ:List Addr}{H:Hp}{μ:MS}{m:MO}{p:Addr}{o:HO}(h:dZ φ H μ)(hp:H p=none)(hm:MoIs (φ++[p]) (upd H p o) m p):dZ (φ++[p]) (upd H p o) (μ++[m])/\Fr φ H (φ++[p]) (upd H p o):=by
 have f1:Fr φ H (φ++[p]) H:=.snoc hp
 have f:Fr φ H (φ++[p]) (upd H p o):=⟨f1.ext,fun c u hc e=>Same.upd hp _ _ e,fun c e=>(Same.upd hp).free e⟩
 refine⟨⟨?_,by rw[gxE,gxE,h.len];rfl,fun k n e=>?_⟩,f⟩
 ·rw[bC]
  exact⟨h.nd,by simp,fun a ha b hb=>by rw[List.mem_singleton.mp hb];intro z;exact h.fresh hp (by rw[<- z];exact ha)⟩
 ·by_cases hk:k<μ.length
  ·rw[gxF hk]at e
   obtain⟨q,e1,e2⟩:=h.at_ k n e
   exact⟨q,f.get e1,e2.mono f fun u eu=>Same.upd hp _ _ eu⟩
  ·have hk':k=μ.length:=by
    have:=(gxB e).1
    rw[gxE,aO]at this
    omega
   subst hk'
   rw[gxG (aa _),aQ]at e
   cases e
   exact⟨p,by rw[gxG (by rw[h.len];exact aa _),h.len,aQ];rfl,hm⟩
theorem dZ.put {φ:List Addr}{H:Hp}{μ:MS}{m:MO}{p:Addr}{o:HO}{k:Nat}(h:dZ φ H μ)(hk:φ[k]?=some p)(hm:MoIs φ (upd H p o) m p):dZ φ (upd H p o) (μ.set k m):=by
 have hp:p∈φ:=gxD hk
 have f:Fr φ H φ (upd H p o):=.put hp
 refine⟨h.nd,by rw[aK];exact h.len,fun j n e=>?_⟩
 by_cases hj:k=j
 ·subst hj
  have hl:k<μ.length:=by have:=(gxB hk).1;have:=h.len;omega
  rw[az hl]at e
  cases e
  exact⟨p,hk,hm⟩
 ·rw[ak hj]at e
  obtain⟨q,e1,e2⟩:=h.at_ j n e
  refine⟨q,e1,e2.mono f fun u eu=>?_⟩
  rw[dQ]
  ·exact eu
  ·intro z
   subst z
   have a1:=gxB hk
   have a2:=gxB e1
   obtain⟨i1,r1⟩:=a1
   obtain⟨i2,r2⟩:=a2
   rcases Nat.lt_or_gt_of_ne hj with z | z
   ·exact List.pairwise_iff_getElem.mp h.nd k j i1 i2 z (r1.trans r2.symm)
   ·exact List.pairwise_iff_getElem.mp h.nd j k i2 i1 z (r2.trans r1.symm)
def DEnv (φ:List Addr)(H:Hp)(ρ:DE)(σ:St):Prop:=ρ.length=σ.length/\∀(i:Nat) (d:D),ρ[i]?=some (some d)->∃ v,σ[i]?=some (some v)/\DIs φ H d v
theorem DEnv.mono {φ ee:List Addr}{H H':Hp}{ρ:DE}{σ:St}(f:Fr φ H ee H')(h:DEnv φ H ρ σ):DEnv ee H' ρ σ:=⟨h.1,fun i d e=>let ⟨v,a,b⟩:=h.2 i d e;⟨v,a,b.mono f⟩⟩
theorem DEnv.set {φ:List Addr}{H:Hp}{ρ:DE}{σ:St}{d:D}{v:V}(h:DEnv φ H ρ σ)(hd:DIs φ H d v)(i:Nat):DEnv φ H (ρ.set i (some d)) (σ.set i (some v)):=by
 refine⟨by rw[aK,aK];exact h.1,fun j e hj=>?_⟩
 by_cases hij:i=j
 ·subst hij
  have hl:i<ρ.length:=by have:=(gxB hj).1;rwa [aK]at this
  rw[az hl]at hj
  cases hj
  exact⟨v,az (by rw[<- h.1];exact hl),hd⟩
 ·rw[ak hij]at hj
  obtain⟨u,a,b⟩:=h.2 j e hj
  exact⟨u,by rw[ak hij];exact a,b⟩
def lv (μ:MS):D->Option (List D)
 | .lst ds=>some ds
 | .mr k=>lvM μ k
 | _=>none
def lc:D->List D->MS->Prop
 | .mr k,ds=>fun μ=>lvM μ k=some ds
 | _,_=>fun _=>True
theorem lv_is {φ:List Addr}{H:Hp}{μ:MS}{d:D}{v:V}{ds:List D}(M:dZ φ H μ)(i:DIs φ H d v)(h:lv μ d=some ds):∃ p vs,v=.ref p/\H p=some (.lst vs)/\dJ φ H ds vs:=by
 cases d with
 | lst es=>cases h;obtain⟨p,vs,rfl,_,hp,ha⟩:=i;exact⟨p,vs,rfl,hp,ha⟩
 | mr k =>
  obtain⟨p,hp,rfl⟩:=i
  have e:=lvM_eq (show lvM μ k=some ds from h)
  obtain⟨q,e1,vs,hv,ha⟩:=M.at_ k _ e
  rw[hp]at e1;cases e1
  exact⟨p,vs,rfl,hv,ha⟩
 | _=>cases h
theorem lv_stay {φ ee:List Addr}{H H':Hp}{μ μ':MS}{d:D}{p:Addr}{ds:List D}(M:dZ φ H μ)(i:DIs φ H d (.ref p))(h:lv μ d=some ds)(f:Fr φ H ee H')(M':dZ ee H' μ')(c:lc d ds μ'):∃ vs,H' p=some (.lst vs)/\dJ ee H' ds vs:=by
 cases d with
 | lst es=>cases h;obtain⟨p',vs,e,n,hp,ha⟩:=i;cases e;exact⟨vs,f.keep _ _ n hp,ha.mono f⟩
 | mr k =>
  obtain⟨p',hp,e⟩:=i
  cases e
  obtain⟨q,e1,vs,hv,ha⟩:=M'.at_ k _ (lvM_eq c)
  rw[f.get hp]at e1;cases e1
  exact⟨vs,hv,ha⟩
 | _=>cases h
abbrev DK:=D->MS->Prop
abbrev De:=DE->MS->DK->Prop
abbrev DA:=DE->MS->(List D->MS->Prop)->Prop
abbrev Dt:=DE->MS->(Bool->MS->Prop)->Prop
def Lif (φ:List Addr)(H:Hp)(K:DK)(Q:VK):Prop:=∀ d μ' ee v H',K d μ'->Fr φ H ee H'->dZ ee H' μ'->DIs ee H' d v->Q v H'
theorem Lif.mono {φ d9:List Addr}{H H1:Hp}{K:DK}{Q:VK}(h:Lif φ H K Q)(f:Fr φ H d9 H1):Lif d9 H1 K Q:=fun d μ' ee v H' k g m i=>h d μ' ee v H' k (f.trans g) m i
def tD (w:De):TE:=fun σ H Q=>∃ φ ρ μ K,DEnv φ H ρ σ/\dZ φ H μ/\w ρ μ K/\Lif φ H K Q
def tDA (w:DA):TA:=fun σ H Q=>∃ φ ρ μ K,DEnv φ H ρ σ/\dZ φ H μ/\w ρ μ K/\∀ ds μ' ee vs H',K ds μ'->Fr φ H ee H'->dZ ee H' μ'->dJ ee H' ds vs->Q vs H'
def tDT (w:Dt):TT:=fun σ H Q=>∃ φ ρ μ K,DEnv φ H ρ σ/\dZ φ H μ/\w ρ μ K/\∀ b μ' ee H',K b μ'->Fr φ H ee H'->dZ ee H' μ'->Q b H'
section
variable {X:Cx}{a b e:Expr}{pos:Pos}
abbrev PD (X:Cx)(e:Expr)(w:De):Prop:=PE X e (tD w)
def dVar (i:Nat):De:=fun ρ μ K=>match ρ[i]? with | some (some d)=>K d μ | _=>False
def dC (d:D):De:=fun _ μ K=>K d μ
theorem dv (i:Nat){x:Str}{pos:Pos}(hN:X.N[i]?=some x:=by rfl)(hv:Vis X.env.scope x:=by first | exact Or.inl rfl | exact Or.inr (Or.inl rfl) | exact Or.inr (Or.inr rfl))(hd:(x==("__debug__" : Str))=false:=by decide)
 (hcd:(x==("__classdict__" : Str))=false:=by decide):PD X (.Name x pos) (dVar i):=(pe_var (i:=i) hN hv hd hcd).imp fun σ H Q q=>by
 obtain⟨φ,ρ,μ,K,E,M,w,L⟩:=q
 unfold dVar at w
 split at w
 ·rename_i d hd
  obtain⟨v,e,r⟩:=E.2 i d hd
  exact⟨v,e,L d μ φ v H w (.refl _ _) M r⟩
 ·exact w.elim
theorem dn {i j pos}:PD X (.Constant (.int i) j pos) (dC (.int i)):=fm.imp fun σ H Q hq5=>by obtain⟨φ,ρ,μ,K,E,M,w,L⟩:=hq5;exact L _ _ φ _ H w (.refl _ _) M rfl
theorem d_bl {b j pos}:PD X (.Constant (.bool b) j pos) (dC (.bl b)):=pe_bl.imp fun σ H Q hq6=>by obtain⟨φ,ρ,μ,K,E,M,w,L⟩:=hq6;exact L _ _ φ _ H w (.refl _ _) M rfl
theorem d_non {j pos}:PD X (.Constant .none j pos) (dC .fB):=pe_non.imp fun σ H Q hq0=>by obtain⟨φ,ρ,μ,K,E,M,w,L⟩:=hq0;exact L _ _ φ _ H w (.refl _ _) M rfl
theorem dt {x j pos}:PD X (.Constant (.str x) j pos) (dC (.str x)):=pe_str.imp fun σ H Q hq1=>by obtain⟨φ,ρ,μ,K,E,M,w,L⟩:=hq1;exact L _ _ φ _ H w (.refl _ _) M rfl
abbrev DOp:=D->D->MS->DK->Prop
def dOp (ro:DOp)(wa wb:De):De:=fun ρ μ K=>wa ρ μ fun x dF=>wb ρ dF fun y eV=>ro x y eV K
def SoOp (r:R2)(ro:DOp):Prop:=∀ φ H x y dx dy μ K Q,dZ φ H μ->DIs φ H dx x->DIs φ H dy y->ro dx dy μ K->Lif φ H K Q->r x y H Q
theorem tD_op {r:R2}{ro:DOp}{wa wb:De}(so:SoOp r ro){σ:St}{H:Hp}{Q:VK}(h:tD (dOp ro wa wb) σ H Q):tOp r (tD wa) (tD wb) σ H Q:=by
 obtain⟨φ,ρ,μ,K,E,M,w,L⟩:=h
 refine⟨φ,ρ,μ,_,E,M,w,fun d1 dF d9 v1 H1 k1 f1 M1 i1=>?_⟩
 refine⟨d9,ρ,dF,_,E.mono f1,M1,k1,fun d2 eV φ2 v2 H2 k2 f2 M2 i2=>?_⟩
 exact so φ2 H2 v1 v2 d1 d2 eV K Q M2 (i1.mono f2) i2 k2 (L.mono (f1.trans f2))
theorem d_op {op:Operator}{r:R2}{ro:DOp}{wa wb:De}(h:OpR X (binaryOp op) r)(so:SoOp r ro)(ha:PD X a wa)(hb:PD X b wb):PD X (.BinOp a op b pos) (dOp ro wa wb):=(pe_op h ha hb).imp fun σ H Q q=>tD_op so q
theorem d_cmp {op:CmpOp}{r:R2}{ro:DOp}{wa wb:De}(h:OpR X (compareOp op) r)(so:SoOp r ro)(ha:PD X a wa)(hb:PD X b wb)(hm:behindInMarks op b=false):PD X (.Compare a [op] [b] pos) (dOp ro wa wb):=(pe_cmpR h ha hb hm).imp fun σ H Q q=>tD_op so q
theorem d_ix {r:R2}{ro:DOp}{wa wb:De}(h:IxR X r)(so:SoOp r ro)(ha:PD X a wa)(hb:PD X b wb)(hs:PlainIx b):PD X (.Subscript a b pos) (dOp ro wa wb):=(pe_ix h ha hb hs).imp fun σ H Q q=>tD_op so q
def dTst (w:De):Dt:=fun ρ μ K=>w ρ μ fun d μ'=>match d with | .bl b=>K b μ' | _=>False
theorem tD_bool {w:De}{σ:St}{H:Hp}{Q:Bool->Hp->Prop}(h:tDT (dTst w) σ H Q):cB (tD w) σ H Q:=by
 obtain⟨φ,ρ,μ,K,E,M,k,L⟩:=h
 refine⟨φ,ρ,μ,_,E,M,k,fun d μ' ee v H' k' f M' i=>?_⟩
 cases d with
 | bl b=>cases(show v=_ from i);exact L b μ' ee H' k' f M'
 | _=>exact k'.elim
theorem d_testV {w:De}(h:PD X e w)(he:∀ whole,isTrue e X.env whole=(do let v <- whole;standAt e.pos;holding [v] (truthy v)):=by intro _;rfl):PT X e (tDT (dTst w)):=(pt_valC h he).imp fun σ H Q q=>tD_bool q
theorem d_testC {op:CmpOp}{r:R2}{ro:DOp}{wa wb:De}(h:OpR X (compareOp op) r)(so:SoOp r ro)(ha:PD X a wa)(hb:PD X b wb)(hm:behindInMarks op b=false):PT X (.Compare a [op] [b] pos) (tDT (dTst (dOp ro wa wb))) :=
 (pt_cmpC h ha hb hm).imp fun σ H Q q=>by
  obtain⟨φ,ρ,μ,K,E,M,k,L⟩:=q
  refine tD_op so ⟨φ,ρ,μ,_,E,M,k,fun d μ' ee v H' k' f M' i=>?_⟩
  cases d with
  | bl b=>cases(show v=_ from i);exact L b μ' ee H' k' f M'
  | _=>exact k'.elim
def dIsN (neg:Bool)(w:De):De:=fun ρ μ K=>w ρ μ fun d μ'=>match d with | .fB=>K (.bl (!neg)) μ' | _=>K (.bl neg) μ'
theorem isN_of {φ:List Addr}{H:Hp}{d:D}{v:V}(i:DIs φ H d v):decide (v=V.fB)=(match d with | .fB=>true | _=>false):=by
 cases d with
 | fB=>cases(show v=_ from i);rfl
 | bl _=>cases(show v=_ from i);rfl
 | int _=>cases(show v=_ from i);rfl
 | str _=>cases(show v=_ from i);rfl
 | lst _=>obtain⟨p,vs,rfl,_⟩:=i;rfl
 | tup _=>obtain⟨p,vs,rfl,_⟩:=i;rfl
 | dic _ _=>obtain⟨p,kvs,vs,rfl,_⟩:=i;rfl
 | mr _=>obtain⟨p,_,rfl⟩:=i;rfl
 | obj _ _ _=>obtain⟨p,dx,fs,vs,rfl,_⟩:=i;rfl
 | fdc _ _=>obtain⟨p,dx,fs,vs,rfl,_⟩:=i;rfl
 | fn _=>cases(show v=_ from i);rfl
theorem tD_isN {w:De}{σ:St}{H:Hp}{Q:VK}(h:tD (dIsN false w) σ H Q):tIsN (tD w) σ H Q:=by
 obtain⟨φ,ρ,μ,K,E,M,k,L⟩:=h
 refine⟨φ,ρ,μ,_,E,M,k,fun d μ' ee v H' k' f M' i=>?_⟩
 show Q (.bl _) H'
 rw[isN_of i]
 cases d <;> exact L _ μ' ee _ H' k' f M' rfl
theorem tD_notN {w:De}{σ:St}{H:Hp}{Q:VK}(h:tD (dIsN true w) σ H Q):tNotN (tD w) σ H Q:=by
 obtain⟨φ,ρ,μ,K,E,M,k,L⟩:=h
 refine⟨φ,ρ,μ,_,E,M,k,fun d μ' ee v H' k' f M' i=>?_⟩
 show Q (.bl _) H'
 rw[isN_of i]
 cases d <;> exact L _ μ' ee _ H' k' f M' rfl
end
end L2
namespace L2
open PySem PySem.Spec PyProof.Rows
section
variable {X:Cx}{a b e:Expr}{es:List Expr}{pos:Pos}
theorem PA.imp {es:List Expr}{t t':TA}(h:PA X es t)(hi:∀ σ H Q,t' σ H Q->t σ H Q):PA X es t':=fun pos pins s σ H Q I q=>h pos pins s σ H Q I (hi σ H Q q)
theorem PSs.imp {st:List Stmt}{t t':TS}(h:PSs X st t)(hi:∀ D σ H,t' D σ H->t D σ H):PSs X st t':=fun pins s σ H D I q=>h pins s σ H D I (hi D σ H q)
def dNil:DA:=fun _ μ K=>K [] μ
def dCons (wa:De)(wr:DA):DA:=fun ρ μ K=>wa ρ μ fun x dF=>wr ρ dF fun xs eV=>K (x::xs) eV
abbrev PDA (X:Cx)(es:List Expr)(w:DA):Prop:=PA X es (tDA w)
theorem da_nil:PDA X [] dNil:=pa_nil.imp fun σ H Q hq2=>by obtain⟨φ,ρ,μ,K,E,M,w,L⟩:=hq2;exact L [] μ φ [] H w (.refl _ _) M rfl
theorem dm {wa:De}{wr:DA}(ha:PD X e wa)(hr:PDA X es wr)(hs:starEach (e::es) X.env=(false,eval e X.env)::starEach es X.env:=by rfl):PDA X (e::es) (dCons wa wr):=(dN ha hr hs).imp fun σ H Q q=>by
 obtain⟨φ,ρ,μ,K,E,M,w,L⟩:=q
 refine⟨φ,ρ,μ,_,E,M,w,fun d1 dF d9 v1 H1 k1 f1 M1 i1=>?_⟩
 refine⟨d9,ρ,dF,_,E.mono f1,M1,k1,fun ds eV φ2 vs H2 k2 f2 M2 i2=>?_⟩
 exact L _ eV φ2 _ H2 k2 (f1.trans f2) M2 ⟨v1,vs,rfl,i1.mono f2,i2⟩
theorem al_lst {φ:List Addr}{H:Hp}{μ:MS}{K:DK}{Q:VK}{ds:List D}{vs:List V}{p:Addr}(L:Lif φ H K Q)(M:dZ φ H μ)(h:dJ φ H ds vs)(k:K (.lst ds) μ)(hp:H p=none):Q (.ref p) (upd H p (.lst vs)) :=
 L _ μ φ _ _ k (.new hp) (M.same (Same.upd hp)) ⟨p,vs,rfl,M.fresh hp,dE,h.mono (.new hp)⟩
theorem al_tup {φ:List Addr}{H:Hp}{μ:MS}{K:DK}{Q:VK}{ds:List D}{vs:List V}{p:Addr}(L:Lif φ H K Q)(M:dZ φ H μ)(h:dJ φ H ds vs)(k:K (.tup ds) μ)(hp:H p=none):Q (.ref p) (upd H p (.tup vs)) :=
 L _ μ φ _ _ k (.new hp) (M.same (Same.upd hp)) ⟨p,vs,rfl,M.fresh hp,dE,h.mono (.new hp)⟩
theorem al_mr {φ:List Addr}{H:Hp}{μ:MS}{K:DK}{Q:VK}{ds:List D}{vs:List V}{p:Addr}(L:Lif φ H K Q)(M:dZ φ H μ)(h:dJ φ H ds vs)(k:K (.mr μ.length) (μ++[.lst ds]))(hp:H p=none):Q (.ref p) (upd H p (.lst vs)):=by
 have f:Fr φ H (φ++[p]) (upd H p (.lst vs)):=⟨(Fr.snoc (φ:=φ) hp).ext,fun c u _ e=>Same.upd hp _ _ e,fun c e=>(Same.upd hp).free e⟩
 obtain⟨M',_⟩:=M.snoc (m:=.lst ds) (o:=.lst vs) hp ⟨vs,dE,h.mono f⟩
 exact L _ _ _ _ _ k f M' ⟨p,by rw[gxG (by rw[M.len];exact aa _),M.len,aQ];rfl,rfl⟩
def nL (m:Bool)(ds:List D)(μ:MS)(K:DK):Prop:=match m with | false=>K (.lst ds) μ | true=>K (.mr μ.length) (μ++[.lst ds])
theorem al_n {m:Bool}{φ:List Addr}{H:Hp}{μ:MS}{K:DK}{Q:VK}{ds:List D}{vs:List V}{p:Addr}(L:Lif φ H K Q)(M:dZ φ H μ)(h:dJ φ H ds vs)(k:nL m ds μ K)(hp:H p=none):Q (.ref p) (upd H p (.lst vs)):=by
 cases m with
 | false=>exact al_lst L M h k hp
 | true=>exact al_mr L M h k hp
def dLst (m:Bool)(w:DA):De:=fun ρ μ K=>w ρ μ fun ds dF=>ds.length<=sizeLine/\nL m ds dF K
def dTup (w:DA):De:=fun ρ μ K=>w ρ μ fun ds dF=>ds.length<=sizeLine/\K (.tup ds) dF
theorem d_lst {w:DA}(m:Bool)(h:PDA X es w):PD X (.List es pos) (dLst m w):=(pe_lst h).imp fun σ H Q ⟨φ,ρ,μ,K,E,M,w,L⟩ =>
 ⟨φ,ρ,μ,_,E,M,w,fun ds dF d9 vs H1 k1 f1 M1 i1=>⟨by rw[i1.len];exact k1.1,fun p hp=>al_n (L.mono f1) M1 i1 k1.2 hp⟩⟩
theorem d_tup {w:DA}{x1}(h:PDA X es w):PD X (.Tuple es x1 pos) (dTup w):=(pe_tup h).imp fun σ H Q ⟨φ,ρ,μ,K,E,M,w,L⟩ =>
 ⟨φ,ρ,μ,_,E,M,w,fun ds dF d9 vs H1 k1 f1 M1 i1=>⟨by rw[i1.len];exact k1.1,fun p hp=>al_tup (L.mono f1) M1 i1 k1.2 hp⟩⟩
abbrev DSp:=List D->MS->DK->Prop
def spD (f:DSp):Sp:=fun vs H Q _=>∃ φ ds μ K,dJ φ H ds vs/\dZ φ H μ/\f ds μ K/\Lif φ H K Q
def dCall (f:DSp)(w:DA):De:=fun ρ μ K=>w ρ μ fun ds dF=>f ds dF K
theorem d_call {f:DSp}{w:DA}{x:Str}{p:Pos}{k:Nat}{ps:List Str}(C:Cal X.prog X.w X.K X.mg X.base x k ps (spD f))(hr:Room k X.A)(hg:Gl X x)(ha:PDA X (e::es) w)
 (hdb:(x==("__debug__" : Str))=false:=by decide) (he:starEach (e::es) X.env=(false,eval e X.env)::starEach es X.env:=by rfl) (hpl:(backTo pos (starEach es X.env)).any (·.1)=false:=by rfl) :
 PD X (.Call (.Name x p) (e::es) [] pos) (dCall f w):=(pe_callC C hr hg ha hdb he hpl).imp fun σ H Q ⟨φ,ρ,μ,K,E,M,w,L⟩ =>
 ⟨φ,ρ,μ,_,E,M,w,fun ds dF d9 vs H1 k1 f1 M1 i1=>by show spD f (vs++[]) H1 Q E0;rw[aP];exact⟨d9,ds,dF,K,i1,M1,k1,L.mono f1⟩⟩
def SoCall (r:List V->Hp->VK->Prop)(f:DSp):Prop:=∀ φ H vs ds μ K Q,dZ φ H μ->dJ φ H ds vs->f ds μ K->Lif φ H K Q->r vs H Q
theorem tD_cb {r:List V->Hp->VK->Prop}{f:DSp}{w:DA}(so:SoCall r f){σ:St}{H:Hp}{Q:VK}(h:tD (dCall f w) σ H Q):tCB r (tDA w) σ H Q:=by
 obtain⟨φ,ρ,μ,K,E,M,w,L⟩:=h
 exact⟨φ,ρ,μ,_,E,M,w,fun ds dF d9 vs H1 k1 f1 M1 i1=>so d9 H1 vs ds dF K Q M1 i1 k1 (L.mono f1)⟩
theorem d_blt {r:List V->Hp->VK->Prop}{f:DSp}{w:DA}{id:String}{x:Str}{p:Pos}(hc:CallR X (.builtin id) r)(so:SoCall r f)(hg:Gl X x)(hm:X.mg x=none)(hv:bootBuiltins x=some (.builtin id))(ha:PDA X (e::es) w)(hn:x ≠ "__name__":=by decide)(hdb:(x==("__debug__" : Str))=false:=by decide)
 (he:starEach (e::es) X.env=(false,eval e X.env)::starEach es X.env:=by rfl) (hpl:(backTo pos (starEach es X.env)).any (·.1)=false:=by rfl):PD X (.Call (.Name x p) (e::es) [] pos) (dCall f w) :=
 (eZ hc hg hm hv ha hn hdb he hpl).imp fun σ H Q q=>tD_cb so q
theorem d_ty {r:List V->Hp->VK->Prop}{f:DSp}{w:DA}{T:String}{x:Str}{p:Pos}(hc:CallR X (.type T) r)(so:SoCall r f)(hg:Gl X x)(hm:X.mg x=none)(hv:bootBuiltins x=some (.type T))(ha:PDA X (e::es) w)(hn:x ≠ "__name__":=by decide)(hdb:(x==("__debug__" : Str))=false:=by decide)
 (he:starEach (e::es) X.env=(false,eval e X.env)::starEach es X.env:=by rfl) (hpl:(backTo pos (starEach es X.env)).any (·.1)=false:=by rfl):PD X (.Call (.Name x p) (e::es) [] pos) (dCall f w) :=
 (pe_callTy hc hg hm hv ha hn hdb he hpl).imp fun σ H Q q=>tD_cb so q
abbrev DMt:=D->List D->MS->DK->Prop
def SoMt (K:PySem.W.Frag)(T:String)(r:V->List V->Hp->VK->Prop)(f:DMt):Prop:=∀ φ H x vs d ds μ K' Q,dZ φ H μ->DIs φ H d x->dJ φ H ds vs->f d ds μ K'->Lif φ H K' Q->r x vs H Q
def TyD (T:String)(μ:MS):D->Prop
 | .str _=>T = "str"
 | .lst _=>T = "list"
 | .dic _ _=>T = "dict"
 | .mr k=>match μ[k]? with | some (.lst _)=>T = "list" | some (.dic _ _)=>T = "dict" | _=>False
 | _=>False
theorem TyD.is {Kf:PySem.W.Frag}{T:String}{φ:List Addr}{H:Hp}{μ:MS}{d:D}{v:V}(M:dZ φ H μ)(i:DIs φ H d v)(h:TyD T μ d):tyV Kf T v H:=by
 cases d with
 | str z=>cases(show v=_ from i);exact h
 | lst ds=>obtain⟨p,vs,rfl,_,hp,_⟩:=i;exact .inl ⟨h,vs,SqL.of hp⟩
 | dic ks ds=>obtain⟨p,kvs,vs,rfl,_,hp,_⟩:=i;exact .inr (.inr (.inl ⟨h,.inl ⟨kvs,hp⟩⟩))
 | mr k =>
  obtain⟨p,hp,rfl⟩:=i
  unfold TyD at h
  dsimp only at h
  cases e:μ[k]? with
  | none=>rw[e]at h;exact h.elim
  | some m =>
   obtain⟨q,e1,e2⟩:=M.at_ k m e
   rw[hp]at e1;cases e1
   rw[e]at h
   cases m with
   | box=>exact h.elim
   | lst ds=>obtain⟨vs,hv,_⟩:=e2;exact .inl ⟨h,vs,SqL.of hv⟩
   | dic ks ds=>obtain⟨kvs,vs,hv,_⟩:=e2;exact .inr (.inr (.inl ⟨h,.inl ⟨kvs,hv⟩⟩))
   | _=>exact h.elim
 | _=>exact(show False from h).elim
def dMt (T:String)(f:DMt)(wo:De)(w:DA):De:=fun ρ μ K=>wo ρ μ fun x dF=>TyD T dF x/\w ρ dF fun ds eV=>f x ds eV K
theorem d_mt {o:Expr}{name:Str}{apos cpos:Pos}{T id:String}{r:V->List V->Hp->VK->Prop}{f:DMt}{wo:De}{w:DA}(pa:PlainAttrs T)(slot:Slot T name id)(hty:typeOf (.builtin id)=pure (.type "method_descriptor"))(hm:MtR X id r)(so:SoMt X.K T r f)(ho:PD X o wo)(ha:PDA X (e::es) w)
 (hbase:attributeBase o name X.env (eval o X.env)=eval o X.env:=by rfl)
 (hfew:((backTo cpos (starEach (e::es) X.env)).all (fun x=>!x.1)&&(backToKw cpos (keywordEach [] X.env)).all (fun x=>x.1.isSome)
   && decide ((e::es).length+([]:List Keyword).length+(if([]:List Keyword).isEmpty then 0 else 1)<30))=true:=by rfl)
 (hline:(apos.endLine==cpos.line)=true:=by rfl) (hs:starEach (e::es) X.env=(false,eval e X.env)::starEach es X.env:=by rfl) (hplain:(backTo cpos (starEach es X.env)).any (·.1)=false:=by rfl) :
 PD X (.Call (.Attribute o name apos) (e::es) [] cpos) (dMt T f wo w):=(pe_bm pa slot hty hm ho ha hbase hfew hline hs hplain).imp fun σ H Q q=>by
 obtain⟨φ,ρ,μ,K,E,M,w,L⟩:=q
 refine⟨φ,ρ,μ,_,E,M,w,fun d1 dF d9 v1 H1 k1 f1 M1 i1=>⟨TyD.is M1 i1 k1.1,?_⟩⟩
 exact⟨d9,ρ,dF,_,E.mono f1,M1,k1.2,fun ds eV φ2 vs H2 k2 f2 M2 i2=>so φ2 H2 v1 vs d1 ds eV K Q M2 (i1.mono f2) i2 k2 (L.mono (f1.trans f2))⟩
def dAnd (wa wb:De):De:=fun ρ μ K=>wa ρ μ fun x dF=>match x with | .bl c=>if c=true then wb ρ dF K else K (.bl false) dF | _=>False
def dNot (wa:De):De:=fun ρ μ K=>wa ρ μ fun x dF=>match x with | .bl c=>K (.bl (!c)) dF | _=>False
theorem d_and {rest:List Expr}{wa wb:De}(ha:PD X a wa)(hb:PD X (.BoolOp .And (b::rest) pos) wb):PD X (.BoolOp .And (a::b::rest) pos) (dAnd wa wb):=(pe_andC ha hb).imp fun σ H Q q=>by
 obtain⟨φ,ρ,μ,K,E,M,w,L⟩:=q
 refine⟨φ,ρ,μ,_,E,M,w,fun d1 dF d9 v1 H1 k1 f1 M1 i1=>?_⟩
 cases d1 with
 | bl c =>
  cases(show v1=_ from i1)
  cases c with
  | true=>exact⟨d9,ρ,dF,_,E.mono f1,M1,k1,L.mono f1⟩
  | false=>exact L _ dF d9 _ H1 k1 f1 M1 rfl
 | _=>exact k1.elim
theorem d_one {op}{w:De}(h:PD X a w):PD X (.BoolOp op [a] pos) w:=pe_one h
theorem d_not {wa:De}(ha:PD X a wa):PD X (.UnaryOp .Not a pos) (dNot wa):=(pe_notC ha).imp fun σ H Q q=>by
 obtain⟨φ,ρ,μ,K,E,M,w,L⟩:=q
 refine⟨φ,ρ,μ,_,E,M,w,fun d1 dF d9 v1 H1 k1 f1 M1 i1=>?_⟩
 cases d1 with
 | bl c=>cases(show v1=_ from i1);exact L _ dF d9 _ H1 k1 f1 M1 rfl
 | _=>exact k1.elim
def dtAnd (t u:Dt):Dt:=fun ρ μ K=>t ρ μ fun c dF=>if c=true then u ρ dF K else K false dF
def dtOr (t u:Dt):Dt:=fun ρ μ K=>t ρ μ fun c dF=>if c=true then K true dF else u ρ dF K
def dtNot (t:Dt):Dt:=fun ρ μ K=>t ρ μ fun c dF=>K (!c) dF
abbrev PDT (X:Cx)(e:Expr)(w:Dt):Prop:=PT X e (tDT w)
theorem tDT_and {t u:Dt}{σ:St}{H:Hp}{Q:Bool->Hp->Prop}(h:tDT (dtAnd t u) σ H Q):tAnd (tDT t) (tDT u) σ H Q:=by
 obtain⟨φ,ρ,μ,K,E,M,w,L⟩:=h
 refine⟨φ,ρ,μ,_,E,M,w,fun b dF d9 H1 k1 f1 M1=>?_⟩
 cases b with
 | true=>exact⟨d9,ρ,dF,_,E.mono f1,M1,k1,fun b eV φ2 H2 k2 f2 M2=>L b eV φ2 H2 k2 (f1.trans f2) M2⟩
 | false=>exact L _ dF d9 H1 k1 f1 M1
theorem tDT_or {t u:Dt}{σ:St}{H:Hp}{Q:Bool->Hp->Prop}(h:tDT (dtOr t u) σ H Q):tOr (tDT t) (tDT u) σ H Q:=by
 obtain⟨φ,ρ,μ,K,E,M,w,L⟩:=h
 refine⟨φ,ρ,μ,_,E,M,w,fun b dF d9 H1 k1 f1 M1=>?_⟩
 cases b with
 | false=>exact⟨d9,ρ,dF,_,E.mono f1,M1,k1,fun b eV φ2 H2 k2 f2 M2=>L b eV φ2 H2 k2 (f1.trans f2) M2⟩
 | true=>exact L _ dF d9 H1 k1 f1 M1
abbrev PDW (X:Cx)(e:Expr)(w:Dt):Prop:=PW X e (tDT w)
theorem PW.imp {e:Expr}{t t':TT}(h:PW X e t)(hi:∀ σ H Q,t' σ H Q->t σ H Q):PW X e t':=fun wh pins s σ H Q I q=>h wh pins s σ H Q I (hi σ H Q q)
theorem t_and1 {t:Dt}(h:PDT X a t):PDW X (.BoolOp .And [a] pos) t:=pw_and1 h
theorem t_or1 {t:Dt}(h:PDT X a t):PDW X (.BoolOp .Or [a] pos) t:=pw_or1 h
theorem t_and {rest:List Expr}{t u:Dt}(ha:PDT X a t)(hb:PDW X (.BoolOp .And (b::rest) pos) u):PDW X (.BoolOp .And (a::b::rest) pos) (dtAnd t u):=(pw_and ha hb).imp fun σ H Q q=>tDT_and q
theorem t_or {rest:List Expr}{t u:Dt}(ha:PDT X a t)(hb:PDW X (.BoolOp .Or (b::rest) pos) u):PDW X (.BoolOp .Or (a::b::rest) pos) (dtOr t u):=(pw_or ha hb).imp fun σ H Q q=>tDT_or q
theorem t_not {t:Dt}(h:PDT X a t):PDT X (.UnaryOp .Not a pos) (dtNot t):=(pt_not h).imp fun σ H Q q=>by
 obtain⟨φ,ρ,μ,K,E,M,w,L⟩:=q
 exact⟨φ,ρ,μ,_,E,M,w,fun b dF d9 H1 k1 f1 M1=>L _ dF d9 H1 k1 f1 M1⟩
def dIf (t:Dt)(wa wb:De):De:=fun ρ μ K=>t ρ μ fun c dF=>if c=true then wa ρ dF K else wb ρ dF K
theorem d_if {c:Expr}{t:Dt}{wa wb:De}(hc:PDT X c t)(ha:PD X a wa)(hb:PD X b wb):PD X (.IfExp c a b pos) (dIf t wa wb):=(pe_ifExp hc ha hb).imp fun σ H Q q=>by
 obtain⟨φ,ρ,μ,K,E,M,w,L⟩:=q
 refine⟨φ,ρ,μ,_,E,M,w,fun b dF d9 H1 k1 f1 M1=>?_⟩
 cases b with
 | true=>exact⟨d9,ρ,dF,_,E.mono f1,M1,k1,L.mono f1⟩
 | false=>exact⟨d9,ρ,dF,_,E.mono f1,M1,k1,L.mono f1⟩
theorem d_isN {j pos'}{w:De}(h:PD X a w):PD X (.Compare a [.Is] [.Constant .none j pos'] pos) (dIsN false w):=(pe_cmp (pc_isN h)).imp fun σ H Q q=>tD_isN q
theorem d_notN {j pos'}{w:De}(h:PD X a w):PD X (.Compare a [.IsNot] [.Constant .none j pos'] pos) (dIsN true w):=(pe_cmp (pc_notN h)).imp fun σ H Q q=>tD_notN q
theorem tB_of {w:De}{t:TE}{σ:St}{H:Hp}{Q:Bool->Hp->Prop}(hi:∀ Q,tD w σ H Q->t σ H Q)(h:tDT (dTst w) σ H Q):tB t σ H Q:=by
 obtain⟨φ,ρ,μ,K,E,M,k,L⟩:=h
 refine hi _ ⟨φ,ρ,μ,_,E,M,k,fun d μ' ee v H' k' f M' i=>?_⟩
 cases d with
 | bl b=>cases(show v=_ from i);exact⟨b,rfl,L b μ' ee H' k' f M'⟩
 | _=>exact k'.elim
theorem t_isN {j pos'}{w:De}(h:PD X a w):PDT X (.Compare a [.Is] [.Constant .none j pos'] pos) (dTst (dIsN false w)):=(pt_cmp (pc_isN h)).imp fun σ H Q q=>tB_of (fun Q q=>tD_isN q) q
theorem t_notN {j pos'}{w:De}(h:PD X a w):PDT X (.Compare a [.IsNot] [.Constant .none j pos'] pos) (dTst (dIsN true w)):=(pt_cmp (pc_notN h)).imp fun σ H Q q=>tB_of (fun Q q=>tD_notN q) q
end
structure DN where
 nx:DE->MS->Prop
 rt:DK
 bk:DE->MS->Prop:=fun _ _=>False
 ct:DE->MS->Prop:=fun _ _=>False
abbrev Ds:=DN->DE->MS->Prop
def LiS (φ:List Addr)(H:Hp)(k:DE->MS->Prop)(q:St->Hp->Prop):Prop:=∀ ρ' μ' ee σ' H',k ρ' μ'->Fr φ H ee H'->DEnv ee H' ρ' σ'->dZ ee H' μ'->q σ' H'
theorem LiS.mono {φ d9:List Addr}{H H1:Hp}{k:DE->MS->Prop}{q:St->Hp->Prop}(h:LiS φ H k q)(f:Fr φ H d9 H1):LiS d9 H1 k q:=fun ρ' μ' ee σ' H' a b c d=>h ρ' μ' ee σ' H' a (f.trans b) c d
structure LiN (φ:List Addr)(H:Hp)(N:DN)(E:Ends):Prop where
 nx:LiS φ H N.nx E.nx
 rt:Lif φ H N.rt E.rt
 bk:LiS φ H N.bk E.bk
 ct:LiS φ H N.ct E.ct
theorem LiN.mono {φ d9:List Addr}{H H1:Hp}{N:DN}{E:Ends}(h:LiN φ H N E)(f:Fr φ H d9 H1):LiN d9 H1 N E:=⟨h.nx.mono f,h.rt.mono f,h.bk.mono f,h.ct.mono f⟩
def tDS (w:Ds):TS:=fun E σ H=>∃ φ ρ μ N,DEnv φ H ρ σ/\dZ φ H μ/\w N ρ μ/\LiN φ H N E
abbrev PDS (X:Cx)(st:Stmt)(w:Ds):Prop:=PS X st (tDS w)
abbrev PDB (X:Cx)(st:List Stmt)(w:Ds):Prop:=PSs X st (tDS w)
section
variable {X:Cx}{a b e:Expr}{es:List Expr}{pos:Pos}{st:Stmt}{rest:List Stmt}
def dNx:Ds:=fun N ρ μ=>N.nx ρ μ
def dSeq (t u:Ds):Ds:=fun N ρ μ=>t { N with nx:=fun ρ' μ'=>u N ρ' μ'} ρ μ
def dCut (t u:Ds):Ds:=fun N ρ μ=>∃ M:DE->MS->Prop,t { N with nx:=M} ρ μ/\∀ ρ' μ',M ρ' μ'->u N ρ' μ'
theorem eO:PDB X [] dNx:=pss_nil.imp fun E σ H hq3=>by obtain⟨φ,ρ,μ,N,A,M,w,L⟩:=hq3;exact L.nx ρ μ φ σ H w (.refl _ _) A M
theorem df {t u:Ds}(h1:PDS X st t)(h2:PDB X rest u):PDB X (st::rest) (dSeq t u):=(pss_cons h1 h2).imp fun E σ H ⟨φ,ρ,μ,N,A,M,w,L⟩ =>
 ⟨φ,ρ,μ,_,A,M,w,⟨fun ρ' μ' ee σ' H' k f A' M'=>⟨ee,ρ',μ',N,A',M',k,L.mono f⟩,L.rt,L.bk,L.ct⟩⟩
theorem b_cut {t u:Ds}(h1:PDS X st t)(h2:PDB X rest u):PDB X (st::rest) (dCut t u):=(pss_cons h1 h2).imp fun E σ H ⟨φ,ρ,μ,N,A,M,⟨P,w1,w2⟩,L⟩ =>
 ⟨φ,ρ,μ,_,A,M,w1,⟨fun ρ' μ' ee σ' H' k f A' M'=>⟨ee,ρ',μ',N,A',M',w2 ρ' μ' k,L.mono f⟩,L.rt,L.bk,L.ct⟩⟩
theorem dr {t:Ds}(h:PDS X st t):PDB X [st] t:=pss_one h
def dExpr (w:De):Ds:=fun N ρ μ=>w ρ μ fun _ μ'=>N.nx ρ μ'
theorem s_expr {w:De}(h:PD X e w)(hs:swapsWith e none pos.line X.env=pure false:=by rfl):PDS X (.Expr e pos) (dExpr w):=(ps_expr h hs).imp fun E σ H hq4=>by obtain⟨φ,ρ,μ,N,A,M,w,L⟩:=hq4;exact⟨φ,ρ,μ,_,A,M,w,fun d dF d9 v1 H1 k1 f1 M1 i1=>L.nx ρ dF d9 σ H1 k1 f1 (A.mono f1) M1⟩
def dRet (w:De):Ds:=fun N ρ μ=>w ρ μ N.rt
theorem dP {w:De}(h:PD X e w):PDS X (.Return (some e) pos) (dRet w):=(ps_ret h).imp fun E σ H hq5=>by obtain⟨φ,ρ,μ,N,A,M,w,L⟩:=hq5;exact⟨φ,ρ,μ,_,A,M,w,L.rt⟩
def dIfS (c:Dt)(t u:Ds):Ds:=fun N ρ μ=>c ρ μ fun b dF=>if b=true then t N ρ dF else u N ρ dF
theorem s_if {c:Expr}{body orelse:List Stmt}{t:Dt}{u v:Ds}(hc:PDT X c t)(h1:PDB X body u)(h2:PDB X orelse v):PDS X (.If c body orelse pos) (dIfS t u v):=(ps_if hc h1 h2).imp fun E σ H ⟨φ,ρ,μ,N,A,M,w,L⟩ =>
 ⟨φ,ρ,μ,_,A,M,w,fun b dF d9 H1 k1 f1 M1=>by
  cases b with
  | true=>exact⟨d9,ρ,dF,N,A.mono f1,M1,k1,L.mono f1⟩
  | false=>exact⟨d9,ρ,dF,N,A.mono f1,M1,k1,L.mono f1⟩⟩
def dSet (i:Nat)(w:De):Ds:=fun N ρ μ=>w ρ μ fun d μ'=>N.nx (ρ.set i (some d)) μ'
theorem s_set {i:Nat}{x:Str}{w:De}{pos':Pos}(hN:X.N.Nodup)(hi:X.N[i]?=some x)(hx:Loc X.env.scope x)(he:PD X e w)(hf:X.fn x=true\/X.env.scope.names.lookup x=some .local:=by first | exact .inl rfl | exact .inr rfl | assumption)
 (hsw:swapsWith e (some (.Name x pos')) pos.line X.env=pure false:=by rfl):PDS X (.Assign [.Name x pos'] e pos) (dSet i w):=(ps_set (pos:=pos) (pos':=pos') hN hi hx he hsw hf).imp fun E σ H ⟨φ,ρ,μ,N,A,M,w,L⟩ =>
 ⟨φ,ρ,μ,_,A,M,w,fun d dF d9 v1 H1 k1 f1 M1 i1=>L.nx _ dF d9 _ H1 k1 f1 ((A.mono f1).set i1 i) M1⟩
abbrev DG:=D->DE->MS->(DE->MS->Prop)->Prop
abbrev DGs:=List D->DE->MS->(DE->MS->Prop)->Prop
def SoG (g:TG)(w:DG)(S:List Nat):Prop:=∀ φ H ρ σ μ d v K,DEnv φ H ρ σ->dZ φ H μ->DIs φ H d v->w d ρ μ K->g v σ H fun σ2 H2=>H2=H/\σ2.length=σ.length/\(∀ i,i∉S->σ2[i]?=σ[i]?)/\∃ ρ2,DEnv φ H ρ2 σ2/\K ρ2 μ
def SoGs (g:TGs)(w:DGs)(S:List Nat):Prop:=∀ φ H ρ σ μ ds vs K,DEnv φ H ρ σ->dZ φ H μ->dJ φ H ds vs->w ds ρ μ K->g vs σ H fun σ2 H2=>H2=H/\σ2.length=σ.length/\(∀ i,i∉S->σ2[i]?=σ[i]?)/\∃ ρ2,DEnv φ H ρ2 σ2/\K ρ2 μ
def MonoG (g:TG):Prop:=∀ v σ H Q Q',(∀ σ' H',Q σ' H'->Q' σ' H')->g v σ H Q->g v σ H Q'
def MonoGs (g:TGs):Prop:=∀ v σ H Q Q',(∀ σ' H',Q σ' H'->Q' σ' H')->g v σ H Q->g v σ H Q'
def dgName (i:Nat):DG:=fun d ρ μ K=>K (ρ.set i (some d)) μ
def dgTup (n:Nat)(t:DGs):DG:=fun d ρ μ K=>match d with | .tup ds=>ds.length=n/\t ds ρ μ K | _=>False
def dgCons (t:DG)(u:DGs):DGs:=fun ds ρ μ K=>match ds with | d::r=>t d ρ μ fun ρ' μ'=>u r ρ' μ' K | []=>False
def dgNil:DGs:=fun ds ρ μ K=>match ds with | []=>K ρ μ | _=>False
theorem dA (i:Nat):SoG (gName i) (dgName i) [i]:=fun φ H ρ σ μ d v K E M h w=>⟨rfl,aK,fun j hj=>ak (fun z=>hj (by simp[z])),_,E.set h i,w⟩
theorem dc (i:Nat):MonoG (gName i):=fun v σ H Q Q' h q=>h _ _ q
theorem so_nil:SoGs cNil dgNil []:=fun φ H ρ σ μ ds vs K E M h w=>by
 cases ds with
 | nil=>cases(show vs=[]from h);exact⟨rfl,rfl,fun _ _=>rfl,ρ,E,w⟩
 | cons d r=>exact w.elim
theorem dz:MonoGs cNil:=fun v σ H Q Q' h q=>by
 cases v with
 | nil=>exact h _ _ q
 | cons x r=>exact q
theorem dj {g:TG}{u:TGs}(h1:MonoG g)(h2:MonoGs u):MonoGs (cCons g u):=fun v σ H Q Q' h q=>by
 cases v with
 | nil=>exact q
 | cons x r=>exact h1 _ _ _ _ _ (fun σ' H' q'=>h2 _ _ _ _ _ h q') q
theorem mo_tup {n:Nat}{u:TGs}(h2:MonoGs u):MonoG (cTup n u):=fun v σ H Q Q' h q=>by
 cases v with
 | ref a=>obtain⟨xs,e,l,q⟩:=q;exact⟨xs,e,l,h2 _ _ _ _ _ h q⟩
 | _=>exact q
theorem dG {g:TG}{u:TGs}{w:DG}{y:DGs}{S T:List Nat}(h1:SoG g w S)(m1:MonoG g)(h2:SoGs u y T)(m2:MonoGs u):SoGs (cCons g u) (dgCons w y) (S++T):=fun φ H ρ σ μ ds vs K E M h k=>by
 cases ds with
 | nil=>exact k.elim
 | cons d r =>
  obtain⟨v,vr,rfl,hd,hr⟩:=h
  refine m1 _ _ _ _ _ (fun σ1 H1 hq6=>?_) (h1 φ H ρ σ μ d v _ E M hd k)
  obtain⟨e1,l1,n1,ρ1,E1,k1⟩:=hq6
  subst e1
  refine m2 _ _ _ _ _ (fun σ2 H2 hq0=>?_) (h2 φ H1 ρ1 σ1 μ r vr K E1 M hr k1)
  obtain⟨e2,l2,n2,ρ2,E2,k2⟩:=hq0
  refine⟨e2,l2.trans l1,fun i hi=>?_,ρ2,E2,k2⟩
  rw[n2 i (fun z=>hi (aD _ z)),n1 i (fun z=>hi (bN _ z))]
theorem so_tup {n:Nat}{u:TGs}{y:DGs}{S:List Nat}(h2:SoGs u y S):SoG (cTup n u) (dgTup n y) S:=fun φ H ρ σ μ d v K E M h k=>by
 cases d with
 | tup ds =>
  obtain⟨p,vs,rfl,hn,hp,ha⟩:=h
  exact⟨vs,hp,by rw[ha.len];exact k.1,h2 φ H ρ σ μ ds vs K E M ha k.2⟩
 | _=>exact k.elim
structure Tg (X:Cx)(tg:Expr)(g:TG)(w:DG)(S:List Nat):Prop where
 pg:PG X tg g
 so:SoG g w S
 mo:MonoG g
def dAsg (w:De)(g:DG):Ds:=fun N ρ μ=>w ρ μ fun d dF=>g d ρ dF N.nx
theorem s_asg {tg:Expr}{w:De}{g:TG}{y:DG}{S:List Nat}(he:PD X e w)(hg:Tg X tg g y S)(hs:swapsWithSole [tg] e pos.line X.env=pure false:=by rfl)(hw:swappedStores [tg] e X.env=pure none:=by rfl)
 (h1:(assignEach [tg] X.env).map (·.2)=[assign tg X.env]:=by rfl):PDS X (.Assign [tg] e pos) (dAsg w y):=(ps_asg he hg.pg hs hw h1).imp fun E σ H ⟨φ,ρ,μ,N,A,M,w,L⟩ =>
 ⟨φ,ρ,μ,_,A,M,w,fun d dF d9 v1 H1 k1 f1 M1 i1=>hg.mo _ _ _ _ _ (fun σ2 H2 ⟨e2,_,_,ρ2,E2,k2⟩=>by subst e2;exact L.nx ρ2 dF d9 σ2 _ k2 f1 E2 M1) (hg.so d9 H1 ρ σ dF d v1 _ (A.mono f1) M1 i1 k1)⟩
def SoSet (t:TSet)(w:D->D->D->MS->(MS->Prop)->Prop):Prop:=∀ φ H o i v dO di d μ K Q,dZ φ H μ->DIs φ H dO o->DIs φ H di i->DIs φ H d v->w dO di d μ K->(∀ μ' H',K μ'->Fr φ H φ H'->dZ φ H' μ'->Q H')->t o i v H Q
def dsetL:D->D->D->MS->(MS->Prop)->Prop:=fun o i d μ K=>match o,i with
 | .mr k,.int j=>opt (lvM μ k) fun ds=>opt (ixN ds.length j) fun n=>K (μ.set k (.lst (ds.set n d)))
 | _,_=>False
theorem so_set:SoSet rSetC dsetL:=fun φ H o i v dO di d μ K Q M hO hi hd w q=>by
 unfold dsetL at w
 split at w
 ·rename_i k j
  obtain⟨ds,em,w⟩:=opt_ex w
  have em:=lvM_eq em
  obtain⟨p,hp,rfl⟩:=hO
  cases(show i=_ from hi)
  obtain⟨p',e1,vs,hv,ha⟩:=M.at_ k _ em
  rw[hp]at e1;cases e1
  obtain⟨n,en,w⟩:=opt_ex w
  refine⟨vs,hv,dh (v:=n) (by rw[ha.len];exact en) ?_⟩
  have f:Fr φ H φ (upd H p (.lst (vs.set n v))):=.put (gxD hp)
  exact q _ _ w f (M.put hp ⟨_,dE,(ha.set hd n).mono f⟩)
 ·exact w.elim
def dAsgS (w wo wi:De):Ds:=fun N ρ μ=>w ρ μ fun d dF=>wo ρ dF fun o eV=>wi ρ eV fun i μ3=>dsetL o i d μ3 fun μ4=>N.nx ρ μ4
theorem s_asgS {o i:Expr}{w wo wi:De}{pos':Pos}(he:PD X e w)(ho:PD X o wo)(hi:PD X i wi)
 (ha:∀ v,assign (.Subscript o i pos') X.env v=(do
   let ov <- holding [v] (eval o X.env)
   let iv <- holding [v,ov] (eval i X.env)
   standAt pos'
   holding [v,ov,iv] (setItem ov iv v)
   release [v,ov,iv] []):=by intro _;rfl) (hs:swapsWithSole [.Subscript o i pos'] e pos.line X.env=pure false:=by rfl) (hw:swappedStores [.Subscript o i pos'] e X.env=pure none:=by rfl)
 (h1:(assignEach [.Subscript o i pos'] X.env).map (·.2)=[assign (.Subscript o i pos') X.env]:=by rfl):PDS X (.Assign [.Subscript o i pos'] e pos) (dAsgS w wo wi):=(ps_asg he (pg_sub ho hi setC ha) hs hw h1).imp fun E σ H hq=>by
 obtain⟨φ,ρ,μ,N,A,M,w,L⟩:=hq
 refine⟨φ,ρ,μ,_,A,M,w,fun d dF d9 v1 H1 k1 f1 M1 i1=>?_⟩
 refine⟨d9,ρ,dF,_,A.mono f1,M1,k1,fun d2 eV φ2 v2 H2 k2 f2 M2 i2=>?_⟩
 refine⟨φ2,ρ,eV,_,A.mono (f1.trans f2),M2,k2,fun d3 μ3 φ3 v3 H3 k3 f3 M3 i3=>?_⟩
 exact so_set φ3 H3 _ _ _ d2 d3 d μ3 _ _ M3 (i2.mono f3) i3 (i1.mono (f2.trans f3)) k3 fun μ' H' k4 f4 M4=>L.nx ρ μ' φ3 σ H' k4 ((f1.trans (f2.trans f3)).trans f4) (A.mono ((f1.trans (f2.trans f3)).trans f4)) M4
def SoIp (t:TIp)(ro:DOp):Prop:=∀ φ H x y dx dy μ K Q,dZ φ H μ->DIs φ H dx x->DIs φ H dy y->ro dx dy μ K->Lif φ H K Q->t x y H Q
def dAug (i:Nat)(w:De)(ro:DOp):Ds:=fun N ρ μ=>match ρ[i]? with | some (some x)=>w ρ μ fun y dF=>ro x y dF fun z eV=>N.nx (ρ.set i (some z)) eV | _=>False
theorem s_aug {i:Nat}{x:Str}{w:De}{op:Operator}{ti:TIp}{ro:DOp}{pos':Pos}(hN:X.N.Nodup)(hi:X.N[i]?=some x)(hx:Loc X.env.scope x)(he:PD X e w)(ho:PIp X op ti)(so:SoIp ti ro)(hf:X.fn x=true\/X.env.scope.names.lookup x=some .local:=by first | exact .inl rfl | exact .inr rfl | assumption) :
 PDS X (.AugAssign (.Name x pos') op e pos) (dAug i w ro):=(ps_aug (pos:=pos) (pos':=pos') hN hi hx he ho hf).imp fun E σ H hq=>by
 obtain⟨φ,ρ,μ,N,A,M,w,L⟩:=hq
 unfold dAug at w
 split at w
 ·rename_i d hd
  obtain⟨v,hv,hdv⟩:=A.2 i d hd
  refine⟨v,hv,φ,ρ,μ,_,A,M,w,fun d1 dF d9 v1 H1 k1 f1 M1 i1=>?_⟩
  exact so d9 H1 _ _ d d1 dF _ _ M1 (hdv.mono f1) i1 k1 fun d2 eV φ2 v2 H2 k2 f2 M2 i2=>L.nx _ eV φ2 _ H2 k2 (f1.trans f2) ((A.mono (f1.trans f2)).set i2 i) M2
 ·exact w.elim
def dWhile (c:Dt)(b:Ds):Ds:=fun N ρ μ=>∃ W:Nat->DE->MS->Prop,(∃ m,W m ρ μ)/\∀ m ρ μ,W m ρ μ ->
 c ρ μ fun t dF=>if t=true then b { N with nx:=fun ρ' μ'=>∃ m',m'<m/\W m' ρ' μ',ct:=fun ρ' μ'=>∃ m',m'<m/\W m' ρ' μ',bk:=N.nx} ρ dF else N.nx ρ dF
theorem s_while {c:Expr}{body:List Stmt}{t:Dt}{u:Ds}(hp:PassesOwn (model X.prog X.w) X.A X.env X.xe)(hc:PDT X c t)(hb:PDB X body u):PDS X (.While c body [] pos) (dWhile t u):=(ps_while hp hc hb).imp fun E σ H ⟨φ,ρ,μ,N,A,M,⟨W,⟨m0,w0⟩,turn⟩,L⟩=>by
 refine⟨fun m σ' H'=>∃ ee ρ' μ',Fr φ H ee H'/\DEnv ee H' ρ' σ'/\dZ ee H' μ'/\W m ρ' μ',⟨m0,φ,ρ,μ,.refl _ _,A,M,w0⟩,?_⟩
 rintro m σ' H' ⟨ee,ρ',μ',f',A',M',w'⟩
 refine⟨ee,ρ',μ',_,A',M',turn m ρ' μ' w',fun b dF d9 H1 k1 f1 M1=>?_⟩
 cases b with
 | true =>
  refine⟨fun σ2 H2=>∃ m',m'<m/\∃ φ2 ρ2 eV,Fr φ H φ2 H2/\DEnv φ2 H2 ρ2 σ2/\dZ φ2 H2 eV/\W m' ρ2 eV,fun σ2 H2 q=>q,d9,ρ',dF,_,A'.mono f1,M1,k1,?_⟩
  have nx:LiS d9 H1 (fun ρ' μ'=>∃ m',m'<m/\W m' ρ' μ') fun σ2 H2=>∃ m',m'<m/\∃ φ2 ρ2 eV,Fr φ H φ2 H2/\DEnv φ2 H2 ρ2 σ2/\dZ φ2 H2 eV/\W m' ρ2 eV:=fun ρ2 eV φ2 σ2 H2 ⟨m',hm,w2⟩ f2 A2 M2=>⟨m',hm,φ2,ρ2,eV,(f'.trans f1).trans f2,A2,M2,w2⟩
  exact⟨nx,L.rt.mono (f'.trans f1),L.nx.mono (f'.trans f1),nx⟩
 | false=>exact L.nx ρ' dF d9 σ' H1 k1 (f'.trans f1) (A'.mono f1) M1
def Wk (J:It)(φ:List Addr)(H:Hp)(ds:List D)(c:MS->Prop):Prop:=∀ ee H' μ',Fr φ H ee H'->dZ ee H' μ'->c μ'->∀ i,
 (∀ d,ds[i]?=some d->J.go i H'/\∀ x H'',J.yld i H' x H''->Fr ee H' ee H''/\dZ ee H'' μ'/\DIs ee H'' d x)/\(i=ds.length->J.stop i H')
abbrev DI:=DE->MS->(List D->(MS->Prop)->MS->Prop)->Prop
def tDI (w:DI):TI:=fun σ H R=>∃ φ ρ μ K,DEnv φ H ρ σ/\dZ φ H μ/\w ρ μ K/\∀ ds c μ' ee J H',K ds c μ'->Fr φ H ee H'->dZ ee H' μ'->Wk J ee H' ds c->R J H'
abbrev PDI (X:Cx)(tg iter:Expr)(w:DI):Prop:=PI X tg iter (tDI w)
theorem PI.imp {tg iter:Expr}{t t':TI}(h:PI X tg iter t)(hi:∀ σ H Q,t' σ H Q->t σ H Q):PI X tg iter t':=fun pins s σ H Q I q=>h pins s σ H Q I (hi σ H Q q)
def forW (g:DG)(b:Ds)(N:DN)(c:MS->Prop):List D->DE->MS->Prop
 | [],ρ,μ=>c μ/\N.nx ρ μ
 | d::ds,ρ,μ=>c μ/\g d ρ μ fun ρ2 eV=>b { N with nx:=fun ρ' μ'=>forW g b N c ds ρ' μ',ct:=fun ρ' μ'=>forW g b N c ds ρ' μ',bk:=N.nx} ρ2 eV
def dFor (wi:DI)(g:DG)(b:Ds):Ds:=fun N ρ μ=>wi ρ μ fun ds c dF=>forW g b N c ds ρ dF
theorem s_for {tg iter:Expr}{body:List Stmt}{wi:DI}{g:TG}{y:DG}{S:List Nat}{u:Ds}(hp:PassesOwn (model X.prog X.w) X.A X.env X.xe)(hc:X.calm=true)(hi:PDI X tg iter wi)(hg:Tg X tg g y S)(hb:PDB X body u)
 (hs:∀ x,foldedSetIterable iter X.env x=pure x:=by intro _;rfl):PDS X (.For tg iter body [] pos) (dFor wi y u):=(ps_for hp hc hi hg.pg hb hs).imp fun E σ H hq=>by
 obtain⟨φ,ρ,μ,N,A,M,w,L⟩:=hq
 refine⟨φ,ρ,μ,_,A,M,w,fun ds c dF d9 J H1 k1 f1 M1 wk=>?_⟩
 refine⟨fun i m σ' H'=>m=ds.length - i/\i<=ds.length/\∃ ee ρ' μ',Fr d9 H1 ee H'/\DEnv ee H' ρ' σ'/\dZ ee H' μ'/\forW y u N c (ds.drop i) ρ' μ',⟨ds.length,rfl,aX _,d9,ρ,dF,.refl _ _,A.mono f1,M1,k1⟩,?_⟩
 rintro i m σ' H' ⟨rfl,hi,ee,ρ',μ',f',A',M',w'⟩
 by_cases hlt:i<ds.length
 ·rw[cE hlt]at w'
  obtain⟨c',w'⟩:=w'
  obtain⟨go,yld⟩:=(wk ee H' μ' f' M' c' i).1 ds[i] (gxA hlt)
  refine .inr ⟨go,fun σ2 H2=>∃ φ2 ρ2 eV,Fr d9 H1 φ2 H2/\DEnv φ2 H2 ρ2 σ2/\dZ φ2 H2 eV/\forW y u N c (ds.drop (i+1)) ρ2 eV,fun σ2 H2 q=>⟨ds.length - (i+1),by omega,rfl,hlt,q⟩,fun x H2 hy=>?_⟩
  obtain⟨f2,M2,i2⟩:=yld x H2 hy
  refine hg.mo _ _ _ _ _ (fun σ3 H3 hq5=>?_) (hg.so ee H2 ρ' σ' μ' _ x _ (A'.mono f2) M2 i2 w')
  obtain⟨e3,_,_,ρ3,E3,k3⟩:=hq5
  subst e3
  refine⟨ee,ρ3,μ',_,E3,M2,k3,?_⟩
  have nx:LiS ee H3 (fun ρ' μ'=>forW y u N c (ds.drop (i+1)) ρ' μ') fun σ2 H2=>∃ φ2 ρ2 eV,Fr d9 H1 φ2 H2/\DEnv φ2 H2 ρ2 σ2/\dZ φ2 H2 eV/\forW y u N c (ds.drop (i+1)) ρ2 eV:=fun ρ2 eV φ2 σ2 H2 w2 g2 A2 N2=>⟨φ2,ρ2,eV,(f'.trans f2).trans g2,A2,N2,w2⟩
  have ff:=f1.trans (f'.trans f2)
  exact⟨nx,L.rt.mono ff,L.nx.mono ff,nx⟩
 ·have e:i=ds.length:=by omega
  subst e
  rw[List.drop_length]at w'
  exact .inl ⟨(wk ee H' μ' f' M' w'.1 _).2 rfl,L.nx ρ' μ' ee σ' H' w'.2 (f1.trans f') A' M'⟩
end
def startD (js:List (Option Nat))(ρ:DE):DE:=js.map fun o=>o.bind fun j=>(ρ[j]?).join
theorem DEnv.fk {φ:List Addr}{H:Hp}{ρ:DE}{σ:St}(h:DEnv φ H ρ σ)(js:List (Option Nat)):DEnv φ H (startD js ρ) (fk js σ):=by
 refine⟨by unfold startD L2.fk;rw[fC,fC],fun i d e=>?_⟩
 unfold startD at e
 rw[gxH]at e
 unfold L2.fk
 rw[gxH]
 cases q:js[i]? with
 | none=>rw[q]at e;cases e
 | some o =>
  rw[q]at e
  cases o with
  | none=>cases e
  | some j =>
   have e':(ρ[j]?).join=some d:=aJ e
   have e2:ρ[j]?=some (some d):=by
    cases z:ρ[j]? with
    | none=>rw[z]at e';cases e'
    | some y=>rw[z]at e';have:y=some d:=e';rw[this]
   obtain⟨v,hv,hd⟩:=h.2 j d e2
   refine⟨v,?_,hd⟩
   show some ((σ[j]?).join)=_
   rw[hv];rfl
def dItem (ρ:DE)(y:DG)(t:Dt)(w:De)(d:D)(μ:MS)(K:Option D->MS->Prop):Prop:=y d ρ μ fun ρ2 eV=>t ρ2 eV fun b μ3=>if b=true then w ρ2 μ3 (fun z μ4=>K (some z) μ4)else K none μ3
def compW (it:D->MS->(Option D->MS->Prop)->Prop)(c:MS->Prop):List D->MS->(List D->MS->Prop)->Prop
 | [],μ,K=>c μ/\K [] μ
 | d::ds,μ,K=>c μ/\it d μ fun o dF=>compW it c ds dF fun ys eV=>K (o.toList++ys) eV
def ownJs (S:List Nat)(js:List (Option Nat)):Bool:=S.all fun i=>js[i]?==some none
theorem ext_of {js:List (Option Nat)}{σ σ2:St}{S:List Nat}(ho:ownJs S js=true)(hl:σ2.length=(fk js σ).length)(hn:∀ i,i∉S->σ2[i]?=(fk js σ)[i]?):Ext (fk js σ) σ2:=by
 refine⟨hl.symm,fun i v e=>?_⟩
 by_cases hi:i∈S
 ·have q:=List.all_eq_true.mp ho i hi
  have q':js[i]?=some none:=by simpa using q
  obtain⟨j,e1,_⟩:=getStart e
  rw[q']at e1;cases e1
 ·rw[hn i hi];exact e
def dComp (m:Bool)(wi:DI)(js:List (Option Nat))(y:DG)(t:Dt)(w:De):De:=fun ρ μ K=>wi ρ μ fun ds c dF=>ds.length<=sizeLine/\compW (dItem (startD js ρ) y t w) c ds dF fun ys eV=>nL m ys eV K
theorem tD_comp {m:Bool}{wi:DI}{js:List (Option Nat)}{g:TG}{y:DG}{S:List Nat}{t:Dt}{w:De}(so:SoG g y S)(mo:MonoG g)(ho:ownJs S js=true){σ:St}{H:Hp}{Q:VK}(h:tD (dComp m wi js y t w) σ H Q):tComp (tDI wi) js g (tDT t) (tD w) σ H Q:=by
 obtain⟨φ,ρ,μ,K,A,M,k,L⟩:=h
 refine⟨φ,ρ,μ,_,A,M,k,fun ds c dF d9 J H1 k1 f1 M1 wk=>?_⟩
 obtain⟨hz,k1⟩:=k1
 refine⟨fun i n ys H'=>n=ds.length - i/\i<=ds.length/\ys.length<=i/\∃ ee zs μ',Fr d9 H1 ee H'/\dJ ee H' zs ys/\dZ ee H' μ'/\compW (dItem (startD js ρ) y t w) c (ds.drop i) μ' fun r eV=>nL m (zs++r) eV K,
  ⟨ds.length,rfl,aX _,aX _,d9,[],dF,.refl _ _,rfl,M1,k1⟩,?_⟩
 rintro i n ys H' ⟨rfl,hi,hy,ee,zs,μ',f',Z',M',w'⟩
 by_cases hlt:i<ds.length
 ·rw[cE hlt]at w'
  obtain⟨c',w'⟩:=w'
  obtain⟨go,yld⟩:=(wk ee H' μ' f' M' c' i).1 ds[i] (gxA hlt)
  refine .inr ⟨go,fun x H2 hy2=>?_⟩
  obtain⟨f2,M2,i2⟩:=yld x H2 hy2
  have E2:DEnv ee H2 (startD js ρ) (fk js σ):=((A.mono (f1.trans (f'.trans f2))).fk js)
  refine mo _ _ _ _ _ (fun σ3 H3 hq6=>?_) (so ee H2 _ _ μ' _ x _ E2 M2 i2 w')
  obtain⟨e3,l3,n3,ρ3,E3,k3⟩:=hq6
  refine⟨ext_of ho l3 n3,?_⟩
  subst e3
  refine⟨ee,ρ3,μ',_,E3,M2,k3,fun b μ4 φ4 H4 k4 f4 M4=>?_⟩
  have ff:=f'.trans (f2.trans f4)
  cases b with
  | true =>
   refine⟨φ4,ρ3,μ4,_,E3.mono f4,M4,k4,fun d5 μ5 φ5 v5 H5 k5 f5 M5 i5=>⟨by omega,ds.length - (i+1),by omega,rfl,hlt,by rw[gxE,aO];omega,φ5,zs++[d5],μ5,ff.trans f5,(Z'.mono (f2.trans (f4.trans f5))).app ⟨v5,[],rfl,i5,rfl⟩,M5,?_⟩⟩
   have e:(fun r eV=>nL m (zs++[d5]++r) eV K)=fun r eV=>nL m (zs++((some d5).toList++r)) eV K:=by funext r eV;rw[aH];rfl
   rw[e]
   exact k5
  | false =>
   exact⟨ds.length - (i+1),by omega,rfl,hlt,by omega,φ4,zs,μ4,ff,Z'.mono (f2.trans f4),M4,k4⟩
 ·have e:i=ds.length:=by omega
  subst e
  rw[List.drop_length]at w'
  refine .inl ⟨(wk ee H' μ' f' M' w'.1 _).2 rfl,fun p hp=>?_⟩
  have q:nL m (zs++[]) μ' K:=w'.2
  rw[aP]at q
  exact al_n (L.mono (f1.trans f')) M' Z' q hp
section
variable {X:Cx}{a b e:Expr}{es:List Expr}{pos:Pos}
variable {N:List Str}{js:List (Option Nat)}{sc:Scope}{tg elt iter:Expr}{ifs:List Expr}{g:TG}{y:DG}{S:List Nat}{t:Dt}{w:De}
abbrev PDTs (X:Cx)(ifs:List Expr)(t:Dt):Prop:=PTs X ifs (tDT t)
theorem PTs.imp {ifs:List Expr}{t t':TT}(h:PTs X ifs t)(hi:∀ σ H Q,t' σ H Q->t σ H Q):PTs X ifs t':=fun pins s σ H Q I q=>h pins s σ H Q I (hi σ H Q q)
def dYes:Dt:=fun _ μ K=>K true μ
theorem ts_nil:PDTs X [] dYes:=pts_nil.imp fun σ H Q hq0=>by obtain⟨φ,ρ,μ,K,A,M,k,L⟩:=hq0;exact L true μ φ H k (.refl _ _) M
theorem ts_one {c:Expr}(h:PDT X c t):PDTs X [c] t:=pts_one h
theorem d_comp (m:Bool){wi:DI}(hc:CompOk X N js sc)(calm:X.calm=true)(so:SoG g y S)(mo:MonoG g)(ho:ownJs S js=true)(hi:PDI X tg iter wi)(hg:∀ fp s H,PG (cxC X N sc fp s H) tg g)(ht:∀ fp s H,PDTs (cxC X N sc fp s H) ifs t)(he:∀ fp s H,PD (cxC X N sc fp s H) elt w)
 (hs:∀ x,foldedSetIterable iter X.env x=pure x:=by intro _;rfl):PD X (.ListComp elt [⟨tg,iter,ifs,0⟩] sc pos) (dComp m wi js y t w):=(pe_comp hc calm hi hg ht he hs).imp fun σ H Q q=>tD_comp so mo ho q
theorem s_setComp (m:Bool){wi:DI}{pos' spos:Pos}{i:Nat}{x:Str}(hc:CompOk X N js sc)(calm:X.calm=true)(so:SoG g y S)(mo:MonoG g)(ho:ownJs S js=true)(hN:X.N.Nodup)(hx':X.N[i]?=some x)(hx:Loc X.env.scope x)(hi:PDI X tg iter wi)(hg:∀ fp s H,PG (cxC X N sc fp s H) tg g)
 (ht:∀ fp s H,PDTs (cxC X N sc fp s H) ifs t) (he:∀ fp s H,PD (cxC X N sc fp s H) elt w) (hsw:swapsWith (.ListComp elt [⟨tg,iter,ifs,0⟩] sc pos) (some (.Name x pos')) spos.line X.env=pure true:=by rfl)
 (hs:∀ x,foldedSetIterable iter X.env x=pure x:=by intro _;rfl) (hf:X.fn x=true\/X.env.scope.names.lookup x=some .local:=by first | exact .inl rfl | exact .inr rfl | assumption) :
 PDS X (.Assign [.Name x pos'] (.ListComp elt [⟨tg,iter,ifs,0⟩] sc pos) spos) (dSet i (dComp m wi js y t w)):=(ps_setComp hc calm hN hx' hx hi hg ht he hsw hs hf).imp fun E σ H ⟨φ,ρ,μ,N,A,M,w,L⟩ =>
 tD_comp so mo ho ⟨φ,ρ,μ,_,A,M,w,fun d dF d9 v1 H1 k1 f1 M1 i1=>L.nx _ dF d9 _ H1 k1 f1 ((A.mono f1).set i1 i) M1⟩
def dItL (w:De):DI:=fun ρ μ K=>w ρ μ fun d dF=>opt (lv dF d) fun ds=>K ds (lc d ds) dF
theorem wk_list {Kf:PySem.W.Frag}{p:Addr}{φ:List Addr}{H:Hp}{ds:List D}{c:MS->Prop}(h:∀ ee H' μ',Fr φ H ee H'->dZ ee H' μ'->c μ'->∃ vs,H' p=some (.lst vs)/\dJ ee H' ds vs):Wk (Itl Kf p) φ H ds c:=fun ee H' μ' f M c' i=>by
 obtain⟨vs,hp,ha⟩:=h ee H' μ' f M c'
 refine⟨fun d hd=>?_,fun hi=>⟨vs,SqL.of hp,by rw[ha.len,hi];exact aa _⟩⟩
 obtain⟨v,hv,hi⟩:=ha.get hd
 refine⟨⟨vs,v,SqL.of hp,hv⟩,fun x H'' hy=>?_⟩
 obtain⟨rfl,hy⟩:=hy
 have e:=hy vs (SqL.of hp)
 rw[hv]at e;cases e
 exact⟨.refl _ _,M,hi⟩
theorem i_list {w:De}(h:PD X a w):PDI X tg a (dItL w):=(pi_list h).imp fun σ H Q hq=>by
 obtain⟨φ,ρ,μ,K,A,M,k,L⟩:=hq
 refine⟨φ,ρ,μ,_,A,M,k,fun d dF d9 v1 H1 k1 f1 M1 i1=>?_⟩
 obtain⟨ds,el,k1⟩:=opt_ex k1
 obtain⟨p,vs,rfl,hp,ha⟩:=lv_is M1 i1 el
 exact⟨p,rfl,⟨vs,SqL.of hp⟩,L ds _ dF d9 _ H1 k1 f1 M1 (wk_list fun ee H' μ' f M c=>lv_stay M1 i1 el f M c)⟩
def rngD (lo:Int)(n:Nat):List D:=(List.range n).map fun i=>D.int (lo+(i:Nat))
theorem wk_range {lo:Int}{n:Nat}{φ:List Addr}{H:Hp}:Wk (Itr lo n) φ H (rngD lo n) fun _=>True:=fun ee H' μ' f M _ i=>by
 have hl:(rngD lo n).length=n:=by unfold rngD;rw[fC,gxJ]
 refine⟨fun d hd=>?_,fun hi=>by rw[hl]at hi;exact Nat.le_of_eq hi.symm⟩
 have hi:i<n:=by have:=(gxB hd).1;omega
 refine⟨hi,fun x H'' hy=>?_⟩
 obtain⟨rfl,rfl⟩:=hy
 refine⟨.refl _ _,M,?_⟩
 unfold rngD at hd
 rw[gxH,cF hi]at hd
 cases hd
 rfl
def dItR1 (w:DA):DI:=fun ρ μ K=>w ρ μ fun ds dF=>match ds with
 | [.int j] => -(2 ^ 62)<=j/\j<2 ^ 62/\K (rngD 0 j.toNat) (fun _=>True) dF
 | _=>False
def dItR2 (w:DA):DI:=fun ρ μ K=>w ρ μ fun ds dF=>match ds with
 | [.int i,.int j]=>(-(2 ^ 62)<=i/\i<2 ^ 62 /\ -(2 ^ 62)<=j/\j<2 ^ 62)/\K (rngD i (j - i).toNat) (fun _=>True) dF
 | _=>False
theorem i_range1 {w:DA}{p:Pos}(hg:Gl X "range")(hm:X.mg "range"=none)(ha:PDA X [a] w)(hs:starEach [a] X.env=[(false,eval a X.env)]:=by rfl):PDI X tg (.Call (.Name "range" p) [a] [] pos) (dItR1 w):=(pi_range1 hg hm ha hs).imp fun σ H Q hq=>by
 obtain⟨φ,ρ,μ,K,A,M,k,L⟩:=hq
 refine⟨φ,ρ,μ,_,A,M,k,fun ds dF d9 vs H1 k1 f1 M1 i1=>?_⟩
 split at k1
 ·obtain⟨v,r,rfl,h1,h2⟩:=i1
  cases(show v=_ from h1);cases(show r=[]from h2)
  exact⟨_,rfl,k1.1,k1.2.1,L _ _ dF d9 _ H1 k1.2.2 f1 M1 wk_range⟩
 ·exact k1.elim
theorem i_range2 {w:DA}{p:Pos}(hg:Gl X "range")(hm:X.mg "range"=none)(ha:PDA X [a,b] w)(hs:starEach [a,b] X.env=[(false,eval a X.env),(false,eval b X.env)]:=by rfl)(hs2:starEach [b] X.env=[(false,eval b X.env)]:=by rfl):PDI X tg (.Call (.Name "range" p) [a,b] [] pos) (dItR2 w):=(pi_range2 hg hm ha hs hs2).imp fun σ H Q hq=>by
 obtain⟨φ,ρ,μ,K,A,M,k,L⟩:=hq
 refine⟨φ,ρ,μ,_,A,M,k,fun ds dF d9 vs H1 k1 f1 M1 i1=>?_⟩
 split at k1
 ·obtain⟨v,r,rfl,h1,u,r',rfl,h2,h3⟩:=i1
  cases(show v=_ from h1);cases(show u=_ from h2);cases(show r'=[]from h3)
  exact⟨_,_,rfl,k1.1,L _ _ dF d9 _ H1 k1.2 f1 M1 wk_range⟩
 ·exact k1.elim
def dItS (w:De):DI:=fun ρ μ K=>w ρ μ fun d dF=>match d with
 | .str z=>K (z.cps.toList.map fun c=>D.str ⟨#[c]⟩) (fun _=>True) dF
 | _=>False
theorem i_str {w:De}(h:PD X a w):PDI X tg a (dItS w):=(pi_str h).imp fun σ H Q hq=>by
 obtain⟨φ,ρ,μ,K,A,M,k,L⟩:=hq
 refine⟨φ,ρ,μ,_,A,M,k,fun d dF d9 v1 H1 k1 f1 M1 i1=>?_⟩
 split at k1
 ·rename_i z
  cases(show v1=_ from i1)
  refine⟨z,rfl,L _ _ dF d9 _ H1 k1 f1 M1 fun ee H' μ' f M _ i=>⟨fun d hd=>?_,fun hi=>by rw[fC]at hi;exact hi⟩⟩
  have hi:i<z.cps.toList.length:=by have:=(gxB hd).1;rwa [fC]at this
  refine⟨hi,fun x H'' hy=>?_⟩
  obtain⟨rfl,c,hc,rfl⟩:=hy
  rw[gxH,hc]at hd
  cases hd
  exact⟨.refl _ _,M,rfl⟩
 ·exact k1.elim
end
mutual
def mrB (n:Nat):D->Prop
 | .lst ds=>mrL n ds
 | .tup ds=>mrL n ds
 | .dic _ ds=>mrL n ds
 | .mr k=>k<n
 | .obj _ _ ds=>mrL n ds
 | .fdc _ ds=>mrL n ds
 | _=>True
def mrL (n:Nat):List D->Prop
 | []=>True
 | d::ds=>mrB n d/\mrL n ds
end
def moB (n:Nat):MO->Prop
 | .box=>True
 | .lst ds=>mrL n ds
 | .dic _ ds=>mrL n ds
 | .fdic _ _ ds=>mrL n ds
 | .ins _ _ ds=>mrL n ds
 | .dtu _ ds=>mrL n ds
 | .gx eE _=>eE.length<=n
 | .exc _=>True
theorem Fr.takeN {eE φ:List Addr}{H0 H:Hp}{n:Nat}(f:Fr eE H0 φ H)(h:eE.length<=n):Fr eE H0 (φ.take n) H:=by
 obtain⟨⟨ψ,rfl,hψ⟩,k,d⟩:=f
 exact⟨⟨ψ.take (n - eE.length),by rw[List.take_append,bA h],fun c hc=>hψ c (aN hc)⟩,k,d⟩
theorem Fr.late {eE φ:List Addr}{H0 H:Hp}{j:Nat}{p:Addr}(f:Fr eE H0 φ H)(h:eE.length<=j)(hp:φ[j]?=some p):H0 p=none:=by
 obtain⟨⟨ψ,rfl,hψ⟩,k,d⟩:=f
 rw[gxG h]at hp
 exact hψ p (gxD hp)
theorem Fr.takeP {eE φ:List Addr}{H0 H:Hp}{n:Nat}{p:Addr}(f:Fr eE H0 φ H)(h:eE.length<=n)(hp:H0 p=none):Fr eE H0 (φ.take n++[p]) H:=by
 obtain⟨⟨ψ,e,hψ⟩,k,d⟩:=f.takeN h
 exact⟨⟨ψ++[p],by rw[e,aH],fun c hc=>by rcases List.mem_append.mp hc with z | z;exact hψ c z;rw[List.mem_singleton.mp z];exact hp⟩,k,d⟩
mutual
theorem DIs.cutT {n:Nat}{φ:List Addr}{H:Hp}:∀ {d:D} {v:V},mrB n d->DIs φ H d v->DIs (φ.take n) H d v
 | .fB,_,_,h=>h
 | .bl _,_,_,h=>h
 | .int _,_,_,h=>h
 | .str _,_,_,h=>h
 | .lst _,_,m,h=>by obtain⟨p,vs,e,nn,hp,q⟩:=h;exact⟨p,vs,e,fun z=>nn (aN z),hp,dJ.cutT m q⟩
 | .tup _,_,m,h=>by obtain⟨p,vs,e,nn,hp,q⟩:=h;exact⟨p,vs,e,fun z=>nn (aN z),hp,dJ.cutT m q⟩
 | .dic _ _,_,m,h=>by obtain⟨p,kvs,vs,e,nn,hp,q1,q2,q⟩:=h;exact⟨p,kvs,vs,e,fun z=>nn (aN z),hp,q1,q2,dJ.cutT m q⟩
 | .mr k,_,m,h=>by obtain⟨p,e,q⟩:=h;exact⟨p,by rw[bq m];exact e,q⟩
 | .obj _ _ _,_,m,h=>by obtain⟨p,dx,fs,vs,e,nn,hp,q1,q2,q⟩:=h;exact⟨p,dx,fs,vs,e,fun z=>nn (aN z),hp,q1,q2,dJ.cutT m q⟩
 | .fdc _ _,_,m,h=>by obtain⟨p,dx,fs,vs,e,nn,hp,q1,q2,q⟩:=h;exact⟨p,dx,fs,vs,e,fun z=>nn (aN z),hp,q1,q2,dJ.cutT m q⟩
 | .fn _,_,_,h=>h
theorem dJ.cutT {n:Nat}{φ:List Addr}{H:Hp}:∀ {ds:List D} {vs:List V},mrL n ds->dJ φ H ds vs->dJ (φ.take n) H ds vs
 | [],_,_,h=>h
 | _::_,_,m,h=>by obtain⟨v,r,e,h1,h2⟩:=h;exact⟨v,r,e,DIs.cutT m.1 h1,dJ.cutT m.2 h2⟩
end
theorem dZ.cutT {n:Nat}{φ:List Addr}{H:Hp}{μ:MS}(h:dZ φ H μ)(hm:∀(k:Nat) (m:MO),k<n->μ[k]?=some m->moB n m):dZ (φ.take n) H (μ.take n):=by
 refine⟨h.nd.sublist (List.take_sublist _ _),by rw[aM,aM,h.len],fun k m e=>?_⟩
 have hk:k<n:=by have:=(gxB e).1;rw[aM]at this;omega
 rw[bq hk]at e
 obtain⟨p,e1,e2⟩:=h.at_ k m e
 refine⟨p,by rw[bq hk];exact e1,?_⟩
 have hb:=hm k m hk e
 cases m with
 | box=>obtain⟨q,ns,i,r,z,h1,h2,h3,h4⟩:=e2;exact⟨q,ns,i,r,z,h1,h2,fun z=>h3 (aN z),h4⟩
 | lst ds=>obtain⟨vs,h1,h2⟩:=e2;exact⟨vs,h1,h2.cutT hb⟩
 | dic ks ds=>obtain⟨kvs,vs,h1,h2,h3,h4⟩:=e2;exact⟨kvs,vs,h1,h2,h3,h4.cutT hb⟩
 | fdic o kvs ds=>exact⟨e2.1,e2.2.cutT hb⟩
 | ins C ns ds=>obtain⟨dx,fs,h1,h2,h3⟩:=e2;exact⟨dx,fs,h1,h2,h3.cutT hb⟩
 | dtu ks ds=>obtain⟨kvs,h1,h2,h3⟩:=e2;exact⟨kvs,h1,h2,h3.cutT hb⟩
 | gx eE H0=>exact⟨e2.1.takeN hb,e2.2⟩
 | exc c=>exact e2
mutual
theorem DIs.bound {φ:List Addr}{H:Hp}:∀ {d:D} {v:V},DIs φ H d v->mrB φ.length d
 | .fB,_,_=>True.intro
 | .bl _,_,_=>True.intro
 | .int _,_,_=>True.intro
 | .str _,_,_=>True.intro
 | .lst _,_,h=>by obtain⟨p,vs,e,nn,hp,q⟩:=h;exact dJ.bound q
 | .tup _,_,h=>by obtain⟨p,vs,e,nn,hp,q⟩:=h;exact dJ.bound q
 | .dic _ _,_,h=>by obtain⟨p,kvs,vs,e,nn,hp,q1,q2,q⟩:=h;exact dJ.bound q
 | .mr k,_,h=>by obtain⟨p,e,q⟩:=h;exact(gxB e).1
 | .obj _ _ _,_,h=>by obtain⟨p,dx,fs,vs,e,nn,hp,q1,q2,q⟩:=h;exact dJ.bound q
 | .fdc _ _,_,h=>by obtain⟨p,dx,fs,vs,e,nn,hp,q1,q2,q⟩:=h;exact dJ.bound q
 | .fn _,_,_=>True.intro
theorem dJ.bound {φ:List Addr}{H:Hp}:∀ {ds:List D} {vs:List V},dJ φ H ds vs->mrL φ.length ds
 | [],_,_=>True.intro
 | _::_,_,h=>by obtain⟨v,r,e,h1,h2⟩:=h;exact⟨DIs.bound h1,dJ.bound h2⟩
end
theorem dZ.bound {φ:List Addr}{H:Hp}{μ:MS}(h:dZ φ H μ):∀(k:Nat) (m:MO),μ[k]?=some m->moB μ.length m:=fun k m e=>by
 obtain⟨p,e1,e2⟩:=h.at_ k m e
 rw[<- h.len]
 cases m with
 | box=>exact True.intro
 | lst ds=>obtain⟨vs,h1,h2⟩:=e2;exact h2.bound
 | dic ks ds=>obtain⟨kvs,vs,h1,h2,h3,h4⟩:=e2;exact h4.bound
 | fdic o kvs ds=>exact e2.2.bound
 | ins C ns ds=>obtain⟨dx,fs,h1,h2,h3⟩:=e2;exact h3.bound
 | dtu ks ds=>obtain⟨kvs,h1,h2,h3⟩:=e2;exact h3.bound
 | gx eE H0=>obtain⟨⟨ψ,e,_⟩,_⟩:=e2.1;show eE.length<=φ.length;rw[e,gxE];omega
 | exc c=>exact True.intro
theorem notin_addP {n:Nat}{ee:List Addr}{p q:Addr}(hp:p∈ee)(h:q∉ee):q∉ee.take n++[p]:=fun z=>by
 rcases List.mem_append.mp z with z | z
 ·exact h (aN z)
 ·exact h (by rw[List.mem_singleton.mp z];exact hp)
mutual
theorem DIs.addP {n:Nat}{ee:List Addr}{H:Hp}{p:Addr}(hp:p∈ee):∀ {d:D} {v:V},mrB n d->DIs ee H d v->DIs (ee.take n++[p]) H d v
 | .fB,_,_,h=>h
 | .bl _,_,_,h=>h
 | .int _,_,_,h=>h
 | .str _,_,_,h=>h
 | .lst _,_,m,h=>by obtain⟨q,vs,e,nn,hq,z⟩:=h;exact⟨q,vs,e,notin_addP hp nn,hq,dJ.addP' hp m z⟩
 | .tup _,_,m,h=>by obtain⟨q,vs,e,nn,hq,z⟩:=h;exact⟨q,vs,e,notin_addP hp nn,hq,dJ.addP' hp m z⟩
 | .dic _ _,_,m,h=>by obtain⟨q,kvs,vs,e,nn,hq,q1,q2,z⟩:=h;exact⟨q,kvs,vs,e,notin_addP hp nn,hq,q1,q2,dJ.addP' hp m z⟩
 | .mr k,_,m,h=>by
  obtain⟨q,e,z⟩:=h
  have hk:k<(ee.take n).length:=by rw[aM];have:=(gxB e).1;have m':k<n:=m;omega
  exact⟨q,by rw[gxF hk,bq m];exact e,z⟩
 | .obj _ _ _,_,m,h=>by obtain⟨q,dx,fs,vs,e,nn,hq,q1,q2,z⟩:=h;exact⟨q,dx,fs,vs,e,notin_addP hp nn,hq,q1,q2,dJ.addP' hp m z⟩
 | .fdc _ _,_,m,h=>by obtain⟨q,dx,fs,vs,e,nn,hq,q1,q2,z⟩:=h;exact⟨q,dx,fs,vs,e,notin_addP hp nn,hq,q1,q2,dJ.addP' hp m z⟩
 | .fn _,_,_,h=>h
theorem dJ.addP' {n:Nat}{ee:List Addr}{H:Hp}{p:Addr}(hp:p∈ee):∀ {ds:List D} {vs:List V},mrL n ds->dJ ee H ds vs->dJ (ee.take n++[p]) H ds vs
 | [],_,_,h=>h
 | _::_,_,m,h=>by obtain⟨v,r,e,h1,h2⟩:=h;exact⟨v,r,e,DIs.addP hp m.1 h1,dJ.addP' hp m.2 h2⟩
end
def All2 (R:D->D->Prop)(ds es:List D):Prop:=ds.length=es.length/\∀(i:Nat) (a b:D),ds[i]?=some a->es[i]?=some b->R a b
def FrzR (n:Nat)(μ:MS):Nat->D->D->Prop
 | 0,d,d'=>d'=d/\mrB n d
 | k+1,d,d'=>(d'=d/\mrB n d)\/(∃ j ds es,d=.mr j/\n<=j/\μ[j]?=some (.lst ds)/\d'=.lst es/\All2 (FrzR n μ k) ds es)\/(∃ ds es,d=.lst ds/\d'=.lst es/\All2 (FrzR n μ k) ds es)\/(∃ ds es,d=.tup ds/\d'=.tup es/\All2 (FrzR n μ k) ds es)\/(∃ j ks ds es,d=.mr j/\n<=j/\μ[j]?=some (.dic ks ds)/\d'=.dic ks es/\All2 (FrzR n μ k) ds es)
theorem dJ.ofGet {φ:List Addr}{H:Hp}:∀ {ds:List D} {vs:List V},ds.length=vs.length->(∀(i:Nat) (d:D) (v:V),ds[i]?=some d->vs[i]?=some v->DIs φ H d v)->dJ φ H ds vs
 | [],vs,hl,_=>by cases vs with
  | nil=>rfl
  | cons v r=>simp at hl
 | d::ds,vs,hl,h=>by cases vs with
  | nil=>simp at hl
  | cons v r=>exact⟨v,r,rfl,h 0 d v rfl rfl,dJ.ofGet (by simpa using hl) fun i a b e1 e2=>h (i+1) a b (by simpa using e1) (by simpa using e2)⟩
theorem FrzR.is {n:Nat}{φ:List Addr}{H:Hp}{μ:MS}(M:dZ φ H μ)(nin:∀ {j:Nat} {p:Addr},n<=j->φ[j]?=some p->p∉φ.take n):∀ {k:Nat} {d d':D} {v:V},FrzR n μ k d d'->DIs φ H d v->DIs (φ.take n) H d' v:=by
 intro k
 induction k with
 | zero=>intro d d' v h i;obtain⟨rfl,hb⟩:=h;exact i.cutT hb
 | succ k ih =>
  have all:∀ {ds es:List D} {vs:List V},All2 (FrzR n μ k) ds es->dJ φ H ds vs->dJ (φ.take n) H es vs:=fun {ds es vs} ha hd =>
   dJ.ofGet (by rw[hd.len,ha.1]) fun i b v e1 e2=>by
    obtain⟨a,e3,hv⟩:=hd.getV e2
    exact ih (ha.2 i a b e3 e1) hv
  intro d d' v h i
  rcases h with⟨rfl,hb⟩ | ⟨j,ds,es,rfl,hj,e,rfl,ha⟩ | ⟨ds,es,rfl,rfl,ha⟩ | ⟨ds,es,rfl,rfl,ha⟩ | ⟨j,ks,ds,es,rfl,hj,e,rfl,ha⟩
  ·exact i.cutT hb
  ·obtain⟨p,hp,rfl⟩:=i
   obtain⟨p',e1,vs,hv,hd⟩:=M.at_ j _ e
   rw[hp]at e1;cases e1
   exact⟨p,vs,rfl,nin hj hp,hv,all ha hd⟩
  ·obtain⟨p,vs,rfl,hn,hp,hd⟩:=i
   exact⟨p,vs,rfl,fun z=>hn (aN z),hp,all ha hd⟩
  ·obtain⟨p,vs,rfl,hn,hp,hd⟩:=i
   exact⟨p,vs,rfl,fun z=>hn (aN z),hp,all ha hd⟩
  ·obtain⟨p,hp,rfl⟩:=i
   obtain⟨p',e1,kvs,vs,hv,h1,h2,hd⟩:=M.at_ j _ e
   rw[hp]at e1;cases e1
   exact⟨p,kvs,vs,rfl,nin hj hp,hv,h1,h2,all ha hd⟩
def FrzQ (n:Nat)(μ:MS):Nat->D->D->Prop
 | 0,d,d'=>d'=d/\mrB n d
 | k+1,d,d'=>(d'=d/\mrB n d)\/(∃ j ds es,d=.mr j/\n<=j/\μ[j]?=some (.lst ds)/\d'=.lst es/\All2 (FrzQ n μ k) ds es)\/(∃ ds es,d=.lst ds/\d'=.lst es/\All2 (FrzQ n μ k) ds es)\/(∃ ds es,d=.tup ds/\d'=.tup es/\All2 (FrzQ n μ k) ds es)\/(∃ j o kvs ds es,d=.mr j/\n<=j/\μ[j]?=some (.fdic o kvs ds)/\d'=.fdc (kvs.map (·.1)) es/\All2 (FrzQ n μ k) ds es)\/(∃ j C ns ds es,d=.mr j/\n<=j/\μ[j]?=some (.ins C ns ds)/\d'=.obj C ns es/\All2 (FrzQ n μ k) ds es)
theorem FrzQ.is {n:Nat}{φ:List Addr}{H:Hp}{μ:MS}(M:dZ φ H μ)(nin:∀ {j:Nat} {p:Addr},n<=j->φ[j]?=some p->p∉φ.take n):∀ {k:Nat} {d d':D} {v:V},FrzQ n μ k d d'->DIs φ H d v->DIs (φ.take n) H d' v:=by
 intro k
 induction k with
 | zero=>intro d d' v h i;obtain⟨rfl,hb⟩:=h;exact i.cutT hb
 | succ k ih =>
  have all:∀ {ds es:List D} {vs:List V},All2 (FrzQ n μ k) ds es->dJ φ H ds vs->dJ (φ.take n) H es vs:=fun {ds es vs} ha hd =>
   dJ.ofGet (by rw[hd.len,ha.1]) fun i b v e1 e2=>by
    obtain⟨a,e3,hv⟩:=hd.getV e2
    exact ih (ha.2 i a b e3 e1) hv
  intro d d' v h i
  rcases h with⟨rfl,hb⟩ | ⟨j,ds,es,rfl,hj,e,rfl,ha⟩ | ⟨ds,es,rfl,rfl,ha⟩ | ⟨ds,es,rfl,rfl,ha⟩ | ⟨j,o,kvs,ds,es,rfl,hj,e,rfl,ha⟩ | ⟨j,C,ns,ds,es,rfl,hj,e,rfl,ha⟩
  ·exact i.cutT hb
  ·obtain⟨p,hp,rfl⟩:=i
   obtain⟨p',e1,vs,hv,hd⟩:=M.at_ j _ e
   rw[hp]at e1;cases e1
   exact⟨p,vs,rfl,nin hj hp,hv,all ha hd⟩
  ·obtain⟨p,vs,rfl,hn,hp,hd⟩:=i
   exact⟨p,vs,rfl,fun z=>hn (aN z),hp,all ha hd⟩
  ·obtain⟨p,vs,rfl,hn,hp,hd⟩:=i
   exact⟨p,vs,rfl,fun z=>hn (aN z),hp,all ha hd⟩
  ·obtain⟨p,hp,rfl⟩:=i
   obtain⟨p',e1,hv,hd⟩:=M.at_ j _ e
   rw[hp]at e1;cases e1
   exact⟨p,o,kvs,_,rfl,nin hj hp,hv,rfl,rfl,all ha hd⟩
  ·obtain⟨p,hp,rfl⟩:=i
   obtain⟨p',e1,dx,fs,hv,h1,hd⟩:=M.at_ j _ e
   rw[hp]at e1;cases e1
   exact⟨p,dx,fs,_,rfl,nin hj hp,hv,h1,rfl,all ha hd⟩
inductive Fz (n:Nat)(K:DK):DK where
 | keep {d μ} (k:K d μ):Fz n K d μ
 | drop {d μ} (hd:mrB n d) (hm:∀(j:Nat) (m:MO),j<n->μ[j]?=some m->moB n m) (k:K d (μ.take n)):Fz n K d μ
 | lst {j ds μ} (hj:n<=j) (e:μ[j]?=some (.lst ds)) (hd:mrL n ds) (hm:∀(j:Nat) (m:MO),j<n->μ[j]?=some m->moB n m) (k:K (.lst ds) (μ.take n)):Fz n K (.mr j) μ
 | one {j ds μ} (hj:n<=j) (e:μ[j]?=some (.lst ds)) (hd:mrL n ds) (hm:∀(j:Nat) (m:MO),j<n->μ[j]?=some m->moB n m) (k:K (.mr n) (μ.take n++[.lst ds])):Fz n K (.mr j) μ
 | deep {f d d' μ} (e:FrzR n μ f d d') (hm:∀(j:Nat) (m:MO),j<n->μ[j]?=some m->moB n m) (k:K d' (μ.take n)):Fz n K d μ
 | dic {j ks ds μ} (hj:n<=j) (e:μ[j]?=some (.dic ks ds)) (hd:mrL n ds) (hm:∀(j:Nat) (m:MO),j<n->μ[j]?=some m->moB n m) (k:K (.dic ks ds) (μ.take n)):Fz n K (.mr j) μ
 | obj {j C ns ds μ} (hj:n<=j) (e:μ[j]?=some (.ins C ns ds)) (hd:mrL n ds) (hm:∀(j:Nat) (m:MO),j<n->μ[j]?=some m->moB n m) (k:K (.obj C ns ds) (μ.take n)):Fz n K (.mr j) μ
 | fdc {j o kvs ds μ} (hj:n<=j) (e:μ[j]?=some (.fdic o kvs ds)) (hd:mrL n ds) (hm:∀(j:Nat) (m:MO),j<n->μ[j]?=some m->moB n m) (k:K (.fdc (kvs.map (·.1)) ds) (μ.take n)):Fz n K (.mr j) μ
 | deepQ {f d d' μ} (e:FrzQ n μ f d d') (hm:∀(j:Nat) (m:MO),j<n->μ[j]?=some m->moB n m) (k:K d' (μ.take n)):Fz n K d μ
theorem Lif.fz {φ:List Addr}{H:Hp}{μ:MS}{K:DK}{Q:VK}(M:dZ φ H μ)(L:Lif φ H K Q):Lif φ H (Fz μ.length K) Q:=fun d μ' ee v H' k f M' i=>by
 have eφ:ee.take μ.length=φ:=by
  obtain⟨⟨ψ,rfl,_⟩,_,_⟩:=f
  rw[<- M.len,aT]
 have f0:Fr φ H (ee.take μ.length) H':=by
  rw[eφ]
  exact⟨⟨[],by simp,fun _ h=>nomatch h⟩,f.keep,f.dom⟩
 have nin:∀ {j:Nat} {p:Addr},μ.length<=j->ee[j]?=some p->p∉ee.take μ.length:=fun {j p} hj e hp=>by
  obtain⟨i,hi,ei⟩:=bQ hp
  rw[aM]at hi
  rw[List.getElem_take]at ei
  obtain⟨hj',ej⟩:=gxB e
  exact List.pairwise_iff_getElem.mp M'.nd i j (by omega) hj' (by omega) (ei.trans ej.symm)
 cases k with
 | keep k=>exact L d μ' ee v H' k f M' i
 | drop hd hm k=>exact L d _ _ v H' k f0 (M'.cutT hm) (i.cutT hd)
 | @lst j ds _ hj e hd hm k =>
  obtain⟨p,hp,rfl⟩:=i
  obtain⟨p',e1,vs,hv,ha⟩:=M'.at_ j _ e
  rw[hp]at e1;cases e1
  exact L _ _ _ _ H' k f0 (M'.cutT hm) ⟨p,vs,rfl,nin hj hp,hv,ha.cutT hd⟩
 | @one j ds _ hj e hd hm k =>
  obtain⟨p,hp,rfl⟩:=i
  obtain⟨p',e1,vs,hv,ha⟩:=M'.at_ j _ e
  rw[hp]at e1;cases e1
  have M0:=M'.cutT hm
  have hpn:p∉φ:=by have:=nin hj hp;rwa [eφ]at this
  have hH:H p=none:=by
   obtain⟨⟨ψ,rfl,hψ⟩,_,_⟩:=f
   refine hψ p ?_
   have q:=gxD hp
   rcases List.mem_append.mp q with q | q
   ·exact absurd q hpn
   ·exact q
  have M1:dZ (ee.take μ.length) H' (μ'.take μ.length):=M0
  rw[eφ]at M1
  have f1:Fr φ H (φ++[p]) H':=⟨⟨[p],rfl,fun c hc=>by rw[List.mem_singleton.mp hc];exact hH⟩,f.keep,f.dom⟩
  have len:(μ'.take μ.length).length=μ.length:=by rw[<- M1.len,M.len]
  have pin:p∈ee:=gxD hp
  have hdv:dJ (φ++[p]) H' ds vs:=by
   have q:=dJ.addP' pin hd ha
   rwa [eφ]at q
  have M2:dZ (φ++[p]) H' (μ'.take μ.length++[.lst ds]):=by
   refine⟨?_,by rw[gxE,gxE,M1.len];rfl,fun k m ek=>?_⟩
   ·rw[bC]
    exact⟨M.nd,by simp,fun a ha b hb=>by rw[List.mem_singleton.mp hb];intro z;exact hpn (by rw[<- z];exact ha)⟩
   ·by_cases hk:k<μ.length
    ·rw[gxF (by rw[len];exact hk)]at ek
     rw[bq hk]at ek
     obtain⟨q,e1,e2⟩:=M'.at_ k m ek
     have e1':φ[k]?=some q:=by rw[<- eφ,bq hk];exact e1
     refine⟨q,by rw[gxF (by rw[M.len];exact hk)];exact e1',?_⟩
     have hb:=hm k m hk ek
     cases m with
     | box =>
      obtain⟨b,ns,i,r,z,h1,h2,h3,h4⟩:=e2
      exact⟨b,ns,i,r,z,h1,h2,by have:=notin_addP (n:=μ.length) pin h3;rwa [eφ]at this,h4⟩
     | lst es=>obtain⟨us,h1,h2⟩:=e2;exact⟨us,h1,by have:=dJ.addP' pin hb h2;rwa [eφ]at this⟩
     | dic ks es=>obtain⟨kvs,us,h1,h2,h3,h4⟩:=e2;exact⟨kvs,us,h1,h2,h3,by have:=dJ.addP' pin hb h4;rwa [eφ]at this⟩
     | fdic o kvs es=>exact⟨e2.1,by have:=dJ.addP' pin hb e2.2;rwa [eφ]at this⟩
     | ins C ns es=>obtain⟨dx,fs,h1,h2,h3⟩:=e2;exact⟨dx,fs,h1,h2,by have:=dJ.addP' pin hb h3;rwa [eφ]at this⟩
     | dtu ks es=>obtain⟨kvs,h1,h2,h3⟩:=e2;exact⟨kvs,h1,h2,by have:=dJ.addP' pin hb h3;rwa [eφ]at this⟩
     | gx eE H0=>exact⟨by have:=e2.1.takeP (n:=μ.length) hb (p:=p) (e2.1.late (aw hb hj) hp);rwa [eφ]at this,e2.2⟩
     | exc c=>exact e2
    ·have hk':k=μ.length:=by
      have:=(gxB ek).1
      rw[gxE,aO,len]at this
      omega
     subst hk'
     rw[gxG (by rw[len];exact aa _),len,aQ]at ek
     cases ek
     exact⟨p,by rw[gxG (by rw[M.len];exact aa _),M.len,aQ];rfl,vs,hv,hdv⟩
  exact L _ _ _ _ H' k f1 M2 ⟨p,by rw[gxG (by rw[M.len];exact aa _),M.len,aQ];rfl,rfl⟩
 | @deep f' d d' _ e hm k=>exact L _ _ _ _ H' k f0 (M'.cutT hm) (e.is M' nin i)
 | @dic j ks ds _ hj e hd hm k =>
  obtain⟨p,hp,rfl⟩:=i
  obtain⟨p',e1,kvs,vs,hv,h1,h2,ha⟩:=M'.at_ j _ e
  rw[hp]at e1;cases e1
  exact L _ _ _ _ H' k f0 (M'.cutT hm) ⟨p,kvs,vs,rfl,nin hj hp,hv,h1,h2,ha.cutT hd⟩
 | @obj j C ns ds _ hj e hd hm k =>
  obtain⟨p,hp,rfl⟩:=i
  obtain⟨p',e1,dx,fs,h1,h2,h3⟩:=M'.at_ j _ e
  rw[hp]at e1;cases e1
  exact L _ _ _ _ H' k f0 (M'.cutT hm) ⟨p,dx,fs,_,rfl,nin hj hp,h1,h2,rfl,h3.cutT hd⟩
 | @fdc j o kvs ds _ hj e hd hm k =>
  obtain⟨p,hp,rfl⟩:=i
  obtain⟨p',e1,h1,h3⟩:=M'.at_ j _ e
  rw[hp]at e1;cases e1
  exact L _ _ _ _ H' k f0 (M'.cutT hm) ⟨p,o,kvs,_,rfl,nin hj hp,h1,rfl,rfl,h3.cutT hd⟩
 | @deepQ f' d d' _ e hm k=>exact L _ _ _ _ H' k f0 (M'.cutT hm) (e.is M' nin i)
def retN (n:Nat)(K:DK):DN:={ nx:=fun _ μ'=>Fz n K .fB μ',rt:=fun d μ'=>Fz n K d μ'}
def startE (N:List Str)(ds:List D):DE:=ds.map some++List.replicate (N.length - ds.length) none
theorem DEnv.start {φ:List Addr}{H:Hp}{N:List Str}{ds:List D}{vs:List V}(h:dJ φ H ds vs):DEnv φ H (startE N ds) (start N vs):=by
 have hl:=h.len
 unfold startE L2.start
 refine⟨by simp[hl],fun i d e=>?_⟩
 by_cases hi:i<ds.length
 ·rw[gxF (by rw[fC];exact hi),gxH]at e
  have e':ds[i]?=some d:=by
   cases q:ds[i]? with
   | none=>rw[q]at e;cases e
   | some z=>rw[q]at e;cases e;rfl
  obtain⟨v,hv,hd⟩:=h.get e'
  exact⟨v,by rw[gxF (by rw[fC];omega),gxH,hv];rfl,hd⟩
 ·rw[gxG (by rw[fC];omega)]at e
  have:=gxD e
  have:=List.eq_of_mem_replicate this
  cases this
section
variable {P:Program}{w:World}{K:PySem.W.Frag}{mg:Str->Option Value}{base:Heap}
theorem Fun.okD {x qual:Str}{st:Stmt}{f:Addr}{fd:FuncData}{N ps:List Str}{k:Nat}{fs:DSp}(F:Fun K x qual st f fd)(S:dw N ps (dk st))(len:∀ ds μ Kd,fs ds μ Kd->ds.length=ps.length)
 (hbody:∀(cdv:Value) (A:Around) (outer:List Env) (s:Shared) (H:Hp) (E:XK),Room k (A.deeper (envOfC qual (dk st) s.heap.objs.size f cdv)) ->
   ∃ W,PDB (cxOf CX0 P w K mg base N qual (dk st) f cdv A outer s H E).nox (defBody st) W/\∀ ds μ Kd,(∀(j:Nat) (m:MO),μ[j]?=some m->moB μ.length m)->mrL μ.length ds->fs ds μ Kd->W (retN μ.length Kd) (startE N ds) μ):d8 P w K mg base CX0 (k+1) f fd ps (spD fs):=by
 refine F.ok S (fun vs H Q E h=>?_) (fun cdv A outer s H vs Q E hr h=>?_)
 ·obtain⟨φ,ds,μ,Kd,ha,M,hf,L⟩:=h
  rw[ha.len];exact len ds μ Kd hf
 ·obtain⟨φ,ds,μ,Kd,ha,M,hf,L⟩:=h
  obtain⟨W,hW,q⟩:=hbody cdv A outer s H E hr
  refine⟨_,hW,φ,startE N ds,μ,retN μ.length Kd,.start ha,M,q ds μ Kd M.bound (by rw[<- M.len];exact ha.bound) hf,⟨fun ρ' μ' ee σ' H' k' f' A' M'=>?_,L.fz M,fun _ _ _ _ _ k' _ _ _=>k'.elim,fun _ _ _ _ _ k' _ _ _=>k'.elim⟩⟩
  exact L.fz M .fB μ' ee .fB H' k' f' M' rfl
end
end L2
namespace L2
open PySem PySem.Spec PyProof.Rows
theorem Lif.val {φ:List Addr}{H:Hp}{μ:MS}{K:DK}{Q:VK}{d:D}{v:V}(L:Lif φ H K Q)(M:dZ φ H μ)(k:K d μ)(i:DIs φ H d v):Q v H:=L d μ φ v H k (.refl _ _) M i
def dAdd (m:Bool):DOp:=fun x y μ K=>match x,y with
 | .int i,.int j=>K (.int (i+j)) μ
 | .str i,.str j=>i.length+j.length<=sizeLine/\K (.str (i++j)) μ
 | x,y=>opt (lv μ x) fun xs=>opt (lv μ y) fun ys=>xs.length+ys.length<=sizeLine/\nL m (xs++ys) μ K
theorem so_add {m:Bool}:SoOp rAddC (dAdd m):=fun φ H x y dx dy μ K Q M hx hy k L=>by
 unfold dAdd at k
 split at k
 ·cases(show x=_ from hx);cases(show y=_ from hy);exact L.val M k rfl
 ·cases(show x=_ from hx);cases(show y=_ from hy);exact⟨k.1,L.val M k.2 rfl⟩
 ·obtain⟨xs,ex,k⟩:=opt_ex k
  obtain⟨ys,ey,k⟩:=opt_ex k
  obtain⟨p,vx,rfl,hp,ax⟩:=lv_is M hx ex
  obtain⟨q,vy,rfl,hq,ay⟩:=lv_is M hy ey
  exact⟨vx,vy,hp,hq,by rw[ax.len,ay.len];exact k.1,fun l hl=>al_n L M (ax.app ay) k.2 hl⟩
def dI2 (C:Int->Int->Prop)(g:Int->Int->D):DOp:=fun x y μ K=>match x,y with
 | .int i,.int j=>C i j/\K (g i j) μ
 | _,_=>False
def dI2' (g:Int->Int->D):DOp:=fun x y μ K=>match x,y with
 | .int i,.int j=>K (g i j) μ
 | _,_=>False
theorem so_i2 {C:Int->Int->Prop}{g:Int->Int->Int}:SoOp (rI2 C fun i j=>.int (g i j)) (dI2 C fun i j=>.int (g i j)):=fun φ H x y dx dy μ K Q M hx hy k L=>by
 unfold dI2 at k
 split at k
 ·cases(show x=_ from hx);cases(show y=_ from hy);exact⟨k.1,L.val M k.2 rfl⟩
 ·exact k.elim
theorem so_i2' {g:Int->Int->Int}:SoOp (rI2' fun i j=>.int (g i j)) (dI2' fun i j=>.int (g i j)):=fun φ H x y dx dy μ K Q M hx hy k L=>by
 unfold dI2' at k
 split at k
 ·cases(show x=_ from hx);cases(show y=_ from hy);exact L.val M k rfl
 ·exact k.elim
theorem so_b2' {g:Int->Int->Bool}:SoOp (rI2' fun i j=>.bl (g i j)) (dI2' fun i j=>.bl (g i j)):=fun φ H x y dx dy μ K Q M hx hy k L=>by
 unfold dI2' at k
 split at k
 ·cases(show x=_ from hx);cases(show y=_ from hy);exact L.val M k rfl
 ·exact k.elim
def dMul:DOp:=fun x y μ K=>match x,y with
 | .int i,.int j=>CMul i j/\K (.int (i*j)) μ
 | .str z,.int n=>∃ c:Nat,z=⟨#[c]⟩ /\ -1000000<=n/\n<=1000000/\K (.str ⟨(List.replicate n.toNat c).toArray⟩) μ
 | _,_=>False
theorem so_mul:SoOp rMulC dMul:=fun φ H x y dx dy μ K Q M hx hy k L=>by
 unfold dMul at k
 split at k
 ·cases(show x=_ from hx);cases(show y=_ from hy);exact⟨k.1,L.val M k.2 rfl⟩
 ·cases(show x=_ from hx);cases(show y=_ from hy)
  obtain⟨c,rfl,h1,h2,k⟩:=k
  exact⟨c,rfl,h1,h2,L.val M k rfl⟩
 ·exact k.elim
def dEqS (neg:Bool):DOp:=fun x y μ K=>match x,y with
 | .int i,.int j=>K (.bl (neg != decide (i=j))) μ
 | .str i,.str j=>K (.bl (neg != decide (i=j))) μ
 | .bl i,.bl j=>K (.bl (neg != decide (i=j))) μ
 | _,_=>False
theorem so_eqS {neg:Bool}:SoOp (rEqC neg) (dEqS neg):=fun φ H x y dx dy μ K Q M hx hy k L=>by
 unfold dEqS at k
 split at k
 ·cases(show x=_ from hx);cases(show y=_ from hy);exact L.val M k rfl
 ·cases(show x=_ from hx);cases(show y=_ from hy);exact L.val M k rfl
 ·cases(show x=_ from hx);cases(show y=_ from hy);exact L.val M k rfl
 ·exact k.elim
def dIx:DOp:=fun x y μ K=>match x,y with
 | .str z,.int i=>z.length<=sizeLine/\opt (atI z.cps.toList i) fun c=>K (.str ⟨#[c]⟩) μ
 | .tup ds,.int i=>opt (atI ds i) fun d=>K d μ
 | x,.int i=>opt (lv μ x) fun ds=>opt (atI ds i) fun d=>K d μ
 | _,_=>False
theorem dJ.atI {φ:List Addr}{H:Hp}{ds:List D}{vs:List V}{i:Int}{d:D}(h:dJ φ H ds vs)(e:atI ds i=some d):∃ v,atI vs i=some v/\DIs φ H d v:=by
 unfold L2.atI at e ⊢
 rw[h.len]
 cases q:ixN ds.length i with
 | none=>rw[q]at e;cases e
 | some j=>rw[q]at e;exact h.get e
theorem so_ix:SoOp rIxC dIx:=fun φ H x y dx dy μ K Q M hx hy k L=>by
 unfold dIx at k
 split at k
 ·cases(show x=_ from hx);cases(show y=_ from hy)
  obtain⟨c,e,k'⟩:=opt_ex k.2
  exact⟨k.1,dh e (L.val M k' rfl)⟩
 ·cases(show y=_ from hy)
  obtain⟨d,e,k⟩:=opt_ex k
  obtain⟨p,vs,rfl,_,hp,ha⟩:=hx
  obtain⟨v,ev,iv⟩:=ha.atI e
  exact⟨vs,.inr hp,dh ev (L.val M k iv)⟩
 ·cases(show y=_ from hy)
  obtain⟨ds,el,k⟩:=opt_ex k
  obtain⟨d,e,k⟩:=opt_ex k
  obtain⟨p,vs,rfl,hp,ha⟩:=lv_is M hx el
  obtain⟨v,ev,iv⟩:=ha.atI e
  exact⟨vs,.inl hp,dh ev (L.val M k iv)⟩
 ·exact k.elim
abbrev DO:=DE->MS->(Option Int->MS->Prop)->Prop
def tDO (w:DO):TO:=fun σ H Q=>∃ φ ρ μ K,DEnv φ H ρ σ/\dZ φ H μ/\w ρ μ K/\∀ o μ' ee H',K o μ'->Fr φ H ee H'->dZ ee H' μ'->Q o H'
def dNo:DO:=fun _ μ K=>K none μ
def dPart (w:De):DO:=fun ρ μ K=>w ρ μ fun d dF=>match d with | .int i=>K (some i) dF | _=>False
def cutD (ds:List D)(lo hi:Option Int):List D:=(ds.drop (HT.sIx ds.length 0 lo)).take (HT.sIx ds.length ds.length hi - HT.sIx ds.length 0 lo)
def dSlc (m:Bool)(w:De)(l h:DO):De:=fun ρ μ K=>w ρ μ fun x dF=>l ρ dF fun lo eV=>h ρ eV fun hi μ3=>match x with
 | .str z=>z.length<=sizeLine/\K (.str ⟨(cutL z.cps.toList lo hi).toArray⟩) μ3
 | x=>opt (lv μ3 x) fun ds=>nL m (cutD ds lo hi) μ3 K
section
variable {X:Cx}{a b e:Expr}{es:List Expr}{pos:Pos}
theorem PO.imp {e:Option Expr}{t t':TO}(h:PO X e t)(hi:∀ σ H Q,t' σ H Q->t σ H Q):PO X e t':=fun pins s σ H Q I q=>h pins s σ H Q I (hi σ H Q q)
theorem o_no:PO X none (tDO dNo):=po_noC.imp fun σ H Q hq5=>by obtain⟨φ,ρ,μ,K,A,M,k,L⟩:=hq5;exact L none μ φ H k (.refl _ _) M
theorem o_some {w:De}(h:PD X e w):PO X (some e) (tDO (dPart w)):=(po_someC h).imp fun σ H Q ⟨φ,ρ,μ,K,A,M,k,L⟩ =>
 ⟨φ,ρ,μ,_,A,M,k,fun d dF d9 v1 H1 k1 f1 M1 i1=>by
  cases d with
  | int i=>cases(show v1=_ from i1);exact L _ dF d9 H1 k1 f1 M1
  | _=>exact k1.elim⟩
theorem dJ.cut {φ:List Addr}{H:Hp}{ds:List D}{vs:List V}(h:dJ φ H ds vs)(lo hi:Option Int):dJ φ H (cutD ds lo hi) (cutV vs lo hi):=by
 unfold cutD cutV
 rw[h.len]
 exact(h.drop _).take _
theorem d_slice (m:Bool){lo hi:Option Expr}{w:De}{l h:DO}{p:Pos}(ha:PD X a w)(hl:PO X lo (tDO l))(hh:PO X hi (tDO h)):PD X (.Subscript a (.Slice lo hi none p) pos) (dSlc m w l h):=(pe_slice slC ha hl hh).imp fun σ H Q hq=>by
 obtain⟨φ,ρ,μ,K,A,M,k,L⟩:=hq
 refine⟨φ,ρ,μ,_,A,M,k,fun d dF d9 v1 H1 k1 f1 M1 i1=>?_⟩
 refine⟨d9,ρ,dF,_,A.mono f1,M1,k1,fun lo eV φ2 H2 k2 f2 M2=>?_⟩
 refine⟨φ2,ρ,eV,_,A.mono (f1.trans f2),M2,k2,fun hi μ3 φ3 H3 k3 f3 M3=>?_⟩
 have i3:=i1.mono (f2.trans f3)
 have L3:=L.mono (f1.trans (f2.trans f3))
 split at k3
 ·cases(show v1=_ from i3);exact⟨k3.1,L3.val M3 k3.2 rfl⟩
 ·obtain⟨ds,el,k⟩:=opt_ex k3
  obtain⟨p,vs,rfl,hp,ha⟩:=lv_is M3 i3 el
  exact⟨vs,hp,fun l hl=>al_n L3 M3 (ha.cut lo hi) k hl⟩
end
def fLen:DSp:=fun ds μ K=>match ds with
 | [.str z]=>z.length<=sizeLine/\K (.int z.length) μ
 | [.tup xs]=>K (.int xs.length) μ
 | [x]=>opt (lv μ x) fun xs=>K (.int xs.length) μ
 | _=>False
theorem so_len:SoCall rLenC fLen:=fun φ H vs ds μ K Q M h k L=>by
 unfold fLen at k
 split at k
 ·obtain⟨v,r,rfl,h1,h2⟩:=h;cases(show r=[]from h2);cases(show v=_ from h1);exact⟨k.1,L.val M k.2 rfl⟩
 ·obtain⟨v,r,rfl,h1,h2⟩:=h;cases(show r=[]from h2)
  obtain⟨p,vs,rfl,_,hp,ha⟩:=h1
  exact⟨vs,.inr hp,by rw[ha.len];exact L.val M k rfl⟩
 ·obtain⟨v,r,rfl,h1,h2⟩:=h;cases(show r=[]from h2)
  obtain⟨xs,el,k⟩:=opt_ex k
  obtain⟨p,vs,rfl,hp,ha⟩:=lv_is M h1 el
  exact⟨vs,.inl hp,by rw[ha.len];exact L.val M k rfl⟩
 ·exact k.elim
def fMax:DSp:=fun ds μ K=>match ds with | [.int i,.int j]=>K (.int (max i j)) μ | _=>False
theorem so_max:SoCall rMaxC fMax:=fun φ H vs ds μ K Q M h k L=>by
 unfold fMax at k
 split at k
 ·obtain⟨v,r,rfl,h1,u,r',rfl,h2,h3⟩:=h;cases(show r'=[]from h3);cases(show v=_ from h1);cases(show u=_ from h2);exact⟨_,_,rfl,L.val M k rfl⟩
 ·exact k.elim
def fMaxL:DSp:=fun ds μ K=>match ds with
 | [x]=>∃ ns:List Int,lv μ x=some (ns.map D.int)/\ns≠[]/\∀ m,m∈ns->(∀ y∈ns,y<=m)->K (.int m) μ
 | _=>False
def fAll (g:List Bool->Bool):DSp:=fun ds μ K=>match ds with
 | [x]=>∃ bs:List Bool,lv μ x=some (bs.map D.bl)/\K (.bl (g bs)) μ
 | _=>False
theorem so_all {g:List Bool->Bool}:SoCall (rAllC g) (fAll g):=fun φ H vs ds μ K Q M h k L=>by
 unfold fAll at k
 split at k
 ·obtain⟨v,r,rfl,h1,h2⟩:=h;cases(show r=[]from h2)
  obtain⟨bs,el,k⟩:=k
  obtain⟨p,vs,rfl,hp,ha⟩:=lv_is M h1 el
  exact⟨bs,by rw[hp,ha.bls],L.val M k rfl⟩
 ·exact k.elim
def fList (m:Bool):DSp:=fun ds μ K=>match ds with
 | [x]=>opt (lv μ x) fun xs=>nL m xs μ K
 | _=>False
theorem so_list {Kf:PySem.W.Frag}{m:Bool}:SoCall (rListC Kf) (fList m):=fun φ H vs ds μ K Q M h k L=>by
 unfold fList at k
 split at k
 ·obtain⟨v,r,rfl,h1,h2⟩:=h;cases(show r=[]from h2)
  obtain⟨xs,el,k⟩:=opt_ex k
  obtain⟨p,vs,rfl,hp,ha⟩:=lv_is M h1 el
  exact⟨vs,SqL.of hp,fun l hl=>al_n L M ha k hl⟩
 ·exact k.elim
def fJoin:DMt:=fun d ds μ K=>match d,ds with
 | .str z,[x]=>z.cps=#[]/\∃ ys:List Str,lv μ x=some (ys.map D.str)/\(ys.map (·.length)).sum<=16777216/\K (.str ⟨(ys.map (·.cps.toList)).flatten.toArray⟩) μ
 | _,_=>False
theorem so_join {Kf:PySem.W.Frag}:SoMt Kf "str" rJoinC fJoin:=fun φ H x vs d ds μ K Q M hx h k L=>by
 unfold fJoin at k
 split at k
 ·cases(show x=_ from hx)
  obtain⟨v,r,rfl,h1,h2⟩:=h;cases(show r=[]from h2)
  obtain⟨hz,ys,el,hs,k⟩:=k
  obtain⟨p,vs,rfl,hp,ha⟩:=lv_is M h1 el
  exact⟨hz,ys,by rw[hp,ha.strs],hs,L.val M k rfl⟩
 ·exact k.elim
def fCount:DMt:=fun d ds μ K=>match d,ds with
 | .str z,[.str y]=>∃ c:Nat,y=⟨#[c]⟩/\K (.int ((z.cps.toList.count c:Nat):Int)) μ
 | _,_=>False
theorem so_count {Kf:PySem.W.Frag}:SoMt Kf "str" rCountC fCount:=fun φ H x vs d ds μ K Q M hx h k L=>by
 unfold fCount at k
 split at k
 ·cases(show x=_ from hx)
  obtain⟨v,r,rfl,h1,h2⟩:=h;cases(show r=[]from h2);cases(show v=_ from h1)
  obtain⟨c,rfl,k⟩:=k
  exact⟨c,rfl,L.val M k rfl⟩
 ·exact k.elim
theorem mr_at {φ:List Addr}{H:Hp}{μ:MS}{k:Nat}{x:V}{ds:List D}(M:dZ φ H μ)(hx:DIs φ H (.mr k) x)(e:μ[k]?=some (.lst ds)):∃ p vs,x=.ref p/\φ[k]?=some p/\H p=some (.lst vs)/\dJ φ H ds vs:=by
 obtain⟨p,hp,rfl⟩:=hx
 obtain⟨q,e1,vs,hv,ha⟩:=M.at_ k _ e
 rw[hp]at e1;cases e1
 exact⟨p,vs,rfl,hp,hv,ha⟩
theorem mr_put {φ:List Addr}{H:Hp}{μ:MS}{K:DK}{Q:VK}{k:Nat}{p:Addr}{ds:List D}{vs:List V}{d:D}{v:V}(L:Lif φ H K Q)(M:dZ φ H μ)(hp:φ[k]?=some p)(ha:dJ φ H ds vs)(hd:DIs φ H d v)(kk:K d (μ.set k (.lst ds))):Q v (upd H p (.lst vs)):=by
 have f:Fr φ H φ (upd H p (.lst vs)):=.put (gxD hp)
 exact L d _ φ v _ kk f (M.put hp ⟨_,dE,ha.mono f⟩) (hd.mono f)
def fAppend:DMt:=fun d ds μ K=>match d,ds with
 | .mr k,[y]=>opt (lvM μ k) fun xs=>xs.length<sizeLine/\K .fB (μ.set k (.lst (xs++[y])))
 | _,_=>False
theorem so_append {Kf:PySem.W.Frag}:SoMt Kf "list" rAppendC fAppend:=fun φ H x vs d ds μ K Q M hx h k L=>by
 unfold fAppend at k
 split at k
 ·obtain⟨xs,em,k⟩:=opt_ex k
  ·obtain⟨p,us,rfl,hp,hv,ha⟩:=mr_at M hx (lvM_eq em)
   obtain⟨v,r,rfl,h1,h2⟩:=h;cases(show r=[]from h2)
   exact⟨_,_,us,rfl,rfl,hv,by rw[ha.len];exact k.1,mr_put (d:=.fB) (v:=.fB) L M hp (ha.app (show dJ φ H [_] [v]from⟨v,[],rfl,h1,rfl⟩)) rfl k.2⟩
 ·exact k.elim
theorem so_ipI {f:Int->Int->Int}:SoIp (ipC f) (dI2' fun i j=>.int (f i j)):=fun φ H x y dx dy μ K Q M hx hy k L=>by
 unfold dI2' at k
 split at k
 ·cases(show x=_ from hx);cases(show y=_ from hy);exact L.val M k rfl
 ·exact k.elim
mutual
def deq:D->D->Bool
 | .fB,.fB=>true
 | .bl a,.bl b=>a==b
 | .bl a,.int b=>(if a then 1 else 0)==b
 | .int a,.bl b=>a==(if b then 1 else 0)
 | .int a,.int b=>a==b
 | .str a,.str b=>a==b
 | .lst xs,.lst ys=>deqL xs ys
 | .tup xs,.tup ys=>deqL xs ys
 | _,_=>false
def deqL:List D->List D->Bool
 | [],[]=>true
 | x::xs,y::ys=>deq x y&&deqL xs ys
 | _,_=>false
end
end L2
namespace L2
open PySem PySem.Spec PyProof.Rows
def fltD:D->Bool
 | .fB=>true
 | .bl _=>true
 | .int _=>true
 | .str _=>true
 | _=>false
section
variable {X:Cx}
def rInC (neg:Bool):R2:=fun x y H Q=>match x,y with
 | .str z,.str t=>∃ c:Nat,z=⟨#[c]⟩/\Q (.bl (neg != decide (c∈t.cps.toList))) H
 | x,.ref p=>∃ xs,(H p=some (.lst xs)\/H p=some (.tup xs))/\flatV x=true/\xs.all flatV=true/\Q (.bl (neg != inV x xs)) H
 | _,_=>False
theorem inC:OpR X (compareOp .In) (rInC false):=(op_in_str.or op_in_seq).imp fun x y H Q q=>by
 unfold rInC at q
 split at q
 ·obtain⟨c,rfl,q⟩:=q
  exact .inl ⟨_,_,rfl,rfl,by rw[StrLaws.found_one];rw[fne]at q;exact q⟩
 ·obtain⟨xs,h,h1,h2,q⟩:=q
  rw[fne]at q
  rcases h with h | h
  ·exact .inr ⟨_,xs,rfl,.inl (SqL.of h),h1,h2,q⟩
  ·exact .inr ⟨_,xs,rfl,.inr (SqT.of h),h1,h2,q⟩
 ·exact q.elim
theorem notInC:OpR X (compareOp .NotIn) (rInC true):=(op_notIn_str.or op_notIn_seq).imp fun x y H Q q=>by
 unfold rInC at q
 split at q
 ·obtain⟨c,rfl,q⟩:=q
  exact .inl ⟨_,_,rfl,rfl,by rw[StrLaws.found_one];rw[tne]at q;exact q⟩
 ·obtain⟨xs,h,h1,h2,q⟩:=q
  rw[tne]at q
  rcases h with h | h
  ·exact .inr ⟨_,xs,rfl,.inl (SqL.of h),h1,h2,q⟩
  ·exact .inr ⟨_,xs,rfl,.inr (SqT.of h),h1,h2,q⟩
 ·exact q.elim
end
def dIn (neg:Bool):DOp:=fun x y μ K=>match x,y with
 | .str z,.str t=>∃ c:Nat,z=⟨#[c]⟩/\K (.bl (neg != decide (c∈t.cps.toList))) μ
 | x,y=>opt (lv μ y) fun ds=>fltD x=true/\ds.all fltD=true/\K (.bl (neg != ds.any fun d=>deq d x)) μ
theorem flt_is {φ:List Addr}{H:Hp}{d:D}{v:V}(i:DIs φ H d v)(h:fltD d=true):flatV v=true:=by
 cases d <;> first | exact(Bool.noConfusion (show false=true from h)) | (cases(show v=_ from i);rfl)
theorem flt_eq {φ:List Addr}{H:Hp}{d e:D}{v u:V}(i:DIs φ H d v)(j:DIs φ H e u)(h:fltD d=true)(h':fltD e=true):eqV v u=deq d e:=by
 cases d <;> first
  | exact(Bool.noConfusion (show false=true from h))
  | (cases(show v=_ from i)
     cases e <;> first
      | exact(Bool.noConfusion (show false=true from h'))
      | (cases(show u=_ from j);unfold eqV deq;rfl))
theorem flt_all {φ:List Addr}{H:Hp}{x:D}{v:V}(i:DIs φ H x v)(hx:fltD x=true):∀ {ds:List D} {vs:List V},dJ φ H ds vs->ds.all fltD=true->vs.all flatV=true/\inV v vs=ds.any fun d=>deq d x
 | [],_,h,_=>by cases(show _=[]from h);exact⟨rfl,rfl⟩
 | d::ds,_,h,f=>by
  obtain⟨u,r,rfl,h1,h2⟩:=h
  rw[cJ,bc]at f
  obtain⟨a,b⟩:=flt_all i hx h2 f.2
  unfold inV at b ⊢
  rw[cJ,bf,bf,a,b,flt_is h1 f.1,flt_eq h1 i f.1 hx]
  exact⟨rfl,rfl⟩
theorem so_in {neg:Bool}:SoOp (rInC neg) (dIn neg):=fun φ H x y dx dy μ K Q M hx hy k L=>by
 unfold dIn at k
 split at k
 ·cases(show x=_ from hx);cases(show y=_ from hy)
  obtain⟨c,rfl,k⟩:=k
  exact⟨c,rfl,L.val M k rfl⟩
 ·obtain⟨ds,el,f1,f2,k⟩:=opt_ex k
  obtain⟨p,vs,rfl,hp,ha⟩:=lv_is M hy el
  obtain⟨a,b⟩:=flt_all hx f1 ha f2
  have fx:=flt_is hx f1
  have key:∃ xs,(H p=some (.lst xs)\/H p=some (.tup xs))/\flatV x=true/\xs.all flatV=true/\Q (.bl (neg != inV x xs)) H:=⟨vs,.inl hp,fx,a,by rw[b];exact L.val M k rfl⟩
  unfold rInC
  cases x <;> exact key
theorem range_any (bs:List Bool):(List.range bs.length).any (fun i=>bs.getD i false)=bs.any id:=by
 rw[cx,List.any_eq_true,List.any_eq_true]
 constructor
 ·rintro⟨i,hi,e⟩
  have hi':i<bs.length:=by simpa using hi
  rw[aU,gxA hi']at e
  exact⟨_,ck hi',e⟩
 ·rintro⟨b,hb,e⟩
  obtain⟨i,hi,e2⟩:=bQ hb
  refine⟨i,by simpa using hi,?_⟩
  rw[aU,gxA hi,e2]
  exact e
theorem anyC {X:Cx}(hc:X.calm=true):CallR X (.builtin "any") (rAllC fun bs=>bs.any id):=by
 intro pins s σ H vs us Q I rv h
 unfold rAllC at h
 split at h
 ·rename_i p
  obtain⟨bs,hp,q⟩:=h
  obtain⟨u,rfl,ru⟩:=rv.one
  cases ru
  obtain⟨z,d7,n,r,hl,e⟩:=I.lstM hp
  have isl:s.heap.IsList p d7.toArray:=⟨_,e,rfl,n,rfl⟩
  have lt:p≠s.heap.objs.size:=aC (gxN e)
  refine call_any_walk (wpAny_pyIter_list isl ⟨_,_,_,_,_,_,fun i=>bs.getD i false,rfl,Walks.list (A:=X.A.in1) (I.ok.hd hc) s.heap.objs.size p lt d7.toArray,⟨⟨_,au _ rfl,rfl,rfl⟩,isl.push _⟩,?_,fun h' tk kp=>?_⟩)
  ·intro i v s' Q' E' hv hq
   have hv':d7[i]?=some v:=by simpa using hv
   have hb:∃ b,bs[i]?=some b/\v=.bool b:=by
    cases eb:(bs.map V.bl)[i]? with
    | none=>have:=r.none_of eb;rw[hv']at this;cases this
    | some y =>
     obtain⟨u,hu,ry⟩:=r.get eb
     rw[hv']at hu;cases hu
     rw[gxH]at eb
     cases e2:bs[i]? with
     | none=>rw[e2]at eb;cases eb
     | some b=>rw[e2]at eb;cases eb;exact⟨b,rfl,ry⟩
   obtain⟨b,eb,rfl⟩:=hb
   have e3:bs.getD i false=b:=by rw[aU,eb];rfl
   have hq':Q' (bs.getD i false) s':=hq
   rw[e3]at hq'
   exact bG hq'
  ·have I2:Inv X pins σ H { s with heap:=h',toks:=tk}:=I.kept fun b o e'=>kp b o (by simpa using aC (gxN e')) (gxL _ e')
   have len:d7.toArray.size=bs.length:=by rw[ar,<- hl,fC]
   rw[len,range_any]
   exact⟨.bl _,H,I2,rfl,q⟩
 ·exact h.elim
def BxQ (H:Hp)(b q:Addr):Prop:=∃(ns:List Int) (i r z:Int),H b=some (.lst [.ref q,.int i,.int r,.int z])/\H q=some (.lst (ns.map V.int))/\q≠b/\0<=i/\0<=z/\z<2147483647
def spTakeQ:Sp:=fun vs H Q _=>match vs with
 | [.ref b,.int n]=>∃ q,BxQ H b q/\0<n/\n<1073741824/\∀ v H',0<=v->v<n->BxQ H' b q->OB b H H'->Q (.int v) H'
 | _=>False
theorem spTakeQ_inv {vs:List V}{H:Hp}{Q:VK}{E:XK}(h:spTakeQ vs H Q E):∃ b n q,vs=[.ref b,.int n]/\BxQ H b q/\0<n/\n<1073741824/\∀ v H',0<=v->v<n->BxQ H' b q->OB b H H'->Q (.int v) H':=by
 unfold spTakeQ at h
 split at h
 ·obtain⟨q,h⟩:=h;exact⟨_,_,q,rfl,h⟩
 ·exact h.elim
def fTake:DSp:=fun ds μ K=>match ds with
 | [.mr k,.int n]=>μ[k]?=some .box/\0<n/\n<1073741824/\∀ v,0<=v->v<n->K (.int v) μ
 | _=>False
theorem take_imp {vs:List V}{H:Hp}{Q:VK}{E:XK}(h:spD fTake vs H Q E):spTakeQ vs H Q E:=by
 obtain⟨φ,ds,μ,K,ha,M,k,L⟩:=h
 unfold fTake at k
 split at k
 ·rename_i kk n
  obtain⟨v,r,rfl,h1,u,r',rfl,h2,h3⟩:=ha
  cases(show r'=[]from h3);cases(show u=_ from h2)
  obtain⟨b,hb,rfl⟩:=h1
  obtain⟨em,hn,hn2,k⟩:=k
  obtain⟨b',e1,q,ns,i,r,z,g1,g2,g3,g4,g5,g6⟩:=M.at_ kk _ em
  rw[hb]at e1;cases e1
  have bin:b∈φ:=gxD hb
  have qb:q≠b:=fun e=>g3 (by rw[e];exact bin)
  refine⟨q,⟨ns,i,r,z,g1,g2,qb,g4,g5,g6⟩,hn,hn2,fun v H' v0 v1 B' ob=>?_⟩
  obtain⟨ns',i',r',z',b1,b2,b3,b4,b5,b6⟩:=B'
  have f:Fr φ H φ H':=⟨⟨[],by simp,fun _ h=>nomatch h⟩,fun c o hc e=>(ob c (fun e'=>hc (by rw[e'];exact bin))).trans e,fun c e=>by
   by_cases hc:c=b
   ·rw[hc,b1]at e;cases e
   ·rw[<- ob c hc];exact e⟩
  refine L _ μ φ _ H' (k v v0 v1) f ⟨M.nd,M.len,fun j m ej=>?_⟩ rfl
  by_cases hj:j=kk
  ·subst hj
   rw[em]at ej;cases ej
   exact⟨b,hb,q,ns',i',r',z',b1,b2,g3,b4,b5,b6⟩
  ·obtain⟨p,e1,e2⟩:=M.at_ j m ej
   refine⟨p,e1,e2.mono f fun o eo=>?_⟩
   have pb:p≠b:=fun e=>by
    subst e
    obtain⟨i1,r1⟩:=gxB hb
    obtain⟨i2,r2⟩:=gxB e1
    rcases Nat.lt_or_gt_of_ne hj with z | z
    ·exact List.pairwise_iff_getElem.mp M.nd j kk i2 i1 z (r2.trans r1.symm)
    ·exact List.pairwise_iff_getElem.mp M.nd kk j i1 i2 z (r1.trans r2.symm)
   rw[ob p pb];exact eo
 ·exact k.elim
def spBoxQ (K:PySem.W.Frag):Sp:=fun vs H Q _=>match vs with
 | [.ref a]=>∃ ns:List Int,SqL K H a (ns.map V.int)/\∀ b q H',BxQ H' b q->H b=none->H q=none->Same H H'->Q (.ref b) H'
 | _=>False
theorem box_start {H:Hp}{b q:Addr}(h:BxQ H b q):dZ [b] H [.box]:=by
 obtain⟨ns,i,r,z,h1,h2,h3,h4,h5,h6⟩:=h
 refine⟨by simp,rfl,fun k m e=>?_⟩
 cases k with
 | zero=>cases e;exact⟨b,rfl,q,ns,i,r,z,h1,h2,by simpa using h3,h4,h5,h6⟩
 | succ k=>simp at e
mutual
def smD:Nat->D->Prop
 | n+1,.lst ds=>ds.length<=100000/\smL n ds
 | n+1,.tup ds=>ds.length<=100000/\smL n ds
 | 0,.lst _=>False
 | 0,.tup _=>False
 | _,.dic _ _=>False
 | _,.mr _=>False
 | _,.obj _ _ _=>False
 | _,.fdc _ _=>False
 | _,.fn _=>False
 | _,_=>True
def smL:Nat->List D->Prop
 | _,[]=>True
 | n,d::ds=>smD n d/\smL n ds
end
theorem smL_all {n:Nat}:∀ {ds:List D},(∀ d∈ds,smD n d)->smL n ds
 | [],_=>by unfold smL;trivial
 | d::ds,h=>by unfold smL;exact⟨h d av,smL_all fun x hx=>h x (gxI _ hx)⟩
theorem sm_lst {n:Nat}{ds:List D}(hl:ds.length<=100000)(h:∀ d∈ds,smD n d):smD (n+1) (.lst ds):=by unfold smD;exact⟨hl,smL_all h⟩
theorem sm_tup {n:Nat}{ds:List D}(hl:ds.length<=100000)(h:∀ d∈ds,smD n d):smD (n+1) (.tup ds):=by unfold smD;exact⟨hl,smL_all h⟩
theorem sm_int {n:Nat}{i:Int}:smD n (.int i):=by cases n <;> (unfold smD;trivial)
theorem sm_str {n:Nat}{i:Str}:smD n (.str i):=by cases n <;> (unfold smD;trivial)
theorem sm_bl {n:Nat}{i:Bool}:smD n (.bl i):=by cases n <;> (unfold smD;trivial)
theorem sm_ints {n:Nat}{ns:List Int}(h:ns.length<=100000):smD (n+1) (.lst (ns.map D.int)):=sm_lst (by rw[fC];exact h) fun d hd=>by
 obtain⟨i,_,rfl⟩:=List.mem_map.mp hd;exact sm_int
mutual
def toDV:D->DV
 | .fB=>.fB
 | .bl b=>.bl b
 | .int i=>.int i
 | .str z=>.str z
 | .lst ds=>.lst (toDVs ds)
 | .tup ds=>.tup (toDVs ds)
 | _=>.fB
def toDVs:List D->List DV
 | []=>[]
 | d::ds=>toDV d::toDVs ds
end
theorem toDVs_len:∀ ds:List D,(toDVs ds).length=ds.length
 | []=>rfl
 | d::ds=>by unfold toDVs;rw[aG,aG,toDVs_len ds]
mutual
theorem sm_dv {φ:List Addr}{H:Hp}:∀ {n:Nat} {d:D},smD n d->(∀ v,DIs φ H d v->Is H (toDV d) v)/\dep (toDV d)<=n/\wid (toDV d)<=100000:=fun {n d} h=>by
 cases d with
 | lst ds =>
  cases n with
  | zero=>exact absurd h (by unfold smD;exact id)
  | succ n =>
   unfold smD at h
   obtain⟨a,b,c⟩:=sm_dvs (φ:=φ) (H:=H) h.2
   refine⟨fun v hv=>?_,?_,?_⟩
   ·obtain⟨p,vs,rfl,_,hp,q⟩:=hv
    unfold toDV
    exact⟨p,vs,rfl,hp,a vs q⟩
   ·unfold toDV dep;omega
   ·have:=toDVs_len ds
    unfold toDV wid;omega
 | tup ds =>
  cases n with
  | zero=>exact absurd h (by unfold smD;exact id)
  | succ n =>
   unfold smD at h
   obtain⟨a,b,c⟩:=sm_dvs (φ:=φ) (H:=H) h.2
   refine⟨fun v hv=>?_,?_,?_⟩
   ·obtain⟨p,vs,rfl,_,hp,q⟩:=hv
    unfold toDV
    exact⟨p,vs,rfl,hp,a vs q⟩
   ·unfold toDV dep;omega
   ·have:=toDVs_len ds
    unfold toDV wid;omega
 | fB=>exact⟨fun v hv=>hv,aX _,aX _⟩
 | bl b=>exact⟨fun v hv=>hv,aX _,aX _⟩
 | int b=>exact⟨fun v hv=>hv,aX _,aX _⟩
 | str b=>exact⟨fun v hv=>hv,aX _,aX _⟩
 | dic _ _=>exact absurd h (by cases n <;> (unfold smD;exact id))
 | mr _=>exact absurd h (by cases n <;> (unfold smD;exact id))
 | obj _ _ _=>exact absurd h (by cases n <;> (unfold smD;exact id))
 | fdc _ _=>exact absurd h (by cases n <;> (unfold smD;exact id))
 | fn _=>exact absurd h (by cases n <;> (unfold smD;exact id))
theorem sm_dvs {φ:List Addr}{H:Hp}:∀ {n:Nat} {ds:List D},smL n ds->(∀ vs,dJ φ H ds vs->IsAll H (toDVs ds) vs)/\depL (toDVs ds)<=n/\widL (toDVs ds)<=100000:=fun {n ds} h=>by
 cases ds with
 | nil=>exact⟨fun vs hv=>hv,aX _,aX _⟩
 | cons d ds =>
  unfold smL at h
  obtain⟨a,b,c⟩:=sm_dv (φ:=φ) (H:=H) h.1
  obtain⟨a',b',c'⟩:=sm_dvs (φ:=φ) (H:=H) h.2
  refine⟨fun vs hv=>?_,?_,?_⟩
  ·obtain⟨v,r,rfl,h1,h2⟩:=hv
   unfold toDVs
   exact⟨v,r,rfl,a v h1,a' r h2⟩
  ·unfold toDVs depL;omega
  ·unfold toDVs widL;omega
end
def frzD (μ:MS):D->Option D
 | .mr k=>(lvM μ k).map .lst
 | x=>some x
theorem frzD_is {φ:List Addr}{H:Hp}{μ:MS}{x d:D}{v:V}{n:Nat}(M:dZ φ H μ)(e:frzD μ x=some d)(hs:smD n d)(h:DIs φ H x v):Is H (toDV d) v:=by
 cases x with
 | mr k =>
  obtain⟨p,hp,rfl⟩:=h
  have e':(lvM μ k).map D.lst=some d:=e
  cases q:lvM μ k with
  | none=>rw[q]at e';cases e'
  | some ds =>
   rw[q]at e';cases e'
   obtain⟨p',e1,vs,hv,ha⟩:=M.at_ k _ (lvM_eq q)
   rw[hp]at e1;cases e1
   cases n with
   | zero=>exact absurd hs (by unfold smD;exact id)
   | succ n =>
    unfold smD at hs
    unfold toDV
    exact⟨p,vs,rfl,hv,(sm_dvs (φ:=φ) (H:=H) hs.2).1 vs ha⟩
 | fB=>cases e;exact(sm_dv (φ:=φ) (H:=H) hs).1 v h
 | bl b=>cases e;exact(sm_dv (φ:=φ) (H:=H) hs).1 v h
 | int b=>cases e;exact(sm_dv (φ:=φ) (H:=H) hs).1 v h
 | str b=>cases e;exact(sm_dv (φ:=φ) (H:=H) hs).1 v h
 | lst b=>cases e;exact(sm_dv (φ:=φ) (H:=H) hs).1 v h
 | tup b=>cases e;exact(sm_dv (φ:=φ) (H:=H) hs).1 v h
 | obj _ _ _=>cases e;exact(sm_dv (φ:=φ) (H:=H) hs).1 v h
 | fdc _ _=>cases e;exact(sm_dv (φ:=φ) (H:=H) hs).1 v h
 | fn _=>cases e;exact(sm_dv (φ:=φ) (H:=H) hs).1 v h
 | dic _ _=>cases e;exact absurd hs (by cases n <;> (unfold smD;exact id))
def fSame:DSp:=fun ds μ K=>match ds with
 | [x,y]=>∃ d,frzD μ x=some d/\frzD μ y=some d/\smD 5 d/\K (.bl true) μ
 | _=>False
theorem same_imp {vs:List V}{H:Hp}{Q:VK}{E:XK}(h:spD fSame vs H Q E):spSame 5 vs H Q E:=by
 obtain⟨φ,ds,μ,K,ha,M,k,L⟩:=h
 unfold fSame at k
 split at k
 ·obtain⟨v,r,rfl,h1,u,r',rfl,h2,h3⟩:=ha
  cases(show r'=[]from h3)
  obtain⟨d,e1,e2,hs,k⟩:=k
  obtain⟨a,b,c⟩:=sm_dv (φ:=φ) (H:=H) hs
  exact⟨toDV d,b,bT c (by decide),frzD_is M e1 hs h1,frzD_is M e2 hs h2,fun H' S=>L _ μ φ _ H' k (.same S) (M.same S) rfl⟩
 ·exact k.elim
theorem forW_inv {g:DG}{b:Ds}{N:DN}{c:MS->Prop}(Pv:List D->DE->MS->Prop):∀ {ds:List D} {ρ:DE} {μ:MS},Pv ds ρ μ->(∀ d ds' ρ μ,Pv (d::ds') ρ μ->c μ/\∀(nx:DE->MS->Prop),(∀ ρ' μ',Pv ds' ρ' μ'->nx ρ' μ')->g d ρ μ fun ρ2 eV=>b { N with nx:=nx,ct:=nx,bk:=N.nx} ρ2 eV)->(∀ ρ μ,Pv [] ρ μ->c μ/\N.nx ρ μ)->forW g b N c ds ρ μ
 | [],ρ,μ,h,hs,hd=>hd ρ μ h
 | d::ds,ρ,μ,h,hs,hd=>by
  obtain⟨c',st⟩:=hs d ds ρ μ h
  exact⟨c',st _ fun ρ' μ' h'=>forW_inv Pv h' hs hd⟩
end L2
namespace L2
open PySem PySem.Spec PyProof.Rows
structure Bi2 (mg:Str->Option Value):Prop where
 len:mg "len"=none
 range:mg "range"=none
 list:mg "list"=none
 isinstance:mg "isinstance"=none
 max:mg "max"=none
 min:mg "min"=none
 bool:mg "bool"=none
 tuple:mg "tuple"=none
 str:mg "str"=none
 int:mg "int"=none
 all:mg "all"=none
 any:mg "any"=none
 zip:mg "zip"=none
 enumerate:mg "enumerate"=none
 reversed:mg "reversed"=none
 dict:mg "dict"=none
 sorted:mg "sorted"=none
abbrev txt (l:List Nat):Str:=⟨l.toArray⟩
def fBars:DSp:=fun ds μ K=>match ds with
 | [.mr k,.int n]=>μ[k]?=some .box/\1<=n/\n<=1000/\∀ l:List Nat,l.length=n.toNat->OX l->K (.str (txt l)) μ
 | _=>False
abbrev Tk:=List Nat×Int
def tkD (t:Tk):D:=.tup [.str (txt t.1),.int t.2]
theorem sz {n:Nat}(h:n<=100000):n<=sizeLine:=aw h (by decide)
def cutN (l:List Nat)(a b:Int):List Nat:=cutL l (some a) (some b)
def bad (ts:List Tk)(p:Int×Int):Bool:=ts.all fun t=>decide (120∈cutN t.1 p.1 p.2)
theorem compW_any {α:Type}(g:α->D)(P:α->Prop){it:D->MS->(Option D->MS->Prop)->Prop}{c:MS->Prop}{μ:MS}(hc:c μ):∀ {ds:List D} {K:List D->MS->Prop},(∀ d∈ds,∀(K':Option D->MS->Prop),(∀ a,P a->K' (some (g a)) μ)->it d μ K')->(∀ as:List α,as.length=ds.length->(∀ a∈as,P a)->K (as.map g) μ)->compW it c ds μ K
 | [],K,_,k=>⟨hc,k [] rfl fun _ h=>nomatch h⟩
 | d::ds,K,h,k=>⟨hc,h d av _ fun a ha=>compW_any g P hc (fun x hx=>h x (gxI _ hx)) fun as hl hp=>k (a::as) (by rw[aG,aG,hl]) fun x hx=>by
  rcases List.mem_cons.mp hx with e | e
  ·rw[e];exact ha
  ·exact hp x e⟩
theorem rngD_eq (lo:Int)(n:Nat):rngD lo n=((List.range n).map fun i=>lo+(i:Nat)).map D.int:=by unfold rngD;rw[aB];rfl
theorem rngD_len (lo:Int)(n:Nat):(rngD lo n).length=n:=by unfold rngD;rw[fC,gxJ]
theorem atI_map {α β:Type}{g:α->β}{xs:List α}{i:Nat}{a:α}(h:xs[i]?=some a):atI (xs.map g) (i:Int)=some (g a):=atI_nat (by rw[gxH,h];rfl)
theorem txt_len (l:List Nat):(txt l).length=l.length:=lenS l
theorem txt_list (l:List Nat):(txt l).cps.toList=l:=by simp
theorem cutL_le {α:Type}(l:List α)(lo hi:Option Int):(cutL l lo hi).length<=l.length:=cutL_len l lo hi
theorem sm_tk {n:Nat}(t:Tk):smD (n+1) (tkD t):=by
 unfold tkD
 refine sm_tup (by simp) fun d hd=>?_
 simp only[bF,bp,cI]at hd
 rcases hd with rfl | rfl
 ·exact sm_str
 ·exact sm_int
theorem sm_tks {n:Nat}{ts:List Tk}(h:ts.length<=100000):smD (n+2) (.lst (ts.map tkD)):=sm_lst (by rw[fC];exact h) fun d hd=>by
 obtain⟨t,_,rfl⟩:=List.mem_map.mp hd;exact sm_tk t
theorem set_end {μ:MS}{x y:MO}:(μ++[x]).set μ.length y=μ++[y]:=by
 rw[List.set_append_right _ _ (aa _),aQ];rfl
theorem law_env {m:Nat}{b:Addr}{H:Hp}{x:Option V}:DEnv [b] H (none::some (.mr 0)::List.replicate m none) (x::some (.ref b)::List.replicate m none):=by
 refine⟨by simp,fun i d e=>?_⟩
 cases i with
 | zero=>cases e
 | succ i =>
  cases i with
  | zero=>cases e;exact⟨_,rfl,b,rfl,rfl⟩
  | succ i =>
   have:=List.eq_of_mem_replicate (gxD (show(List.replicate m (none:Option D))[i]?=some (some d)from e))
   cases this
def lawN:DN:={ nx:=fun _ _=>False,rt:=fun d _=>d=.bl true}
theorem law_go {m:Nat}{b q a:Addr}{H:Hp}{Q:VK}{W:Ds}(B:BxQ H b q)(w:W lawN (none::some (.mr 0)::List.replicate m none) [.box])(k:∀ H',Q (.bl true) H'):tDS W { nx:=fun _ H'=>Q .fB H',rt:=Q} (some (.ref a)::some (.ref b)::List.replicate m none) H :=
 ⟨[b],_,[.box],lawN,law_env,box_start B,w,⟨fun _ _ _ _ _ z=>z.elim,fun d μ' ee v H' kd _ _ i=>by cases(show d=.bl true from kd);cases(show v=_ from i);exact k H',fun _ _ _ _ _ z=>z.elim,fun _ _ _ _ _ z=>z.elim⟩⟩
section
variable {κ:Type}[DecidableEq κ]
def valV (kvs:List (κ×V))(k:κ):Option V:=(kvs.find? fun kv=>decide (kv.1=k)).map (·.2)
def putK (kvs:List (κ×V))(k:κ)(v:V):List (κ×V) :=
 if(kvs.any fun kv=>decide (kv.1=k))=true then kvs.map (fun kv=>if kv.1=k then(kv.1,v)else kv)else kvs++[(k,v)]
def dropK (kvs:List (κ×V))(k:κ):List (κ×V):=kvs.filter fun kv=>decide (kv.1≠k)
theorem valV_pos {p:κ×V}{r:List (κ×V)}{k:κ}(e:p.1=k):valV (p::r) k=some p.2:=by simp[valV,bj,e]
theorem valV_neg {p:κ×V}{r:List (κ×V)}{k:κ}(e:¬ p.1=k):valV (p::r) k=valV r k:=by simp[valV,bj,e]
theorem valV_any (k:κ):∀ kvs:List (κ×V),(kvs.any fun kv=>decide (kv.1=k))=(valV kvs k).isSome
 | []=>rfl
 | p::r=>by
  rw[bf]
  by_cases e:p.1=k
  ·simp only[valV_pos e,ao e,Bool.true_or,Option.isSome_some]
  ·rw[valV_neg e,aj e,Bool.false_or];exact valV_any k r
theorem length_putK (kvs:List (κ×V))(k:κ)(v:V):(putK kvs k v).length<=kvs.length+1:=by
 unfold putK
 split
 ·rw[fC];omega
 ·rw[gxE,aG,cN];omega
theorem RelO.isSome_eq {o:Option V}{u:Option Value}(r:RelO o u):o.isSome=u.isSome:=by
 cases o with
 | none=>cases u with
  | none=>rfl
  | some _=>exact(show False from r).elim
 | some _=>cases u with
  | none=>exact(show False from r).elim
  | some _=>rfl
theorem KV.val {kvs:List (κ×V)}{vs:List (κ×Value)}(r:KV kvs vs)(k:κ):RelO (valV kvs k) (valueAt vs k):=by
 unfold KV at r
 induction r with
 | nil=>exact True.intro
 | @cons p q ps qs h t ih =>
  obtain⟨h1,h2⟩:=h
  by_cases e:p.1=k
  ·have e':q.1=k:=h1.symm.trans e
   have b:valueAt (q::qs) k=some q.2:=by simp[valueAt,bj,e']
   rw[valV_pos e,b];exact h2
  ·have e':¬ q.1=k:=fun z=>e (h1.trans z)
   have b:valueAt (q::qs) k=valueAt qs k:=by simp[valueAt,bj,e']
   rw[valV_neg e,b];exact ih
theorem KV.any {kvs:List (κ×V)}{vs:List (κ×Value)}(r:KV kvs vs)(k:κ):(kvs.any fun kv=>decide (kv.1=k))=vs.any fun kv=>decide (kv.1=k):=by
 unfold KV at r
 induction r with
 | nil=>rfl
 | cons h t ih=>rw[bf,bf,ih,h.1]
theorem KV.repl {kvs:List (κ×V)}{vs:List (κ×Value)}(r:KV kvs vs)(k:κ){y:V}{u:Value}(ry:RelV y u) :
 KV (kvs.map fun kv=>if kv.1=k then(kv.1,y)else kv) (vs.map fun kv=>if kv.1=k then(kv.1,u)else kv):=by
 unfold KV at r ⊢
 induction r with
 | nil=>exact .nil
 | @cons p q ps qs h t ih =>
  rw[ai,ai]
  refine .cons ?_ ih
  obtain⟨h1,h2⟩:=h
  by_cases e:p.1=k
  ·rw[ag e,ag (h1.symm.trans e)];exact⟨h1,ry⟩
  ·rw[ae e,ae (fun z=>e (h1.trans z))];exact⟨h1,h2⟩
theorem KV.put {kvs:List (κ×V)}{vs:List (κ×Value)}(r:KV kvs vs)(k:κ){y:V}{u:Value}(ry:RelV y u):KV (putK kvs k y) (stored vs k u):=by
 unfold putK stored
 rw[r.any k]
 by_cases e:(vs.any fun kv=>decide (kv.1=k))=true
 ·rw[ag e,ag e];exact r.repl k ry
 ·rw[ae e,ae e];exact Paired.snoc r ⟨rfl,ry⟩
theorem KV.drop {kvs:List (κ×V)}{vs:List (κ×Value)}(r:KV kvs vs)(k:κ):KV (dropK kvs k) (without vs k):=by
 unfold KV at r ⊢
 unfold dropK without
 induction r with
 | nil=>exact .nil
 | @cons p q ps qs h t ih =>
  obtain⟨h1,h2⟩:=h
  rw[a8,a8]
  by_cases e:p.1=k
  ·have a:¬ decide (p.1≠k)=true:=by simp[e]
   have b:¬ decide (q.1≠k)=true:=by simp[h1.symm.trans e]
   rw[ae a,ae b];exact ih
  ·have e':¬ q.1=k:=fun z=>e (h1.trans z)
   have a:decide (p.1≠k)=true:=by simp[e]
   have b:decide (q.1≠k)=true:=by simp[e']
   rw[ag a,ag b];exact .cons ⟨h1,h2⟩ ih
theorem KV.length {kvs:List (κ×V)}{vs:List (κ×Value)}(r:KV kvs vs):kvs.length=vs.length:=Paired.length r
theorem dropK_le (kvs:List (κ×V))(k:κ):(dropK kvs k).length<=kvs.length:=bX _ _
end
theorem kV_is {P:Program}{w:World}{k:Key}{u:Value}(r:RelV (kV k) u):(eK P w).is k u=true:=by
 cases k with
 | inl i=>obtain⟨t,e⟩:=(show ∃ t,u=Value.int i t from r);subst e;exact mixKind_int P w i t
 | inr x=>obtain⟨t,e⟩:=(show ∃ t,u=Value.str x t from r);subst e;exact mixKind_str P w x t
theorem items_are {P:Program}{w:World}:∀ {ks:List Key} {us:List Value},Vals (ks.map kV) us->ItemsAre (eK P w) ks us
 | [],_,r=>by rw[List.map_nil]at r;cases r;exact .nil
 | k::ks,_,r=>by
  rw[ai]at r
  cases r with
  | cons h t=>exact .cons (kV_is h) (items_are t)
abbrev KT (H:Hp):List (List Key×V)->List (List Key×Addr×Value)->Prop:=Paired fun p q=>p.1=q.1/\H q.2.1=some (.tup (p.1.map kV))/\RelV p.2 q.2.2
theorem KT.val {H:Hp}{kvs:List (List Key×V)}{xs:List (List Key×Addr×Value)}(r:KT H kvs xs)(k:List Key):RelO (valV kvs k) ((atKey xs k).map (·.2)):=by
 induction r with
 | nil=>exact True.intro
 | @cons p q ps qs h t ih =>
  obtain⟨h1,_,h2⟩:=h
  by_cases e:p.1=k
  ·have e':q.1=k:=h1.symm.trans e
   have b:atKey (q::qs) k=some q.2:=by simp[atKey,bj,e']
   rw[valV_pos e,b];exact h2
  ·have e':¬ q.1=k:=fun z=>e (h1.trans z)
   have b:atKey (q::qs) k=atKey qs k:=by simp[atKey,bj,e']
   rw[valV_neg e,b];exact ih
theorem KT.repl {H:Hp}{kvs:List (List Key×V)}{xs:List (List Key×Addr×Value)}(r:KT H kvs xs)(k:List Key){y:V}{u:Value}(ry:RelV y u) :
 KT H (kvs.map fun kv=>if kv.1=k then(kv.1,y)else kv) (xs.map (putAt k u)):=by
 induction r with
 | nil=>exact .nil
 | @cons p q ps qs h t ih =>
  rw[ai,ai]
  refine .cons ?_ ih
  obtain⟨h1,h2,h3⟩:=h
  unfold putAt
  by_cases e:p.1=k
  ·rw[ag e,ag (h1.symm.trans e)];exact⟨h1,h2,ry⟩
  ·rw[ae e,ae (fun z=>e (h1.trans z))];exact⟨h1,h2,h3⟩
theorem KT.put {H:Hp}{kvs:List (List Key×V)}{xs:List (List Key×Addr×Value)}(r:KT H kvs xs)(k:List Key){b:Addr}{y:V}{u:Value}(hb:H b=some (.tup (k.map kV)))(ry:RelV y u) :
 KT H (putK kvs k y) (storedH xs k b u):=by
 have e:(kvs.any fun kv=>decide (kv.1=k))=(atKey xs k).isSome:=by
  rw[valV_any,(r.val k).isSome_eq,bt]
 unfold putK storedH
 rw[e]
 by_cases q:(atKey xs k).isSome=true
 ·rw[ag q,ag q];exact r.repl k ry
 ·rw[ae q,ae q];exact Paired.snoc r ⟨rfl,hb,ry⟩
theorem KT.keeps {H H':Hp}{kvs:List (List Key×V)}{xs:List (List Key×Addr×Value)}(r:KT H kvs xs)(ht:∀ b ys,H b=some (.tup ys)->H' b=some (.tup ys)):KT H' kvs xs :=
 Paired.mapP r fun _ _ z=>⟨z.1,ht _ _ z.2.1,z.2.2⟩
section
variable {P:Program}{w:World}{H:Hp}{h:Heap}{a:Addr}
theorem rd_of {u:HO}(ok:HOk P w H h)(e:Rd H a u):fj P w H h a u:=e.ok ok
theorem dk_rd {kvs:List (Key×V)}(ok:HOk P w H h)(e:Rd H a (.dK kvs)):kvs.length<=sizeLine/\(a==sysModules)=false/\∃ vs,KV kvs vs/\h.DictOf (eK P w) a vs :=
 show fj P w H h a (.dK kvs)from rd_of ok e
theorem dk_of {kvs:List (Key×V)}(ok:HOk P w H h)(e:H a=some (.dK kvs)):kvs.length<=sizeLine/\(a==sysModules)=false/\∃ vs,KV kvs vs/\h.DictOf (eK P w) a vs:=dk_rd ok (.inl e)
theorem key_of {ks:List Key}(ok:HOk P w H h)(e:H a=some (.tup (ks.map kV))):(tupleKind (eK P w)).is h ks a:=by
 obtain⟨_,d7,r,o,h1,h2,n,h3⟩:=(show fj P w H h a (.tup (ks.map kV))from ok a _ e)
 exact⟨o,d7.toArray,n,h1,h2,h3,by simpa using items_are r⟩
theorem dt_rd {kvs:List (List Key×V)}(ok:HOk P w H h)(e:Rd H a (.dT kvs)):kvs.length<=sizeLine/\(a==sysModules)=false /\
 ∃ xs,KT H kvs xs/\h.DictOfH (tupleKind (eK P w)) a xs:=by
 obtain⟨z,y,xs,r,o,es,ep,h1,h2,h3,h4,h5⟩:=(show fj P w H h a (.dT kvs)from rd_of ok e)
 refine⟨z,y,xs,r,o,es,ep,h1,h2,h3,h4,fun x hx=>?_,h5⟩
 have all:∀ {l:List (List Key×V)} {m:List (List Key×Addr×Value)},KT H l m->∀ x∈m,(tupleKind (eK P w)).is h x.1 x.2.1:=by
  intro l m q
  induction q with
  | nil=>intro x hx;exact nomatch hx
  | @cons p q ps qs hq t ih =>
   intro x hx
   rcases List.mem_cons.mp hx with e | hx
   ·subst e
    exact key_of ok (by rw[<- hq.1];exact hq.2.1)
   ·exact ih x hx
 exact all r x hx
theorem dt_of {kvs:List (List Key×V)}(ok:HOk P w H h)(e:H a=some (.dT kvs)):kvs.length<=sizeLine/\(a==sysModules)=false /\
 ∃ xs,KT H kvs xs/\h.DictOfH (tupleKind (eK P w)) a xs:=dt_rd ok (.inl e)
end
def DGet (H:Hp)(a:Addr)(y:V)(r:Option V):Prop :=
 (∃ kvs k,Rd H a (.dK kvs)/\y=kV k/\r=valV kvs k)\/∃ kvs k b,Rd H a (.dT kvs)/\y=.ref b/\H b=some (.tup (k.map kV))/\r=valV kvs k
def DPut (H:Hp)(a:Addr)(y v:V)(H':Hp):Prop :=
 (∃ kvs k,H a=some (.dK kvs)/\y=kV k/\kvs.length<sizeLine/\H'=upd H a (.dK (putK kvs k v))) \/
 ∃ kvs k b,H a=some (.dT kvs)/\y=.ref b/\H b=some (.tup (k.map kV))/\kvs.length<sizeLine/\H'=upd H a (.dT (putK kvs k v))
theorem DPut.k {H:Hp}{a:Addr}{kvs:List (Key×V)}{k:Key}{v:V}(e:H a=some (.dK kvs))(hl:kvs.length<sizeLine):DPut H a (kV k) v (upd H a (.dK (putK kvs k v))):=.inl ⟨kvs,k,e,rfl,hl,rfl⟩
section
variable {X:Cx}{pins:List (Addr×Obj)}{σ:St}{H:Hp}{s:Shared}{a:Addr}{y v:V}{u r:Value}{o:Option V}{A:Around}{E:Value->Shared->Prop}
theorem Inv.big (I:Inv X pins σ H s):sysModules<s.heap.objs.size:=by
 have h:mainGlobals<s.heap.objs.size:=(I.mod.glob.keeps I.bk).lt
 exact Nat.lt_trans (by decide) h
theorem d_getItem {Q:Value->Shared->Prop}(hu:A.units+1<cLine)(I:Inv X pins σ H s)(g:DGet H a y (some v))(ry:RelV y u)(h:∀ w' s',Inv X pins σ H s'->RelV v w'->Q w' s') :
 wpAny (model X.prog X.w) A (getItem (.ref a) u) Q E s:=by
 rcases g with⟨kvs,k,e,ey,l⟩ | ⟨kvs,k,b,e,ey,eb,l⟩
 ·subst ey
  obtain⟨z,hd,vs,rel,dd⟩:=dk_rd I.dX e
  obtain⟨w',hw,rw'⟩:=RelO.some_of (v:=v) (o:=valueAt vs k) (by rw[l];exact rel.val k)
  exact wpAny_getItem_of (kV_is ry) dd.mapOf hw (h w' _ (I.tok _) rw')
 ·subst ey
  cases(show u=Value.ref b from ry)
  obtain⟨z,hd,xs,rel,dd⟩:=dt_rd I.dX e
  obtain⟨w',hw,rw'⟩:=RelO.some_of (v:=v) (o:=(atKey xs k).map (·.2)) (by rw[l];exact rel.val k)
  obtain⟨p,hp,hp2⟩:=Option.map_eq_some_iff.mp hw
  refine wpAny_getItem_heap (cU hu) (key_of I.dX eb) dd hp ?_
  rw[hp2]
  exact h w' _ (I.tok _) rw'
theorem d_in {Q:Value->Shared->Prop}(hu:A.units+1<cLine)(I:Inv X pins σ H s)(g:DGet H a y o)(ry:RelV y u)(h:∀ s',Inv X pins σ H s'->Q (.bool o.isSome) s') :
 wpAny (model X.prog X.w) A (compareOp .In u (.ref a)) Q E s:=by
 rcases g with⟨kvs,k,e,ey,l⟩ | ⟨kvs,k,b,e,ey,eb,l⟩
 ·subst ey
  obtain⟨z,hd,vs,rel,dd⟩:=dk_rd I.dX e
  refine wpAny_in_of (kV_is ry) hd dd.mapOf ?_
  rw[<- (rel.val k).isSome_eq,<- l]
  exact h _ (I.tok _)
 ·subst ey
  cases(show u=Value.ref b from ry)
  obtain⟨z,hd,xs,rel,dd⟩:=dt_rd I.dX e
  refine wpAny_in_heap (cU hu) (key_of I.dX eb) hd dd ?_
  have q:=(rel.val k).isSome_eq
  rw[bt]at q
  rw[<- q,<- l]
  exact h _ (I.tok _)
theorem d_notIn {Q:Value->Shared->Prop}(hu:A.units+1<cLine)(I:Inv X pins σ H s)(g:DGet H a y o)(ry:RelV y u)(h:∀ s',Inv X pins σ H s'->Q (.bool (!o.isSome)) s') :
 wpAny (model X.prog X.w) A (compareOp .NotIn u (.ref a)) Q E s:=by
 rcases g with⟨kvs,k,e,ey,l⟩ | ⟨kvs,k,b,e,ey,eb,l⟩
 ·subst ey
  obtain⟨z,hd,vs,rel,dd⟩:=dk_rd I.dX e
  refine wpAny_notIn_of (kV_is ry) hd dd.mapOf ?_
  rw[<- (rel.val k).isSome_eq,<- l]
  exact h _ (I.tok _)
 ·subst ey
  cases(show u=Value.ref b from ry)
  obtain⟨z,hd,xs,rel,dd⟩:=dt_rd I.dX e
  refine wpAny_notIn_heap (cU hu) (key_of I.dX eb) hd dd ?_
  have q:=(rel.val k).isSome_eq
  rw[bt]at q
  rw[<- q,<- l]
  exact h _ (I.tok _)
theorem d_write {h':Heap}{t':Nat}{ob:HO}(I:Inv X pins σ H s)(mu:Mut (H a))(hs:Heap.SameBut a s.heap h')(he:∃ q,h'.get? a=some q)(new:fj X.prog X.w (upd H a ob) h' a ob) :
 Inv X pins σ (upd H a ob) { s with heap:=h',toks:=t'} :=
 I.write (x:=a) (e:=a) mu (.inl rfl) (fun b q hb z=>(hs.2 b hb).trans z) he new
theorem dk_new {P:Program}{w:World}{H':Hp}{h':Heap}{kvs:List (Key×V)}{vs:List (Key×Value)}(z:kvs.length<=sizeLine)(hd:(a==sysModules)=false)(rel:KV kvs vs)(dd:h'.DictOf (eK P w) a vs) :
 fj P w H' h' a (.dK kvs):=⟨z,hd,vs,rel,dd⟩
theorem d_setItem {H':Hp}{Q:Unit->Shared->Prop}(hu:A.units+1<cLine)(I:Inv X pins σ H s)(g:DPut H a y v H')(ry:RelV y u)(rv:RelV v r)(h:∀ s',Inv X pins σ H' s'->Q () s') :
 wpAny (model X.prog X.w) A (setItem (.ref a) u r) Q E s:=by
 rcases g with⟨kvs,k,e,ey,l,eH⟩ | ⟨kvs,k,b,e,ey,eb,l,eH⟩
 ·subst ey eH
  obtain⟨z,hd,vs,rel,dd⟩:=dk_of I.dX e
  have hz:vs.length<=sizeLine:=by rw[<- rel.length];exact z
  have hl:(putK kvs k v).length<=sizeLine:=by have:=length_putK kvs k v;omega
  refine wpAny_setItem_pairs (hsz:=hz) (kV_is ry) dd fun h' dd' hs=>h _ ?_
  have he:∃ q,h'.get? a=some q:=let ⟨q,_,_,hq,_⟩:=dd';⟨q,hq⟩
  exact d_write I (by rw[e];exact True.intro) hs he (dk_new hl hd (rel.put k rv) dd')
 ·subst ey eH
  cases(show u=Value.ref b from ry)
  obtain⟨z,hd,xs,rel,dd⟩:=dt_of I.dX e
  have hz:xs.length<=sizeLine:=by rw[<- Paired.length rel];exact z
  have hl:(putK kvs k v).length<=sizeLine:=by have:=length_putK kvs k v;omega
  refine wpAny_setItem_heap (hsz:=hz) (cU hu) (key_of I.dX eb) dd fun h' dd' hs=>h _ ?_
  obtain⟨q,es,ep,hq,h2,h3,h4,_,h5⟩:=dd'
  refine d_write I (by rw[e];exact True.intro) hs ⟨q,hq⟩ ⟨hl,hd,_,(rel.put k eb rv).keeps fun c ys ec=>?_,q,es,ep,hq,h2,h3,h4,h5⟩
  rw[dQ (ne_of ec e (fun z=>nomatch z))]
  exact ec
end
section
variable {X:Cx}{pins:List (Addr×Obj)}{σ:St}{H:Hp}{s:Shared}{a:Addr}{kvs:List (Key×V)}{k:Key}{u:Value}{A:Around}{E:Value->Shared->Prop}
theorem d_delItem {Q:Unit->Shared->Prop}(I:Inv X pins σ H s)(e:H a=some (.dK kvs))(ry:RelV (kV k) u)(l:(valV kvs k).isSome=true)(h:∀ s',Inv X pins σ (upd H a (.dK (dropK kvs k))) s'->Q () s') :
 wpAny (model X.prog X.w) A (delItem (.ref a) u) Q E s:=by
 obtain⟨z,hd,vs,rel,dd⟩:=dk_of I.dX e
 refine wpAny_delItem_slot dd.typeIs (by decide) PySem.F.slot_dict_delitem
  (call_meetsIn PySem.F.slot_dict_delitem dd.typeIs PySem.F.entry_dict_delitem (PySem.F.args_dict_delitem_2 _ _) (meets_dict_delitem_pairs (eK X.prog X.w) a (kV_is ry)) ⟨vs,dd,by rw[<- rel.length];exact z,by rw[<- (rel.val k).isSome_eq];exact l,fun h' dd' hs=>h _ ?_⟩)
 have he:∃ q,h'.get? a=some q:=let ⟨q,_,_,hq,_⟩:=dd';⟨q,hq⟩
 exact d_write I (by rw[e];exact True.intro) hs he (dk_new (aw (dropK_le kvs k) z) hd (rel.drop k) dd')
theorem d_pop {v:V}{more:List Value}{Q:Value->Shared->Prop}(I:Inv X pins σ H s)(e:H a=some (.dK kvs))(ry:RelV (kV k) u)(l:valV kvs k=some v)(hm:more=[]\/∃ x,more=[x])
 (h:∀ w' s',Inv X pins σ (upd H a (.dK (dropK kvs k))) s'->RelV v w'->Q w' s'):wpAny (model X.prog X.w) A (call (.builtin "dict.pop") (.ref a::u::more)) Q E s:=by
 obtain⟨z,hd,vs,rel,dd⟩:=dk_of I.dX e
 obtain⟨w',hw,rw'⟩:=RelO.some_of (v:=v) (o:=valueAt vs k) (by rw[<- l];exact rel.val k)
 have hp:(keyPart u).isSome=true:=by
  cases k with
  | inl i=>obtain⟨t,q⟩:=(show ∃ t,u=Value.int i t from ry);subst q;rfl
  | inr x=>obtain⟨t,q⟩:=(show ∃ t,u=Value.str x t from ry);subst q;rfl
 have ha:argsOk "dict.pop" ⟨.ref a::u::more,[]⟩:=by
  rcases hm with q | ⟨x,q⟩
  ·subst q;exact PySem.F.args_dict_pop_2 _ _
  ·subst q;exact PySem.F.args_dict_pop_3 _ _ _
 refine call_meetsIn PySem.F.slot_dict_pop dd.typeIs PySem.F.entry_dict_pop ha (meets_dict_pop_there (eK X.prog X.w) a (kV_is ry) more hm hp)
  ⟨vs,w',dd,by rw[<- rel.length];exact z,hw,fun h' dd' hs=>h w' _ ?_ rw'⟩
 have he:∃ q,h'.get? a=some q:=let ⟨q,_,_,hq,_⟩:=dd';⟨q,hq⟩
 exact d_write I (by rw[e];exact True.intro) hs he (dk_new (aw (dropK_le kvs k) z) hd (rel.drop k) dd')
theorem d_len {Q:Value->Shared->Prop}(I:Inv X pins σ H s)(e:Rd H a (.dK kvs))(h:∀ t s',Inv X pins σ H s'->Q (.int kvs.length t) s'):wpAny (model X.prog X.w) A (call (.builtin "len") [.ref a]) Q E s:=by
 obtain⟨z,hd,vs,rel,dd⟩:=dk_rd I.dX e
 refine call_len_dict hd dd (by rw[<- rel.length];rw[sizeLine_eq]at z;omega) ?_
 rw[<- rel.length]
 exact h _ _ (I.tok _)
end
def NoSl (i:Expr):Prop:=∀ ov iv,subscripted i false ov iv=operate [ov,iv] (getItem ov iv)
theorem subD_of {prog:Program}{w:World}{A:Around}{E:Value->Shared->Prop}{s:Shared}{env:Env}{value slice:Expr}{pos:Pos}{T id:String}{Q:Value->Shared->Prop}
 (hl:typeLookup (.type T) "__getitem__"=pure (some (.builtin id))) (hs:NoSl slice)
 (h:wpAny (model prog w) A (eval value env) (fun o s₁=>wpAny (model prog w) A (eval slice env) (fun i s₂=>s₂.TypeIs o T/\wpAny (model prog w) A (getItem o i) Q E s₂) E s₁) E s) :
 wpAny (model prog w) A (eval (.Subscript value slice pos) env) Q E s:=by
 refine Subscript_ (a6 h (fun o s₁ h₁=>a6 h₁ (fun i s₂ h₂=>?_) fun _ _ x=>x) fun _ _ x=>x)
 obtain⟨hT,h₂⟩:=h₂
 unfold subscriptTail
 refine dY ?_
 rw[getitemInPython_of_ne hT.not_modules]
 refine dY (wpAny_specialOf hT hl ?_)
 have fin:wpAny (model prog w) A (subscripted slice false o i) (fun r s₃=>wpAny (model prog w) A (letTemporaryGo value o r >>= fun _=>pure r) Q E s₃) E s₂:=by
  rw[hs o i]
  exact wpAny_operating (a6 h₂ (fun r s₃ h₃=>dY (wpAny_letTemporaryGo (ah h₃))) fun _ _ x=>x)
 first
  | exact ah (dY fin)
  | exact dY (ah (dY fin))
  | exact dY fin
theorem dict_typeIs {X:Cx}{pins:List (Addr×Obj)}{σ:St}{H:Hp}{s:Shared}{a:Addr}{y:V}{o:Option V}(I:Inv X pins σ H s)(g:DGet H a y o):s.TypeIs (.ref a) "dict":=by
 rcases g with⟨kvs,k,e,_,_⟩ | ⟨kvs,k,b,e,_,_,_⟩
 ·obtain⟨_,_,vs,_,dd⟩:=dk_rd I.dX e
  exact dd.typeIs
 ·obtain⟨_,_,xs,_,dd⟩:=dt_rd I.dX e
  exact dd.typeIs
def tDGet (td ty:TE):TE:=fun σ H Q=>td σ H fun x H1=>ty σ H1 fun y H2=>∃ a v,x=.ref a/\DGet H2 a y (some v)/\Q v H2
def tDIn (ty td:TE):TE:=fun σ H Q=>ty σ H fun y H1=>td σ H1 fun x H2=>∃ a o,x=.ref a/\DGet H2 a y o/\Q (.bl o.isSome) H2
def tDNotIn (ty td:TE):TE:=fun σ H Q=>ty σ H fun y H1=>td σ H1 fun x H2=>∃ a o,x=.ref a/\DGet H2 a y o/\Q (.bl (!o.isSome)) H2
def sDPut (td ty tv:TE):TS:=fun D σ H=>tv σ H fun v H1=>td σ H1 fun x H2=>ty σ H2 fun y H3=>∃ a H4,x=.ref a/\DPut H3 a y v H4/\D.nx σ H4
section
variable {X:Cx}{o i e value:Expr}{pos pos' tpos:Pos}{td ty tv:TE}
theorem pe_dget (hu:X.A.units+1<cLine)(ho:PE X o td)(hi:PE X i ty)(hs:NoSl i):PE X (.Subscript o i pos) (tDGet td ty):=by
 intro pins s σ H Q I h
 refine subD_of PySem.F.slot_dict_getitem.lookup hs (fo (ho pins s σ H _ I h) fun u s1 hq0=>?_)
 obtain⟨x,H1,I1,rx,q1⟩:=hq0
 refine fo (hi pins s1 σ H1 _ I1 q1) fun iv s2 hq1=>?_
 obtain⟨y,H2,I2,ry,a,v,ex,g,q2⟩:=hq1
 subst ex
 obtain rfl:u=Value.ref a:=rx
 exact⟨dict_typeIs I2 g,d_getItem hu I2 g ry fun w' s3 I3 rw'=>⟨v,H2,I3,rw',q2⟩⟩
theorem pc_din (hu:X.A.units+1<cLine)(hi:PE X i ty)(ho:PE X o td):PC X .In i o (tDIn ty td):=by
 intro pins s σ H Q I h
 refine fo (hi pins s σ H _ I h) fun iv s1 hq2=>?_
 obtain⟨y,H1,I1,ry,q1⟩:=hq2
 refine fo (ho pins s1 σ H1 _ I1 q1) fun u s2 hq3=>?_
 obtain⟨x,H2,I2,rx,a,ov,ex,g,q2⟩:=hq3
 subst ex
 obtain rfl:u=Value.ref a:=rx
 exact d_in hu I2 g ry fun s3 I3=>⟨.bl ov.isSome,H2,I3,rfl,q2⟩
theorem pc_dnotin (hu:X.A.units+1<cLine)(hi:PE X i ty)(ho:PE X o td):PC X .NotIn i o (tDNotIn ty td):=by
 intro pins s σ H Q I h
 refine fo (hi pins s σ H _ I h) fun iv s1 hq4=>?_
 obtain⟨y,H1,I1,ry,q1⟩:=hq4
 refine fo (ho pins s1 σ H1 _ I1 q1) fun u s2 hq5=>?_
 obtain⟨x,H2,I2,rx,a,ov,ex,g,q2⟩:=hq5
 subst ex
 obtain rfl:u=Value.ref a:=rx
 exact d_notIn hu I2 g ry fun s3 I3=>⟨.bl (!ov.isSome),H2,I3,rfl,q2⟩
theorem ps_dput (hu:X.A.units+1<cLine)(ho:PE X o td)(hi:PE X i ty)(hv:PE X value tv)(hs:swapsWith value (some (.Subscript o i pos')) pos.line X.env=pure false) :
 PS X (.Assign [.Subscript o i pos'] value pos) (sDPut td ty tv):=by
 intro pins s σ H D I h
 refine wpAny_Assign_Subscript (fo (hv pins s σ H _ I h) fun r s1 hq6=>?_) hs
 obtain⟨v,H1,I1,rv,q1⟩:=hq6
 refine fo (ho pins s1 σ H1 _ I1 q1) fun u s2 hq0=>?_
 obtain⟨x,H2,I2,rx,q2⟩:=hq0
 refine fo (hi pins s2 σ H2 _ I2 q2) fun iv s3 hq1=>?_
 obtain⟨y,H3,I3,ry,a,H4,ex,g,q3⟩:=hq1
 subst ex
 obtain rfl:u=Value.ref a:=rx
 exact d_setItem hu I3 g ry rv fun s4 I4=>⟨σ,H4,I4,q3⟩
end
theorem dk_empty {P:Program}{w:World}{H:Hp}(h:Heap)(hb:sysModules<h.objs.size):fj P w H (h.push { cls:=.type "dict",data:=.dict #[]}) h.objs.size (.dK []) :=
 ⟨aX _,beq_eq_false_iff_ne.mpr (aZ (aC hb)),[],.nil,Heap.DictOf.new h⟩
def tDNewK:TE:=fun _ H Q=>∀ p,H p=none->Q (.ref p) (upd H p (.dK []))
section
variable {X:Cx}{pos:Pos}
theorem pe_dnewK:PE X (.Dict [] [] pos) tDNewK:=fun pins s σ H Q I h =>
 wpAny_Dict_empty ⟨.ref s.heap.objs.size,_,I.laid (a:=s.heap.objs.size) (o:=.dK []) (t':=s.toks) (fun _ _ q=>gxL _ q) (aa _) (dk_empty s.heap I.big),rfl,h _ (I.dX.fresh (aa _))⟩
end
structure M1 (X:Cx)(o:Expr)(m:Str)(apos:Pos)(e:Expr)(cpos:Pos):Prop where
 base:attributeBase o m X.env (eval o X.env)=eval o X.env
 few:((backTo cpos (starEach [e] X.env)).all (fun x=>!x.1)&&(backToKw cpos (keywordEach [] X.env)).all (fun x=>x.1.isSome)
  && decide (([e]:List Expr).length+([]:List Keyword).length+(if([]:List Keyword).isEmpty then 0 else 1)<30))=true
 line:(apos.endLine==cpos.line)=true
 trees:backTo cpos (starEach [e] X.env)=[(false,eval e X.env)]
structure M2 (X:Cx)(o:Expr)(m:Str)(apos:Pos)(e f:Expr)(cpos:Pos):Prop where
 base:attributeBase o m X.env (eval o X.env)=eval o X.env
 few:((backTo cpos (starEach [e,f] X.env)).all (fun x=>!x.1)&&(backToKw cpos (keywordEach [] X.env)).all (fun x=>x.1.isSome)
  && decide (([e,f]:List Expr).length+([]:List Keyword).length+(if([]:List Keyword).isEmpty then 0 else 1)<30))=true
 line:(apos.endLine==cpos.line)=true
 trees:backTo cpos (starEach [e,f] X.env)=[(false,eval e X.env),(false,eval f X.env)]
def IsD (H:Hp)(a:Addr):Prop:=(∃ kvs,Rd H a (.dK kvs))\/∃ kvs,Rd H a (.dT kvs)
theorem isD_at {X:Cx}{pins:List (Addr×Obj)}{σ:St}{H:Hp}{s:Shared}{a:Addr}(I:Inv X pins σ H s)(d:IsD H a) :
 s.TypeIs (.ref a) "dict"/\(∀ b,Value.ref a=.ref b->∃ ob,s.heap.get? b=some ob/\ob.dict=none)/\(a==sysModules)=false:=by
 rcases d with⟨kvs,e⟩ | ⟨kvs,e⟩
 ·obtain⟨_,hd,vs,_,dd⟩:=dk_rd I.dX e
  refine⟨dd.typeIs,fun b q=>?_,hd⟩
  cases q
  obtain⟨ob,_,_,h1,h2,_⟩:=dd
  exact⟨ob,h1,h2.2.1⟩
 ·obtain⟨_,hd,xs,_,dd⟩:=dt_rd I.dX e
  refine⟨dd.typeIs,fun b q=>?_,hd⟩
  cases q
  obtain⟨ob,_,_,h1,h2,_⟩:=dd
  exact⟨ob,h1,h2.2.1⟩
def tDPop1 (td ty:TE):TE:=fun σ H Q=>td σ H fun x H1=>∃ a,x=.ref a/\IsD H1 a/\ty σ H1 fun y H2=>∃ kvs k v,H2 a=some (.dK kvs)/\y=kV k/\valV kvs k=some v/\Q v (upd H2 a (.dK (dropK kvs k)))
section
variable {X:Cx}{o e f:Expr}{apos cpos:Pos}{td ty tx:TE}
theorem pe_dpop1 (ho:PE X o td)(he:PE X e ty)(m:M1 X o "pop" apos e cpos):PE X (.Call (.Attribute o "pop" apos) [e] [] cpos) (tDPop1 td ty):=by
 intro pins s σ H Q I h
 refine wpAny_Call_method m.base m.few m.line PySem.F.plainAttrs_dict PySem.F.slot_dict_pop PySem.F.type_dict_pop (fo (ho pins s σ H _ I h) fun u s1 hq2=>?_)
 obtain⟨x,H1,I1,rx,a,ex,d,q1⟩:=hq2
 subst ex
 obtain rfl:u=Value.ref a:=rx
 obtain⟨t1,t2,_⟩:=isD_at I1 d
 refine⟨t1,t2,?_⟩
 rw[m.trees]
 refine cw rfl (Calls.evalArgs_plain (Calls.spliced_cons (fo (he pins s1 σ H1 _ I1 q1) fun iv s2 hq3=>?_)))
 obtain⟨y,H2,I2,ry,kvs,k,v,ea,ey,l,q2⟩:=hq3
 refine Calls.spliced_nil ?_
 subst ey
 exact d_pop I2 ea ry l (.inl rfl) fun w' s3 I3 rw'=>⟨v,_,I3,rw',q2⟩
end
section
variable {X:Cx}{pins:List (Addr×Obj)}{σ:St}{H:Hp}{s:Shared}{a:Addr}{kvs:List (Key×V)}{A:Around}{E:Value->Shared->Prop}
theorem d_copyOf {Q:Value->Shared->Prop}(I:Inv X pins σ H s)(e:Rd H a (.dK kvs))(h:∀ p s',H p=none->Inv X pins σ (upd H p (.dK kvs)) s'->Q (.ref p) s'):wpAny (model X.prog X.w) A (call (.type "dict") [.ref a]) Q E s:=by
 obtain⟨z,hd,vs,rel,dd⟩:=dk_rd I.dX e
 refine kt_call_dict hd dd (by rw[<- rel.length];exact z) fun h' dd' hs=>?_
 refine h _ _ (I.dX.fresh (aa _)) (I.laid (a:=s.heap.objs.size) (o:=.dK kvs) (t':=s.toks) (fun b q hq=>?_) (aa _) (dk_new z (beq_eq_false_iff_ne.mpr (aZ (aC I.big))) rel dd'))
 exact(hs.2 b (aC (gxN hq))).trans (gxL _ hq)
end
def cxE (X:Cx)(N:List Str)(sc:Scope)(fp:List Addr)(s:Shared)(H:Hp):Cx where
 prog:=X.prog
 w:=X.w
 K:=X.K
 mg:=X.mg
 base:=X.base
 A:=X.A
 N:=N
 s₀:=s
 H₀:=H
 env:=envC sc s.heap.objs.size X.env
 outer:=X.stack
 stack:=X.stack
 ex:=fp
 fn:=fun x=>sc.names.lookup x==some .cell
 calm:=X.calm
 pn:=[]
 xe:=fun _ _=>False
def heapE (sc:Scope)(h:Heap):Heap:=pushCells (h.push { cls:=.type "dict",data:=.dict #[]}) sc.names
theorem heapE_keeps {sc:Scope}{h:Heap}:∀ b o,h.get? b=some o->(heapE sc h).get? b=some o:=fun b o e=>cL _ _ b o (gxL _ e)
section
variable {X:Cx}{pins:List (Addr×Obj)}{σ:St}{H:Hp}{s:Shared}{N:List Str}{js:List (Option Nat)}{sc:Scope}{fp:List Addr}
theorem inv_compE (I:Inv X pins σ H s)(hc:CompOk X N js sc)(hf:∀ b∈fp,FpOk X pins H b)(ho:∀ b∈fp,∃ o,s.heap.get? b=some o)(tk:Nat) :
 Inv (cxE X N sc fp s H) [] (fk js σ) H { s with heap:=heapE sc s.heap,toks:=tk}:=by
 have freeX:∀ y∈sc.names,y.2=.free->∃ c,X.env.cells.lookup y.1=some c:=fun y hy e=>I.ok.has y.1 (hc.free y hy e)
 have ok:=cellsFrom_ok sc.names (s.heap.push { cls:=.type "dict",data:=.dict #[]}) (s.heap.objs.size+1) [] ⟨fun _ _ hm=>(nomatch hm),List.Pairwise.nil⟩
  (by rw[aY];exact aa _)
 rw[aY]at ok
 have eC:(envC sc s.heap.objs.size X.env).cells=cellsFrom (s.heap.objs.size+1) sc.names []++closOf X.env.cells sc.names []:=cellsFrom_app sc.names _ [] _
 have lk:∀ x c,(envC sc s.heap.objs.size X.env).cells.lookup x=some c->(x,c)∈cellsFrom (s.heap.objs.size+1) sc.names []\/X.env.cells.lookup x=some c:=fun x c e=>by
  rw[eC]at e
  rcases List.mem_append.mp (mem_of_lookup e)with h | h
  ·exact .inl h
  ·rcases closOf_mem freeX x c h with h | h
   ·cases h
   ·exact .inr h
 have big:∀(x:Str) (c:Nat),(x,c)∈cellsFrom (s.heap.objs.size+1) sc.names []->s.heap.objs.size+1<=c:=fun x c h=>(ok.empty x c h).2
 have small:∀(x:Str) (c:Nat),X.env.cells.lookup x=some c->c<s.heap.objs.size:=fun x c h=>let ⟨_,q⟩:=I.cell x c h;q.lt
 have has:∀ x,((envC sc s.heap.objs.size X.env).kindOf x=some .cell\/(envC sc s.heap.objs.size X.env).kindOf x=some .free)->∃ c,(envC sc s.heap.objs.size X.env).cells.lookup x=some c:=fun x h=>by
  have h':(relabel sc X.env).names.lookup x=some .cell\/(relabel sc X.env).names.lookup x=some .free:=h
  rw[lookup_relabel]at h'
  rw[eC,cY]
  cases q:sc.names.lookup x with
  | none=>rw[q]at h';rcases h' with h' | h' <;> cases h'
  | some k =>
   rw[q]at h'
   have hk:=relK_vis (env:=X.env) (x:=x) (k:=k) (h'.elim (fun z=>.inl (aJ z)) fun z=>.inr (aJ z))
   rcases hk with rfl | rfl
   ·obtain⟨c,hc'⟩:=cell_has (n:=s.heap.objs.size+1) q
    exact⟨c,by rw[hc'];rfl⟩
   ·have z:=closOf_has (cells:=X.env.cells) sc.names [] x (mem_of_lookup q)
    obtain⟨c,hc'⟩:=Option.isSome_iff_exists.mp z
    cases q2:(cellsFrom (s.heap.objs.size+1) sc.names []).lookup x with
    | none=>exact⟨c,by rw[hc'];rfl⟩
    | some d=>exact⟨d,rfl⟩
 have okY:(cxE X N sc fp s H).Ok:=by
  refine⟨I.ok.mod,hc.kind,I.ok.glob,I.ok.blt,aa _,fun x y c h1 h2=>?_,has,fun x c hx h=>?_,I.ok.hd,I.ok.frames,.inl rfl,fun b hb=>⟨?_,fun x c h=>?_⟩,I.bs,aw I.ok.bsz I.sz,fun b o e hb=>?_,fun b hb hs=>?_,I.stack,I.stkFree⟩
  ·rcases lk x c h1 with g1 | g1 <;> rcases lk y c h2 with g2 | g2
   ·exact name_of_addr ok.apart g1 g2
   ·exact absurd (aq (small _ _ g2) (aw (aW _ 1) (big _ _ g1))) (bo _)
   ·exact absurd (aq (small _ _ g1) (aw (aW _ 1) (big _ _ g2))) (bo _)
   ·exact I.ok.inj x y c g1 g2
  ·have hx':sc.names.lookup x=some .cell:=by simpa [cxE]using hx
   have h':(envC sc s.heap.objs.size X.env).cells.lookup x=some c:=h
   rw[eC,cY]at h'
   obtain⟨c2,hc'⟩:=cell_has (n:=s.heap.objs.size+1) hx'
   rw[hc']at h'
   have e:c2=c:=aJ h'
   subst e
   exact aw (aW _ 1) (big _ _ (mem_of_lookup hc'))
  ·obtain⟨o,e⟩:=ho b hb
   exact aC (gxN e)
  ·obtain⟨o,e⟩:=ho b hb
   have l:=gxN e
   rcases lk x c h with g | g
   ·exact a9 (aq l (aw (aW _ 1) (big _ _ g)))
   ·exact(hf b hb).2.2.2.2.1 x c g
  ·rcases(hf b hb).2.2.2.1 with z | z
   ·exact I.ok.noex b o e z
   ·exact absurd (aq (gxN e) (aw I.ok.bsz z)) (bo _)
  ·rcases List.mem_cons.mp (I.stkSub b hs)with z | z
   ·exact(hf b hb).2.1 z
   ·exact(hf b hb).2.2.1 z
 have keepH:∀ b u,s.heap.get? b=some u->(heapE sc s.heap).get? b=some u:=heapE_keeps
 have nsC:(heapE sc s.heap).Ns s.heap.objs.size fun _=>none:=by
  have q:=(Heap.Ns.new s.heap (.type "dict")).keeps (cL sc.names _)
  exact q
 refine⟨okY,rfl,I.bare,Un.kept keepH,⟨_,nsC,fun i x v e1 e2 e3=>?_⟩,fun x c h=>?_,I.dX.fresh (aa _),fun x c h=>?_,fun p hp=>absurd (show p∈([]:List (Addr×Obj))from hp) (by simp),I.dX.kept keepH,?_⟩
 ·obtain⟨j,hj,hv⟩:=getStart e2
  obtain⟨g1,g2,g3,g4⟩:=hc.slot i x j e1 hj
  have kx:=hc.free _ g2 rfl
  obtain⟨m,hn,hl⟩:=I.loc
  obtain⟨u,r,l⟩:=hl j x v g1 hv (.inr kx)
  refine⟨u,r,?_⟩
  rcases l with⟨z,_⟩ | ⟨_,c,hcc,hcell⟩
  ·have z':X.env.kindOf x=some .local:=z
   rcases kx with k | k <;> (have k':X.env.kindOf x=_:=k;rw[z']at k';cases k')
  ·have kY:(envC sc s.heap.objs.size X.env).kindOf x=some .cell\/(envC sc s.heap.objs.size X.env).kindOf x=some .free:=by
    show(relabel sc X.env).names.lookup x=some .cell\/(relabel sc X.env).names.lookup x=some .free
    rw[lookup_relabel,g3]
    rcases relK_free (env:=X.env) (x:=x)with q | q
    ·exact .inl (show some (relK X.env x .free)=_ by rw[q])
    ·exact .inr (show some (relK X.env x .free)=_ by rw[q])
   obtain⟨c',h'⟩:=has x kY
   refine .inr ⟨kY,c',h',?_⟩
   rcases lk x c' h' with g | g
   ·rcases cellsFrom_mem _ _ _ _ _ g with z | z
    ·exact absurd z g4
    ·cases z
   ·rw[hcc]at g;cases g
    exact hcell.keeps keepH
 ·rcases lk x c h with g | g
  ·exact⟨_,(ok.empty x c g).1⟩
  ·obtain⟨v,q⟩:=I.cell x c g
   exact⟨v,q.keeps keepH⟩
 ·rcases lk x c h with g | g
  ·exact I.dX.fresh (aw (aW _ 1) (big _ _ g))
  ·exact I.freeC x c g
 ·show(fk js σ).length=N.length
  unfold fk
  rw[fC];exact hc.len
end
theorem compLoopD_any {prog:Program}{w:World}{A:Around}{R:Result->Shared->Prop}{s:Shared}{kx vx target iter:Expr}{ifs:List Expr}{scope:Scope}{pos:Pos}{it:Value}{D:Addr}{env:Env}(I:Nat->Shared->Prop)
 (turn:∀ n s,I n s->wpAny (model prog w) A (pyNext it) (fun r s₁=>match r with
   | none=>R (.ok .next) s₁
   | some v=>wpAny (model prog w) A (letOwnedTupleGo target it v) (fun _ s₁'=>wpAny (model prog w) A (assign target env v) (fun _ s₂ =>
    wpAny (model prog w) A (forIn ifs true fun c r=>if r=true then do let ok <- isTrue c env (eval c env);pure (ForInStep.yield ok)else pure (ForInStep.yield r)) (fun ok s₃ =>
     if ok=true then wpAny (model prog w) A (eval kx env) (fun kv s₄=>wpAny (model prog w) A (eval vx env) (fun vv s₅ =>
      wpAny (model prog w) A (dictSet D kv vv) (fun _ s₆=>∃ m,m<n/\I m s₆) (fun _ _=>False) s₅) (fun _ _=>False) s₄) (fun _ _=>False) s₃
     else ∃ m,m<n/\I m s₃) (fun _ _=>False) s₂) (fun _ _=>False) s₁') (fun _ _=>False) s₁) (fun _ _=>False) s)
 (n:Nat) (h:I n s) :
 codeAny (model prog w) A (.compLoop (.DictComp kx vx [⟨target,iter,ifs,0⟩] scope pos) 0 it (.ref D) env) R s:=by
 refine codeAny_loop rfl I (fun n s hI=>?_) n h
 show wpAny _ A ((compTurn (.DictComp kx vx [⟨target,iter,ifs,0⟩] scope pos) 0 it (.ref D) env).onRaise (fun x=>do noteFrame x env;theTreesLotGoes x)) _ _ s
 refine wpAny_noted ?_
 rw[compTurn_dict]
 refine dY (cG (dY (a6 (turn n s hI) (fun r s₁ h₁=>?_) fun _ _ h'=>h'.elim)))
 cases r with
 | none=>exact ah h₁
 | some v =>
  refine dY (a6 h₁ (fun _ s₁' h₁'=>?_) fun _ _ h'=>h'.elim)
  refine dY (a6 h₁' (fun _ s₂ h₂=>dY (a6 h₂ (fun ok s₃ h₃=>?_) fun _ _ h'=>h'.elim)) fun _ _ h'=>h'.elim)
  cases ok with
  | false=>exact ah ⟨rfl,h₃⟩
  | true =>
   exact dY (dY (a6 h₃ (fun x s₄ h₄=>dY (bE (a6 h₄ (fun y s₅ h₅=>dY (cG (bE (a6 h₅ (fun _ s₆ h₆=>ah ⟨rfl,h₆⟩) fun _ _ h'=>h'.elim)))) fun _ _ h'=>h'.elim))) fun _ _ h'=>h'.elim))
def wCompD (js:List (Option Nat))(g:TG)(tt:TT)(tk tv:TE)(J:It)(σ:St)(D:Addr)(H1:Hp)(fin:List (Key×V)->Hp->Prop):Prop :=
 ∃ W:Nat->Nat->List (Key×V)->Hp->Prop,(∃ m,W 0 m [] H1)/\∀ i m kvs H,W i m kvs H ->
  (J.stop i H/\fin kvs H)\/(J.go i H/\∀ x H',J.yld i H x H'->g x (fk js σ) H' fun σ2 H2=>Ext (fk js σ) σ2/\tt σ2 H2 fun b H3 =>
    if b=true then tk σ2 H3 fun k H4=>tv σ2 H4 fun v H5=>∃(kk:Key) (kvs':List (Key×V)),k=kV kk/\H5 D=some (.dK kvs')/\kvs'.length<sizeLine/\∃ m',m'<m/\W (i+1) m' (putK kvs' kk v) (upd H5 D (.dK (putK kvs' kk v)))else ∃ m',m'<m/\W (i+1) m' kvs H3)
section
variable {X:Cx}{pins:List (Addr×Obj)}{σ:St}{H:Hp}{s:Shared}
theorem dict_set {A:Around}{E:Value->Shared->Prop}{a:Addr}{kvs:List (Key×V)}{k:Key}{u r:Value}{v:V}{Q:Unit->Shared->Prop}(I:Inv X pins σ H s)(e:H a=some (.dK kvs))(l:kvs.length<sizeLine)(ry:RelV (kV k) u)(rv:RelV v r)
 (h:∀ s',Inv X pins σ (upd H a (.dK (putK kvs k v))) s'->Q () s'):wpAny (model X.prog X.w) A (dictSet a u r) Q E s:=by
 obtain⟨z,hd,vs,rel,dd⟩:=dk_of I.dX e
 have hz:vs.length<=sizeLine:=by rw[<- rel.length];exact z
 have hl:(putK kvs k v).length<=sizeLine:=by have:=length_putK kvs k v;omega
 refine wpAny_dictSet_pairs (hsz:=hz) (kV_is ry) dd fun h' dd' hs=>h _ ?_
 have he:∃ q,h'.get? a=some q:=let ⟨q,_,_,hq,_⟩:=dd';⟨q,hq⟩
 exact d_write I (by rw[e];exact True.intro) hs he (dk_new hl hd (rel.put k rv) dd')
variable {N:List Str}{js:List (Option Nat)}{sc:Scope}{fp:List Addr}{tg kx vx iter:Expr}{ifs:List Expr}{g:TG}{tt:TT}{tk tv:TE}
theorem compD_block {J:It}{it D:Addr}{tn:Nat->Heap->Prop}{pos:Pos}{R:Result->Shared->Prop}{fin:List (Key×V)->Hp->Prop}{tok:Nat}(I:Inv X pins σ H s)(hc:CompOk X N js sc)(calm:X.calm=true)
 (T:Turn X.prog X.w X.K tg J fp it tn) (st:tn 0 s.heap) (hf:∀ b∈fp,FpOk X pins H b)
 (hg:PG (cxE X N sc fp s H) tg g) (ht:PTs (cxE X N sc fp s H) ifs tt) (hk:PE (cxE X N sc fp s H) kx tk) (hv:PE (cxE X N sc fp s H) vx tv) (q:wCompD js g tt tk tv J σ D H fin)
 (hR:∀ s' H' kvs m,Inv X pins σ H' s'->fin kvs H'->s'.heap.Ns s.heap.objs.size m->H' s.heap.objs.size=none->R (.ok .next) s') :
 codeAny (model X.prog X.w) X.A (.compStart (.DictComp kx vx [⟨tg,iter,ifs,0⟩] sc pos) 0 (.ref it) (.ref D) (envC sc s.heap.objs.size X.env)) R { s with heap:=heapE sc s.heap,toks:=tok}:=by
 have hob:∀ b∈fp,∃ o,s.heap.get? b=some o:=fun b hb=>let ⟨o,e,_⟩:=T.obj 0 s.heap st b hb;⟨o,e⟩
 have I0:=inv_compE I hc hf hob tok
 have okY:=I0.ok
 obtain⟨W,⟨m0,w0⟩,turn⟩:=q
 have stat:∀ {H':Hp},(∀ b∈fp,H' b=none)->∀ b∈fp,FpOk (cxE X N sc fp s H) [] H' b:=fun {H'} hn b hb =>
  ⟨hn b hb,(okY.exf b hb).1,okY.exfs b hb,.inl hb,(okY.exf b hb).2,fun p hp=>absurd (show p∈([]:List (Addr×Obj))from hp) (by simp)⟩
 have st0:tn 0 (heapE sc s.heap):=T.keep 0 _ _ st fun b _ o e=>heapE_keeps b o e
 have loop:codeAny (model X.prog X.w) X.A (.compLoop (.DictComp kx vx [⟨tg,iter,ifs,0⟩] sc pos) 0 (.ref it) (.ref D) (envC sc s.heap.objs.size X.env)) R { s with heap:=heapE sc s.heap,toks:=tok}:=by
  refine compLoopD_any (fun n s'=>∃ i kvs H',Inv (cxE X N sc fp s H) [] (fk js σ) H' s'/\tn i s'.heap/\(∀ b∈fp,H' b=none)/\W i n kvs H') ?_ m0
   ⟨0,[],H,I0,st0,fun b hb=>(hf b hb).1,w0⟩
  rintro n s3 ⟨i,kvs,H3,I3,st3,fr3,w3⟩
  rcases turn i n kvs H3 w3 with⟨stop,qf⟩ | ⟨go,step⟩
  ·refine fo (T.done (cxE X N sc fp s H) rfl rfl rfl calm i _ s3 _ H3 _ I3 (stat fr3) st3 stop) fun r s4 hq4=>?_
   obtain⟨hr,I4⟩:=hq4
   subst hr
   show R (.ok .next) s4
   obtain⟨m,hns,_⟩:=I4.loc
   have IX:Inv X pins σ H3 s4:=I.call' (ch:=fp) I4.os I4.base I4.dX I4.bare fun b hb=>by
    obtain⟨f0,f1,f2,f3,f4,f5⟩:=hf b hb
    exact⟨f3,f1,f4,f5⟩
   exact hR s4 H3 kvs m IX qf hns I4.free
  ·refine fo (T.item (cxE X N sc fp s H) rfl rfl rfl calm i _ s3 _ H3 _ I3 (stat fr3) st3 go) fun r s4 hq5=>?_
   obtain⟨u,hr,h4⟩:=hq5
   subst hr
   refine fo h4 fun _ s5 hq6=>?_
   obtain⟨x,H5,I5,r5,y5,st5,fr5⟩:=hq6
   have I5':=I5.pinned (stat fr5) (T.obj _ _ st5)
   refine fo (hg _ s5 _ H5 x u _ I5' r5 (step x H5 y5)) fun _ s6 ⟨σ6,H6,I6,⟨ext6,q6⟩⟩=>?_
   refine fo (ht _ s6 σ6 H6 _ I6 q6) fun b s7 hq0=>?_
   obtain⟨H7,I7,q7⟩:=hq0
   have back:∀ {s':Shared} {H':Hp},Inv (cxE X N sc fp s H) ([]++pinsAt fp s5.heap) σ6 H' s'->tn (i+1) s'.heap/\(∀ b∈fp,H' b=none)/\Inv (cxE X N sc fp s H) [] (fk js σ) H' s':=fun {s' H'} I'=>by
    refine⟨T.keep _ _ _ st5 fun b hb o e=>(I'.pin (b,o) (aD _ (aD _ (mem_pinsAt hb e)))).1,fun b hb=>?_,(I'.weak ext6.1 ext6.2).unpinned⟩
    obtain⟨o,e,d⟩:=T.obj _ _ st5 b hb
    exact(I'.pin (b,o) (aD _ (aD _ (mem_pinsAt hb e)))).2.1
   cases b with
   | false =>
    obtain⟨m',hm,w7⟩:=q7
    obtain⟨t7,f7,I7'⟩:=back I7
    exact⟨m',hm,i+1,kvs,H7,I7',t7,f7,w7⟩
   | true =>
    refine fo (hk _ s7 σ6 H7 _ I7 q7) fun y s8 hq1=>?_
    obtain⟨yk,H8,I8,ry,q8⟩:=hq1
    refine fo (hv _ s8 σ6 H8 _ I8 q8) fun z s9 hq2=>?_
    obtain⟨zv,H9,I9,rz,kk,kvs',ek,eD,hl,m',hm,w9⟩:=hq2
    subst ek
    refine dict_set (X:=cxE X N sc fp s H) I9 eD hl ry rz fun s10 I10=>?_
    obtain⟨t8,f8,I8'⟩:=back I10
    exact⟨m',hm,i+1,_,_,I8',t8,f8,w9⟩
 exact codeAny_compStart_dict loop (T.self _ 0 _ _ _ st0 loop)
def tCompD (wi:TI)(js:List (Option Nat))(g:TG)(tt:TT)(tk tv:TE):TE:=fun σ H Q=>wi σ H fun J H1=>∀ D,H1 D=none->wCompD js g tt tk tv J σ D (upd H1 D (.dK [])) fun _ H'=>Q (.ref D) H'
end
def keyD:D->Option Key
 | .int i=>some (.inl i)
 | .str z=>some (.inr z)
 | _=>none
theorem keyD_is {φ:List Addr}{H:Hp}{d:D}{v:V}{k:Key}(e:keyD d=some k)(i:DIs φ H d v):v=kV k:=by
 cases d with
 | int n=>cases e;exact i
 | str z=>cases e;exact i
 | _=>cases e
def dput (kvs:List (Key×D))(k:Key)(d:D):List (Key×D):=if(kvs.any fun kv=>decide (kv.1=k))=true then kvs.map (fun kv=>if kv.1=k then(kv.1,d)else kv)else kvs++[(k,d)]
def dval (kvs:List (Key×D))(k:Key):Option D:=(kvs.find? fun kv=>decide (kv.1=k)).map (·.2)
theorem dput_len (kvs:List (Key×D))(k:Key)(d:D):(dput kvs k d).length<=kvs.length+1:=by
 unfold dput
 split
 ·rw[fC];omega
 ·rw[gxE,aO];omega
def dItemD (ρ:DE)(y:DG)(t:Dt)(wk wv:De)(d:D)(μ:MS)(K:Option (Key×D)->MS->Prop):Prop:=y d ρ μ fun ρ2 eV=>t ρ2 eV fun b μ3=>if b=true then wk ρ2 μ3 fun kd μ4=>opt (keyD kd) fun k=>wv ρ2 μ4 fun v μ5=>K (some (k,v)) μ5 else K none μ3
theorem Fr.noext {φ ee:List Addr}{H H':Hp}(f:Fr φ H ee H')(hl:ee.length=φ.length):ee=φ:=by
 obtain⟨⟨ψ,rfl,_⟩,_,_⟩:=f
 rw[gxE]at hl
 have:ψ=[]:=List.length_eq_zero_iff.mp (by omega)
 rw[this,aP]
section
variable {X:Cx}{a b e:Expr}{es:List Expr}{pos:Pos}
variable {N:List Str}{js:List (Option Nat)}{sc:Scope}{tg kx vx iter:Expr}{ifs:List Expr}{g:TG}{y:DG}{S:List Nat}{t:Dt}{wk wv:De}
theorem dval_get {φ:List Addr}{H:Hp}{ks:List Key}:∀ {ds:List D} {kvs:List (Key×V)} {k:Key} {d:D},kvs.map (·.1)=ks->dJ φ H ds (kvs.map (·.2))->dval (ks.zip ds) k=some d->∃ v,valV kvs k=some v/\DIs φ H d v:=by
 intro ds kvs
 induction kvs generalizing ks ds with
 | nil=>intro k d h1 h2 h3;cases h1;cases h3
 | cons p kvs ih =>
  intro k d h1 h2 h3
  cases ks with
  | nil=>cases h1
  | cons k0 ks =>
   cases ds with
   | nil=>cases(show _=_ from h2)
   | cons d0 ds =>
    obtain⟨v,r,e,h4,h5⟩:=h2
    simp only[ai,bH]at h1 e
    obtain⟨rfl,rfl⟩:=e
    obtain⟨rfl,h1⟩:=h1
    rw[cX]at h3
    unfold dval at h3
    rw[bj]at h3
    by_cases hk:p.1=k
    ·simp only[hk,decide_true]at h3
     cases h3
     exact⟨p.2,valV_pos hk,h4⟩
    ·simp only[hk,decide_false]at h3
     obtain⟨v,a,b⟩:=ih h1 h5 (k:=k) (d:=d) h3
     exact⟨v,by rw[valV_neg hk];exact a,b⟩
end
def clN (l:List Nat)(e:Nat):Nat:=e+((l.drop e).takeWhile (·==111)).length
def farF (es:List Int)(l:List Nat)(e:Int):Int:=(es.filter fun x=>decide (x<=(clN l e.toNat:Int))).foldl max e
structure RowOk (es row:List Int):Prop where
 len:row.length=es.length
 mem:∀ x∈row,x∈es
theorem zip_parts {α β:Type}:∀ l:List (α×β),(l.map (·.1)).zip (l.map (·.2))=l
 | []=>rfl
 | p::l=>by rw[ai,ai,cX,zip_parts l]
section
variable {X:Cx}{N:List Str}{sc:Scope}{js:List (Option Nat)}{tg iter kx vx:Expr}{ifs:List Expr}{g:TG}{tt:TT}{tk tv:TE}
theorem pe_compD {wi:TI}{pos:Pos}(hc:CompOk X N js sc)(calm:X.calm=true)(hi:PI X tg iter wi)(hg:∀ fp s H,PG (cxE X N sc fp s H) tg g)
 (ht:∀ fp s H,PTs (cxE X N sc fp s H) ifs tt) (hk:∀ fp s H,PE (cxE X N sc fp s H) kx tk) (hv:∀ fp s H,PE (cxE X N sc fp s H) vx tv)
 (hs:∀ x,foldedSetIterable iter X.env x=pure x:=by intro _;rfl):PE X (.DictComp kx vx [⟨tg,iter,ifs,0⟩] sc pos) (tCompD wi js g tt tk tv):=by
 intro pins s σ H Q I h
 rw[show eval (.DictComp kx vx [⟨tg,iter,ifs,0⟩] sc pos) X.env=comprehension (.DictComp kx vx [⟨tg,iter,ifs,0⟩] sc pos) sc X.env (firstIterPos [⟨tg,iter,ifs,0⟩] pos) newDict (firstAsync [⟨tg,iter,ifs,0⟩]) (firstIter [⟨tg,iter,ifs,0⟩] X.env)from rfl]
 refine b8 (use:=none) rfl hs (closureFor_eq fun y hy e=>I.ok.has y.1 (hc.free y hy e)) hc.kind hc.loc (fo (hi pins s σ H _ I h) fun v s1 h1=>fo h1 fun itv s2 h2=>?_)
 obtain⟨it,fp,tn,J,H2,e,I2,T,st2,f2,q⟩:=h2
 subst e
 refine aV (newEnv_comp ?_)
 have hD:H2 s2.heap.objs.size=none:=I2.dX.fresh (aa _)
 have I3:Inv X pins σ (upd H2 s2.heap.objs.size (.dK [])) { s2 with heap:=s2.heap.push { cls:=.type "dict",data:=.dict #[]}}:=I2.laid (t':=s2.toks) (fun _ _ q=>gxL _ q) (aa _) (dk_empty s2.heap I2.big)
 have hC:(s2.heap.push { cls:=.type "dict",data:=.dict #[]}).objs.size=s2.heap.objs.size+1:=aY ..
 have st3:tn 0 (s2.heap.push { cls:=.type "dict",data:=.dict #[]}):=T.keep 0 _ _ st2 fun b _ o e=>gxL _ e
 have hob:∀ b∈fp,b≠s2.heap.objs.size:=fun b hb=>let ⟨o,e,_⟩:=T.obj 0 s2.heap st2 b hb;aC (gxN e)
 have f3:∀ b∈fp,FpOk X pins (upd H2 s2.heap.objs.size (.dK [])) b:=fun b hb=>⟨by rw[dQ (hob b hb)];exact(f2 b hb).1,(f2 b hb).2⟩
 refine compD_block (s:={ s2 with heap:=s2.heap.push { cls:=.type "dict",data:=.dict #[]}}) (tok:=s2.toks) I3 hc calm T st3 f3 (hg fp _ _) (ht fp _ _) (hk fp _ _) (hv fp _ _) (q s2.heap.objs.size hD) fun s' H' kvs m IX qf nC hn=>?_
 have hlt:s2.heap.objs.size<(s2.heap.push { cls:=.type "dict",data:=.dict #[]}).objs.size:=by rw[hC];exact bL _
 have neC:∀(b:Addr) (o:Obj),s2.heap.get? b=some o->b≠(s2.heap.push { cls:=.type "dict",data:=.dict #[]}).objs.size:=fun b o e=>aC (Nat.lt_trans (gxN e) hlt)
 refine⟨m,nC,fun h' sb=>?_⟩
 have IY:Inv X pins σ H' { s' with heap:=h'}:=IX.turned (t':=s'.toks) (it:=(s2.heap.push { cls:=.type "dict",data:=.dict #[]}).objs.size) (fun b o hb e=>(sb.2 b hb).trans e) hn
  (a9 (Nat.lt_trans I2.lt hlt)) (.inr (Nat.le_of_lt (bT I2.sz hlt))) (fun x c e=>let ⟨v,z⟩:=I2.cell x c e;aC (Nat.lt_trans z.lt hlt)) (fun p hp=>neC _ _ (I2.pin p hp).1)
 exact⟨.ref _,_,IY,rfl,qf⟩
variable {y:DG}{S:List Nat}{t:Dt}{wk wv:De}
end
theorem rngD_cons (lo:Int)(n:Nat):rngD lo (n+1)=.int lo::rngD (lo+1) n:=by
 unfold rngD
 rw[List.range_succ_eq_map,ai,aB]
 congr 1
 ·simp
 ·refine bP fun i _=>?_
  show D.int (lo+((i+1:Nat):Int))=_
  congr 1
  omega
theorem old_app {μ g:MS}(hm:∀(j:Nat) (m:MO),μ[j]?=some m->moB μ.length m):∀(j:Nat) (m:MO),j<μ.length->(μ++g)[j]?=some m->moB μ.length m:=fun j m hj e=>by
 rw[gxF hj]at e;exact hm j m e
theorem lvM_ty {μ:MS}{k:Nat}{ds:List D}(h:lvM μ k=some ds):TyD "list" μ (.mr k):=by show(match μ[k]? with | some (.lst _) => "list" = "list" | some (.dic _ _) => "list" = "dict" | _=>False);rw[lvM_eq h]
end L2
namespace L2
end L2
namespace L2
open PySem PySem.Spec PyProof.Rows
def Rises (row:List Int):Prop:=∀(i j:Nat) (a b:Int),i<=j->row[i]?=some a->row[j]?=some b->a<=b
structure RowGood (es:List Int)(ts:List Tk)(a:Int)(row:List Int):Prop where
 ok:RowOk es row
 up:Rises row
 ge:∀(i:Nat) (x e:Int),row[i]?=some x->es[i]?=some e->e<=x
 far:∀(i:Nat) (x e:Int),row[i]?=some x->es[i]?=some e->∀ t∈ts,t.2<=a->farF es t.1 e<=x
structure GoodTo (es:List Int)(ts:List Tk)(a:Int)(row:List Int)(k:Nat):Prop where
 mem:∀(i:Nat) (x:Int),i<k->row[i]?=some x->x∈es
 up:∀(i j:Nat) (x y:Int),i<=j->j<k->row[i]?=some x->row[j]?=some y->x<=y
 ge:∀(i:Nat) (x e:Int),i<k->row[i]?=some x->es[i]?=some e->e<=x
 far:∀(i:Nat) (x e:Int),i<k->row[i]?=some x->es[i]?=some e->∀ t∈ts,t.2<=a->farF es t.1 e<=x
theorem GoodTo.all {es:List Int}{ts:List Tk}{a:Int}{row:List Int}(g:GoodTo es ts a row row.length)(hl:row.length=es.length):RowGood es ts a row:=by
 have lt:∀ {i:Nat} {x:Int},row[i]?=some x->i<row.length:=fun e=>(gxB e).1
 exact⟨⟨hl,fun x hx=>by obtain⟨i,hi,e⟩:=bQ hx;exact g.mem i x hi (by rw[gxA hi,e])⟩,fun i j x y hij e1 e2=>g.up i j x y hij (lt e2) e1 e2,fun i x e e1 e2=>g.ge i x e (lt e1) e1 e2,fun i x e e1 e2=>g.far i x e (lt e1) e1 e2⟩
theorem compW_gen {α:Type}{it:D->MS->(Option D->MS->Prop)->Prop}{c:MS->Prop}{μ:MS}(hc:c μ)(g:α->D)(f:α->Option D):∀ {xs:List α} {K:List D->MS->Prop},(∀ x∈xs,∀(K':Option D->MS->Prop),K' (f x) μ->it (g x) μ K')->K (xs.filterMap f) μ->compW it c (xs.map g) μ K
 | [],K,_,k=>⟨hc,k⟩
 | x::xs,K,h,k=>⟨hc,h x av _ (compW_gen hc g f (fun y hy=>h y (gxI _ hy)) (by
  cases e:f x with
  | none=>rw[List.filterMap_cons_none e]at k;exact k
  | some y=>rw[List.filterMap_cons_some e]at k;exact k))⟩
theorem compW_all {α:Type}{it:D->MS->(Option D->MS->Prop)->Prop}{c:MS->Prop}{μ:MS}(hc:c μ)(g f:α->D){xs:List α}{K:List D->MS->Prop}(h:∀ x∈xs,∀(K':Option D->MS->Prop),K' (some (f x)) μ->it (g x) μ K')(k:K (xs.map f) μ):compW it c (xs.map g) μ K:=by
 refine compW_gen hc g (fun x=>some (f x)) h ?_
 rw[List.filterMap_eq_map']
 exact k
theorem atI_maps {α:Type}{g:α->D}{xs:List α}{k:Nat}{x:α}(h:xs[k]?=some x):atI (xs.map g) (k:Int)=some (g x):=atI_map h
end L2
namespace L2
end L2
namespace L2
open PySem PySem.Spec PyProof.Rows
theorem Room.le {j k:Nat}{A:Around}(r:Room k A)(h:j<=k:=by first | decide | exact aa _ | omega):Room j A:=r.mono h
theorem lo {sc:Scope}{x:Str}(h:Loc sc x:=by first | exact Or.inl rfl | exact Or.inr rfl):Loc sc x:=h
theorem mr_all {n:Nat}:∀ {ds:List D},(∀ d∈ds,mrB n d)->mrL n ds
 | [],_=>by unfold mrL;trivial
 | d::ds,h=>by unfold mrL;exact⟨h d av,mr_all fun x hx=>h x (gxI _ hx)⟩
end L2
namespace L2
end L2
namespace L2
open PySem PySem.Spec PyProof.Rows
def joinT (a b:Tk)(p:Int):Tk:=(a.1.take p.toNat++b.1.drop p.toNat,max a.2 b.2+1)
def fJoined:DSp:=fun ds μ K=>match ds with
 | [.tup [.str z,.int a],.tup [.str y,.int b],.int p]=>∃ x u:Tk,z=txt x.1/\a=x.2/\y=txt u.1/\b=u.2/\0<=p/\x.1.length<=1000/\u.1.length<=1000/\K (tkD (joinT x u p)) μ
 | _=>False
section
variable {X:Cx}{e:Expr}{pos:Pos}
def dDNew:De:=fun _ μ K=>K (.mr μ.length) (μ++[.dic [] []])
theorem d_dnew:PD X (.Dict [] [] pos) dDNew:=pe_dnewK.imp fun σ H Q ⟨φ,ρ,μ,K,A,M,k,L⟩=>fun p hp=>by
 obtain⟨M',f⟩:=M.snoc (o:=.dK []) (m:=.dic [] []) hp ⟨[],[],dE,rfl,rfl,rfl⟩
 exact L _ _ _ _ _ k f M' ⟨p,by rw[gxG (by rw[M.len];exact aa _),M.len,aQ];rfl,rfl⟩
end
def Itd (a:Addr)(o:Obj)(kvs:List (Key×V)):It:=⟨fun i H=>i<kvs.length/\H a=some (.frz o (.dK kvs)),fun i H x H'=>H'=H/\∃ p,kvs[i]?=some p/\x=kV p.1,fun i H=>kvs.length<=i/\H a=some (.frz o (.dK kvs))⟩
theorem kV_of {k:Key}{u:Value}(h:keyIs k u=true):RelV (kV k) u:=by
 rcases keyIs_shape h with⟨i,t,rfl,rfl⟩ | ⟨x,t,rfl,rfl⟩
 ·exact⟨t,rfl⟩
 ·exact⟨t,rfl⟩
theorem pair_at {κ:Type}{kvs:List (κ×V)}{vs:List (κ×Value)}(h:KV kvs vs):∀ {i:Nat} {p:κ×V},kvs[i]?=some p->∃ v,vs[i]?=some (p.1,v):=by
 unfold KV at h
 induction h with
 | nil=>intro i p e;simp at e
 | @cons a b as bs r _ ih =>
  intro i p e
  cases i with
  | zero =>
   simp at e
   subst e
   refine⟨b.2,?_⟩
   rw[r.1];rfl
  | succ i=>exact ih (by simpa using e)
theorem turn_dict {P:Program}{w:World}{K:PySem.W.Frag}{tg:Expr}(a it:Addr){o:Obj}{kvs:List (Key×V)}{vs:List (Key×Value)}{ep:Nat}(kv:KV kvs vs)(hd:∀ h:Heap,h.get? a=some o->h.DictAt (eK P w) a vs ep) :
 Turn P w K tg (Itd a o kvs) [it] it (fun i h=>h.IsKeyIter it a i vs.length ep) where
 mem:=by simp
 obj:=fun i h st b hb=>by
  have e:b=it:=by simpa using hb
  subst e
  obtain⟨o,e,c,d⟩:=st
  exact⟨o,e,fun v z=>by rw[d]at z;cases z⟩
 keep:=fun i h h' st k=>st.at fun o e=>k it (by simp) o e
 item:=by
  intro X hP hw hK hc i pins s σ H E I hf st hg
  subst hP hw hK
  obtain⟨hi,hq⟩:=hg
  obtain⟨p,hp⟩:∃ p,kvs[i]?=some p:=⟨_,gxA hi⟩
  obtain⟨v,hv⟩:=pair_at kv hp
  have ho:s.heap.get? a=some o:=(show fj X.prog X.w H s.heap a (.frz o (.dK kvs))from I.dX a _ hq).1
  obtain⟨f0,f1,f2,f3,f4,f5⟩:=hf it (by simp)
  refine wpAny_pyNext_dict_item st (hd _ ho) hv fun key h' hkey st' sb=>?_
  have I1:Inv X pins σ H { s with heap:=h'}:=I.turned (t':=s.toks) (fun b o hb e=>(sb.2 b hb).trans e) f0 f1 f3 f4 f5
  obtain⟨oi,e,c,d⟩:=id st'
  exact⟨key,rfl,go_of (s:={ s with heap:=h'}) e c d (by decide) ⟨kV p.1,H,I1,kV_of hkey,⟨rfl,p,hp,rfl⟩,st',fun b hb=>(hf b hb).1⟩⟩
 done:=by
  intro X hP hw hK hc i pins s σ H E I hf st hg
  subst hP hw hK
  obtain⟨hi,hq⟩:=hg
  have ho:s.heap.get? a=some o:=(show fj X.prog X.w H s.heap a (.frz o (.dK kvs))from I.dX a _ hq).1
  obtain⟨f0,f1,f2,f3,f4,f5⟩:=hf it (by simp)
  have hl:=KV.length kv
  exact wpAny_pyNext_dict_end (I.ok.hd hc) st (hd _ ho) (List.getElem?_eq_none_iff.mpr (by omega)) fun h' eb=>⟨rfl,I.turned (t':=s.toks) (fun b o hb e=>eb b o hb e) f0 f1 f3 f4 f5⟩
 self:=fun _ _ _ _ _ st h=>wpAny_pyIter_keyiter st h
theorem freeze {X:Cx}{pins:List (Addr×Obj)}{σ:St}{H:Hp}{s:Shared}{a:Addr}{kvs:List (Key×V)}(I:Inv X pins σ H s)(e:Rd H a (.dK kvs)):∃ o vs ep,KV kvs vs/\(∀ h:Heap,h.get? a=some o->h.DictAt (eK X.prog X.w) a vs ep)/\s.heap.DictAt (eK X.prog X.w) a vs ep/\(a==sysModules)=false/\Inv X pins σ (upd H a (.frz o (.dK kvs))) s:=by
 obtain⟨z,hd,vs,rel,dd⟩:=dk_rd I.dX e
 obtain⟨ep,da⟩:=dd.dictAt
 obtain⟨o,es,ho,r⟩:=id da
 refine⟨o,vs,ep,rel,fun h e=>⟨o,es,e,r⟩,da,hd,?_⟩
 rcases e with e | ⟨o',e⟩
 ·exact d_write (t':=s.toks) I (by rw[e];exact True.intro) ⟨rfl,fun b _=>rfl⟩ ⟨o,ho⟩ ⟨ho,dk_new z hd rel dd⟩
 ·have ho':s.heap.get? a=some o':=(show fj X.prog X.w H s.heap a (.frz o' (.dK kvs))from I.dX a _ e).1
  rw[ho]at ho'
  cases ho'
  have:upd H a (.frz o (.dK kvs))=H:=by
   funext b
   unfold upd
   split
   ·rename_i q;rw[q,e]
   ·rfl
  rw[this];exact I
section
variable {X:Cx}{tg:Expr}
def iDict (tl:TE):TI:=fun σ H R=>tl σ H fun v H1=>∃ a kvs,v=.ref a/\((H1 a=some (.dK kvs)/\∀ o,R (Itd a o kvs) (upd H1 a (.frz o (.dK kvs))))\/∃ o,H1 a=some (.frz o (.dK kvs))/\R (Itd a o kvs) H1)
theorem pi_dict {l:Expr}{tl:TE}(hl:PE X l tl):PI X tg l (iDict tl):=by
 intro pins s σ H R I h
 refine fo (hl pins s σ H _ I h) fun v s1 hq=>?_
 obtain⟨x,H1,I1,r1,q1⟩:=hq
 obtain⟨a,kvs,e,q⟩:=q1
 subst e
 cases r1
 obtain⟨o,vs,ep,kv,hd,da,hs,I2,q⟩:∃ o vs ep,KV kvs vs/\(∀ h:Heap,h.get? a=some o->h.DictAt (eK X.prog X.w) a vs ep)/\s1.heap.DictAt (eK X.prog X.w) a vs ep/\(a==sysModules)=false/\Inv X pins σ (upd H1 a (.frz o (.dK kvs))) s1/\R (Itd a o kvs) (upd H1 a (.frz o (.dK kvs))):=by
  rcases q with⟨e,q⟩ | ⟨o,e,q⟩
  ·obtain⟨o,vs,ep,kv,hd,da,hs,I2⟩:=freeze I1 (.inl e)
   exact⟨o,vs,ep,kv,hd,da,hs,I2,q o⟩
  ·obtain⟨o',vs,ep,kv,hd,da,hs,I2⟩:=freeze I1 (.inr ⟨o,e⟩)
   have ho:s1.heap.get? a=some o:=(show fj X.prog X.w H1 s1.heap a (.frz o (.dK kvs))from I1.dX a _ e).1
   have ho':s1.heap.get? a=some o':=(show fj X.prog X.w _ s1.heap a (.frz o' (.dK kvs))from I2.dX a _ dE).1
   rw[ho]at ho'
   cases ho'
   have:upd H1 a (.frz o (.dK kvs))=H1:=by
    funext b
    unfold upd
    split
    ·rename_i q;rw[q,e]
    ·rfl
   exact⟨o,vs,ep,kv,hd,da,hs,I2,by rw[this];exact q⟩
 refine wpAny_pyIter_dict hs da ?_
 refine⟨s1.heap.objs.size,[s1.heap.objs.size],_,_,_,rfl,I2.kept (t':=s1.toks) fun b o e=>gxL _ e,turn_dict a _ kv hd,⟨_,au _ rfl,rfl,rfl⟩,fun b hb=>?_,q⟩
 have e:b=s1.heap.objs.size:=by simpa using hb
 subst e
 exact I2.fpOk (aa _) (I2.dX.fresh (aa _))
end
def keyV:Key->D
 | .inl i=>.int i
 | .inr z=>.str z
theorem keyV_is {φ:List Addr}{H:Hp}(k:Key):DIs φ H (keyV k) (kV k):=by cases k <;> rfl
def dicM (μ:MS)(k:Nat):Option (List Key×List D):=match μ[k]? with | some (.dic ks ds)=>some (ks,ds) | some (.fdic _ kvs ds)=>some (kvs.map (·.1),ds) | _=>none
theorem dicM_is {φ:List Addr}{H:Hp}{μ:MS}{k:Nat}{ks:List Key}{ds:List D}{v:V}(M:dZ φ H μ)(i:DIs φ H (.mr k) v)(h:dicM μ k=some (ks,ds)):∃ p kvs,φ[k]?=some p/\v=.ref p/\Rd H p (.dK kvs)/\kvs.map (·.1)=ks/\dJ φ H ds (kvs.map (·.2)):=by
 obtain⟨p,hp,rfl⟩:=i
 unfold dicM at h
 split at h
 ·rename_i e;cases h
  obtain⟨q,e1,kvs,vs,h1,h2,h3,h4⟩:=M.at_ k _ e
  rw[hp]at e1;cases e1
  subst h3
  exact⟨p,kvs,hp,rfl,.inl h1,h2,h4⟩
 ·rename_i e;cases h
  obtain⟨q,e1,h1,h4⟩:=M.at_ k _ e
  rw[hp]at e1;cases e1
  exact⟨p,_,hp,rfl,.inr ⟨_,h1⟩,rfl,h4⟩
 ·cases h
theorem dval_rel {φ:List Addr}{H:Hp}{ks:List Key}:∀ {ds:List D} {kvs:List (Key×V)} (k:Key),kvs.map (·.1)=ks->dJ φ H ds (kvs.map (·.2))->(dval (ks.zip ds) k=none/\valV kvs k=none)\/∃ d v,dval (ks.zip ds) k=some d/\valV kvs k=some v/\DIs φ H d v:=by
 intro ds kvs
 induction kvs generalizing ks ds with
 | nil=>intro k h1 h2;cases h1;exact .inl ⟨rfl,rfl⟩
 | cons p kvs ih =>
  intro k h1 h2
  cases ks with
  | nil=>cases h1
  | cons k0 ks =>
   cases ds with
   | nil=>cases(show _=_ from h2)
   | cons d0 ds =>
    obtain⟨v,r,e,h4,h5⟩:=h2
    simp only[ai,bH]at h1 e
    obtain⟨rfl,rfl⟩:=e
    obtain⟨rfl,h1⟩:=h1
    rw[cX]
    unfold dval
    rw[bj]
    by_cases hk:p.1=k
    ·simp only[hk,decide_true]
     exact .inr ⟨_,_,rfl,valV_pos hk,h4⟩
    ·simp only[hk,decide_false]
     rw[valV_neg hk]
     exact ih k h1 h5
theorem dput_rel {φ:List Addr}{H:Hp}{k:Key}{d:D}{v:V}(hd:DIs φ H d v){kd:List (Key×D)}{kv:List (Key×V)}(e:kv.map (·.1)=kd.map (·.1))(ha:dJ φ H (kd.map (·.2)) (kv.map (·.2))):(putK kv k v).map (·.1)=(dput kd k d).map (·.1)/\dJ φ H ((dput kd k d).map (·.2)) ((putK kv k v).map (·.2)):=by
 have ea:(kv.any fun p=>decide (p.1=k))=kd.any fun p=>decide (p.1=k):=by
  have:(kv.map (·.1)).any (fun x=>decide (x=k))=(kd.map (·.1)).any fun x=>decide (x=k):=by rw[e]
  rw[List.any_map,List.any_map]at this
  exact this
 unfold putK dput
 rw[ea]
 by_cases q:(kd.any fun p=>decide (p.1=k))=true
 ·rw[ag q,ag q]
  clear q ea
  induction kd generalizing kv with
  | nil =>
   cases kv with
   | nil=>exact⟨rfl,rfl⟩
   | cons _ _=>cases e
  | cons p kd ih =>
   cases kv with
   | nil=>cases e
   | cons p' kv =>
    simp only[ai,bH]at e
    obtain⟨v0,r,e2,h4,h5⟩:=ha
    simp only[ai,bH]at e2
    obtain⟨rfl,rfl⟩:=e2
    obtain⟨i1,i2⟩:=ih e.2 h5
    by_cases hk:p.1=k
    ·have hk':p'.1=k:=by rw[e.1,hk]
     simp only[ai,ag hk,ag hk']
     exact⟨by rw[i1,e.1],_,_,rfl,hd,i2⟩
    ·have hk':¬ p'.1=k:=by rw[e.1];exact hk
     simp only[ai,ae hk,ae hk']
     exact⟨by rw[i1,e.1],_,_,rfl,h4,i2⟩
 ·rw[ae q,ae q,aE,aE,aE,aE]
  exact⟨by rw[e];rfl,ha.app ⟨v,[],rfl,hd,rfl⟩⟩
section
variable {X:Cx}{a b e:Expr}{pos:Pos}
def ixM (μ:MS)(j:Nat)(y:D):Option (Option D):=(dicM μ j).bind fun q=>(keyD y).map fun k=>dval (q.1.zip q.2) k
theorem ixM_ex {μ:MS}{j:Nat}{y:D}{o:Option D}(h:ixM μ j y=some o):∃ ks ds k,dicM μ j=some (ks,ds)/\keyD y=some k/\dval (ks.zip ds) k=o:=by
 unfold ixM at h
 cases e:dicM μ j with
 | none=>rw[e]at h;cases h
 | some q =>
  rw[e]at h
  cases e2:keyD y with
  | none=>rw[e2]at h;cases h
  | some k=>rw[e2]at h;cases h;exact⟨q.1,q.2,k,rfl,rfl,rfl⟩
def dIxKM:DOp:=fun x y μ K=>match x with
 | .mr j=>∃ d,ixM μ j y=some (some d)/\K d μ
 | _=>False
def dAsgKM (w wo wi:De):Ds:=fun N ρ μ=>w ρ μ fun d dF=>wo ρ dF fun o eV=>wi ρ eV fun i μ3=>match o with
 | .mr j=>∃ kd kd':List (Key×D),μ3[j]?=some (.dic (kd.map (·.1)) (kd.map (·.2)))/\kd.length<sizeLine/\(keyD i).map (fun k=>dput kd k d)=some kd'/\N.nx ρ (μ3.set j (.dic (kd'.map (·.1)) (kd'.map (·.2))))
 | _=>False
theorem s_asgKM {o i:Expr}{w wo wi:De}{pos':Pos}(hu:X.A.units+1<cLine)(he:PD X e w)(ho:PD X o wo)(hi:PD X i wi)(hs:swapsWith e (some (.Subscript o i pos')) pos.line X.env=pure false:=by rfl) :
 PDS X (.Assign [.Subscript o i pos'] e pos) (dAsgKM w wo wi):=(ps_dput hu ho hi he hs).imp fun E σ H hq=>by
 obtain⟨φ,ρ,μ,N,A,M,w,L⟩:=hq
 refine⟨φ,ρ,μ,_,A,M,w,fun d dF d9 v1 H1 k1 f1 M1 i1=>?_⟩
 refine⟨d9,ρ,dF,_,A.mono f1,M1,k1,fun d2 eV φ2 v2 H2 k2 f2 M2 i2=>?_⟩
 refine⟨φ2,ρ,eV,_,A.mono (f1.trans f2),M2,k2,fun d3 μ3 φ3 v3 H3 k3 f3 M3 i3=>?_⟩
 cases d2 with
 | mr j =>
  obtain⟨kd,kd',em,hl,ek',k3⟩:=k3
  obtain⟨k,ek,rfl⟩:=Option.map_eq_some_iff.mp ek'
  obtain⟨p,hp,rfl⟩:=i2.mono f3
  obtain⟨p',e1,kvs,vs,hv,h1,h2,ha⟩:=M3.at_ j _ em
  rw[hp]at e1;cases e1
  subst h2
  cases keyD_is ek i3
  have f4:Fr φ3 H3 φ3 (upd H3 p (.dK (putK kvs k v1))):=.put (gxD hp)
  obtain⟨g1,g2⟩:=dput_rel (k:=k) ((i1.mono (f2.trans f3)).mono f4) h1 (ha.mono f4)
  refine⟨p,_,rfl,DPut.k hv (by have:=bD List.length h1;rw[fC,fC]at this;omega),?_⟩
  have M4:=M3.put (k:=j) (p:=p) (o:=.dK (putK kvs k v1)) (m:=.dic ((dput kd k d).map (·.1)) ((dput kd k d).map (·.2))) hp ⟨putK kvs k v1,_,dE,g1,rfl,g2⟩
  exact L.nx ρ _ φ3 σ _ k3 ((f1.trans (f2.trans f3)).trans f4) (A.mono ((f1.trans (f2.trans f3)).trans f4)) M4
 | _=>exact k3.elim
def rDictC:List V->Hp->VK->Prop:=fun vs H Q=>match vs with
 | [.ref a]=>∃ kvs,Rd H a (.dK kvs)/\∀ p,H p=none->Q (.ref p) (upd H p (.dK kvs))
 | _=>False
theorem dictC:CallR X (.type "dict") rDictC:=by
 intro pins s σ H xs us Q I r h
 unfold rDictC at h
 split at h
 ·rename_i a
  obtain⟨kvs,rd,q⟩:=h
  cases r with
  | cons r1 r2 =>
   cases r2
   cases r1
   exact d_copyOf I rd fun p s' hp I'=>⟨.ref p,_,I',rfl,q p hp⟩
 ·exact h.elim
end
def jnT (l1 l2:List Nat)(p:Int):List Nat:=l1.take p.toNat++l2.drop p.toNat
theorem jnT_low {l1 l2:List Nat}{p:Int}{k:Nat}(h:p<=l1.length)(hk:(k:Int)<p):(jnT l1 l2 p)[k]?=l1[k]?:=by
 unfold jnT
 rw[gxF (by rw[aM];omega),List.getElem?_take,ag (by omega)]
theorem jnT_high {l1 l2:List Nat}{p:Int}{k:Nat}(h0:0<=p)(h:p<=l1.length)(hk:p<=(k:Int)):(jnT l1 l2 p)[k]?=l2[k]?:=by
 unfold jnT
 rw[gxG (by rw[aM];omega),aM,List.getElem?_drop]
 congr 1;omega
theorem jnT_len {l1 l2:List Nat}{p:Int}(h0:0<=p)(h1:p<=l1.length)(h:l1.length=l2.length):(jnT l1 l2 p).length=l1.length:=by
 unfold jnT
 rw[gxE,aM,cj];omega
theorem jnT_ox {l1 l2:List Nat}{p:Int}(h1:OX l1)(h2:OX l2):OX (jnT l1 l2 p):=fun c hc=>by
 rcases List.mem_append.mp hc with q | q
 ·exact h1 c (aN q)
 ·exact h2 c (List.mem_of_mem_drop q)
end L2
namespace L2
open PySem PySem.Spec PyProof.Rows PySem.SeqAt
end L2
namespace L2
open PySem PySem.Spec PyProof.Rows
def insM (C:Addr)(μ:MS)(k:Nat):Option (List Str×List D):=match μ[k]? with | some (.ins C' ns ds)=>if C'=C then some (ns,ds)else none | _=>none
theorem insM_eq {C:Addr}{μ:MS}{k:Nat}{q:List Str×List D}(h:insM C μ k=some q):μ[k]?=some (.ins C q.1 q.2):=by
 unfold insM at h
 split at h
 ·rename_i C' ns ds e
  by_cases z:C'=C
  ·rw[ag z]at h;cases h;rw[e,z]
  ·rw[ae z]at h;cases h
 ·cases h
theorem insM_of {C:Addr}{μ:MS}{k:Nat}{ns:List Str}{ds:List D}(h:μ[k]?=some (.ins C ns ds)):insM C μ k=some (ns,ds):=by unfold insM;rw[h];exact ag rfl
def lookN (f:Str):List Str->List D->Option D
 | n::ns,d::ds=>if n=f then some d else lookN f ns ds
 | _,_=>none
def putN (f:Str)(d:D):List Str->List D->List Str×List D
 | n::ns,e::ds=>if n=f then(n::ns,d::ds)else(n::(putN f d ns ds).1,e::(putN f d ns ds).2)
 | _,_=>([f],[d])
theorem lookN_is {φ:List Addr}{H:Hp}{f:Str}{d:D}:∀ {fs:List (Str×V)} {ds:List D},dJ φ H ds (fs.map (·.2))->lookN f (fs.map (·.1)) ds=some d->∃ v,fs.lookup f=some v/\DIs φ H d v
 | [],ds,h,e=>by cases ds <;> cases e
 | (n,x)::fs,ds,h,e=>by
  cases ds with
  | nil=>cases e
  | cons d0 ds =>
   obtain⟨v,r,e1,h1,h2⟩:=h
   simp only[ai,bH]at e1
   obtain⟨rfl,rfl⟩:=e1
   simp only[ai,lookN]at e
   rw[cD]
   by_cases q:n=f
   ·rw[ag q]at e;cases e
    subst q
    exact⟨x,by simp,h1⟩
   ·rw[ae q]at e
    have:(f==n)=false:=beq_eq_false_iff_ne.mpr fun z=>q z.symm
    simp only[this]
    exact lookN_is h2 e
theorem lookN_no {φ:List Addr}{H:Hp}{f:Str}:∀ {fs:List (Str×V)} {ds:List D},dJ φ H ds (fs.map (·.2))->lookN f (fs.map (·.1)) ds=none->fs.lookup f=none
 | [],ds,h,e=>rfl
 | (n,x)::fs,ds,h,e=>by
  cases ds with
  | nil=>cases(show _=_ from h)
  | cons d0 ds =>
   obtain⟨v,r,e1,h1,h2⟩:=h
   simp only[ai,bH]at e1
   obtain⟨rfl,rfl⟩:=e1
   simp only[ai,lookN]at e
   rw[cD]
   by_cases q:n=f
   ·rw[ag q]at e;cases e
   ·rw[ae q]at e
    have:(f==n)=false:=beq_eq_false_iff_ne.mpr fun z=>q z.symm
    simp only[this]
    exact lookN_no h2 e
theorem putN_is {φ:List Addr}{H:Hp}{f:Str}{d:D}{v:V}(hd:DIs φ H d v):∀ {fs:List (Str×V)} {ds:List D},dJ φ H ds (fs.map (·.2))->(putF f v fs).map (·.1)=(putN f d (fs.map (·.1)) ds).1/\dJ φ H (putN f d (fs.map (·.1)) ds).2 ((putF f v fs).map (·.2))
 | [],ds,h=>by cases ds <;> exact⟨rfl,v,[],rfl,hd,rfl⟩
 | (n,x)::fs,ds,h=>by
  cases ds with
  | nil=>cases(show _=_ from h)
  | cons d0 ds =>
   obtain⟨v',r,e1,h1,h2⟩:=h
   simp only[ai,bH]at e1
   obtain⟨rfl,rfl⟩:=e1
   simp only[putF,ai,putN]
   by_cases q:n=f
   ·rw[ag q,ag q]
    exact⟨rfl,_,_,rfl,hd,h2⟩
   ·rw[ae q,ae q]
    obtain⟨i1,i2⟩:=putN_is hd h2
    exact⟨by simp only[ai,i1],_,_,rfl,h1,i2⟩
section
variable {X:Cx}{a b e o:Expr}{es:List Expr}{pos:Pos}{C:Addr}
def dFld (C:Addr)(f:Str)(w:De):De:=fun ρ μ K=>w ρ μ fun x dF=>match x with
 | .mr k=>∃ d,(insM C dF k).bind (fun q=>lookN f q.1 q.2)=some d/\K d dF
 | .obj C' ns ds=>C'=C/\∃ d,lookN f ns ds=some d/\K d dF
 | _=>False
theorem eF {f:Str}{w:De}(c:Cls X.K C)(n:NoAttr X.K C f)(h:PD X e w)(hb:attributeBase e f X.env (eval e X.env)=eval e X.env:=by rfl):PD X (.Attribute e f pos) (dFld C f w):=(pe_fld h hb).imp fun σ H Q hq=>by
 obtain⟨φ,ρ,μ,K,A,M,k,L⟩:=hq
 refine⟨φ,ρ,μ,_,A,M,k,fun d1 dF d9 v1 H1 k1 f1 M1 i1=>?_⟩
 cases d1 with
 | mr j =>
  obtain⟨d,e1,k1⟩:=k1
  obtain⟨q,e2,e3⟩:=Option.bind_eq_some_iff.mp e1
  obtain⟨p,hp,rfl⟩:=i1
  obtain⟨p',e4,dx,fs,h1,h2,h3⟩:=M1.at_ j _ (insM_eq e2)
  rw[hp]at e4;cases e4
  rw[<- h2]at e3
  obtain⟨v,l,iv⟩:=lookN_is h3 e3
  exact⟨p,C,dx,fs,v,rfl,h1,c,n,l,L _ dF d9 v H1 k1 f1 M1 iv⟩
 | obj C' ns ds =>
  obtain⟨rfl,d,e3,k1⟩:=k1
  obtain⟨p,dx,fs,vs,rfl,_,h1,h2,rfl,h3⟩:=i1
  rw[<- h2]at e3
  obtain⟨v,l,iv⟩:=lookN_is h3 e3
  exact⟨p,_,dx,fs,v,rfl,h1,c,n,l,L _ dF d9 v H1 k1 f1 M1 iv⟩
 | _=>exact k1.elim
def dSFld (C:Addr)(f:Str)(w wo:De):Ds:=fun N ρ μ=>w ρ μ fun d dF=>wo ρ dF fun x eV=>match x with
 | .mr k=>∃ q q':List Str×List D,insM C eV k=some q/\putN f d q.1 q.2=q'/\q.1.length<1000/\N.nx ρ (eV.set k (.ins C q'.1 q'.2))
 | _=>False
theorem s_fld {f:Str}{w wo:De}{pos':Pos}(c:Cls X.K C)(n:NoAttr X.K C f)(he:PD X e w)(ho:PD X o wo)(hs:swapsWith e (some (.Attribute o f pos')) pos.line X.env=pure false:=by rfl):PDS X (.Assign [.Attribute o f pos'] e pos) (dSFld C f w wo) :=
 (ps_fld ho he hs).imp fun E σ H hq=>by
 obtain⟨φ,ρ,μ,N,A,M,k,L⟩:=hq
 refine⟨φ,ρ,μ,_,A,M,k,fun d dF d9 v1 H1 k1 f1 M1 i1=>?_⟩
 refine⟨d9,ρ,dF,_,A.mono f1,M1,k1,fun d2 eV φ2 v2 H2 k2 f2 M2 i2=>?_⟩
 cases d2 with
 | mr j =>
  obtain⟨q,_,e2,rfl,hl,k2⟩:=k2
  obtain⟨p,hp,rfl⟩:=i2
  obtain⟨p',e4,dx,fs,h1,h2,h3⟩:=M2.at_ j _ (insM_eq e2)
  rw[hp]at e4;cases e4
  have f4:Fr φ2 H2 φ2 (upd H2 p (.ins C dx (putF f v1 fs))):=.put (gxD hp)
  obtain⟨g1,g2⟩:=putN_is (f:=f) ((i1.mono f2).mono f4) (h3.mono f4)
  rw[h2]at g1 g2
  refine⟨p,C,dx,fs,rfl,h1,c,n,by rw[<- h2,fC]at hl;exact hl,?_⟩
  exact L.nx ρ _ φ2 σ _ k2 ((f1.trans f2).trans f4) (A.mono ((f1.trans f2).trans f4)) (M2.put hp ⟨dx,_,dE,g1,g2⟩)
 | _=>exact k2.elim
structure CalM (P:Program)(w:World)(K:PySem.W.Frag)(mg:Str->Option Value)(base:Heap)(C:Addr)(m:Str)(k:Nat)(ps:List Str)(sp:Sp):Prop where
 ex:∃ f fd,d8 P w K mg base CX0 k f fd ps sp/\Meth K C m f/\Binds K fd ps []
def recvD (C:Addr)(m:Str)(μ:MS):D->Prop
 | .mr k=>(insM C μ k).map (fun q=>lookN m q.1 q.2)=some none
 | .obj C' ns es=>C'=C/\lookN m ns es=none
 | _=>False
theorem recvD_is {m:Str}{φ:List Addr}{H:Hp}{μ:MS}{d:D}{v:V}(M:dZ φ H μ)(i:DIs φ H d v)(h:recvD C m μ d):∃ p dx fs,v=.ref p/\H p=some (.ins C dx fs)/\fs.lookup m=none:=by
 cases d with
 | mr j =>
  obtain⟨q,e2,e3⟩:=Option.map_eq_some_iff.mp (show(insM C μ j).map (fun q=>lookN m q.1 q.2)=some none from h)
  obtain⟨p,hp,rfl⟩:=i
  obtain⟨p',e4,dx,fs,h1,h2,h3⟩:=M.at_ j _ (insM_eq e2)
  rw[hp]at e4;cases e4
  rw[<- h2]at e3
  exact⟨p,dx,fs,rfl,h1,lookN_no h3 e3⟩
 | obj C' ns es =>
  obtain⟨rfl,e3⟩:=(show C'=C/\lookN m ns es=none from h)
  obtain⟨p,dx,fs,vs0,rfl,_,h1,h2,rfl,h3⟩:=i
  rw[<- h2]at e3
  exact⟨p,dx,fs,rfl,h1,lookN_no h3 e3⟩
 | _=>exact(show False from h).elim
def dMeth (C:Addr)(m:Str)(f:DSp)(wo:De)(w:DA):De:=fun ρ μ K=>wo ρ μ fun x dF=>recvD C m dF x/\w ρ dF fun ds eV=>f (x::ds) eV K
theorem tD_meth {m:Str}{f:DSp}{wo:De}{w:DA}{σ:St}{H:Hp}{Q:VK}(h:tD (dMeth C m f wo w) σ H Q):tMeth C m (spD f) [] E0 (tD wo) (tDA w) σ H Q:=by
 obtain⟨φ,ρ,μ,K,A,M,k,L⟩:=h
 refine⟨φ,ρ,μ,_,A,M,k,fun d1 dF d9 v1 H1 k1 f1 M1 i1=>?_⟩
 obtain⟨p,dx,fs,rfl,h1,h2⟩:=recvD_is M1 i1 k1.1
 refine⟨p,dx,fs,rfl,h1,h2,d9,ρ,dF,_,A.mono f1,M1,k1.2,fun ds eV φ2 vs H2 k2 f2 M2 i2=>?_⟩
 show spD f (.ref p::(vs++[])) H2 Q E0
 rw[aP]
 exact⟨φ2,d1::ds,eV,K,⟨_,vs,rfl,DIs.mono f2 i1,i2⟩,M2,k2,L.mono (f1.trans f2)⟩
theorem d_meth {m:Str}{f:DSp}{wo:De}{w:DA}{apos:Pos}{pl:Sem Bool}{k:Nat}{ps:List Str}(CM:CalM X.prog X.w X.K X.mg X.base C m k ps (spD f))(c:Cls X.K C)(hr:Room k X.A)(ho:PD X o wo)(ha:PDA X (e::es) w)
 (hst:starEach (e::es) X.env=(false,eval e X.env)::starEach es X.env:=by rfl) (hpl:(backTo pos (starEach es X.env)).any (·.1)=false:=by rfl)
 (ht:eval (.Call (.Attribute o m apos) (e::es) [] pos) X.env=(do
   let ov <- eval o X.env
   standAt apos.atName
   let (f,first) <- holding [ov] (getMethod ov m pl)
   callWith pos f first (backTo pos (starEach (e::es) X.env)) (backToKw pos (keywordEach [] X.env))):=by rfl) :
 PD X (.Call (.Attribute o m apos) (e::es) [] pos) (dMeth C m f wo w):=by
 obtain⟨f',fd,F,hm,hb⟩:=CM.ex
 exact(pe_meth ho c hm F hr hb .nil pass0 ha hst hpl ht).imp fun σ H Q hq=>tD_meth hq
theorem d_meth0 {m:Str}{f:DSp}{wo:De}{apos:Pos}{pl:Sem Bool}{k:Nat}{ps:List Str}(CM:CalM X.prog X.w X.K X.mg X.base C m k ps (spD f))(c:Cls X.K C)(hr:Room k X.A)(ho:PD X o wo)
 (ht:eval (.Call (.Attribute o m apos) [] [] pos) X.env=(do
   let ov <- eval o X.env
   standAt apos.atName
   let (f,first) <- holding [ov] (getMethod ov m pl)
   callWith pos f first (backTo pos (starEach [] X.env)) (backToKw pos (keywordEach [] X.env))):=by rfl) :
 PD X (.Call (.Attribute o m apos) [] [] pos) (dMeth C m f wo dNil):=by
 obtain⟨f',fd,F,hm,hb⟩:=CM.ex
 refine(pe_meth0 ho c hm F hr hb .nil pass0 ht).imp fun σ H Q hq=>?_
 obtain⟨φ,ρ,μ,K,A,M,k,L⟩:=hq
 refine⟨φ,ρ,μ,_,A,M,k,fun d1 dF d9 v1 H1 k1 f1 M1 i1=>?_⟩
 obtain⟨p,dx,fs,rfl,h1,h2⟩:=recvD_is M1 i1 k1.1
 exact⟨p,dx,fs,rfl,h1,h2,d9,[d1],dF,K,⟨_,[],rfl,i1,rfl⟩,M1,k1.2,L.mono f1⟩
structure CalI (P:Program)(w:World)(K:PySem.W.Frag)(mg:Str->Option Value)(base:Heap)(x:Str)(C:Addr)(k:Nat)(ps:List Str)(sp:Sp):Prop where
 ex:∃ f fd,d8 P w K mg base CX0 k f fd ps sp/\Mk K C f/\mg x=some (.ref C)/\Binds K fd ps []
def dMake (C:Addr)(f:DSp)(w:DA):De:=fun ρ μ K=>w ρ μ fun ds dF=>f (.mr dF.length::ds) (dF++[.ins C [] []]) fun d eV=>d=.fB/\K (.mr dF.length) eV
theorem tD_make {f:DSp}{w:DA}{σ:St}{H:Hp}{Q:VK}(h:tD (dMake C f w) σ H Q):tMake C (spD f) [] E0 (tDA w) σ H Q:=by
 obtain⟨φ,ρ,μ,K,A,M,k,L⟩:=h
 refine⟨φ,ρ,μ,_,A,M,k,fun ds dF d9 vs H1 k1 f1 M1 i1 x dx hx hdx ne=>?_⟩
 have S1:Same H1 (upd H1 dx (.own x)):=Same.upd hdx
 have hx':upd H1 dx (.own x) x=none:=by rw[dQ (aZ ne)];exact hx
 have fa:Fr d9 H1 d9 (upd H1 dx (.own x)):=.same S1
 obtain⟨M2,f2⟩:=(M1.same S1).snoc (m:=.ins C [] []) (o:=.ins C dx []) hx' ⟨dx,[],dE,rfl,rfl⟩
 have f3:=fa.trans f2
 have hin:DIs (d9++[x]) (upd (upd H1 dx (.own x)) x (.ins C dx [])) (.mr dF.length) (.ref x):=⟨x,by rw[gxG (by rw[M1.len];exact aa _),M1.len,aQ];rfl,rfl⟩
 show spD f (.ref x::(vs++[])) _ _ E0
 rw[aP]
 refine⟨d9++[x],.mr dF.length::ds,dF++[.ins C [] []],_,⟨_,vs,rfl,hin,i1.mono f3⟩,M2,k1,fun d μ3 φ3 v H3 k3 f4 M3 i3=>?_⟩
 obtain⟨rfl,k3⟩:=k3
 exact⟨i3,L _ μ3 φ3 _ H3 k3 ((f1.trans f3).trans f4) M3 (hin.mono f4)⟩
theorem d_make {x:Str}{f:DSp}{w:DA}{p:Pos}{k:Nat}{ps:List Str}(CI:CalI X.prog X.w X.K X.mg X.base x C k ps (spD f))(hr:Room (k+1) X.A)(hg:Gl X x)(ha:PDA X (e::es) w)
 (hdb:(x==("__debug__" : Str))=false:=by decide) (he:starEach (e::es) X.env=(false,eval e X.env)::starEach es X.env:=by rfl) (hpl:(backTo pos (starEach es X.env)).any (·.1)=false:=by rfl) :
 PD X (.Call (.Name x p) (e::es) [] pos) (dMake C f w):=by
 obtain⟨f',fd,F,M,hm,hb⟩:=CI.ex
 exact(pe_make M F hr hg hm hb .nil pass0 ha hdb he hpl).imp fun σ H Q hq=>tD_make hq
theorem cal_of {P:Program}{w:World}{K:PySem.W.Frag}{mg:Str->Option Value}{base h:Heap}{x q:Str}{st:Stmt}{f:Addr}{fd:FuncData}{k:Nat}{ps:List Str}{sp:Sp}(G:K.In h)(N:h.Ns mainGlobals mg)(F:Fun K x q st f fd)(ok:d8 P w K mg base CX0 k f fd ps sp)(hb:Binds K fd ps [])
 (a:PySem.W.nsIn K mainGlobals x=some (some (.ref f)):=by kernel_rfl):Cal P w K mg base x k ps sp:=⟨f,fd,ok,aS G N a,F.kp,hb⟩
theorem calm_of {P:Program}{w:World}{K:PySem.W.Frag}{mg:Str->Option Value}{base:Heap}{C:Addr}{x q:Str}{st:Stmt}{f:Addr}{fd:FuncData}{k:Nat}{ps:List Str}{sp:Sp}(F:Fun K x q st f fd)(ok:d8 P w K mg base CX0 k f fd ps sp)(hb:Binds K fd ps [])
 (a:PySem.W.findIn K (.ref C) x=some (some (.ref f)):=by kernel_rfl) (i:PySem.W.isFn K (.ref f)=true:=by kernel_rfl):CalM P w K mg base C x k ps sp:=⟨f,fd,ok,⟨a,i,F.kp⟩,hb⟩
theorem cali_of {P:Program}{w:World}{K:PySem.W.Frag}{mg:Str->Option Value}{base h:Heap}{C:Addr}{y q:Str}{st:Stmt}{f:Addr}{fd:FuncData}{k:Nat}{ps:List Str}{sp:Sp}(G:K.In h)(N:h.Ns mainGlobals mg)(F:Fun K "__init__" q st f fd)(ok:d8 P w K mg base CX0 k f fd ps sp)(hb:Binds K fd ps [])
 (n:PySem.W.nsIn K mainGlobals y=some (some (.ref C)):=by kernel_rfl) (a:PySem.W.findIn K (.ref C) "__init__"=some (some (.ref f)):=by kernel_rfl) (i:PySem.W.isFn K (.ref f)=true:=by kernel_rfl) (m:PySem.W.makesIn K C=true:=by kernel_rfl) (p:PySem.W.keepIn K (.ref C)=true:=by kernel_rfl):CalI P w K mg base y C k ps sp:=⟨f,fd,ok,⟨m,a,i,p⟩,aS G N n,hb⟩
end
def bmN:List Str:=["places", "rows", "tables", "whole", "counts"]
abbrev At (g:Heap)(b:Addr):Prop:=∃ u,g.get? b=some u
structure Kp (g:Heap)(l:List Env)(h h':Heap):Prop where
 other:∀ b o,h.get? b=some o->At g b->b∉frs l->h'.get? b=some o
 slot:∀ b o,h.get? b=some o->At g b->b∈frs l->∃ sl,h'.get? b=some { o with slots:=sl}
theorem Kp.trans {g:Heap}{l:List Env}{h1 h2 h3:Heap}(a:Kp g l h1 h2)(b:Kp g l h2 h3):Kp g l h1 h3 :=
 ⟨fun c o q lt hc=>b.other c o (a.other c o q lt hc) lt hc,fun c o q lt hc=>by
  obtain⟨sl,e⟩:=a.slot c o q lt hc
  obtain⟨sl',e'⟩:=b.slot c _ e lt hc
  exact⟨sl',e'⟩⟩
theorem Kp.any {g:Heap}{l:List Env}{h h':Heap}(a:Kp g l h h'){b:Addr}{o:Obj}(q:h.get? b=some o)(lt:At g b):∃ sl,h'.get? b=some { o with slots:=sl}:=by
 by_cases hb:b∈frs l
 ·exact a.slot b o q lt hb
 ·exact⟨o.slots,a.other b o q lt hb⟩
theorem Kp.of {g:Heap}{l:List Env}{h h':Heap}(k:∀ b o,h.get? b=some o->At g b->h'.get? b=some o):Kp g l h h':=⟨fun b o q lt _=>k b o q lt,fun b o q lt _=>⟨o.slots,k b o q lt⟩⟩
abbrev Gk (g h:Heap):Prop:=∀ b,At g b->At h b
theorem Kp.gk {g:Heap}{l:List Env}{h h':Heap}(a:Kp g l h h')(k:Gk g h):Gk g h':=fun b hb=>by
 obtain⟨o,e⟩:=k b hb
 obtain⟨sl,e'⟩:=a.any e hb
 exact⟨_,e'⟩
theorem Gk.fresh {g h:Heap}(k:Gk g h):g.get? h.objs.size=none:=by
 cases q:g.get? h.objs.size with
 | none=>rfl
 | some o=>obtain⟨o',e⟩:=k _ ⟨o,q⟩;exact absurd (gxN e) (bo _)
theorem at_ne {g:Heap}{b c:Addr}(h:At g b)(hc:g.get? c=none):c≠b:=fun z=>by obtain⟨u,e⟩:=h;rw[<- z,hc]at e;cases e
def ExAt (g:Heap)(e:Addr)(cls fl:Value)(h:Heap):Prop:=∃(oe:Obj) (vs:Array Value) (T:Addr) (oT:Obj) (ts:Array Value),(h.get? e=some oe/\(oe.cls=cls/\oe.dict=none)/\oe.data=.fields vs/\vs[1]?=some (.ref T)/\vs[2]?=some .none)/\(g.get? T=none/\T≠e/\h.get? T=some oT/\oT.data=.fields ts/\ts[3]?=some fl)/\g.get? e=none
section
variable {M:Model}{A:Around}{E:Value->Shared->Prop}{s:Shared}
theorem entry_new {base:Heap}{env:Env}{outer:List Env}{L e:Addr}{oe:Obj}{vs:Array Value}{head:Value}{hadNext:Bool}{g:Heap}{Q:Unit->Shared->Prop}
 (hfr:A.frames=some (env::outer)) (hl:s.heap.FunFrames base (env::outer)) (hf:env.frame=some L) (he:s.heap.get? e=some oe) (hdi:oe.dict=none) (hd:oe.data=.fields vs) (h1:1<vs.size) (h2:vs[2]?=some .none) (hn:g.get? e=none) (hs:Gk g s.heap)
 (h:∀ h',ExAt g e oe.cls (rawInt L) h'->Kp g (env::outer) s.heap h'->Q () { s with heap:=h'}) :
 wpAny M A (do let a <- frameOf env;let pl <- entryPlaceOf L hadNext;let b <- EntryCells.newEntry head a .none (rawInt L) .none pl;setField (.ref e) 1 b) Q E s:=by
 have hene:e∉(env::outer).filterMap (·.frame):=fun hm=>by
  obtain⟨_,o,ho,hnf⟩:=hl.mem hm
  rw[he]at ho;injection ho with ho;subst ho;exact hnf vs hd
 refine dY (wpAny_frameOf_fun hfr hl hf fun m x=>?_)
 refine dY (wpAny_entryPlaceOf fun pl hpl=>?_)
 unfold EntryCells.newEntry newFields
 refine dY (aV ?_ (hpl.sizeOk5 _ _ _ _ _))
 obtain⟨rec,hrec⟩:∃ rec:Obj,rec={ cls:=.type "traceback",dict:=none,data:=.fields ([head,.ref L,.none,rawInt L,.none]++(if pl.isEmpty then List.replicate 6 Value.none else pl)).toArray}:=⟨_,rfl⟩
 rw[<- hrec]
 have e1:m.get? e=some oe:=(x.2.1 e hene).trans he
 have e2:=gxL rec e1
 have hT:(m.push rec).get? m.objs.size=some rec:=au m (by rw[hrec];rfl)
 have hTe:m.objs.size≠e:=a9 (gxN e1)
 have hd3:=cW hd (·.setIfInBounds 1 (Value.ref m.objs.size))
 have e3:=bY (Obj.mapFields (·.setIfInBounds 1 (Value.ref m.objs.size))) e2 (Obj.isFreed_of_fields hd3)
 refine cz e2 hd h1 (h _ ⟨_,_,m.objs.size,rec,_,⟨e3,⟨Obj.cls_mapFields _ _,by show(Obj.mapFields _ oe).dict=none;unfold Obj.mapFields;split <;> exact hdi⟩,hd3,by simp[h1],by rw[Array.getElem?_setIfInBounds_ne (by decide)];exact h2⟩,⟨by rw[x.1];exact hs.fresh,hTe,?_,by rw[hrec],?_⟩,hn⟩ ⟨fun b o q lt hb=>?_,fun b o q lt hb=>?_⟩)
 ·rw[bb _ _ (aZ hTe)];exact hT
 ·first | (simp;done) | (rcases hpl with rfl | ⟨_,_,_,_,_,_,_,rfl⟩<;> simp)
 ·rw[bb _ _ (at_ne lt hn)]
  exact gxL _ ((x.2.1 b hb).trans q)
 ·obtain⟨sl,q'⟩:=x.2.2 b o q
  exact⟨sl,by rw[bb _ _ (at_ne lt hn)];exact gxL _ q'⟩
theorem note_first {base:Heap}{env:Env}{outer:List Env}{L e:Addr}{oe:Obj}{vs:Array Value}{g:Heap}{Q:Unit->Shared->Prop}
 (hfr:A.frames=some (env::outer)) (hl:s.heap.FunFrames base (env::outer)) (hf:env.frame=some L) (he:s.heap.get? e=some oe) (hdi:oe.dict=none) (hd:oe.data=.fields vs) (h1:vs[1]?=some .none) (h2:vs[2]?=some .none) (hn:g.get? e=none) (hs:Gk g s.heap)
 (h:∀ h',ExAt g e oe.cls (rawInt L) h'->Kp g (env::outer) s.heap h'->Q () { s with heap:=h'}):wpAny M A (noteFrame (.ref e) env) Q E s:=by
 unfold noteFrame
 simp only[hf]
 refine dY (aR he hd h1 ?_)
 rw[ae (by decide)]
 exact entry_new hfr hl hf he hdi hd (Array.getElem?_eq_some_iff.mp h1).1 h2 hn hs h
theorem note_next {base:Heap}{env:Env}{outer:List Env}{L e:Addr}{cls:Value}{g:Heap}{Q:Unit->Shared->Prop}
 (hfr:A.frames=some (env::outer)) (hl:s.heap.FunFrames base (env::outer)) (hf:env.frame=some L) (hs:Gk g s.heap) (x:ExAt g e cls .none s.heap)
 (h:∀ h',ExAt g e cls (rawInt L) h'->Kp g (env::outer) s.heap h'->Q () { s with heap:=h'}):wpAny M A (noteFrame (.ref e) env) Q E s:=by
 obtain⟨oe,vs,T,oT,ts,⟨he,hc,hd,h1,h2⟩,⟨hn,hTe,hT,hdT,h3⟩,hne⟩:=x
 unfold noteFrame
 simp only[hf]
 refine dY (aR he hd h1 ?_)
 rw[ag (show(Value.ref T != Value.none)=true from by simp)]
 refine dY (aR hT hdT h3 ?_)
 rw[ae (show ¬ ((Value.none==rawInt L)=true)from by simp[rawInt])]
 refine dY (cz hT hdT (Array.getElem?_eq_some_iff.mp h3).1 ?_)
 have other:∀ b,b≠T->(s.heap.update T (Obj.mapFields (·.setIfInBounds 3 Value.none))).get? b=s.heap.get? b:=fun b hb=>bb _ _ (aZ hb)
 have ff:(s.heap.update T (Obj.mapFields (·.setIfInBounds 3 Value.none))).FunFrames base (env::outer):=hl.of_keeps fun b o q nf=>⟨o,(other b fun z=>by rw[z,hT]at q;cases q;exact nf _ hdT).trans q,rfl⟩
 have k0:Kp g (env::outer) s.heap (s.heap.update T (Obj.mapFields (·.setIfInBounds 3 Value.none))):=Kp.of fun b o q lt=>(other b (aZ (at_ne lt hn))).trans q
 exact entry_new (g:=g) hfr ff hf ((other e (aZ hTe)).trans he) hc.2 hd (Array.getElem?_eq_some_iff.mp h1).1 h2 hne (k0.gk hs) fun h' a k=>h h' (hc.1▸a) (k0.trans k)
theorem flight_none {l:List Env}{e:Addr}{cls fl:Value}{g:Heap}{Q:Unit->Shared->Prop}(x:ExAt g e cls fl s.heap)
 (h:∀ h',ExAt g e cls .none h'->Kp g l s.heap h'->(∀ b o,s.heap.get? b=some o->(∀ vs,o.data≠.fields vs)->h'.get? b=some o)->Q () { s with heap:=h'}):wpAny M A (setFlight (.ref e) none) Q E s:=by
 obtain⟨oe,vs,T,oT,ts,⟨he,hc,hd,h1,h2⟩,⟨hn,hTe,hT,hdT,h3⟩,hne⟩:=x
 unfold setFlight
 refine dY (aR he hd h1 ?_)
 rw[ag (show(Value.ref T != Value.none)=true from by simp)]
 have h3s:=(Array.getElem?_eq_some_iff.mp h3).1
 have hd3:=cW hdT (·.setIfInBounds 3 ((none:Option Addr).elim Value.none fun f=>rawInt f))
 have other:∀ b,b≠T->(s.heap.update T (Obj.mapFields (·.setIfInBounds 3 ((none:Option Addr).elim Value.none fun f=>rawInt f)))).get? b=s.heap.get? b:=fun b hb=>bb _ _ (aZ hb)
 refine cz hT hdT h3s (h _ ⟨oe,vs,T,_,_,⟨(other e (aZ hTe)).trans he,hc,hd,h1,h2⟩,⟨hn,hTe,bY _ hT (Obj.isFreed_of_fields hd3),hd3,by simp[h3s]⟩,hne⟩ (Kp.of fun b o q lt=>(other b (aZ (at_ne lt hn))).trans q) fun b o q nf=>(other b fun z=>by rw[z,hT]at q;cases q;exact nf _ hdT).trans q)
end
def CX1 (P:Program)(w:World):CXT:=fun outer H s E ev s'=>∃(e:Addr) (cls:Value) (H':Hp) (g:Heap),ev=.ref e/\s'.os=s.os/\AllBare s'.gens/\Un (frs outer) [] H H' s.heap s'.heap/\HOk P w H' s'.heap/\(Gk s.heap g/\(∀ b,H' b≠none->At g b)/\Gk g s'.heap)/\ExAt g e cls .none s'.heap/\E cls none H'
theorem at_of {P:Program}{w:World}{H:Hp}{h:Heap}{a:Addr}{o:HO}(x:HOk P w H h)(e:H a=some o):At h a:=by
 have x:=x a o e
 cases o with
 | lst xs=>obtain⟨_,_,_,_,e⟩:=x;exact⟨_,e⟩
 | tup xs=>obtain⟨_,_,_,_,e,_⟩:=x;exact⟨_,e⟩
 | dK kvs=>obtain⟨_,_,_,_,o,_,_,e,_⟩:=x;exact⟨_,e⟩
 | dT kvs=>obtain⟨_,_,_,_,o,_,_,e,_⟩:=x;exact⟨_,e⟩
 | set S n=>obtain⟨o,_,_,_,e,_⟩:=x;exact⟨_,e⟩
 | ins C dx fs=>obtain⟨_,_,_,e,_⟩:=x;exact⟨_,e⟩
 | own y=>obtain⟨_,e⟩:=x;exact⟨_,e⟩
 | xd fs=>obtain⟨_,⟨_,_,_,e,_⟩,_⟩:=x;exact⟨_,e⟩
 | rng lo hi=>obtain⟨_,_,_,e⟩:=x;exact⟨_,e⟩
 | frz ob u=>obtain⟨e,_⟩:=x;exact⟨_,e⟩
 | tbl ps=>exact⟨_,(show h.get? a=some _ from x)⟩
 | met f y=>exact⟨_,(show h.get? a=some _ from x)⟩
 | ext φ=>obtain⟨_,⟨_,e⟩,_⟩:=x;exact⟨_,e⟩
theorem hok_kp {P:Program}{w:World}{g h h':Heap}{l:List Env}{H:Hp}(x:HOk P w H h)(hb:∀ b,H b≠none->At g b/\b∉frs l)(k:Kp g l h h'):HOk P w H h':=fun a o e =>
 (x a o e).stay (fun b u hb' q=>by
   have hn:H b≠none:=by rcases hb' with rfl | z <;> intro y <;> simp_all
   exact k.other b u q (hb b hn).1 (hb b hn).2) (fun _ q=>q) fun _ _ q=>q
section
variable {X:Cx}{pins:List (Addr×Obj)}{σ:St}{H H':Hp}{s:Shared}{g h1 h2:Heap}
theorem Inv.exit (I:Inv X pins σ H s)(hx:X.ex=[])(u:Un (frs X.stack) [] H H' s.heap h1)(hg:Gk s.heap g)(k:Kp g X.stack h1 h2):Un X.fs [] X.H₀ H' X.s₀.heap h2:=by
 have nx:∀ b,b∉X.ex:=fun b z=>by rw[hx]at z;cases z
 have nn:∀ b:Addr,b∉([]:List Addr):=fun b z=>by cases z
 have atg:∀ b o,X.s₀.heap.get? b=some o->At g b:=fun b o e=>by
  obtain⟨o',e'⟩:=I.base.there b o e (nx b)
  exact hg b ⟨o',e'⟩
 refine⟨fun b o e n hb _=>?_,fun b o e n hb _=>?_,fun b o e n _=>?_,fun b o e _=>?_,fun b xs e=>u.tups b xs (I.base.tups b xs e),fun b o xs e=>u.frzs b o xs (I.base.frzs b o xs e),fun b ps e=>?_⟩
 ·have e1:=I.base.keep b o e n hb (nx b)
  have n1:=I.base.free b o e n (nx b)
  have hs:b∉frs X.stack:=fun z=>by
   rcases List.mem_cons.mp (I.stkSub b z)with y | y
   ·exact absurd y (aC (aq (gxN e) I.ok.above))
   ·exact hb y
  exact k.other b o (u.keep b o e1 n1 hs (nn b)) (atg b o e) hs
 ·obtain⟨sl,e1⟩:=I.base.slot b o e n hb (nx b)
  have n1:=I.base.free b o e n (nx b)
  obtain⟨sl2,e2⟩:=u.any e1 n1 (nn b)
  obtain⟨sl3,e3⟩:=k.any e2 (atg b o e)
  exact⟨sl3,e3⟩
 ·obtain⟨o',e1⟩:=I.base.there b o e (nx b)
  exact u.free b o' e1 (I.base.free b o e n (nx b)) (nn b)
 ·obtain⟨o',e1⟩:=I.base.there b o e (nx b)
  obtain⟨o2,e2⟩:=u.there b o' e1 (nn b)
  obtain⟨sl,e3⟩:=k.any e2 (atg b o e)
  exact⟨_,e3⟩
 ·obtain⟨m1,e1⟩:=I.base.tbls b ps e
  obtain⟨m2,e2⟩:=u.tbls b _ e1
  exact⟨m1++m2,by rw[e2,Array.append_assoc]⟩
end
section
variable {P:Program}{w:World}{K:PySem.W.Frag}{mg:Str->Option Value}{base:Heap}{N:List Str}{qual:Str}{scope:Scope}{f:Addr}{cd:Value}{A:Around}{outer:List Env}{s₀ s:Shared}{H₀ H:Hp}{E:XK}{pins:List (Addr×Obj)}{σ:St}
theorem flies:Passes (CX1 P w) (cxOf (CX1 P w) P w K mg base N qual scope f cd A outer s₀ H₀ E) E:=fun pins σ H s ev s' I c=>by
 obtain⟨e,cls,H',g,rfl,os,bare,un,dX,⟨g1,g2,g3⟩,ex,hE⟩:=c
 have I2:=I.call' (s':=s') (ch:=[]) os un dX bare (fun b z=>absurd z (by simp))
 have hfr:(cxOf (CX1 P w) P w K mg base N qual scope f cd A outer s₀ H₀ E).A.frames=some (envOfC qual scope s₀.heap.objs.size f cd::outer):=I.ok.frames
 show wpAny _ _ (leaving _ (.ref e)) _ _ s'
 unfold leaving
 refine dY (note_next hfr I2.stack rfl g3 ex fun h1 x1 k1=>?_)
 refine flight_none (l:=envOfC qual scope s₀.heap.objs.size f cd::outer) x1 fun h2 x2 k2 _=>?_
 have k:=k1.trans k2
 exact⟨e,cls,H',g,rfl,os.trans I.os,bare,I.exit rfl un g1 k,hok_kp dX (fun b hb=>⟨g2 b hb,fun z=>hb (I2.stkFree b z)⟩) k,⟨fun b hb=>by
  obtain⟨o,e0⟩:=hb
  obtain⟨o',e1⟩:=I.base.there b o e0 (by simp[cxOf])
  exact g1 b ⟨o',e1⟩,g2,k.gk g3⟩,x2,hE⟩
theorem raises {h':Heap}{e:Addr}{cls:Value}{vs:List Value}(I:Inv (cxOf (CX1 P w) P w K mg base N qual scope f cd A outer s₀ H₀ E) pins σ H s)(x:Heap.MadeExcOf s.heap h' e cls vs)(hE:E cls none H):(cxOf (CX1 P w) P w K mg base N qual scope f cd A outer s₀ H₀ E).xe (.ref e) { s with heap:=h'}:=by
 have hfr:(cxOf (CX1 P w) P w K mg base N qual scope f cd A outer s₀ H₀ E).A.frames=some (envOfC qual scope s₀.heap.objs.size f cd::outer):=I.ok.frames
 obtain⟨t,he,htn,ht⟩:=x.there
 have ff:h'.FunFrames base (envOfC qual scope s₀.heap.objs.size f cd::outer):=(show s.heap.FunFrames base _ from I.stack).of_keeps fun b o q _=>⟨o,x.keeps b o q,rfl⟩
 have gk:Gk s.heap h':=fun b hq4=>by obtain⟨o,q⟩:=hq4;exact⟨o,x.keeps b o q⟩
 show wpAny _ _ (leaving _ (.ref e)) _ _ _
 unfold leaving
 refine dY (note_first (s:={ s with heap:=h'}) (g:=s.heap) hfr ff rfl he rfl rfl rfl rfl x.new gk fun h1 x1 k1=>?_)
 refine flight_none (l:=envOfC qual scope s₀.heap.objs.size f cd::outer) x1 fun h2 x2 k2 _=>?_
 have k:=k1.trans k2
 have un:Un (frs (envOfC qual scope s₀.heap.objs.size f cd::outer)) [] H H s.heap h':=Un.kept x.keeps
 have dX:HOk P w H h':=(show HOk P w H s.heap from I.dX).kept x.keeps
 refine⟨e,cls,H,s.heap,rfl,I.os,I.bare,I.exit rfl un (fun b hb=>hb) k,hok_kp dX (fun b hb=>⟨?_,fun z=>hb (I.stkFree b z)⟩) k,⟨fun b hb=>?_,fun b hb=>?_,k.gk gk⟩,x2,hE⟩
 ·cases q:H b with
  | none=>exact absurd q hb
  | some o=>exact at_of (show HOk P w H s.heap from I.dX) q
 ·obtain⟨o,e0⟩:=hb
  obtain⟨o',e1⟩:=I.base.there b o e0 (by simp[cxOf])
  exact⟨o',e1⟩
 ·cases q:H b with
  | none=>exact absurd q hb
  | some o=>exact at_of (show HOk P w H s.heap from I.dX) q
end
abbrev DX:=Value->MS->Prop
def LifX (φ:List Addr)(H:Hp)(Kx:DX)(E:XK):Prop:=∀ c μ' ee H',Kx c μ'->Fr φ H ee H'->dZ ee H' μ'->E c none H'
theorem LifX.mono {φ d9:List Addr}{H H1:Hp}{Kx:DX}{E:XK}(h:LifX φ H Kx E)(f:Fr φ H d9 H1):LifX d9 H1 Kx E:=fun c μ' ee H' k g M=>h c μ' ee H' k (f.trans g) M
abbrev DSpX:=List D->MS->DK->DX->Prop
def spX (f:DSpX):Sp:=fun vs H Q E=>∃ φ ds μ K Kx,dJ φ H ds vs/\dZ φ H μ/\f ds μ K Kx/\Lif φ H K Q/\LifX φ H Kx E
structure CalX (P:Program)(w:World)(K:PySem.W.Frag)(mg:Str->Option Value)(base:Heap)(x:Str)(k:Nat)(ps:List Str)(sp:Sp):Prop where
 ex:∃ f fd,d8 P w K mg base (CX1 P w) k f fd ps sp/\mg x=some (.ref f)/\PySem.W.keepIn K (.ref f)=true/\Binds K fd ps []
structure Rz (X:Cx)(eE:List Addr)(H0:Hp)(Kx:DX):Prop where
 ex:∃ E:XK,LifX eE H0 Kx E/\Passes (CX1 X.prog X.w) X E
structure Rm (X:Cx)(eE:List Addr)(H0:Hp)(Kx:DX):Prop where
 ex:∃ E:XK,LifX eE H0 Kx E/\Passes (CX1 X.prog X.w) X E/\∀(pins:List (Addr×Obj)) (σ:St) (H:Hp) (s:Shared) (h':Heap) (e:Addr) (cls:Value) (vs:List Value),Inv X pins σ H s->Heap.MadeExcOf s.heap h' e cls vs->E cls none H->X.xe (.ref e) { s with heap:=h'}
theorem Rm.z {X:Cx}{eE:List Addr}{H0:Hp}{Kx:DX}(h:Rm X eE H0 Kx):Rz X eE H0 Kx:=let ⟨E,a,b,_⟩:=h.ex;⟨E,a,b⟩
theorem dZ.hist {φ eE:List Addr}{H H0:Hp}{μ:MS}(M:dZ φ H μ)(e:μ[0]?=some (.gx eE H0)):Fr eE H0 φ H:=let ⟨_,_,h⟩:=M.at_ 0 _ e;h.1
theorem MoIs.nt {φ:List Addr}{H:Hp}{m:MO}{p:Addr}(h:MoIs φ H m p)(zs:List V):H p≠some (.tup zs):=fun e=>by
 cases m with
 | box=>obtain⟨q,ns,i,r,z,h1,_⟩:=h;rw[e]at h1;cases h1
 | lst ds=>obtain⟨vs,h1,_⟩:=h;rw[e]at h1;cases h1
 | dic ks ds=>obtain⟨kvs,vs,h1,_⟩:=h;rw[e]at h1;cases h1
 | fdic o kvs ds=>have h1:=h.1;rw[e]at h1;cases h1
 | ins C ns ds=>obtain⟨dx,fs,h1,_⟩:=h;rw[e]at h1;cases h1
 | dtu ks ds=>obtain⟨kvs,h1,_⟩:=h;rw[e]at h1;cases h1
 | gx eE H0=>exact h.2.2.2 zs e
 | exc c=>rw[show _=_ from h]at e;cases e
theorem dZ.ghost {φ:List Addr}{H:Hp}{μ:MS}{m:MO}(M:dZ φ H μ)(e:μ[0]?=some m):dZ φ H (μ.set 0 (.gx φ H)):=by
 have h0:0<μ.length:=(gxB e).1
 refine⟨M.nd,by rw[aK];exact M.len,fun k n en=>?_⟩
 by_cases hk:k=0
 ·subst hk
  rw[az h0]at en
  cases en
  obtain⟨p,e1,e2⟩:=M.at_ 0 m e
  exact⟨p,e1,.refl _ _,rfl,e2.ex,e2.nt⟩
 ·rw[ak (aZ hk)]at en
  exact M.at_ k n en
theorem dZ.back {φ ee:List Addr}{H H':Hp}{μ μ':MS}{m:MO}(M:dZ φ H μ)(e:μ[0]?=some m)(M':dZ ee H' μ')(e':μ'[0]?=some (.gx φ H)):dZ ee H' (μ'.set 0 m):=by
 have h0:0<μ'.length:=(gxB e').1
 refine⟨M'.nd,by rw[aK];exact M'.len,fun k n en=>?_⟩
 by_cases hk:k=0
 ·subst hk
  rw[az h0]at en
  cases en
  obtain⟨p',e1,f,hp,_⟩:=M'.at_ 0 _ e'
  obtain⟨p,e2,im⟩:=M.at_ 0 m e
  have:=f.get e2
  rw[e1]at this
  cases this
  exact⟨p',e1,im.mono f fun o q=>hp.trans q⟩
 ·rw[ak (aZ hk)]at en
  exact M'.at_ k n en
def gK (eE:List Addr)(H0:Hp)(m:MO)(K:DK):DK:=fun d μ'=>μ'[0]?=some (.gx eE H0)/\K d (μ'.set 0 m)
def gX (eE:List Addr)(H0:Hp)(m:MO)(K:DX):DX:=fun c μ'=>μ'[0]?=some (.gx eE H0)/\K c (μ'.set 0 m)
theorem Lif.ghost {φ:List Addr}{H:Hp}{μ:MS}{m:MO}{K:DK}{Q:VK}(L:Lif φ H K Q)(M:dZ φ H μ)(e:μ[0]?=some m):Lif φ H (gK φ H m K) Q:=fun d μ' ee v H' ⟨e',k⟩ f M' i=>L d _ ee v H' k f (M.back e M' e') i
theorem LifX.ghost {φ:List Addr}{H:Hp}{μ:MS}{m:MO}{K:DX}{Q:XK}(L:LifX φ H K Q)(M:dZ φ H μ)(e:μ[0]?=some m):LifX φ H (gX φ H m K) Q:=fun c μ' ee H' ⟨e',k⟩ f M'=>L c _ ee H' k f (M.back e M' e')
section
variable {X:Cx}{e:Expr}{es:List Expr}{pos:Pos}{eE:List Addr}{H0:Hp}{Kx:DX}
def dCallX (eE:List Addr)(H0:Hp)(Kx:DX)(f:DSpX)(w:DA):De:=fun ρ μ K=>w ρ μ fun ds dF=>dF[0]?=some (.gx eE H0)/\f ds dF K Kx
theorem d_callX {f:DSpX}{w:DA}{x:Str}{p:Pos}{k:Nat}{ps:List Str}(Z:Rz X eE H0 Kx)(C:CalX X.prog X.w X.K X.mg X.base x k ps (spX f))(hr:Room k X.A)(hg:Gl X x)(ha:PDA X (e::es) w)
 (hdb:(x==("__debug__" : Str))=false:=by decide) (he:starEach (e::es) X.env=(false,eval e X.env)::starEach es X.env:=by rfl) (hpl:(backTo pos (starEach es X.env)).any (·.1)=false:=by rfl) :
 PD X (.Call (.Name x p) (e::es) [] pos) (dCallX eE H0 Kx f w):=by
 obtain⟨E,LX,hp⟩:=Z.ex
 obtain⟨f',fd,F,hm,hk,hb⟩:=C.ex
 exact(pe_call F hr hg hm hk hb .nil hp ha hdb he hpl).imp fun σ H Q ⟨φ,ρ,μ,K,Ee,M,w,L⟩ =>
  ⟨φ,ρ,μ,_,Ee,M,w,fun ds dF d9 vs H1 k1 f1 M1 i1=>by show spX f (vs++[]) H1 Q E;rw[aP];exact⟨d9,ds,dF,K,Kx,i1,M1,k1.2,L.mono f1,LX.mono (M1.hist k1.1)⟩⟩
def dRaise (eE:List Addr)(H0:Hp)(Kx:DX)(C:Addr)(w:DA):Ds:=fun _ ρ μ=>w ρ μ fun ds dF=>ds.length<=sizeLine/\dF[0]?=some (.gx eE H0)/\Kx (.ref C) dF
theorem s_raise {w:DA}{x:Str}{C:Addr}{bm bmN:List Value}{B Bn newId nid initId inN:String}{np cpos:Pos}(Z:Rm X eE H0 Kx)(hc:X.calm=true)(O:OwnCls x C bm newId X.mg X.base)(Fn:ExcBaseFacts Bn newId inN bmN)(hBn:bm.contains (.type Bn)=true)
 (FB:ExcBaseFacts B nid initId bm) (hg:Gl X x) (ha:PDA X (e::es) w) (hd:(x==("__debug__" : Str))=false:=by decide)
 (he:starEach (e::es) X.env=(false,eval e X.env)::starEach es X.env:=by rfl) (hpl:(backTo cpos (starEach es X.env)).any (·.1)=false:=by rfl) :
 PDS X (.Raise (some (.Call (.Name x np) (e::es) [] cpos)) none pos) (dRaise eE H0 Kx C w):=fun pins s σ H D I hq=>by
 obtain⟨φ,ρ,μ,N,A,M,k,L⟩:=hq
 obtain⟨E,LX,hp,mk⟩:=Z.ex
 obtain⟨tl,Na,nm,q,bs,hdct,sn,sub,ab,col,dd,k0,k1,k2,k3,k5,mN,hC,hN,hni,T⟩:=O.obj
 refine wpAny_Raise_call_subU (C:=C) (nm:=nm) (q:=q) (N:=Na) (bs:=bs) (bm:=tl) (hdct:=hdct) (sn:=sn) (sub:=sub) (ab:=ab) (col:=col) (dd:=dd) (k0:=k0) (k1:=k1) (k2:=k2) (k3:=k3) (k5:=k5)
  Fn hBn FB (mN:=mN) (T.hasType FB.hasBase) (I.ok.hd hc) (by rw[he];show(false||(backTo cpos (starEach es X.env)).any (·.1))=false;rw[hpl];rfl) hni (ld_glob I hg O.bound ⟨rfl,?_⟩ hd)
 have h:=ha cpos pins s σ H (fun vs H1=>vs.length<=sizeLine/\E (.ref C) none H1) I ⟨φ,ρ,μ,_,A,M,k,fun ds dF d9 vs H1 k1 f1 M1 i1=>⟨by rw[i1.len];exact k1.1,LX (.ref C) dF d9 H1 k1.2.2 (M1.hist k1.2.1) M1⟩⟩
 rw[he]at h ⊢
 refine Calls.evalArgs_plain (a6 h (fun us s2 hq5=>by obtain⟨vs,H1,I1,r1,q1⟩:=hq5;exact⟨rfl,by rw[<- r1.length];exact q1.1,I1.bk _ _ hC,hN.keeps I1.bk,T.keeps I1.bk,fun h' e' mx=>mk pins σ H1 s2 h' e' _ _ I1 mx q1.2⟩) fun _ _ y=>y)
end
def FX (n:Nat)(K:DX):DX:=fun c μ'=>K c μ'\/((∀(j:Nat) (m:MO),j<n->μ'[j]?=some m->moB n m)/\K c (μ'.take n))
theorem LifX.fx {φ:List Addr}{H:Hp}{μ:MS}{K:DX}{E:XK}(M:dZ φ H μ)(L:LifX φ H K E):LifX φ H (FX μ.length K) E:=fun c μ' ee H' k f M'=>by
 rcases k with k | ⟨hm,k⟩
 ·exact L c μ' ee H' k f M'
 ·have eφ:ee.take μ.length=φ:=by
   obtain⟨⟨ψ,rfl,_⟩,_,_⟩:=f
   rw[<- M.len,aT]
  have f0:Fr φ H (ee.take μ.length) H':=by
   rw[eφ]
   exact⟨⟨[],by simp,fun _ h=>nomatch h⟩,f.keep,f.dom⟩
  exact L c _ _ H' k f0 (M'.cutT hm)
section
variable {P:Program}{w:World}{K:PySem.W.Frag}{mg:Str->Option Value}{base:Heap}
theorem Fun.okX {x qual:Str}{st:Stmt}{f:Addr}{fd:FuncData}{N ps:List Str}{k:Nat}{fs:DSpX}(F:Fun K x qual st f fd)(S:dw N ps (dk st))(len:∀ ds μ Kd Kx,fs ds μ Kd Kx->ds.length=ps.length/\∃ m,μ[0]?=some m)
 (hbody:∀(cdv:Value) (A:Around) (outer:List Env) (s:Shared) (H:Hp) (E:XK),Room k (A.deeper (envOfC qual (dk st) s.heap.objs.size f cdv))->∀(eE:List Addr) (Kb:DX),Rm (cxOf (CX1 P w) P w K mg base N qual (dk st) f cdv A outer s H E) eE H Kb ->
   ∃ W,PDB (cxOf (CX1 P w) P w K mg base N qual (dk st) f cdv A outer s H E) (defBody st) W/\∀ ds μ m Kd Kx,(∀(j:Nat) (m':MO),(μ.set 0 (.gx eE H))[j]?=some m'->moB (μ.set 0 (.gx eE H)).length m')->mrL (μ.set 0 (.gx eE H)).length ds->μ[0]?=some m->fs ds μ Kd Kx->Kb=FX (μ.set 0 (.gx eE H)).length (gX eE H m Kx) ->
    W (retN (μ.set 0 (.gx eE H)).length (gK eE H m Kd)) (startE N ds) (μ.set 0 (.gx eE H))):d8 P w K mg base (CX1 P w) (k+1) f fd ps (spX fs):=by
 obtain⟨oc,od,kV,doc,pm,an,cdv,ct,osl,rfl,lk,hcd⟩:=F.ex
 refine fn_of lk hcd S (fun vs H Q E h=>?_) fun A outer s H vs Q E hr hsp=>?_
 ·obtain⟨φ,ds,μ,Kd,Kx,ha,M,hf,L,LX⟩:=h
  rw[ha.len];exact(len ds μ Kd Kx hf).1
 ·obtain⟨φ,ds,μ,Kd,Kx,ha,M,hf,L,LX⟩:=hsp
  obtain⟨_,m,em⟩:=len ds μ Kd Kx hf
  have Mg:=M.ghost em
  have Lg:=(L.ghost M em).fz Mg
  obtain⟨W,hW,q⟩:=hbody cdv A outer s H E hr φ (FX (μ.set 0 (.gx φ H)).length (gX φ H m Kx)) ⟨E,(LX.ghost M em).fx Mg,flies,fun pins σ H' s' h' e cls vs I x hE=>raises I x hE⟩
  refine⟨_,hW,φ,startE N ds,μ.set 0 (.gx φ H),retN (μ.set 0 (.gx φ H)).length (gK φ H m Kd),.start ha,Mg,q ds μ m Kd Kx Mg.bound (by rw[<- Mg.len];exact ha.bound) em hf rfl,⟨fun ρ' μ' ee σ' H' k' f' A' M'=>?_,Lg,fun _ _ _ _ _ k' _ _ _=>k'.elim,fun _ _ _ _ _ k' _ _ _=>k'.elim⟩⟩
  exact Lg .fB μ' ee .fB H' k' f' M' rfl
end
theorem entry_unchain:entryFor table "proto.unchain"=some Builtin.«proto.unchain»:=entryFor_of_tree (by kernel_rfl)
section
variable {prog:Program}{w:World}{A:Around}{E:Value->Shared->Prop}{s:Shared}
theorem raiseNew_ctx {α:Type}{e h:Addr}{oh oe:Obj}{vs ws:Array Value}{Q:α->Shared->Prop}(hh:A.handled=some (.ref h))(hne:h≠e)(ho:s.heap.get? h=some oh)(hd:oh.data=.fields vs)(h2:vs[2]?=some .none)(he:s.heap.get? e=some oe)(hde:oe.data=.fields ws)(h2e:2<ws.size)
 (hE:E (.ref e) { s with heap:=s.heap.update e (Obj.mapFields (·.setIfInBounds 2 (.ref h)))}):wpAny (model prog w) A (raiseNew (.ref e):Sem α) Q E s:=by
 unfold raiseNew
 refine dY (wpAny_handled ?_)
 rw[hh]
 dsimp only
 rw[ag (show(Value.ref h != Value.ref e)=true from by simp[hne])]
 refine dY (bE (wpAny_runValue (codeAny_builtin entry_unchain ?_)))
 unfold Builtin.«proto.unchain»
 dsimp only
 refine dY (aR ho hd h2 ?_)
 rw[ag (by decide)]
 refine dY (ah (ah ?_))
 exact dY (show wpAny _ _ (setField (.ref e) 2 (.ref h)) _ _ _ from cz he hde h2e (wpAny_throw hE))
theorem range_endH {it h:Addr}{oh:Obj}{vs:Array Value}{x left step:Int}{Q:Option Value->Shared->Prop}(hh:A.handled=some (.ref h))(ho:s.heap.get? h=some oh)(hd:oh.data=.fields vs)(h2:vs[2]?=some .none)(hit:IsRangeIter s.heap it x left step)(hleft:left<=0)
 (hQ:∀ h',(∀ b o,s.heap.get? b=some o->h'.get? b=some o)->Q none { s with heap:=h'}):wpAny (model prog w) A (pyNext (.ref it)) Q E s:=by
 have hT:s.TypeIs (.ref it) "range_iterator":=⟨_,hit,rfl⟩
 unfold pyNext
 refine dY (wpAny_attempt (bu (name:=Str.ofString "__next__") hT F.slot_range_iterator_next
  (bI F.slot_range_iterator_next hT F.entry_range_iterator_next ?_ (F.args_range_iterator_next_1 _))))
 show wpAny _ _ (field (.ref it) 0 >>= _) _ _ s
 refine dY (aR hit rfl (x:=rawInt x) rfl ?_)
 show wpAny _ _ (field (.ref it) 1 >>= _) _ _ s
 refine dY (aR hit rfl (x:=rawInt left) rfl ?_)
 show wpAny _ _ (field (.ref it) 2 >>= _) _ _ s
 refine dY (aR hit rfl (x:=rawInt step) rfl ?_)
 show wpAny _ _ (if left<=0 then _ else _) _ _ s
 rw[ag hleft]
 refine dY (wpAny_rule (dY ?_))
 show wpAny _ _ (newExc (.type "StopIteration") [] >>= _) _ _ _
 refine dY ?_
 simp only[newExc,newTuple]
 refine dY (aV ?_ (by size_fits))
 refine dY (m:=firstArgMember _ _) (wpAny_of_eq (a:=Value.none) (by first | rfl | (simp only[firstArgMember];rfl)) ?_)
 refine aV ?_ (by size_fits)
 obtain⟨g,hg⟩:∃ g,g=s.heap.push { cls:=Value.type "tuple",data:=Data.seq #[]}:=⟨_,rfl⟩
 show wpAny _ _ (raiseNew (.ref (s.heap.push { cls:=Value.type "tuple",data:=Data.seq #[]}).objs.size)) _ _ { s with heap:=(s.heap.push { cls:=Value.type "tuple",data:=Data.seq #[]}).push { cls:=Value.type "StopIteration",data:=Data.fields (#[Value.ref s.heap.objs.size,Value.none,Value.none,Value.none,Value.bool false,Value.none]++ownMembersOf (Value.type "StopIteration") [])}}
 rw[<- hg]
 have k1:∀ b o,s.heap.get? b=some o->g.get? b=some o:=fun b o e=>by rw[hg];exact gxL _ e
 have k2:=fun b o (e:g.get? b=some o)=>gxL (h:=g) { cls:=Value.type "StopIteration",data:=Data.fields (#[Value.ref s.heap.objs.size,Value.none,Value.none,Value.none,Value.bool false,Value.none]++ownMembersOf (Value.type "StopIteration") [])} e
 have ne:h≠g.objs.size:=aC (gxN (k1 _ _ ho))
 have eN:=au g (o:={ cls:=Value.type "StopIteration",data:=Data.fields (#[Value.ref s.heap.objs.size,Value.none,Value.none,Value.none,Value.bool false,Value.none]++ownMembersOf (Value.type "StopIteration") [])}) rfl
 refine raiseNew_ctx (s:={ s with heap:=g.push _}) (hh:=hh) ne (k2 _ _ (k1 _ _ ho)) hd h2 eN rfl (by rw[Array.size_append];show 2<6+_;omega) ?_
 refine dY (wpAny_isInstance (T := "StopIteration") (b:=true) ⟨_,bY _ eN rfl,rfl⟩ isSubtype_stop ?_)
 exact ah (hQ _ fun b o e=>by
  have e2:=k2 _ _ (k1 _ _ e)
  rw[bb _ _ (a9 (gxN (k1 _ _ e)))]
  exact e2)
end
structure ExF (K:PySem.W.Frag)(C:Addr):Prop where
 cl:(PySem.W.clsIn K C).isSome=true
 ga:PySem.W.findIn K (.ref C) "__getattribute__"=some (some (.builtin "BaseException.__getattribute__"))
 gn:PySem.W.findIn K (.ref C) "__getattr__"=some none
 ca:PySem.W.findIn K (.ref C) "__class__"=some (some (.builtin "object.__class__"))
 cg:PySem.W.specialIn K (.builtin "object.__class__") "__get__"=some (some (.builtin "getset_descriptor.__get__"))
 ct:PySem.W.takesIn K (.builtin "object.__class__")=some true
 mo:PySem.W.mroIn K C (.type "object")=some true
 mb:PySem.W.mroIn K C (.type "BaseException")=some true
section
variable {prog:Program}{w:World}{A:Around}{E:Value->Shared->Prop}{s:Shared}{K:PySem.W.Frag}{e C:Addr}{oe:Obj}
theorem exc_class {Q:Option Value->Shared->Prop}(X:K.In s.heap)(I:PySem.W.InstAt s.heap e oe C none)(f:ExF K C)(h:Q (some (.ref C)) { s with toks:=s.toks+1}):wpAny (model prog w) A (getAttr? (.ref e) "__class__") Q E s:=by
 obtain⟨hh,g,d,t,os⟩:=s
 have L0:=I.type (M:=model prog w)
 have L1:=PySem.W.looks_findIn (M:=model prog w) X f.ga
 have L2:=PySem.W.looks_findIn (M:=model prog w) X f.gn
 have hf:PySem.W.findObj K C none "__class__"=some (.bind (.builtin "getset_descriptor.__get__") (.builtin "object.__class__")):=by
  obtain⟨cd,hc⟩:=Option.isSome_iff_exists.mp f.cl
  unfold PySem.W.findObj
  rw[hc,Option.bind_some,f.ca,Option.bind_some]
  simp[f.cg,f.ct]
 have L3:=PySem.W.looks_find (M:=model prog w) X I hf
 have LB:=PySem.W.looks_mroIn (M:=model prog w) X f.mb
 unfold getAttr? getAttrBy? getAttrBy
 refine dY (wpAny_mkText (dY (wpAny_attempt (bE (dY (L0.at (dY (L1.at ?_))))))))
 show wpAny _ _ (getAttrByItsOwn _ _ _ _ _ _) _ _ _
 unfold getAttrByItsOwn
 refine dY (show wpAny _ _ (typeLookup (.ref C) "__getattr__") _ _ _ from L2.at ?_)
 refine dY (wpAny_attempt (bE ?_))
 show wpAny _ _ (boundAndCalled _ _ _) _ _ _
 unfold boundAndCalled
 have ga:=PySem.F.attr_ValueError.ga
 refine dY (wpAny_of_eq (ga.bind (.ref e)) (wpAny_call (codeAny_call_builtin ga.plain F.entry_bexc_ga ?_)))
 have LI:PySem.W.Looks (model prog w) hh (isInstance (.ref e) (.type "BaseException")) true:=L0.andThen LB
 have hk:builtinKind "BaseException.__getattribute__"=some .slot:=by decide +kernel
 have hsplit:splitId "BaseException.__getattribute__"=some ("BaseException", "__getattribute__"):=by decide +kernel
 have ha:=F.args_bexc_ga (.ref e) (.str "__class__" t)
 show wpAny _ _ (checkBuiltinCall "BaseException.__getattribute__" ⟨[.ref e,.str "__class__" t],[]⟩) _ _ _
 simp only[checkBuiltinCall,hk,hsplit]
 refine dY (LI.at ?_)
 simp only[if_true,Bool.not_true,cZ,if_false]
 refine wpAny_of_eq ha ?_
 show wpAny _ _ (Builtin.«object.__getattribute__» ⟨[.ref e,.str "__class__" t],[]⟩) _ _ _
 unfold Builtin.«object.__getattribute__»
 refine dY (ah (dY (ah (dY (L0.at (dY (L3.at ?_)))))))
 show wpAny _ _ (holding [Value.builtin "object.__class__"] (call (.builtin "getset_descriptor.__get__") [.builtin "object.__class__",.ref e,.ref C]) >>= fun v=>ret v) _ _ _
 refine dY (bE (wpAny_call (PySem.W.class_get (ox:=oe) (od:=none) X I f.mo ?_)))
 refine ah ?_
 exact PySem.W.handed_on rfl (ah h)
theorem kitx_exc (f:ExF K C):PySem.W.KitX K (.ref e) (.ref C) (fun h=>∃ oe,PySem.W.InstAt h e oe C none) where
 ty:=fun _ _ _ hq6=>by obtain⟨_,I⟩:=hq6;exact I.type
 it:=fun _ _ X _=>by
  obtain⟨cdD,hcD⟩:=Option.isSome_iff_exists.mp f.cl
  unfold PySem.W.clsIn at hcD
  split at hcD
  ·rename_i c' d' cd' sl' ho
   intro A' Q' E' s' k q
   unfold isType loadHead
   exact dY (wpAny_loadPart (k _ _ (X _ _ ho)) (ah q))
  ·cases hcD
 ne:=fun h tp dd d7 n sl X htp=>by
  obtain⟨cdD,hcD⟩:=Option.isSome_iff_exists.mp f.cl
  refine Bool.eq_false_iff.mpr fun q=>?_
  have e:C=tp:=Value.ref.inj (beq_iff_eq.mp q)
  subst e
  unfold PySem.W.clsIn at hcD
  split at hcD
  ·rename_i c' d' cd' sl' ho
   have z:=(X _ _ ho).symm.trans htp
   cases z
  ·cases hcD
 ca:=fun X ⟨_,I⟩ k=>exc_class X I f k
theorem exc_match {h:Heap}{g:Array GenState}{d:Drawn}{t:Nat}{os:OsState}{B:Addr}{Q:Bool->Shared->Prop}{nB qB nC qC:Str}{NB NC:Addr}{bsB bmB bsC bmC:List Value}{hdB hdC:Bool}{snB snC:List Str}{subB subC:List Value}{abB abC:Bool}{colB colC:Option Bool}{ddB ddC:Option Addr}{b0 b1 b2 b3 b5 c0 c1 c2 c3 c5:Option Value}{idB idC:String}
 (hB:h.get? B=some (excClassObj nB qB B NB bsB bmB hdB snB subB abB colB ddB b0 b1 b2 b3 b5 idB)) (hC:h.get? C=some (excClassObj nC qC C NC bsC bmC hdC snC subC abC colC ddC c0 c1 c2 c3 c5 idC)) (he:h.get? e=some oe) (hcls:oe.cls=.ref C)
 (hbB:bmB.contains (.type "BaseException")=true) (hin:(Value.ref C::bmC).contains (.ref B)=true) (hq:Q true ⟨h,g,d,t,os⟩):wpAny (model prog w) A (excMatches (.ref e) (.ref B)) Q E ⟨h,g,d,t,os⟩:=by
 have hcB:(Value.ref B::bmB).contains (.type "BaseException")=true:=by rw[List.contains_cons,hbB,Bool.or_true]
 have f:=tc_notTuple
 unfold excMatches
 repeat (first | (with_reducible refine wpAny_loadPart_at he ?_;rw[hcls]) | with_reducible refine wpAny_loadPart_at hB ?_ | (with_reducible refine wpAny_isSubtype_exc hB ?_;rw[hcB]) | (with_reducible refine wpAny_isSubtype_exc hC ?_;rw[hin]) | wp_step)
 exact hq
end
section
variable {X:Cx}{a e:Expr}{es:List Expr}{pos:Pos}
theorem isiE {c:V}{cv:Value}(rc:∀ u,RelV c u->u=cv):CallR X (.builtin "isinstance") (fun vs H Q=>∃ e C b,vs=[.ref e,c]/\H e=some (.ext (ExcIs e (.ref C)))/\ExF X.K C/\PySem.W.kitOne X.K (.ref C) cv=some b/\Q (.bl b) H):=by
 intro pins s σ H vs us Q I r q
 obtain⟨e,C,b,rfl,he,f,hk,q⟩:=q
 obtain⟨u1,u2,rfl,r1,r2⟩:=r.two
 cases(show u1=.ref e from r1)
 have:=rc u2 r2
 subst this
 obtain⟨⟨oe,ws,h1,h2,h3,h4,_⟩,_,_⟩:=(show fj X.prog X.w H s.heap e (.ext (ExcIs e (.ref C)))from I.dX e _ he)
 exact bh (kitx_exc f) I.kIn ⟨oe,h1,h2,by unfold PySem.W.notCls;rw[h4],by rw[h3];trivial⟩ hk (fun z=>nomatch z) fun tk=>⟨.bl b,H,I.tok tk,rfl,q⟩
def dIsiE (K:PySem.W.Frag)(cv:Value)(w:De):De:=fun ρ μ Kd=>w ρ μ fun d dF=>match d with
 | .mr k=>∃ C b,dF[k]?=some (.exc (.ref C))/\ExF K C/\PySem.W.kitOne K (.ref C) cv=some b/\Kd (.bl b) dF
 | _=>False
theorem tD_isiE {c:V}{cv:Value}{w:De}{σ:St}{H:Hp}{Q:VK}(h:tD (dIsiE X.K cv w) σ H Q):tCB (fun vs H Q=>∃ e C b,vs=[.ref e,c]/\H e=some (.ext (ExcIs e (.ref C)))/\ExF X.K C/\PySem.W.kitOne X.K (.ref C) cv=some b/\Q (.bl b) H) (tCons (tD w) (tCons (tC c) tNil)) σ H Q:=by
 obtain⟨φ,ρ,μ,K,A,M,k,L⟩:=h
 refine⟨φ,ρ,μ,_,A,M,k,fun d dF d9 v1 H1 k1 f1 M1 i1=>?_⟩
 cases d with
 | mr j =>
  obtain⟨C,b,e1,f,hk,k1⟩:=k1
  obtain⟨p,hp,rfl⟩:=i1
  obtain⟨p',e2,e3⟩:=M1.at_ j _ e1
  rw[hp]at e2;cases e2
  exact⟨p,C,b,rfl,e3,f,hk,L _ dF d9 _ H1 k1 f1 M1 rfl⟩
 | _=>exact k1.elim
theorem d_isiC {w:De}{B:Addr}{x:Str}{p p2:Pos}(hg:Gl X "isinstance")(hm:X.mg "isinstance"=none)(hg2:Gl X x)(hm2:X.mg x=some (.ref B))(ha:PD X a w)(hd:(x==("__debug__" : Str))=false:=by decide)
 (hs:starEach [a,.Name x p2] X.env=(false,eval a X.env)::starEach [.Name x p2] X.env:=by rfl) (hs2:starEach [.Name x p2] X.env=(false,eval (.Name x p2) X.env)::starEach [] X.env:=by rfl) (hpl:(backTo pos (starEach [.Name x p2] X.env)).any (·.1)=false:=by rfl) :
 PD X (.Call (.Name "isinstance" p) [a,.Name x p2] [] pos) (dIsiE X.K (.ref B) w) :=
 (eZ (isiE (c:=.ref B) (cv:=.ref B) fun u r=>r) hg hm boot_isinstance (dN ha (dN (pe_glob (v:=.ref B) hg2 hm2 rfl hd) pa_nil hs2) hs) (by decide) (by decide) hs hpl).imp fun σ H Q q=>tD_isiE q
theorem d_isiV {w:De}{T:String}{x:Str}{p p2:Pos}(hg:Gl X "isinstance")(hm:X.mg "isinstance"=none)(hg2:Gl X x)(hm2:X.mg x=none)(hv:bootBuiltins x=some (.type T))(ha:PD X a w)(hn:x ≠ "__name__":=by decide)(hd:(x==("__debug__" : Str))=false:=by decide)
 (hs:starEach [a,.Name x p2] X.env=(false,eval a X.env)::starEach [.Name x p2] X.env:=by rfl) (hs2:starEach [.Name x p2] X.env=(false,eval (.Name x p2) X.env)::starEach [] X.env:=by rfl) (hpl:(backTo pos (starEach [.Name x p2] X.env)).any (·.1)=false:=by rfl) :
 PD X (.Call (.Name "isinstance" p) [a,.Name x p2] [] pos) (dIsiE X.K (.type T) w) :=
 (eZ (isiE (c:=.ty T) (cv:=.type T) fun u r=>r) hg hm boot_isinstance (dN ha (dN (pe_bltn (v:=.ty T) hg2 hm2 hv rfl hn hd) pa_nil hs2) hs) (by decide) (by decide) hs hpl).imp fun σ H Q q=>tD_isiE q
end
def ItrH (lo:Int)(n:Nat)(e:Addr):It:=⟨fun i _=>i<n,fun i H x H'=>H'=H/\x=.int (lo+i),fun i H=>n<=i/\∃ c,H e=some (.ext (ExcIs e c))⟩
def HndBy (e:Addr):Cx->Prop:=fun X=>X.A.handled=some (.ref e)
theorem turn_rangeH {P:Program}{w:World}{K:PySem.W.Frag}{tg:Expr}(it:Addr)(lo:Int)(n:Nat)(e:Addr):Turn P w K tg (ItrH lo n e) [it] it (fun i h=>IsRangeIter h it (lo+(i:Nat)*1) ((n:Int) - (i:Nat)) 1) (HndBy e) where
 mem:=by simp
 obj:=(turn_range (P:=P) (w:=w) (K:=K) (tg:=tg) it lo n).obj
 keep:=(turn_range (P:=P) (w:=w) (K:=K) (tg:=tg) it lo n).keep
 item:=by
  intro X hP hw hK hc i pins s σ H E I hf st hg
  subst hP hw hK
  obtain⟨f0,f1,f2,f3,f4,f5⟩:=hf it (by simp)
  refine wpAny_pyNext_range_item st (by have:i<n:=hg;omega) fun h' st' kk=>?_
  have I1:Inv X pins σ H { s with heap:=h',toks:=s.toks+1}:=I.turned (fun b o hb e=>kk.extBut b o hb e) f0 f1 f3 f4 f5
  have st2:IsRangeIter h' it (lo+((i+1:Nat):Int)*1) ((n:Int) - ((i+1:Nat):Int)) 1:=by
   have e1:lo+((i+1:Nat):Int)*1=lo+(i:Int)*1+1:=by omega
   have e2:(n:Int) - ((i+1:Nat):Int)=(n:Int) - (i:Int) - 1:=by omega
   rw[e1,e2];exact st'
  refine⟨_,rfl,go_of (s:={ s with heap:=h',toks:=s.toks+1}) (n := "range_iterator") st' rfl rfl (by decide) ⟨.int (lo+i),H,I1,⟨s.toks,by rw[Int.mul_one]⟩,⟨rfl,rfl⟩,st2,fun b hb=>(hf b hb).1⟩⟩
 done:=by
  intro X hP hw hK hc i pins s σ H E I hf st hg
  subst hP hw hK
  obtain⟨f0,f1,f2,f3,f4,f5⟩:=hf it (by simp)
  obtain⟨hg,c,he⟩:=hg
  obtain⟨⟨oe,ws,h1,h2,h3,h4,h5⟩,_,_⟩:=(show fj X.prog X.w H s.heap e (.ext (ExcIs e c))from I.dX e _ he)
  exact range_endH hc h1 h4 h5 st (by omega) fun h' k=>⟨rfl,I.kept (t':=s.toks) k⟩
 self:=(turn_range (P:=P) (w:=w) (K:=K) (tg:=tg) it lo n).self
section
variable {X:Cx}{tg:Expr}{CM:Cx->Prop}
def PIH (X:Cx)(CM:Cx->Prop)(tg iter:Expr)(wi:TI):Prop :=
 ∀(pins:List (Addr×Obj)) (s:Shared) (σ:St) (H:Hp) (R:It->Hp->Prop),Inv X pins σ H s->wi σ H R ->
  wpAny (model X.prog X.w) X.A (eval iter X.env) (fun v s1=>wpAny (model X.prog X.w) X.A (pyIter v) (fun itv s2=>∃(it:Addr) (fp:List Addr) (tn:Nat->Heap->Prop) (J:It) (H':Hp),itv=.ref it/\Inv X pins σ H' s2/\Turn X.prog X.w X.K tg J fp it tn CM/\tn 0 s2.heap/\(∀ b∈fp,FpOk X pins H' b)/\R J H') X.xe s1) X.xe s
theorem PIH.imp {iter:Expr}{t t':TI}(h:PIH X CM tg iter t)(hi:∀ σ H Q,t' σ H Q->t σ H Q):PIH X CM tg iter t':=fun pins s σ H R I q=>h pins s σ H R I (hi σ H R q)
def iRngH (e:Addr)(ta:TA):TI:=fun σ H R=>ta σ H fun vs H1=>∃ j:Int,vs=[.int j] /\ -(2 ^ 62)<=j/\j<2 ^ 62/\R (ItrH 0 j.toNat e) H1
theorem pi_rangeH {a:Expr}{ta:TA}{e:Addr}{p pos:Pos}(hg:Gl X "range")(hm:X.mg "range"=none)(ha:PA X [a] ta)(hs:starEach [a] X.env=[(false,eval a X.env)]:=by rfl):PIH X (HndBy e) tg (.Call (.Name "range" p) [a] [] pos) (iRngH e ta):=by
 intro pins s σ H R I h
 refine Call_ (ld_blt I hg hm boot_range (br (fo (ha pos pins s σ H _ I h) fun us s1 hq0=>?_) hs rfl))
 obtain⟨vs,H1,I1,r1,q1⟩:=hq0
 obtain⟨j,e',q1,q2,q⟩:=q1
 subst e'
 cases r1 with
 | cons r rr =>
  cases rr
  obtain⟨t,rfl⟩:=r
  refine call_range_1 ?_
  refine wpAny_pyIter_range (IsRange.new ..) (small_one (by omega) (by omega) q1 q2) ?_
  obtain⟨o,ho⟩:∃ o:Obj,o={ cls:=.type "range",data:=.fields #[.int 0 s1.toks,.int j t,.int 1 (s1.toks+1)]}:=⟨_,rfl⟩
  have I2:Inv X pins σ H1 { s1 with heap:=s1.heap.push o,toks:=s1.toks+1+1}:=I1.kept fun b u e=>gxL _ e
  rw[<- ho]
  refine⟨(s1.heap.push o).objs.size,[(s1.heap.push o).objs.size],_,_,H1,rfl,I2.kept (t':=s1.toks+1+1) fun b u e=>gxL _ e,turn_rangeH _ 0 j.toNat e,?_,fun b hb=>?_,q⟩
  ·have e1:(0:Int)+((0:Nat):Int)*1=0:=by simp
   have e2:((j.toNat:Nat):Int) - ((0:Nat):Int)=Builtin.Range.rangeSize 0 j 1:=by rw[rangeSize_one];split <;> omega
   show IsRangeIter _ _ ((0:Int)+((0:Nat):Int)*1) (((j.toNat:Nat):Int) - ((0:Nat):Int)) 1
   rw[e1,e2]
   exact au _ rfl
  ·have e':b=(s1.heap.push o).objs.size:=by simpa using hb
   subst e'
   exact I2.fpOk (aa _) (I2.dX.fresh (aa _))
variable {N:List Str}{js:List (Option Nat)}{sc:Scope}{elt iter:Expr}{ifs:List Expr}{g:TG}{tt:TT}{te:TE}
theorem pe_compH {wi:TI}{pos:Pos}(hc:CompOk X N js sc)(calm:∀ fp s H,CM (cxC X N sc fp s H))(hi:PIH X CM tg iter wi)(hg:∀ fp s H,PG (cxC X N sc fp s H) tg g)(ht:∀ fp s H,PTs (cxC X N sc fp s H) ifs tt)(he:∀ fp s H,PE (cxC X N sc fp s H) elt te)
 (hs:∀ x,foldedSetIterable iter X.env x=pure x:=by intro _;rfl):PE X (.ListComp elt [⟨tg,iter,ifs,0⟩] sc pos) (tComp wi js g tt te):=by
 intro pins s σ H Q I h
 rw[eval_ListComp]
 refine b8 (use:=none) rfl hs (closureFor_eq fun y hy e=>I.ok.has y.1 (hc.free y hy e)) hc.kind hc.loc (fo (hi pins s σ H _ I h) fun v s1 h1=>fo h1 fun itv s2 h2=>?_)
 obtain⟨it,fp,tn,J,H2,e,I2,T,st2,f2,q⟩:=h2
 subst e
 refine aV (newEnv_comp ?_)
 have hC:(s2.heap.push { cls:=.type "list",dict:=none,data:=.seq ([]:List Value).toArray}).objs.size=s2.heap.objs.size+1:=aY ..
 simp only[hC]
 refine comp_block (tk:=s2.toks) I2 hc (calm fp s2 H2) T st2 f2 (hg fp s2 H2) (ht fp s2 H2) (he fp s2 H2) q fun s' H' ys m IX nD qf nC hn=>?_
 refine⟨m,nC,fun h' sb=>?_⟩
 have neC:∀(b:Addr) (o:Obj),s2.heap.get? b=some o->b≠s2.heap.objs.size+1:=fun b o e=>aC (ba (gxN e))
 have IY:Inv X pins σ (upd H' s2.heap.objs.size (.lst ys)) { s' with heap:=h'}:=IX.turned (t':=s'.toks) (it:=s2.heap.objs.size+1) (fun b o hb e=>(sb.2 b hb).trans e) (by rw[dQ (a9 (bL _))];exact hn)
  (a9 (ba I2.lt)) (.inr (bO I2.sz)) (fun x c e=>let ⟨v,z⟩:=I2.cell x c e;aC (ba z.lt)) (fun p hp=>neC _ _ (I2.pin p hp).1)
 exact⟨.ref _,_,IY,rfl,qf _ nD⟩
end
abbrev hC (eE:List Addr)(H0:Hp)(k:Nat):MS->Prop:=fun μ=>μ[0]?=some (.gx eE H0)/\∃ c,μ[k]?=some (.exc c)
theorem hC_ext {eE φ:List Addr}{H0 H:Hp}{k:Nat}{μ:MS}{e:Addr}(hk:eE[k]?=some e)(M:dZ φ H μ)(h:hC eE H0 k μ):φ[k]?=some e/\∃ c,H e=some (.ext (ExcIs e c)):=by
 obtain⟨h1,c,h2⟩:=h
 have:=(M.hist h1).get hk
 obtain⟨p,e1,e2⟩:=M.at_ k _ h2
 rw[this]at e1;cases e1
 exact⟨this,c,e2⟩
theorem wk_rangeH {lo:Int}{n k:Nat}{φ eE:List Addr}{H H0:Hp}{e:Addr}(hk:eE[k]?=some e):Wk (ItrH lo n e) φ H (rngD lo n) (hC eE H0 k):=fun ee H' μ' f M c i=>by
 have hl:(rngD lo n).length=n:=by unfold rngD;rw[fC,gxJ]
 refine⟨fun d hd=>?_,fun hi=>⟨by rw[hl]at hi;exact Nat.le_of_eq hi.symm,(hC_ext hk M c).2⟩⟩
 have hi:i<n:=by have:=(gxB hd).1;omega
 refine⟨hi,fun x H'' hy=>?_⟩
 obtain⟨rfl,rfl⟩:=hy
 refine⟨.refl _ _,M,?_⟩
 unfold rngD at hd
 rw[gxH,cF hi]at hd
 cases hd
 rfl
def dItRH (eE:List Addr)(H0:Hp)(k:Nat)(w:DA):DI:=fun ρ μ K=>w ρ μ fun ds dF=>match ds with
 | [.int j] => -(2 ^ 62)<=j/\j<2 ^ 62/\K (rngD 0 j.toNat) (hC eE H0 k) dF
 | _=>False
section
variable {X:Cx}{a:Expr}{pos:Pos}{N:List Str}{js:List (Option Nat)}{sc:Scope}{tg elt iter:Expr}{ifs:List Expr}{g:TG}{y:DG}{S:List Nat}{t:Dt}{w:De}{eE:List Addr}{H0:Hp}{k:Nat}{e:Addr}
theorem i_rangeH {w:DA}{p:Pos}(hk:eE[k]?=some e)(hg:Gl X "range")(hm:X.mg "range"=none)(ha:PDA X [a] w)(hs:starEach [a] X.env=[(false,eval a X.env)]:=by rfl):PIH X (HndBy e) tg (.Call (.Name "range" p) [a] [] pos) (tDI (dItRH eE H0 k w)):=(pi_rangeH hg hm ha hs).imp fun σ H Q hq=>by
 obtain⟨φ,ρ,μ,K,A,M,k,L⟩:=hq
 refine⟨φ,ρ,μ,_,A,M,k,fun ds dF d9 vs H1 k1 f1 M1 i1=>?_⟩
 split at k1
 ·obtain⟨v,r,rfl,h1,h2⟩:=i1
  cases(show v=_ from h1);cases(show r=[]from h2)
  exact⟨_,rfl,k1.1,k1.2.1,L _ _ dF d9 _ H1 k1.2.2 f1 M1 (wk_rangeH hk)⟩
 ·exact k1.elim
theorem d_compH (m:Bool){wi:DI}(hc:CompOk X N js sc)(hh:X.A.handled=some (.ref e))(so:SoG g y S)(mo:MonoG g)(ho:ownJs S js=true)(hi:PIH X (HndBy e) tg iter (tDI wi))(hg:∀ fp s H,PG (cxC X N sc fp s H) tg g)(ht:∀ fp s H,PDTs (cxC X N sc fp s H) ifs t)(he:∀ fp s H,PD (cxC X N sc fp s H) elt w)
 (hs:∀ x,foldedSetIterable iter X.env x=pure x:=by intro _;rfl):PD X (.ListComp elt [⟨tg,iter,ifs,0⟩] sc pos) (dComp m wi js y t w):=(pe_compH hc (fun _ _ _=>hh) hi hg ht he hs).imp fun σ H Q q=>tD_comp so mo ho q
end
structure RoomH (k:Nat)(A:Around):Prop where
 dp:A.depth+3*k+5<recursionLimit
 un:A.units+16*k+200<cLine
theorem RoomH.deeper {k:Nat}{A:Around}(r:RoomH (k+1) A)(env:Env):RoomH k (A.deeper env) :=
 ⟨by have:=r.dp;show A.depth+1+3*k+5<_;omega,by have:=r.un;show A.units+3+16*k+200<_;omega⟩
theorem RoomH.depth {k:Nat}{A:Around}(r:RoomH k A):A.depth<recursionLimit:=by have:=r.dp;omega
abbrev Cx.hnd (X:Cx)(A:Around):Cx:={ X with A:=A,calm:=false,xe:=fun _ _=>False}
theorem Inv.hnd {X:Cx}{pins:List (Addr×Obj)}{σ:St}{H:Hp}{s:Shared}(I:Inv X pins σ H s){A:Around}(hf:A.frames=some X.stack):Inv (X.hnd A) pins σ H s :=
 ⟨⟨I.ok.mod,I.ok.kind,I.ok.glob,I.ok.blt,I.ok.above,I.ok.inj,I.ok.has,I.ok.cab,(fun z=>by cases z),hf,I.ok.stk,I.ok.exf,I.ok.bs,I.ok.bsz,I.ok.noex,I.ok.exfs,I.ok.funs,I.ok.frf⟩,I.os,I.bare,I.base,I.loc,I.cell,I.free,I.freeC,I.pin,I.dX,I.len⟩
structure FnOkH (P:Program)(w:World)(K:PySem.W.Frag)(mg:Str->Option Value)(base:Heap)(k:Nat)(f:Addr)(fd:FuncData)(ps:List Str)(fs:DSp):Prop where
 len:∀ ds μ Kd,fs ds μ Kd->ds.length=ps.length
 run:∀(A:Around) (outer:List Env) (s:Shared) (H:Hp) (args:Args) (us:List Value) (vs:List V) (Q:VK) (e:Addr),RoomH k A->A.handled=some (.ref e)->Env0 P w K mg base A outer s H->BindsTo s fd args (ps.zip us)->Vals vs us ->
  (∃ φ ds μ Kd kx,dJ φ H ds vs/\dZ φ H μ/\φ[kx]?=some e/\kx≠0/\(∃ c,μ[kx]?=some (.exc c))/\fs ds μ Kd/\Lif φ H Kd Q)->codeAny (model P w) A (.call (.ref f) args) (CR CX0 outer P w H s Q E0) s
section
variable {P:Program}{w:World}{K:PySem.W.Frag}{mg:Str->Option Value}{base:Heap}
abbrev cxH (P:Program)(w:World)(K:PySem.W.Frag)(mg:Str->Option Value)(base:Heap)(N:List Str)(qual:Str)(scope:Scope)(f:Addr)(cd:Value)(A:Around)(outer:List Env)(s:Shared)(H:Hp):Cx :=
 (cxOf CX0 P w K mg base N qual scope f cd { A with handled:=none} outer s H E0).hnd (A.deeper (envOfC qual scope s.heap.objs.size f cd))
theorem Fun.okH {x qual:Str}{st:Stmt}{f:Addr}{fd:FuncData}{N ps:List Str}{k:Nat}{fs:DSp}(F:Fun K x qual st f fd)(S:dw N ps (dk st))(len:∀ ds μ Kd,fs ds μ Kd->ds.length=ps.length/\∃ m,μ[0]?=some m)
 (hbody:∀(cdv:Value) (A:Around) (outer:List Env) (s:Shared) (H:Hp),RoomH k (A.deeper (envOfC qual (dk st) s.heap.objs.size f cdv))->∀(eE:List Addr) (kx:Nat) (e:Addr),eE[kx]?=some e->A.handled=some (.ref e) ->
   ∃ W,PDB (cxH P w K mg base N qual (dk st) f cdv A outer s H) (defBody st) W/\∀ ds μ m Kd,(∀(j:Nat) (m':MO),(μ.set 0 (.gx eE H))[j]?=some m'->moB (μ.set 0 (.gx eE H)).length m')->mrL (μ.set 0 (.gx eE H)).length ds->μ[0]?=some m->hC eE H kx (μ.set 0 (.gx eE H))->fs ds μ Kd ->
    W (retN (μ.set 0 (.gx eE H)).length (gK eE H m Kd)) (startE N ds) (μ.set 0 (.gx eE H))):FnOkH P w K mg base (k+1) f fd ps fs:=by
 obtain⟨oc,od,kV,doc,pm,an,cdv,ct,osl,rfl,lk,hcd⟩:=F.ex
 refine⟨fun ds μ Kd h=>(len ds μ Kd h).1,fun A outer s H args us vs Q e hr hh e0 hb r hsp=>?_⟩
 obtain⟨φ,ds,μ,Kd,kx,ha,M,hk,hk0,hex,hf,L⟩:=hsp
 obtain⟨hl',m,em⟩:=len ds μ Kd hf
 have hl:vs.length=ps.length:=by rw[ha.len];exact hl'
 have KX:K.In s.heap:=e0.mod.kin.keeps fun b o e=>(e0.bs b o e).1
 have lim:s.heap.NoLimit:=e0.mod.nolimit.keeps fun b o e=>(e0.bs b o e).1
 have hkind:∀ y∈ps.zip us,(dk st).names.lookup y.1=some .local\/((dk st).names.lookup y.1=some .cell/\((cellsFrom (s.heap.objs.size+1) (dk st).names []).lookup y.1).isSome=true):=fun⟨n,v⟩ hy=>by
  rcases S.par n (List.of_mem_zip hy).1 with q | q
  ·exact .inl q
  ·exact .inr ⟨q,c7 _ _ _ (.inl q)⟩
 refine codeAny_call_function hr.depth (KX _ _ lk) rfl S.co S.gen rfl (PySem.W.codeRec_of KX hcd) (hb _ _ _ _ ?_)
 refine wpAny_newFunctionEnv_cells S.kind hkind fun env he s1 x=>?_
 subst he
 refine⟨lim.keeps x.toInCall.keep,codeAny_func ?_⟩
 have e1:Env0 P w K mg base { A with handled:=none} outer s H:=⟨e0.frames,e0.mod,e0.bs,e0.bsz,e0.funs,e0.frf,e0.dX,e0.bare⟩
 have I0:Inv (cxOf CX0 P w K mg base N qual (dk st) f cdv { A with handled:=none} outer s H E0) [] (start N vs) H s1:=inv_start S rfl e1 hl r x
 have I:Inv (cxH P w K mg base N qual (dk st) f cdv A outer s H) [] (start N vs) H s1:=I0.hnd (Around.frames_deeper e0.frames)
 have Mg:=M.ghost em
 have Lg:=(L.ghost M em).fz Mg
 have hc:hC φ H kx (μ.set 0 (.gx φ H)):=⟨az (gxB em).1,by rw[ak (aZ hk0)];exact hex⟩
 obtain⟨W,hW,q⟩:=hbody cdv A outer s H (hr.deeper _) φ kx e hk hh
 refine a6 (hW [] s1 (start N vs) H { nx:=fun _ H'=>Q .fB H',rt:=Q} I ⟨φ,startE N ds,μ.set 0 (.gx φ H),retN (μ.set 0 (.gx φ H)).length (gK φ H m Kd),.start ha,Mg,q ds μ m Kd Mg.bound (by rw[<- Mg.len];exact ha.bound) em hc hf,⟨fun ρ' μ' ee σ' H' k' f' A' M'=>Lg .fB μ' ee .fB H' k' f' M' rfl,Lg,fun _ _ _ _ _ k' _ _ _=>k'.elim,fun _ _ _ _ _ k' _ _ _=>k'.elim⟩⟩) (fun fl s' hs=>?_) fun e s' hs=>hs.elim
 have fin:∀ {σ':St} {H':Hp} {v:V} {u:Value},Inv (cxH P w K mg base N qual (dk st) f cdv A outer s H) [] σ' H' s'->RelV v u->Q v H'->CE outer P w H s Q u s' :=
  fun {σ' H' v u} J rv q=>⟨v,H',J.os,J.bare,J.base,J.dX,rv,q⟩
 cases fl with
 | ret u =>
  obtain⟨v,σ',H',J,rv,q⟩:=hs
  exact fin J rv q
 | next =>
  obtain⟨σ',H',J,q⟩:=hs
  exact fin (v:=V.fB) (u:=Value.none) J rfl q
 | brk =>
  obtain⟨_,_,_,q⟩:=hs
  exact False.elim q
 | cont =>
  obtain⟨_,_,_,q⟩:=hs
  exact False.elim q
end
structure CalH (P:Program)(w:World)(K:PySem.W.Frag)(mg:Str->Option Value)(base:Heap)(x:Str)(k:Nat)(ps:List Str)(fs:DSp):Prop where
 ex:∃ f fd,FnOkH P w K mg base k f fd ps fs/\mg x=some (.ref f)/\PySem.W.keepIn K (.ref f)=true/\Binds K fd ps []
section
variable {X:Cx}{e:Expr}{es:List Expr}{pos:Pos}{eE:List Addr}{H0:Hp}{kx:Nat}{ea:Addr}
def dCallH (eE:List Addr)(H0:Hp)(kx:Nat)(f:DSp)(w:DA):De:=fun ρ μ K=>w ρ μ fun ds dF=>hC eE H0 kx dF/\f ds dF K
theorem d_callH {f:DSp}{w:DA}{x:Str}{p:Pos}{k:Nat}{ps:List Str}(hk:eE[kx]?=some ea)(hk0:kx≠0)(hh:X.A.handled=some (.ref ea))(C:CalH X.prog X.w X.K X.mg X.base x k ps f)(hr:RoomH k X.A)(hg:Gl X x)(ha:PDA X (e::es) w)
 (hdb:(x==("__debug__" : Str))=false:=by decide) (he:starEach (e::es) X.env=(false,eval e X.env)::starEach es X.env:=by rfl) (hpl:(backTo pos (starEach es X.env)).any (·.1)=false:=by rfl) :
 PD X (.Call (.Name x p) (e::es) [] pos) (dCallH eE H0 kx f w):=by
 obtain⟨f',fd,F,hm,hkp,hb⟩:=C.ex
 intro pins s σ H Q I h
 obtain⟨φ,ρ,μ,K,A,M,w,L⟩:=h
 refine bJ (ld_glob I hg hm ?_ hdb)
 refine cq (h₀:=X.base) I.ok.mod.kin hkp (fo (ha pos pins s σ H (fun vs H1=>∃ φ ds μ Kd kx,dJ φ H1 ds vs/\dZ φ H1 μ/\φ[kx]?=some ea/\kx≠0/\(∃ c,μ[kx]?=some (.exc c))/\f ds μ Kd/\Lif φ H1 Kd Q) I ⟨φ,ρ,μ,_,A,M,w,fun ds dF d9 vs H1 k1 f1 M1 i1=>⟨d9,ds,dF,K,kx,i1,M1,(hC_ext hk M1 k1.1).1,hk0,k1.1.2,k1.2,L.mono f1⟩⟩) fun us s1 hq2=>?_) he hpl
 obtain⟨vs,H1,I1,r,q⟩:=hq2
 refine⟨I1.kIn,?_⟩
 have hl:us.length=ps.length:=by
  obtain⟨d9,ds,dF,Kd,kx1,i1,_,_,_,_,hf,_⟩:=q
  rw[<- r.length,i1.len];exact F.len _ _ _ hf
 refine wpAny_call (codeAny_mono (F.run X.A X.stack s1 H1 ⟨us,[]⟩ us vs Q ea hr hh I1.env0 (by have:=hb s1 us I1.kIn (by rw[aP];exact hl);rwa [aP]at this) r q) fun r s' hq=>?_)
 cases r with
 | error e=>exact hq.elim
 | ok fl =>
  cases fl with
  | ret u=>exact I1.after hq
  | next=>exact False.elim hq
  | brk=>exact False.elim hq
  | cont=>exact False.elim hq
end
structure ExSub (K:PySem.W.Frag)(C B:Addr):Prop where
 ex:∃(nB qB:Str) (NB:Addr) (bsB bmB:List Value) (hdB:Bool) (snB:List Str) (subB:List Value) (abB:Bool) (colB:Option Bool) (ddB:Option Addr) (b0 b1 b2 b3 b5:Option Value) (idB:String) (nC qC:Str) (NC:Addr) (bsC bmC:List Value) (hdC:Bool) (snC:List Str) (subC:List Value) (abC:Bool) (colC:Option Bool) (ddC:Option Addr) (c0 c1 c2 c3 c5:Option Value) (idC:String),
  K.lookup B=some (excClassObj nB qB B NB bsB bmB hdB snB subB abB colB ddB b0 b1 b2 b3 b5 idB)/\K.lookup C=some (excClassObj nC qC C NC bsC bmC hdC snC subC abC colC ddC c0 c1 c2 c3 c5 idC)/\bmB.contains (.type "BaseException")=true/\(Value.ref C::bmC).contains (.ref B)=true
section
variable {X:Cx}{pins:List (Addr×Obj)}{σ:St}{H:Hp}{s:Shared}
theorem Inv.track (I:Inv X pins σ H s){e:Addr}{c:Value}(hn:H e=none)(x:ExcIs e c s.heap)(h0:X.s₀.heap.get? e=none)(hl:e≠X.env.locals)(hc:∀ y a,X.env.cells.lookup y=some a->a≠e)(hp:∀ p∈X.pn++pins,p.1≠e) :
 Inv X pins σ (upd H e (.ext (ExcIs e c))) s:=by
 have ne0:∀ b o,X.s₀.heap.get? b=some o->b≠e:=fun b o q z=>by rw[z,h0]at q;cases q
 have ne1:∀ b o,H b=some o->b≠e:=fun b o q z=>by rw[z,hn]at q;cases q
 refine⟨I.ok,I.os,I.bare,⟨I.base.keep,I.base.slot,fun b o q n hx=>?_,I.base.there,fun b xs q=>?_,fun b o xs q=>?_,fun b ps q=>?_⟩,I.loc,I.cell,?_,fun y a q=>?_,fun p hq=>?_,fun a o q=>?_,I.len⟩
 ·rw[dQ (ne0 b o q)];exact I.base.free b o q n hx
 ·have:=I.base.tups b xs q
  rw[dQ (ne1 b _ this)];exact this
 ·have:=I.base.frzs b o xs q
  rw[dQ (ne1 b _ this)];exact this
 ·obtain⟨m,this⟩:=I.base.tbls b ps q
  exact⟨m,by rw[dQ (ne1 b _ this)];exact this⟩
 ·rw[dQ (aZ hl)];exact I.free
 ·rw[dQ (hc y a q)];exact I.freeC y a q
 ·obtain⟨h1,h2,h3⟩:=I.pin p hq
  exact⟨h1,by rw[dQ (hp p hq)];exact h2,h3⟩
 ·by_cases z:a=e
  ·subst z
   rw[dE]at q
   cases q
   obtain⟨oe,vs,q1,q2⟩:=x
   exact⟨⟨oe,vs,q1,q2⟩,⟨oe,q1⟩,fun h1 h2 ⟨o,v,e1,e2⟩ k=>⟨o,v,k o e1,e2⟩⟩
  ·rw[dQ z]at q
   exact(I.dX a o q).stay (fun _ _ _ k=>k) (fun b k=>by rw[dQ (ne1 b _ k)];exact k) fun b xs k=>by rw[dQ (ne1 b _ k)];exact k
theorem Inv.forget (I:Inv X pins σ H s){h':Heap}{m':Str->Option Value}{t:Nat}(hn:h'.Ns X.env.locals m')(hs:Heap.SameBut X.env.locals s.heap h'):Inv X pins (σ.map fun _=>none) H { s with heap:=h',toks:=t}:=by
 have ne:∀ b o,X.s₀.heap.get? b=some o->b≠X.env.locals:=fun b o e=>aC (aq (gxN e) I.ok.above)
 refine⟨I.ok,I.os,I.bare,⟨fun b o e n hb hx=>?_,fun b o e n hb hx=>?_,I.base.free,fun b o e hx=>?_,I.base.tups,I.base.frzs,I.base.tbls⟩,⟨m',hn,fun j y v' e1 e2 e3=>?_⟩,fun y c e=>?_,I.free,I.freeC,fun p hp=>?_,fun b ob e=>?_,by rw[fC];exact I.len⟩
 ·exact(hs.2 b (ne b o e)).trans (I.base.keep b o e n hb hx)
 ·obtain⟨sl,e1⟩:=I.base.slot b o e n hb hx
  exact⟨sl,(hs.2 b (ne b o e)).trans e1⟩
 ·obtain⟨o',e1⟩:=I.base.there b o e hx
  exact⟨o',(hs.2 b (ne b o e)).trans e1⟩
 ·rw[gxH]at e2
  cases q:σ[j]? <;> rw[q]at e2 <;> cases e2
 ·obtain⟨w',z⟩:=I.cell y c e
  exact⟨w',z.sameBut hs (I.cne y c e)⟩
 ·obtain⟨e,n,ne,nf,d⟩:=I.pin p hp
  exact⟨(hs.2 p.1 ne).trans e,n,ne,nf,d⟩
 ·refine(I.dX b ob e).stay (fun c w' hc q=>(hs.2 c ?_).trans q) (fun _ q=>q) fun _ _ q=>q
  rintro rfl
  rcases hc with rfl | hc
  ·rw[I.free]at e;cases e
  ·rw[I.free]at hc;cases hc
theorem Un.kp {fs:List Addr}{l:List Env}{H H':Hp}{h h1 h2 g:Heap}(u:Un fs [] H H' h h1)(k:Kp g l h1 h2)(hg:Gk h g)(hl:∀ b,b∈frs l->b∈fs):Un fs [] H H' h h2:=by
 refine⟨fun b o e n hb hx=>k.other b o (u.keep b o e n hb hx) (hg b ⟨o,e⟩) fun z=>hb (hl b z),fun b o e n hb hx=>?_,u.free,fun b o e hx=>?_,u.tups,u.frzs,u.tbls⟩
 ·obtain⟨sl,e1⟩:=u.slot b o e n hb hx
  obtain⟨sl2,e2⟩:=k.any e1 (hg b ⟨o,e⟩)
  exact⟨sl2,e2⟩
 ·obtain⟨o',e1⟩:=u.there b o e hx
  obtain⟨sl,e2⟩:=k.any e1 (hg b ⟨o,e⟩)
  exact⟨_,e2⟩
end
def dTry (K:PySem.W.Frag)(B:Addr)(n i:Nat)(u:List Addr->Hp->DX->Ds)(v:List Addr->Hp->Nat->Ds):Ds:=fun N ρ μ=>∃ m,μ[0]?=some m/\∀ eE H0,
 u eE H0 (gX eE H0 m fun c μ'=>∃ C,c=.ref C/\ExSub K C B/\∀ d9 H1,v d9 H1 μ'.length { nx:=fun _ _=>False,rt:=gK d9 H1 m N.rt} ((List.replicate n none).set i (some (.mr μ'.length))) ((μ'++[MO.exc c]).set 0 (.gx d9 H1)))
  { nx:=fun ρ' μ'=>μ'[0]?=some (.gx eE H0)/\N.nx ρ' (μ'.set 0 m),rt:=gK eE H0 m N.rt,bk:=fun ρ' μ'=>μ'[0]?=some (.gx eE H0)/\N.bk ρ' (μ'.set 0 m),ct:=fun ρ' μ'=>μ'[0]?=some (.gx eE H0)/\N.ct ρ' (μ'.set 0 m)} ρ (μ.set 0 (.gx eE H0))
theorem LiS.ghost {φ:List Addr}{H:Hp}{μ:MS}{m:MO}{k:DE->MS->Prop}{q:St->Hp->Prop}(L:LiS φ H k q)(M:dZ φ H μ)(e:μ[0]?=some m):LiS φ H (fun ρ' μ'=>μ'[0]?=some (.gx φ H)/\k ρ' (μ'.set 0 m)) q:=fun ρ' μ' ee σ' H' ⟨e',k'⟩ f A M'=>L ρ' _ ee σ' H' k' f A (M.back e M' e')
theorem Inv.caught {X:Cx}{pins:List (Addr×Obj)}{σ:St}{H H':Hp}{s s':Shared}{g h2:Heap}(I:Inv X pins σ H s)(os:s'.os=s.os)(bare:AllBare s'.gens)(un:Un (frs X.stack) [] H H' s.heap s'.heap)(dX:HOk X.prog X.w H' s'.heap)(g1:Gk s.heap g)(g2:∀ b,H' b≠none->At g b)(k:Kp g X.stack s'.heap h2) :
 Inv X pins σ H' { s' with heap:=h2}:=by
 have I2:=I.call' (s':=s') (ch:=[]) os un dX bare (fun b z=>absurd z (by simp))
 exact I.call' (s':={ s' with heap:=h2}) (ch:=[]) os (un.kp k g1 fun b z=>z) (hok_kp dX (fun b hb=>⟨g2 b hb,fun z=>hb (I2.stkFree b z)⟩) k) bare (fun b z=>absurd z (by simp))
theorem ExAt.is {g h:Heap}{e:Addr}{cls fl:Value}(x:ExAt g e cls fl h):ExcIs e cls h:=by
 obtain⟨oe,vs,T,oT,ts,⟨h1,⟨h2,h3⟩,h4,_,h5⟩,_⟩:=x
 exact⟨oe,vs,h1,h2,h3,h4,h5⟩
section
variable {X:Cx}{body suite:List Stmt}{b0:Stmt}{x n:Str}{np hpos pos:Pos}{B:Addr}{i:Nat}{u:List Addr->Hp->DX->Ds}{v:List Addr->Hp->Nat->Ds}
theorem s_try (hex:X.ex=[])(hst:X.stack=X.env::X.outer)(hfm:X.env.frame=some X.env.locals)(hN:X.N.Nodup)(hi:X.N[i]?=some n)(hn:X.env.scope.names.lookup n=some .local)(hg:Gl X x)(hm:X.mg x=some (.ref B))
 (hb:∀(pn:List (Addr×Obj)) (xe:Value->Shared->Prop) (eE:List Addr) (H0:Hp) (Kx:DX),Rz { X with pn:=pn,xe:=xe} eE H0 Kx->PDB { X with pn:=pn,xe:=xe} body (u eE H0 Kx))
 (hs:∀(pn:List (Addr×Obj)) (e:Addr) (d9:List Addr) (H1:Hp) (kx:Nat),d9[kx]?=some e->kx≠0->PDB (Cx.hnd { X with pn:=pn} (X.A.mark (some (.ref e)))) (b0::suite) (v d9 H1 kx)) (hd:(x==("__debug__" : Str))=false:=by decide) :
 PDS X (.Try body [.ExceptHandler (some (.Name x np)) (some n) (b0::suite) hpos] [] [] pos) (dTry X.K B X.N.length i u v):=fun pins s σ H D I hq=>by
 obtain⟨φ,ρ,μ,N,A,M,⟨m,em,w⟩,L⟩:=hq
 have w:=w φ H
 refine wpAny_Try_except ?_
 obtain⟨xe,hxe⟩:∃ xe:Value->Shared->Prop,xe=fun ev s₁=>wpAny (model X.prog X.w) X.A (noteFrame ev X.env) (fun _ s₂=>wpAny (model X.prog X.w) X.A (setFlight ev none) (fun _ s₃=>wpAny (model X.prog X.w) X.A (handleBy ev X.env [.ExceptHandler (some (.Name x np)) (some n) (b0::suite) hpos]) (SP X pins D) X.xe s₃) X.xe s₂) X.xe s₁:=⟨_,rfl⟩
 have I':Inv { X with pn:=X.pn++pins,xe:=xe} [] σ H s:=⟨⟨I.ok.mod,I.ok.kind,I.ok.glob,I.ok.blt,I.ok.above,I.ok.inj,I.ok.has,I.ok.cab,I.ok.hd,I.ok.frames,I.ok.stk,I.ok.exf,I.ok.bs,I.ok.bsz,I.ok.noex,I.ok.exfs,I.ok.funs,I.ok.frf⟩,I.os,I.bare,I.base,I.loc,I.cell,I.free,I.freeC,(fun p hp=>I.pin p (by simpa using hp)),I.dX,I.len⟩
 have back:∀ {pins1:List (Addr×Obj)} {σ1:St} {H1:Hp} {s1:Shared},Inv { X with pn:=X.pn++pins,xe:=xe} pins1 σ1 H1 s1->Inv X pins σ1 H1 s1:=fun J=>⟨I.ok,J.os,J.bare,J.base,J.loc,J.cell,J.free,J.freeC,(fun p hp=>J.pin p (bN _ hp)),J.dX,J.len⟩
 have Mg:=M.ghost em
 have hfr:X.A.frames=some (X.env::X.outer):=by rw[<- hst];exact I.ok.frames
 obtain⟨Kx,hKx⟩:∃ Kx:DX,Kx=fun c μ'=>∃ C,c=.ref C/\ExSub X.K C B/\∀ d9 H1,v d9 H1 μ'.length { nx:=fun _ _=>False,rt:=gK d9 H1 m N.rt} ((List.replicate X.N.length none).set i (some (.mr μ'.length))) ((μ'++[MO.exc c]).set 0 (.gx d9 H1)):=⟨_,rfl⟩
 rw[<- hKx]at w
 have Z:Rz { X with pn:=X.pn++pins,xe:=xe} φ H (gX φ H m Kx):=by
  refine⟨fun c _ H'=>∃ ee μ',gX φ H m Kx c μ'/\Fr φ H ee H'/\dZ ee H' μ',fun c μ' ee H' k f M=>⟨ee,μ',k,f,M⟩,fun pins1 σ1 H1 s1 ev s' J c=>?_⟩
  obtain⟨e,cls,H',g,rfl,os,bare,un,dX,⟨g1,g2,g3⟩,ex,ee,μ',⟨e0,hK⟩,f',M'⟩:=c
  rw[hKx]at hK
  obtain⟨C,rfl,sub,hv⟩:=hK
  show xe (.ref e) s'
  rw[hxe]
  have J2:=J.call' (s':=s') (ch:=[]) os un dX bare (fun b z=>absurd z (by simp))
  have ff:s'.heap.FunFrames X.base (X.env::X.outer):=by rw[<- hst];exact J2.stack
  refine note_next hfr ff hfm g3 ex fun h1 x1 k1=>?_
  refine flight_none (l:=X.env::X.outer) x1 fun h2 x2 k2 _=>?_
  have k12:Kp g X.stack s'.heap h2:=by rw[hst];exact k1.trans k2
  have J3:=(J.caught os bare un dX g1 g2 k12).pins_of (pins':=[]) (fun p hp=>absurd hp (by simp))
  have eN:g.get? e=none:=by obtain⟨_,_,_,_,_,_,_,z⟩:=ex;exact z
  have hHe:H' e=none:=by
   cases q:H' e with
   | none=>rfl
   | some o=>obtain⟨u,z⟩:=g2 e (by rw[q];simp);rw[eN]at z;cases z
  have J4:Inv (Cx.hnd { X with pn:=X.pn++pins} (X.A.mark (some (.ref e)))) [] σ1 H' { s' with heap:=h2}:=J3.hnd I.ok.frames
  refine wpAny_handleBy_cons (codeAny_handlers_test (ld_glob J4 hg hm ?_ hd)) (by intro q;cases q)
  obtain⟨nB,qB,NB,bsB,bmB,hdB,snB,subB,abB,colB,ddB,b0',b1,b2,b3,b5,idB,nC,qC,NC,bsC,bmC,hdC,snC,subC,abC,colC,ddC,c0,c1,c2,c3,c5,idC,lB,lC,hbB,hin⟩:=sub.ex
  obtain⟨oe,vs,q1,q2,q3,q4,q5⟩:=x2.is
  refine exc_match (J4.kIn _ _ lB) (J4.kIn _ _ lC) q1 q2 hbB hin ?_
  refine codeAny_handlers_suite_as (flight_none (l:=X.env::X.outer) (s:={ s' with heap:=h2}) x2 fun h3 x3 k3 _=>?_)
  have k13:Kp g X.stack s'.heap h3:=k12.trans (by rw[hst];exact k3)
  have J5:=(J.caught os bare un dX g1 g2 k13).pins_of (pins':=[]) (fun p hp=>absurd hp (by simp))
  have atg:∀ b o,s1.heap.get? b=some o->b≠e:=fun b o q z=>by
   obtain⟨u,y⟩:=g1 b ⟨o,q⟩
   rw[z,eN]at y;cases y
  have J6:=J5.track hHe x3.is (by
   cases q:X.s₀.heap.get? e with
   | none=>rfl
   | some o =>
    obtain⟨o',y⟩:=J.base.there e o q (by show e∉X.ex;rw[hex];simp)
    exact absurd rfl (atg e o' y)) (by
   obtain⟨mm,⟨oo,_,_,y,_⟩,_⟩:=J.loc
   exact fun z=>atg _ oo y z.symm) (fun y a q=>by
   obtain⟨w',o,z,_⟩:=J.cell y a q
   exact atg a o z) (fun p hp=>atg p.1 p.2 (J.pin p (bN _ (by simpa using hp))).1)
  have J7:Inv (Cx.hnd { X with pn:=X.pn++pins} (X.A.mark (some (.ref e)))) [] σ1 (upd H' e (.ext (ExcIs e (.ref C)))) { s' with heap:=h3}:=J6.hnd I.ok.frames
  refine store_ok (X:=Cx.hnd { X with pn:=X.pn++pins} (X.A.mark (some (.ref e)))) J7 hN hi (.inl hn) (v:=.ref e) (u:=.ref e) rfl (fun s8 J8=>?_) (.inr hn)
  have Mb:=M.back em M' e0
  obtain⟨dF,hμ1⟩:∃ dF,dF=μ'.set 0 m:=⟨_,rfl⟩
  rw[<- hμ1]at Mb hv
  have h0l:0<μ'.length:=(gxB e0).1
  have em1:dF[0]?=some m:=by rw[hμ1];exact az h0l
  have l1:dF.length≠0:=by rw[hμ1,aK];omega
  obtain⟨Msn,f2⟩:=Mb.snoc (m:=.exc (.ref C)) (o:=.ext (ExcIs e (.ref C))) hHe dE
  have em2:(dF++[MO.exc (.ref C)])[0]?=some m:=by rw[gxF (by omega)];exact em1
  have hk:(ee++[e])[dF.length]?=some e:=by rw[gxG (by rw[Mb.len];exact aa _),Mb.len,aQ];rfl
  have ls:σ1.length=X.N.length:=J.len
  have hil:i<σ1.length:=by rw[ls];exact(gxB hi).1
  have A2:DEnv (ee++[e]) (upd H' e (.ext (ExcIs e (.ref C)))) ((List.replicate X.N.length none).set i (some (.mr dF.length))) (σ1.set i (some (.ref e))):=by
   refine⟨by rw[aK,aK,aI,ls],fun j d q=>?_⟩
   by_cases z:i=j
   ·subst z
    rw[az (by rw[aI,<- ls];exact hil)]at q
    cases q
    exact⟨.ref e,az hil,e,hk,rfl⟩
   ·rw[ak z,List.getElem?_replicate]at q
    split at q <;> cases q
  have L2:LiN (ee++[e]) (upd H' e (.ext (ExcIs e (.ref C)))) { nx:=fun _ _=>False,rt:=gK (ee++[e]) (upd H' e (.ext (ExcIs e (.ref C)))) m N.rt} { nx:=fun _ _=>False,rt:=D.rt} :=
   ⟨fun _ _ _ _ _ k' _ _ _=>k'.elim,(L.rt.mono (f'.trans f2)).ghost Msn em2,fun _ _ _ _ _ k' _ _ _=>k'.elim,fun _ _ _ _ _ k' _ _ _=>k'.elim⟩
  refine a6 (hs (X.pn++pins) e (ee++[e]) (upd H' e (.ext (ExcIs e (.ref C)))) dF.length hk l1 [] s8 _ _ { nx:=fun _ _=>False,rt:=D.rt} J8 ⟨ee++[e],_,_,_,A2,Msn.ghost em2,hv _ _,L2⟩) (fun f s9 q=>?_) (fun _ _ z=>z.elim)
  cases f with
  | next=>obtain⟨_,_,_,q⟩:=q;exact q.elim
  | brk=>obtain⟨_,_,_,q⟩:=q;exact q.elim
  | cont=>obtain⟨_,_,_,q⟩:=q;exact q.elim
  | ret r =>
   obtain⟨v',σ9,H9,J9,rv,qr⟩:=q
   have J9x:Inv X pins σ9 H9 s9:=⟨I.ok,J9.os,J9.bare,J9.base,J9.loc,J9.cell,J9.free,J9.freeC,(fun p hp=>J9.pin p (bN _ hp)),J9.dX,J9.len⟩
   obtain⟨mm,hns,_⟩:=J9.loc
   show wpAny _ _ (do bindName X.env n .none;unbindBehindTheSuite X.env n hpos) _ _ _
   refine wpAny_nameGoes hn hns (by rw[I.ok.kind];rfl) fun h' m' hns' hsb=>?_
   exact⟨v',_,H9,J9x.forget hns' hsb,rv,qr⟩
 have hbody:=hb _ _ φ H _ Z [] s σ H D I' ⟨φ,ρ,μ.set 0 (.gx φ H),_,A,Mg,w,⟨L.nx.ghost M em,L.rt.ghost M em,L.bk.ghost M em,L.ct.ghost M em⟩⟩
 refine a6 hbody (fun f s1 q=>?_) (fun ev s1 q=>by have q:xe ev s1:=q;rw[hxe]at q;exact q)
 cases f with
 | next=>obtain⟨σ',H',J,q⟩:=q;exact cK ⟨σ',H',back J,q⟩
 | brk=>obtain⟨σ',H',J,q⟩:=q;exact⟨σ',H',back J,q⟩
 | cont=>obtain⟨σ',H',J,q⟩:=q;exact⟨σ',H',back J,q⟩
 | ret u=>obtain⟨v',σ',H',J,r,q⟩:=q;exact⟨v',σ',H',back J,r,q⟩
end
abbrev veB:List Value:=[.type "ValueError",.type "Exception",.type "BaseException",.type "object"]
theorem cls_of {K:PySem.W.Frag}{C:Addr}{bmB:List Value}{newId:String}(q:PySem.W.excIn K C bmB newId=true):∃(bm:List Value) (ns:Addr) (nm qn:Str) (bs:List Value) (hd:Bool) (sn:List Str) (sub:List Value) (ab:Bool) (col:Option Bool) (dd:Option Addr) (k0 k1 k2 k3 k5:Option Value),
 K.lookup C=some (excClassObj nm qn C ns bs bm hd sn sub ab col dd k0 k1 k2 k3 k5 newId)/\PySem.W.nsOkIn K ns=true/\PySem.W.nsIn K ns "__init__"=some none/\PySem.W.tailIn K bmB bm=true:=by
 unfold PySem.W.excIn at q
 split at q
 ·rename_i dd cd sl ho
  split at q
  ·rename_i C' bm k0 k1 k2 k3 n k5 hm hs
   simp only[bc,beq_iff_eq,Bool.not_eq_true']at q
   obtain⟨⟨⟨⟨⟨rfl,rfl⟩,hdel⟩,ht⟩,dX⟩,hni⟩:=q
   obtain⟨nm,bs,mro,ns,qn,hd,sn,sub,ab,col,del⟩:=cd
   dsimp only at hm hdel dX hni
   subst hm hdel
   have hsl:sl=#[k0,k1,k2,k3,some (.builtin n),k5]:=by
    obtain⟨l⟩:=sl
    simp only at hs
    rw[hs]
   subst hsl
   exact⟨bm,ns,nm,qn,bs,hd,sn,sub,ab,col,dd,k0,k1,k2,k3,k5,ho,dX,hni,ht⟩
  ·cases q
 ·cases q
theorem own_of {K:PySem.W.Frag}{h:Heap}{mg:Str->Option Value}{x:Str}{C:Addr}(X:K.In h)(G:h.Ns mainGlobals mg)(e:PySem.W.nsIn K mainGlobals x=some (some (.ref C)))(q:PySem.W.excIn K C veB "ValueError.__new__"=true):OwnCls x C veB "ValueError.__new__" mg h:=by
 obtain⟨bm,ns,nm,qn,bs,hd,sn,sub,ab,col,dd,k0,k1,k2,k3,k5,h1,h2,h3,h4⟩:=cls_of q
 exact⟨aS X G e,bm,ns,nm,qn,bs,hd,sn,sub,ab,col,dd,k0,k1,k2,k3,k5,_,X _ _ h1,.of_isNs (PySem.W.isNs_of_in X h2),PySem.W.nsMap_none_of_in X h2 h3,PySem.W.tail_of_in X h4⟩
def subIn (K:PySem.W.Frag)(C B:Addr):Bool:=match K.lookup C with
 | some ⟨_,_,.cls cd,_⟩=>cd.mro.contains (.ref B)
 | _=>false
theorem sub_of {K:PySem.W.Frag}{C B:Addr}(qB:PySem.W.excIn K B veB "ValueError.__new__"=true)(qC:PySem.W.excIn K C veB "ValueError.__new__"=true)(s:subIn K C B=true):ExSub K C B:=by
 obtain⟨bm,ns,nm,qn,bs,hd,sn,sub,ab,col,dd,k0,k1,k2,k3,k5,h1,h2,h3,h4⟩:=cls_of qB
 obtain⟨bm',ns',nm',qn',bs',hd',sn',sub',ab',col',dd',k0',k1',k2',k3',k5',h1',h2',h3',h4'⟩:=cls_of qC
 refine⟨nm,qn,ns,bs,bm,hd,sn,sub,ab,col,dd,k0,k1,k2,k3,k5,_,nm',qn',ns',bs',bm',hd',sn',sub',ab',col',dd',k0',k1',k2',k3',k5',_,h1,h1',?_,?_⟩
 ·have tl:∀ l,PySem.W.tailIn K veB l=true->l.contains (.type "BaseException")=true:=fun l=>by
   induction l with
   | nil=>intro z;exact absurd (show(veB==[])=true from z) (by decide)
   | cons v r ih =>
    intro z
    unfold PySem.W.tailIn at z
    rcases Bool.or_eq_true_iff.mp z with q | q
    ·rw[beq_iff_eq.mp q];decide
    ·rw[List.contains_cons]
     have:PySem.W.tailIn K veB r=true:=by
      split at q
      ·split at q
       ·simp only[bc]at q;exact q.2
       ·cases q
      ·cases q
     rw[ih this,Bool.or_true]
  exact tl _ h4
 ·unfold subIn at s
  rw[h1']at s
  exact s
theorem roomM {k:Nat}{A:Around}{h:Option Value}(r:Room k A):RoomH k (A.mark h):=⟨r.dp,r.un⟩
theorem calx_of {P:Program}{w:World}{K:PySem.W.Frag}{mg:Str->Option Value}{base h:Heap}{x q:Str}{st:Stmt}{f:Addr}{fd:FuncData}{k:Nat}{ps:List Str}{sp:Sp}(G:K.In h)(N:h.Ns mainGlobals mg)(F:Fun K x q st f fd)(ok:d8 P w K mg base (CX1 P w) k f fd ps sp)(hb:Binds K fd ps [])
 (a:PySem.W.nsIn K mainGlobals x=some (some (.ref f)):=by kernel_rfl):CalX P w K mg base x k ps sp:=⟨f,fd,ok,aS G N a,F.kp,hb⟩
theorem calh_of {P:Program}{w:World}{K:PySem.W.Frag}{mg:Str->Option Value}{base h:Heap}{x q:Str}{st:Stmt}{f:Addr}{fd:FuncData}{k:Nat}{ps:List Str}{sp:DSp}(G:K.In h)(N:h.Ns mainGlobals mg)(F:Fun K x q st f fd)(ok:FnOkH P w K mg base k f fd ps sp)(hb:Binds K fd ps [])
 (a:PySem.W.nsIn K mainGlobals x=some (some (.ref f)):=by kernel_rfl):CalH P w K mg base x k ps sp:=⟨f,fd,ok,aS G N a,F.kp,hb⟩
theorem eA {μ:MS}{m n:MO}(em:μ[0]?=some m):(μ.set 0 n)[0]?=some n:=az (gxB em).1
theorem gx_back {μ:MS}{m n:MO}(em:μ[0]?=some m):(μ.set 0 n).set 0 m=μ:=by
 cases μ with
 | nil=>cases em
 | cons a r=>cases em;rfl
theorem fh {μ:MS}{m:MO}{n:Nat}{eE:List Addr}{H:Hp}{c:Value}{Kb Kx:DX}(hK:Kb=FX n (gX eE H m Kx))(em:μ[0]?=some m)(k:Kx c μ):(μ.set 0 (.gx eE H))[0]?=some (.gx eE H)/\Kb c (μ.set 0 (.gx eE H)):=⟨eA em,by rw[hK];exact .inl ⟨eA em,by rw[gx_back em];exact k⟩⟩
theorem gK_of {μ:MS}{m:MO}{eE:List Addr}{H:Hp}{d:D}{K:DK}(em:μ[0]?=some m)(k:K d μ):gK eE H m K d (μ.set 0 (.gx eE H)):=⟨eA em,by rw[gx_back em];exact k⟩
def runOk (n e a b:Int):Prop:=e<a/\a<b/\b<=n
instance (n e a b:Int):Decidable (runOk n e a b):=by unfold runOk;infer_instance
def kitB (K:PySem.W.Frag)(cs:List Addr)(j:Nat):Bool:=(List.range 17).all fun i=>PySem.W.kitOne K (.ref (cs.getD j 0)) (.ref (cs.getD i 0))==some (decide (i=j))
structure KinB (K:PySem.W.Frag)(cs:List Addr)(cH:Addr)(j:Nat):Prop where
 ef:ExF K (cs.getD j 0)
 kit:kitB K cs j=true
 kv:PySem.W.kitOne K (.ref (cs.getD j 0)) (.type "ValueError")=some true
 sub:ExSub K (cs.getD j 0) cH
theorem KinB.at_ {K:PySem.W.Frag}{cs:List Addr}{cH:Addr}{j:Nat}(h:KinB K cs cH j)(i:Nat)(hi:i<17):PySem.W.kitOne K (.ref (cs.getD j 0)) (.ref (cs.getD i 0))=some (decide (i=j)):=by
 have:=List.all_eq_true.mp h.kit i (List.mem_range.mpr hi)
 simpa using this
def kWord (j:Nat):Str:=(["BadBars", "BadMake", "BadNumber", "BadText", "BadName", "BadAge", "BadBar", "BadPlace", "BadSize", "Taken", "Full", "NoTake", "Shut", "Joined", "Needed", "NothingLeft", "NoWay"]:List Str).getD j ""
structure OwnB (x:Str)(C:Addr)(mg:Str->Option Value):Prop where
 bound:mg x=some (.ref C)
section
variable {X:Cx}{a b e o:Expr}{es:List Expr}{pos:Pos}
def dFz (w:De):De:=fun ρ μ K=>w ρ μ (Fz μ.length K)
theorem d_fz {w:De}(h:PD X e w):PD X e (dFz w):=h.imp fun σ H Q hq=>by
 obtain⟨φ,ρ,μ,K,A,M,k,L⟩:=hq
 exact⟨φ,ρ,μ,_,A,M,k,L.fz M⟩
def tFrz (t:TE):TE:=fun σ H Q=>t σ H fun v H1=>∃ a kvs,v=.ref a/\H1 a=some (.dK kvs)/\∀ o,Q v (upd H1 a (.frz o (.dK kvs)))
theorem pe_frz {t:TE}(h:PE X e t):PE X e (tFrz t):=fun pins s σ H Q I q =>
 fo (h pins s σ H _ I q) fun v s1 hq=>by
  obtain⟨x,H1,I1,r1,a,kvs,ex,e1,q1⟩:=hq
  subst ex
  obtain⟨o,vs,ep,kv,hd,da,hs,I2⟩:=freeze I1 (.inl e1)
  exact⟨_,_,I2,r1,q1 o⟩
def dFrz (w:De):De:=fun ρ μ K=>w ρ μ fun x dF=>match x with
 | .mr j=>∃ ks ds,dF[j]?=some (.dic ks ds)/\∀(o:Obj) (kvs:List (Key×V)),kvs.map (·.1)=ks->K (.mr j) (dF.set j (.fdic o kvs ds))
 | _=>False
theorem d_frz {w:De}(h:PD X e w):PD X e (dFrz w):=(pe_frz h).imp fun σ H Q hq=>by
 obtain⟨φ,ρ,μ,K,A,M,k,L⟩:=hq
 refine⟨φ,ρ,μ,_,A,M,k,fun d dF d9 v1 H1 k1 f1 M1 i1=>?_⟩
 cases d with
 | mr k =>
  have i1':=i1
  obtain⟨p,hp,rfl⟩:=i1
  obtain⟨ks,ds,em,k1⟩:=k1
  obtain⟨p',e1,kvs,vs,h1,h2,h3,h4⟩:=M1.at_ k _ em
  rw[hp]at e1;cases e1
  subst h3
  refine⟨p,kvs,rfl,h1,fun o=>?_⟩
  have f2:Fr d9 H1 d9 (upd H1 p (.frz o (.dK kvs))):=.put (gxD hp)
  have M2:=M1.put (k:=k) (p:=p) (o:=.frz o (.dK kvs)) (m:=.fdic o kvs ds) hp ⟨dE,h4.mono f2⟩
  exact L _ _ d9 _ _ (k1 o kvs h2) (f1.trans f2) M2 (i1'.mono f2)
 | _=>exact k1.elim
def dNewF:De:=fun _ μ K=>K (.fdc [] []) μ
theorem d_dnewF:PD X (.Dict [] [] pos) dNewF:=(d_fz (d_frz d_dnew)).imp fun σ H Q hq=>by
 obtain⟨φ,ρ,μ,K,A,M,k,L⟩:=hq
 refine⟨φ,ρ,μ,K,A,M,⟨[],[],by rw[gxG (aa _),aQ];rfl,fun o kvs hk=>?_⟩,L⟩
 have e0:(μ++[MO.dic [] []]).set μ.length (.fdic o kvs [])=μ++[.fdic o kvs []]:=set_end
 rw[e0]
 refine Fz.fdc (aa _) (by rw[gxG (aa _),aQ];rfl) (show mrL _ []from True.intro) (old_app M.bound) ?_
 rw[aT,hk]
 exact k
theorem fdc_is {φ:List Addr}{H:Hp}{ks:List Key}{ds:List D}{v:V}(i:DIs φ H (.fdc ks ds) v):∃ p o kvs,v=.ref p/\H p=some (.frz o (.dK kvs))/\kvs.map (·.1)=ks/\dJ φ H ds (kvs.map (·.2)):=by
 obtain⟨p,o,kvs,vs,rfl,_,h1,h2,rfl,h3⟩:=i
 exact⟨p,o,kvs,rfl,h1,h2,h3⟩
def ixF (ks:List Key)(ds:List D)(y:D):Option (Option D):=(keyD y).map fun k=>dval (ks.zip ds) k
def dIxF:DOp:=fun x y μ K=>match x with
 | .fdc ks ds=>∃ d,ixF ks ds y=some (some d)/\K d μ
 | .mr j=>∃ d,ixM μ j y=some (some d)/\K d μ
 | _=>False
theorem d_ixF {wa wb:De}(hu:X.A.units+1<cLine)(ha:PD X a wa)(hb:PD X b wb)(hs:NoSl b):PD X (.Subscript a b pos) (dOp dIxF wa wb):=(pe_dget hu ha hb hs).imp fun σ H Q hq=>by
 obtain⟨φ,ρ,μ,K,A,M,k,L⟩:=hq
 refine⟨φ,ρ,μ,_,A,M,k,fun d1 dF d9 v1 H1 k1 f1 M1 i1=>?_⟩
 refine⟨d9,ρ,dF,_,A.mono f1,M1,k1,fun d2 eV φ2 v2 H2 k2 f2 M2 i2=>?_⟩
 cases d1 with
 | fdc ks ds =>
  obtain⟨d,ex,k2⟩:=k2
  obtain⟨k,ek,ed⟩:=Option.map_eq_some_iff.mp ex
  obtain⟨p,o,kvs,rfl,rd,e1,ha⟩:=fdc_is (i1.mono f2)
  cases keyD_is ek i2
  obtain⟨v,ev,iv⟩:=dval_get e1 ha ed
  exact⟨p,v,rfl,.inl ⟨kvs,k,.inr ⟨o,rd⟩,rfl,ev.symm⟩,(L.mono (f1.trans f2)).val M2 k2 iv⟩
 | mr j =>
  obtain⟨d,ex,k2⟩:=k2
  obtain⟨ks,ds,k,em,ek,ed⟩:=ixM_ex ex
  obtain⟨p,kvs,hp,rfl,rd,e1,ha⟩:=dicM_is M2 (i1.mono f2) em
  cases keyD_is ek i2
  obtain⟨v,ev,iv⟩:=dval_get e1 ha ed
  exact⟨p,v,rfl,.inl ⟨kvs,k,rd,rfl,ev.symm⟩,(L.mono (f1.trans f2)).val M2 k2 iv⟩
 | _=>exact k2.elim
def dInF (neg:Bool):DOp:=fun x y μ K=>match y with
 | .fdc ks ds=>∃ o,ixF ks ds x=some o/\K (.bl (neg != o.isSome)) μ
 | .mr j=>∃ o,ixM μ j x=some o/\K (.bl (neg != o.isSome)) μ
 | _=>False
theorem inF_ex {neg:Bool}{φ:List Addr}{H:Hp}{μ:MS}{x y:D}{vx vy:V}{K:DK}{Q:VK}(M:dZ φ H μ)(ix:DIs φ H x vx)(iy:DIs φ H y vy)(k:dInF neg x y μ K)(L:Lif φ H K Q):∃ p o,vy=.ref p/\DGet H p vx o/\Q (.bl (neg != o.isSome)) H:=by
 cases y with
 | fdc ks ds =>
  obtain⟨oo,ex,k2⟩:=k
  obtain⟨k,ek,rfl⟩:=Option.map_eq_some_iff.mp ex
  obtain⟨p,o,kvs,rfl,rd,e1,ha⟩:=fdc_is iy
  cases keyD_is ek ix
  refine⟨p,valV kvs k,rfl,.inl ⟨kvs,k,.inr ⟨o,rd⟩,rfl,rfl⟩,?_⟩
  have es:(valV kvs k).isSome=(dval (ks.zip ds) k).isSome:=by
   rcases dval_rel k e1 ha with⟨g1,g2⟩ | ⟨d,v,g1,g2,_⟩<;> (rw[g1,g2];rfl)
  rw[es]
  exact L.val M k2 rfl
 | mr j =>
  obtain⟨oo,ex,k2⟩:=k
  obtain⟨ks,ds,k,em,ek,rfl⟩:=ixM_ex ex
  obtain⟨p,kvs,hp,rfl,rd,e1,ha⟩:=dicM_is M iy em
  cases keyD_is ek ix
  refine⟨p,valV kvs k,rfl,.inl ⟨kvs,k,rd,rfl,rfl⟩,?_⟩
  have es:(valV kvs k).isSome=(dval (ks.zip ds) k).isSome:=by
   rcases dval_rel k e1 ha with⟨g1,g2⟩ | ⟨d,v,g1,g2,_⟩<;> (rw[g1,g2];rfl)
  rw[es]
  exact L.val M k2 rfl
 | _=>exact(show False from k).elim
theorem tD_inF {wa wb:De}{σ:St}{H:Hp}{Q:VK}(h:tD (dOp (dInF false) wa wb) σ H Q):tDIn (tD wa) (tD wb) σ H Q:=by
 obtain⟨φ,ρ,μ,K,A,M,k,L⟩:=h
 refine⟨φ,ρ,μ,_,A,M,k,fun d1 dF d9 v1 H1 k1 f1 M1 i1=>?_⟩
 refine⟨d9,ρ,dF,_,A.mono f1,M1,k1,fun d2 eV φ2 v2 H2 k2 f2 M2 i2=>?_⟩
 obtain⟨p,o,e,g,q⟩:=inF_ex M2 (i1.mono f2) i2 k2 (L.mono (f1.trans f2))
 rw[fne]at q
 exact⟨p,o,e,g,q⟩
theorem tD_notinF {wa wb:De}{σ:St}{H:Hp}{Q:VK}(h:tD (dOp (dInF true) wa wb) σ H Q):tDNotIn (tD wa) (tD wb) σ H Q:=by
 obtain⟨φ,ρ,μ,K,A,M,k,L⟩:=h
 refine⟨φ,ρ,μ,_,A,M,k,fun d1 dF d9 v1 H1 k1 f1 M1 i1=>?_⟩
 refine⟨d9,ρ,dF,_,A.mono f1,M1,k1,fun d2 eV φ2 v2 H2 k2 f2 M2 i2=>?_⟩
 obtain⟨p,o,e,g,q⟩:=inF_ex M2 (i1.mono f2) i2 k2 (L.mono (f1.trans f2))
 rw[tne]at q
 exact⟨p,o,e,g,q⟩
theorem t_inF {wa wb:De}(hu:X.A.units+1<cLine)(ha:PD X a wa)(hb:PD X b wb)(hmk:behindInMarks .In b=false):PDT X (.Compare a [.In] [b] pos) (dTst (dOp (dInF false) wa wb)):=(pt_cmp (pc_din hu ha hb) hmk).imp fun σ H Q hq=>tB_of (fun Q q=>tD_inF q) hq
theorem t_notinF {wa wb:De}(hu:X.A.units+1<cLine)(ha:PD X a wa)(hb:PD X b wb)(hmk:behindInMarks .NotIn b=false):PDT X (.Compare a [.NotIn] [b] pos) (dTst (dOp (dInF true) wa wb)):=(pt_cmp (pc_dnotin hu ha hb) hmk).imp fun σ H Q hq=>tB_of (fun Q q=>tD_notinF q) hq
def dcv (μ:MS):D->Option (List Key×List D)
 | .fdc ks ds=>some (ks,ds)
 | .mr j=>dicM μ j
 | _=>none
theorem dcv_is {φ:List Addr}{H:Hp}{μ:MS}{d:D}{v:V}{q:List Key×List D}(M:dZ φ H μ)(i:DIs φ H d v)(h:dcv μ d=some q):∃ p kvs,v=.ref p/\Rd H p (.dK kvs)/\kvs.map (·.1)=q.1/\dJ φ H q.2 (kvs.map (·.2)):=by
 cases d with
 | fdc ks ds =>
  cases h
  obtain⟨p,o,kvs,rfl,rd,e1,ha⟩:=fdc_is i
  exact⟨p,kvs,rfl,.inr ⟨o,rd⟩,e1,ha⟩
 | mr j =>
  obtain⟨p,kvs,hp,rfl,rd,e1,ha⟩:=dicM_is M i (ks:=q.1) (ds:=q.2) h
  exact⟨p,kvs,rfl,rd,e1,ha⟩
 | _=>cases h
def fDictF:DSp:=fun ds μ K=>match ds with
 | [x]=>opt (dcv μ x) fun q=>K (.mr μ.length) (μ++[.dic q.1 q.2])
 | _=>False
theorem so_dictF:SoCall rDictC fDictF:=fun φ H vs ds μ K Q M h k L=>by
 unfold fDictF at k
 split at k
 ·obtain⟨v,r,rfl,h1,h2⟩:=h;cases(show r=[]from h2)
  obtain⟨q,em,k⟩:=opt_ex k
  obtain⟨p,kvs,rfl,rd,e1,ha⟩:=dcv_is M h1 em
  refine⟨kvs,rd,fun p' hp'=>?_⟩
  have f:Fr φ H (φ++[p']) (upd H p' (.dK kvs)):=⟨(Fr.snoc (φ:=φ) hp').ext,fun c u _ e=>Same.upd hp' _ _ e,fun c e=>(Same.upd hp').free e⟩
  obtain⟨M',f'⟩:=M.snoc (o:=.dK kvs) (m:=.dic q.1 q.2) hp' ⟨kvs,_,dE,e1,rfl,ha.mono f⟩
  exact L _ _ _ _ _ k f' M' ⟨p',by rw[gxG (by rw[M.len];exact aa _),M.len,aQ];rfl,rfl⟩
 ·exact k.elim
def rLenD:List V->Hp->VK->Prop:=fun vs H Q=>match vs with
 | [.ref a]=>∃ kvs,Rd H a (.dK kvs)/\Q (.int kvs.length) H
 | _=>False
theorem lenD:CallR X (.builtin "len") rLenD:=by
 intro pins s σ H xs us Q I r h
 unfold rLenD at h
 split at h
 ·obtain⟨kvs,rd,q⟩:=h
  obtain⟨u,rfl,ru⟩:=r.one
  cases ru
  exact d_len I rd fun t s' I'=>⟨.int _,H,I',⟨t,rfl⟩,q⟩
 ·exact h.elim
def fLenD:DSp:=fun ds μ K=>match ds with
 | [x]=>opt (dcv μ x) fun q=>K (.int q.1.length) μ
 | _=>False
theorem so_lenD:SoCall rLenD fLenD:=fun φ H vs ds μ K Q M h k L=>by
 unfold fLenD at k
 split at k
 ·obtain⟨v,r,rfl,h1,h2⟩:=h;cases(show r=[]from h2)
  obtain⟨q,em,k⟩:=opt_ex k
  obtain⟨p,kvs,rfl,rd,e1,ha⟩:=dcv_is M h1 em
  have el:kvs.length=q.1.length:=by rw[<- e1,fC]
  exact⟨kvs,rd,by rw[el];exact L.val M k rfl⟩
 ·exact k.elim
def rListD:List V->Hp->VK->Prop:=fun vs H Q=>match vs with
 | [.ref a]=>∃ kvs,Rd H a (.dK kvs)/\∀ p,H p=none->Q (.ref p) (upd H p (.lst (kvs.map fun kv=>kV kv.1)))
 | _=>False
theorem _root_.L2.Vals.ofGet:∀ {xs:List V} {us:List Value},xs.length=us.length->(∀(i:Nat) (x:V) (u:Value),xs[i]?=some x->us[i]?=some u->RelV x u)->Vals xs us
 | [],us,hl,_=>by cases us with
  | nil=>exact .nil
  | cons v r=>simp at hl
 | d::ds,us,hl,h=>by cases us with
  | nil=>simp at hl
  | cons v r=>exact .cons (h 0 d v rfl rfl) (Vals.ofGet (by simpa using hl) fun i a b e1 e2=>h (i+1) a b (by simpa using e1) (by simpa using e2))
theorem items_rel {kvs:List (Key×V)}{vs:List (Key×Value)}{acc:Array Value}(kv:KV kvs vs)(h:ItemsOf (fun i v=>∃ k x,vs[i]?=some (k,x)/\(eK X.prog X.w).is k v=true) acc vs.length):Vals (kvs.map fun kv=>kV kv.1) acc.toList:=by
 refine Vals.ofGet (by rw[fC,kv.length,<- h.1];exact(bS (xs:=acc)).symm) fun i x u e1 e2=>?_
 rw[gxH]at e1
 cases q:kvs[i]? with
 | none=>rw[q]at e1;cases e1
 | some p =>
  rw[q]at e1;cases e1
  obtain⟨v,hv⟩:=pair_at kv q
  obtain⟨k,x,e3,e4⟩:=h.2 i u (by rw[<- Array.getElem?_toList];exact e2)
  rw[hv]at e3;cases e3
  exact kV_of e4
theorem listD (calm:X.calm=true):CallR X (.type "list") rListD:=by
 intro pins s σ H xs us Q I r h
 unfold rListD at h
 split at h
 ·rename_i a
  obtain⟨kvs,rd,q⟩:=h
  obtain⟨u,rfl,ru⟩:=r.one
  cases ru
  obtain⟨z,hd,vs,rel,dd⟩:=dk_rd I.dX rd
  obtain⟨ep,da⟩:=dd.dictAt
  refine PySem.W.kdl_call (PySem.W.kdl_dict (knd:=eK X.prog X.w) (kvs:=vs) (ep:=ep) hd) (I.ok.hd calm) da (by rw[<- rel.length];exact z) fun h' tk acc' c' kp hl it=>?_
  have I2:Inv X pins σ (upd H s.heap.objs.size (.lst (kvs.map fun kv=>kV kv.1))) { s with heap:=h',toks:=tk}:=I.laid (a:=s.heap.objs.size) (o:=.lst _) (t':=tk) kp (aa _) ⟨by rw[fC];exact z,acc'.toList,c',items_rel (X:=X) rel it,hl⟩
  exact⟨.ref s.heap.objs.size,_,I2,rfl,q _ (I.dX.fresh (aa _))⟩
 ·exact h.elim
def fListD (m:Bool):DSp:=fun ds μ K=>match ds with
 | [x]=>opt (dcv μ x) fun q=>nL m (q.1.map keyV) μ K
 | _=>False
theorem keyVs_is {φ:List Addr}{H:Hp}:∀(kvs:List (Key×V)),dJ φ H ((kvs.map (·.1)).map keyV) (kvs.map fun kv=>kV kv.1)
 | []=>rfl
 | p::kvs=>⟨_,_,rfl,keyV_is _,keyVs_is kvs⟩
theorem so_listD {m:Bool}:SoCall rListD (fListD m):=fun φ H vs ds μ K Q M h k L=>by
 unfold fListD at k
 split at k
 ·obtain⟨v,r,rfl,h1,h2⟩:=h;cases(show r=[]from h2)
  obtain⟨q,em,k⟩:=opt_ex k
  obtain⟨p,kvs,rfl,rd,e1,ha⟩:=dcv_is M h1 em
  refine⟨kvs,rd,fun p' hp'=>?_⟩
  rw[<- e1]at k
  exact al_n L M (keyVs_is kvs) k hp'
 ·exact k.elim
def dItF (w:De):DI:=fun ρ μ K=>w ρ μ fun d dF=>match d with
 | .fdc ks ds=>K (ks.map keyV) (fun _=>True) dF
 | _=>False
theorem i_dictF {tg:Expr}{w:De}(h:PD X a w):PDI X tg a (dItF w):=(pi_dict h).imp fun σ H Q hq=>by
 obtain⟨φ,ρ,μ,K,A,M,k,L⟩:=hq
 refine⟨φ,ρ,μ,_,A,M,k,fun d dF d9 v1 H1 k1 f1 M1 i1=>?_⟩
 cases d with
 | fdc ks ds =>
  have i1':=i1
  obtain⟨p,o,kvs,vs,rfl,hn,h1,rfl,rfl,h3⟩:=i1
  refine⟨p,kvs,rfl,.inr ⟨o,h1,L _ _ _ d9 _ _ k1 f1 M1 fun ee H' μ' f' M' c i=>?_⟩⟩
  have h1':=f'.keep _ _ hn h1
  refine⟨fun d hd=>⟨⟨?_,h1'⟩,fun x H'' hy=>?_⟩,fun hi=>⟨by rw[hi,fC,fC];exact aa _,h1'⟩⟩
  ·have:=(gxB hd).1
   rw[fC,fC]at this
   exact this
  ·obtain⟨rfl,q,hq,rfl⟩:=hy
   rw[gxH,gxH,hq]at hd
   cases hd
   exact⟨.refl _ _,M',keyV_is _⟩
 | _=>exact k1.elim
def Itvf (a:Addr)(o:Obj)(kvs:List (Key×V)):It:=⟨fun i H=>i<kvs.length/\H a=some (.frz o (.dK kvs)),fun i H x H'=>H'=H/\∃ p,kvs[i]?=some p/\x=p.2,fun i H=>kvs.length<=i/\H a=some (.frz o (.dK kvs))⟩
theorem pair_rel {κ:Type}{kvs:List (κ×V)}{vs:List (κ×Value)}(h:KV kvs vs):∀ {i:Nat} {p:κ×V},kvs[i]?=some p->∃ v,vs[i]?=some (p.1,v)/\RelV p.2 v:=by
 unfold KV at h
 induction h with
 | nil=>intro i p e;simp at e
 | @cons a b as bs r _ ih =>
  intro i p e
  cases i with
  | zero =>
   simp at e
   subst e
   refine⟨b.2,?_,r.2⟩
   rw[r.1];rfl
  | succ i=>exact ih (by simpa using e)
theorem turn_valuesF {P:Program}{w:World}{K:PySem.W.Frag}{tg:Expr}(a it:Addr){o:Obj}{kvs:List (Key×V)}{vs:List (Key×Value)}{ep:Nat}(kv:KV kvs vs)(hd:∀ h:Heap,h.get? a=some o->h.DictAt (eK P w) a vs ep) :
 Turn P w K tg (Itvf a o kvs) [it] it (fun i h=>h.IsValIter it a i vs.length ep) where
 mem:=by simp
 obj:=fun i h st b hb=>by
  have e:b=it:=by simpa using hb
  subst e
  obtain⟨o,e,c,d⟩:=st
  exact⟨o,e,fun v z=>by rw[d]at z;cases z⟩
 keep:=fun i h h' st k=>by
  obtain⟨o,e,c⟩:=st
  exact⟨o,k it (by simp) o e,c⟩
 item:=by
  intro X hP hw hK hc i pins s σ H E I hf st hg
  subst hP hw hK
  obtain⟨hi,hq⟩:=hg
  obtain⟨p,hp⟩:∃ p,kvs[i]?=some p:=⟨_,gxA hi⟩
  obtain⟨v,hv,rv⟩:=pair_rel kv hp
  have ho:s.heap.get? a=some o:=(show fj X.prog X.w H s.heap a (.frz o (.dK kvs))from I.dX a _ hq).1
  obtain⟨f0,f1,f2,f3,f4,f5⟩:=hf it (by simp)
  refine wpAny_pyNext_values_item st (hd _ ho) hv fun h' st' sb=>?_
  have I1:Inv X pins σ H { s with heap:=h'}:=I.turned (t':=s.toks) (fun b o hb e=>(sb.2 b hb).trans e) f0 f1 f3 f4 f5
  obtain⟨oi,e,c,d⟩:=id st'
  exact⟨v,rfl,go_of (s:={ s with heap:=h'}) e c d (by decide) ⟨p.2,H,I1,rv,⟨rfl,p,hp,rfl⟩,st',fun b hb=>(hf b hb).1⟩⟩
 done:=by
  intro X hP hw hK hc i pins s σ H E I hf st hg
  subst hP hw hK
  obtain⟨hi,hq⟩:=hg
  have ho:s.heap.get? a=some o:=(show fj X.prog X.w H s.heap a (.frz o (.dK kvs))from I.dX a _ hq).1
  obtain⟨f0,f1,f2,f3,f4,f5⟩:=hf it (by simp)
  have hl:=KV.length kv
  exact wpAny_pyNext_values_end (I.ok.hd hc) st (hd _ ho) (List.getElem?_eq_none_iff.mpr (by omega)) fun h' eb=>⟨rfl,I.turned (t':=s.toks) (fun b o hb e=>eb b o hb e) f0 f1 f3 f4 f5⟩
 self:=fun _ _ _ _ _ st h=>wpAny_pyIter_valiter st h
end
section
variable {X:Cx}{a b e o:Expr}{es:List Expr}{pos apos cpos:Pos}{tg:Expr}
theorem dict_at {pins:List (Addr×Obj)}{σ:St}{H:Hp}{s:Shared}{p:Addr}{kvs:List (Key×V)}(I:Inv X pins σ H s)(rd:Rd H p (.dK kvs)):s.TypeIs (.ref p) "dict"/\∀ a,Value.ref p=.ref a->∃ ob,s.heap.get? a=some ob/\ob.dict=none:=by
 obtain⟨_,_,_,_,ob,_,_,e,ex,_⟩:=dk_rd I.dX rd
 exact⟨⟨ob,e,ex.1⟩,fun a e2=>by cases e2;exact⟨ob,e,ex.2.1⟩⟩
theorem pe_values {t:TE}{pins:List (Addr×Obj)}{σ:St}{H:Hp}{s:Shared}{Q:Value->Shared->Prop}(ho:PE X o t)(I:Inv X pins σ H s)
 (h:t σ H fun x H1=>∃ d kvs,x=.ref d/\Rd H1 d (.dK kvs)/\∀ s1,Inv X pins σ H1 s1->∀ v,v<s1.heap.objs.size->(∀ b,H1 b≠none->b≠v)->H1 v=none->s1.heap.IsValuesView v d->Q (.ref v) s1)
 (hbase:attributeBase o "values" X.env (eval o X.env)=eval o X.env:=by rfl) (hline:(apos.endLine==cpos.line)=true:=by rfl):wpAny (model X.prog X.w) X.A (eval (.Call (.Attribute o "values" apos) [] [] cpos) X.env) Q X.xe s:=by
 refine wpAny_Call_method0_late hbase hline (fo (ho pins s σ H _ I h) fun v s1 hq=>?_)
 obtain⟨x,H1,I1,r1,d,kvs,ex,rd,q⟩:=hq
 subst ex
 cases r1
 obtain⟨z,hd,vs,rel,dd⟩:=dk_rd I1.dX rd
 obtain⟨h1,h2⟩:=dict_at I1 rd
 refine⟨"dict", "dict.values",F.plainAttrs_dict,F.slot_dict_values,F.type_dict_values,h1,h2,cw rfl (PySem.evalArgs_none ?_)⟩
 refine call_meetsIn F.slot_dict_values h1 F.entry_dict_values (F.args_dict_values_1 _) (meets_dict_values (eK X.prog X.w) d hd) ⟨⟨vs,dd⟩,?_⟩
 exact q _ (I1.kept (t':=s1.toks) fun b o e=>gxL _ e) s1.heap.objs.size (by show _<(s1.heap.objs.push _).size;rw[Array.size_push];exact bL _) (fun b hb e=>hb (by rw[e];exact I1.dX.fresh (aa _))) (I1.dX.fresh (aa _)) ⟨_,au _ rfl,rfl,rfl⟩
def dItVF (w:De):DI:=fun ρ μ K=>w ρ μ fun d dF=>match d with
 | .fdc ks ds=>ks.length=ds.length->K ds (fun _=>True) dF
 | _=>False
theorem i_valuesF {w:De}(h:PD X o w)(hbase:attributeBase o "values" X.env (eval o X.env)=eval o X.env:=by rfl)(hline:(apos.endLine==cpos.line)=true:=by rfl):PDI X tg (.Call (.Attribute o "values" apos) [] [] cpos) (dItVF w):=by
 intro pins s σ H R I hq
 obtain⟨φ,ρ,μ,K,A,M,k,L⟩:=hq
 refine pe_values h I ⟨φ,ρ,μ,_,A,M,k,fun d dF d9 v1 H1 k1 f1 M1 i1=>?_⟩ hbase hline
 cases d with
 | fdc ks ds =>
  obtain⟨p,oo,kvs,vs,rfl,hn,h1,rfl,rfl,h3⟩:=i1
  refine⟨p,kvs,rfl,.inr ⟨oo,h1⟩,fun s1 I1 v hv hne hvn view=>?_⟩
  obtain⟨o',vs',ep,kv,hd,da,hs,I2⟩:=freeze I1 (.inr ⟨oo,h1⟩)
  have ho:s1.heap.get? p=some oo:=(show fj X.prog X.w H1 s1.heap p (.frz oo (.dK kvs))from I1.dX p _ h1).1
  have ho':s1.heap.get? p=some o':=(show fj X.prog X.w _ s1.heap p (.frz o' (.dK kvs))from I2.dX p _ dE).1
  rw[ho]at ho'
  cases ho'
  refine wpAny_pyIter_values view da ?_
  have hl:ds.length=kvs.length:=by have:=h3.len;rw[fC]at this;exact this.symm
  refine⟨s1.heap.objs.size,[s1.heap.objs.size],_,_,H1,rfl,I1.kept (t':=s1.toks) fun b o e=>gxL _ e,turn_valuesF p _ kv hd,⟨_,au _ rfl,rfl,rfl⟩,fun b hb=>?_,?_⟩
  ·have e:b=s1.heap.objs.size:=by simpa using hb
   subst e
   exact I1.fpOk (aa _) (I1.dX.fresh (aa _))
  ·refine L _ _ _ d9 _ _ (k1 (by rw[fC,hl])) f1 M1 fun ee H' μ' f' M' c i=>?_
   have h1':=f'.keep _ _ hn h1
   refine⟨fun d hd=>⟨⟨?_,h1'⟩,fun x H'' hy=>?_⟩,fun hi=>⟨by omega,h1'⟩⟩
   ·have:=(gxB hd).1
    omega
   ·obtain⟨rfl,q,hq,rfl⟩:=hy
    obtain⟨v',e1,e2⟩:=(h3.mono f').get hd
    rw[gxH,hq]at e1
    cases e1
    exact⟨.refl _ _,M',e2⟩
 | _=>exact k1.elim
def dListV (m:Bool)(w:De):De:=fun ρ μ K=>w ρ μ fun d dF=>opt (dcv dF d) fun q=>nL m q.2 dF K
theorem vals_rel {kvs:List (Key×V)}{vs:List (Key×Value)}{acc:Array Value}(kv:KV kvs vs)(h:ItemsOf (fun i v=>∃ k,vs[i]?=some (k,v)) acc vs.length):Vals (kvs.map (·.2)) acc.toList:=by
 refine Vals.ofGet (by rw[fC,kv.length,<- h.1];exact(bS (xs:=acc)).symm) fun i x u e1 e2=>?_
 rw[gxH]at e1
 cases q:kvs[i]? with
 | none=>rw[q]at e1;cases e1
 | some p =>
  rw[q]at e1;cases e1
  obtain⟨v,hv,rv⟩:=pair_rel kv q
  obtain⟨k,e3⟩:=h.2 i u (by rw[<- Array.getElem?_toList];exact e2)
  rw[hv]at e3;cases e3
  exact rv
theorem d_listVals (m:Bool){w:De}{p:Pos}(calm:X.calm=true)(hg:Gl X "list")(hm:X.mg "list"=none)(h:PD X o w)(hbase:attributeBase o "values" X.env (eval o X.env)=eval o X.env:=by rfl)(hline:(apos.endLine==cpos.line)=true:=by rfl)
 (hs3:starEach [.Call (.Attribute o "values" apos) [] [] cpos] X.env=[(false,eval (.Call (.Attribute o "values" apos) [] [] cpos) X.env)]:=by rfl) :
 PD X (.Call (.Name "list" p) [.Call (.Attribute o "values" apos) [] [] cpos] [] pos) (dListV m w):=by
 intro pins s σ H Q I hq
 refine bJ (ld_blt I hg hm boot_list ?_)
 obtain⟨φ,ρ,μ,K,A,M,k,L⟩:=hq
 refine br ?_ hs3 rfl
 rw[hs3]
 show wpAny _ _ (spliced ((false,eval (.Call (.Attribute o "values" apos) [] [] cpos) X.env)::backTo pos [])) _ _ s
 refine Calls.spliced_cons ?_
 refine pe_values h I ⟨φ,ρ,μ,_,A,M,k,fun d dF d9 v1 H1 k1 f1 M1 i1=>?_⟩ hbase hline
 obtain⟨q,em,k1⟩:=opt_ex k1
 obtain⟨p',kvs,rfl,rd,e1,ha⟩:=dcv_is M1 i1 em
 refine⟨p',kvs,rfl,rd,fun s1 I1 v hv hne hvn view=>Calls.spliced_nil ?_⟩
 obtain⟨z,hd,vs,rel,dd⟩:=dk_rd I1.dX rd
 obtain⟨ep,da⟩:=dd.dictAt
 refine PySem.W.kdl_call (PySem.W.kdl_values (knd:=eK X.prog X.w) (kvs:=vs) (ep:=ep)) (I1.ok.hd calm) ⟨view,da⟩ (by rw[<- rel.length];exact z) fun h' tk acc' c' kp hl it=>?_
 have I2:Inv X pins σ (upd H1 s1.heap.objs.size (.lst (kvs.map (·.2)))) { s1 with heap:=h',toks:=tk}:=I1.laid (a:=s1.heap.objs.size) (o:=.lst _) (t':=tk) kp (aa _) ⟨by rw[fC];exact z,acc'.toList,c',vals_rel rel it,hl⟩
 exact⟨.ref s1.heap.objs.size,_,I2,rfl,al_n (L.mono f1) M1 ha k1 (I1.dX.fresh (aa _))⟩
end
theorem entry_item_iter:entryFor table "dict_itemiterator.__iter__"=some Builtin.«dict_keyiterator.__iter__»:=entryFor_alias (id (Eq.refl (fastTable "dict_itemiterator.__iter__"))) rfl (by decide +kernel) (id (Eq.refl (fastTable "dict_keyiterator.__iter__")))
theorem pyIter_item {prog:Program}{w:World}{A:Around}{E:Value->Shared->Prop}{s:Shared}{it d:Addr}{i n ep:Nat}{ok ov:Value}{Q:Value->Shared->Prop}(st:IsItemIter s.heap it d i n ep ok ov)(h:Q (.ref it) s):wpAny (model prog w) A (pyIter (.ref it)) Q E s:=by
 have hT:s.TypeIs (.ref it) "dict_itemiterator":=⟨_,st,rfl⟩
 refine wpAny_pyIter_slot hT F.slot_dict_itemiterator_iter ?_
 refine bI F.slot_dict_itemiterator_iter hT entry_item_iter ?_ (F.args_dict_itemiterator_iter_1 _)
 unfold Builtin.«dict_keyiterator.__iter__»
 have hn:typeLookup (.type "dict_itemiterator") "__next__"=pure (some (.builtin "dict_itemiterator.__next__")):=F.slot_dict_itemiterator_next.lookup
 exact ah ⟨.ref it,rfl,_,_,hT,hn,h⟩
def Iti (a:Addr)(o:Obj)(kvs:List (Key×V)):It:=⟨fun i H=>i<kvs.length/\H a=some (.frz o (.dK kvs)),fun i H x H'=>∃ T p,x=.ref T/\H T=none/\kvs[i]?=some p/\H'=upd H T (.tup [kV p.1,p.2]),fun i H=>kvs.length<=i/\H a=some (.frz o (.dK kvs))⟩
theorem turn_items {P:Program}{w:World}{K:PySem.W.Frag}{elts:List Expr}{kk:Nat}{tpos:Pos}(a it:Addr){o:Obj}{kvs:List (Key×V)}{vs:List (Key×Value)}{ep:Nat}(kv:KV kvs vs)(hd:∀ h:Heap,h.get? a=some o->h.DictAt (eK P w) a vs ep) :
 Turn P w K (.Tuple elts kk tpos) (Iti a o kvs) [it] it (fun i h=>∃ ok ov,IsItemIter h it a i vs.length ep ok ov) where
 mem:=by simp
 obj:=fun i h st b hb=>by
  have e:b=it:=by simpa using hb
  subst e
  obtain⟨ok,ov,e⟩:=st
  exact⟨_,e,fun v z=>by cases z⟩
 keep:=fun i h h' st k=>by
  obtain⟨ok,ov,e⟩:=st
  exact⟨ok,ov,k it (by simp) _ e⟩
 item:=by
  intro X hP hw hK hc i pins s σ H E I hf st hg
  subst hP hw hK
  obtain⟨ok,ov,st⟩:=st
  obtain⟨hi,hq⟩:=hg
  obtain⟨p,hp⟩:∃ p,kvs[i]?=some p:=⟨_,gxA hi⟩
  obtain⟨v,hv,rv⟩:=pair_rel kv hp
  have ho:s.heap.get? a=some o:=(show fj X.prog X.w H s.heap a (.frz o (.dK kvs))from I.dX a _ hq).1
  refine wpAny_pyNext_items_item st (hd _ ho) hv fun key h1 hkey out hT hsz kp1=>?_
  refine⟨_,rfl,wpAny_letOwnedTupleGo_items (s:={ s with heap:=h1}) out fun h2 st2 hs2=>?_⟩
  have lte:it<s.heap.objs.size:=gxN st
  have ne1:s.heap.objs.size≠it:=a9 lte
  have hT2:IsPair h2 s.heap.objs.size key v:=(hs2.2 _ ne1).trans hT
  have kp:∀ b o,b∉[it]->s.heap.get? b=some o->h2.get? b=some o:=fun b o hb q=>by
   have b1:b≠it:=fun z=>hb (by simp[z])
   exact(hs2.2 b b1).trans (kp1 b o b1 q)
  have hn:H s.heap.objs.size=none:=I.dX.fresh (aa _)
  have I1:=I.turnT (ch:=[it]) (h'':=h2) (x:=kV p.1) (y:=p.2) hf kp hT2 (kV_of hkey) rv
  refine⟨.ref s.heap.objs.size,_,I1,rfl,⟨_,p,rfl,hn,hp,rfl⟩,⟨_,_,st2⟩,fun b hb=>?_⟩
  rw[dQ]
  ·exact(hf b hb).1
  ·have e:b=it:=by simpa using hb
   rw[e];exact aC lte
 done:=by
  intro X hP hw hK hc i pins s σ H E I hf st hg
  subst hP hw hK
  obtain⟨ok,ov,st⟩:=st
  obtain⟨hi,hq⟩:=hg
  have ho:s.heap.get? a=some o:=(show fj X.prog X.w H s.heap a (.frz o (.dK kvs))from I.dX a _ hq).1
  obtain⟨f0,f1,f2,f3,f4,f5⟩:=hf it (by simp)
  have hl:=KV.length kv
  exact wpAny_pyNext_items_end (I.ok.hd hc) st (hd _ ho) (List.getElem?_eq_none_iff.mpr (by omega)) fun h' eb=>⟨rfl,I.turned (t':=s.toks) (fun b o hb e=>eb b o hb e) f0 f1 f3 f4 f5⟩
 self:=fun _ _ _ _ _ st h=>let ⟨_,_,e⟩:=st;pyIter_item e h
section
variable {X:Cx}{a b e o:Expr}{es:List Expr}{pos apos cpos:Pos}{tg:Expr}
theorem pe_items {t:TE}{pins:List (Addr×Obj)}{σ:St}{H:Hp}{s:Shared}{Q:Value->Shared->Prop}(ho:PE X o t)(I:Inv X pins σ H s)
 (h:t σ H fun x H1=>∃ d kvs,x=.ref d/\Rd H1 d (.dK kvs)/\∀ s1,Inv X pins σ H1 s1->∀ v,s1.heap.IsItemsView v d->Q (.ref v) s1)
 (hbase:attributeBase o "items" X.env (eval o X.env)=eval o X.env:=by rfl) (hline:(apos.endLine==cpos.line)=true:=by rfl):wpAny (model X.prog X.w) X.A (eval (.Call (.Attribute o "items" apos) [] [] cpos) X.env) Q X.xe s:=by
 refine wpAny_Call_method0_late hbase hline (fo (ho pins s σ H _ I h) fun v s1 hq=>?_)
 obtain⟨x,H1,I1,r1,d,kvs,ex,rd,q⟩:=hq
 subst ex
 cases r1
 obtain⟨z,hd,vs,rel,dd⟩:=dk_rd I1.dX rd
 obtain⟨h1,h2⟩:=dict_at I1 rd
 refine⟨"dict", "dict.items",F.plainAttrs_dict,F.slot_dict_items,F.type_dict_items,h1,h2,cw rfl (PySem.evalArgs_none ?_)⟩
 refine call_meetsIn F.slot_dict_items h1 F.entry_dict_items (F.args_dict_items_1 _) (meets_dict_items (eK X.prog X.w) d hd) ⟨⟨vs,dd⟩,?_⟩
 exact q _ (I1.kept (t':=s1.toks) fun b o e=>gxL _ e) s1.heap.objs.size ⟨_,au _ rfl,rfl,rfl⟩
def dItI (w:De):DI:=fun ρ μ K=>w ρ μ fun d dF=>match d with
 | .fdc ks ds=>ks.length=ds.length->K (List.zipWith (fun k d=>D.tup [keyV k,d]) ks ds) (fun _=>True) dF
 | _=>False
theorem i_itemsF {elts:List Expr}{kk:Nat}{tpos:Pos}{w:De}(h:PD X o w)(hbase:attributeBase o "items" X.env (eval o X.env)=eval o X.env:=by rfl)(hline:(apos.endLine==cpos.line)=true:=by rfl):PDI X (.Tuple elts kk tpos) (.Call (.Attribute o "items" apos) [] [] cpos) (dItI w):=by
 intro pins s σ H R I hq
 obtain⟨φ,ρ,μ,K,A,M,k,L⟩:=hq
 refine pe_items h I ⟨φ,ρ,μ,_,A,M,k,fun d dF d9 v1 H1 k1 f1 M1 i1=>?_⟩ hbase hline
 cases d with
 | fdc ks ds =>
  obtain⟨p,oo,kvs,vs,rfl,hn,h1,rfl,rfl,h3⟩:=i1
  refine⟨p,kvs,rfl,.inr ⟨oo,h1⟩,fun s1 I1 v view=>?_⟩
  obtain⟨o',vs',ep,kv,hd,da,hs,I2⟩:=freeze I1 (.inr ⟨oo,h1⟩)
  have ho:s1.heap.get? p=some oo:=(show fj X.prog X.w H1 s1.heap p (.frz oo (.dK kvs))from I1.dX p _ h1).1
  have ho':s1.heap.get? p=some o':=(show fj X.prog X.w _ s1.heap p (.frz o' (.dK kvs))from I2.dX p _ dE).1
  rw[ho]at ho'
  cases ho'
  refine wpAny_pyIter_items view da ?_
  have hl:ds.length=kvs.length:=by have:=h3.len;rw[fC]at this;exact this.symm
  refine⟨s1.heap.objs.size,[s1.heap.objs.size],_,_,H1,rfl,I1.kept (t':=s1.toks) fun b o e=>gxL _ e,turn_items p _ kv hd,⟨_,_,au _ rfl⟩,fun b hb=>?_,?_⟩
  ·have e:b=s1.heap.objs.size:=by simpa using hb
   subst e
   exact I1.fpOk (aa _) (I1.dX.fresh (aa _))
  ·refine L _ _ _ d9 _ _ (k1 (by rw[fC,hl])) f1 M1 fun ee H' μ' f' M' c i=>?_
   have h1':=f'.keep _ _ hn h1
   have lz:(List.zipWith (fun k d=>D.tup [keyV k,d]) (kvs.map (·.1)) ds).length=kvs.length:=by rw[List.length_zipWith,fC,hl,Nat.min_self]
   refine⟨fun d hd=>⟨⟨?_,h1'⟩,fun x H'' hy=>?_⟩,fun hi=>⟨by omega,h1'⟩⟩
   ·have:=(gxB hd).1
    omega
   ·obtain⟨T,q,rfl,hT,hq,rfl⟩:=hy
    rw[List.getElem?_zipWith,gxH,hq]at hd
    cases e1:ds[i]? with
    | none=>rw[e1]at hd;cases hd
    | some dd =>
     rw[e1]at hd
     cases hd
     obtain⟨v',e2,e3⟩:=(h3.mono f').get e1
     rw[gxH,hq]at e2
     cases e2
     have fn:=Fr.new (φ:=ee) (o:=.tup [kV q.1,q.2]) hT
     exact⟨fn,M'.same (Same.upd hT),T,_,rfl,M'.fresh hT,dE,_,_,rfl,keyV_is _,_,_,rfl,e3.mono fn,rfl⟩
 | _=>exact k1.elim
end
section
variable {prog:Program}{w:World}{A:Around}{E:Value->Shared->Prop}{s:Shared}
theorem bounds_runE {a c n:Nat}(hac:a<=c)(hc:c=n):sliceBounds (some (a:Int)) none none n=((a:Int),(c:Int),1):=by
 simp only[sliceBounds,Option.getD_none]
 have h1:¬ ((a:Int)<0):=by omega
 simp only[h1,if_false,show(1:Int)>0 by decide,if_true]
 congr 1
 ·omega
 ·congr 1;omega
set_option maxRecDepth 100000 in
theorem setItem_sliceE {l b sl:Addr}{items new:Array Value}{n n2:Nat}{vl vu:Value}{a c:Nat}{Q:Unit->Shared->Prop}
 (e:s.heap.get? l=some { cls:=.type "list",data:=.seq items n}) (e2:s.heap.get? b=some { cls:=.type "list",data:=.seq new n2}) (hne:l≠b)
 (hs:s.heap.IsSliceOf sl vl vu .none) (pl:IsPart vl (some (a:Int))) (pu:IsPart vu none) (hcc:c=items.size) (hac:a<=c) (hc:c<=items.size)
 (hsz:items.size+new.size<=sizeLine) (h:Q () { s with heap:=s.heap.update l (Obj.mapSeq fun xs=>xs.extract 0 a++new++xs.extract c xs.size)}) :
 wpAny (model prog w) A (setItem (.ref l) (.ref sl) (.ref b)) Q E s:=by
 have hl:s.heap.IsList l items:=PySem.IsL.isList e
 have hb:s.heap.IsList b new:=PySem.IsL.isList e2
 obtain⟨os,hos,hcs,hds⟩:=id hs
 have hTs:s.TypeIs (.ref sl) "slice":=⟨os,hos,hcs⟩
 have hstep:¬ ((rawPart none==rawInt 0)=true):=aA
 have hsame:Builtin.List.listSameRef (.ref l) (.ref b)=false:=by
  unfold Builtin.List.listSameRef
  exact beq_eq_false_iff_ne.mpr hne
 have hmax:(max (a:Int) (c:Int)).toNat=c:=by omega
 have hz':((fun xs:Array Value=>xs.extract 0 a++new++xs.extract c xs.size) items).size<=sizeLine+1:=by
  simp only[Array.size_append,Array.size_extract]
  omega
 unfold setItem
 try with_reducible refine bE ?_
 first | refine dY (ah ?_) | skip
 refine dY (wpAny_sequenceKey hl.typeIs (by decide) ?_)
 refine dY (bu (name:=Str.ofString "__setitem__") hl.typeIs slot_list_setitem
  (bI slot_list_setitem hl.typeIs entry_list_setitem ?_ (args_list_setitem _ _ _)))
 show wpAny _ _ (Builtin.List.listSubscript? (.ref sl) >>= _) _ _ s
 refine dY ?_
 unfold Builtin.List.listSubscript?
 refine dY (wpAny_specialOf hTs slice_no_index ?_)
 simp only[Option.isNone_none,if_true]
 refine ah ?_
 show wpAny _ _ (typeOf (.ref sl) >>= _) _ _ s
 refine dY (wpAny_typeOf hTs ?_)
 first
  | rw[ae (by decide)]
  | refine PySem.W.KFB.if_not (by decide) ?_
 rw[listSliceParts_eq]
 refine dY (dY (aR hos hds (x:=.none) rfl (dY (wpAny_listPart .none ?_))))
 rw[ae hstep]
 refine dY (aR hos hds (x:=vl) rfl (dY (wpAny_listPart pl ?_)))
 refine dY (aR hos hds (x:=vu) rfl (dY (wpAny_listPart pu (ah ?_))))
 first
  | simp only[hsame,cZ,if_false]
  | refine PySem.W.KFB.if_not hsame ?_
  | (dsimp only
     rw[ae (by rw[hsame];exact aA)])
 refine dY (m:=Builtin.List.listAllItems (.ref b) "must assign iterable to extended slice") ?_
 unfold Builtin.List.listAllItems
 refine dY (wpAny_typeOf hb.typeIs ?_)
 first
  | refine PySem.W.KFB.if_so (by decide) ?_
  | rw[ag (by decide)]
  | simp only[cc,Bool.true_or,if_true]
 unfold Builtin.List.listItems
 refine dY (bM e2 rfl (ah ?_))
 refine dY (dY (bM e rfl (ah ?_)))
 refine dY (wpAny_of_eq ((sliceIndices_raw (some (a:Int)) none none items.size (by simp)).trans (bD (pure:Int×Int×Int->Sem (Int×Int×Int)) (bounds_runE (c:=c) hac hcc))) ?_)
 show wpAny _ _ (if((1:Int)==1)=true then _ else _) _ _ s
 rw[ag (by decide)]
 refine dY (wpAny_rule ?_)
 first
  | simp only[notLongL hsz,cZ,if_false]
  | refine PySem.W.KFB.if_not (notLongL hsz) ?_
 first | refine dY (ah ?_) | skip
 show wpAny _ _ (updateSeq l (fun xs=>xs.extract 0 ((a:Int)).toNat++new++xs.extract (max (a:Int) (c:Int)).toNat xs.size) >>= _) _ _ s
 rw[hmax,gxK]
 refine dY (wpAny_updateSeq (hz:=aw (aW _ _) hsz) (_hz':=hz') e rfl ?_)
 refine dY (wpAny_letGo ?_)
 first
  | exact dY (ah (ah ⟨.none,rfl,ah h⟩))
  | exact ah ⟨.none,rfl,ah h⟩
end
def dcompX (it:D->MS->(Option (Key×D)->MS->Prop)->Prop)(c:MS->Prop)(μ:MS):List D->List (Key×D)->(List (Key×D)->Prop)->Prop
 | [],kvs,K=>c (μ++[.dic (kvs.map (·.1)) (kvs.map (·.2))])/\K kvs
 | d::ds,kvs,K=>c (μ++[.dic (kvs.map (·.1)) (kvs.map (·.2))])/\it d (μ++[.dic (kvs.map (·.1)) (kvs.map (·.2))]) fun o μ'=>μ'=μ++[.dic (kvs.map (·.1)) (kvs.map (·.2))]/\(match o with
  | some (k,y)=>dcompX it c μ ds (dput kvs k y) K
  | none=>dcompX it c μ ds kvs K)
def dCompM (wi:DI)(js:List (Option Nat))(y:DG)(t:Dt)(wk wv:De):De:=fun ρ μ K=>wi ρ μ fun ds c dF=>ds.length<=sizeLine/\dcompX (dItemD (startD js ρ) y t wk wv) c dF ds [] fun kvs=>K (.mr dF.length) (dF++[.dic (kvs.map (·.1)) (kvs.map (·.2))])
theorem tD_compM {wi:DI}{js:List (Option Nat)}{g:TG}{y:DG}{S:List Nat}{t:Dt}{wk wv:De}(so:SoG g y S)(mo:MonoG g)(ho:ownJs S js=true){σ:St}{H:Hp}{Q:VK}(h:tD (dCompM wi js y t wk wv) σ H Q):tCompD (tDI wi) js g (tDT t) (tD wk) (tD wv) σ H Q:=by
 obtain⟨φ,ρ,μ,K,A,M,k,L⟩:=h
 refine⟨φ,ρ,μ,_,A,M,k,fun ds c dF d9 J H1 k1 f1 M1 wk' D hD=>?_⟩
 obtain⟨hz,k1⟩:=k1
 have hDf:D∉d9:=M1.fresh hD
 have fD:Fr d9 H1 (d9++[D]) (upd H1 D (.dK [])):=⟨(Fr.snoc (φ:=d9) hD).ext,fun c u _ e=>Same.upd hD _ _ e,fun c e=>(Same.upd hD).free e⟩
 obtain⟨MD,_⟩:=M1.snoc (m:=.dic [] []) (o:=.dK []) hD ⟨[],[],dE,rfl,rfl,rfl⟩
 have hp:(d9++[D])[dF.length]?=some D:=by rw[gxG (by rw[M1.len];exact aa _),M1.len,aQ];rfl
 refine⟨fun i n kv H'=>n=ds.length - i/\i<=ds.length/\∃ kvs:List (Key×L2.D),kvs.length<=i/\Fr d9 H1 (d9++[D]) H'/\dZ (d9++[D]) H' (dF++[.dic (kvs.map (·.1)) (kvs.map (·.2))])/\dcompX (dItemD (startD js ρ) y t wk wv) c dF (ds.drop i) kvs fun kvs=>K (.mr dF.length) (dF++[MO.dic (kvs.map (·.1)) (kvs.map (·.2))]),
  ⟨ds.length,rfl,aX _,[],aX _,fD,MD,k1⟩,?_⟩
 rintro i n kv H' ⟨rfl,hi,kvs,hkl,f',M',w'⟩
 by_cases hlt:i<ds.length
 ·rw[cE hlt]at w'
  obtain⟨c',w'⟩:=w'
  obtain⟨go,yld⟩:=(wk' _ H' _ f' M' c' i).1 ds[i] (gxA hlt)
  refine .inr ⟨go,fun x H2 hy2=>?_⟩
  obtain⟨f2,M2,i2⟩:=yld x H2 hy2
  have E2:DEnv (d9++[D]) H2 (startD js ρ) (fk js σ):=((A.mono (f1.trans (f'.trans f2))).fk js)
  refine mo _ _ _ _ _ (fun σ3 H3 hq3=>?_) (so _ H2 _ _ _ _ x _ E2 M2 i2 w')
  obtain⟨e3,l3,n3,ρ3,E3,k3⟩:=hq3
  refine⟨ext_of ho l3 n3,?_⟩
  subst e3
  refine⟨_,ρ3,_,_,E3,M2,k3,fun b μ4 φ4 H4 k4 f4 M4=>?_⟩
  cases b with
  | true =>
   refine⟨φ4,ρ3,μ4,_,E3.mono f4,M4,k4,fun d5 μ5 φ5 v5 H5 k5 f5 M5 i5=>?_⟩
   obtain⟨kk,ekk,k5⟩:=opt_ex k5
   refine⟨φ5,ρ3,μ5,_,E3.mono (f4.trans f5),M5,k5,fun d6 μ6 φ6 v6 H6 k6 f6 M6 i6=>?_⟩
   obtain⟨e6,w6⟩:=k6
   subst e6
   have ff:=f2.trans (f4.trans (f5.trans f6))
   have ef:φ6=d9++[D]:=ff.noext (by rw[M6.len,M'.len])
   subst ef
   obtain⟨p,e1,kv',vs,e2,e3',e4,e5⟩:=M6.at_ dF.length _ (by rw[gxG (aa _),aQ];rfl)
   rw[hp]at e1
   cases e1
   subst e4
   have hl':kv'.length=kvs.length:=by have:=bD List.length e3';rwa [fC,fC]at this
   have f7:Fr (d9++[D]) H6 (d9++[D]) (upd H6 D (.dK (putK kv' kk v6))):=.put (aD _ (List.mem_singleton.mpr rfl))
   obtain⟨g1,g2⟩:=dput_rel (k:=kk) (i6.mono f7) e3' (e5.mono f7)
   refine⟨kk,kv',keyD_is ekk i5,e2,by omega,ds.length - (i+1),by omega,rfl,hlt,dput kvs kk d6,by have:=dput_len kvs kk d6;omega,(f'.trans ff).trans f7,?_,w6⟩
   have q:=M6.put (k:=dF.length) (p:=D) (o:=.dK (putK kv' kk v6)) (m:=.dic ((dput kvs kk d6).map (·.1)) ((dput kvs kk d6).map (·.2))) hp ⟨putK kv' kk v6,_,dE,g1,rfl,g2⟩
   have e:(dF++[MO.dic (kvs.map (·.1)) (kvs.map (·.2))]).set dF.length (.dic ((dput kvs kk d6).map (·.1)) ((dput kvs kk d6).map (·.2)))=dF++[.dic ((dput kvs kk d6).map (·.1)) ((dput kvs kk d6).map (·.2))]:=set_end
   rw[e]at q
   exact q
  | false =>
   obtain⟨e4,w4⟩:=k4
   subst e4
   have ff:=f2.trans f4
   have ef:φ4=d9++[D]:=ff.noext (by rw[M4.len,M'.len])
   subst ef
   exact⟨ds.length - (i+1),by omega,rfl,hlt,kvs,by omega,f'.trans ff,M4,w4⟩
 ·have e:i=ds.length:=by omega
  subst e
  rw[List.drop_length]at w'
  exact .inl ⟨(wk' _ H' _ f' M' w'.1 _).2 rfl,L _ _ _ _ H' w'.2 (f1.trans f') M' ⟨D,hp,rfl⟩⟩
section
variable {X:Cx}{N:List Str}{sc:Scope}{js:List (Option Nat)}{tg iter kx vx:Expr}{ifs:List Expr}{g:TG}{y:DG}{S:List Nat}{t:Dt}{wk wv:De}
theorem d_compM {wi:DI}{pos:Pos}(hc:CompOk X N js sc)(calm:X.calm=true)(so:SoG g y S)(mo:MonoG g)(ho:ownJs S js=true)(hi:PDI X tg iter wi)(hg:∀ fp s H,PG (cxE X N sc fp s H) tg g)
 (ht:∀ fp s H,PDTs (cxE X N sc fp s H) ifs t) (hk:∀ fp s H,PD (cxE X N sc fp s H) kx wk) (hv:∀ fp s H,PD (cxE X N sc fp s H) vx wv)
 (hs:∀ x,foldedSetIterable iter X.env x=pure x:=by intro _;rfl):PD X (.DictComp kx vx [⟨tg,iter,ifs,0⟩] sc pos) (dCompM wi js y t wk wv):=(pe_compD hc calm hi hg ht hk hv hs).imp fun σ H Q h=>tD_compM so mo ho h
end
section
variable {X:Cx}{a b e o:Expr}{es:List Expr}{pos:Pos}
def sSlE (to tl tv:TE):TS:=fun D σ H=>tv σ H fun v H1=>to σ H1 fun x H2=>tl σ H2 fun i H3=>∃ l b xs ys k,x=.ref l/\v=.ref b/\i=.int k/\H3 l=some (.lst xs)/\H3 b=some (.lst ys)/\l≠b/\0<=k/\k<=xs.length/\xs.length+ys.length<=sizeLine/\D.nx σ (upd H3 l (.lst (xs.take k.toNat++ys)))
theorem ps_slE {to tl tv:TE}{lo value:Expr}{p pos':Pos}(ho:PE X o to)(hl:PE X lo tl)(hv:PE X value tv)(hs:swapsWith value (some (.Subscript o (.Slice (some lo) none none p) pos')) pos.line X.env=pure false:=by rfl) :
 PS X (.Assign [.Subscript o (.Slice (some lo) none none p) pos'] value pos) (sSlE to tl tv):=by
 intro pins s σ H D I h
 refine wpAny_Assign_Subscript (fo (hv pins s σ H _ I h) fun r s1 hq1=>?_) hs
 obtain⟨v,H1,I1,rv,q1⟩:=hq1
 refine fo (ho pins s1 σ H1 _ I1 q1) fun u s2 hq2=>?_
 obtain⟨x,H2,I2,rx,q2⟩:=hq2
 refine wpAny_Slice (fo (hl pins s2 σ H2 _ I2 q2) fun iv s3 hq3=>?_)
 obtain⟨i,H3,I3,ri,l,b,xs,ys,k,ex,ev,ei,hH,hB,hne,h0,hk,hz,q⟩:=hq3
 subst ex ev ei
 cases rx
 cases rv
 obtain⟨t,rfl⟩:=ri
 refine ah (ah ?_)
 have I4:Inv X pins σ H3 { s3 with heap:=s3.heap.push { cls:=.type "slice",data:=.fields #[.int k t,.none,.none]}}:=I3.kept (t':=s3.toks) fun b o e=>gxL _ e
 obtain⟨z,d7,n,r,hl,e⟩:=I4.lstM hH
 obtain⟨z2,its2,n2,r2,hl2,e2⟩:=I4.lstM hB
 obtain⟨a',rfl⟩:=Int.eq_ofNat_of_zero_le h0
 refine setItem_sliceE (a:=a') (c:=d7.length) (sl:=s3.heap.objs.size) (vl:=.int a' t) (vu:=.none) e e2 hne ⟨_,au _ rfl,rfl,rfl⟩ (.int _ _) .none (by rw[ar]) (by omega) (by rw[ar];exact aa _) (by rw[ar,ar];omega) ?_
 have I5:=I4.lset (its':=d7.take a'++its2) (ys:=xs.take a'++ys) (t':=s3.toks) hH e (f:=fun xs=>xs.extract 0 a'++its2.toArray++xs.extract d7.length xs.size) (by
  have:=splice_eq d7 its2 a' d7.length
  rw[List.drop_length,aP]at this
  exact this) (Vals.append (r.take _) r2) (by rw[gxE,aM];omega)
 exact⟨σ,_,I5,by simpa using q⟩
def dSlE (wo wl wv:De):Ds:=fun N ρ μ=>wv ρ μ fun v dF=>wo ρ dF fun x eV=>wl ρ eV fun i μ3=>match x,v,i with
 | .mr j,.lst ys,.int k=>∃ xs,lvM μ3 j=some xs/\0<=k/\k<=xs.length/\xs.length+ys.length<=sizeLine/\N.nx ρ (μ3.set j (.lst (xs.take k.toNat++ys)))
 | _,_,_=>False
theorem s_slE {wo wl wv:De}{lo value:Expr}{p pos':Pos}(ho:PD X o wo)(hl:PD X lo wl)(hv:PD X value wv)(hs:swapsWith value (some (.Subscript o (.Slice (some lo) none none p) pos')) pos.line X.env=pure false:=by rfl) :
 PDS X (.Assign [.Subscript o (.Slice (some lo) none none p) pos'] value pos) (dSlE wo wl wv):=(ps_slE ho hl hv hs).imp fun E σ H hq=>by
 obtain⟨φ,ρ,μ,N,A,M,w,L⟩:=hq
 refine⟨φ,ρ,μ,_,A,M,w,fun d1 dF d9 v1 H1 k1 f1 M1 i1=>?_⟩
 refine⟨d9,ρ,dF,_,A.mono f1,M1,k1,fun d2 eV φ2 v2 H2 k2 f2 M2 i2=>?_⟩
 refine⟨φ2,ρ,eV,_,A.mono (f1.trans f2),M2,k2,fun d3 μ3 φ3 v3 H3 k3 f3 M3 i3=>?_⟩
 split at k3
 ·rename_i j ys k
  obtain⟨xs,ex,h0,hk,hz,k3⟩:=k3
  cases(show v3=_ from i3)
  have i1':=i1.mono (f2.trans f3)
  obtain⟨pb,vb,rfl,nb,hb,ab⟩:=i1'
  obtain⟨p,hp,rfl⟩:=i2.mono f3
  obtain⟨p',e1,vs,hv,ha⟩:=M3.at_ j _ (lvM_eq ex)
  rw[hp]at e1;cases e1
  have ne:p≠pb:=fun z=>nb (by rw[<- z];exact gxD hp)
  have f4:Fr φ3 H3 φ3 (upd H3 p (.lst (vs.take k.toNat++vb))):=.put (gxD hp)
  have M4:=M3.put (k:=j) (p:=p) (o:=.lst (vs.take k.toNat++vb)) (m:=.lst (xs.take k.toNat++ys)) hp ⟨_,dE,((ha.take _).app ab).mono f4⟩
  exact⟨p,pb,vs,vb,k,rfl,rfl,rfl,hv,hb,ne,h0,by rw[ha.len];exact hk,by rw[ha.len,ab.len];exact hz,L.nx ρ _ φ3 σ _ k3 ((f1.trans (f2.trans f3)).trans f4) (A.mono ((f1.trans (f2.trans f3)).trans f4)) M4⟩
 ·exact k3.elim
def dAugF (C:Addr)(f:Str)(g:Int->Int->Int)(wo w:De):Ds:=fun N ρ μ=>wo ρ μ fun x dF=>match x with
 | .mr k=>∃ i,(insM C dF k).bind (fun q=>lookN f q.1 q.2)=some (.int i)/\w ρ dF fun y eV=>match y with
  | .int j=>∃ q q':List Str×List D,insM C eV k=some q/\putN f (.int (g i j)) q.1 q.2=q'/\q.1.length<1000/\N.nx ρ (eV.set k (.ins C q'.1 q'.2))
  | _=>False
 | _=>False
theorem tD_augF {C:Addr}{f:Str}{g:Int->Int->Int}{wo w:De}{rd:V->V->Hp->VK->Prop}(c:Cls X.K C)(n:NoAttr X.K C f)(hrd:∀ i j H Q,Q (.int (g i j)) H->rd (.int i) (.int j) H Q){E:Ends}{σ:St}{H:Hp}(hq:tDS (dAugF C f g wo w) E σ H):sFldAug X.K (tD wo) (tD w) rd f E σ H:=by
 obtain⟨φ,ρ,μ,N,A,M,k,L⟩:=hq
 refine⟨φ,ρ,μ,_,A,M,k,fun d1 dF d9 v1 H1 k1 f1 M1 i1=>?_⟩
 cases d1 with
 | mr k =>
  obtain⟨i,e1,k1⟩:=k1
  obtain⟨q,e2,e3⟩:=Option.bind_eq_some_iff.mp e1
  obtain⟨p,hp,rfl⟩:=i1
  obtain⟨p',e4,dx,fs,h1,h2,h3⟩:=M1.at_ k _ (insM_eq e2)
  rw[hp]at e4;cases e4
  rw[<- h2]at e3
  obtain⟨v,l,iv⟩:=lookN_is h3 e3
  cases(show v=_ from iv)
  refine⟨p,C,dx,fs,.int i,rfl,h1,c,n,l,?_⟩
  refine⟨d9,ρ,dF,_,A.mono f1,M1,k1,fun d2 eV φ2 v2 H2 k2 f2 M2 i2=>?_⟩
  cases d2 with
  | int j =>
   cases(show v2=_ from i2)
   obtain⟨q',_,e5,rfl,hl,k2⟩:=k2
   have hp2:=f2.get hp
   obtain⟨p',e4,dx',fs',g1,g2,g3⟩:=M2.at_ k _ (insM_eq e5)
   rw[hp2]at e4;cases e4
   refine hrd _ _ _ _ ⟨dx',fs',g1,by rw[<- g2,fC]at hl;exact hl,?_⟩
   have f4:Fr φ2 H2 φ2 (upd H2 p (.ins C dx' (putF f (.int (g i j)) fs'))):=.put (gxD hp2)
   obtain⟨y1,y2⟩:=putN_is (f:=f) (d:=.int (g i j)) (v:=.int (g i j)) (show DIs φ2 (upd H2 p (.ins C dx' (putF f (.int (g i j)) fs'))) (.int (g i j)) (.int (g i j))from rfl) (g3.mono f4)
   rw[g2]at y1 y2
   exact L.nx ρ _ φ2 σ _ k2 ((f1.trans f2).trans f4) (A.mono ((f1.trans f2).trans f4)) (M2.put hp2 ⟨dx',_,dE,y1,y2⟩)
  | _=>exact k2.elim
 | _=>exact k1.elim
theorem s_augFA {C:Addr}{f:Str}{wo w:De}{tpos:Pos}(c:Cls X.K C)(n:NoAttr X.K C f)(ho:PD X o wo)(hv:PD X e w):PDS X (.AugAssign (.Attribute o f tpos) .Add e pos) (dAugF C f (·+·) wo w):=(ps_fldaug ho hv in_add).imp fun E σ H hq=>tD_augF c n (fun i j H Q q=>⟨i,j,rfl,rfl,q⟩) hq
end
structure CalMX (P:Program)(w:World)(K:PySem.W.Frag)(mg:Str->Option Value)(base:Heap)(C:Addr)(m:Str)(k:Nat)(ps:List Str)(sp:Sp):Prop where
 ex:∃ f fd,d8 P w K mg base (CX1 P w) k f fd ps sp/\Meth K C m f/\Binds K fd ps []
structure CalIX (P:Program)(w:World)(K:PySem.W.Frag)(mg:Str->Option Value)(base:Heap)(x:Str)(C:Addr)(k:Nat)(ps:List Str)(sp:Sp):Prop where
 ex:∃ f fd,d8 P w K mg base (CX1 P w) k f fd ps sp/\Mk K C f/\mg x=some (.ref C)/\Binds K fd ps []
theorem pass1 {X:Cx}:Passes (CX1 X.prog X.w) X (fun _ _ _=>False):=fun pins σ H s e s' I c=>by
 obtain⟨_,_,_,_,_,_,_,_,_,_,_,z⟩:=c
 exact z.elim
section
variable {X:Cx}{a b e o:Expr}{es:List Expr}{pos:Pos}{C:Addr}{eE:List Addr}{H0:Hp}{Kx:DX}
theorem tD_methX {m:Str}{f:DSpX}{wo:De}{w:DA}{σ:St}{H:Hp}{Q:VK}{E:XK}{ok:MS->Prop}{Kx:DX}(hE:∀ φ μ H,dZ φ H μ->ok μ->LifX φ H Kx E)(h:tD (fun ρ μ K=>wo ρ μ fun x dF=>recvD C m dF x/\w ρ dF fun ds eV=>ok eV/\f (x::ds) eV K Kx) σ H Q):tMeth C m (spX f) [] E (tD wo) (tDA w) σ H Q:=by
 obtain⟨φ,ρ,μ,K,A,M,k,L⟩:=h
 refine⟨φ,ρ,μ,_,A,M,k,fun d1 dF d9 v1 H1 k1 f1 M1 i1=>?_⟩
 obtain⟨p,dx,fs,rfl,h1,h2⟩:=recvD_is M1 i1 k1.1
 refine⟨p,dx,fs,rfl,h1,h2,d9,ρ,dF,_,A.mono f1,M1,k1.2,fun ds eV φ2 vs H2 k2 f2 M2 i2=>?_⟩
 show spX f (.ref p::(vs++[])) H2 Q E
 rw[aP]
 exact⟨φ2,d1::ds,eV,K,Kx,⟨_,vs,rfl,DIs.mono f2 i1,i2⟩,M2,k2.2,L.mono (f1.trans f2),hE φ2 eV H2 M2 k2.1⟩
def dMethX (eE:List Addr)(H0:Hp)(Kx:DX)(C:Addr)(m:Str)(f:DSpX)(wo:De)(w:DA):De:=fun ρ μ K=>wo ρ μ fun x dF=>recvD C m dF x/\w ρ dF fun ds eV=>eV[0]?=some (.gx eE H0)/\f (x::ds) eV K Kx
theorem d_methX {m:Str}{f:DSpX}{wo:De}{w:DA}{apos:Pos}{pl:Sem Bool}{k:Nat}{ps:List Str}(Z:Rz X eE H0 Kx)(CM:CalMX X.prog X.w X.K X.mg X.base C m k ps (spX f))(c:Cls X.K C)(hr:Room k X.A)(ho:PD X o wo)(ha:PDA X (e::es) w)
 (hst:starEach (e::es) X.env=(false,eval e X.env)::starEach es X.env:=by rfl) (hpl:(backTo pos (starEach es X.env)).any (·.1)=false:=by rfl)
 (ht:eval (.Call (.Attribute o m apos) (e::es) [] pos) X.env=(do
   let ov <- eval o X.env
   standAt apos.atName
   let (f,first) <- holding [ov] (getMethod ov m pl)
   callWith pos f first (backTo pos (starEach (e::es) X.env)) (backToKw pos (keywordEach [] X.env))):=by rfl) :
 PD X (.Call (.Attribute o m apos) (e::es) [] pos) (dMethX eE H0 Kx C m f wo w):=by
 obtain⟨E,LX,hp⟩:=Z.ex
 obtain⟨f',fd,F,hm,hb⟩:=CM.ex
 exact(pe_meth ho c hm F hr hb .nil hp ha hst hpl ht).imp fun σ H Q hq=>tD_methX (ok:=fun μ=>μ[0]?=some (MO.gx eE H0)) (fun φ μ H M e=>LX.mono (M.hist e)) hq
def dMethXc (C:Addr)(m:Str)(f:DSpX)(wo:De)(w:DA):De:=fun ρ μ K=>wo ρ μ fun x dF=>recvD C m dF x/\w ρ dF fun ds eV=>True/\f (x::ds) eV K fun _ _=>False
theorem d_methXc {m:Str}{f:DSpX}{wo:De}{w:DA}{apos:Pos}{pl:Sem Bool}{k:Nat}{ps:List Str}(CM:CalMX X.prog X.w X.K X.mg X.base C m k ps (spX f))(c:Cls X.K C)(hr:Room k X.A)(ho:PD X o wo)(ha:PDA X (e::es) w)
 (hst:starEach (e::es) X.env=(false,eval e X.env)::starEach es X.env:=by rfl) (hpl:(backTo pos (starEach es X.env)).any (·.1)=false:=by rfl)
 (ht:eval (.Call (.Attribute o m apos) (e::es) [] pos) X.env=(do
   let ov <- eval o X.env
   standAt apos.atName
   let (f,first) <- holding [ov] (getMethod ov m pl)
   callWith pos f first (backTo pos (starEach (e::es) X.env)) (backToKw pos (keywordEach [] X.env))):=by rfl) :
 PD X (.Call (.Attribute o m apos) (e::es) [] pos) (dMethXc C m f wo w):=by
 obtain⟨f',fd,F,hm,hb⟩:=CM.ex
 exact(pe_meth ho c hm F hr hb .nil pass1 ha hst hpl ht).imp fun σ H Q hq=>tD_methX (ok:=fun _=>True) (Kx:=fun _ _=>False) (fun φ μ H M e=>fun _ _ _ _ z _ _=>z.elim) hq
theorem tD_makeX {f:DSpX}{w:DA}{σ:St}{H:Hp}{Q:VK}{E:XK}{ok:MS->Prop}{Kx:DX}(hE:∀ φ μ H,dZ φ H μ->ok μ->LifX φ H Kx E)(h:tD (fun ρ μ K=>w ρ μ fun ds dF=>ok dF/\f (.mr dF.length::ds) (dF++[.ins C [] []]) (fun d eV=>d=.fB/\K (.mr dF.length) eV) Kx) σ H Q):tMake C (spX f) [] E (tDA w) σ H Q:=by
 obtain⟨φ,ρ,μ,K,A,M,k,L⟩:=h
 refine⟨φ,ρ,μ,_,A,M,k,fun ds dF d9 vs H1 k1 f1 M1 i1 x dx hx hdx ne=>?_⟩
 have S1:Same H1 (upd H1 dx (.own x)):=Same.upd hdx
 have hx':upd H1 dx (.own x) x=none:=by rw[dQ (aZ ne)];exact hx
 have fa:Fr d9 H1 d9 (upd H1 dx (.own x)):=.same S1
 obtain⟨M2,f2⟩:=(M1.same S1).snoc (m:=.ins C [] []) (o:=.ins C dx []) hx' ⟨dx,[],dE,rfl,rfl⟩
 have f3:=fa.trans f2
 have hin:DIs (d9++[x]) (upd (upd H1 dx (.own x)) x (.ins C dx [])) (.mr dF.length) (.ref x):=⟨x,by rw[gxG (by rw[M1.len];exact aa _),M1.len,aQ];rfl,rfl⟩
 show spX f (.ref x::(vs++[])) _ _ E
 rw[aP]
 refine⟨d9++[x],.mr dF.length::ds,dF++[.ins C [] []],_,Kx,⟨_,vs,rfl,hin,i1.mono f3⟩,M2,k1.2,fun d μ3 φ3 v H3 k3 f4 M3 i3=>?_,(hE d9 dF H1 M1 k1.1).mono f3⟩
 obtain⟨rfl,k3⟩:=k3
 exact⟨i3,L _ μ3 φ3 _ H3 k3 ((f1.trans f3).trans f4) M3 (hin.mono f4)⟩
def dMakeXc (C:Addr)(f:DSpX)(w:DA):De:=fun ρ μ K=>w ρ μ fun ds dF=>True/\f (.mr dF.length::ds) (dF++[.ins C [] []]) (fun d eV=>d=.fB/\K (.mr dF.length) eV) fun _ _=>False
theorem d_makeXc {x:Str}{f:DSpX}{w:DA}{p:Pos}{k:Nat}{ps:List Str}(CI:CalIX X.prog X.w X.K X.mg X.base x C k ps (spX f))(hr:Room (k+1) X.A)(hg:Gl X x)(ha:PDA X (e::es) w)
 (hdb:(x==("__debug__" : Str))=false:=by decide) (he:starEach (e::es) X.env=(false,eval e X.env)::starEach es X.env:=by rfl) (hpl:(backTo pos (starEach es X.env)).any (·.1)=false:=by rfl) :
 PD X (.Call (.Name x p) (e::es) [] pos) (dMakeXc C f w):=by
 obtain⟨f',fd,F,M,hm,hb⟩:=CI.ex
 exact(pe_make M F hr hg hm hb .nil pass1 ha hdb he hpl).imp fun σ H Q hq=>tD_makeX (ok:=fun _=>True) (Kx:=fun _ _=>False) (fun φ μ H M e=>fun _ _ _ _ z _ _=>z.elim) hq
end
theorem calmx_of {P:Program}{w:World}{K:PySem.W.Frag}{mg:Str->Option Value}{base:Heap}{C:Addr}{x q:Str}{st:Stmt}{f:Addr}{fd:FuncData}{k:Nat}{ps:List Str}{sp:Sp}(F:Fun K x q st f fd)(ok:d8 P w K mg base (CX1 P w) k f fd ps sp)(hb:Binds K fd ps [])
 (a:PySem.W.findIn K (.ref C) x=some (some (.ref f)):=by kernel_rfl) (i:PySem.W.isFn K (.ref f)=true:=by kernel_rfl):CalMX P w K mg base C x k ps sp:=⟨f,fd,ok,⟨a,i,F.kp⟩,hb⟩
theorem calix_of {P:Program}{w:World}{K:PySem.W.Frag}{mg:Str->Option Value}{base h:Heap}{C:Addr}{y q:Str}{st:Stmt}{f:Addr}{fd:FuncData}{k:Nat}{ps:List Str}{sp:Sp}(G:K.In h)(N:h.Ns mainGlobals mg)(F:Fun K "__init__" q st f fd)(ok:d8 P w K mg base (CX1 P w) k f fd ps sp)(hb:Binds K fd ps [])
 (n:PySem.W.nsIn K mainGlobals y=some (some (.ref C)):=by kernel_rfl) (a:PySem.W.findIn K (.ref C) "__init__"=some (some (.ref f)):=by kernel_rfl) (i:PySem.W.isFn K (.ref f)=true:=by kernel_rfl) (m:PySem.W.makesIn K C=true:=by kernel_rfl) (p:PySem.W.keepIn K (.ref C)=true:=by kernel_rfl):CalIX P w K mg base y C k ps sp:=⟨f,fd,ok,⟨m,a,i,p⟩,aS G N n,hb⟩
section
variable {X:Cx}{a b c e o:Expr}{es:List Expr}{pos:Pos}
theorem op_le_str:OpR X (compareOp .LtE) (fun x y H Q=>∃ i j,x=.str i/\y=.str j/\Q (.bl (!decide (j.cps.toList<i.cps.toList))) H):=by
 intro pins s σ H x y v u Q I rx ry h
 obtain⟨i,j,rfl,rfl,q⟩:=h
 obtain⟨t,rfl⟩:=rx
 obtain⟨t',rfl⟩:=ry
 exact compareOp_gives (typeIs_str s i t) (typeIs_str s j t') F.slot_str_le F.entry_str_le (F.args_str_le_2 _ _) (gives_str_le i j t t') (by first | rfl | simp[Made.takes] | decide) (e9 I q rfl)
def dLeS:DOp:=fun x y μ K=>match x,y with
 | .str a,.str b=>K (.bl (!decide (b.cps.toList<a.cps.toList))) μ
 | _,_=>False
theorem so_leS:SoOp (fun x y H Q=>∃ i j,x=.str i/\y=.str j/\Q (.bl (!decide (j.cps.toList<i.cps.toList))) H) dLeS:=fun φ H x y dx dy μ K Q M hx hy k L=>by
 unfold dLeS at k
 split at k
 ·cases(show x=_ from hx);cases(show y=_ from hy)
  exact⟨_,_,rfl,rfl,L.val M k rfl⟩
 ·exact k.elim
def dChain (ro ro':DOp)(wa wb wc:De):De:=fun ρ μ K=>wa ρ μ fun x dF=>wb ρ dF fun y eV=>ro x y eV fun z μ3=>match z with
 | .bl k=>if k=true then wc ρ μ3 fun w' μ4=>ro' y w' μ4 K else K (.bl false) μ3
 | _=>False
theorem d_chain {op op':CmpOp}{r r':R2}{ro ro':DOp}{wa wb wc:De}(ho:OpR X (compareOp op) r)(ho':OpR X (compareOp op') r')(so:SoOp r ro)(so':SoOp r' ro')(ha:PD X a wa)(hb:PD X b wb)(hc:PD X c wc)
 (hm:lastMarks [op,op'] [b,c]=false:=by with_unfolding_all rfl):PD X (.Compare a [op,op'] [b,c] pos) (dChain ro ro' wa wb wc):=(pe_chain ho ho' ha hb hc hm).imp fun σ H Q hq=>by
 obtain⟨φ,ρ,μ,K,A,M,k,L⟩:=hq
 refine⟨φ,ρ,μ,_,A,M,k,fun d1 dF d9 v1 H1 k1 f1 M1 i1=>?_⟩
 refine⟨d9,ρ,dF,_,A.mono f1,M1,k1,fun d2 eV φ2 v2 H2 k2 f2 M2 i2=>?_⟩
 refine so φ2 H2 v1 v2 d1 d2 eV _ _ M2 (i1.mono f2) i2 k2 fun d3 μ3 φ3 v3 H3 k3 f3 M3 i3=>?_
 cases d3 with
 | bl k =>
  cases(show v3=_ from i3)
  refine⟨k,rfl,?_⟩
  cases k with
  | false=>exact L _ μ3 φ3 _ H3 k3 (f1.trans (f2.trans f3)) M3 rfl
  | true=>exact⟨φ3,ρ,μ3,_,A.mono (f1.trans (f2.trans f3)),M3,k3,fun d4 μ4 φ4 v4 H4 k4 f4 M4 i4=>so' φ4 H4 v2 v4 d2 d4 μ4 K Q M4 (i2.mono (f3.trans f4)) i4 k4 (L.mono (f1.trans (f2.trans (f3.trans f4))))⟩
 | _=>exact k3.elim
def GInt (mg:Str->Option Value)(x:Str)(i:Int):Prop:=∃ t,mg x=some (.int i t)
theorem d_gint {x:Str}{i:Int}(hg:Gl X x)(hm:GInt X.mg x i)(hd:(x==("__debug__" : Str))=false:=by decide):PD X (.Name x pos) (dC (.int i)):=by
 obtain⟨t,hm⟩:=hm
 exact(pe_glob (v:=.int i) hg hm ⟨t,rfl⟩ hd).imp fun σ H Q hq=>by
  obtain⟨φ,ρ,μ,K,A,M,k,L⟩:=hq
  exact L _ _ φ _ H k (.refl _ _) M rfl
structure Tab (P:Program)(w:World)(K:PySem.W.Frag)(mg:Str->Option Value)(x:Str)(ts:List (Str×Addr)):Prop where
 ex:∃ d,mg x=some (.ref d)/\∀ h:Heap,K.In h->h.DictOf (eK P w) d (ts.map fun p=>(Sum.inr p.1,Value.ref p.2))
def dTab (ts:List (Str×Addr))(w:De):De:=fun ρ μ K=>w ρ μ fun d dF=>match d with
 | .str z=>∃ a,(ts.find? fun p=>decide (p.1=z)).map (·.2)=some a/\K (.fn a) dF
 | _=>False
theorem valueAt_tab {z:Str}{a:Addr}:∀ {ts:List (Str×Addr)},(ts.find? fun p=>decide (p.1=z)).map (·.2)=some a->valueAt (ts.map fun p=>((Sum.inr p.1:Key),Value.ref p.2)) (Sum.inr z)=some (.ref a)
 | [],h=>by cases h
 | p::ts,h=>by
  unfold valueAt
  rw[ai,bj]
  rw[bj]at h
  by_cases q:p.1=z
  ·rw[ao q]at h
   cases h
   rw[show decide ((Sum.inr p.1:Key)=Sum.inr z)=true from ao (by rw[q])]
   rfl
  ·rw[aj q]at h
   rw[show decide ((Sum.inr p.1:Key)=Sum.inr z)=false from aj fun y=>q (Sum.inr.inj y)]
   exact valueAt_tab (ts:=ts) h
theorem d_tab {ts:List (Str×Addr)}{x:Str}{w:De}{p:Pos}(T:Tab X.prog X.w X.K X.mg x ts)(hg:Gl X x)(hb:PD X b w)(hs:NoSl b)(hd:(x==("__debug__" : Str))=false:=by decide):PD X (.Subscript (.Name x p) b pos) (dTab ts w):=by
 intro pins s σ H Q I hq
 obtain⟨φ,ρ,μ,K,A,M,k,L⟩:=hq
 obtain⟨d,hm,T⟩:=T.ex
 refine subD_of PySem.F.slot_dict_getitem.lookup hs (ld_glob I hg hm ?_ hd)
 refine fo (hb pins s σ H (fun v H1=>∃ z a,v=.str z/\(ts.find? fun p=>decide (p.1=z)).map (·.2)=some a/\Q (.ref a) H1) I ⟨φ,ρ,μ,_,A,M,k,fun d1 dF d9 v1 H1 k1 f1 M1 i1=>?_⟩) fun u s1 hq1=>?_
 ·cases d1 with
  | str z =>
   cases(show v1=_ from i1)
   obtain⟨a,e,k1⟩:=k1
   exact⟨z,a,rfl,e,L _ dF d9 _ H1 k1 f1 M1 rfl⟩
  | _=>exact k1.elim
 ·obtain⟨x,H1,I1,rx,z,a,rfl,e,q⟩:=hq1
  have dd:=T _ I1.kIn
  obtain⟨ob,_,_,eb,ex,_⟩:=id dd
  exact⟨⟨ob,eb,ex.1⟩,wpAny_getItem_of (kV_is (k:=Sum.inr z) rx) dd.mapOf (valueAt_tab e) ⟨.ref a,H1,I1.tok _,rfl,q⟩⟩
theorem tab_of {P:Program}{w:World}{K:PySem.W.Frag}{mg:Str->Option Value}{x:Str}{d:Addr}{n:Nat}{h:Heap}(es:List (Str×Nat×Addr))(X:K.In h)(G:h.Ns mainGlobals mg)(e:PySem.W.nsIn K mainGlobals x=some (some (.ref d)))
 (l:K.lookup d=some ⟨.type "dict",none,.dict ((es.map fun p=>enP w.params p.1 p.2.1 (.ref p.2.2)).toArray) n,#[]⟩) (nd:(es.map (·.1)).Nodup):Tab P w K mg x (es.map fun p=>(p.1,p.2.2)):=by
 refine⟨d,aS X G e,fun h' I=>⟨_,_,_,I _ _ l,⟨rfl,rfl,rfl⟩,rfl,?_,?_,?_⟩⟩
 ·intro y hy
  obtain⟨p,_,rfl⟩:=List.mem_map.mp (List.mem_toArray.mp hy)
  exact⟨Sum.inr p.1,keyIs_str p.1 p.2.1,rfl⟩
 ·clear l nd
  induction es with
  | nil=>exact .nil
  | cons p es ih=>exact .cons (keyIs_str p.1 p.2.1) rfl ih
 ·rw[aB,aB]
  show(List.map ((fun z:Str=>(Sum.inr z:Key)) ∘ fun p:Str×Nat×Addr=>p.1) es).Nodup
  rw[<- aB]
  exact nd.map (f:=fun z:Str=>(Sum.inr z:Key)) fun a b h z=>h (Sum.inr.inj z)
structure CalV (P:Program)(w:World)(K:PySem.W.Frag)(mg:Str->Option Value)(base:Heap)(T:List (Addr×DSpX))(k:Nat)(ps:List Str):Prop where
 ex:∀ p∈T,∃ fd,d8 P w K mg base (CX1 P w) k p.1 fd ps (spX p.2)/\PySem.W.keepIn K (.ref p.1)=true/\Binds K fd ps []
def dCallV (eE:List Addr)(H0:Hp)(Kx:DX)(T:List (Addr×DSpX))(i:Nat)(w:DA):De:=fun ρ μ K=>match ρ[i]? with
 | some (some (.fn a))=>∃ f,(a,f)∈T/\w ρ μ fun ds dF=>dF[0]?=some (.gx eE H0)/\f ds dF K Kx
 | _=>False
theorem d_callV {eE:List Addr}{H0:Hp}{Kx:DX}{T:List (Addr×DSpX)}{i:Nat}{w:DA}{x:Str}{p:Pos}{k:Nat}{ps:List Str}(Z:Rz X eE H0 Kx)(CV:CalV X.prog X.w X.K X.mg X.base T k ps)(hr:Room k X.A)(hN:X.N[i]?=some x)(hv:Vis X.env.scope x)(ha:PDA X (e::es) w)
 (hdb:(x==("__debug__" : Str))=false:=by decide) (hcd:(x==("__classdict__" : Str))=false:=by decide) (he:starEach (e::es) X.env=(false,eval e X.env)::starEach es X.env:=by rfl) (hpl:(backTo pos (starEach es X.env)).any (·.1)=false:=by rfl) :
 PD X (.Call (.Name x p) (e::es) [] pos) (dCallV eE H0 Kx T i w):=by
 intro pins s σ H Q I hq
 obtain⟨φ,ρ,μ,K,A,M,k,L⟩:=hq
 obtain⟨E,LX,hp⟩:=Z.ex
 unfold dCallV at k
 split at k
 ·rename_i a ea
  obtain⟨f,hf,k⟩:=k
  obtain⟨v,ev,iv⟩:=A.2 i _ ea
  cases(show v=_ from iv)
  obtain⟨fd,F,hk,hb⟩:=CV.ex _ hf
  refine bJ (fo (pe_var hN hv hdb hcd pins s σ H (fun u H1=>u=.ref a/\H1=H) I ⟨_,ev,rfl,rfl⟩) fun u s1 hq1=>?_)
  obtain⟨x1,H1,I1,r1,rfl,rfl⟩:=hq1
  cases r1
  refine cq (h₀:=X.base) I.ok.mod.kin hk (fo (ha pos pins s1 σ H1 (fun vs H2=>spX f vs H2 Q E) I1 ⟨φ,ρ,μ,_,A,M,k,fun ds dF d9 vs H2 k1 f1 M1 i1=>?_⟩) fun us s2 hq2=>?_) he hpl
  ·exact⟨d9,ds,dF,K,Kx,i1,M1,k1.2,L.mono f1,LX.mono (M1.hist k1.1)⟩
  ·obtain⟨vs,H2,I2,r2,q2⟩:=hq2
   exact⟨I2.kIn,run_fn (dvs:=[]) F hr hb .nil hp I2 r2 (by rw[aP];exact q2)⟩
 ·exact k.elim
end
section
variable {X:Cx}{a b c e o:Expr}{es:List Expr}{pos apos cpos:Pos}
def dSlT (w:De)(l h:DO):De:=fun ρ μ K=>w ρ μ fun x dF=>l ρ dF fun lo eV=>h ρ eV fun hi μ3=>match x with
 | .tup ds=>¬ (HT.sIx ds.length 0 lo=0/\HT.sIx ds.length ds.length hi=ds.length)/\K (.tup (cutD ds lo hi)) μ3
 | _=>False
theorem d_sliceT {lo hi:Option Expr}{w:De}{l h:DO}{p:Pos}(ha:PD X a w)(hl:PO X lo (tDO l))(hh:PO X hi (tDO h)):PD X (.Subscript a (.Slice lo hi none p) pos) (dSlT w l h):=(pe_slice sl_tup ha hl hh).imp fun σ H Q hq=>by
 obtain⟨φ,ρ,μ,K,A,M,k,L⟩:=hq
 refine⟨φ,ρ,μ,_,A,M,k,fun d dF d9 v1 H1 k1 f1 M1 i1=>?_⟩
 refine⟨d9,ρ,dF,_,A.mono f1,M1,k1,fun lo eV φ2 H2 k2 f2 M2=>?_⟩
 refine⟨φ2,ρ,eV,_,A.mono (f1.trans f2),M2,k2,fun hi μ3 φ3 H3 k3 f3 M3=>?_⟩
 have i3:=i1.mono (f2.trans f3)
 have L3:=L.mono (f1.trans (f2.trans f3))
 split at k3
 ·obtain⟨p,vs,rfl,_,hp,ha⟩:=i3
  exact⟨p,vs,rfl,SqT.of hp,by rw[ha.len];exact k3.1,fun l hl=>al_tup L3 M3 (ha.cut lo hi) k3.2 hl⟩
 ·exact k3.elim
def dInT (neg:Bool):DOp:=fun x y μ K=>match y with
 | .tup ds=>fltD x=true/\ds.all fltD=true/\K (.bl (neg != ds.any fun d=>deq d x)) μ
 | _=>False
theorem so_inT {neg:Bool}:SoOp (rInC neg) (dInT neg):=fun φ H x y dx dy μ K Q M hx hy k L=>by
 unfold dInT at k
 split at k
 ·obtain⟨f1,f2,k⟩:=k
  obtain⟨p,vs,rfl,_,hp,ha⟩:=hy
  obtain⟨a,b⟩:=flt_all hx f1 ha f2
  have fx:=flt_is hx f1
  have key:∃ xs,(H p=some (.lst xs)\/H p=some (.tup xs))/\flatV x=true/\xs.all flatV=true/\Q (.bl (neg != inV x xs)) H:=⟨vs,.inr hp,fx,a,by rw[b];exact L.val M k rfl⟩
  unfold rInC
  cases x <;> exact key
 ·exact k.elim
def dPopK (wd wk:De):De:=fun ρ μ K=>wd ρ μ fun x dF=>match x with
 | .mr j=>(∃ ks ds,dF[j]?=some (.dic ks ds))/\wk ρ dF fun y eV=>∃(kd:List (Key×D)) (k:Key) (d:D),eV[j]?=some (.dic (kd.map (·.1)) (kd.map (·.2)))/\keyD y=some k/\dval kd k=some d/\K d (eV.set j (.dic ((kd.filter fun p=>decide (p.1≠k)).map (·.1)) ((kd.filter fun p=>decide (p.1≠k)).map (·.2))))
 | _=>False
theorem drop_rel {φ:List Addr}{H:Hp}{k:Key}:∀ {kd:List (Key×D)} {kv:List (Key×V)},kv.map (·.1)=kd.map (·.1)->dJ φ H (kd.map (·.2)) (kv.map (·.2))->(dropK kv k).map (·.1)=(kd.filter fun p=>decide (p.1≠k)).map (·.1)/\dJ φ H ((kd.filter fun p=>decide (p.1≠k)).map (·.2)) ((dropK kv k).map (·.2))
 | [],kv,e,h=>by
  cases kv with
  | nil=>exact⟨rfl,rfl⟩
  | cons _ _=>cases e
 | p::kd,kv,e,h=>by
  cases kv with
  | nil=>cases e
  | cons q kv =>
   simp only[ai,bH]at e
   obtain⟨v,r,e2,h1,h2⟩:=h
   simp only[ai,bH]at e2
   obtain⟨rfl,rfl⟩:=e2
   obtain⟨g1,g2⟩:=drop_rel (k:=k) e.2 h2
   unfold dropK at g1 g2 ⊢
   rw[a8,a8]
   by_cases z:p.1=k
   ·have z2:q.1=k:=by rw[e.1,z]
    rw[ae (by simp[z2]),ae (by simp[z])]
    exact⟨g1,g2⟩
   ·have z2:¬ q.1=k:=by rw[e.1];exact z
    rw[ag (by simp[z2]),ag (by simp[z])]
    exact⟨by rw[ai,ai,g1,e.1],_,_,rfl,h1,g2⟩
theorem d_popK {wd wk:De}(ho:PD X o wd)(he:PD X e wk)(m:M1 X o "pop" apos e cpos:=by exact⟨rfl,rfl,rfl,rfl⟩):PD X (.Call (.Attribute o "pop" apos) [e] [] cpos) (dPopK wd wk):=(pe_dpop1 ho he m).imp fun σ H Q hq=>by
 obtain⟨φ,ρ,μ,K,A,M,k,L⟩:=hq
 refine⟨φ,ρ,μ,_,A,M,k,fun d1 dF d9 v1 H1 k1 f1 M1 i1=>?_⟩
 cases d1 with
 | mr j =>
  obtain⟨⟨ks,ds,em⟩,k1⟩:=k1
  obtain⟨p,hp,rfl⟩:=i1
  obtain⟨p',e1,kvs,vs,h1,h2,h3,h4⟩:=M1.at_ j _ em
  rw[hp]at e1;cases e1
  refine⟨p,rfl,.inl ⟨kvs,.inl h1⟩,?_⟩
  refine⟨d9,ρ,dF,_,A.mono f1,M1,k1,fun d2 eV φ2 v2 H2 k2 f2 M2 i2=>?_⟩
  obtain⟨kd,k,d,em2,ek,ed,k2⟩:=k2
  have hp2:=f2.get hp
  obtain⟨p',e1,kvs2,vs2,g1,g2,g3,g4⟩:=M2.at_ j _ em2
  rw[hp2]at e1;cases e1
  subst g3
  cases keyD_is ek i2
  have ed':dval ((kd.map (·.1)).zip (kd.map (·.2))) k=some d:=by rw[zip_parts];exact ed
  obtain⟨v,ev,iv⟩:=dval_get g2 g4 ed'
  refine⟨kvs2,k,v,g1,rfl,ev,?_⟩
  have f3:Fr φ2 H2 φ2 (upd H2 p (.dK (dropK kvs2 k))):=.put (gxD hp2)
  obtain⟨y1,y2⟩:=drop_rel (k:=k) g2 (g4.mono f3)
  exact L _ _ φ2 _ _ k2 ((f1.trans f2).trans f3) (M2.put hp2 ⟨_,_,dE,y1,rfl,y2⟩) (iv.mono f3)
 | _=>exact k1.elim
end
inductive Pt where
 | fst (b:List Nat) (a:Int)
 | jn (l r:Str) (p:Int)
structure RS where
 n:Int
 kept:List (Str×Pt)
 eX:List (Int×Unit)
inductive Dd where
 | put (nm b:Str) (a:Int) | join (nm l r:Str) (p:Int) | found (nm:Str) (bar:Int) (sg:Str) | aged (nm:Str) (a:Int) | drop (nm:Str) | free (p:Int) | eX (p:Int)
section
variable {α β:Type}[DecidableEq α]
def du (l:List (α×β))(k:α):Option β:=(l.find? fun p=>decide (p.1=k)).map (·.2)
def fE (l:List (α×β))(k:α)(v:β):List (α×β):=if(l.any fun p=>decide (p.1=k))=true then l.map (fun p=>if p.1=k then(p.1,v)else p)else l++[(k,v)]
def adrop (l:List (α×β))(k:α):List (α×β):=l.filter fun p=>decide (p.1≠k)
theorem eU {p:α×β}{l:List (α×β)}{k:α}:du (p::l) k=if p.1=k then some p.2 else du l k:=by
 unfold du
 rw[bj]
 by_cases h:p.1=k
 ·rw[ao h,ag h];rfl
 ·rw[aj h,ae h]
theorem aget_any {l:List (α×β)}{k:α}:(l.any fun p=>decide (p.1=k))=(du l k).isSome:=by
 induction l with
 | nil=>rfl
 | cons p l ih =>
  rw[bf,eU,ih]
  by_cases h:p.1=k
  ·rw[ao h,ag h];rfl
  ·rw[aj h,ae h];rfl
theorem aget_mem {l:List (α×β)}{k:α}{v:β}(h:du l k=some v):(k,v)∈l:=by
 induction l with
 | nil=>cases h
 | cons p l ih =>
  rw[eU]at h
  by_cases q:p.1=k
  ·rw[ag q]at h;cases h
   rw[<- q];exact av
  ·rw[ae q]at h;exact gxI _ (ih h)
theorem eS {l:List (α×β)}{k:α}:(du l k).isSome=true↔k∈l.map (·.1):=by
 rw[<- aget_any,List.any_eq_true,List.mem_map]
 constructor
 ·rintro⟨p,hp,e⟩;exact⟨p,hp,bB e⟩
 ·rintro⟨p,hp,e⟩;exact⟨p,hp,ao e⟩
theorem aget_of_mem {l:List (α×β)}{k:α}{v:β}(nd:(l.map (·.1)).Nodup)(h:(k,v)∈l):du l k=some v:=by
 induction l with
 | nil=>cases h
 | cons p l ih =>
  rw[ai,List.nodup_cons]at nd
  rw[eU]
  rcases List.mem_cons.mp h with q | q
  ·subst q;rw[ag rfl]
  ·rw[ae]
   ·exact ih nd.2 q
   ·intro e
    exact nd.1 (by rw[e];exact List.mem_map.mpr ⟨_,q,rfl⟩)
theorem aget_app {l m:List (α×β)}{k:α}:du (l++m) k=(du l k).or (du m k):=by
 induction l with
 | nil=>rfl
 | cons p l ih =>
  rw[List.cons_append,eU,eU,ih]
  by_cases q:p.1=k
  ·rw[ag q,ag q];rfl
  ·rw[ae q,ae q]
theorem aput_keys {l:List (α×β)}{k:α}{v:β}:(fE l k v).map (·.1)=if k∈l.map (·.1)then l.map (·.1)else l.map (·.1)++[k]:=by
 unfold fE
 have e:((l.any fun p=>decide (p.1=k))=true)↔k∈l.map (·.1):=by rw[aget_any];exact eS
 by_cases h:k∈l.map (·.1)
 ·rw[ag (e.mpr h),ag h,aB]
  refine bP fun p _=>?_
  simp only[Function.comp]
  split <;> rfl
 ·rw[ae (fun z=>h (e.mp z)),ae h,aE];rfl
theorem aget_put {l:List (α×β)}{k j:α}{v:β}:du (fE l k v) j=if j=k then some v else du l j:=by
 unfold fE
 split
 ·rename_i h
  induction l with
  | nil=>cases h
  | cons p l ih =>
   rw[ai,eU,eU]
   by_cases q:p.1=k
   ·rw[ag q]
    by_cases z:j=k
    ·rw[ag z,ag (by show p.1=j;rw[q,z])]
    ·rw[ae z,ae (show ¬ p.1=j from fun y=>z (by rw[<- y,q])),ae (fun y=>z (by rw[<- y,q]))]
     clear ih h
     induction l with
     | nil=>rfl
     | cons r l ih =>
      rw[ai,eU,eU,ih]
      by_cases y:r.1=k
      ·rw[ag y,ae (show ¬ r.1=j from fun x=>z (by rw[<- x,y])),ae (fun x=>z (by rw[<- x,y]))]
      ·rw[ae y]
   ·rw[ae q]
    have h':(l.any fun p=>decide (p.1=k))=true:=by
     rw[bf,aj q]at h;exact h
    rw[ih h']
    by_cases z:j=k
    ·rw[ag z,ae (fun y=>q (by rw[y,z])),ag z]
    ·rw[ae z,ae z]
 ·rename_i h
  rw[aget_app]
  have hn:du l k=none:=by
   cases e:du l k with
   | none=>rfl
   | some x=>exact absurd (by rw[aget_any,e];rfl) h
  by_cases z:j=k
  ·subst z;rw[ag rfl,hn,eU,ag rfl];rfl
  ·rw[ae z,eU,ae (fun y=>z y.symm)]
   cases du l j <;> rfl
theorem aget_drop {l:List (α×β)}{k j:α}(h:j≠k):du (adrop l k) j=du l j:=by
 unfold adrop
 induction l with
 | nil=>rfl
 | cons p l ih =>
  rw[a8,eU]
  by_cases q:p.1=k
  ·rw[ae (by simp[q]),ih,ae (fun y=>h (by rw[<- y,q]))]
  ·rw[ag (by simp[q]),eU,ih]
end
def dW (z:Str):Key:=Sum.inr z
def ikey (i:Int):Key:=Sum.inl i
theorem dD:∀ a b,dW a=dW b->a=b:=fun _ _ h=>Sum.inr.inj h
theorem ikey_inj:∀ a b,ikey a=ikey b->a=b:=fun _ _ h=>Sum.inl.inj h
def dcG {α β:Type}(κ:α->Key)(f:β->D)(l:List (α×β)):D:=.fdc (l.map fun p=>κ p.1) (l.map fun p=>f p.2)
theorem zip_map2 {α β γ:Type}(f:α->β)(g:α->γ):∀ l:List α,(l.map f).zip (l.map g)=l.map fun a=>(f a,g a)
 | []=>rfl
 | a::l=>by rw[ai,ai,cX,zip_map2 f g l];rfl
section
variable {α β:Type}[DecidableEq α]{κ:α->Key}(hi:∀ a b,κ a=κ b->a=b)(f:β->D)
include hi
theorem dval_k (k:α):∀ l:List (α×β),dval (l.map fun p=>(κ p.1,f p.2)) (κ k)=(du l k).map f
 | []=>rfl
 | p::l=>by
  have ih:=dval_k k l
  rw[eU]
  unfold dval at ih ⊢
  rw[ai,bj]
  by_cases h:p.1=k
  ·rw[show decide ((κ p.1,f p.2).1=κ k)=true from ao (by rw[h]),ag h];rfl
  ·rw[show decide ((κ p.1,f p.2).1=κ k)=false from aj fun z=>h (hi _ _ z),ae h];exact ih
theorem dput_k (k:α)(v:β)(l:List (α×β)):dput (l.map fun p=>(κ p.1,f p.2)) (κ k) (f v)=(fE l k v).map fun p=>(κ p.1,f p.2):=by
 have e:((l.map fun p=>(κ p.1,f p.2)).any fun kv=>decide (kv.1=κ k))=l.any fun p=>decide (p.1=k):=by
  rw[List.any_map]
  congr 1
  funext p
  show decide (κ p.1=κ k)=_
  by_cases h:p.1=k
  ·rw[ao h,ao (by rw[h])]
  ·rw[aj h,aj (fun z=>h (hi _ _ z))]
 unfold dput fE
 rw[e]
 split
 ·rw[aB,aB]
  refine bP fun p _=>?_
  show(if κ p.1=κ k then(κ p.1,f v)else(κ p.1,f p.2))=_
  simp only[Function.comp]
  by_cases h:p.1=k
  ·rw[ag h,ag (by rw[h])]
  ·rw[ae h,ae (fun z=>h (hi _ _ z))]
 ·rw[aE];rfl
theorem dropF_k (k:α)(l:List (α×β)):((l.map fun p=>(κ p.1,f p.2)).filter fun p=>decide (p.1≠κ k))=(adrop l k).map fun p=>(κ p.1,f p.2):=by
 unfold adrop
 rw[List.filter_map]
 congr 1
 refine List.filter_congr fun p _=>?_
 show decide (κ p.1≠κ k)=_
 by_cases h:p.1=k
 ·rw[aj (by simp[h]),aj (by simp[h])]
 ·rw[ao (show κ p.1≠κ k from fun z=>h (hi _ _ z)),ao h]
theorem ixF_k {d:D}(k:α)(l:List (α×β))(hd:keyD d=some (κ k)):ixF (l.map fun p=>κ p.1) (l.map fun p=>f p.2) d=some ((du l k).map f):=by
 unfold ixF
 rw[hd]
 show some (dval _ (κ k))=_
 rw[zip_map2,dval_k hi]
theorem ixM_k {d:D}(k:α)(l:List (α×β))(hd:keyD d=some (κ k)){μ:MS}{j:Nat}(h:dicM μ j=some (l.map (fun p=>κ p.1),l.map fun p=>f p.2)):ixM μ j d=some ((du l k).map f):=by
 unfold ixM
 rw[h]
 show(keyD d).map _=_
 rw[hd]
 show some (dval _ (κ k))=_
 rw[zip_map2,dval_k hi]
end
def evF {γ:Type}(gf:Str->List Nat->Int->γ)(gj:γ->γ->Int->γ)(z:γ)(kept:List (Str×Pt)):Nat->Str->γ
 | 0,_=>z
 | f+1,nm=>match du kept nm with
  | some (.fst b a)=>gf nm b a
  | some (.jn l r p)=>gj (evF gf gj z kept f l) (evF gf gj z kept f r) p
  | none=>z
def idxN (kept:List (Str×Pt))(nm:Str):Nat:=(kept.map (·.1)).idxOf nm
structure Kpt (kept:List (Str×Pt)):Prop where
 nd:(kept.map (·.1)).Nodup
 low:∀ nm l r p,du kept nm=some (.jn l r p)->idxN kept l<idxN kept nm/\idxN kept r<idxN kept nm
theorem idx_in {kept:List (Str×Pt)}{nm:Str}:idxN kept nm<kept.length↔nm∈kept.map (·.1):=by
 unfold idxN
 rw[show kept.length=(kept.map (·.1)).length from(fC _).symm]
 exact List.idxOf_lt_length_iff
theorem Kpt.there {kept:List (Str×Pt)}(h:Kpt kept){nm l r:Str}{p:Int}(e:du kept nm=some (.jn l r p)):(∃ x,du kept l=some x)/\∃ x,du kept r=some x:=by
 have hn:idxN kept nm<kept.length:=idx_in.mpr (eS.mp (by rw[e];rfl))
 obtain⟨h1,h2⟩:=h.low nm l r p e
 exact⟨Option.isSome_iff_exists.mp (eS.mpr (idx_in.mp (by omega))),Option.isSome_iff_exists.mp (eS.mpr (idx_in.mp (by omega)))⟩
section
variable {γ:Type}{gf:Str->List Nat->Int->γ}{gj:γ->γ->Int->γ}{z:γ}{kept:List (Str×Pt)}
theorem evF_more (h:Kpt kept):∀(f:Nat) (nm:Str),idxN kept nm<f->f<=kept.length->evF gf gj z kept f nm=evF gf gj z kept kept.length nm:=by
 have key:∀(i f g:Nat) (nm:Str),idxN kept nm=i->i<f->i<g->evF gf gj z kept f nm=evF gf gj z kept g nm:=by
  intro i
  induction i using Nat.strongRecOn with
  | ind i ih =>
   intro f g nm hi hf hg
   obtain⟨f,rfl⟩:∃ f',f=f'+1:=⟨f - 1,by omega⟩
   obtain⟨g,rfl⟩:∃ g',g=g'+1:=⟨g - 1,by omega⟩
   unfold evF
   cases e:du kept nm with
   | none=>rfl
   | some x =>
    cases x with
    | fst b a=>rfl
    | jn l r p =>
     obtain⟨h1,h2⟩:=h.low nm l r p e
     dsimp only
     rw[ih _ (by omega) f g l rfl (by omega) (by omega),ih _ (by omega) f g r rfl (by omega) (by omega)]
 intro f nm h1 h2
 exact key _ f kept.length nm rfl h1 (by omega)
def ev (gf:Str->List Nat->Int->γ)(gj:γ->γ->Int->γ)(z:γ)(kept:List (Str×Pt))(nm:Str):γ:=evF gf gj z kept kept.length nm
theorem ev_fst {nm:Str}{b:List Nat}{a:Int}(e:du kept nm=some (.fst b a)):ev gf gj z kept nm=gf nm b a:=by
 have hn:idxN kept nm<kept.length:=idx_in.mpr (eS.mp (by rw[e];rfl))
 unfold ev
 obtain⟨m,hm⟩:∃ m,kept.length=m+1:=⟨kept.length - 1,by omega⟩
 rw[hm]
 unfold evF
 rw[e]
theorem ev_jn (h:Kpt kept){nm l r:Str}{p:Int}(e:du kept nm=some (.jn l r p)):ev gf gj z kept nm=gj (ev gf gj z kept l) (ev gf gj z kept r) p:=by
 have hn:idxN kept nm<kept.length:=idx_in.mpr (eS.mp (by rw[e];rfl))
 obtain⟨h1,h2⟩:=h.low nm l r p e
 obtain⟨m,hm⟩:∃ m,kept.length=m+1:=⟨kept.length - 1,by omega⟩
 have e1:=evF_more (gf:=gf) (gj:=gj) (z:=z) h m l (by omega) (by omega)
 have e2:=evF_more (gf:=gf) (gj:=gj) (z:=z) h m r (by omega) (by omega)
 have e3:evF gf gj z kept (m+1) nm=gj (evF gf gj z kept m l) (evF gf gj z kept m r) p:=by
  conv=>lhs;unfold evF
  rw[e]
 unfold ev
 rw[<- e1,<- e2,<- e3,<- hm]
theorem ev_ind (h:Kpt kept)(P:Str->Prop)(hf:∀ nm b a,du kept nm=some (.fst b a)->P nm)(hj:∀ nm l r p,du kept nm=some (.jn l r p)->P l->P r->P nm):∀ nm x,du kept nm=some x->P nm:=by
 have key:∀(i:Nat) (nm:Str) (x:Pt),idxN kept nm=i->du kept nm=some x->P nm:=by
  intro i
  induction i using Nat.strongRecOn with
  | ind i ih =>
   intro nm x hi e
   cases x with
   | fst b a=>exact hf nm b a e
   | jn l r p =>
    obtain⟨h1,h2⟩:=h.low nm l r p e
    obtain⟨⟨y,ey⟩,⟨w,ew⟩⟩:=h.there e
    exact hj nm l r p e (ih _ (by omega) l y rfl ey) (ih _ (by omega) r w rfl ew)
 exact fun nm x e=>key _ nm x rfl e
end
def ft (kept:List (Str×Pt))(nm:Str):List Nat×Int:=ev (fun _ b a=>(b,a)) (fun x y p=>(jnT x.1 y.1 p,max x.2 y.2+1)) ([],0) kept nm
def srcOf (kept:List (Str×Pt))(nm:Str):Int->Str×Nat:=ev (fun nm _ _ _=>(nm,0)) (fun x y p bar=>if bar<p then((x bar).1,(x bar).2+1)else((y bar).1,(y bar).2+1)) (fun _=>("",0)) kept nm
def namedB (z:Str):Bool:=decide (1<=z.length)&&decide (z.length<=8)&&z.cps.toList.all fun c=>decide (97<=c)&&decide (c<=122)
def oxB (z:Str):Bool:=z.cps.toList.all fun c=>decide (c=111)||decide (c=120)
def hasN (S:RS)(nm:Str):Bool:=(du S.kept nm).isSome
def isNeed (nm:Str):Pt->Bool
 | .fst _ _=>false
 | .jn l r _=>decide (l=nm)||decide (r=nm)
def needN (S:RS)(nm:Str):Bool:=S.kept.any fun p=>isNeed nm p.2
def newW (S:RS)(nm:Str):Option Nat:=if namedB nm=false then some 4 else if hasN S nm=true then some 9 else if 20<=S.kept.length then some 10 else none
def fv (S:RS)(p:Int):Option Nat:=if 1<=p/\p<S.n then none else some 7
def ageW (a:Int):Option Nat:=if 0<=a/\a<=20 then none else some 5
def refW (S:RS):Dd->Option Nat
 | .put nm b a=>(newW S nm).or (if((b.length:Nat):Int)=S.n/\oxB b=true then ageW a else some 0)
 | .join nm l r p=>(newW S nm).or (if hasN S l=false then some 11 else if hasN S r=false then some 11 else(fv S p).or (if(du S.eX p).isSome=true then some 12 else none))
 | .found nm bar sg=>if hasN S nm=false then some 11 else if 0<=bar/\bar<S.n then(if sg = "o"\/sg = "x" then none else some 0)else some 6
 | .aged nm a=>match du S.kept nm with
  | none=>some 11
  | some (.jn _ _ _)=>some 13
  | some (.fst _ _)=>ageW a
 | .drop nm=>if hasN S nm=false then some 11 else if needN S nm=true then some 14 else none
 | .free p=>fv S p
 | .eX p=>fv S p
def hearB (b:List Nat)(bar:Int)(sg:Str):List Nat:=b.take bar.toNat++(sg.cps.toList++b.drop (bar.toNat+1))
def hear (kept:List (Str×Pt))(nm:Str)(bar:Int)(sg:Str):List (Str×Pt):=match du kept nm with
 | some (.fst b a)=>fE kept nm (.fst (hearB b bar sg) a)
 | _=>kept
def doD (S:RS):Dd->RS
 | .put nm b a=>{ S with kept:=fE S.kept nm (.fst b.cps.toList a)}
 | .join nm l r p=>{ S with kept:=fE S.kept nm (.jn l r p)}
 | .found nm bar sg=>{ S with kept:=hear S.kept (srcOf S.kept nm bar).1 bar sg}
 | .aged nm a=>match du S.kept nm with
  | some (.fst b _)=>{ S with kept:=fE S.kept nm (.fst b a)}
  | _=>S
 | .drop nm=>{ S with kept:=adrop S.kept nm}
 | .free p=>{ S with eX:=adrop S.eX p}
 | .eX p=>{ S with eX:=fE S.eX p ()}
structure RWf (S:RS)(m:Nat):Prop where
 n1:1<=S.n
 n2:S.n<=40
 kp:Kpt S.kept
 few:S.kept.length<=20
 fs:∀ nm b a,du S.kept nm=some (.fst b a)->(b.length:Int)=S.n/\OX b/\0<=a/\a<=20
 js:∀ nm l r p,du S.kept nm=some (.jn l r p)->1<=p/\p<S.n
 nms:∀ p∈S.kept,namedB p.1=true
 shl:S.eX.length<=m
 shn:(S.eX.map (·.1)).Nodup
theorem idx_app {l:List (Str×Pt)}{x:Str×Pt}{nm:Str}(h:nm∈l.map (·.1)):idxN (l++[x]) nm=idxN l nm:=by
 unfold idxN
 rw[aE,b7,ag h]
theorem idx_new {l:List (Str×Pt)}{x:Str×Pt}(h:x.1∉l.map (·.1)):idxN (l++[x]) x.1=l.length:=by
 unfold idxN
 rw[aE,b7,ae h,ai,bx,show(x.1==x.1)=true from cc _,fC]
 simp
theorem idx_filter {p:Str->Bool}{a b:Str}:∀ {l:List Str},p a=true->p b=true->l.idxOf a<l.idxOf b->(l.filter p).idxOf a<(l.filter p).idxOf b
 | [],_,_,h=>by simp at h
 | x::t,ha,hb,h=>by
  by_cases e1:x=a
  ·subst e1
   have e2:¬ x=b:=fun e2=>by subst e2;exact absurd h (bo _)
   rw[a8,ag ha,bx,bx,show(x==x)=true from cc _,show(x==b)=false from cM e2]
   simp
  ·have e2:¬ x=b:=fun e2=>by
    subst e2
    rw[bx,bx,show(x==x)=true from cc _]at h
    simp at h
   rw[bx,bx,show(x==a)=false from cM e1,show(x==b)=false from cM e2]at h
   have h':t.idxOf a<t.idxOf b:=by simpa using h
   have ih:=idx_filter ha hb h'
   rw[a8]
   split
   ·rw[bx,bx,show(x==a)=false from cM e1,show(x==b)=false from cM e2]
    simpa using ih
   ·exact ih
theorem Kpt.push {l:List (Str×Pt)}(h:Kpt l){nm:Str}{x:Pt}(hn:nm∉l.map (·.1))(hx:∀ a b p,x=.jn a b p->a∈l.map (·.1)/\b∈l.map (·.1)):Kpt (l++[(nm,x)]):=by
 refine⟨?_,fun z a b p e=>?_⟩
 ·rw[aE,bC]
  exact⟨h.nd,by simp,fun a ha b hb e=>by rw[ai,List.map_nil,List.mem_singleton]at hb;have hb:b=nm:=hb;exact hn (by rw[<- hb,<- e];exact ha)⟩
 ·rw[aget_app]at e
  cases q:du l z with
  | some y =>
   rw[q]at e
   cases e
   obtain⟨h1,h2⟩:=h.low z a b p q
   have hz:=eS.mp (show(du l z).isSome=true by rw[q];rfl)
   obtain⟨⟨y1,e1⟩,⟨y2,e2⟩⟩:=h.there q
   rw[idx_app hz,idx_app (eS.mp (by rw[e1];rfl)),idx_app (eS.mp (by rw[e2];rfl))]
   exact⟨h1,h2⟩
  | none =>
   rw[q]at e
   have e':du [(nm,x)] z=some (.jn a b p):=e
   rw[eU]at e'
   split at e'
   ·rename_i y
    have y:nm=z:=y
    subst y
    have e3:x=.jn a b p:=aJ e'
    obtain⟨h1,h2⟩:=hx a b p e3
    have en:=idx_new (x:=(nm,x)) hn
    rw[show idxN (l++[(nm,x)]) nm=l.length from en,idx_app h1,idx_app h2]
    exact⟨idx_in.mpr h1,idx_in.mpr h2⟩
   ·cases e'
theorem Kpt.same {l l':List (Str×Pt)}(h:Kpt l)(hk:l'.map (·.1)=l.map (·.1))(hx:∀ z a b p,du l' z=some (.jn a b p)->du l z=some (.jn a b p)):Kpt l':=by
 refine⟨by rw[hk];exact h.nd,fun z a b p e=>?_⟩
 unfold idxN
 rw[hk]
 exact h.low z a b p (hx z a b p e)
theorem Kpt.drop {l:List (Str×Pt)}(h:Kpt l){nm:Str}(hx:∀ z a b p,du l z=some (.jn a b p)->a≠nm/\b≠nm):Kpt (adrop l nm):=by
 have hk:(adrop l nm).map (·.1)=(l.map (·.1)).filter fun z=>decide (z≠nm):=by
  unfold adrop
  rw[List.filter_map]
  rfl
 refine⟨by rw[hk];exact h.nd.sublist (List.filter_sublist),fun z a b p e=>?_⟩
 have hz:z≠nm:=fun y=>by
  subst y
  have:=aget_mem e
  unfold adrop at this
  rw[List.mem_filter]at this
  simpa using this.2
 rw[aget_drop hz]at e
 obtain⟨h1,h2⟩:=h.low z a b p e
 obtain⟨n1,n2⟩:=hx z a b p e
 unfold idxN at h1 h2 ⊢
 rw[hk]
 exact⟨idx_filter (ao n1) (ao hz) h1,idx_filter (ao n2) (ao hz) h2⟩
theorem aput_new {α β:Type}[DecidableEq α]{l:List (α×β)}{k:α}{v:β}(h:du l k=none):fE l k v=l++[(k,v)]:=by
 unfold fE
 rw[ae]
 rw[aget_any,h]
 exact aA
theorem aput_len {α β:Type}[DecidableEq α]{l:List (α×β)}{k:α}{v:β}:(fE l k v).length<=l.length+1:=by
 unfold fE
 split
 ·rw[fC];omega
 ·rw[gxE,aO];exact aa _
theorem aput_old {α β:Type}[DecidableEq α]{l:List (α×β)}{k:α}{v x:β}(h:du l k=some x):(fE l k v).map (·.1)=l.map (·.1)/\(fE l k v).length=l.length:=by
 have:k∈l.map (·.1):=eS.mp (by rw[h];rfl)
 have e:=aput_keys (l:=l) (k:=k) (v:=v)
 rw[ag this]at e
 exact⟨e,by have:=bD List.length e;rwa [fC,fC]at this⟩
theorem hasN_no {S:RS}{nm:Str}(h:hasN S nm=false):du S.kept nm=none:=by
 unfold hasN at h
 cases e:du S.kept nm with
 | none=>rfl
 | some x=>rw[e]at h;cases h
theorem hasN_yes {S:RS}{nm:Str}(h:¬ hasN S nm=false):∃ x,du S.kept nm=some x:=by
 unfold hasN at h
 cases e:du S.kept nm with
 | none=>rw[e]at h;exact absurd rfl h
 | some x=>exact⟨x,rfl⟩
theorem newW_none {S:RS}{nm:Str}(h:newW S nm=none):namedB nm=true/\du S.kept nm=none/\S.kept.length<20:=by
 unfold newW at h
 split at h
 ·cases h
 ·rename_i h1
  split at h
  ·cases h
  ·rename_i h2
   split at h
   ·cases h
   ·rename_i h3
    exact⟨by cases e:namedB nm with | true=>rfl | false=>exact absurd e h1,hasN_no (by cases e:hasN S nm with | false=>rfl | true=>exact absurd e h2),by omega⟩
theorem or_none {α:Type}{a b:Option α}(h:a.or b=none):a=none/\b=none:=by
 cases a with
 | none=>exact⟨rfl,h⟩
 | some x=>cases h
theorem placeW_none {S:RS}{p:Int}(h:fv S p=none):1<=p/\p<S.n:=by
 unfold fv at h
 split at h
 ·assumption
 ·cases h
theorem ageW_none {a:Int}(h:ageW a=none):0<=a/\a<=20:=by
 unfold ageW at h
 split at h
 ·assumption
 ·cases h
theorem oxB_ox {z:Str}(h:oxB z=true):OX z.cps.toList:=fun c hc=>by
 have:=List.all_eq_true.mp h c hc
 rcases Bool.or_eq_true_iff.mp this with q | q
 ·exact .inl (bB q)
 ·exact .inr (bB q)
theorem src_fst {kept:List (Str×Pt)}(h:Kpt kept)(bar:Int):∀ nm x,du kept nm=some x->∃ b a,du kept (srcOf kept nm bar).1=some (.fst b a):=by
 refine ev_ind h (fun nm=>∃ b a,du kept (srcOf kept nm bar).1=some (.fst b a)) (fun nm b a e=>?_) (fun nm l r p e h1 h2=>?_)
 ·unfold srcOf;rw[ev_fst e];exact⟨b,a,e⟩
 ·unfold srcOf
  rw[ev_jn h e]
  show ∃ b a,du kept (if bar<p then _ else _:Str×Nat).1=_
  split
  ·exact h1
  ·exact h2
theorem hearB_len {b:List Nat}{bar n:Int}{sg:Str}(hb:(b.length:Int)=n)(h0:0<=bar)(h1:bar<n)(hs:sg.cps.toList.length=1):((hearB b bar sg).length:Int)=n:=by
 unfold hearB
 rw[gxE,gxE,aM,cj,hs]
 omega
theorem hearB_ox {b:List Nat}{bar:Int}{sg:Str}(hb:OX b)(hs:OX sg.cps.toList):OX (hearB b bar sg):=fun c hc=>by
 unfold hearB at hc
 rcases List.mem_append.mp hc with q | q
 ·exact hb c (aN q)
 ·rcases List.mem_append.mp q with q | q
  ·exact hs c q
  ·exact hb c (List.mem_of_mem_drop q)
theorem sgn_ox {sg:Str}(h:sg = "o"\/sg = "x"):OX sg.cps.toList/\sg.cps.toList.length=1:=by
 rcases h with rfl | rfl
 ·exact⟨OX.of (by decide +kernel),rfl⟩
 ·exact⟨OX.of (by decide +kernel),rfl⟩
theorem RWf.again {S:RS}{m:Nat}(h:RWf S m){nm:Str}{b b':List Nat}{a a':Int}(e:du S.kept nm=some (.fst b a))(hb:(b'.length:Int)=S.n)(ho:OX b')(h0:0<=a')(h1:a'<=20):RWf { S with kept:=fE S.kept nm (.fst b' a')} (m+1):=by
 obtain⟨k1,k2⟩:=aput_old (v:=Pt.fst b' a') e
 refine⟨h.n1,h.n2,h.kp.same k1 fun z a b p q=>?_,by show(fE _ _ _).length<=20;rw[k2];exact h.few,fun z b a q=>?_,fun z l r p q=>?_,fun p hp=>?_,bO h.shl,h.shn⟩
 ·rw[aget_put]at q;split at q
  ·cases q
  ·exact q
 ·have q:du (fE S.kept nm (.fst b' a')) z=some (.fst b a):=q
  rw[aget_put]at q;split at q
  ·cases q;exact⟨hb,ho,h0,h1⟩
  ·exact h.fs z b a q
 ·have q:du (fE S.kept nm (.fst b' a')) z=some (.jn l r p):=q
  rw[aget_put]at q;split at q
  ·cases q
  ·exact h.js z l r p q
 ·have:p.1∈(fE S.kept nm (.fst b' a')).map (·.1):=List.mem_map.mpr ⟨p,hp,rfl⟩
  rw[k1]at this
  obtain⟨q,hq,e2⟩:=List.mem_map.mp this
  rw[<- e2];exact h.nms q hq
theorem RWf.more {S:RS}{m:Nat}(h:RWf S m){nm:Str}{x:Pt}(hn:newW S nm=none)(hx:∀ a b p,x=.jn a b p->(∃ y,du S.kept a=some y)/\(∃ y,du S.kept b=some y)/\1<=p/\p<S.n)(hf:∀ b a,x=.fst b a->(b.length:Int)=S.n/\OX b/\0<=a/\a<=20):RWf { S with kept:=fE S.kept nm x} (m+1):=by
 obtain⟨n1,n2,n3⟩:=newW_none hn
 have e:=aput_new (v:=x) n2
 rw[e]
 have nin:nm∉S.kept.map (·.1):=fun z=>by have:=eS.mpr z;rw[n2]at this;cases this
 have get:∀ z y,du (S.kept++[(nm,x)]) z=some y->du S.kept z=some y\/(z=nm/\y=x):=fun z y q=>by
  rw[<- e,aget_put]at q
  split at q
  ·rename_i w;exact .inr ⟨w,(aJ q).symm⟩
  ·exact .inl q
 refine⟨h.n1,h.n2,h.kp.push nin fun a b p q=>?_,by show(S.kept++[(nm,x)]).length<=20;rw[gxE,aO];omega,fun z b a q=>?_,fun z l r p q=>?_,fun p hp=>?_,bO h.shl,h.shn⟩
 ·obtain⟨⟨y,e1⟩,⟨w,e2⟩,_⟩:=hx a b p q
  exact⟨eS.mp (by rw[e1];rfl),eS.mp (by rw[e2];rfl)⟩
 ·rcases get z _ q with q | ⟨_,q⟩
  ·exact h.fs z b a q
  ·exact hf b a q.symm
 ·rcases get z _ q with q | ⟨_,q⟩
  ·exact h.js z l r p q
  ·exact(hx l r p q.symm).2.2
 ·rcases List.mem_append.mp hp with q | q
  ·exact h.nms p q
  ·rw[List.mem_singleton.mp q];exact n1
theorem RWf.do {S:RS}{m:Nat}{d:Dd}(h:RWf S m)(hr:refW S d=none):RWf (doD S d) (m+1):=by
 cases d with
 | put nm b a =>
  obtain⟨h1,h2⟩:=or_none hr
  split at h2
  ·rename_i q
   obtain⟨a0,a1⟩:=ageW_none h2
   exact h.more h1 (fun _ _ _ e=>by cases e) fun b' a' e=>by cases e;exact⟨q.1,oxB_ox q.2,a0,a1⟩
  ·cases h2
 | join nm l r p =>
  obtain⟨h1,h2⟩:=or_none hr
  split at h2
  ·cases h2
  ·rename_i q1
   split at h2
   ·cases h2
   ·rename_i q2
    obtain⟨h3,_⟩:=or_none h2
    obtain⟨p1,p2⟩:=placeW_none h3
    exact h.more h1 (fun a b p' e=>by cases e;exact⟨hasN_yes q1,hasN_yes q2,p1,p2⟩) fun _ _ e=>by cases e
 | found nm bar sg =>
  have hr:(if hasN S nm=false then some 11 else if 0<=bar/\bar<S.n then(if sg = "o"\/sg = "x" then none else some 0)else some 6)=(none:Option Nat):=hr
  split at hr
  ·cases hr
  ·rename_i q1
   split at hr
   ·rename_i q2
    split at hr
    ·rename_i q3
     obtain⟨x,ex⟩:=hasN_yes q1
     obtain⟨b,a,e⟩:=src_fst h.kp bar nm x ex
     obtain⟨f1,f2,f3,f4⟩:=h.fs _ b a e
     obtain⟨o1,o2⟩:=sgn_ox q3
     have:=h.again e (hearB_len f1 q2.1 q2.2 o2) (hearB_ox (bar:=bar) f2 o1) f3 f4
     unfold doD hear
     dsimp only
     rw[e]
     exact this
    ·cases hr
   ·cases hr
 | aged nm a =>
  have hr:(match du S.kept nm with | none=>some 11 | some (.jn _ _ _)=>some 13 | some (.fst _ _)=>ageW a)=(none:Option Nat):=hr
  show RWf (match du S.kept nm with | some (.fst b _)=>{ S with kept:=fE S.kept nm (.fst b a)} | _=>S) _
  cases e:du S.kept nm with
  | none=>rw[e]at hr;cases hr
  | some x =>
   rw[e]at hr
   cases x with
   | jn l r p=>cases hr
   | fst b a0 =>
    obtain⟨a1,a2⟩:=ageW_none hr
    obtain⟨f1,f2,_⟩:=h.fs nm b a0 e
    exact h.again e f1 f2 a1 a2
 | drop nm =>
  have hr:(if hasN S nm=false then some 11 else if needN S nm=true then some 14 else none)=(none:Option Nat):=hr
  split at hr
  ·cases hr
  ·split at hr
   ·cases hr
   ·rename_i q
    have hx:∀ z a b p,du S.kept z=some (.jn a b p)->a≠nm/\b≠nm:=fun z a b p e=>by
     have nq:¬ isNeed nm (.jn a b p)=true:=fun y=>q (List.any_eq_true.mpr ⟨_,aget_mem e,y⟩)
     exact⟨fun y=>nq (by show(decide (a=nm)||decide (b=nm))=true;rw[ao y];rfl),fun y=>nq (by show(decide (a=nm)||decide (b=nm))=true;rw[ao y,Bool.or_true])⟩
    have get:∀ z y,du (adrop S.kept nm) z=some y->du S.kept z=some y:=fun z y e=>by
     by_cases hz:z=nm
     ·subst hz
      have:=aget_mem e
      unfold adrop at this
      rw[List.mem_filter]at this
      exact absurd this.2 (by simp)
     ·rw[aget_drop hz]at e;exact e
    refine⟨h.n1,h.n2,h.kp.drop hx,aw (bX _ _) h.few,fun z b a e=>h.fs z b a (get z _ e),fun z l r p e=>h.js z l r p (get z _ e),fun p hp=>h.nms p (List.mem_filter.mp hp).1,bO h.shl,h.shn⟩
 | free p=>exact⟨h.n1,h.n2,h.kp,h.few,h.fs,h.js,h.nms,bO (aw (bX _ _) h.shl),h.shn.sublist (List.Sublist.map _ List.filter_sublist)⟩
 | eX p=>exact⟨h.n1,h.n2,h.kp,h.few,h.fs,h.js,h.nms,aw aput_len (Nat.succ_le_succ h.shl),by
  show((fE S.eX p ()).map (·.1)).Nodup
  rw[aput_keys]
  split
  ·exact h.shn
  ·rename_i q
   rw[bC]
   exact⟨h.shn,by simp,fun a ha b hb e=>q (by rw[<- List.mem_singleton.mp hb,<- e];exact ha)⟩⟩
def ptD:Pt->D
 | .fst _ _=>.fB
 | .jn l r p=>.tup [.str l,.str r,.int p]
def fstOf:Str×Pt->Option (Str×Tk)
 | (nm,.fst b a)=>some (nm,(b,a))
 | (_,.jn _ _ _)=>none
def dU (kept:List (Str×Pt)):List (Str×Tk):=kept.filterMap fstOf
def shD (sh:List (Int×Unit)):D:=dcG ikey (fun _=>.bl true) sh
def sdN:List Str:=["length", "made_of", "firsts", "closed"]
def sdD (cS:Addr)(S:RS):D:=.obj cS sdN [.int S.n,dcG dW ptD S.kept,dcG dW tkD (dU S.kept),shD S.eX]
def ddD:Dd->D
 | .put nm b a=>.tup [.str "put",.str nm,.str b,.int a]
 | .join nm l r p=>.tup [.str "join",.str nm,.str l,.str r,.int p]
 | .found nm bar sg=>.tup [.str "found",.str nm,.int bar,.str sg]
 | .aged nm a=>.tup [.str "aged",.str nm,.int a]
 | .drop nm=>.tup [.str "drop",.str nm]
 | .free p=>.tup [.str "free",.int p]
 | .eX p=>.tup [.str "shut",.int p]
def ddW:Dd->Nat
 | .put _ _ _=>0 | .join _ _ _ _=>1 | .found _ _ _=>2 | .aged _ _=>3 | .drop _=>4 | .free _=>5 | .eX _=>6
def ddOk:Dd->Prop
 | .put nm b _=>nm.length<=1000/\b.length<=1000
 | .join nm _ _ _=>nm.length<=1000
 | _=>True
def orX (cs:List Addr)(K:DK)(Kx:DX)(o:Option Nat)(d:D)(μ:MS):Prop:=match o with
 | some i=>Kx (.ref (cs.getD i 0)) μ
 | none=>K d μ
def fWith:DSp:=fun ds μ K=>match ds with
 | [.fdc ks es,y,v]=>∃(kd:List (Key×D)) (k:Key),ks=kd.map (·.1)/\es=kd.map (·.2)/\kd.length<=100000/\keyD y=some k/\K (.fdc ((dput kd k v).map (·.1)) ((dput kd k v).map (·.2))) μ
 | _=>False
def fWithout:DSp:=fun ds μ K=>match ds with
 | [.fdc ks es,y]=>∃(kd:List (Key×D)) (k:Key),ks=kd.map (·.1)/\es=kd.map (·.2)/\kd.length<=100000/\(kd.map (·.1)).Nodup/\keyD y=some k/\(∀ p∈kd,(∃ i j,p.1=ikey i/\k=ikey j)\/∃ i j,p.1=dW i/\k=dW j)/\K (.fdc ((kd.filter fun p=>decide (p.1≠k)).map (·.1)) ((kd.filter fun p=>decide (p.1≠k)).map (·.2))) μ
 | _=>False
def fIsBars:DSp:=fun ds μ K=>match ds with
 | [.int n,.str z]=>z.length<=1000/\K (.bl (decide (((z.length:Nat):Int)=n/\oxB z=true))) μ
 | _=>False
def fThere (cS:Addr)(cs:List Addr):DSpX:=fun ds μ K Kx=>match ds with
 | [x,.str nm]=>(∃ m,μ[0]?=some m)/\∃ S,x=sdD cS S/\(match du S.kept nm with | some _=>K .fB μ | none=>Kx (.ref (cs.getD 11 0)) μ)
 | _=>False
theorem fThere_len {cS:Addr}{cs:List Addr}{ds:List D}{μ:MS}{K:DK}{Kx:DX}(h:fThere cS cs ds μ K Kx):ds.length=2/\∃ m,μ[0]?=some m:=by
 unfold fThere at h
 split at h
 ·exact⟨rfl,h.1⟩
 ·exact h.elim
def fPartsS (cS:Addr)(cs:List Addr):DSpX:=fun ds μ K Kx=>match ds with
 | [x,.str nm]=>(∃ m,μ[0]?=some m)/\∃ S,x=sdD cS S/\(match du S.kept nm with | some y=>K (ptD y) μ | none=>Kx (.ref (cs.getD 11 0)) μ)
 | _=>False
theorem fPartsS_len {cS:Addr}{cs:List Addr}{ds:List D}{μ:MS}{K:DK}{Kx:DX}(h:fPartsS cS cs ds μ K Kx):ds.length=2/\∃ m,μ[0]?=some m:=by
 unfold fPartsS at h
 split at h
 ·exact⟨rfl,h.1⟩
 ·exact h.elim
def srcD (p:Str×Nat):D:=.tup [.str p.1,.int p.2]
def fSourceS (cS:Addr)(cs:List Addr):DSpX:=fun ds μ K Kx=>match ds with
 | [x,.str nm,.int bar]=>(∃ m,μ[0]?=some m)/\∃ S,x=sdD cS S/\Kpt S.kept/\(match du S.kept nm with | some _=>(if 0<=bar/\bar<S.n then K (srcD (srcOf S.kept nm bar)) μ else Kx (.ref (cs.getD 6 0)) μ) | none=>Kx (.ref (cs.getD 11 0)) μ)
 | _=>False
theorem fSourceS_len {cS:Addr}{cs:List Addr}{ds:List D}{μ:MS}{K:DK}{Kx:DX}(h:fSourceS cS cs ds μ K Kx):ds.length=3/\∃ m,μ[0]?=some m:=by
 unfold fSourceS at h
 split at h
 ·exact⟨rfl,h.1⟩
 ·exact h.elim
def tkAll (kept:List (Str×Pt)):List (Str×Tk):=kept.map fun p=>(p.1,ft kept p.1)
def fByNames (cS:Addr):DSp:=fun ds μ K=>match ds with
 | [x]=>∃ S m,x=sdD cS S/\RWf S m/\K (dcG dW tkD (tkAll S.kept)) μ
 | _=>False
def fTakeS (cS:Addr)(cs:List Addr):DSpX:=fun ds μ K Kx=>match ds with
 | [x,.str nm]=>(∃ m,μ[0]?=some m)/\∃ S m,x=sdD cS S/\RWf S m/\(match du S.kept nm with | some _=>K (tkD (ft S.kept nm)) μ | none=>Kx (.ref (cs.getD 11 0)) μ)
 | _=>False
theorem fTakeS_len {cS:Addr}{cs:List Addr}{ds:List D}{μ:MS}{K:DK}{Kx:DX}(h:fTakeS cS cs ds μ K Kx):ds.length=2/\∃ m,μ[0]?=some m:=by
 unfold fTakeS at h
 split at h
 ·exact⟨rfl,h.1⟩
 ·exact h.elim
def openP (S:RS):List Int:=((List.range (S.n - 1).toNat).map fun i=>1+((i:Nat):Int)).filter fun p=>!(du S.eX p).isSome
def takesR (S:RS):List Tk:=S.kept.map fun p=>ft S.kept p.1
def fShelfS (cS:Addr):DSp:=fun ds μ K=>match ds with
 | [x]=>∃ S m,x=sdD cS S/\RWf S m/\K (.tup [.int S.n,.lst ((openP S).map D.int),.lst ((takesR S).map tkD)]) μ
 | _=>False
def fStInit (cS:Addr):DSp:=fun ds μ K=>match ds with
 | [.mr k,.int n,a,b,c]=>μ[k]?=some (.ins cS [] [])/\K .fB (μ.set k (.ins cS sdN [.int n,a,b,c]))
 | _=>False
def fDeed1 (cS:Addr)(cs:List Addr)(w:Nat):DSpX:=fun ds μ K Kx=>match ds with
 | [x,y]=>(∃ m,μ[0]?=some m)/\∃ S d m,x=sdD cS S/\y=ddD d/\ddW d=w/\RWf S m/\m<=1000/\ddOk d/\orX cs K Kx (refW S d) (sdD cS (doD S d)) μ
 | _=>False
theorem fDeed1_len {cS:Addr}{cs:List Addr}{w:Nat}{ds:List D}{μ:MS}{K:DK}{Kx:DX}(h:fDeed1 cS cs w ds μ K Kx):ds.length=2/\∃ m,μ[0]?=some m:=by
 unfold fDeed1 at h
 split at h
 ·exact⟨rfl,h.1⟩
 ·exact h.elim
def fBehindS (cS:Addr)(cs:List Addr):DSpX:=fun ds μ K Kx=>match ds with
 | [x,y]=>(∃ m,μ[0]?=some m)/\∃ S d m,x=sdD cS S/\y=ddD d/\RWf S m/\m<=1000/\ddOk d/\orX cs K Kx (refW S d) (sdD cS (doD S d)) μ
 | _=>False
theorem fBehindS_len {cS:Addr}{cs:List Addr}{ds:List D}{μ:MS}{K:DK}{Kx:DX}(h:fBehindS cS cs ds μ K Kx):ds.length=2/\∃ m,μ[0]?=some m:=by
 unfold fBehindS at h
 split at h
 ·exact⟨rfl,h.1⟩
 ·exact h.elim
def fNew (cS:Addr)(cs:List Addr):DSpX:=fun ds μ K Kx=>match ds with
 | [x,.str nm]=>(∃ m,μ[0]?=some m)/\nm.length<=1000/\∃ S,x=sdD cS S/\orX cs K Kx (newW S nm) .fB μ
 | _=>False
theorem fNew_len {cS:Addr}{cs:List Addr}{ds:List D}{μ:MS}{K:DK}{Kx:DX}(h:fNew cS cs ds μ K Kx):ds.length=2/\∃ m,μ[0]?=some m:=by
 unfold fNew at h
 split at h
 ·exact⟨rfl,h.1⟩
 ·exact h.elim
def fAgeC (cs:List Addr):DSpX:=fun ds μ K Kx=>match ds with
 | [.int a]=>(∃ m,μ[0]?=some m)/\orX cs K Kx (ageW a) .fB μ
 | _=>False
theorem fAgeC_len {cs:List Addr}{ds:List D}{μ:MS}{K:DK}{Kx:DX}(h:fAgeC cs ds μ K Kx):ds.length=1/\∃ m,μ[0]?=some m:=by
 unfold fAgeC at h
 split at h
 ·exact⟨rfl,h.1⟩
 ·exact h.elim
def fPlaceC (cS:Addr)(cs:List Addr):DSpX:=fun ds μ K Kx=>match ds with
 | [x,.int p]=>(∃ m,μ[0]?=some m)/\∃ S,x=sdD cS S/\orX cs K Kx (fv S p) .fB μ
 | _=>False
theorem fPlaceC_len {cS:Addr}{cs:List Addr}{ds:List D}{μ:MS}{K:DK}{Kx:DX}(h:fPlaceC cS cs ds μ K Kx):ds.length=2/\∃ m,μ[0]?=some m:=by
 unfold fPlaceC at h
 split at h
 ·exact⟨rfl,h.1⟩
 ·exact h.elim
theorem calv_nil {P:Program}{w:World}{K:PySem.W.Frag}{mg:Str->Option Value}{base:Heap}{k:Nat}{ps:List Str}:CalV P w K mg base [] k ps:=⟨fun _ h=>nomatch h⟩
theorem calv_cons {P:Program}{w:World}{K:PySem.W.Frag}{mg:Str->Option Value}{base:Heap}{x:Str}{k:Nat}{ps:List Str}{f:DSpX}{a:Addr}{T:List (Addr×DSpX)}(C:CalX P w K mg base x k ps (spX f))(hm:mg x=some (.ref a))(R:CalV P w K mg base T k ps):CalV P w K mg base ((a,f)::T) k ps:=⟨fun p hp=>by
 rcases List.mem_cons.mp hp with rfl | q
 ·obtain⟨f',fd,F,hm',hk,hb⟩:=C.ex
  rw[hm]at hm'
  cases hm'
  exact⟨fd,F,hk,hb⟩
 ·exact R.ex p q⟩
theorem fb {μ:MS}{x:MO}:(μ++[x])[μ.length]?=some x:=by rw[gxG (aa _),aQ];rfl
theorem end_dic {μ:MS}{ks:List Key}{ds:List D}:dicM (μ++[.dic ks ds]) μ.length=some (ks,ds):=by unfold dicM;rw[fb]
theorem mrL_mem {n:Nat}:∀ {ds:List D} {d:D},mrL n ds->d∈ds->mrB n d
 | _::_,d,h,hd=>by
  rcases List.mem_cons.mp hd with rfl | q
  ·exact h.1
  ·exact mrL_mem h.2 q
theorem dput_mem {kd:List (Key×D)}{k:Key}{v d:D}(h:d∈(dput kd k v).map (·.2)):d∈kd.map (·.2)\/d=v:=by
 unfold dput at h
 split at h
 ·rw[aB]at h
  obtain⟨p,hp,rfl⟩:=List.mem_map.mp h
  simp only[Function.comp]
  split
  ·exact .inr rfl
  ·exact .inl (List.mem_map.mpr ⟨p,hp,rfl⟩)
 ·rw[aE]at h
  rcases List.mem_append.mp h with q | q
  ·exact .inl q
  ·exact .inr (List.mem_singleton.mp q)
theorem mr_dput {n:Nat}{kd:List (Key×D)}{k:Key}{v:D}(h:mrL n (kd.map (·.2)))(hv:mrB n v):mrL n ((dput kd k v).map (·.2)):=mr_all fun d hd=>by
 rcases dput_mem hd with q | q
 ·exact mrL_mem h q
 ·rw[q];exact hv
theorem dput_new {kd:List (Key×D)}{k:Key}{v:D}(h:k∉kd.map (·.1)):dput kd k v=kd++[(k,v)]:=by
 unfold dput
 rw[ae]
 intro z
 obtain⟨p,hp,e⟩:=List.any_eq_true.mp z
 exact h (List.mem_map.mpr ⟨p,hp,bB e⟩)
theorem items_map {kd:List (Key×D)}:List.zipWith (fun k d=>D.tup [keyV k,d]) (kd.map (·.1)) (kd.map (·.2))=kd.map fun p=>D.tup [keyV p.1,p.2]:=by
 induction kd with
 | nil=>rfl
 | cons p kd ih=>rw[ai,ai,List.zipWith_cons_cons,ih];rfl
theorem dcompX_filter {it:D->MS->(Option (Key×D)->MS->Prop)->Prop}{μ:MS}(t:Key×D->Bool):∀(kd acc:List (Key×D)) (K:List (Key×D)->Prop),((acc++kd).map (·.1)).Nodup ->
 (∀ p∈kd,∀(μ':MS) (K':Option (Key×D)->MS->Prop),K' (if t p=true then some p else none) μ'->it (.tup [keyV p.1,p.2]) μ' K')->K (acc++kd.filter t)->dcompX it (fun _=>True) μ (kd.map fun p=>D.tup [keyV p.1,p.2]) acc K
 | [],acc,K,_,_,k=>by rw[List.filter_nil,aP]at k;exact⟨trivial,k⟩
 | p::kd,acc,K,nd,h,k=>by
  refine⟨trivial,h p av _ _ ⟨rfl,?_⟩⟩
  rw[a8]at k
  have nd2:((acc++kd).map (·.1)).Nodup:=nd.sublist (List.Sublist.map _ (List.Sublist.append_left (List.sublist_cons_self _ _) _))
  by_cases q:t p=true
  ·rw[ag q]at k ⊢
   have hn:p.1∉acc.map (·.1):=fun z=>by
    rw[aE,bC]at nd
    exact nd.2.2 p.1 z p.1 (List.mem_map.mpr ⟨p,av,rfl⟩) rfl
   show dcompX it _ μ _ (dput acc p.1 p.2) K
   rw[dput_new hn]
   exact dcompX_filter t kd (acc++[p]) K (by rw[aH];exact nd) (fun p' hp'=>h p' (gxI _ hp')) (by rw[aH];exact k)
  ·rw[ae q]at k ⊢
   exact dcompX_filter t kd acc K nd2 (fun p' hp'=>h p' (gxI _ hp')) k
theorem cnt_ox:∀ l:List Nat,l.count 111+l.count 120=l.length↔(l.all fun c=>decide (c=111)||decide (c=120))=true
 | []=>by simp
 | c::l=>by
  have ih:=cnt_ox l
  have le:l.count 111+l.count 120<=l.length:=by
   clear ih
   induction l with
   | nil=>simp
   | cons d l ih2 =>
    rw[cO,cO,aG]
    by_cases e1:d=111
    ·subst e1;simp;omega
    ·by_cases e2:d=120
     ·subst e2;simp;omega
     ·rw[ae (by simpa using e1),ae (by simpa using e2)];omega
  rw[cO,cO,aG,cJ]
  by_cases e1:c=111
  ·subst e1
   rw[Bool.and_eq_true_iff,<- ih]
   simp
   omega
  ·by_cases e2:c=120
   ·subst e2
    rw[Bool.and_eq_true_iff,<- ih]
    simp
    omega
   ·rw[ae (by simpa using e1),ae (by simpa using e2),aj e1,aj e2]
    simp
    omega
theorem firsts_cons (p:Str×Pt)(l:List (Str×Pt)):dU (p::l)=match fstOf p with | some q=>q::dU l | none=>dU l:=by
 unfold dU
 rw[bR]
 cases fstOf p <;> rfl
theorem firsts_get {l:List (Str×Pt)}{nm:Str}(nd:(l.map (·.1)).Nodup):du (dU l) nm=match du l nm with | some (.fst b a)=>some (b,a) | _=>none:=by
 induction l with
 | nil=>rfl
 | cons p l ih =>
  obtain⟨z,x⟩:=p
  rw[ai,List.nodup_cons]at nd
  have ih:=ih nd.2
  rw[firsts_cons,eU]
  by_cases e:z=nm
  ·rw[ag e]
   have hn:du l nm=none:=by
    cases q:du l nm with
    | none=>rfl
    | some y=>exact absurd (eS.mp (show(du l nm).isSome=true by rw[q];rfl)) (by rw[<- e];exact nd.1)
   cases x with
   | fst b a=>show du ((z,(b,a))::dU l) nm=_;rw[eU,ag e]
   | jn a b p=>show du (dU l) nm=_;rw[ih,hn]
  ·rw[ae e]
   cases x with
   | fst b a=>show du ((z,(b,a))::dU l) nm=_;rw[eU,ae e,ih]
   | jn a b p=>show du (dU l) nm=_;rw[ih]
theorem firsts_sub {l:List (Str×Pt)}:((dU l).map (·.1)).Sublist (l.map (·.1)):=by
 induction l with
 | nil=>exact .slnil
 | cons p l ih =>
  obtain⟨z,x⟩:=p
  rw[firsts_cons]
  cases x with
  | fst b a=>exact ih.cons₂ _
  | jn a b q=>exact ih.cons _
theorem firsts_drop {l:List (Str×Pt)}{nm:Str}:dU (adrop l nm)=adrop (dU l) nm:=by
 unfold adrop
 induction l with
 | nil=>rfl
 | cons p l ih =>
  obtain⟨z,x⟩:=p
  rw[a8,firsts_cons]
  by_cases e:z=nm
  ·rw[ae (by simp[e]),ih]
   cases x with
   | fst b a=>show _=List.filter _ ((z,(b,a))::dU l);rw[a8,ae (by simp[e])]
   | jn a b q=>rfl
  ·rw[ag (by simp[e]),firsts_cons,ih]
   cases x with
   | fst b a=>show _=List.filter _ ((z,(b,a))::dU l);rw[a8,ag (by simp[e])];rfl
   | jn a b q=>rfl
theorem firsts_app {l m:List (Str×Pt)}:dU (l++m)=dU l++dU m:=List.filterMap_append
theorem firsts_jn {l:List (Str×Pt)}{nm a b:Str}{p:Int}(h:du l nm=none):dU (fE l nm (.jn a b p))=dU l:=by
 rw[aput_new h,firsts_app]
 exact aP _
theorem firsts_new {l:List (Str×Pt)}{nm:Str}{b:List Nat}{a:Int}(nd:(l.map (·.1)).Nodup)(h:du l nm=none):dU (fE l nm (.fst b a))=fE (dU l) nm (b,a):=by
 rw[aput_new h,aput_new (by rw[firsts_get nd,h]),firsts_app]
 rfl
theorem aput_nil {α β:Type}[DecidableEq α]{l:List (α×β)}{k:α}{v:β}(h:k∉l.map (·.1)):(l.map fun p=>if p.1=k then(p.1,v)else p)=l:=by
 conv=>rhs;rw[<- List.map_id l]
 refine bP fun p hp=>?_
 rw[ae]
 ·rfl
 ·exact fun e=>h (List.mem_map.mpr ⟨p,hp,e⟩)
theorem firsts_old {l:List (Str×Pt)}{nm:Str}{b b0:List Nat}{a a0:Int}(nd:(l.map (·.1)).Nodup)(h:du l nm=some (.fst b0 a0)):dU (fE l nm (.fst b a))=fE (dU l) nm (b,a):=by
 have h2:du (dU l) nm=some (b0,a0):=by rw[firsts_get nd,h]
 unfold fE
 rw[ag (by rw[aget_any,h];rfl),ag (by rw[aget_any,h2];rfl)]
 clear h2
 induction l with
 | nil=>cases h
 | cons p l ih =>
  obtain⟨z,x⟩:=p
  rw[ai,List.nodup_cons]at nd
  rw[eU]at h
  rw[ai]
  by_cases e:z=nm
  ·subst e
   rw[ag rfl]at h
   cases(show x=.fst b0 a0 from aJ h)
   rw[ag rfl,aput_nil (k:=z) nd.1,firsts_cons,firsts_cons]
   show(z,(b,a))::dU l=List.map _ ((z,(b0,a0))::dU l)
   rw[ai,ag rfl,aput_nil (k:=z) (fun q=>nd.1 (firsts_sub.subset q))]
  ·rw[ae (show ¬ z=nm from e)]at h
   rw[ae (show ¬ (z,x).1=nm from e),firsts_cons,firsts_cons,ih nd.2 h]
   cases x with
   | fst b1 a1=>show _=List.map _ ((z,(b1,a1))::dU l);rw[ai,ae (show ¬ z=nm from e)];rfl
   | jn _ _ _=>rfl
theorem tk_ok {S:RS}{m:Nat}(h:RWf S m):∀ nm x,du S.kept nm=some x->((ft S.kept nm).1.length:Int)=S.n/\OX (ft S.kept nm).1/\0<=(ft S.kept nm).2:=by
 refine ev_ind h.kp (fun nm=>((ft S.kept nm).1.length:Int)=S.n/\OX (ft S.kept nm).1/\0<=(ft S.kept nm).2) (fun nm b a e=>?_) (fun nm l r p e h1 h2=>?_)
 ·unfold ft
  rw[ev_fst e]
  obtain⟨f1,f2,f3,_⟩:=h.fs nm b a e
  exact⟨f1,f2,f3⟩
 ·obtain⟨p1,p2⟩:=h.js nm l r p e
  unfold ft at h1 h2 ⊢
  rw[ev_jn h.kp e]
  obtain⟨a1,a2,a3⟩:=h1
  obtain⟨b1,b2,b3⟩:=h2
  refine⟨?_,jnT_ox a2 b2,?_⟩
  ·have:=jnT_len (l1:=(ev (fun _ b a=>(b,a)) (fun x y p=>(jnT x.1 y.1 p,max x.2 y.2+1)) ([],0) S.kept l:List Nat×Int).1) (l2:=(ev (fun _ b a=>(b,a)) (fun x y p=>(jnT x.1 y.1 p,max x.2 y.2+1)) ([],0) S.kept r:List Nat×Int).1) (p:=p) (by omega) (by omega) (by omega)
   show((jnT _ _ p).length:Int)=_
   rw[this];exact a1
  ·show 0<=max _ _+1
   omega
theorem tk_jn {S:RS}(h:Kpt S.kept){nm l r:Str}{p:Int}(e:du S.kept nm=some (.jn l r p)):ft S.kept nm=joinT (ft S.kept l) (ft S.kept r) p:=by
 unfold ft
 rw[ev_jn h e]
 rfl
theorem tk_fst {kept:List (Str×Pt)}{nm:Str}{b:List Nat}{a:Int}(e:du kept nm=some (.fst b a)):ft kept nm=(b,a):=by
 unfold ft
 rw[ev_fst e]
theorem kd_of {α β:Type}(κ:α->Key)(f:β->D)(l:List (α×β)):(l.map fun p=>κ p.1)=(l.map fun p=>(κ p.1,f p.2)).map (·.1)/\(l.map fun p=>f p.2)=(l.map fun p=>(κ p.1,f p.2)).map (·.2):=by
 rw[aB,aB]
 exact⟨rfl,rfl⟩
theorem src_fstE {kept:List (Str×Pt)}{nm:Str}{b:List Nat}{a bar:Int}(e:du kept nm=some (.fst b a)):srcOf kept nm bar=(nm,0):=by
 unfold srcOf
 rw[ev_fst e]
theorem src_jn {kept:List (Str×Pt)}(h:Kpt kept){nm l r:Str}{p:Int}(e:du kept nm=some (.jn l r p))(bar:Int):srcOf kept nm bar=if bar<p then((srcOf kept l bar).1,(srcOf kept l bar).2+1)else((srcOf kept r bar).1,(srcOf kept r bar).2+1):=by
 unfold srcOf
 rw[ev_jn h e]
theorem mr_g {α β:Type}{n:Nat}{κ:α->Key}{f:β->D}(hf:∀ b,mrB n (f b))(l:List (α×β)):mrL n ((l.map fun p=>(κ p.1,f p.2)).map (·.2)):=mr_all fun d hd=>by
 rw[aB]at hd
 obtain⟨p,_,rfl⟩:=List.mem_map.mp hd
 exact hf _
theorem pt_mr {n:Nat}:∀ x,mrB n (ptD x)
 | .fst _ _=>trivial
 | .jn _ _ _=>⟨trivial,trivial,trivial,trivial⟩
theorem tk_mr {n:Nat}(t:Tk):mrB n (tkD t):=⟨trivial,trivial,trivial⟩
theorem mr_dc {α β:Type}{n:Nat}{κ:α->Key}{f:β->D}(hf:∀ b,mrB n (f b))(l:List (α×β)):mrB n (dcG κ f l):=mr_all fun d hd=>by
 obtain⟨p,_,rfl⟩:=List.mem_map.mp hd
 exact hf _
theorem mr_sh {n:Nat}(l:List (Int×Unit)):mrB n (shD l):=mr_dc (n:=n) (f:=fun _:Unit=>D.bl true) (fun _=>True.intro) l
section
variable {α β:Type}[DecidableEq α]{κ:α->Key}(hi:∀ a b,κ a=κ b->a=b)(f:β->D)
include hi
theorem wput (k:α)(v:β)(l:List (α×β)):D.fdc ((dput (l.map fun p=>(κ p.1,f p.2)) (κ k) (f v)).map (·.1)) ((dput (l.map fun p=>(κ p.1,f p.2)) (κ k) (f v)).map (·.2))=dcG κ f (fE l k v):=by
 rw[dput_k hi f k v l,<- (kd_of κ f _).1,<- (kd_of κ f _).2]
 rfl
theorem wdrop (k:α)(l:List (α×β)):D.fdc (((l.map fun p=>(κ p.1,f p.2)).filter fun p=>decide (p.1≠κ k)).map (·.1)) (((l.map fun p=>(κ p.1,f p.2)).filter fun p=>decide (p.1≠κ k)).map (·.2))=dcG κ f (adrop l k):=by
 rw[dropF_k hi f k l,<- (kd_of κ f _).1,<- (kd_of κ f _).2]
 rfl
theorem kd_nd {l:List (α×β)}(nd:(l.map (·.1)).Nodup):((l.map fun p=>(κ p.1,f p.2)).map (·.1)).Nodup:=by
 rw[aB]
 show(l.map (κ ∘ fun p=>p.1)).Nodup
 rw[<- aB]
 exact nd.map (f:=κ) fun a b h z=>h (hi _ _ z)
end
theorem kd_len {α β:Type}{κ:α->Key}{f:β->D}{l:List (α×β)}:(l.map fun p=>(κ p.1,f p.2)).length=l.length:=fC _
theorem iteNot {c:Prop}[Decidable c]{A B:Prop}(h1:¬ c->A)(h2:c->B):if(!decide c)=true then A else B:=by
 by_cases q:c
 ·rw[ao q];exact h2 q
 ·rw[aj q];exact h1 q
theorem cmp1 {a b:Nat}:decide (([a]:List Nat)<[b])=decide (a<b):=by
 by_cases h:a<b
 ·rw[ao h,ao (show([a]:List Nat)<[b]from List.Lex.rel h)]
 ·rw[aj h,aj]
  intro z
  cases z with
  | rel q=>exact h q
  | cons q=>cases q
theorem nameB_of {nm:Str}(h1:¬ ((nm.length:Nat):Int)<1)(h2:¬ (8:Int)<((nm.length:Nat):Int)):namedB nm=(nm.cps.toList.all fun c=>decide (97<=c)&&decide (c<=122)):=by
 unfold namedB
 rw[ao (show 1<=nm.length by omega),ao (show nm.length<=8 by omega)]
 rfl
theorem open_map (S:RS):(((List.range (S.n - 1).toNat).map fun i=>1+((i:Nat):Int)).filterMap fun p=>if(du S.eX p).isSome=true then none else some (D.int p))=(openP S).map D.int:=by
 unfold openP
 generalize ((List.range (S.n - 1).toNat).map fun i=>1+((i:Nat):Int))=l
 induction l with
 | nil=>rfl
 | cons p l ih =>
  rw[bR,a8]
  cases(du S.eX p).isSome with
  | true=>exact ih
  | false=>show D.int p::_=D.int p::_;rw[ih]
theorem pt_again {l:List (Str×Pt)}{nm:Str}{b b0:List Nat}{a a0:Int}(h:du l nm=some (.fst b0 a0))(nd:(l.map (·.1)).Nodup:=by assumption):dcG dW ptD (fE l nm (.fst b a))=dcG dW ptD l:=by
 unfold dcG
 have k1:=(aput_old (v:=Pt.fst b a) h).1
 have e1:(fE l nm (.fst b a)).map (fun p=>dW p.1)=l.map fun p=>dW p.1:=by
  have:=bD (List.map dW) k1
  rw[aB,aB]at this
  exact this
 rw[e1]
 congr 1
 unfold fE
 rw[ag (by rw[aget_any,h];rfl),aB]
 refine bP fun p hp=>?_
 simp only[Function.comp]
 by_cases e:p.1=nm
 ·rw[ag e]
  have:du l nm=some p.2:=aget_of_mem nd (by rw[<- e];exact hp)
  rw[h]at this
  rw[<- aJ this]
  rfl
 ·rw[ae e]
theorem app_sg {l:List Nat}{sg:Str}:(⟨l.toArray⟩++sg:Str)=⟨(l++sg.cps.toList).toArray⟩:=app_str l sg.cps.toList
theorem iteNn {c1 c2:Prop}[Decidable c1][Decidable c2]{A B:Prop}(hB:c1\/c2->B)(hA:¬ (c1\/c2)->A):if(true != decide c1)=true then(if(true != decide c2)=true then A else B)else B:=by
 by_cases q1:c1
 ·rw[ao q1];exact hB (.inl q1)
 ·by_cases q2:c2
  ·rw[aj q1,ao q2];exact hB (.inr q2)
  ·rw[aj q1,aj q2];exact hA fun z=>z.elim q1 q2
def roN:List Str:=["stands", "rows", "done"]
structure eP (cR cS:Addr)(μ:MS)(k j1 j2:Nat)(ss:List RS)(rs:List Dd)(d:Nat):Prop where
 k0:k≠0
 a0:j1≠0
 b0:j2≠0
 ka:k≠j1
 kb:k≠j2
 ab:j1≠j2
 ins:μ[k]?=some (.ins cR roN [.mr j1,.mr j2,.int (d:Int)])
 l1:μ[j1]?=some (.lst (ss.map (sdD cS)))
 l2:μ[j2]?=some (.lst (rs.map ddD))
 len:ss.length=rs.length+1
 le:d<=rs.length
 wf:∀ i S,ss[i]?=some S->RWf S i
 few:rs.length<=900
def putR (cR cS:Addr)(μ:MS)(k j1 j2:Nat)(ss:List RS)(rs:List Dd)(d:Nat):MS:=((μ.set j1 (.lst (ss.map (sdD cS)))).set j2 (.lst (rs.map ddD))).set k (.ins cR roN [.mr j1,.mr j2,.int (d:Int)])
section
variable {cR cS:Addr}{μ:MS}{k j1 j2:Nat}{ss:List RS}{rs:List Dd}{d:Nat}
theorem eP.lk (h:eP cR cS μ k j1 j2 ss rs d):k<μ.length/\j1<μ.length/\j2<μ.length:=⟨(gxB h.ins).1,(gxB h.l1).1,(gxB h.l2).1⟩
theorem eP.now (h:eP cR cS μ k j1 j2 ss rs d):∃ S,ss[d]?=some S/\RWf S d:=by
 have:d<ss.length:=by have:=h.len;have:=h.le;omega
 exact⟨_,gxA this,h.wf d _ (gxA this)⟩
theorem eP.other (h:eP cR cS μ k j1 j2 ss rs d){i:Nat}{m:MO}(hk:i≠k)(h1:i≠j1)(h2:i≠j2):eP cR cS (μ.set i m) k j1 j2 ss rs d :=
 ⟨h.k0,h.a0,h.b0,h.ka,h.kb,h.ab,by rw[ak hk];exact h.ins,by rw[ak h1];exact h.l1,by rw[ak h2];exact h.l2,h.len,h.le,h.wf,h.few⟩
theorem eP.gx (h:eP cR cS μ k j1 j2 ss rs d){m:MO}:eP cR cS (μ.set 0 m) k j1 j2 ss rs d:=h.other (aZ h.k0) (aZ h.a0) (aZ h.b0)
theorem eP.put (h:eP cR cS μ k j1 j2 ss rs d){ss':List RS}{rs':List Dd}{d':Nat}(len:ss'.length=rs'.length+1)(le:d'<=rs'.length)(wf:∀ i S,ss'[i]?=some S->RWf S i)(few:rs'.length<=900):eP cR cS (putR cR cS μ k j1 j2 ss' rs' d') k j1 j2 ss' rs' d':=by
 obtain⟨a,b,c⟩:=h.lk
 refine⟨h.k0,h.a0,h.b0,h.ka,h.kb,h.ab,?_,?_,?_,len,le,wf,few⟩
 ·unfold putR;rw[az (by rw[aK,aK];exact a)]
 ·unfold putR;rw[ak h.ka,ak (aZ h.ab),az b]
 ·unfold putR;rw[ak h.kb,az (by rw[aK];exact c)]
theorem set_same {μ:MS}{i:Nat}{m:MO}(h:μ[i]?=some m):μ.set i m=μ:=by
 refine List.ext_getElem? fun j=>?_
 by_cases e:i=j
 ·subst e;rw[az (gxB h).1,h]
 ·rw[ak e]
theorem putR_gx (h:eP cR cS μ k j1 j2 ss rs d){m m0:MO}{ss':List RS}{rs':List Dd}{d':Nat}(em:μ[0]?=some m0):(putR cR cS (μ.set 0 m) k j1 j2 ss' rs' d').set 0 m0=putR cR cS μ k j1 j2 ss' rs' d'/\(putR cR cS (μ.set 0 m) k j1 j2 ss' rs' d')[0]?=some m:=by
 have h0:0<μ.length:=(gxB em).1
 unfold putR
 refine⟨?_,?_⟩
 ·rw[cy _ _ h.k0,cy _ _ h.b0,cy _ _ h.a0,c9,set_same em]
 ·rw[ak h.k0,ak h.b0,ak h.a0,az h0]
theorem putR_at {ss':List RS}{rs':List Dd}{d' i:Nat}(hk:i≠k)(h1:i≠j1)(h2:i≠j2):(putR cR cS μ k j1 j2 ss' rs' d')[i]?=μ[i]?:=by
 unfold putR;rw[ak (aZ hk),ak (aZ h2),ak (aZ h1)]
end
section
variable (cR cS:Addr)(cs:List Addr)
def fRoInit:DSpX:=fun ds μ K Kx=>match ds with
 | [.mr k,.int n]=>(∃ m,μ[0]?=some m)/\k≠0/\μ[k]?=some (.ins cR [] [])/\(if 1<=n/\n<=40 then K .fB (μ.set k (.ins cR roN [.mr μ.length,.mr (μ.length+1),.int 0])++[.lst [sdD cS ⟨n,[],[]⟩],.lst []])else Kx (.ref (cs.getD 8 0)) μ)
 | _=>False
def fNow:DSp:=fun ds μ K=>match ds with
 | [.mr k]=>∃ j1 j2 ss rs d S,eP cR cS μ k j1 j2 ss rs d/\ss[d]?=some S/\K (sdD cS S) μ
 | _=>False
def fDeedR:DSpX:=fun ds μ K Kx=>match ds with
 | [.mr k,y]=>(∃ m,μ[0]?=some m)/\∃ j1 j2 ss rs d S e,eP cR cS μ k j1 j2 ss rs d/\ss[d]?=some S/\y=ddD e/\ddOk e/\rs.length<900/\(match refW S e with | some i=>Kx (.ref (cs.getD i 0)) μ | none=>K .fB (putR cR cS μ k j1 j2 (ss.take (d+1)++[doD S e]) (rs.take d++[e]) (d+1)))
 | _=>False
def fOfNow (g:RS->D):DSp:=fun ds μ K=>match ds with
 | [.mr k]=>∃ j1 j2 ss rs d S,eP cR cS μ k j1 j2 ss rs d/\ss[d]?=some S/\K (g S) μ
 | _=>False
def fOfName (g:RS->Str->D):DSpX:=fun ds μ K Kx=>match ds with
 | [.mr k,.str nm]=>(∃ m,μ[0]?=some m)/\∃ j1 j2 ss rs d S,eP cR cS μ k j1 j2 ss rs d/\ss[d]?=some S/\(match du S.kept nm with | some _=>K (g S nm) μ | none=>Kx (.ref (cs.getD 11 0)) μ)
 | _=>False
def fSourceR:DSpX:=fun ds μ K Kx=>match ds with
 | [.mr k,.str nm,.int bar]=>(∃ m,μ[0]?=some m)/\∃ j1 j2 ss rs d S,eP cR cS μ k j1 j2 ss rs d/\ss[d]?=some S/\(match du S.kept nm with | some _=>(if 0<=bar/\bar<S.n then K (srcD (srcOf S.kept nm bar)) μ else Kx (.ref (cs.getD 6 0)) μ) | none=>Kx (.ref (cs.getD 11 0)) μ)
 | _=>False
end
def gSize (S:RS):D:=.int S.n
def gNames (S:RS):D:=.lst (S.kept.map fun p=>.str p.1)
def gCuts (S:RS):D:=.lst ((openP S).map D.int)
def gTakes (S:RS):D:=.lst ((takesR S).map tkD)
def gBars (S:RS)(nm:Str):D:=.str (txt (ft S.kept nm).1)
def gAge (S:RS)(nm:Str):D:=.int (ft S.kept nm).2
def gParts (S:RS)(nm:Str):D:=match du S.kept nm with | some y=>ptD y | none=>.fB
section
variable {cR cS:Addr}{cs:List Addr}{ds:List D}{μ:MS}{K:DK}{Kx:DX}
theorem fRoInit_len (h:fRoInit cR cS cs ds μ K Kx):ds.length=2/\∃ m,μ[0]?=some m:=by
 unfold fRoInit at h
 split at h
 ·exact⟨rfl,h.1⟩
 ·exact h.elim
theorem fDeedR_len (h:fDeedR cR cS cs ds μ K Kx):ds.length=2/\∃ m,μ[0]?=some m:=by
 unfold fDeedR at h
 split at h
 ·exact⟨rfl,h.1⟩
 ·exact h.elim
theorem fOfName_len {g:RS->Str->D}(h:fOfName cR cS cs g ds μ K Kx):ds.length=2/\∃ m,μ[0]?=some m:=by
 unfold fOfName at h
 split at h
 ·exact⟨rfl,h.1⟩
 ·exact h.elim
theorem fSourceR_len (h:fSourceR cR cS cs ds μ K Kx):ds.length=3/\∃ m,μ[0]?=some m:=by
 unfold fSourceR at h
 split at h
 ·exact⟨rfl,h.1⟩
 ·exact h.elim
end
def ptL:Pt->D
 | .fst b a=>.tup [.str "first",.str (txt b),.int a]
 | .jn l r p=>.tup [.str "joined",.str l,.str r,.int p]
def slD (S:RS):D:=.tup [.int S.n,dcG dW ptL S.kept,shD S.eX]
theorem ptL_mr {n:Nat}:∀ x,mrB n (ptL x)
 | .fst _ _=>⟨trivial,trivial,trivial,trivial⟩
 | .jn _ _ _=>⟨trivial,trivial,trivial,trivial,trivial⟩
def poolOk (pool:List Str):Prop:=1<=pool.length/\pool.length<=50/\∀ z∈pool,namedB z=true
def strL (l:List Str):D:=.lst (l.map D.str)
def fNamesL:DSp:=fun ds μ K=>match ds with
 | [.mr k,.int many]=>μ[k]?=some .box/\1<=many/\many<=50/\∀ pool:List Str,(pool.length:Int)=many->poolOk pool->K (strL pool) μ
 | _=>False
def fOrigin:DSp:=fun ds μ K=>match ds with
 | [x,.str nm,.int bar]=>∃ kept y,dcv μ x=some (kept.map (fun p=>dW p.1),kept.map fun p=>ptL p.2)/\Kpt kept/\du kept nm=some y/\K (srcD (srcOf kept nm bar)) μ
 | _=>False
def agesR (kept:List (Str×Pt)):List (Str×Int):=kept.map fun p=>(p.1,(ft kept p.1).2)
def fAgesL:DSp:=fun ds μ K=>match ds with
 | [x]=>∃ S m,x=dcG dW ptL S.kept/\RWf S m/\K (dcG dW D.int (agesR S.kept)) μ
 | _=>False
def fHeard:DSp:=fun ds μ K=>match ds with
 | [x,.str nm]=>∃ S m y,x=slD S/\RWf S m/\du S.kept nm=some y/\K (.str (txt (ft S.kept nm).1)) μ
 | _=>False
def fTakesL:DSp:=fun ds μ K=>match ds with
 | [x]=>∃ S m,x=slD S/\RWf S m/\K (gTakes S) μ
 | _=>False
def fOpenL:DSp:=fun ds μ K=>match ds with
 | [x]=>∃ S m,x=slD S/\RWf S m/\K (gCuts S) μ
 | _=>False
def fDoneL:DSp:=fun ds μ K=>match ds with
 | [x,y]=>∃ S d m,x=slD S/\y=ddD d/\RWf S m/\m<=1000/\refW S d=none/\K (slD (doD S d)) μ
 | _=>False
def loneR (kept:List (Str×Pt)):List Str:=(kept.map (·.1)).filter fun z=>!kept.any fun p=>isNeed z p.2
def fLone:DSp:=fun ds μ K=>match ds with
 | [x]=>∃ S m,x=dcG dW ptL S.kept/\RWf S m/\K (strL (loneR S.kept)) μ
 | _=>False
def fStands (cR cS:Addr):DSp:=fun ds μ K=>match ds with
 | [.mr k,x]=>(∃ m,μ[0]?=some m)/\∃ j1 j2 ss rs d S,eP cR cS μ k j1 j2 ss rs d/\ss[d]?=some S/\x=slD S/\K (.bl true) μ
 | _=>False
theorem RWf.new {n:Int}(h1:1<=n)(h2:n<=40):RWf ⟨n,[],[]⟩ 0 :=
 ⟨h1,h2,⟨.nil,fun _ _ _ _ e=>(by cases e)⟩,aX _,fun _ _ _ e=>(by cases e),fun _ _ _ _ e=>(by cases e),fun _ h=>(nomatch h),aa _,.nil⟩
theorem eP.made {cR cS:Addr}{μ:MS}{n:Int}(h0:μ≠[])(h1:1<=n)(h2:n<=40):eP cR cS (μ++[.ins cR roN [.mr (μ.length+1),.mr (μ.length+2),.int 0],.lst [sdD cS ⟨n,[],[]⟩],.lst []]) μ.length (μ.length+1) (μ.length+2) [⟨n,[],[]⟩] [] 0:=by
 have hl:0<μ.length:=List.length_pos_iff.mpr h0
 refine⟨by omega,by omega,by omega,by omega,by omega,by omega,?_,?_,?_,rfl,aa _,fun i S e=>?_,aX _⟩
 ·rw[gxG (aa _),aQ];rfl
 ·rw[gxG (by omega),cf];rfl
 ·rw[gxG (by omega),cf];rfl
 ·cases i with
  | zero=>cases e;exact .new h1 h2
  | succ i=>cases e
theorem heard_at {S:RS}{m:Nat}(h:RWf S m)(bar:Nat)(hb:(bar:Int)<S.n):∀ nm x,du S.kept nm=some x->∃ b a c,du S.kept (srcOf S.kept nm bar).1=some (.fst b a)/\b[bar]?=some c/\(ft S.kept nm).1[bar]?=some c:=by
 refine ev_ind h.kp (fun nm=>∃ b a c,du S.kept (srcOf S.kept nm bar).1=some (.fst b a)/\b[bar]?=some c/\(ft S.kept nm).1[bar]?=some c) (fun nm b a e=>?_) (fun nm l r p e h1 h2=>?_)
 ·obtain⟨f1,_⟩:=h.fs nm b a e
  rw[src_fstE e,tk_fst e]
  exact⟨b,a,b[bar]'(by omega),e,gxA _,gxA _⟩
 ·obtain⟨p1,p2⟩:=h.js nm l r p e
  obtain⟨⟨yl,el⟩,⟨yr,er⟩⟩:=h.kp.there e
  obtain⟨t1,_⟩:=tk_ok h l yl el
  obtain⟨t2,_⟩:=tk_ok h r yr er
  rw[src_jn h.kp e,tk_jn h.kp e]
  obtain⟨b,a,c,g1,g2,g3⟩:=h1
  obtain⟨b',a',c',k1,k2,k3⟩:=h2
  by_cases q:(bar:Int)<p
  ·rw[ag q]
   exact⟨b,a,c,g1,g2,by show(jnT _ _ p)[bar]?=_;rw[jnT_low (by omega) q];exact g3⟩
  ·rw[ae q]
   exact⟨b',a',c',k1,k2,by show(jnT _ _ p)[bar]?=_;rw[jnT_high (by omega) (by omega) (by omega)];exact k3⟩
end L2
namespace L2
open PySem PySem.Spec PyProof.Rows PyProof
section
variable {X:Cx}{pos:Pos}
def tPar3 (i j k:Nat)(ta:TA):TS:=fun D σ H=>ta σ H fun vs H1=>∃ v w u,vs=[v,w,u]/\D.nx (((σ.set i (some v)).set j (some w)).set k (some u)) H1
theorem ps_par3 {i j k:Nat}{x y z:Str}{a b c:Expr}{ta:TA}{px py pz pt:Pos}{kt k2 pt2}(hc:X.calm=true)(hN:X.N.Nodup)(hi:X.N[i]?=some x)(hj:X.N[j]?=some y)(hk:X.N[k]?=some z)(hij:i≠j)(hik:i≠k)(hjk:j≠k)
 (hx:X.env.scope.names.lookup x=some .local) (hy:X.env.scope.names.lookup y=some .local) (hz:X.env.scope.names.lookup z=some .local) (ha:PA X [a,b,c] ta)
 (hw:swappedStores [.Tuple [.Name x px,.Name y py,.Name z pz] kt pt] (.Tuple [a,b,c] k2 pt2) X.env=pure (some [x,y,z]))
 (hs:swapsWithSole [.Tuple [.Name x px,.Name y py,.Name z pz] kt pt] (.Tuple [a,b,c] k2 pt2) pos.line X.env=pure false:=by rfl) :
 PS X (.Assign [.Tuple [.Name x px,.Name y py,.Name z pz] kt pt] (.Tuple [a,b,c] k2 pt2) pos) (tPar3 i j k ta):=by
 intro pins s σ H D I h
 rw[exec_Assign_arm]
 refine dY (cG ?_)
 rw[hs]
 refine dY (ah ?_)
 rw[ae (by decide)]
 refine dY (Tuple_ (fo (ha _ pins s σ H _ I h) fun us s1 hq4=>?_))
 obtain⟨vs,H1,I1,r1,q1⟩:=hq4
 obtain⟨v,w,u,e1,q1⟩:=q1
 subst e1
 obtain⟨u1,u2,u3,rfl,rv,rw',ru⟩:∃ u1 u2 u3,us=[u1,u2,u3]/\RelV v u1/\RelV w u2/\RelV u u3:=by
  cases r1 with
  | cons p q =>
   cases q with
   | cons p' q' =>
    cases q' with
    | cons p'' q'' =>
     cases q''
     exact⟨_,_,_,rfl,p,p',p''⟩
 refine aV ?_ (by show 3<=sizeLine;decide)
 have I2:Inv X pins σ H1 { s1 with heap:=s1.heap.push { cls:=.type "tuple",data:=.seq [u1,u2,u3].toArray}}:=I1.kept (t':=s1.toks) fun b o e=>gxL _ e
 rw[hw]
 refine dY (ah ?_)
 show wpAny (model X.prog X.w) X.A (do rule "assign.swapped-stores";let items <- unpackItems (.ref s1.heap.objs.size) 3 none;assignInOrder [fun v=>bindName X.env z v,fun v=>bindName X.env y v,fun v=>bindName X.env x v] items.reverse;pure Flow.next) _ _ _
 refine dY (wpAny_rule (dY (unpackItems_tuple (items:=#[u1,u2,u3]) (I.ok.hd hc) (IsTup.new s1.heap _) fun h' hx'=>?_)))
 have I3:=I2.kept (h':=h') (t':=s1.toks) fun b o e=>hx' b o (aC (gxN e)) e
 show wpAny _ _ (assignInOrder [fun v=>bindName X.env z v,fun v=>bindName X.env y v,fun v=>bindName X.env x v] [u3,u2,u1] >>= fun _=>pure Flow.next) _ _ _
 refine dY (cV (wpAny_bindName (store_ok I3 hN hk (.inl hz) ru (fun s2 I4=>?_) (.inr hz))))
 refine cV (wpAny_bindName (store_ok I4 hN hj (.inl hy) rw' (fun s3 I5=>?_) (.inr hy)))
 refine cV (wpAny_bindName (store_ok I5 hN hi (.inl hx) rv (fun s4 I6=>assignInOrder_nil (ah ?_)) (.inr hx)))
 rw[cy _ _ (aZ hjk),cy _ _ (aZ hik),cy _ _ (aZ hij)]at I6
 exact⟨_,H1,I6,q1⟩
def dPar3 (i j k:Nat)(w:DA):Ds:=fun N ρ μ=>w ρ μ fun ds dF=>match ds with
 | [a,b,c]=>N.nx (((ρ.set i (some a)).set j (some b)).set k (some c)) dF
 | _=>False
theorem s_par3 {i j k:Nat}{x y z:Str}{a b c:Expr}{w:DA}{px py pz pt:Pos}{kt k2 pt2}(hN:X.N.Nodup)(hi:X.N[i]?=some x)(hj:X.N[j]?=some y)(hk:X.N[k]?=some z)(hij:i≠j)(hik:i≠k)(hjk:j≠k)
 (hx:X.env.scope.names.lookup x=some .local) (hy:X.env.scope.names.lookup y=some .local) (hz:X.env.scope.names.lookup z=some .local) (ha:PDA X [a,b,c] w) (hc:X.calm=true:=by rfl)
 (hw:swappedStores [.Tuple [.Name x px,.Name y py,.Name z pz] kt pt] (.Tuple [a,b,c] k2 pt2) X.env=pure (some [x,y,z]):=by rfl)
 (hs:swapsWithSole [.Tuple [.Name x px,.Name y py,.Name z pz] kt pt] (.Tuple [a,b,c] k2 pt2) pos.line X.env=pure false:=by rfl) :
 PDS X (.Assign [.Tuple [.Name x px,.Name y py,.Name z pz] kt pt] (.Tuple [a,b,c] k2 pt2) pos) (dPar3 i j k w):=(ps_par3 hc hN hi hj hk hij hik hjk hx hy hz ha hw hs).imp fun E σ H ⟨φ,ρ,μ,N,A,M,w,L⟩ =>
 ⟨φ,ρ,μ,_,A,M,w,fun ds dF d9 vs H1 k1 f1 M1 i1=>by
  split at k1
  ·obtain⟨v1,r1,rfl,g1,v2,r2,rfl,g2,v3,r3,rfl,g3,g4⟩:=i1
   cases(show r3=[]from g4)
   exact⟨_,_,_,rfl,L.nx _ dF d9 _ H1 k1 f1 ((((A.mono f1).set g1 i).set g2 j).set g3 k) M1⟩
  ·exact k1.elim⟩
end
theorem at_mid {μ g:MS}{x:MO}:(μ++x::g)[μ.length]?=some x:=by rw[gxG (aa _),aQ];rfl
theorem set_mid {μ g:MS}{x y:MO}:(μ++x::g).set μ.length y=μ++y::g:=by rw[List.set_append_right _ _ (aa _),aQ];rfl
theorem named_of {cs:List Nat}(h1:1<=cs.length)(h2:cs.length<=8)(h:∀ c∈cs,97<=c/\c<=122):namedB (txt cs)=true:=by
 unfold namedB
 rw[show(txt cs).length=cs.length from lenS cs,ao h1,ao h2]
 show(cs.all _)=true
 rw[cm]
 intro c hc
 obtain⟨a,b⟩:=h c hc
 rw[ao a,ao b];rfl
theorem atI_ex {α:Type}{xs:List α}{v:Int}(h0:0<=v)(h1:v<(xs.length:Int)):∃ x∈xs,atI xs v=some x:=by
 obtain⟨n,rfl⟩:∃ n:Nat,v=(n:Int):=⟨v.toNat,by omega⟩
 have hn:n<xs.length:=by omega
 exact⟨xs[n],ck hn,atI_nat (gxA hn)⟩
theorem atI_mapx {α β:Type}{g:α->β}{xs:List α}{v:Int}(h0:0<=v)(h1:v<(xs.length:Int)):∃ x∈xs,atI (xs.map g) v=some (g x):=by
 obtain⟨n,rfl⟩:∃ n:Nat,v=(n:Int):=⟨v.toNat,by omega⟩
 have hn:n<xs.length:=by omega
 exact⟨xs[n],ck hn,atI_map (gxA hn)⟩
theorem pre_get {kept pre post:List (Str×Pt)}{γ:Type}{g:Str->γ}{z:Str}{y:Pt}(nd:(kept.map (·.1)).Nodup)(hs:kept=pre++(z,y)::post) :
 du kept z=some y/\idxN kept z=pre.length/\pre.length<kept.length/\du (pre.map fun p=>(p.1,g p.1)) z=none/\∀ w,idxN kept w<pre.length->du (pre.map fun p=>(p.1,g p.1)) w=some (g w):=by
 have hz:z∉pre.map (·.1):=fun q=>by
  rw[hs,aE,bC]at nd
  exact nd.2.2 z q z (List.mem_map.mpr ⟨_,av,rfl⟩) rfl
 refine⟨aget_of_mem nd (by rw[hs];exact aD _ av),?_,by rw[hs,gxE,aG];omega,?_,fun w hw=>?_⟩
 ·unfold idxN
  rw[hs,aE,b7,ae hz,ai,bx,show((z,y).1==z)=true from cc _,fC]
  simp
 ·cases q:du (pre.map fun p=>(p.1,g p.1)) z with
  | none=>rfl
  | some w =>
   have:=eS.mp (show(du (pre.map fun p=>(p.1,g p.1)) z).isSome=true by rw[q];rfl)
   rw[aB]at this
   exact absurd this hz
 ·have hm2:w∈pre.map (·.1):=by
   unfold idxN at hw
   rw[hs,aE,b7]at hw
   by_cases q:w∈pre.map (·.1)
   ·exact q
   ·rw[ae q,fC]at hw;omega
  obtain⟨p,hp,rfl⟩:=List.mem_map.mp hm2
  have nd2:((pre.map fun p=>(p.1,g p.1)).map (·.1)).Nodup:=by
   rw[aB]
   rw[hs,aE,bC]at nd
   exact nd.1
  exact aget_of_mem nd2 (List.mem_map.mpr ⟨p,hp,rfl⟩)
theorem ages_get {kept:List (Str×Pt)}(nd:(kept.map (·.1)).Nodup){p:Str×Pt}(hp:p∈kept):du (agesR kept) p.1=some (ft kept p.1).2:=by
 refine aget_of_mem ?_ (List.mem_map.mpr ⟨p,hp,rfl⟩)
 unfold agesR
 rw[aB]
 exact nd
theorem range_str (l:List Nat):((List.range l.length).filterMap fun i=>some (D.str ⟨#[l.getD i 0]⟩))=l.map fun c=>D.str ⟨#[c]⟩:=by
 rw[show(fun i=>some (D.str ⟨#[l.getD i 0]⟩))=some ∘ (fun i:Nat=>D.str ⟨#[l.getD i 0]⟩)from rfl,List.filterMap_eq_map]
 refine List.ext_getElem? fun i=>?_
 rw[gxH,gxH]
 by_cases h:i<l.length
 ·rw[cF h,gxA h]
  simp[aU,h]
 ·rw[List.getElem?_eq_none (by rw[gxJ];omega),List.getElem?_eq_none (by omega)];rfl
end L2
namespace L2
open PySem PySem.Spec PyProof.Rows PyProof
def TV (c:Dt)(ρ:DE)(μ:MS)(b:Bool):Prop:=∀ K:Bool->MS->Prop,K b μ->c ρ μ K
section
variable {a c:Dt}{t u:Ds}{N:DN}{ρ:DE}{μ:MS}{x y b:Bool}{e:De}
theorem TV.tst (h:∀ K:DK,K (.bl b) μ->e ρ μ K):TV (dTst e) ρ μ b:=fun K k=>h _ k
theorem TV.and (h1:TV a ρ μ x)(h2:x=true->TV c ρ μ y):TV (dtAnd a c) ρ μ (x&&y):=fun K k=>h1 _ (by
 cases x with
 | true=>rw[ag rfl];exact h2 rfl K k
 | false=>rw[ae (by decide)];exact k)
theorem TV.or (h1:TV a ρ μ x)(h2:x=false->TV c ρ μ y):TV (dtOr a c) ρ μ (x||y):=fun K k=>h1 _ (by
 cases x with
 | true=>rw[ag rfl];exact k
 | false=>rw[ae (by decide)];exact h2 rfl K k)
theorem TV.not (h1:TV a ρ μ x):TV (dtNot a) ρ μ (!x):=fun K k=>h1 _ k
theorem TV.to (h:TV a ρ μ x)(e:x=y):TV a ρ μ y:=e▸h
theorem fG (b:Bool)(h:TV c ρ μ b)(ht:b=true->t N ρ μ)(hu:b=false->u N ρ μ):dIfS c t u N ρ μ:=h _ (by
 cases b with
 | true=>rw[ag rfl];exact ht rfl
 | false=>rw[ae (by decide)];exact hu rfl)
end
theorem dNx_of {N:DN}{ρ:DE}{μ:MS}(h:N.nx ρ μ):dNx N ρ μ:=h
theorem dSet_of {i:Nat}{w:De}{N:DN}{ρ:DE}{μ μ':MS}{d:D}(h:∀ K:DK,K d μ'->w ρ μ K)(k:N.nx (ρ.set i (some d)) μ'):dSet i w N ρ μ:=h _ k
theorem two_1 {μ:MS}{a b:MO}:(μ++[a,b])[μ.length+1]?=some b:=by rw[gxG (by omega),cf];rfl
theorem set_two {μ:MS}{a b y:MO}:(μ++[a,b]).set (μ.length+1) y=μ++[a,y]:=by rw[List.set_append_right _ _ (by omega),cf];rfl
def dM {α β:Type}(κ:α->Key)(f:β->D)(l:List (α×β)):MO:=.dic (l.map fun p=>κ p.1) (l.map fun p=>f p.2)
section
variable {α β:Type}[DecidableEq α]{κ:α->Key}(hi:∀ a b,κ a=κ b->a=b){f:β->D}{μ:MS}{j:Nat}{l:List (α×β)}
include hi
theorem put_at (hj:μ[j]?=some (dM κ f l))(hl:l.length<sizeLine){i:D}{k:α}(hk:keyD i=some (κ k))(v:β){d:D}(hd:d=f v){P:MS->Prop}(h:P (μ.set j (dM κ f (fE l k v)))) :
 ∃ kd kd':List (Key×D),μ[j]?=some (.dic (kd.map (·.1)) (kd.map (·.2)))/\kd.length<sizeLine/\(keyD i).map (fun k=>dput kd k d)=some kd'/\P (μ.set j (.dic (kd'.map (·.1)) (kd'.map (·.2)))):=by
 subst hd
 obtain⟨e1,e2⟩:=kd_of κ f l
 refine⟨l.map fun p=>(κ p.1,f p.2),_,by rw[hj,<- e1,<- e2];rfl,by rw[kd_len];exact hl,by rw[hk];rfl,?_⟩
 show P (μ.set j (.dic ((dput _ (κ k) (f v)).map (·.1)) ((dput _ (κ k) (f v)).map (·.2))))
 rw[dput_k hi f k v l,<- (kd_of κ f _).1,<- (kd_of κ f _).2]
 exact h
theorem pop_at (hj:μ[j]?=some (dM κ f l)){i:D}{k:α}(hk:keyD i=some (κ k)){v:β}(he:du l k=some v){P:D->MS->Prop}(h:P (f v) (μ.set j (dM κ f (adrop l k)))) :
 ∃(kd:List (Key×D)) (k':Key) (d:D),μ[j]?=some (.dic (kd.map (·.1)) (kd.map (·.2)))/\keyD i=some k'/\dval kd k'=some d/\P d (μ.set j (.dic ((kd.filter fun p=>decide (p.1≠k')).map (·.1)) ((kd.filter fun p=>decide (p.1≠k')).map (·.2)))):=by
 obtain⟨e1,e2⟩:=kd_of κ f l
 refine⟨l.map fun p=>(κ p.1,f p.2),κ k,f v,by rw[hj,<- e1,<- e2];rfl,hk,by rw[dval_k hi f k l,he];rfl,?_⟩
 rw[dropF_k hi f k l,<- (kd_of κ f _).1,<- (kd_of κ f _).2]
 exact h
end
theorem dicM_of {μ:MS}{j:Nat}{ks:List Key}{ds:List D}(h:μ[j]?=some (.dic ks ds)):dicM μ j=some (ks,ds):=by unfold dicM;rw[h]
theorem adrop_none {α β:Type}[DecidableEq α]{l:List (α×β)}{k:α}(h:du l k=none):adrop l k=l:=by
 unfold adrop
 refine List.filter_eq_self.mpr fun p hp=>ao fun e=>?_
 have:=eS.mpr (List.mem_map.mpr ⟨p,hp,rfl⟩:p.1∈l.map (·.1))
 rw[e,h]at this
 cases this
theorem aput_le {α β:Type}[DecidableEq α]{l:List (α×β)}{k:α}{v:β}:(fE l k v).length<=l.length+1:=by
 unfold fE
 split
 ·rw[fC];omega
 ·rw[gxE,aO];exact aa _
theorem all_self {n:Nat}{ds:List D}{R:D->D->Prop}(hR:∀ d,mrB n d->R d d)(h:mrL n ds):All2 R ds ds:=⟨rfl,fun i a b e1 e2=>by
 rw[e1]at e2;cases e2
 exact hR a (mrL_mem h (gxD e1))⟩
theorem frz_two {μ:MS}{n:Int}{o1 o2:Obj}{k1 k2:List (Key×V)}{d1 d2:List D}(h1:mrL μ.length d1)(h2:mrL μ.length d2):FrzQ μ.length (μ++[.fdic o1 k1 d1,.fdic o2 k2 d2]) 2 (.tup [.int n,.mr μ.length,.mr (μ.length+1)]) (.tup [.int n,.fdc (k1.map (·.1)) d1,.fdc (k2.map (·.1)) d2]):=by
 have slf:∀ d,mrB μ.length d->FrzQ μ.length (μ++[.fdic o1 k1 d1,.fdic o2 k2 d2]) 0 d d:=fun d h=>⟨rfl,h⟩
 refine .inr (.inr (.inr (.inl ⟨_,_,rfl,rfl,rfl,fun i a b e1 e2=>?_⟩)))
 match i with
 | 0=>cases e1;cases e2;exact .inl ⟨rfl,trivial⟩
 | 1=>cases e1;cases e2;exact .inr (.inr (.inr (.inr (.inl ⟨_,o1,k1,d1,d1,rfl,aa _,at_mid,rfl,all_self slf h1⟩))))
 | 2=>cases e1;cases e2;exact .inr (.inr (.inr (.inr (.inl ⟨_,o2,k2,d2,d2,rfl,Nat.le_succ _,two_1,rfl,all_self slf h2⟩))))
 | i+3=>cases e1
theorem lone_map (kept:List (Str×Pt)):(kept.filterMap fun p=>if(kept.any fun q=>isNeed p.1 q.2)=true then none else some (D.str p.1))=(loneR kept).map D.str:=by
 unfold loneR
 have key:∀ l:List (Str×Pt),(l.filterMap fun p=>if(kept.any fun q=>isNeed p.1 q.2)=true then none else some (D.str p.1))=((l.map (·.1)).filter fun z=>!kept.any fun p=>isNeed z p.2).map D.str:=by
  intro l
  induction l with
  | nil=>rfl
  | cons p l ih =>
   rw[bR,ai,a8]
   by_cases q:(kept.any fun q=>isNeed p.1 q.2)=true
   ·rw[ag q,ae (by rw[q];decide)];exact ih
   ·rw[ae q,ag (by rw[Bool.not_eq_true]at q;rw[q];rfl),ai,ih]
 exact key kept
theorem or_no {a b:Option Nat}(h1:a=none)(h2:b=none):a.or b=none:=by rw[h1,h2];rfl
theorem has_of {S:RS}{p:Str×Pt}(hp:p∈S.kept):hasN S p.1=true:=eS.mpr (List.mem_map.mpr ⟨p,hp,rfl⟩)
theorem place_ok {S:RS}{p:Int}(h1:1<=p)(h2:p<S.n):fv S p=none:=by unfold fv;rw[ag ⟨h1,h2⟩]
theorem age_ok {a:Int}(h1:0<=a)(h2:a<=20):ageW a=none:=by unfold ageW;rw[ag ⟨h1,h2⟩]
theorem ref_put {S:RS}{z:Str}{l:List Nat}{a:Int}(h:newW S z=none)(hl:(l.length:Int)=S.n)(ho:OX l)(a0:0<=a)(a1:a<=20):refW S (.put z (txt l) a)=none:=by
 refine or_no h ?_
 have:oxB (txt l)=true:=by
  unfold oxB
  refine List.all_eq_true.mpr fun c hc=>?_
  rcases ho c hc with q | q <;> rw[q]<;> rfl
 show(if(((txt l).length:Nat):Int)=S.n/\oxB (txt l)=true then ageW a else some 0)=none
 rw[ag ⟨by rw[txt_len];exact hl,this⟩]
 exact age_ok a0 a1
theorem ref_join {S:RS}{z:Str}{p q:Str×Pt}{i:Int}(h:newW S z=none)(hp:p∈S.kept)(hq:q∈S.kept)(hi:i∈openP S):refW S (.join z p.1 q.1 i)=none:=by
 refine or_no h ?_
 unfold openP at hi
 obtain⟨hi,e⟩:=List.mem_filter.mp hi
 obtain⟨j,hj,rfl⟩:=List.mem_map.mp hi
 have hj:=List.mem_range.mp hj
 have e:(du S.eX (1+(j:Int))).isSome=false:=by simpa using e
 show(if hasN S p.1=false then some 11 else if hasN S q.1=false then some 11 else(fv S _).or (if(du S.eX _).isSome=true then some 12 else none))=none
 rw[has_of hp,has_of hq,ae (by decide),ae (by decide),e,ae (by decide),place_ok (by omega) (by omega)]
 rfl
end L2
namespace L2
open PySem PySem.W PyProof.Rows
noncomputable abbrev twStepT:=Fast.tw10156331382660048174
noncomputable abbrev twDen:=Fast.tw11892475500146522536
noncomputable def runT (p:Program)(w:World)(n₀:Nat)(ann:Option Value):Nat->SharedT->Thread->Option SharedT
 | 0,_,_=>none
 | n+1,s,t=>match through t with
  | true=>some s
  | false=>match stepOk n₀ ann t with
   | false=>none
   | true=>match twStepT (twDen twTab) p w s t with
    | some (s',t')=>runT p w n₀ ann n s' t'
    | none=>none
theorem runT_of {p:Program}{w:World}{n₀:Nat}{ann:Option Value}:∀ {n:Nat} {s s':SharedT} {t:Thread},runT p w n₀ ann n s t=some s'->topRun treeTable p w n₀ ann n s.abs t=some s'.abs
 | 0,_,_,_,h=>by cases h
 | n+1,s,s',t,h=>by
  unfold runT at h
  unfold topRun
  cases he:through t with
  | true=>rw[he]at h;cases h;rfl
  | false =>
   rw[he]at h
   cases hk:stepOk n₀ ann t with
   | false=>rw[hk]at h;cases h
   | true =>
    rw[hk]at h
    cases hs:twStepT (twDen twTab) p w s t with
    | none=>rw[hs]at h;cases h
    | some r =>
     obtain⟨s2,t2⟩:=r
     rw[hs]at h
     have hs':stepT (denote treeTable) p w s t=some (s2,t2):=by
      rw[show stepT=twStepT from Fast.te10156331382660048174,show denote=twDen from Fast.te11892475500146522536,show treeTable=twTab from Fast.te14364793385576792824];exact hs
     rw[stepT_spec hs'];exact runT_of h
noncomputable def boT (P:Params):BT:=(.node (boot_o_0 P) (.node (boot_o_1 P) (.node (boot_o_3 P) (.node (boot_o_7 P) .nil .nil) .nil) (.node (boot_o_5 P) (.node (boot_o_9 P) .nil .nil) .nil)) (.node (boot_o_2 P) (.node (boot_o_4 P) (.node (boot_o_8 P) .nil .nil) .nil) (.node (boot_o_6 P) (.node (boot_o_10 P) .nil .nil) .nil)))
noncomputable abbrev ST0 (w:World)(os:OsState):SharedT:=⟨boT w.params,11,(boot_heap w.params).life,#[],boot_drawn,boot_toks,os⟩
theorem boT_abs (w:World)(os:OsState):(ST0 w os).abs=S00 w os:=by kernel_rfl
end L2
namespace L2
open PySem PySem.Spec PyProof.Rows PyProof PySem.W
def LeftAt (p q:Program)(loose:List Str)(Xt:Shared->Bool){α:Type}(Yf:Shared->α)(Ya:World->α)(M:Nat)(row:String)(b:Bool):Prop:=∀(w:World) (os:OsState),(twRun twTab p (w.withFollow row b) 11 (some (.ref 6)) M (S00 w os) (topStub p)).map (fun s =>
 (W.staticsOk (importedModules p.main.body) (W.boot_heap w.params) s.heap&&W.namesBound p s.heap&&W.gensDone s&&W.laidKept (W.boot_heap w.params) s.heap,twSeen q loose (importedModules p.main.body) Xt true s,Yf s))=some (true,W.openGood q loose,Ya w)
theorem left_ofR {p q:Program}{loose:List Str}{Xt:Shared->Bool}{α:Type}{Yf:Shared->α}{Ya:World->α}{N M:Nat}{row:String}
 (e:W.opening p=W.plainProg p.main.scope.names) (hN:Nat.ble 600 N=true) (f:∀ s,fenceModules? p s=some s) (le:Nat.ble M N=true)
 (h0:LeftAt p q loose Xt Yf Ya M row false) (h1:LeftAt p q loose Xt Yf Ya M row true):W.LeftO p q loose Xt Yf Ya N:=left_of e hN f le fun w os=>by
 have h:∀ b,LeftAt p q loose Xt Yf Ya M row b:=fun b=>by cases b;exact h0;exact h1
 have:=h (w.params.followText row) w os
 rwa [World.withFollow_self]at this
def LeftT (p q:Program)(loose:List Str)(Xt:Shared->Bool){α:Type}(Yf:Shared->α)(Ya:World->α)(M:Nat)(row:String)(b:Bool):Prop:=∀(w:World) (os:OsState),(runT p (w.withFollow row b) 11 (some (.ref 6)) M (ST0 w os) (topStub p)).map (fun s =>
 (W.staticsOk (importedModules p.main.body) (W.boot_heap w.params) s.abs.heap&&W.namesBound p s.abs.heap&&W.gensDone s.abs&&W.laidKept (W.boot_heap w.params) s.abs.heap,twSeen q loose (importedModules p.main.body) Xt true s.abs,Yf s.abs))=some (true,W.openGood q loose,Ya w)
theorem LeftT.at {p q:Program}{loose:List Str}{Xt:Shared->Bool}{α:Type}{Yf:Shared->α}{Ya:World->α}{M:Nat}{row:String}{b:Bool}(h:LeftT p q loose Xt Yf Ya M row b):LeftAt p q loose Xt Yf Ya M row b:=fun w os=>by
 obtain⟨sT,r,e⟩:=Option.map_eq_some_iff.mp (h w os)
 have r2:=runT_of r
 rw[boT_abs,show topRun=twRun from Fast.te14082659384304107361,show treeTable=twTab from Fast.te14364793385576792824]at r2
 rw[r2]
 exact bD some e
section
variable {cR cS:Addr}{μ:MS}{k j1 j2:Nat}{ss:List RS}{rs:List Dd}{S:RS}{e:Dd}
theorem eP.grow (ra:eP cR cS μ k j1 j2 ss rs rs.length)(es:ss[rs.length]?=some S)(hr:refW S e=none)(few:rs.length<900) :
 ss.take (rs.length+1)=ss/\rs.take rs.length=rs/\eP cR cS (putR cR cS μ k j1 j2 (ss++[doD S e]) (rs++[e]) (rs.length+1)) k j1 j2 (ss++[doD S e]) (rs++[e]) (rs.length+1)/\(ss++[doD S e])[rs.length+1]?=some (doD S e):=by
 have hl:=ra.len
 refine⟨bA (by omega),bA (aa _),ra.put ?_ ?_ (fun i T ei=>?_) ?_,?_⟩
 ·rw[gxE,gxE,hl];rfl
 ·rw[gxE];exact aa _
 ·by_cases h:i<ss.length
  ·rw[gxF h]at ei;exact ra.wf i T ei
  ·rw[gxG (by omega)]at ei
   have h2:=(gxB ei).1
   rw[aO]at h2
   have:i=rs.length+1:=by omega
   subst this
   rw[hl,aQ]at ei
   cases ei
   exact(ra.wf _ S es).do hr
 ·rw[gxE,aO];omega
 ·rw[gxG (by omega),hl,aQ];rfl
end
theorem room_recv {cR cS:Addr}{μ:MS}{k j1 j2 d:Nat}{ss:List RS}{rs:List Dd}(ra:eP cR cS μ k j1 j2 ss rs d){nm:Str}(hn:lookN nm roN [.mr j1,.mr j2,.int (d:Int)]=none):recvD cR nm μ (.mr k):=by
 show(insM _ _ _).map _=_
 rw[insM_of ra.ins]
 exact bD some hn
end L2
namespace L2
open PySem PySem.Spec PyProof.Rows PyProof
end L2
namespace L2
open PySem PySem.Spec PyProof.Rows PyProof
end L2
namespace L2
open PySem PySem.Spec PyProof.Rows PyProof
end L2
namespace L2
open PySem PySem.Spec PyProof.Rows PyProof
end L2
namespace L2
open PySem PySem.Spec PyProof.Rows PyProof
section
variable {kept:List (Str×Pt)}{z:Str}{b b':List Nat}{a:Int}(h:du kept z=some (.fst b a))
include h
end
end L2
namespace L2
open PySem PySem.Spec PyProof.Rows PyProof
theorem zs {n:Nat}(h:Nat.ble n 100=true:=by rfl):n<=sizeLine:=aw (Nat.le_of_ble_eq_true h) (sz (by decide))
section
variable {X:Cx}{a b e e1 e2 e3:Expr}{wa wb w w1 w2 w3:De}{pos p:Pos}
theorem a1 (h:PD X e w)(s:starEach [e] X.env=(false,eval e X.env)::starEach [] X.env:=by rfl):PDA X [e] (dCons w dNil):=dm h da_nil s
theorem a2 (h:PD X e w)(h1:PD X e1 w1)(s:starEach [e,e1] X.env=(false,eval e X.env)::starEach [e1] X.env:=by rfl)(s1:starEach [e1] X.env=(false,eval e1 X.env)::starEach [] X.env:=by rfl):PDA X [e,e1] (dCons w (dCons w1 dNil)):=dm h (a1 h1 s1) s
theorem a3 (h:PD X e w)(h1:PD X e1 w1)(h2:PD X e2 w2)(s:starEach [e,e1,e2] X.env=(false,eval e X.env)::starEach [e1,e2] X.env:=by rfl)(s1:starEach [e1,e2] X.env=(false,eval e1 X.env)::starEach [e2] X.env:=by rfl)(s2:starEach [e2] X.env=(false,eval e2 X.env)::starEach [] X.env:=by rfl):PDA X [e,e1,e2] (dCons w (dCons w1 (dCons w2 dNil))):=dm h (a2 h1 h2 s1 s2) s
theorem fu (ha:PD X a wa)(hb:PD X b wb)(hs:PlainIx b:=by exact fun _ _=>rfl):PD X (.Subscript a b pos) (dOp dIx wa wb):=d_ix ixC so_ix ha hb hs
theorem dPl (ha:PD X a wa)(hb:PD X b wb):PD X (.BinOp a .Add b pos) (dOp (dAdd false) wa wb):=d_op addC so_add ha hb
theorem dMi (ha:PD X a wa)(hb:PD X b wb):PD X (.BinOp a .Sub b pos) (dOp (dI2' fun i j=>.int (i - j)) wa wb):=d_op subC so_i2' ha hb
theorem qLt (ha:PD X a wa)(hb:PD X b wb):PT X (.Compare a [.Lt] [b] pos) (tDT (dTst (dOp (dI2' fun i j=>.bl (decide (i<j))) wa wb))):=d_testC ltC so_b2' ha hb (nomark _)
theorem qLe (ha:PD X a wa)(hb:PD X b wb):PT X (.Compare a [.LtE] [b] pos) (tDT (dTst (dOp (dI2' fun i j=>.bl (decide (i<=j))) wa wb))):=d_testC leC so_b2' ha hb (nomark _)
theorem qGt (ha:PD X a wa)(hb:PD X b wb):PT X (.Compare a [.Gt] [b] pos) (tDT (dTst (dOp (dI2' fun i j=>.bl (decide (j<i))) wa wb))):=d_testC gtC so_b2' ha hb (nomark _)
theorem qGe (ha:PD X a wa)(hb:PD X b wb):PT X (.Compare a [.GtE] [b] pos) (tDT (dTst (dOp (dI2' fun i j=>.bl (decide (j<=i))) wa wb))):=d_testC geC so_b2' ha hb (nomark _)
theorem qEq (ha:PD X a wa)(hb:PD X b wb):PT X (.Compare a [.Eq] [b] pos) (tDT (dTst (dOp (dEqS false) wa wb))):=d_testC eqC so_eqS ha hb (nomark _)
theorem qNe (ha:PD X a wa)(hb:PD X b wb):PT X (.Compare a [.NotEq] [b] pos) (tDT (dTst (dOp (dEqS true) wa wb))):=d_testC neC so_eqS ha hb (nomark _)
theorem dLn (T:Bi2 X.mg)(h:PD X e w)(hg:Gl X "len":=by rfl)(he:starEach [e] X.env=(false,eval e X.env)::starEach [] X.env:=by rfl)(hpl:(backTo pos (starEach [] X.env)).any (·.1)=false:=by rfl):PD X (.Call (.Name "len" p) [e] [] pos) (dCall fLen (dCons w dNil)):=d_blt lenC so_len hg T.len cA (a1 h he) (by decide) (by decide) he hpl
section
variable {es:List Expr}{x:Str}{k k0:Nat}{ps:List Str}{f:DSp}{fx:DSpX}{u:DA}
theorem qC (C:Cal X.prog X.w X.K X.mg X.base x k ps (spD f))(hr:Room k0 X.A)(ha:PDA X (e::es) u)(hk:k<=k0:=by first | decide | exact aa _ | omega)(hg:Gl X x:=by rfl)(hdb:(x==("__debug__" : Str))=false:=by decide)(he:starEach (e::es) X.env=(false,eval e X.env)::starEach es X.env:=by rfl)(hpl:(backTo pos (starEach es X.env)).any (·.1)=false:=by rfl) :
 PD X (.Call (.Name x p) (e::es) [] pos) (dCall f u):=d_call C (hr.mono hk) hg ha hdb he hpl
end
theorem qS (i:Nat){x:Str}{pos':Pos}(hN:X.N.Nodup)(he:PD X e w)(hi:X.N[i]?=some x:=by rfl)(hx:Loc X.env.scope x:=by first | exact Or.inl rfl | exact Or.inr rfl)(hf:X.fn x=true\/X.env.scope.names.lookup x=some .local:=by first | exact .inl rfl | exact .inr rfl | assumption)
 (hsw:swapsWith e (some (.Name x pos')) pos.line X.env=pure false:=by rfl):PDS X (.Assign [.Name x pos'] e pos) (dSet i w):=s_set hN hi hx he hf hsw
theorem qN (i:Nat){x:Str}(hN:X.N.Nodup)(hi:X.N[i]?=some x:=by rfl)(hx:Loc X.env.scope x:=by first | exact Or.inl rfl | exact Or.inr rfl)(hf:X.fn x=true\/X.env.scope.names.lookup x=some .local:=by first | exact .inl rfl | exact .inr rfl | assumption):PG X (.Name x pos) (gName i):=pg_name hN hi hx hf
theorem qT (i:Nat){x:Str}(hN:X.N.Nodup)(hi:X.N[i]?=some x:=by rfl)(hx:Loc X.env.scope x:=by first | exact Or.inl rfl | exact Or.inr rfl)(hf:X.fn x=true\/X.env.scope.names.lookup x=some .local:=by first | exact .inl rfl | exact .inr rfl | assumption):Tg X (.Name x pos) (gName i) (dgName i) [i]:=⟨pg_name hN hi hx hf,dA i,dc i⟩
theorem cOk {N0 ps N:List Str}{js:List (Option Nat)}{sc sc0:Scope}(S:dw N0 ps sc0)(h:compChk N0 sc0 N js sc=true)(hN:X.N=N0:=by rfl)(hs:X.env.scope=sc0:=by rfl):CompOk X N js sc:=compOk h hN hs
section
variable {tg iter elt:Expr}{ifs:List Expr}{sc:Scope}{N:List Str}{js:List (Option Nat)}{g:TG}{y:DG}{S:List Nat}{t:Dt}{wi:DI}
theorem sCp (i:Nat)(m:Bool){pos' spos:Pos}{x:Str}(hN:X.N.Nodup)(hc:CompOk X N js sc)(so:SoG g y S)(mo:MonoG g)(hi:PDI X tg iter wi)(hg:∀ fp s H,N.Nodup->PG (cxC X N sc fp s H) tg g)
 (ht:∀ fp s H,PDTs (cxC X N sc fp s H) ifs t) (he:∀ fp s H,PD (cxC X N sc fp s H) elt w) (ho:ownJs S js=true:=by rfl) (calm:X.calm=true:=by rfl) (hx':X.N[i]?=some x:=by rfl) (hx:Loc X.env.scope x:=by first | exact Or.inl rfl | exact Or.inr rfl) (hsw:swapsWith (.ListComp elt [⟨tg,iter,ifs,0⟩] sc pos) (some (.Name x pos')) spos.line X.env=pure true:=by rfl)
 (hs:∀ x,foldedSetIterable iter X.env x=pure x:=by intro _;rfl) (hf:X.fn x=true\/X.env.scope.names.lookup x=some .local:=by first | exact .inl rfl | exact .inr rfl | assumption) :
 PDS X (.Assign [.Name x pos'] (.ListComp elt [⟨tg,iter,ifs,0⟩] sc pos) spos) (dSet i (dComp m wi js y t w)):=s_setComp m hc calm so mo ho hN hx' hx hi (fun fp s H=>hg fp s H hc.nd) ht he hsw hs hf
theorem dCp (m:Bool)(hc:CompOk X N js sc)(so:SoG g y S)(mo:MonoG g)(hi:PDI X tg iter wi)(hg:∀ fp s H,N.Nodup->PG (cxC X N sc fp s H) tg g)(ht:∀ fp s H,PDTs (cxC X N sc fp s H) ifs t)(he:∀ fp s H,PD (cxC X N sc fp s H) elt w)(ho:ownJs S js=true:=by rfl)(calm:X.calm=true:=by rfl)
 (hs:∀ x,foldedSetIterable iter X.env x=pure x:=by intro _;rfl):PD X (.ListComp elt [⟨tg,iter,ifs,0⟩] sc pos) (dComp m wi js y t w):=d_comp m hc calm so mo ho hi (fun fp s H=>hg fp s H hc.nd) ht he hs
theorem sC1 (i:Nat)(m:Bool){pos' spos:Pos}{x:Str}(hN:X.N.Nodup)(hc:CompOk X N js sc)(hi:PDI X tg iter wi)(hg:∀ fp s H,N.Nodup->PG (cxC X N sc fp s H) tg (gName 0))
 (ht:∀ fp s H,PDTs (cxC X N sc fp s H) ifs t) (he:∀ fp s H,PD (cxC X N sc fp s H) elt w) (ho:ownJs [0] js=true:=by rfl) (calm:X.calm=true:=by rfl) (hx':X.N[i]?=some x:=by rfl) (hx:Loc X.env.scope x:=by first | exact Or.inl rfl | exact Or.inr rfl) (hsw:swapsWith (.ListComp elt [⟨tg,iter,ifs,0⟩] sc pos) (some (.Name x pos')) spos.line X.env=pure true:=by rfl)
 (hs:∀ x,foldedSetIterable iter X.env x=pure x:=by intro _;rfl) (hf:X.fn x=true\/X.env.scope.names.lookup x=some .local:=by first | exact .inl rfl | exact .inr rfl | assumption) :
 PDS X (.Assign [.Name x pos'] (.ListComp elt [⟨tg,iter,ifs,0⟩] sc pos) spos) (dSet i (dComp m wi js (dgName 0) t w)):=sCp i m hN hc (dA 0) (dc 0) hi hg ht he ho calm hx' hx hsw hs hf
theorem dC1 (m:Bool)(hc:CompOk X N js sc)(hi:PDI X tg iter wi)(hg:∀ fp s H,N.Nodup->PG (cxC X N sc fp s H) tg (gName 0))(ht:∀ fp s H,PDTs (cxC X N sc fp s H) ifs t)(he:∀ fp s H,PD (cxC X N sc fp s H) elt w)(ho:ownJs [0] js=true:=by rfl)(calm:X.calm=true:=by rfl)
 (hs:∀ x,foldedSetIterable iter X.env x=pure x:=by intro _;rfl):PD X (.ListComp elt [⟨tg,iter,ifs,0⟩] sc pos) (dComp m wi js (dgName 0) t w):=dCp m hc (dA 0) (dc 0) hi hg ht he ho calm hs
end
end
end L2
namespace L2
open PySem PySem.Spec PyProof.Rows PyProof PySem.W
abbrev pA (s:Stmt):List Str:=(defArgs s).args.map (·.arg)
theorem fA {N P:List Str}{sc:Scope}(h1:sc.kind=.function:=by rfl)(h2:sc.isCoroutine=false:=by rfl)(h3:sc.isGenerator=false:=by rfl)(h4:N.Nodup:=by decide +kernel)(h5:N.take P.length=P:=by rfl)
 (h6:∀ x∈P,sc.names.lookup x=some .local\/sc.names.lookup x=some .cell:=by decide +kernel) (h7:∀ y∈sc.names,y.2≠.free:=by decide +kernel):dw N P sc:=⟨h1,h2,h3,h4,h5,h6,h7⟩
def kf (f c:Addr)(x q:Str)(s:Stmt)(pm:Value)(t l a r1 r2:Nat)(v1 v2:Value)(r3 t2:Nat):List (Addr×Obj):=[ko f (fnQ x q s pm c),ko c (coQ x q t l a r1 r2 v1 v2 r3 t2)]
def kf1 (f c:Addr)(x:Str)(s:Stmt)(pm:Value)(t l a r1 r2:Nat)(v1 v2:Value)(r3 t2:Nat):List (Addr×Obj):=kf f c x x s pm t l a r1 r2 v1 v2 r3 t2
def kx (P:Params)(a n h:Addr)(x:Str)(sl:Option Value)(t u:Nat)(m:Value)(i l:Nat)(st:Addr)(sub:List Value:=[])(bs:List Value:=[.ref h])(mro:List Value:=[.ref a,.ref h,.type "ValueError",.type "Exception",.type "BaseException",.type "object"]):List (Addr×Obj) :=
 [ko a ⟨.type "type",none,.cls ⟨x,bs,mro,n,x,true,[],sub,false,none,false⟩,#[sl,none,some (.str x t),some (.str x u),some (.builtin "ValueError.__new__"),some (.bool true)]⟩,
  ko n ⟨.type "dict",none,.dict #[enP P "__module__" i m,enP P "__firstlineno__" (i+4) (.int l (i+3)),enP P "__static_attributes__" (i+5) (.ref st),enP P "__doc__" (i+6) .none] 2,#[]⟩]
section
variable {K:Frag}{x q:Str}{s:Stmt}{f:Addr}{fd:FuncData}{ps:List Str}(F:Fun K x q s f fd)
include F
theorem bd1 (hl:ps.length=1:=by rfl)(h:∀(kV doc pm:Value) (an:Option Addr) (cdv ct a:Value),bindArgs (fnOf x q (defArgs s) (defBody s) (dk s) .none kV doc pm an cdv ct) ⟨[a],[]⟩=pure (ps.zip [a]):=by intros;rfl):Binds K fd ps []:=F.binds fun k d p n c t=>by rw[hl];exact bn1 fun a=>h k d p n c t a
theorem bd2 (hl:ps.length=2:=by rfl)(h:∀(kV doc pm:Value) (an:Option Addr) (cdv ct a b:Value),bindArgs (fnOf x q (defArgs s) (defBody s) (dk s) .none kV doc pm an cdv ct) ⟨[a,b],[]⟩=pure (ps.zip [a,b]):=by intros;rfl):Binds K fd ps []:=F.binds fun k d p n c t=>by rw[hl];exact bnS fun a=>bn1 fun b=>h k d p n c t a b
theorem bd3 (hl:ps.length=3:=by rfl)(h:∀(kV doc pm:Value) (an:Option Addr) (cdv ct a b e:Value),bindArgs (fnOf x q (defArgs s) (defBody s) (dk s) .none kV doc pm an cdv ct) ⟨[a,b,e],[]⟩=pure (ps.zip [a,b,e]):=by intros;rfl):Binds K fd ps []:=F.binds fun k d p n c t=>by rw[hl];exact bnS fun a=>bnS fun b=>bn1 fun e=>h k d p n c t a b e
theorem bd5 (hl:ps.length=5:=by rfl)(h:∀(kV doc pm:Value) (an:Option Addr) (cdv ct a b e g i:Value),bindArgs (fnOf x q (defArgs s) (defBody s) (dk s) .none kV doc pm an cdv ct) ⟨[a,b,e,g,i],[]⟩=pure (ps.zip [a,b,e,g,i]):=by intros;rfl):Binds K fd ps []:=F.binds fun k d p n c t=>by rw[hl];exact bnS fun a=>bnS fun b=>bnS fun e=>bnS fun g=>bn1 fun i=>h k d p n c t a b e g i
end
end L2
namespace L2
open PySem PySem.Spec PyProof.Rows PyProof
theorem named_len {z:Str}(h:namedB z=true):z.length<=100:=by
 unfold namedB at h
 rw[bc,bc,c6,c6]at h
 omega
end L2
namespace L2
open PySem PySem.Spec PyProof.Rows PyProof
theorem dIf_any {c:Dt}{t u:Ds}{N:DN}{ρ:DE}{μ:MS}(B:Bool->Prop)(h:∀ K:Bool->MS->Prop,(∀ b,B b->K b μ)->c ρ μ K)(ht:B true->t N ρ μ)(hu:B false->u N ρ μ):dIfS c t u N ρ μ:=h _ fun b hb=>by
 cases b with
 | true=>rw[ag rfl];exact ht hb
 | false=>rw[ae (by decide)];exact hu hb
end L2
namespace L2
open PySem PySem.Spec PyProof.Rows PyProof
def fKindsJ (K:PySem.W.Frag)(cs:List Addr)(cH:Addr):DSp:=fun ds μ Kd=>match ds with
 | [.mr k]=>(∃ m,μ[0]?=some m)/\k≠0/\∃ j,j<17/\μ[k]?=some (.exc (.ref (cs.getD j 0)))/\KinB K cs cH j/\Kd (.lst [.str (kWord j)]) μ
 | _=>False
theorem fKindsJ_len {K:PySem.W.Frag}{cs:List Addr}{cH:Addr}{ds:List D}{μ:MS}{Kd:DK}(h:fKindsJ K cs cH ds μ Kd):ds.length=1/\∃ m,μ[0]?=some m:=by
 unfold fKindsJ at h
 split at h
 ·exact⟨rfl,h.1⟩
 ·exact h.elim
def kWords:List Str:=["BadBars", "BadMake", "BadNumber", "BadText", "BadName", "BadAge", "BadBar", "BadPlace", "BadSize", "Taken", "Full", "NoTake", "Shut", "Joined", "Needed", "NothingLeft", "NoWay", "no ValueError"]
def kBits (j:Nat):List D:=(List.range 17).map (fun i=>D.bl (decide (i=j)))++[.bl false]
theorem kBits_at {j i:Nat}(hj:j<17)(hi:i<18):(kBits j)[i]?=some (.bl (decide (i=j))):=by
 unfold kBits
 by_cases h:i<17
 ·rw[gxF (by rw[fC,gxJ];exact h),gxH,cF h];rfl
 ·rw[gxG (by rw[fC,gxJ];omega),fC,gxJ,show i - 17=0 by omega,aj (by omega)];rfl
theorem kOne:∀ j:Nat,j<17->((List.range 18).filterMap fun i=>if i=j then some (kWords.getD i "")else none)=[kWord j]:=by
 decide +kernel
theorem kWords_at {i:Nat}(hi:i<18):kWords[i]?=some (kWords.getD i ""):=by
 rw[aU]
 cases e:kWords[i]? with
 | none=>exact absurd (List.getElem?_eq_none_iff.mp e) (by show ¬ 18<=i;omega)
 | some x=>rfl
theorem compW_kinds {it:D->MS->(Option D->MS->Prop)->Prop}{c:MS->Prop}{μ:MS}{j:Nat}(hj:j<17)(hc:c μ){K:List D->MS->Prop}(h:∀(i:Nat) (K':Option D->MS->Prop),i<18->(kBits j)[i]?=some (.bl (decide (i=j)))->kWords[i]?=some (kWords.getD i "")->(i=j->K' (some (.str (kWords.getD i ""))) μ)->(i≠j->K' none μ)->it (.int (0+(i:Int))) μ K')(k:K [.str (kWord j)] μ):compW it c (rngD 0 18) μ K:=by
 refine compW_gen hc (fun i:Nat=>D.int (0+(i:Int))) (fun i=>if i=j then some (D.str (kWords.getD i ""))else none) (fun i hi K' k'=>?_) ?_
 ·have hi:=List.mem_range.mp hi
  refine h i K' hi (kBits_at hj hi) (kWords_at hi) (fun e=>?_) (fun e=>?_)
  ·rw[ag e]at k';exact k'
  ·rw[ae e]at k';exact k'
 ·have e:((List.range 18).filterMap fun i=>if i=j then some (D.str (kWords.getD i ""))else none)=[.str (kWord j)]:=by
   have t:=bD (List.map D.str) (kOne j hj)
   rw[List.map_filterMap]at t
   refine Eq.trans ?_ t
   congr 1
   funext i
   split <;> rfl
  rw[e]
  exact k
def wordT:Option Nat->Str
 | none => ""
 | some i=>kWord i
def fNamedL:DSp:=fun ds μ K=>match ds with
 | [.str z]=>z.length<=1000/\K (.bl (namedB z)) μ
 | _=>False
def fNewWord:DSp:=fun ds μ K=>match ds with
 | [x,.str z]=>z.length<=1000/\∃ S m,x=slD S/\RWf S m/\K (.str (wordT (newW S z))) μ
 | _=>False
def fPlaceWord:DSp:=fun ds μ K=>match ds with
 | [x,.int p]=>∃ S,x=slD S/\K (.str (wordT (fv S p))) μ
 | _=>False
def fWordD (ok:Nat->Bool):DSp:=fun ds μ K=>match ds with
 | [x,y]=>∃ S m d,x=slD S/\y=ddD d/\ok (ddW d)=true/\RWf S m/\ddOk d/\K (.str (wordT (refW S d))) μ
 | _=>False
def w0 (n:Nat):Bool:=n==0
def w1 (n:Nat):Bool:=n==1
def w24 (n:Nat):Bool:=n==2||n==3||n==4
def wAll (_:Nat):Bool:=true
def fToldD (K:PySem.W.Frag)(cs:List Addr)(cH cR cS:Addr):DSp:=fun ds μ Kd=>match ds with
 | [.mr k,y]=>(∃ m,μ[0]?=some m)/\(∀ j,j<16->KinB K cs cH j)/\∃ j1 j2 ss rs d S e,eP cR cS μ k j1 j2 ss rs d/\ss[d]?=some S/\y=ddD e/\ddOk e/\rs.length<900/\(match refW S e with | some i=>Kd (.tup [.str "refused",.lst [.str (kWord i)]]) μ | none=>Kd (.tup [.str "done",.bl true]) (putR cR cS μ k j1 j2 (ss.take (d+1)++[doD S e]) (rs.take d++[e]) (d+1)))
 | _=>False
theorem refW_lt {S:RS}{e:Dd}{i:Nat}(h:refW S e=some i):i<16:=by
 have a1:∀ {nm:Str},newW S nm=some i->i<16:=fun {nm} h=>by
  unfold newW at h;split at h
  ·cases h;decide
  ·split at h
   ·cases h;decide
   ·split at h
    ·cases h;decide
    ·cases h
 have a2:∀ {p:Int},fv S p=some i->i<16:=fun {p} h=>by
  unfold fv at h;split at h
  ·cases h
  ·cases h;decide
 have a3:∀ {a:Int},ageW a=some i->i<16:=fun {p} h=>by
  unfold ageW at h;split at h
  ·cases h
  ·cases h;decide
 have orE:∀ {a b:Option Nat},a.or b=some i->(a=some i->i<16)->(b=some i->i<16)->i<16:=fun {a b} h h1 h2=>by
  cases a with
  | none=>exact h2 h
  | some x=>exact h1 h
 cases e with
 | put nm b a =>
  refine orE h a1 fun h=>?_
  split at h
  ·exact a3 h
  ·cases h;decide
 | join nm l r p =>
  refine orE h a1 fun h=>?_
  split at h
  ·cases h;decide
  ·split at h
   ·cases h;decide
   ·refine orE h a2 fun h=>?_
    split at h
    ·cases h;decide
    ·cases h
 | found nm bar sg =>
  have h:(if hasN S nm=false then some 11 else if 0<=bar/\bar<S.n then(if sg = "o"\/sg = "x" then none else some 0)else some 6)=some i:=h
  split at h
  ·cases h;decide
  ·split at h
   ·split at h
    ·cases h
    ·cases h;decide
   ·cases h;decide
 | aged nm a =>
  have h:(match du S.kept nm with | none=>some 11 | some (.jn _ _ _)=>some 13 | some (.fst _ _)=>ageW a)=some i:=h
  split at h
  ·cases h;decide
  ·cases h;decide
  ·exact a3 h
 | drop nm =>
  have h:(if hasN S nm=false then some 11 else if needN S nm=true then some 14 else none)=some i:=h
  split at h
  ·cases h;decide
  ·split at h
   ·cases h;decide
   ·cases h
 | free p=>exact a2 h
 | eX p=>exact a2 h
def abcT:Str := "abcdefghijklmnopqrstuvwxyz"
theorem abc_mem (c:Nat):decide (c∈abcT.cps.toList)=(decide (97<=c)&&decide (c<=122)):=by
 have e:abcT.cps.toList=(List.range 26).map (97+·):=by decide +kernel
 rw[e]
 have:c∈(List.range 26).map (97+·)↔97<=c/\c<=122:=by
  rw[List.mem_map]
  constructor
  ·rintro⟨a,ha,rfl⟩;have:=List.mem_range.mp ha;omega
  ·intro h;exact⟨c - 97,List.mem_range.mpr (by omega),by omega⟩
 rw[<- Bool.decide_and]
 exact decide_eq_decide.mpr this
theorem ox_mem (c:Nat):decide (c∈(Str.ofString "ox").cps.toList)=(decide (c=111)||decide (c=120)):=by
 have e:(Str.ofString "ox").cps.toList=[111,120]:=by decide +kernel
 rw[e,<- Bool.decide_or]
 exact decide_eq_decide.mpr (by simp)
theorem ox_any (b:Str):((b.cps.toList.map fun c=>!(decide (c=111)||decide (c=120))).any id)=!oxB b:=by
 unfold oxB
 induction b.cps.toList with
 | nil=>rfl
 | cons c l ih=>rw[ai,bf,cJ,ih,Bool.not_and];rfl
theorem dIfe_of {c:Dt}{wa wb:De}{ρ:DE}{μ:MS}{K:DK}(b:Bool)(h:TV c ρ μ b)(ht:b=true->wa ρ μ K)(hu:b=false->wb ρ μ K):dIf c wa wb ρ μ K:=h _ (by
 cases b with
 | true=>rw[ag rfl];exact ht rfl
 | false=>rw[ae (by decide)];exact hu rfl)
theorem kWord_ne (i:Nat)(h:i<17):decide (kWord i=("" : Str))=false:=by
 have:∀ i:Nat,i<17->decide (kWord i=("" : Str))=false:=by decide +kernel
 exact this i h
theorem wordT_ne {o:Option Nat}(h:∀ i,o=some i->i<17):decide (wordT o=("" : Str))=o.isNone:=by
 cases o with
 | none=>decide +kernel
 | some i=>exact kWord_ne i (h i rfl)
theorem newW_lt {S:RS}{nm:Str}{i:Nat}(h:newW S nm=some i):i<17:=by
 unfold newW at h;split at h
 ·cases h;decide
 ·split at h
  ·cases h;decide
  ·split at h
   ·cases h;decide
   ·cases h
theorem str_app_len (a b:Str):(a++b).length=a.length+b.length:=by
 show(a.cps++b.cps).size=_
 rw[Array.size_append];rfl
theorem dIf_gen {c:Dt}{t u:Ds}{N:DN}{ρ:DE}{μ:MS}(B:Bool->MS->Prop)(h:∀ K:Bool->MS->Prop,(∀ b μ',B b μ'->K b μ')->c ρ μ K)(ht:∀ μ',B true μ'->t N ρ μ')(hu:∀ μ',B false μ'->u N ρ μ'):dIfS c t u N ρ μ:=h _ fun b μ' hb=>by
 cases b with
 | true=>rw[ag rfl];exact ht μ' hb
 | false=>rw[ae (by decide)];exact hu μ' hb
def dueD (o:Option Nat):D:=match o with
 | some i=>.tup [.str "refused",.lst [.str (kWord i)]]
 | none=>.tup [.str "done",.bl true]
theorem sm_due (o:Option Nat):smD 5 (dueD o):=by
 cases o with
 | none=>exact sm_tup (by simp only[aG,cN];omega) (fun d hd=>by simp only[bF,bp,cI]at hd;rcases hd with rfl | rfl;exact sm_str;exact sm_bl)
 | some i=>exact sm_tup (by simp only[aG,cN];omega) (fun d hd=>by simp only[bF,bp,cI]at hd;rcases hd with rfl | rfl;exact sm_str;exact sm_lst (by simp only[aG,cN];omega) fun d hd=>by rw[List.mem_singleton.mp hd];exact sm_str)
theorem k16 {K:PySem.W.Frag}{cs:List Addr}{cH:Addr}(h0:KinB K cs cH 0)(h1:KinB K cs cH 1)(h2:KinB K cs cH 2)(h3:KinB K cs cH 3)(h4:KinB K cs cH 4)(h5:KinB K cs cH 5)(h6:KinB K cs cH 6)(h7:KinB K cs cH 7)(h8:KinB K cs cH 8)(h9:KinB K cs cH 9)(ha:KinB K cs cH 10)(hb:KinB K cs cH 11)(hc:KinB K cs cH 12)(hd:KinB K cs cH 13)(he:KinB K cs cH 14)(hf:KinB K cs cH 15):∀ j,j<16->KinB K cs cH j
 | 0,_=>h0 | 1,_=>h1 | 2,_=>h2 | 3,_=>h3 | 4,_=>h4 | 5,_=>h5 | 6,_=>h6 | 7,_=>h7 | 8,_=>h8 | 9,_=>h9 | 10,_=>ha | 11,_=>hb | 12,_=>hc | 13,_=>hd | 14,_=>he | 15,_=>hf
 | n+16,h=>absurd h (by omega)
theorem kB {K:PySem.W.Frag}{cs:List Addr}{cH:Addr}{j:Nat}(e1:(PySem.W.clsIn K (cs.getD j 0)).isSome=true:=by kernel_rfl)(e2:PySem.W.findIn K (.ref (cs.getD j 0)) "__getattribute__"=some (some (.builtin "BaseException.__getattribute__")):=by kernel_rfl)(e3:PySem.W.findIn K (.ref (cs.getD j 0)) "__getattr__"=some none:=by kernel_rfl)
 (e4:PySem.W.findIn K (.ref (cs.getD j 0)) "__class__"=some (some (.builtin "object.__class__")):=by kernel_rfl) (e5:PySem.W.specialIn K (.builtin "object.__class__") "__get__"=some (some (.builtin "getset_descriptor.__get__")):=by kernel_rfl) (e6:PySem.W.takesIn K (.builtin "object.__class__")=some true:=by kernel_rfl) (e7:PySem.W.mroIn K (cs.getD j 0) (.type "object")=some true:=by kernel_rfl) (e8:PySem.W.mroIn K (cs.getD j 0) (.type "BaseException")=some true:=by kernel_rfl)
 (k:kitB K cs j=true:=by kernel_rfl) (v:PySem.W.kitOne K (.ref (cs.getD j 0)) (.type "ValueError")=some true:=by kernel_rfl) (q1:PySem.W.excIn K cH veB "ValueError.__new__"=true:=by kernel_rfl) (q2:PySem.W.excIn K (cs.getD j 0) veB "ValueError.__new__"=true:=by kernel_rfl) (q3:subIn K (cs.getD j 0) cH=true:=by kernel_rfl):KinB K cs cH j:=⟨⟨e1,e2,e3,e4,e5,e6,e7,e8⟩,k,v,sub_of q1 q2 q3⟩
end L2
namespace L2
open PySem PySem.Spec PyProof.Rows PyProof
end L2
namespace L2
open PySem PySem.Spec PyProof.Rows PyProof
end L2
namespace L2
open PySem PySem.Spec PyProof.Rows
end L2
namespace L2
open PySem PySem.Spec PyProof.Rows PyProof
end L2
namespace L2
open PySem PySem.Spec PyProof.Rows PyProof
end L2
namespace L2
open PySem PySem.Spec PyProof.Rows PyProof
def fNamesD:DSp:=fun ds μ K=>match ds with
 | [.mr k,.int many]=>μ[k]?=some .box/\1<=many/\many<=26/\∀ pool:List Str,(pool.length:Int)=many->poolOk pool->pool.Nodup->K (strL pool) μ
 | _=>False
def ch26 (x:Int):Nat:=97+x.toNat
theorem abc_ex {v:Int}(h0:0<=v)(h1:v<26):atI (Str.ofString "abcdefghijklmnopqrstuvwxyz").cps.toList v=some (ch26 v):=by
 have h:∀ i:Fin 26,atI (Str.ofString "abcdefghijklmnopqrstuvwxyz").cps.toList ((i.1:Nat):Int)=some (ch26 ((i.1:Nat):Int)):=by decide +kernel
 have:=h ⟨v.toNat,by omega⟩
 rw[show((v.toNat:Nat):Int)=v from Int.toNat_of_nonneg h0]at this
 exact this
theorem names_nd {rows:List Str}{n:Nat}{a:Int}(hl:rows.length<=26)(h:∀(t:Nat) (z:Str),rows[t]?=some z->z.cps.toList[n]?=some (ch26 ((a+7*(t:Int))%26))):rows.Nodup:=by
 refine List.pairwise_iff_getElem.mpr fun i j hi hj hij e=>?_
 have h1:=h i _ (gxA hi)
 have h2:=h j _ (gxA hj)
 rw[<- e,h1]at h2
 have h2:=aJ h2
 unfold ch26 at h2
 have:=cQ (a+7*(i:Int)) (show(26:Int)≠0 by decide)
 have:=cQ (a+7*(j:Int)) (show(26:Int)≠0 by decide)
 omega
theorem lone_ne {kept:List (Str×Pt)}(kp:Kpt kept)(h:kept≠[]):0<(loneR kept).length:=by
 obtain⟨r,q,rfl⟩:∃ r q,kept=r++[q]:=⟨kept.dropLast,kept.getLast h,(List.dropLast_concat_getLast h).symm⟩
 have nd:=kp.nd
 have hq:q.1∉r.map (·.1):=fun hm=>by
  rw[aE]at nd
  exact(List.nodup_append.mp nd).2.2 _ hm _ av rfl
 have iq:idxN (r++[q]) q.1=r.length:=idx_new hq
 refine List.length_pos_of_mem (a:=q.1) (List.mem_filter.mpr ⟨List.mem_map.mpr ⟨q,aD _ av,rfl⟩,?_⟩)
 rw[Bool.not_eq_true']
 refine Bool.eq_false_iff.mpr fun hx=>?_
 obtain⟨⟨pn,pt⟩,hp,hn⟩:=List.any_eq_true.mp hx
 cases pt with
 | fst _ _=>cases hn
 | jn l r' c =>
  have eg:=aget_of_mem nd hp
  obtain⟨i1,i2⟩:=kp.low _ _ _ _ eg
  have lt:idxN (r++[q]) pn<(r++[q]).length:=idx_in.mpr (List.mem_map.mpr ⟨_,hp,rfl⟩)
  rw[gxE]at lt
  have lt:idxN (r++[q]) pn<r.length+1:=lt
  rcases Bool.or_eq_true_iff.mp (show(decide (l=q.1)||decide (r'=q.1))=true from hn)with e | e
  ·rw[bB e,iq]at i1;omega
  ·rw[bB e,iq]at i2;omega
def isNewD:Dd->Prop
 | .put _ _ _=>True
 | .join _ _ _ _=>True
 | _=>False
def fNewD:DSp:=fun ds μ K=>match ds with
 | [.mr k,x,y]=>μ[k]?=some .box/\∃ S m pool,x=slD S/\y=strL pool/\RWf S m/\poolOk pool/\∀ d,ddOk d->isNewD d->K (ddD d) μ
 | _=>False
def fRightD (K:PySem.W.Frag)(cs:List Addr)(cH cR cS:Addr):DSp:=fun ds μ Kd=>match ds with
 | [.mr k,x,y]=>(∃ m,μ[0]?=some m)/\(∀ j,j<16->KinB K cs cH j)/\∃ j1 j2 ss rs d S e,eP cR cS μ k j1 j2 ss rs d/\ss[d]?=some S/\x=slD S/\y=ddD e/\ddOk e/\rs.length<900/\(match refW S e with | some i=>Kd (.bl true) μ | none=>Kd (.bl true) (putR cR cS μ k j1 j2 (ss.take (d+1)++[doD S e]) (rs.take d++[e]) (d+1)))
 | _=>False
theorem isn_kept {S:RS}{e:Dd}(h:isNewD e)(hk:S.kept≠[]):(doD S e).kept≠[]:=by
 have:∀(nm:Str) (x:Pt),fE S.kept nm x≠[]:=fun nm x hx=>by
  have:=bD List.length hx
  cases eg:du S.kept nm with
  | none=>rw[aput_new eg,gxE]at this;cases this
  | some y=>rw[(aput_old eg).2]at this;exact hk (List.length_eq_zero_iff.mp this)
 cases e with
 | put nm b a=>exact this _ _
 | join nm l r p=>exact this _ _
 | _=>exact h.elim
theorem new_at {S:RS}{pool:List Str}{i:Nat}{z:Str}(ek:S.kept.map (·.1)=pool.take i)(hi:i<20)(nd:pool.Nodup)(ok:poolOk pool)(ez:pool[i]?=some z):newW S z=none:=by
 obtain⟨hl,rfl⟩:=gxB ez
 have hn:pool[i]∉S.kept.map (·.1):=fun hm=>by
  rw[ek]at hm
  obtain⟨j,hj,e⟩:=bQ hm
  rw[aM]at hj
  rw[List.getElem_take]at e
  have:=(List.getElem_inj nd).mp e
  omega
 have hh:hasN S pool[i]=false:=by
  refine Bool.eq_false_iff.mpr fun h=>hn (eS.mp h)
 have kl:S.kept.length=min i pool.length:=by rw[<- fC (·.1),ek,aM]
 unfold newW
 rw[ae (by rw[ok.2.2 _ (ck hl)];decide),ae (by rw[hh];decide),ae (by omega)]
theorem keys_at {S:RS}{pool:List Str}{i:Nat}{z:Str}{x:Pt}(ek:S.kept.map (·.1)=pool.take i)(hn:newW S z=none)(ez:pool[i]?=some z):(fE S.kept z x).map (·.1)=pool.take (i+1):=by
 rw[aput_new (newW_none hn).2.1,aE,ek,List.take_add_one,ez];rfl
theorem dtAnd_gen {a c:Dt}{ρ:DE}{μ:MS}{x:Bool}{K:Bool->MS->Prop}(h1:TV a ρ μ x)(hf:x=false->K false μ)(ht:x=true->c ρ μ K):dtAnd a c ρ μ K:=h1 _ (by
 cases x with
 | true=>rw[ag rfl];exact ht rfl
 | false=>rw[ae (by decide)];exact hf rfl)
end L2
namespace Pf
open PySem L2 PyProof.Rows
def top (i:Nat):Stmt:=PySem.Challenge.pw_hissroom_k34_a_room_is_full.main.body.getD i (.Pass ⟨0,0,0,0⟩)
def met (i j:Nat):Stmt:=(clsBody (top i)).getD j (.Pass ⟨0,0,0,0⟩)
abbrev s_box:Stmt:=top 46
abbrev s_take:Stmt:=top 47
abbrev s_bars:Stmt:=top 48
abbrev s_same:Stmt:=top 70
abbrev s_is_bars:Stmt:=top 21
abbrev s_joined:Stmt:=top 22
abbrev s_with_key:Stmt:=top 40
abbrev s_without_key:Stmt:=top 41
abbrev fF:Stmt:=met 27 0
abbrev eW:Stmt:=met 27 1
abbrev s_Stand_parts:Stmt:=met 27 2
abbrev s_Stand_source:Stmt:=met 27 3
abbrev eG:Stmt:=met 27 4
abbrev s_Stand_take:Stmt:=met 27 5
abbrev s_Stand_shelf:Stmt:=met 27 6
abbrev s_check_new:Stmt:=top 37
abbrev s_check_age:Stmt:=top 38
abbrev s_check_place:Stmt:=top 39
abbrev s_put:Stmt:=top 28
abbrev s_join:Stmt:=top 29
abbrev s_found:Stmt:=top 30
abbrev s_aged:Stmt:=top 31
abbrev s_drop:Stmt:=top 32
abbrev s_free:Stmt:=top 33
abbrev s_shut:Stmt:=top 34
abbrev s_stand_behind:Stmt:=top 36
abbrev s_Room___init__:Stmt:=met 44 0
abbrev s_Room_now:Stmt:=met 44 1
abbrev s_Room_deed:Stmt:=met 44 9
abbrev s_Room_size:Stmt:=met 44 14
abbrev s_Room_names:Stmt:=met 44 15
abbrev s_Room_bars:Stmt:=met 44 16
abbrev s_Room_age:Stmt:=met 44 17
abbrev s_Room_parts:Stmt:=met 44 18
abbrev s_Room_source:Stmt:=met 44 19
abbrev s_Room_cuts:Stmt:=met 44 20
abbrev s_Room_takes:Stmt:=met 44 21
abbrev s_names:Stmt:=top 60
abbrev s_origin:Stmt:=top 49
abbrev s_ages:Stmt:=top 50
abbrev s_heard:Stmt:=top 51
abbrev s_takes:Stmt:=top 52
abbrev s_open:Stmt:=top 53
abbrev s_done:Stmt:=top 54
abbrev s_lone:Stmt:=top 55
abbrev s_stands:Stmt:=top 71
abbrev s_named:Stmt:=top 61
abbrev s_new_word:Stmt:=top 62
abbrev s_place_word:Stmt:=top 63
abbrev s_put_word:Stmt:=top 64
abbrev s_join_word:Stmt:=top 65
abbrev s_take_word:Stmt:=top 66
abbrev s_word:Stmt:=top 67
abbrev s_kinds:Stmt:=top 68
abbrev s_told:Stmt:=top 69
abbrev s_new:Stmt:=top 72
abbrev s_right:Stmt:=top 73
abbrev s_law:Stmt:=top 74
structure ZStand (K:PySem.W.Frag)(C:Addr):Prop where
 cl:Cls K C
 n_length:PySem.W.findIn K (.ref C) "length"=some none
 fw:PySem.W.findIn K (.ref C) "made_of"=some none
 n_firsts:PySem.W.findIn K (.ref C) "firsts"=some none
 n_closed:PySem.W.findIn K (.ref C) "closed"=some none
structure ZRoom (K:PySem.W.Frag)(C:Addr):Prop where
 cl:Cls K C
 n_stands:PySem.W.findIn K (.ref C) "stands"=some none
 n_rows:PySem.W.findIn K (.ref C) "rows"=some none
 n_done:PySem.W.findIn K (.ref C) "done"=some none
theorem sc_box:dw ["_law_script"] (pA s_box) (dk s_box):=fA
theorem sc_take:dw ["_law_box_here", "_law_many", "_law_rest", "_law_cell", "_law_one", "_law_two"] (pA s_take) (dk s_take):=fA
theorem sc_bars:dw ["_law_box_here", "_law_size", "_law_kind", "_law_first", "_law_behind"] (pA s_bars) (dk s_bars):=fA
theorem sc_same:dw ["_law_found", "_law_due"] (pA s_same) (dk s_same):=fA
theorem sc_is_bars:dw ["size", "text"] (pA s_is_bars) (dk s_is_bars):=fA
theorem sc_joined:dw ["one", "other", "place", "bars", "age", "other_bars", "other_age", "cut"] (pA s_joined) (dk s_joined):=fA
theorem sc_with_key:dw ["table", "key", "thing", "told"] (pA s_with_key) (dk s_with_key):=fA
theorem sc_without_key:dw ["table", "key"] (pA s_without_key) (dk s_without_key):=fA
theorem sc_Stand___init__:dw ["self", "length", "made_of", "firsts", "closed"] (pA fF) (dk fF):=fA
theorem sc_Stand_check_there:dw ["self", "name"] (pA eW) (dk eW):=fA
theorem sc_Stand_parts:dw ["self", "name"] (pA s_Stand_parts) (dk s_Stand_parts):=fA
theorem fe:dw ["self", "name", "bar", "parts", "copies", "left", "right", "place"] (pA s_Stand_source) (dk s_Stand_source):=fA
theorem eB:dw ["self", "told", "name", "parts", "left", "right", "place"] (pA eG) (dk eG):=fA
theorem sc_Stand_take:dw ["self", "name"] (pA s_Stand_take) (dk s_Stand_take):=fA
theorem sc_Stand_shelf:dw ["self", "cuts"] (pA s_Stand_shelf) (dk s_Stand_shelf):=fA
theorem sc_check_new:dw ["stand", "name"] (pA s_check_new) (dk s_check_new):=fA
theorem sc_check_age:dw ["age"] (pA s_check_age) (dk s_check_age):=fA
theorem sc_check_place:dw ["stand", "place"] (pA s_check_place) (dk s_check_place):=fA
theorem sc_put:dw ["stand", "row", "word", "name", "bars", "age", "made_of"] (pA s_put) (dk s_put):=fA
theorem sc_join:dw ["stand", "row", "word", "name", "left", "right", "place"] (pA s_join) (dk s_join):=fA
theorem sc_found:dw ["stand", "row", "word", "name", "bar", "sign", "first", "copies", "bars", "age", "heard"] (pA s_found) (dk s_found):=fA
theorem sc_aged:dw ["stand", "row", "word", "name", "age", "bars", "before"] (pA s_aged) (dk s_aged):=fA
theorem sc_drop:dw ["stand", "row", "word", "name", "made_of"] (pA s_drop) (dk s_drop):=fA
theorem sc_free:dw ["stand", "row", "word", "place"] (pA s_free) (dk s_free):=fA
theorem sc_shut:dw ["stand", "row", "word", "place"] (pA s_shut) (dk s_shut):=fA
theorem sc_stand_behind:dw ["stand", "row", "deed"] (pA s_stand_behind) (dk s_stand_behind):=fA
theorem sc_Room___init__:dw ["self", "size"] (pA s_Room___init__) (dk s_Room___init__):=fA
theorem sc_Room_now:dw ["self"] (pA s_Room_now) (dk s_Room_now):=fA
theorem sc_Room_deed:dw ["self", "row", "stand"] (pA s_Room_deed) (dk s_Room_deed):=fA
theorem sc_Room_size:dw ["self"] (pA s_Room_size) (dk s_Room_size):=fA
theorem sc_Room_names:dw ["self"] (pA s_Room_names) (dk s_Room_names):=fA
theorem sc_Room_bars:dw ["self", "name"] (pA s_Room_bars) (dk s_Room_bars):=fA
theorem sc_Room_age:dw ["self", "name"] (pA s_Room_age) (dk s_Room_age):=fA
theorem sc_Room_parts:dw ["self", "name"] (pA s_Room_parts) (dk s_Room_parts):=fA
theorem sc_Room_source:dw ["self", "name", "bar"] (pA s_Room_source) (dk s_Room_source):=fA
theorem sc_Room_cuts:dw ["self", "size", "cuts", "takes"] (pA s_Room_cuts) (dk s_Room_cuts):=fA
theorem sc_Room_takes:dw ["self", "size", "cuts", "takes"] (pA s_Room_takes) (dk s_Room_takes):=fA
theorem sc_names:dw ["_law_box_here", "_law_many", "_law_letters", "_law_size", "_law_place", "_law_alike", "_law_first", "_law_rows", "_law_k", "_law_row"] (pA s_names) (dk s_names):=fA
theorem sc_origin:dw ["_law_kept", "_law_name", "_law_bar", "_law_copies", "_law_word_here", "_law_left", "_law_right_here", "_law_place"] (pA s_origin) (dk s_origin):=fA
theorem sc_ages:dw ["_law_kept", "_law_found", "_law_name", "_law_part"] (pA s_ages) (dk s_ages):=fA
theorem sc_heard:dw ["_law_state", "_law_name", "_law_kept"] (pA s_heard) (dk s_heard):=fA
theorem sc_takes:dw ["_law_state", "_law_ages_here"] (pA s_takes) (dk s_takes):=fA
theorem sc_open:dw ["_law_state"] (pA s_open) (dk s_open):=fA
theorem sc_done:dw ["_law_state", "_law_deed", "_law_size", "_law_kept", "_law_shut", "_law_name", "_law_word_here", "_law_text", "_law_old"] (pA s_done) (dk s_done):=fA
theorem sc_lone:dw ["_law_kept", "_law_used", "_law_part"] (pA s_lone) (dk s_lone):=fA
theorem sc_stands:dw ["_law_room", "_law_state", "_law_names_here", "_law_takes_here", "_law_k", "_law_part", "_law_due", "_law_told_here", "_law_bar"] (pA s_stands) (dk s_stands):=fA
theorem sc_named:dw ["_law_text"] (pA s_named) (dk s_named):=fA
theorem sc_new_word:dw ["_law_state", "_law_name"] (pA s_new_word) (dk s_new_word):=fA
theorem sc_place_word:dw ["_law_state", "_law_place"] (pA s_place_word) (dk s_place_word):=fA
theorem sc_put_word:dw ["_law_state", "_law_deed", "_law_word_here"] (pA s_put_word) (dk s_put_word):=fA
theorem sc_join_word:dw ["_law_state", "_law_deed", "_law_word_here"] (pA s_join_word) (dk s_join_word):=fA
theorem sc_take_word:dw ["_law_state", "_law_deed", "_law_part", "_law_other"] (pA s_take_word) (dk s_take_word):=fA
theorem sc_word:dw ["_law_state", "_law_deed"] (pA s_word) (dk s_word):=fA
theorem sc_kinds:dw ["_law_e", "_law_found", "_law_words"] (pA s_kinds) (dk s_kinds):=fA
theorem sc_told:dw ["_law_room", "_law_deed", "_law_found", "_law_e"] (pA s_told) (dk s_told):=fA
theorem sc_new:dw ["_law_box_here", "_law_state", "_law_pool", "_law_names_here", "_law_name", "_law_some", "_law_text", "_law_left", "_law_right_here"] (pA s_new) (dk s_new):=fA
theorem sc_right:dw ["_law_room", "_law_state", "_law_deed", "_law_word_here", "_law_due"] (pA s_right) (dk s_right):=fA
theorem sc_law:dw ["_law_script", "_law_box_here", "_law_size", "_law_room", "_law_state", "_law_pool", "_law_k", "_law_deed", "_law_turn", "_law_lone_here", "_law_name"] (pA s_law) (dk s_law):=fA
def dg:Addr:=316
def cRoom:Addr:=612
def cNoTake:Addr:=164
def cBadBar:Addr:=116
def cBadName:Addr:=92
def cTaken:Addr:=140
def cFull:Addr:=152
def cBadAge:Addr:=104
def cBadPlace:Addr:=128
def cBadBars:Addr:=44
def cShut:Addr:=176
def cJoined:Addr:=188
def cNeeded:Addr:=200
def cBadSize:Addr:=224
def cBadMake:Addr:=56
def cBadNumber:Addr:=68
def cBadText:Addr:=80
def cNothingLeft:Addr:=212
def cNoWay:Addr:=243
def cHissError:Addr:=31
def a_put:Addr:=327
def a_join:Addr:=334
def a_found:Addr:=341
def a_aged:Addr:=348
def a_drop:Addr:=353
def a_free:Addr:=360
def a_shut:Addr:=367
abbrev rcs:List Addr:=[cBadBars,cBadMake,cBadNumber,cBadText,cBadName,cBadAge,cBadBar,cBadPlace,cBadSize,cTaken,cFull,cNoTake,cShut,cJoined,cNeeded,cNothingLeft,cNoWay]
section
variable (P:Program)(w:World)(K:PySem.W.Frag)(mg:Str->Option Value)(base:Heap)
abbrev c_box:Prop:=Cal P w K mg base "_law_box" 1 (pA s_box) (spBoxQ K)
abbrev c_take:Prop:=Cal P w K mg base "_law_take" 1 (pA s_take) (spD fTake)
abbrev c_bars:Prop:=Cal P w K mg base "_law_bars" 2 (pA s_bars) (spD fBars)
abbrev c_same:Prop:=Cal P w K mg base "_law_same" 6 (pA s_same) (spD fSame)
abbrev c_is_bars:Prop:=Cal P w K mg base "is_bars" 1 (pA s_is_bars) (spD fIsBars)
abbrev c_joined:Prop:=Cal P w K mg base "joined" 1 (pA s_joined) (spD fJoined)
abbrev c_with_key:Prop:=Cal P w K mg base "with_key" 1 (pA s_with_key) (spD fWith)
abbrev c_without_key:Prop:=Cal P w K mg base "without_key" 1 (pA s_without_key) (spD fWithout)
abbrev eR:Prop:=CalI P w K mg base "Stand" dg 1 (pA fF) (spD (fStInit dg))
abbrev c_Stand_check_there:Prop:=CalMX P w K mg base dg "check_there" 1 (pA eW) (spX (fThere dg rcs))
abbrev c_Stand_parts:Prop:=CalMX P w K mg base dg "parts" 2 (pA s_Stand_parts) (spX (fPartsS dg rcs))
abbrev c_Stand_source:Prop:=CalMX P w K mg base dg "source" 3 (pA s_Stand_source) (spX (fSourceS dg rcs))
abbrev c_Stand_takes_by_names:Prop:=CalM P w K mg base dg "takes_by_names" 2 (pA eG) (spD (fByNames dg))
abbrev c_Stand_take:Prop:=CalMX P w K mg base dg "take" 3 (pA s_Stand_take) (spX (fTakeS dg rcs))
abbrev c_Stand_shelf:Prop:=CalM P w K mg base dg "shelf" 3 (pA s_Stand_shelf) (spD (fShelfS dg))
abbrev c_check_new:Prop:=CalX P w K mg base "check_new" 1 (pA s_check_new) (spX (fNew dg rcs))
abbrev c_check_age:Prop:=CalX P w K mg base "check_age" 1 (pA s_check_age) (spX (fAgeC rcs))
abbrev c_check_place:Prop:=CalX P w K mg base "check_place" 1 (pA s_check_place) (spX (fPlaceC dg rcs))
abbrev c_put:Prop:=CalX P w K mg base "put" 6 (pA s_put) (spX (fDeed1 dg rcs 0))
abbrev c_join:Prop:=CalX P w K mg base "join" 6 (pA s_join) (spX (fDeed1 dg rcs 1))
abbrev c_found:Prop:=CalX P w K mg base "found" 6 (pA s_found) (spX (fDeed1 dg rcs 2))
abbrev c_aged:Prop:=CalX P w K mg base "aged" 6 (pA s_aged) (spX (fDeed1 dg rcs 3))
abbrev c_drop:Prop:=CalX P w K mg base "drop" 6 (pA s_drop) (spX (fDeed1 dg rcs 4))
abbrev c_free:Prop:=CalX P w K mg base "free" 6 (pA s_free) (spX (fDeed1 dg rcs 5))
abbrev c_shut:Prop:=CalX P w K mg base "shut" 6 (pA s_shut) (spX (fDeed1 dg rcs 6))
abbrev c_stand_behind:Prop:=CalX P w K mg base "stand_behind" 7 (pA s_stand_behind) (spX (fBehindS dg rcs))
abbrev c_Room___init__:Prop:=CalIX P w K mg base "Room" cRoom 3 (pA s_Room___init__) (spX (fRoInit cRoom dg rcs))
abbrev c_Room_now:Prop:=CalM P w K mg base cRoom "now" 1 (pA s_Room_now) (spD (fNow cRoom dg))
abbrev c_Room_deed:Prop:=CalMX P w K mg base cRoom "deed" 8 (pA s_Room_deed) (spX (fDeedR cRoom dg rcs))
abbrev c_Room_size:Prop:=CalM P w K mg base cRoom "size" 2 (pA s_Room_size) (spD (fOfNow cRoom dg gSize))
abbrev c_Room_names:Prop:=CalM P w K mg base cRoom "names" 2 (pA s_Room_names) (spD (fOfNow cRoom dg gNames))
abbrev c_Room_bars:Prop:=CalMX P w K mg base cRoom "bars" 5 (pA s_Room_bars) (spX (fOfName cRoom dg rcs gBars))
abbrev c_Room_age:Prop:=CalMX P w K mg base cRoom "age" 5 (pA s_Room_age) (spX (fOfName cRoom dg rcs gAge))
abbrev c_Room_parts:Prop:=CalMX P w K mg base cRoom "parts" 5 (pA s_Room_parts) (spX (fOfName cRoom dg rcs gParts))
abbrev c_Room_source:Prop:=CalMX P w K mg base cRoom "source" 5 (pA s_Room_source) (spX (fSourceR cRoom dg rcs))
abbrev c_Room_cuts:Prop:=CalM P w K mg base cRoom "cuts" 5 (pA s_Room_cuts) (spD (fOfNow cRoom dg gCuts))
abbrev c_Room_takes:Prop:=CalM P w K mg base cRoom "takes" 5 (pA s_Room_takes) (spD (fOfNow cRoom dg gTakes))
abbrev c_names:Prop:=Cal P w K mg base "_law_names" 2 (pA s_names) (spD fNamesD)
abbrev c_origin:Prop:=Cal P w K mg base "_law_origin" 1 (pA s_origin) (spD fOrigin)
abbrev c_ages:Prop:=Cal P w K mg base "_law_ages" 1 (pA s_ages) (spD fAgesL)
abbrev c_heard:Prop:=Cal P w K mg base "_law_heard" 2 (pA s_heard) (spD fHeard)
abbrev c_takes:Prop:=Cal P w K mg base "_law_takes" 3 (pA s_takes) (spD fTakesL)
abbrev c_open:Prop:=Cal P w K mg base "_law_open" 1 (pA s_open) (spD fOpenL)
abbrev c_done:Prop:=Cal P w K mg base "_law_done" 2 (pA s_done) (spD fDoneL)
abbrev c_lone:Prop:=Cal P w K mg base "_law_lone" 1 (pA s_lone) (spD fLone)
abbrev c_stands:Prop:=Cal P w K mg base "_law_stands" 7 (pA s_stands) (spD (fStands cRoom dg))
abbrev c_named:Prop:=Cal P w K mg base "_law_named" 1 (pA s_named) (spD fNamedL)
abbrev c_new_word:Prop:=Cal P w K mg base "_law_new_word" 2 (pA s_new_word) (spD fNewWord)
abbrev c_place_word:Prop:=Cal P w K mg base "_law_place_word" 1 (pA s_place_word) (spD fPlaceWord)
abbrev c_put_word:Prop:=Cal P w K mg base "_law_put_word" 3 (pA s_put_word) (spD (fWordD w0))
abbrev c_join_word:Prop:=Cal P w K mg base "_law_join_word" 3 (pA s_join_word) (spD (fWordD w1))
abbrev c_take_word:Prop:=Cal P w K mg base "_law_take_word" 1 (pA s_take_word) (spD (fWordD w24))
abbrev c_word:Prop:=Cal P w K mg base "_law_word" 4 (pA s_word) (spD (fWordD wAll))
abbrev c_kinds:Prop:=CalH P w K mg base "_law_kinds" 1 (pA s_kinds) (fKindsJ K rcs cHissError)
abbrev c_told:Prop:=Cal P w K mg base "_law_told" 9 (pA s_told) (spD (fToldD K rcs cHissError cRoom dg))
abbrev c_new:Prop:=Cal P w K mg base "_law_new" 3 (pA s_new) (spD fNewD)
abbrev c_right:Prop:=Cal P w K mg base "_law_right" 10 (pA s_right) (spD (fRightD K rcs cHissError cRoom dg))
end
section
variable {P:Program}{w:World}{K:PySem.W.Frag}{mg:Str->Option Value}{base:Heap}{f:Addr}{fd:FuncData}
theorem ok_box (F:Fun K "_law_box" "_law_box" s_box f fd)(T:Bi2 mg)  : d8 P w K mg base CX0 1 f fd (pA s_box) (spBoxQ K):=by
 refine F.ok sc_box (fun vs H Q E h=>?_) (fun cdv A outer s H vs Q E hr h=>?_)
 ·unfold spBoxQ at h;split at h
  ·rfl
  ·exact h.elim
 ·unfold spBoxQ at h;split at h
  ·rename_i a
   obtain⟨ns,hs,k⟩:=h
   refine⟨_,(pss_one (ps_ret (pe_lst (dN (pe_callTy listC (by rfl) T.list bg (dN (pvC 0) pa_nil)) (dN fm (dN fm (dN fm pa_nil))))))),?_⟩
   refine⟨_,hs,fun l hl=>?_⟩
   refine⟨(zs),fun b hb=>?_⟩
   have hlb:l≠b:=eI (o:=.lst (ns.map V.int)) dE hb
   have hb0:H b=none:=by rw[dQ hlb.symm]at hb;exact hb
   refine k b l _ ⟨ns,0,0,1,dE,by rw[dQ hlb];exact dE,hlb,by decide,by decide,by decide⟩ hb0 hl fun c o e=>?_
   rw[dQ (eI e hb0),dQ (eI e hl)]
   exact e
  ·exact h.elim
theorem ok_take (F:Fun K "_law_take" "_law_take" s_take f fd)(T:Bi2 mg)  : d8 P w K mg base CX0 1 f fd (pA s_take) (spD fTake):=by
 refine d8.imp (sp:=spTakeQ) ?_ fun vs H Q E h=>take_imp h
 refine F.ok sc_take (fun vs H Q E h=>?_) (fun cdv A outer s H vs Q E hr h=>?_)
 ·obtain⟨b,n,q,rfl,_⟩:=spTakeQ_inv h;rfl
 ·obtain⟨b,n,q,rfl,⟨ns,i,r,z,hb,hq,nqb,hi,hz,hz2⟩,hn,hn2,k⟩:=spTakeQ_inv h
  refine⟨_,(pss_cons (ps_if (pt_cmpC gtC (pe_ix ixC (pvC 0) fm (fun _ _=>rfl)) fm (nomark _))
   (pss_cons (ps_set (i:=2) sc_take.nd rfl (by first | exact Or.inl rfl | exact Or.inr rfl) (pe_ix ixC (pvC 0) fm (fun _ _=>rfl)))
   (pss_cons (ps_asg (pe_op divC (pvC 2) (pvC 1)) (pg_sub (pvC 0) fm setC))
   (pss_one (ps_ret (pe_op modC (pvC 2) (pvC 1))))))
   pss_nil)
   (pss_cons (ps_asg (pe_op modC (pe_op addC (pe_op mulC (pe_ix ixC (pvC 0) fm (fun _ _=>rfl)) fm) fm) fm) (pg_sub (pvC 0) fm setC))
   (pss_cut (ps_if (pt_cmpC ltC (pe_ix ixC (pvC 0) fm (fun _ _=>rfl)) (eZ lenC (by rfl) T.len cA (dN (pe_ix ixC (pvC 0) fm (fun _ _=>rfl)) pa_nil)) (nomark _))
   (pss_cons (ps_set (i:=3) sc_take.nd rfl (by first | exact Or.inl rfl | exact Or.inr rfl) (pe_ix ixC (pe_ix ixC (pvC 0) fm (fun _ _=>rfl)) (pe_ix ixC (pvC 0) fm (fun _ _=>rfl)) (fun _ _=>rfl)))
   (pss_cons (ps_augS (pvC 0) fm getC fm ip_addC setC)
   (pss_cons (ps_if (pt_cmpC geC (pvC 3) (pe_op powC fm fm) (nomark _))
   (pss_cons (ps_asg (pe_op divC (pvC 3) (pvC 1)) (pg_sub (pvC 0) fm setC))
   (pss_one (ps_ret (pe_op modC (pvC 3) (pvC 1)))))
   pss_nil)
   (pss_one (ps_asg (pe_op modC (pe_op addC (pe_ix ixC (pvC 0) fm (fun _ _=>rfl)) (pe_op mulC (pvC 3) fm)) fm) (pg_sub (pvC 0) fm setC))))))
   pss_nil)
   (pss_cons (ps_set (i:=4) sc_take.nd rfl (by first | exact Or.inl rfl | exact Or.inr rfl) (pe_ix ixC (pvC 0) fm (fun _ _=>rfl)))
   (pss_cons (ps_set (i:=5) sc_take.nd rfl (by first | exact Or.inl rfl | exact Or.inr rfl) (pe_op modC (pe_op addC (pe_op mulC (pvC 4) (pvC 4)) (pe_op divC (pvC 4) fm)) fm))
   (pss_one (ps_ret (pe_op modC (pe_op modC (pe_op addC (pe_op mulC (pvC 5) fm) (pvC 4)) fm) (pvC 1))))))))),?_⟩
  have fin:∀(v:Int) (H':Hp) (i' r' z':Int),OB b H H'->H' b=some (.lst [.ref q,.int i',.int r',.int z'])->0<=i'->0<=z'->z'<2147483647->Q (.int (v%n)) H':=fun v H' i' r' z' ob hb' h1 h2 h3 =>
   k _ _ (cQ _ (by omega)) (Int.emod_lt_of_pos _ hn) ⟨ns,i',r',z',hb',(ob q nqb).trans hq,nqb,h1,h2,h3⟩ ob
  have md:∀ x:Int,0<=x%2147483647/\x%2147483647<2147483647:=fun x=>⟨cQ _ (by decide),Int.emod_lt_of_pos _ (by decide)⟩
  refine⟨_,.inl hb,?_⟩
  refine iteD (fun h1=>?_) (fun h1=>?_)
  ·refine⟨_,.inl hb,⟨hn,hn2⟩,_,hb,hn,?_⟩
   exact fin _ _ _ _ _ OB.refl.upd dE hi hz hz2
  ·refine⟨_,.inl hb,.inr ⟨by decide,by decide⟩,pM,_,hb,?_⟩
   have ob1:∀ o,OB b H (upd H b o):=fun o=>OB.refl.upd
   refine⟨fun σ' H'=>∃(c:Option V) (i' r' z':Int),σ'=[some (.ref b),some (.int n),none,c,none,none]/\OB b H H'/\H' b=some (.lst [.ref q,.int i',.int r',.int z'])/\0<=i'/\0<=z'/\z'<2147483647,?_,?_⟩
   ·refine⟨_,.inl dE,_,.inl dE,_,.inl ((ob1 _ q nqb).trans hq),?_⟩
    refine iteD (fun h2=>?_) (fun h2=>?_)
    ·have h2':i<(ns.length:Int):=by simpa using h2
     obtain⟨c,hc⟩:∃ c,ns[i.toNat]?=some c:=⟨ns[i.toNat]'(by omega),gxA _⟩
     have e:atI (ns.map V.int) i=some (.int c):=by
      have q:=atI_nat (xs:=ns.map V.int) (j:=i.toNat) (v:=.int c) (by rw[gxH,hc];rfl)
      rwa [Int.toNat_of_nonneg hi]at q
     refine⟨_,.inl dE,_,.inl dE,_,.inl ((ob1 _ q nqb).trans hq),dh e ?_⟩
     refine⟨_,dE,by decide,_,dE,?_⟩
     refine⟨⟨by decide,by decide,by decide⟩,?_⟩
     refine iteD (fun h3=>?_) (fun h3=>?_)
     ·refine⟨⟨hn,hn2⟩,_,dE,hn,?_⟩
      exact fin _ _ (i+1) _ _ OB.refl.upd.upd.upd dE (by omega) (md _).1 (md _).2
     ·refine⟨_,.inl dE,.inr ⟨by decide,by decide⟩,pM,_,dE,?_⟩
      exact⟨_,i+1,_,_,rfl,OB.refl.upd.upd.upd,dE,by omega,(md _).1,(md _).2⟩
    ·exact⟨_,i,_,_,rfl,OB.refl.upd,dE,hi,(md _).1,(md _).2⟩
   ·rintro σ' H' ⟨c,i',r',z',rfl,ob,hb',h1,h2,h3⟩
    refine⟨_,.inl hb',.inl ⟨by omega,by omega⟩,⟨by decide,by decide⟩,pN,.inr ⟨by decide,by decide⟩,pM,hn,?_⟩
    exact fin _ _ i' _ _ ob hb' h1 h2 h3
theorem bars_join {μ:MS}{n:Nat}{it:D->MS->(Option D->MS->Prop)->Prop}{K:DK}(hn:n<=1000)(hit:∀(d:D) (K':Option D->MS->Prop),(∀ c:Nat,(c=111\/c=120)->K' (some (.str ⟨#[c]⟩)) μ)->it d μ K')(k:∀ l:List Nat,l.length=n->OX l->K (.str (txt l)) μ) :
 compW it (fun _=>True) (rngD 0 n) μ fun ys eV=>nL false ys eV fun x μ3=>fJoin (.str (Str.ofString "")) [x] μ3 K:=by
 refine compW_any (fun c:Nat=>D.str ⟨#[c]⟩) (fun c=>c=111\/c=120) trivial (fun d hd K' k'=>hit d K' k') fun l hl ho=>?_
 rw[rngD_len]at hl
 refine⟨rfl,l.map (fun c=>⟨#[c]⟩),by unfold lv;rw[aB];rfl,by rw[sum_signs];omega,?_⟩
 rw[flat_signs]
 exact k l hl fun c hc=>ho c hc
theorem inv_bars {ds:List D}{μ:MS}{Kd:DK}(h:fBars ds μ Kd):∃ v0 v1,ds=[.mr v0,.int v1]:=by
 unfold fBars at h
 rcases ds with _ | ⟨z0,ds⟩
 ·exact False.elim h
 cases z0 <;> first | exact False.elim h | skip
 rcases ds with _ | ⟨z1,ds⟩
 ·exact False.elim h
 cases z1 <;> first | exact False.elim h | skip
 rcases ds with _ | ⟨zz,zs⟩
 ·exact⟨_,_,rfl⟩
 ·exact False.elim h
theorem ok_bars (F:Fun K "_law_bars" "_law_bars" s_bars f fd)(T:Bi2 mg)(fc:c_take P w K mg base):d8 P w K mg base CX0 2 f fd (pA s_bars) (spD fBars):=by
 refine F.okD sc_bars (fun ds μ Kd h=>by obtain⟨_,_,rfl⟩:=inv_bars h;rfl) (fun cdv A outer s H E hr=>⟨_,(df (qS 2 sc_bars.nd (qC fc hr (a2 (dv 0) dn)))
  (df (s_if (qEq (dv 2) dn)
  (dr (dP (d_mt bz bW bV joinC so_join dt (a1 (dC1 false (cOk (N:=["_law_k", "_law_box_here"]) (js:=[none,some 0]) sc_bars (by decide +kernel)) (i_range1 rfl T.range (a1 (dv 1))) (fun _ _ _ nd=>(qN 0 nd)) (fun _ _ _=>ts_nil) (fun _ _ _=>(fu dt (qC fc hr (a2 (dv 1) dn)))))))))
  eO)
  (df (s_if (qEq (dv 2) dn)
  (dr (dP (d_mt bz bW bV joinC so_join dt (a1 (dC1 false (cOk (N:=["_law_k", "_law_box_here"]) (js:=[none,some 0]) sc_bars (by decide +kernel)) (i_range1 rfl T.range (a1 (dv 1))) (fun _ _ _ nd=>(qN 0 nd)) (fun _ _ _=>ts_nil) (fun _ _ _=>(fu dt (qC fc hr (a2 (dv 1) dn)))))))))
  eO)
  (df (s_if (qEq (dv 2) dn)
  (df (qS 3 sc_bars.nd (qC fc hr (a2 (dv 0) (dv 1))))
  (df (qS 4 sc_bars.nd (dPl (dPl (dv 3) dn) (qC fc hr (a2 (dv 0) (dMi (dv 1) (dv 3))))))
  (dr (dP (dPl (dPl (d_op mulC so_mul dt (dv 3)) (d_op mulC so_mul dt (dMi (dv 4) (dv 3)))) (d_op mulC so_mul dt (dMi (dv 1) (dv 4))))))))
  eO)
  (df (s_if (qEq (dv 2) dn)
  (dr (dP (d_mt bz bW bV joinC so_join dt (a1 (dC1 false (cOk (N:=["_law_k", "_law_box_here"]) (js:=[none,some 0]) sc_bars (by decide +kernel)) (i_range1 rfl T.range (a1 (dv 1))) (fun _ _ _ nd=>(qN 0 nd)) (fun _ _ _=>ts_nil) (fun _ _ _=>(fu dt (qC fc hr (a2 (dv 1) dn)))))))))
  eO)
  (dr (dP (d_op mulC so_mul (fu dt (qC fc hr (a2 (dv 0) dn))) (dv 1))))))))),fun ds μ Kd hm hl h=>?_⟩)
 obtain⟨k,n,rfl⟩:=inv_bars h
 unfold fBars at h
 ·skip
  obtain⟨hb,h1,h2,kk⟩:=h
  refine⟨hb,by decide,by decide,fun v v0 v1=>?_⟩
  refine iteDf (fun hv=>?_) (fun hv=>?_)
  ·refine⟨rfl,by omega,by omega,sz (by rw[rngD_len];omega),?_⟩
   refine bars_join (n:=n.toNat) (by omega) (fun d K' k'=>?_) fun l hl ho=>.keep (kk l hl ho)
   refine⟨hb,by decide,by decide,fun v v0 v1=>⟨by decide,?_⟩⟩
   obtain⟨c,e,hc⟩:=atI_in (l:=(Str.ofString "ox").cps.toList) v0 v1
   exact dh e (k' c ((OX.of (l:=(Str.ofString "ox").cps.toList) (by decide +kernel)) c hc))
  refine iteDf (fun hv=>?_) (fun hv=>?_)
  ·refine⟨rfl,by omega,by omega,sz (by rw[rngD_len];omega),?_⟩
   refine bars_join (n:=n.toNat) (by omega) (fun d K' k'=>?_) fun l hl ho=>.keep (kk l hl ho)
   refine⟨hb,by decide,by decide,fun v v0 v1=>⟨by decide,?_⟩⟩
   obtain⟨c,e,hc⟩:=atI_in (l:=(Str.ofString "ooooox").cps.toList) v0 v1
   exact dh e (k' c ((OX.of (l:=(Str.ofString "ooooox").cps.toList) (by decide +kernel)) c hc))
  refine iteDf (fun hv=>?_) (fun hv=>?_)
  ·refine⟨hb,by omega,by omega,fun p p0 p1=>⟨hb,by omega,by omega,fun g g0 g1=>?_⟩⟩
   refine⟨120,rfl,by omega,by omega,111,rfl,by omega,by omega,?_,120,rfl,by omega,by omega,?_,?_⟩
   ·rw[lenS,lenS,aI,aI];exact sz (by omega)
   ·rw[app_str,lenS,lenS,gxE,aI,aI,aI];exact sz (by omega)
   rw[app_str,app_str]
   refine .keep (kk _ ?_ (((OX.rep (.inr rfl)).app (OX.rep (.inl rfl))).app (OX.rep (.inr rfl))))
   rw[gxE,gxE,aI,aI,aI];omega
  refine iteDf (fun hv=>?_) (fun hv=>?_)
  ·refine⟨rfl,by omega,by omega,sz (by rw[rngD_len];omega),?_⟩
   refine bars_join (n:=n.toNat) (by omega) (fun d K' k'=>?_) fun l hl ho=>.keep (kk l hl ho)
   refine⟨hb,by decide,by decide,fun v v0 v1=>⟨by decide,?_⟩⟩
   obtain⟨c,e,hc⟩:=atI_in (l:=(Str.ofString "xxxo").cps.toList) v0 v1
   exact dh e (k' c ((OX.of (l:=(Str.ofString "xxxo").cps.toList) (by decide +kernel)) c hc))
  refine⟨hb,by decide,by decide,fun p p0 p1=>⟨by decide,?_⟩⟩
  obtain⟨c,e,hc⟩:=atI_in (l:=(Str.ofString "ox").cps.toList) p0 p1
  exact dh e ⟨c,rfl,by omega,by omega,.keep (kk _ (aI ..) (OX.rep ((OX.of (l:=(Str.ofString "ox").cps.toList) (by decide +kernel)) c hc)))⟩
theorem ok_same1 (n:Nat){f:Addr}{fd:FuncData}(F:Fun K "_law_same" "_law_same" s_same f fd)(T:Bi2 mg)(C_same:Cal P w K mg base "_law_same" n ["_law_found", "_law_due"] (spS n)):d8 P w K mg base CX0 (n+1) f fd ["_law_found", "_law_due"] (spSame n):=by
 refine F.ok sc_same (fun vs H Q E h=>?_) (fun cdv A outer s H vs Q E hr h=>?_)
 ·unfold spSame at h;split at h
  ·rfl
  ·exact h.elim
 ·unfold spSame at h;split at h
  ·rename_i x y
   obtain⟨d,hd,hw,hx,hy,k⟩:=h
   refine⟨_,(pss_cons (ps_if (PW.pt (pw_or (pt_valC (eZ isiC (by rfl) T.isinstance aF (dN (pvC 1) (dN (pe_bltn (v:=.ty "bool") rfl T.bool cu rfl) pa_nil)))) (pw_or1 (pt_valC (eZ isiC (by rfl) T.isinstance aF (dN (pvC 0) (dN (pe_bltn (v:=.ty "bool") rfl T.bool cu rfl) pa_nil)))))))
   (pss_one (ps_ret (pe_andC (eZ isiC (by rfl) T.isinstance aF (dN (pvC 1) (dN (pe_bltn (v:=.ty "bool") rfl T.bool cu rfl) pa_nil))) (pe_andC (eZ isiC (by rfl) T.isinstance aF (dN (pvC 0) (dN (pe_bltn (v:=.ty "bool") rfl T.bool cu rfl) pa_nil))) (pe_one (pe_cmpR eqN (pvC 0) (pvC 1) (nomark _)))))))
   pss_nil)
   (pss_cons (ps_if (PW.pt (pw_or (pt_valC (eZ isiC (by rfl) T.isinstance aF (dN (pvC 1) (dN (pe_bltn (v:=.ty "list") rfl T.list bg rfl) pa_nil)))) (pw_or1 (pt_valC (eZ isiC (by rfl) T.isinstance aF (dN (pvC 1) (dN (pe_bltn (v:=.ty "tuple") rfl T.tuple c4 rfl) pa_nil)))))))
   (pss_cons (ps_if (PW.pt (pw_or (pt_cmpC neC (eZ isiC (by rfl) T.isinstance aF (dN (pvC 1) (dN (pe_bltn (v:=.ty "list") rfl T.list bg rfl) pa_nil))) (eZ isiC (by rfl) T.isinstance aF (dN (pvC 0) (dN (pe_bltn (v:=.ty "list") rfl T.list bg rfl) pa_nil))) (nomark _)) (pw_or1 (pt_cmpC neC (eZ isiC (by rfl) T.isinstance aF (dN (pvC 1) (dN (pe_bltn (v:=.ty "tuple") rfl T.tuple c4 rfl) pa_nil))) (eZ isiC (by rfl) T.isinstance aF (dN (pvC 0) (dN (pe_bltn (v:=.ty "tuple") rfl T.tuple c4 rfl) pa_nil))) (nomark _)))))
   (pss_one (ps_ret pe_bl))
   pss_nil)
   (pss_one (ps_ret (pe_andC (pe_cmpR eqC (eZ lenC (by rfl) T.len cA (dN (pvC 0) pa_nil)) (eZ lenC (by rfl) T.len cA (dN (pvC 1) pa_nil)) (nomark _)) (pe_one (eZ (allC rfl) (by rfl) T.all PyProof.Rows.boot_all (dN (pe_comp (compOk (XN:=["_law_found", "_law_due"]) (xsc:=(dk s_same)) (N:=["_law_one", "_law_other"]) (js:=[none,none]) (by decide +kernel)) rfl (pi_zip rfl T.zip (dN (pvC 0) (dN (pvC 1) pa_nil))) (fun _ _ _=>(pg_tupC (n:=2) rfl (dq (pg_name (i:=0) (show List.Nodup (["_law_one", "_law_other"]:List Str) by decide +kernel) rfl (by first | exact Or.inl rfl | exact Or.inr rfl)) (dq (pg_name (i:=1) (show List.Nodup (["_law_one", "_law_other"]:List Str) by decide +kernel) rfl (by first | exact Or.inl rfl | exact Or.inr rfl)) eY)))) (fun _ _ _=>pts_nil) (fun _ _ _=>(pe_callC C_same (hr.mono (by first | decide | exact aa _ | omega)) rfl (dN (pvC 0) (dN (pvC 1) pa_nil))))) pa_nil)))))))
   pss_nil)
   (pss_cons (ps_if (PW.pt (pw_or (pt_cmpC neC (eZ isiC (by rfl) T.isinstance aF (dN (pvC 1) (dN (pe_bltn (v:=.ty "str") rfl T.str PyProof.Rows.boot_str rfl) pa_nil))) (eZ isiC (by rfl) T.isinstance aF (dN (pvC 0) (dN (pe_bltn (v:=.ty "str") rfl T.str PyProof.Rows.boot_str rfl) pa_nil))) (nomark _)) (pw_or1 (pt_cmpC neC (eZ isiC (by rfl) T.isinstance aF (dN (pvC 1) (dN (pe_bltn (v:=.ty "int") rfl T.int PyProof.Rows.boot_int rfl) pa_nil))) (eZ isiC (by rfl) T.isinstance aF (dN (pvC 0) (dN (pe_bltn (v:=.ty "int") rfl T.int PyProof.Rows.boot_int rfl) pa_nil))) (nomark _)))))
   (pss_one (ps_ret pe_bl))
   pss_nil)
   (pss_one (ps_ret (pe_cmpR eqN (pvC 0) (pvC 1) (nomark _))))))),?_⟩
   cases d with
   | bl b =>
    obtain rfl:x=.bl b:=hx
    obtain rfl:y=.bl b:=hy
    refine⟨_,true,TyOf.bl b,kit_same K _,_,true,TyOf.bl b,kit_same K _,_,true,TyOf.bl b,kit_same K _,?_⟩
    show Q (.bl (decide (b=b))) H
    rw[ao rfl]
    exact k H (Same.refl H)
   | int i =>
    obtain rfl:x=.int i:=hx
    obtain rfl:y=.int i:=hy
    refine⟨_,false,.int i,rfl,_,false,.int i,rfl,_,false,.int i,rfl,_,false,.int i,rfl,_,false,.int i,rfl,_,false,.int i,rfl,_,true,.int i,kit_same K _,_,true,.int i,kit_same K _,?_⟩
    show Q (.bl (decide (i=i))) H
    rw[ao rfl]
    exact k H (Same.refl H)
   | str z =>
    obtain rfl:x=.str z:=hx
    obtain rfl:y=.str z:=hy
    refine⟨_,false,.str z,rfl,_,false,.str z,rfl,_,false,.str z,rfl,_,false,.str z,rfl,_,true,.str z,kit_same K _,_,true,.str z,kit_same K _,_,false,.str z,rfl,_,false,.str z,rfl,?_⟩
    show Q (.bl (decide (z=z))) H
    rw[ao rfl]
    exact k H (Same.refl H)
   | fB =>
    obtain rfl:x=.fB:=hx
    obtain rfl:y=.fB:=hy
    refine⟨_,false,.fB,rfl,_,false,.fB,rfl,_,false,.fB,rfl,_,false,.fB,rfl,_,false,.fB,rfl,_,false,.fB,rfl,_,false,.fB,rfl,_,false,.fB,rfl,?_⟩
    exact k H (Same.refl H)
   | lst ds =>
    obtain⟨p,vs,rfl,hp,qp⟩:=hx
    obtain⟨q,ws,rfl,hq,qq⟩:=hy
    obtain⟨m,rfl⟩:∃ m,n=m+1:=⟨n - 1,by unfold dep at hd;omega⟩
    have hd':depL ds<=m:=by unfold dep at hd;omega
    have hw1:ds.length<sizeLine:=by unfold wid at hw;omega
    have hw2:widL ds<sizeLine:=by unfold wid at hw;omega
    have len:vs.length=ws.length:=by rw[qp.len,qq.len]
    refine⟨_,false,TyOf.lst hq,rfl,_,false,TyOf.lst hp,rfl,_,true,TyOf.lst hq,kit_same K _,_,true,TyOf.lst hq,kit_same K _,_,true,TyOf.lst hp,kit_same K _,_,false,TyOf.lst hq,rfl,_,false,TyOf.lst hp,rfl,?_⟩
    refine⟨_,.inl hp,_,.inl hq,?_⟩
    refine iteDf (fun _=>?_) (fun h=>(h (by rw[len])).elim)
    refine⟨false,_,_,hp,hq,?_⟩
    refine compZip len (fun i ys H'=>ys=List.replicate i (V.bl true)/\Same H H') ⟨rfl,Same.refl H⟩ (fun i ys H' h=>⟨h.2 _ _ hp,h.2 _ _ hq⟩) ?_ ?_
    ·rintro i x' y' ys H' T' hi ex ey ⟨rfl,S⟩ hT
     refine⟨_,dE,rfl,Ext.own2,?_⟩
     obtain⟨d1,e1,i1⟩:=qp.get ex
     obtain⟨d2,e2,i2⟩:=qq.get ey
     rw[e1]at e2;cases e2
     have S2:Same H (upd H' T' (.tup [x',y'])):=S.trans (Same.upd hT)
     refine⟨d1,aw (depL_get e1) hd',bT (widL_get e1) hw2,i1.mono S2 _ _,i2.mono S2 _ _,fun H3 S3=>?_⟩
     exact cnx hi (by rw[aI];have:=qp.len;omega) ⟨by rw[List.replicate_succ'],S2.trans S3⟩
    ·rintro ys H' ⟨rfl,S⟩ D hD
     refine⟨List.replicate vs.length true,by rw[dE,List.map_replicate],?_⟩
     have e:(List.replicate vs.length true).all id=true:=by rw[cm];intro b hb;rw[(List.mem_replicate.mp hb).2];rfl
     show Q (.bl ((List.replicate vs.length true).all id)) (upd H' D (.lst (List.replicate vs.length (V.bl true))))
     rw[e]
     exact k _ (S.trans (Same.upd hD))
   | tup ds =>
    obtain⟨p,vs,rfl,hp,qp⟩:=hx
    obtain⟨q,ws,rfl,hq,qq⟩:=hy
    obtain⟨m,rfl⟩:∃ m,n=m+1:=⟨n - 1,by unfold dep at hd;omega⟩
    have hd':depL ds<=m:=by unfold dep at hd;omega
    have hw1:ds.length<sizeLine:=by unfold wid at hw;omega
    have hw2:widL ds<sizeLine:=by unfold wid at hw;omega
    have len:vs.length=ws.length:=by rw[qp.len,qq.len]
    refine⟨_,false,TyOf.tup hq,rfl,_,false,TyOf.tup hp,rfl,_,false,TyOf.tup hq,rfl,_,true,TyOf.tup hq,kit_same K _,_,false,TyOf.tup hq,rfl,_,false,TyOf.tup hp,rfl,_,true,TyOf.tup hq,kit_same K _,_,true,TyOf.tup hp,kit_same K _,?_⟩
    refine⟨_,.inr hp,_,.inr hq,?_⟩
    refine iteDf (fun _=>?_) (fun h=>(h (by rw[len])).elim)
    refine⟨true,_,_,hp,hq,?_⟩
    refine compZip len (fun i ys H'=>ys=List.replicate i (V.bl true)/\Same H H') ⟨rfl,Same.refl H⟩ (fun i ys H' h=>⟨h.2 _ _ hp,h.2 _ _ hq⟩) ?_ ?_
    ·rintro i x' y' ys H' T' hi ex ey ⟨rfl,S⟩ hT
     refine⟨_,dE,rfl,Ext.own2,?_⟩
     obtain⟨d1,e1,i1⟩:=qp.get ex
     obtain⟨d2,e2,i2⟩:=qq.get ey
     rw[e1]at e2;cases e2
     have S2:Same H (upd H' T' (.tup [x',y'])):=S.trans (Same.upd hT)
     refine⟨d1,aw (depL_get e1) hd',bT (widL_get e1) hw2,i1.mono S2 _ _,i2.mono S2 _ _,fun H3 S3=>?_⟩
     exact cnx hi (by rw[aI];have:=qp.len;omega) ⟨by rw[List.replicate_succ'],S2.trans S3⟩
    ·rintro ys H' ⟨rfl,S⟩ D hD
     refine⟨List.replicate vs.length true,by rw[dE,List.map_replicate],?_⟩
     have e:(List.replicate vs.length true).all id=true:=by rw[cm];intro b hb;rw[(List.mem_replicate.mp hb).2];rfl
     show Q (.bl ((List.replicate vs.length true).all id)) (upd H' D (.lst (List.replicate vs.length (V.bl true))))
     rw[e]
     exact k _ (S.trans (Same.upd hD))
  ·exact h.elim
theorem ok_same {f:Addr}{fd:FuncData}(F:Fun K "_law_same" "_law_same" s_same f fd)(T:Bi2 mg)(hm:mg "_law_same"=some (.ref f))(hk:PySem.W.keepIn K (.ref f)=true)(hb:Binds K fd ["_law_found", "_law_due"] []):∀ n,d8 P w K mg base CX0 (n+1) f fd ["_law_found", "_law_due"] (spSame n)
 | 0=>ok_same1 0 F T ⟨f,fd,⟨fun _ _ _ _ h=>h.elim,fun _ _ _ _ _ _ _ _ _ _ _ _ _ h=>h.elim⟩,hm,hk,hb⟩
 | n+1=>ok_same1 (n+1) F T ⟨f,fd,ok_same F T hm hk hb n,hm,hk,hb⟩
theorem ok_joined (F:Fun K "joined" "joined" s_joined f fd)(T:Bi2 mg)  : d8 P w K mg base CX0 1 f fd (pA s_joined) (spD fJoined):=by
 refine F.okD sc_joined (fun ds μ Kd h=>by unfold fJoined at h;split at h <;> first | rfl | exact h.elim) (fun cdv A outer s H E hr=>⟨_,(df (s_asg (dv 0) ⟨(pg_tupC (n:=2) rfl (dq (qN 3 sc_joined.nd) (dq (qN 4 sc_joined.nd) eY))),(so_tup (dG (dA 3) (dc 3) (dG (dA 4) (dc 4) so_nil dz) (dj (dc 4) dz))),(mo_tup (dj (dc 3) (dj (dc 4) dz)))⟩)
  (df (s_asg (dv 1) ⟨(pg_tupC (n:=2) rfl (dq (qN 5 sc_joined.nd) (dq (qN 6 sc_joined.nd) eY))),(so_tup (dG (dA 5) (dc 5) (dG (dA 6) (dc 6) so_nil dz) (dj (dc 6) dz))),(mo_tup (dj (dc 5) (dj (dc 6) dz)))⟩)
  (df (qS 7 sc_joined.nd (d_blt (maxC rfl) so_max (by rfl) T.max PyProof.Rows.boot_max (a2 (dv 2) dn)))
  (dr (dP (d_tup (a2 (dPl (d_slice false (dv 3) o_no (o_some (dv 7))) (d_slice false (dv 5) (o_some (dv 7)) o_no)) (dPl (d_blt (maxC rfl) so_max (by rfl) T.max PyProof.Rows.boot_max (a2 (dv 4) (dv 6))) dn)))))))),fun ds μ Kd hm hl h=>?_⟩)
 unfold fJoined at h
 split at h
 ·rename_i z a y b p
  obtain⟨x,u,rfl,rfl,rfl,rfl,hp,hx,hu,kk⟩:=h
  have lz1:(txt x.1).length<=sizeLine:=by rw[txt_len];exact sz (by omega)
  have lz2:(txt u.1).length<=sizeLine:=by rw[txt_len];exact sz (by omega)
  have c1:=cutL_le x.1 none (some (max p 0))
  have c2:=cutL_le u.1 (some (max p 0)) none
  refine⟨rfl,rfl,lz1,lz2,?_,zs,.keep ?_⟩
  ·show(txt (cutL x.1 none (some (max p 0)))).length+(txt (cutL u.1 (some (max p 0)) none)).length<=sizeLine
   rw[txt_len,txt_len];exact sz (by omega)
  ·show Kd (.tup [.str (txt (cutL x.1 none (some (max p 0)))++txt (cutL u.1 (some (max p 0)) none)),.int (max x.2 u.2+1)]) μ
   rw[show max p 0=p by omega,app_str,cutL_to hp,cutL_from hp]
   exact kk
 ·exact h.elim
theorem inv_is_bars {ds:List D}{μ:MS}{Kd:DK}(h:fIsBars ds μ Kd):∃ v0 v1,ds=[.int v0,.str v1]:=by
 unfold fIsBars at h
 rcases ds with _ | ⟨z0,ds⟩
 ·exact False.elim h
 cases z0 <;> first | exact False.elim h | skip
 rcases ds with _ | ⟨z1,ds⟩
 ·exact False.elim h
 cases z1 <;> first | exact False.elim h | skip
 rcases ds with _ | ⟨zz,zs⟩
 ·exact⟨_,_,rfl⟩
 ·exact False.elim h
theorem ok_is_bars (F:Fun K "is_bars" "is_bars" s_is_bars f fd)(T:Bi2 mg)  : d8 P w K mg base CX0 1 f fd (pA s_is_bars) (spD fIsBars):=by
 refine F.okD sc_is_bars (fun ds μ Kd h=>by obtain⟨_,_,rfl⟩:=inv_is_bars h;rfl) (fun cdv A outer s H E hr=>⟨_,(dr (dP (d_and (d_cmp eqC so_eqS (dLn T (dv 1)) (dv 0) (nomark _)) (d_one (d_cmp eqC so_eqS (dPl (d_mt bz PySem.F.slot_str_count PySem.F.type_str_count countC so_count (dv 1) (a1 dt)) (d_mt bz PySem.F.slot_str_count PySem.F.type_str_count countC so_count (dv 1) (a1 dt))) (dv 0) (nomark _)))))),fun ds μ Kd hm hl h=>?_⟩)
 obtain⟨n,z,rfl⟩:=inv_is_bars h
 unfold fIsBars at h
 ·skip
  obtain⟨hz,kk⟩:=h
  refine⟨sz (by omega),?_⟩
  have ox:(((z.cps.toList.count 111:Nat):Int)+((z.cps.toList.count 120:Nat):Int)=n/\((z.length:Nat):Int)=n)↔(((z.length:Nat):Int)=n/\oxB z=true):=by
   have:=cnt_ox z.cps.toList
   have lz:z.length=z.cps.toList.length:=(bS (xs:=z.cps)).symm
   constructor
   ·rintro⟨h1,h2⟩;exact⟨h2,this.mp (by omega)⟩
   ·rintro⟨h1,h2⟩;have:=this.mpr h2;exact⟨by omega,h1⟩
  refine iteDf (c:=((z.length:Nat):Int)=n) (fun e=>?_) (fun e=>?_)
  ·refine⟨rfl,111,rfl,rfl,120,rfl,?_⟩
   have:decide (((z.length:Nat):Int)=n/\oxB z=true)=decide (((z.cps.toList.count 111:Nat):Int)+((z.cps.toList.count 120:Nat):Int)=n):=by
    by_cases q:((z.cps.toList.count 111:Nat):Int)+((z.cps.toList.count 120:Nat):Int)=n
    ·rw[ao q,ao (ox.mp ⟨q,e⟩)]
    ·rw[aj q,aj fun y=>q (ox.mpr y).1]
   rw[this]at kk
   show Fz _ Kd (.bl (false != decide (((z.cps.toList.count 111:Nat):Int)+((z.cps.toList.count 120:Nat):Int)=n))) μ
   rw[fne]
   exact .keep kk
  ·rw[aj (fun y=>e y.1)]at kk
   exact .keep kk
theorem inv_with_key {ds:List D}{μ:MS}{Kd:DK}(h:fWith ds μ Kd):∃ v0 v1 v2 v3,ds=[.fdc v0 v1,v2,v3]:=by
 unfold fWith at h
 rcases ds with _ | ⟨z0,ds⟩
 ·exact False.elim h
 cases z0 <;> first | exact False.elim h | skip
 rcases ds with _ | ⟨z1,ds⟩
 ·exact False.elim h
 rcases ds with _ | ⟨z2,ds⟩
 ·exact False.elim h
 rcases ds with _ | ⟨zz,zs⟩
 ·exact⟨_,_,_,_,rfl⟩
 ·exact False.elim h
theorem ok_with_key (F:Fun K "with_key" "with_key" s_with_key f fd)(T:Bi2 mg)  : d8 P w K mg base CX0 1 f fd (pA s_with_key) (spD fWith):=by
 refine F.okD sc_with_key (fun ds μ Kd h=>by obtain⟨_,_,_,_,rfl⟩:=inv_with_key h;rfl) (fun cdv A outer s H E hr=>⟨_,(df (qS 3 sc_with_key.nd (d_ty dictC so_dictF (by rfl) T.dict c8 (a1 (dv 0))))
  (df (s_asgKM (fg hr) (dv 2) (dv 3) (dv 1))
  (dr (dP (d_frz (dv 3)))))),fun ds μ Kd hm hl h=>?_⟩)
 obtain⟨ks,es,y,v,rfl⟩:=inv_with_key h
 unfold fWith at h
 ·skip
  obtain⟨kd,k,rfl,rfl,hl2,hk,kk⟩:=h
  refine dh rfl ?_
  refine⟨kd,dput kd k v,fb,bT hl2 (by decide),by rw[hk];rfl,?_⟩
  rw[set_end]
  refine⟨_,_,fb,fun o kvs hks=>?_⟩
  rw[set_end]
  refine Fz.fdc (aa _) fb (mr_dput hl.1 hl.2.2.1) (old_app hm) ?_
  rw[aT,hks]
  exact kk
theorem inv_without_key {ds:List D}{μ:MS}{Kd:DK}(h:fWithout ds μ Kd):∃ v0 v1 v2,ds=[.fdc v0 v1,v2]:=by
 unfold fWithout at h
 rcases ds with _ | ⟨z0,ds⟩
 ·exact False.elim h
 cases z0 <;> first | exact False.elim h | skip
 rcases ds with _ | ⟨z1,ds⟩
 ·exact False.elim h
 rcases ds with _ | ⟨zz,zs⟩
 ·exact⟨_,_,_,rfl⟩
 ·exact False.elim h
theorem ok_without_key (F:Fun K "without_key" "without_key" s_without_key f fd)(T:Bi2 mg)  : d8 P w K mg base CX0 1 f fd (pA s_without_key) (spD fWithout):=by
 refine F.okD sc_without_key (fun ds μ Kd h=>by obtain⟨_,_,_,rfl⟩:=inv_without_key h;rfl) (fun cdv A outer s H E hr=>⟨_,(dr (dP (d_frz (d_compM (cOk (N:=["other", "thing", "key"]) (js:=[none,none,some 1]) sc_without_key (by decide +kernel)) rfl (so_tup (dG (dA 0) (dc 0) (dG (dA 1) (dc 1) so_nil dz) (dj (dc 1) dz))) (mo_tup (dj (dc 0) (dj (dc 1) dz))) rfl (i_itemsF (dv 0)) (fun _ _ _=>(pg_tupC (n:=2) rfl (dq (qN 0 (show List.Nodup (["other", "thing", "key"]:List Str) by decide +kernel)) (dq (qN 1 (show List.Nodup (["other", "thing", "key"]:List Str) by decide +kernel)) eY)))) (fun _ _ _=>(ts_one (qNe (dv 0) (dv 2)))) (fun _ _ _=>(dv 0)) (fun _ _ _=>(dv 1)))))),fun ds μ Kd hm hl h=>?_⟩)
 obtain⟨ks,es,y,rfl⟩:=inv_without_key h
 unfold fWithout at h
 ·skip
  obtain⟨kd,k,rfl,rfl,hl2,nd,hk,hs,kk⟩:=h
  intro hlen
  rw[items_map]
  refine⟨by rw[fC];exact sz (by omega),?_⟩
  refine dcompX_filter (fun p=>decide (p.1≠k)) kd [] _ nd (fun p hp μ' K' k'=>?_) ?_
  ·refine⟨rfl,?_⟩
   rcases hs p hp with⟨i,j,e1,rfl⟩ | ⟨i,j,e1,rfl⟩
   ·obtain⟨pk,pv⟩:=p
    cases e1
    cases y with
    | int y =>
     cases hk
     refine iteDn (c:=i=j) (fun q=>?_) (fun q=>?_)
     ·have k':K' (if decide (ikey i≠ikey j)=true then some (ikey i,pv)else none) μ':=k'
      rw[ao (show ikey i≠ikey j from fun z=>q (ikey_inj _ _ z))]at k';exact k'
     ·have k':K' (if decide (ikey i≠ikey j)=true then some (ikey i,pv)else none) μ':=k'
      rw[aj (show ¬ ikey i≠ikey j from fun z=>z (by rw[q]))]at k';exact k'
    | _=>cases hk
   ·obtain⟨pk,pv⟩:=p
    cases e1
    cases y with
    | str y =>
     cases hk
     refine iteDn (c:=i=j) (fun q=>?_) (fun q=>?_)
     ·have k':K' (if decide (dW i≠dW j)=true then some (dW i,pv)else none) μ':=k'
      rw[ao (show dW i≠dW j from fun z=>q (dD _ _ z))]at k';exact k'
     ·have k':K' (if decide (dW i≠dW j)=true then some (dW i,pv)else none) μ':=k'
      rw[aj (show ¬ dW i≠dW j from fun z=>z (by rw[q]))]at k';exact k'
    | _=>cases hk
  ·refine⟨_,_,fb,fun o kvs hks=>?_⟩
   rw[set_end]
   refine Fz.fdc (aa _) fb (mr_all fun d hd=>?_) (old_app hm) ?_
   ·obtain⟨p,hp,rfl⟩:=List.mem_map.mp hd
    exact mrL_mem hl.1 (List.mem_map.mpr ⟨p,(List.mem_filter.mp hp).1,rfl⟩)
   ·rw[aT,hks]
    exact kk
theorem ok_Stand___init__ (F:Fun K "__init__" "Stand.__init__" fF f fd)(T:Bi2 mg)(de:ZStand K dg):d8 P w K mg base CX0 1 f fd (pA fF) (spD (fStInit dg)):=by
 refine F.okD sc_Stand___init__ (fun ds μ Kd h=>by unfold fStInit at h;split at h <;> first | rfl | exact h.elim) (fun cdv A outer s H E hr=>⟨_,(df (s_fld de.cl de.n_length (dv 1) (dv 0))
  (df (s_fld de.cl de.fw (dv 2) (dv 0))
  (df (s_fld de.cl de.n_firsts (dv 3) (dv 0))
  (dr (s_fld de.cl de.n_closed (dv 4) (dv 0)))))),fun ds μ Kd hm hl h=>?_⟩)
 unfold fStInit at h
 split at h
 ·rename_i k n a b c
  obtain⟨em,kk⟩:=h
  have hk:k<μ.length:=(gxB em).1
  have st:∀ ns ds,(μ.set k (.ins dg ns ds))[k]?=some (.ins dg ns ds):=fun ns ds=>az hk
  refine⟨_,_,insM_of em,rfl,by decide,?_⟩
  refine⟨_,_,insM_of (st _ _),rfl,by show 1<1000;decide,?_⟩
  rw[c9]
  refine⟨_,_,insM_of (st _ _),rfl,by show 2<1000;decide,?_⟩
  rw[c9]
  refine⟨_,_,insM_of (st _ _),rfl,by show 3<1000;decide,?_⟩
  rw[c9]
  exact .keep kk
 ·exact h.elim
theorem ok_Stand_check_there (F:Fun K "check_there" "Stand.check_there" eW f fd)(T:Bi2 mg)(de:ZStand K dg)(O_NoTake:OwnCls "NoTake" cNoTake veB "ValueError.__new__" mg base):d8 P w K mg base (CX1 P w) 1 f fd (pA eW) (spX (fThere dg rcs)):=by
 refine F.okX sc_Stand_check_there (fun ds μ Kd Kx h=>fThere_len h) (fun cdv A outer s H E hr eE Kb Z=>⟨_,(dr (s_if (t_notinF (fg hr) (dv 1) (eF de.cl de.fw (dv 0)) (by with_unfolding_all rfl))
  (dr (s_raise Z rfl O_NoTake af (by decide) af rfl (a1 dt)))
  eO)),fun ds μ m Kd Kx hm hl em h hK=>?_⟩)
 unfold fThere at h
 split at h
 ·rename_i x nm
  obtain⟨_,S,rfl,kk⟩:=h
  refine⟨rfl,_,rfl,_,ixF_k dD ptD nm S.kept rfl,?_⟩
  cases e:du S.kept nm with
  | none=>rw[e]at kk;exact⟨zs,fh hK em kk⟩
  | some x=>rw[e]at kk;exact .keep (gK_of em kk)
 ·exact h.elim
theorem ok_Stand_parts (F:Fun K "parts" "Stand.parts" s_Stand_parts f fd)(T:Bi2 mg)(de:ZStand K dg)(eJ:c_Stand_check_there P w K mg base):d8 P w K mg base (CX1 P w) 2 f fd (pA s_Stand_parts) (spX (fPartsS dg rcs)):=by
 refine F.okX sc_Stand_parts (fun ds μ Kd Kx h=>fPartsS_len h) (fun cdv A outer s H E hr eE Kb Z=>⟨_,(df (s_expr (d_methX Z.z eJ de.cl hr.le (dv 0) (a1 (dv 1))))
  (dr (dP (d_ixF (fg hr) (eF de.cl de.fw (dv 0)) (dv 1) (fun _ _=>rfl))))),fun ds μ m Kd Kx hm hl em h hK=>?_⟩)
 unfold fPartsS at h
 split at h
 ·rename_i x nm
  obtain⟨_,S,rfl,kk⟩:=h
  refine⟨⟨rfl,rfl⟩,eA em,⟨_,eA em⟩,S,rfl,?_⟩
  cases e:du S.kept nm with
  | none=>rw[e]at kk;exact(fh hK em kk).2
  | some x =>
   rw[e]at kk
   exact⟨rfl,_,rfl,ptD x,by rw[ixF_k dD ptD nm S.kept rfl,e];rfl,.keep (gK_of em kk)⟩
 ·exact h.elim
theorem ok_Stand_source (F:Fun K "source" "Stand.source" s_Stand_source f fd)(T:Bi2 mg)(de:ZStand K dg)(O_BadBar:OwnCls "BadBar" cBadBar veB "ValueError.__new__" mg base)(C_Stand_parts:c_Stand_parts P w K mg base):d8 P w K mg base (CX1 P w) 3 f fd (pA s_Stand_source) (spX (fSourceS dg rcs)):=by
 refine F.okX fe (fun ds μ Kd Kx h=>fSourceS_len h) (fun cdv A outer s H E hr eE Kb Z=>⟨_,(df (qS 3 fe.nd (d_methX Z.z C_Stand_parts de.cl hr.le (dv 0) (a1 (dv 1))))
  (df (s_if (PW.pt (t_or (qLt (dv 2) dn) (t_or1 (qGe (dv 2) (eF de.cl de.n_length (dv 0))))))
  (dr (s_raise Z rfl O_BadBar af (by decide) af rfl (a1 dt)))
  eO)
  (df (qS 4 fe.nd dn)
  (df (s_while PassesOwn.leaving (t_notN (dv 3))
  (df (s_asg (dv 3) ⟨(pg_tupC (n:=3) rfl (dq (qN 5 fe.nd) (dq (qN 6 fe.nd) (dq (qN 7 fe.nd) eY)))),(so_tup (dG (dA 5) (dc 5) (dG (dA 6) (dc 6) (dG (dA 7) (dc 7) so_nil dz) (dj (dc 7) dz)) (dj (dc 6) (dj (dc 7) dz)))),(mo_tup (dj (dc 5) (dj (dc 6) (dj (dc 7) dz))))⟩)
  (df (qS 1 fe.nd (d_if (qLt (dv 2) (dv 7)) (dv 5) (dv 6)))
  (df (qS 3 fe.nd (d_ixF (fg hr) (eF de.cl de.fw (dv 0)) (dv 1) (fun _ _=>rfl)))
  (dr (s_aug (i:=4) fe.nd rfl lo dn ip_addC so_ipI))))))
  (dr (dP (d_tup (a2 (dv 1) (dv 4))))))))),fun ds μ m Kd Kx hm hl em h hK=>?_⟩)
 unfold fSourceS at h
 split at h
 ·rename_i x nm bar
  obtain⟨_,S,rfl,kp,kk⟩:=h
  refine⟨⟨rfl,rfl⟩,eA em,⟨_,eA em⟩,S,rfl,?_⟩
  cases e:du S.kept nm with
  | none=>rw[e]at kk;exact(fh hK em kk).2
  | some x =>
   rw[e]at kk
   refine iteD (c:=bar<0) (fun q=>⟨zs,fh hK em ?_⟩) (fun q1=>⟨rfl,_,rfl,iteD (c:=S.n<=bar) (fun q=>⟨zs,fh hK em ?_⟩) (fun q2=>?_)⟩)
   ·have kk:(if 0<=bar/\bar<S.n then Kd (srcD (srcOf S.kept nm bar)) μ else _):=kk
    rw[ae (by omega)]at kk;exact kk
   ·have kk:(if 0<=bar/\bar<S.n then Kd (srcD (srcOf S.kept nm bar)) μ else _):=kk
    rw[ae (by omega)]at kk;exact kk
   ·have kk:(if 0<=bar/\bar<S.n then Kd (srcD (srcOf S.kept nm bar)) μ else _):=kk
    rw[ag (by omega)]at kk
    refine⟨fun i ρ μ'=>∃(z:Str) (y:Pt) (c:Nat) (v1 v2 v3:Option D),i=idxN S.kept z/\du S.kept z=some y/\srcOf S.kept nm bar=((srcOf S.kept z bar).1,(srcOf S.kept z bar).2+c)/\ρ=[some (sdD dg S),some (.str z),some (.int bar),some (ptD y),some (.int (c:Int)),v1,v2,v3]/\μ'=μ.set 0 (.gx eE H),⟨_,nm,x,0,none,none,none,rfl,e,rfl,rfl,rfl⟩,?_⟩
    rintro i ρ μ' ⟨z,y,c,v1,v2,v3,rfl,ez,es,rfl,rfl⟩
    cases y with
    | fst b a =>
     refine⟨zs,.keep (gK_of em ?_)⟩
     rw[es,src_fstE ez,Nat.zero_add]at kk
     exact kk
    | jn l r p =>
     obtain⟨⟨yl,el⟩,⟨yr,er⟩⟩:=kp.there ez
     obtain⟨i1,i2⟩:=kp.low z l r p ez
     refine⟨rfl,?_⟩
     have ej:=src_jn kp ez bar
     refine iteD (c:=bar<p) (fun q=>?_) (fun q=>?_)
     ·rw[ag q]at ej
      exact⟨rfl,_,rfl,ptD yl,by rw[ixF_k dD ptD l S.kept rfl,el];rfl,idxN S.kept l,i1,l,yl,c+1,_,_,_,rfl,el,by rw[es,ej];congr 1;show _+1+c=_;omega,rfl,rfl⟩
     ·rw[ae q]at ej
      exact⟨rfl,_,rfl,ptD yr,by rw[ixF_k dD ptD r S.kept rfl,er];rfl,idxN S.kept r,i2,r,yr,c+1,_,_,_,rfl,er,by rw[es,ej];congr 1;show _+1+c=_;omega,rfl,rfl⟩
 ·exact h.elim
theorem ok_Stand_takes_by_names (F:Fun K "takes_by_names" "Stand.takes_by_names" eG f fd)(T:Bi2 mg)(de:ZStand K dg)(C_joined:c_joined P w K mg base):d8 P w K mg base CX0 2 f fd (pA eG) (spD (fByNames dg)):=by
 refine F.okD eB (fun ds μ Kd h=>by unfold fByNames at h;split at h <;> first | rfl | exact h.elim) (fun cdv A outer s H E hr=>⟨_,(df (qS 1 eB.nd d_dnew)
  (df (s_for bw rfl (i_itemsF (eF de.cl de.fw (dv 0))) ⟨(pg_tupC (n:=2) rfl (dq (qN 2 eB.nd) (dq (qN 3 eB.nd) eY))),(so_tup (dG (dA 2) (dc 2) (dG (dA 3) (dc 3) so_nil dz) (dj (dc 3) dz))),(mo_tup (dj (dc 2) (dj (dc 3) dz)))⟩
  (dr (s_if (t_isN (dv 3))
  (dr (s_asgKM (fg hr) (d_ixF (fg hr) (eF de.cl de.n_firsts (dv 0)) (dv 2) (fun _ _=>rfl)) (dv 1) (dv 2)))
  (df (s_asg (dv 3) ⟨(pg_tupC (n:=3) rfl (dq (qN 4 eB.nd) (dq (qN 5 eB.nd) (dq (qN 6 eB.nd) eY)))),(so_tup (dG (dA 4) (dc 4) (dG (dA 5) (dc 5) (dG (dA 6) (dc 6) so_nil dz) (dj (dc 6) dz)) (dj (dc 5) (dj (dc 6) dz)))),(mo_tup (dj (dc 4) (dj (dc 5) (dj (dc 6) dz))))⟩)
  (dr (s_asgKM (fg hr) (qC C_joined hr (a3 (d_ixF (fg hr) (dv 1) (dv 4) (fun _ _=>rfl)) (d_ixF (fg hr) (dv 1) (dv 5) (fun _ _=>rfl)) (dv 6))) (dv 1) (dv 2)))))))
  (dr (dP (d_frz (dv 1)))))),fun ds μ Kd hm hl h=>?_⟩)
 unfold fByNames at h
 split at h
 ·rename_i x
  obtain⟨S,m,rfl,wf,kk⟩:=h
  refine⟨rfl,_,rfl,fun _=>?_⟩
  have nd:=wf.kp.nd
  have few:=wf.few
  have ei:List.zipWith (fun k d=>D.tup [keyV k,d]) (S.kept.map fun p=>dW p.1) (S.kept.map fun p=>ptD p.2)=S.kept.map fun p=>D.tup [.str p.1,ptD p.2]:=by
   obtain⟨e1,e2⟩:=kd_of dW ptD S.kept
   rw[e1,e2,items_map,aB]
   rfl
  show forW _ _ _ _ (List.zipWith (fun k d=>D.tup [keyV k,d]) (S.kept.map fun p=>dW p.1) (S.kept.map fun p=>ptD p.2)) _ _
  rw[ei]
  refine forW_inv (fun ds ρ μ'=>∃(pre post:List (Str×Pt)) (v1 v2 v3 v4 v5:Option D),S.kept=pre++post/\ds=post.map (fun p=>D.tup [.str p.1,ptD p.2])/\ρ=[some (sdD dg S),some (.mr μ.length),v1,v2,v3,v4,v5]/\μ'=μ++[.dic ((pre.map fun p=>(p.1,ft S.kept p.1)).map fun p=>dW p.1) ((pre.map fun p=>(p.1,ft S.kept p.1)).map fun p=>tkD p.2)]) ⟨[],S.kept,none,none,none,none,none,rfl,rfl,rfl,rfl⟩ ?_ ?_
  ·rintro d ds' ρ μ' ⟨pre,post,v1,v2,v3,v4,v5,hs,e1,rfl,rfl⟩
   refine⟨trivial,fun nx hnx=>?_⟩
   cases post with
   | nil=>cases e1
   | cons p post =>
    obtain⟨z,y⟩:=p
    cases e1
    have hz:z∉pre.map (·.1):=fun q=>by
     rw[hs,aE,bC]at nd
     exact nd.2.2 z q z (List.mem_map.mpr ⟨_,av,rfl⟩) rfl
    have ez:du S.kept z=some y:=aget_of_mem nd (by rw[hs];exact aD _ av)
    have ix:idxN S.kept z=pre.length:=by
     unfold idxN
     rw[hs,aE,b7,ae hz,ai,bx,show((z,y).1==z)=true from cc _,fC]
     simp
    have lp:pre.length<S.kept.length:=by rw[hs,gxE,aG];omega
    have inpre:∀ w:Str,idxN S.kept w<pre.length->du (pre.map fun p=>(p.1,ft S.kept p.1)) w=some (ft S.kept w):=fun w hw=>by
     have hm2:w∈pre.map (·.1):=by
      unfold idxN at hw
      rw[hs,aE,b7]at hw
      by_cases q:w∈pre.map (·.1)
      ·exact q
      ·rw[ae q,fC]at hw;omega
     obtain⟨p,hp,rfl⟩:=List.mem_map.mp hm2
     have nd2:((pre.map fun p=>(p.1,ft S.kept p.1)).map (·.1)).Nodup:=by
      rw[aB]
      rw[hs,aE,bC]at nd
      exact nd.1
     exact aget_of_mem nd2 (List.mem_map.mpr ⟨p,hp,rfl⟩)
    have hn:du (pre.map fun p=>(p.1,ft S.kept p.1)) z=none:=by
     cases q:du (pre.map fun p=>(p.1,ft S.kept p.1)) z with
     | none=>rfl
     | some w =>
      have:=eS.mp (show(du (pre.map fun p=>(p.1,ft S.kept p.1)) z).isSome=true by rw[q];rfl)
      rw[aB]at this
      exact absurd this hz
    have fin:∀(v:Tk) (w1 w2 w3 w4 w5:Option D),v=ft S.kept z->∃ kd kd':List (Key×D),(μ++[MO.dic ((pre.map fun p=>(p.1,ft S.kept p.1)).map fun p=>dW p.1) ((pre.map fun p=>(p.1,ft S.kept p.1)).map fun p=>tkD p.2)])[μ.length]?=some (.dic (kd.map (·.1)) (kd.map (·.2)))/\kd.length<sizeLine/\(keyD (.str z)).map (fun k=>dput kd k (tkD v))=some kd'/\nx [some (sdD dg S),some (.mr μ.length),w1,w2,w3,w4,w5] ((μ++[MO.dic ((pre.map fun p=>(p.1,ft S.kept p.1)).map fun p=>dW p.1) ((pre.map fun p=>(p.1,ft S.kept p.1)).map fun p=>tkD p.2)]).set μ.length (.dic (kd'.map (·.1)) (kd'.map (·.2)))):=fun v w1 w2 w3 w4 w5 hv=>by
     obtain⟨e1,e2⟩:=kd_of dW tkD (pre.map fun p=>(p.1,ft S.kept p.1))
     refine⟨_,_,by rw[fb,e1,e2],?_,rfl,?_⟩
     ·rw[fC,fC];exact aq lp (sz (by omega))
     ·show nx _ ((_++[_]).set _ (.dic ((dput _ (dW z) (tkD v)).map (·.1)) ((dput _ (dW z) (tkD v)).map (·.2))))
      rw[dput_k dD tkD z v,aput_new hn,set_end]
      refine hnx _ _ ⟨pre++[(z,y)],post,_,_,_,_,_,by rw[hs,aH];rfl,rfl,rfl,?_⟩
      have e3:(pre++[(z,y)]).map (fun p=>(p.1,ft S.kept p.1))=pre.map (fun p=>(p.1,ft S.kept p.1))++[(z,v)]:=by rw[aE,hv];rfl
      rw[e3,<- (kd_of dW tkD _).1,<- (kd_of dW tkD _).2]
    refine⟨rfl,?_⟩
    cases y with
    | fst b a =>
     refine⟨rfl,_,rfl,tkD (b,a),by rw[ixF_k dD tkD z (dU S.kept) rfl,firsts_get nd,ez];rfl,fin (b,a) _ _ _ _ _ (tk_fst ez).symm⟩
    | jn l r p =>
     obtain⟨i1,i2⟩:=wf.kp.low z l r p ez
     obtain⟨⟨yl,el⟩,⟨yr,er⟩⟩:=wf.kp.there ez
     obtain⟨p1,p2⟩:=wf.js z l r p ez
     obtain⟨t1,_⟩:=tk_ok wf l yl el
     obtain⟨t2,_⟩:=tk_ok wf r yr er
     have n2:=wf.n2
     refine⟨rfl,tkD (ft S.kept l),by rw[ixM_k dD tkD l _ rfl end_dic,inpre l (by omega)];rfl,tkD (ft S.kept r),by rw[ixM_k dD tkD r _ rfl end_dic,inpre r (by omega)];rfl,?_⟩
     exact⟨ft S.kept l,ft S.kept r,rfl,rfl,rfl,rfl,by omega,by omega,by omega,fin _ _ _ _ _ _ (tk_jn wf.kp ez).symm⟩
  ·rintro ρ μ' ⟨pre,post,v1,v2,v3,v4,v5,hs,e1,rfl,rfl⟩
   cases post with
   | cons p post=>cases e1
   | nil =>
    rw[aP]at hs
    refine⟨trivial,_,_,fb,fun o kvs hks=>?_⟩
    rw[set_end]
    refine Fz.fdc (aa _) fb (mr_all fun d hd=>by obtain⟨q,_,rfl⟩:=List.mem_map.mp hd;exact⟨trivial,trivial,trivial⟩) (old_app hm) ?_
    rw[aT,hks,<- hs]
    exact kk
 ·exact h.elim
theorem ok_Stand_take (F:Fun K "take" "Stand.take" s_Stand_take f fd)(T:Bi2 mg)(de:ZStand K dg)(eJ:c_Stand_check_there P w K mg base)(C_Stand_takes_by_names:c_Stand_takes_by_names P w K mg base):d8 P w K mg base (CX1 P w) 3 f fd (pA s_Stand_take) (spX (fTakeS dg rcs)):=by
 refine F.okX sc_Stand_take (fun ds μ Kd Kx h=>fTakeS_len h) (fun cdv A outer s H E hr eE Kb Z=>⟨_,(df (s_expr (d_methX Z.z eJ de.cl hr.le (dv 0) (a1 (dv 1))))
  (dr (dP (d_ixF (fg hr) (d_meth0 C_Stand_takes_by_names de.cl hr.le (dv 0)) (dv 1) (fun _ _=>rfl))))),fun ds μ m Kd Kx hm hl em h hK=>?_⟩)
 unfold fTakeS at h
 split at h
 ·rename_i x nm
  obtain⟨_,S,m',rfl,wf,kk⟩:=h
  refine⟨⟨rfl,rfl⟩,eA em,⟨_,eA em⟩,S,rfl,?_⟩
  cases e:du S.kept nm with
  | none=>rw[e]at kk;exact(fh hK em kk).2
  | some x =>
   rw[e]at kk
   have nd2:((tkAll S.kept).map (·.1)).Nodup:=by unfold tkAll;rw[aB];exact wf.kp.nd
   have ea:du (tkAll S.kept) nm=some (ft S.kept nm):=aget_of_mem nd2 (List.mem_map.mpr ⟨_,aget_mem e,rfl⟩)
   exact⟨⟨rfl,rfl⟩,S,m',rfl,wf,tkD (ft S.kept nm),by rw[ixF_k dD tkD nm (tkAll S.kept) rfl,ea];rfl,.keep (gK_of em kk)⟩
 ·exact h.elim
theorem ok_Stand_shelf (F:Fun K "shelf" "Stand.shelf" s_Stand_shelf f fd)(T:Bi2 mg)(de:ZStand K dg)(C_Stand_takes_by_names:c_Stand_takes_by_names P w K mg base):d8 P w K mg base CX0 3 f fd (pA s_Stand_shelf) (spD (fShelfS dg)):=by
 refine F.okD sc_Stand_shelf (fun ds μ Kd h=>by unfold fShelfS at h;split at h <;> first | rfl | exact h.elim) (fun cdv A outer s H E hr=>⟨_,(df (sC1 1 false sc_Stand_shelf.nd (cOk (N:=["place", "self"]) (js:=[none,some 0]) sc_Stand_shelf (by decide +kernel)) (i_range2 rfl T.range (a2 dn (eF de.cl de.n_length (dv 0)))) (fun _ _ _ nd=>(qN 0 nd)) (fun _ _ _=>(ts_one (t_notinF (fg hr) (dv 0) (eF de.cl de.n_closed (dv 1)) (by with_unfolding_all rfl)))) (fun _ _ _=>(dv 0)))
  (dr (dP (d_tup (a3 (eF de.cl de.n_length (dv 0)) (dv 1) (d_listVals false rfl (by rfl) T.list (d_meth0 C_Stand_takes_by_names de.cl hr.le (dv 0)))))))),fun ds μ Kd hm hl h=>?_⟩)
 unfold fShelfS at h
 split at h
 ·rename_i x
  obtain⟨S,m,rfl,wf,kk⟩:=h
  have n1:=wf.n1
  have n2:=wf.n2
  refine⟨rfl,_,rfl,⟨by decide,by decide,by omega,by omega⟩,sz (by rw[rngD_len];omega),?_⟩
  rw[rngD_eq]
  refine compW_gen trivial D.int (fun p=>if(du S.eX p).isSome=true then none else some (D.int p)) (fun p _ K' k'=>?_) ?_
  ·refine⟨rfl,_,rfl,_,ixF_k ikey_inj (fun _=>.bl true) p S.eX rfl,?_⟩
   cases e:du S.eX p with
   | none=>rw[e]at k';exact k'
   | some x=>rw[e]at k';exact k'
  ·rw[open_map]
   refine⟨rfl,_,rfl,⟨rfl,rfl⟩,S,m,rfl,wf,dh rfl ⟨zs,.keep ?_⟩⟩
   have e:(tkAll S.kept).map (fun p=>tkD p.2)=(takesR S).map tkD:=by unfold tkAll takesR;rw[aB,aB];rfl
   rw[e]
   exact kk
 ·exact h.elim
theorem ok_check_age (F:Fun K "check_age" "check_age" s_check_age f fd)(T:Bi2 mg)(O_BadAge:OwnCls "BadAge" cBadAge veB "ValueError.__new__" mg base)(G_OLDEST:GInt mg "OLDEST" 20):d8 P w K mg base (CX1 P w) 1 f fd (pA s_check_age) (spX (fAgeC rcs)):=by
 refine F.okX sc_check_age (fun ds μ Kd Kx h=>fAgeC_len h) (fun cdv A outer s H E hr eE Kb Z=>⟨_,(dr (s_if (PW.pt (t_or (qLt (dv 0) dn) (t_or1 (qGt (dv 0) (d_gint rfl G_OLDEST)))))
  (dr (s_raise Z rfl O_BadAge af (by decide) af rfl (a1 dt)))
  eO)),fun ds μ m Kd Kx hm hl em h hK=>?_⟩)
 unfold fAgeC at h
 split at h
 ·rename_i a
  obtain⟨_,kk⟩:=h
  unfold ageW at kk
  refine iteD (c:=a<0) (fun q=>⟨zs,fh hK em (by rw[ae (by omega)]at kk;exact kk)⟩) (fun q1=>iteD (c:=20<a) (fun q=>⟨zs,fh hK em (by rw[ae (by omega)]at kk;exact kk)⟩) (fun q2=>.keep (gK_of em (by rw[ag (by omega)]at kk;exact kk))))
 ·exact h.elim
theorem ok_check_place (F:Fun K "check_place" "check_place" s_check_place f fd)(T:Bi2 mg)(de:ZStand K dg)(O_BadPlace:OwnCls "BadPlace" cBadPlace veB "ValueError.__new__" mg base):d8 P w K mg base (CX1 P w) 1 f fd (pA s_check_place) (spX (fPlaceC dg rcs)):=by
 refine F.okX sc_check_place (fun ds μ Kd Kx h=>fPlaceC_len h) (fun cdv A outer s H E hr eE Kb Z=>⟨_,(dr (s_if (PW.pt (t_or (qLt (dv 1) dn) (t_or1 (qGe (dv 1) (eF de.cl de.n_length (dv 0))))))
  (dr (s_raise Z rfl O_BadPlace af (by decide) af rfl (a1 dt)))
  eO)),fun ds μ m Kd Kx hm hl em h hK=>?_⟩)
 unfold fPlaceC at h
 split at h
 ·rename_i x p
  obtain⟨_,S,rfl,kk⟩:=h
  unfold fv at kk
  refine iteD (c:=p<1) (fun q=>⟨zs,fh hK em (by rw[ae (by omega)]at kk;exact kk)⟩) (fun q1=>⟨rfl,_,rfl,iteD (c:=S.n<=p) (fun q=>⟨zs,fh hK em (by rw[ae (by omega)]at kk;exact kk)⟩) (fun q2=>.keep (gK_of em (by rw[ag (by omega)]at kk;exact kk)))⟩)
 ·exact h.elim
theorem ok_check_new (F:Fun K "check_new" "check_new" s_check_new f fd)(T:Bi2 mg)(de:ZStand K dg)(O_BadName:OwnCls "BadName" cBadName veB "ValueError.__new__" mg base)(O_Taken:OwnCls "Taken" cTaken veB "ValueError.__new__" mg base)(O_Full:OwnCls "Full" cFull veB "ValueError.__new__" mg base)(G_MOST_TAKES:GInt mg "MOST_TAKES" 20)(G_MOST_LETTERS:GInt mg "MOST_LETTERS" 8):d8 P w K mg base (CX1 P w) 1 f fd (pA s_check_new) (spX (fNew dg rcs)):=by
 refine F.okX sc_check_new (fun ds μ Kd Kx h=>fNew_len h) (fun cdv A outer s H E hr eE Kb Z=>⟨_,(df (s_if (PW.pt (t_or (qLt (dLn T (dv 1)) dn) (t_or (qGt (dLn T (dv 1)) (d_gint rfl G_MOST_LETTERS)) (t_or1 (t_not (d_testV (d_blt (allC rfl) so_all (by rfl) T.all PyProof.Rows.boot_all (a1 (dC1 false (cOk (N:=["sign"]) (js:=[none]) sc_check_new (by decide +kernel)) (i_str (dv 1)) (fun _ _ _ nd=>(qN 0 nd)) (fun _ _ _=>ts_nil) (fun _ _ _=>(d_chain op_le_str op_le_str so_leS so_leS dt (dv 0) dt)))))))))))
  (dr (s_raise Z rfl O_BadName af (by decide) af rfl (a1 dt)))
  eO)
  (df (s_if (t_inF (fg hr) (dv 1) (eF de.cl de.fw (dv 0)) (by with_unfolding_all rfl))
  (dr (s_raise Z rfl O_Taken af (by decide) af rfl (a1 dt)))
  eO)
  (dr (s_if (qGe (d_blt lenD so_lenD (by rfl) T.len cA (a1 (eF de.cl de.fw (dv 0)))) (d_gint rfl G_MOST_TAKES))
  (dr (s_raise Z rfl O_Full af (by decide) af rfl (a1 dt)))
  eO)))),fun ds μ m Kd Kx hm hl em h hK=>?_⟩)
 unfold fNew at h
 split at h
 ·rename_i x nm
  obtain⟨_,hz,S,rfl,kk⟩:=h
  have sl:nm.length<=sizeLine:=sz (by omega)
  unfold newW at kk
  have bad:namedB nm=false->Kx (.ref cBadName) μ:=fun q=>by rw[ag q]at kk;exact kk
  refine⟨sl,iteD (c:=((nm.length:Nat):Int)<1) (fun q=>⟨zs,fh hK em (bad ?_)⟩) (fun q1=>⟨sl,iteD (c:=(8:Int)<((nm.length:Nat):Int)) (fun q=>⟨zs,fh hK em (bad ?_)⟩) (fun q2=>?_)⟩)⟩
  ·unfold namedB;rw[aj (show ¬ 1<=nm.length by omega)];rfl
  ·unfold namedB;rw[aj (show ¬ nm.length<=8 by omega),Bool.and_false];rfl
  refine⟨by rw[fC];exact sl,?_⟩
  refine compW_all trivial (fun c:Nat=>D.str ⟨#[c]⟩) (fun c=>D.bl (decide (97<=c)&&decide (c<=122))) (fun c _ K' k'=>?_) ?_
  ·have e1:(!decide (([c]:List Nat)<[97]))=decide (97<=c):=by rw[cmp1];by_cases q:97<=c <;> simp[q]<;> omega
   have e2:(!decide (([122]:List Nat)<[c]))=decide (c<=122):=by rw[cmp1];by_cases q:c<=122 <;> simp[q]<;> omega
   show if(!decide (([c]:List Nat)<[97]))=true then K' (some (.bl (!decide (([122]:List Nat)<[c])))) _ else K' (some (.bl false)) _
   rw[e1,e2]
   cases q:decide (97<=c)with
   | true=>rw[q]at k';exact k'
   | false=>rw[q]at k';exact k'
  ·refine⟨nm.cps.toList.map fun c=>decide (97<=c)&&decide (c<=122),by rw[aB];rfl,?_⟩
   have eb:((nm.cps.toList.map fun c=>decide (97<=c)&&decide (c<=122)).all id)=namedB nm:=by rw[nameB_of q1 q2,List.all_map];rfl
   show if(!((nm.cps.toList.map fun c=>decide (97<=c)&&decide (c<=122)).all id))=true then _ else _
   rw[eb]
   cases q3:namedB nm with
   | false=>exact⟨zs,fh hK em (bad q3)⟩
   | true =>
    rw[ae (by rw[q3];exact fun z=>nomatch z)]at kk
    refine⟨rfl,_,rfl,_,ixF_k dD ptD nm S.kept rfl,?_⟩
    unfold hasN at kk
    cases e:du S.kept nm with
    | some x=>rw[e]at kk;exact⟨zs,fh hK em kk⟩
    | none =>
     rw[e]at kk
     refine⟨rfl,_,rfl,dh rfl ?_⟩
     have kk:orX _ Kd Kx (if 20<=S.kept.length then some 10 else none) .fB μ:=kk
     refine iteD (c:=(20:Int)<=((S.kept.map fun p=>dW p.1).length:Nat)) (fun q=>⟨zs,fh hK em ?_⟩) (fun q=>.keep (gK_of em ?_))
     ·rw[fC]at q;rw[ag (by omega)]at kk;exact kk
     ·rw[fC]at q;rw[ae (by omega)]at kk;exact kk
 ·exact h.elim
theorem ok_put (F:Fun K "put" "put" s_put f fd)(T:Bi2 mg)(de:ZStand K dg)(O_BadBars:OwnCls "BadBars" cBadBars veB "ValueError.__new__" mg base)(C_check_new:c_check_new P w K mg base)(C_is_bars:c_is_bars P w K mg base)(C_check_age:c_check_age P w K mg base)(C_with_key:c_with_key P w K mg base)(dR:eR P w K mg base):d8 P w K mg base (CX1 P w) 6 f fd (pA s_put) (spX (fDeed1 dg rcs 0)):=by
 refine F.okX sc_put (fun ds μ Kd Kx h=>fDeed1_len h) (fun cdv A outer s H E hr eE Kb Z=>⟨_,(df (s_asg (dv 1) ⟨(pg_tupC (n:=4) rfl (dq (qN 2 sc_put.nd) (dq (qN 3 sc_put.nd) (dq (qN 4 sc_put.nd) (dq (qN 5 sc_put.nd) eY))))),(so_tup (dG (dA 2) (dc 2) (dG (dA 3) (dc 3) (dG (dA 4) (dc 4) (dG (dA 5) (dc 5) so_nil dz) (dj (dc 5) dz)) (dj (dc 4) (dj (dc 5) dz))) (dj (dc 3) (dj (dc 4) (dj (dc 5) dz))))),(mo_tup (dj (dc 2) (dj (dc 3) (dj (dc 4) (dj (dc 5) dz)))))⟩)
  (df (s_expr (d_callX Z.z C_check_new hr.le rfl (a2 (dv 0) (dv 3))))
  (df (s_if (t_not (d_testV (qC C_is_bars hr (a2 (eF de.cl de.n_length (dv 0)) (dv 4)))))
  (dr (s_raise Z rfl O_BadBars af (by decide) af rfl (a1 dt)))
  eO)
  (df (s_expr (d_callX Z.z C_check_age hr.le rfl (a1 (dv 5))))
  (df (qS 6 sc_put.nd (qC C_with_key hr (a3 (eF de.cl de.fw (dv 0)) (dv 3) d_non)))
  (dr (dP (d_fz (d_make dR hr.le rfl (dm (eF de.cl de.n_length (dv 0)) (dm (dv 6) (dm (qC C_with_key hr (a3 (eF de.cl de.n_firsts (dv 0)) (dv 3) (d_tup (a2 (dv 4) (dv 5))))) (dm (eF de.cl de.n_closed (dv 0)) da_nil))))))))))))),fun ds μ m Kd Kx hm hl em h hK=>?_⟩)
 unfold fDeed1 at h
 split at h
 ·rename_i x y
  obtain⟨_,S,d,m',rfl,rfl,hw,wf,hm',dX,kk⟩:=h
  obtain⟨nm,b,a,rfl⟩:∃ nm b a,d=.put nm b a:=by cases d <;> first | exact⟨_,_,_,rfl⟩ | cases hw
  have few:=wf.few
  refine⟨rfl,eA em,⟨_,eA em⟩,dX.1,S,rfl,?_⟩
  have kk:orX _ Kd Kx ((newW S nm).or (if((b.length:Nat):Int)=S.n/\oxB b=true then ageW a else some 0)) (sdD dg (doD S (.put nm b a))) μ:=kk
  cases e:newW S nm with
  | some i=>rw[e]at kk;exact(fh hK em kk).2
  | none =>
   rw[e]at kk
   refine⟨rfl,_,rfl,dX.2,iteNot (c:=((b.length:Nat):Int)=S.n/\oxB b=true) (fun q=>⟨zs,fh hK em ?_⟩) (fun q=>?_)⟩
   ·have kk:orX _ Kd Kx (if((b.length:Nat):Int)=S.n/\oxB b=true then ageW a else some 0) (sdD dg (doD S (.put nm b a))) μ:=kk
    rw[ae q]at kk;exact kk
   ·have kk:orX _ Kd Kx (if((b.length:Nat):Int)=S.n/\oxB b=true then ageW a else some 0) (sdD dg (doD S (.put nm b a))) μ:=kk
    rw[ag q]at kk
    refine⟨eA em,⟨_,eA em⟩,?_⟩
    cases e2:ageW a with
    | some i=>rw[e2]at kk;exact(fh hK em kk).2
    | none =>
     rw[e2]at kk
     obtain⟨n1,n2,n3⟩:=newW_none e
     refine⟨rfl,_,rfl,_,_,(kd_of dW ptD S.kept).1,(kd_of dW ptD S.kept).2,by rw[kd_len];omega,rfl,?_⟩
     have lf:(dU S.kept).length<=20:=aw (b9 _ _) few
     refine⟨rfl,_,rfl,rfl,_,rfl,zs,_,_,(kd_of dW tkD (dU S.kept)).1,(kd_of dW tkD (dU S.kept)).2,by rw[kd_len];omega,rfl,rfl,_,rfl,fb,rfl,?_⟩
     rw[set_end]
     refine Fz.obj (aa _) fb ⟨trivial,mr_dput (mr_g pt_mr _) trivial,mr_dput (mr_g tk_mr _) (tk_mr (b.cps.toList,a)),mr_sh _,trivial⟩ (old_app hm) ?_
     rw[aT]
     have kk:Kd (.obj dg sdN [.int S.n,dcG dW ptD (fE S.kept nm (.fst b.cps.toList a)),dcG dW tkD (dU (fE S.kept nm (.fst b.cps.toList a))),shD S.eX]) μ:=kk
     rw[firsts_new wf.kp.nd n2,<- wput dD ptD,<- wput dD tkD]at kk
     exact .keep (gK_of em kk)
 ·exact h.elim
theorem ok_join (F:Fun K "join" "join" s_join f fd)(T:Bi2 mg)(de:ZStand K dg)(O_Shut:OwnCls "Shut" cShut veB "ValueError.__new__" mg base)(C_check_new:c_check_new P w K mg base)(eJ:c_Stand_check_there P w K mg base)(C_check_place:c_check_place P w K mg base)(C_with_key:c_with_key P w K mg base)(dR:eR P w K mg base):d8 P w K mg base (CX1 P w) 6 f fd (pA s_join) (spX (fDeed1 dg rcs 1)):=by
 refine F.okX sc_join (fun ds μ Kd Kx h=>fDeed1_len h) (fun cdv A outer s H E hr eE Kb Z=>⟨_,(df (s_asg (dv 1) ⟨(pg_tupC (n:=5) rfl (dq (qN 2 sc_join.nd) (dq (qN 3 sc_join.nd) (dq (qN 4 sc_join.nd) (dq (qN 5 sc_join.nd) (dq (qN 6 sc_join.nd) eY)))))),(so_tup (dG (dA 2) (dc 2) (dG (dA 3) (dc 3) (dG (dA 4) (dc 4) (dG (dA 5) (dc 5) (dG (dA 6) (dc 6) so_nil dz) (dj (dc 6) dz)) (dj (dc 5) (dj (dc 6) dz))) (dj (dc 4) (dj (dc 5) (dj (dc 6) dz)))) (dj (dc 3) (dj (dc 4) (dj (dc 5) (dj (dc 6) dz)))))),(mo_tup (dj (dc 2) (dj (dc 3) (dj (dc 4) (dj (dc 5) (dj (dc 6) dz))))))⟩)
  (df (s_expr (d_callX Z.z C_check_new hr.le rfl (a2 (dv 0) (dv 3))))
  (df (s_expr (d_methX Z.z eJ de.cl hr.le (dv 0) (a1 (dv 4))))
  (df (s_expr (d_methX Z.z eJ de.cl hr.le (dv 0) (a1 (dv 5))))
  (df (s_expr (d_callX Z.z C_check_place hr.le rfl (a2 (dv 0) (dv 6))))
  (df (s_if (t_inF (fg hr) (dv 6) (eF de.cl de.n_closed (dv 0)) (by with_unfolding_all rfl))
  (dr (s_raise Z rfl O_Shut af (by decide) af rfl (a1 dt)))
  eO)
  (dr (dP (d_fz (d_make dR hr.le rfl (dm (eF de.cl de.n_length (dv 0)) (dm (qC C_with_key hr (a3 (eF de.cl de.fw (dv 0)) (dv 3) (d_tup (a3 (dv 4) (dv 5) (dv 6))))) (dm (eF de.cl de.n_firsts (dv 0)) (dm (eF de.cl de.n_closed (dv 0)) da_nil)))))))))))))),fun ds μ m Kd Kx hm hl em h hK=>?_⟩)
 unfold fDeed1 at h
 split at h
 ·rename_i x y
  obtain⟨_,S,d,m',rfl,rfl,hw,wf,hm',dX,kk⟩:=h
  obtain⟨nm,l,r,p,rfl⟩:∃ nm l r p,d=.join nm l r p:=by cases d <;> first | exact⟨_,_,_,_,rfl⟩ | cases hw
  have few:=wf.few
  refine⟨rfl,eA em,⟨_,eA em⟩,dX,S,rfl,?_⟩
  have kk:orX _ Kd Kx ((newW S nm).or (if hasN S l=false then some 11 else if hasN S r=false then some 11 else(fv S p).or (if(du S.eX p).isSome=true then some 12 else none))) (sdD dg (doD S (.join nm l r p))) μ:=kk
  cases e:newW S nm with
  | some i=>rw[e]at kk;exact(fh hK em kk).2
  | none =>
   rw[e]at kk
   have kk:orX _ Kd Kx (if hasN S l=false then some 11 else if hasN S r=false then some 11 else(fv S p).or (if(du S.eX p).isSome=true then some 12 else none)) (sdD dg (doD S (.join nm l r p))) μ:=kk
   refine⟨⟨rfl,rfl⟩,eA em,⟨_,eA em⟩,S,rfl,?_⟩
   unfold hasN at kk
   cases el:du S.kept l with
   | none=>rw[el]at kk;exact(fh hK em kk).2
   | some yl =>
    rw[el]at kk
    refine⟨⟨rfl,rfl⟩,eA em,⟨_,eA em⟩,S,rfl,?_⟩
    cases er:du S.kept r with
    | none=>rw[er]at kk;exact(fh hK em kk).2
    | some yr =>
     rw[er]at kk
     have kk:orX _ Kd Kx ((fv S p).or (if(du S.eX p).isSome=true then some 12 else none)) (sdD dg (doD S (.join nm l r p))) μ:=kk
     refine⟨eA em,⟨_,eA em⟩,S,rfl,?_⟩
     cases e2:fv S p with
     | some i=>rw[e2]at kk;exact(fh hK em kk).2
     | none =>
      rw[e2]at kk
      refine⟨rfl,_,rfl,_,ixF_k ikey_inj (fun _=>.bl true) p S.eX rfl,?_⟩
      cases e3:du S.eX p with
      | some u=>rw[e3]at kk;exact⟨zs,fh hK em kk⟩
      | none =>
       rw[e3]at kk
       obtain⟨n1,n2,n3⟩:=newW_none e
       refine⟨rfl,_,rfl,rfl,_,rfl,zs,_,_,(kd_of dW ptD S.kept).1,(kd_of dW ptD S.kept).2,by rw[kd_len];omega,rfl,rfl,_,rfl,rfl,_,rfl,fb,rfl,?_⟩
       rw[set_end]
       refine Fz.obj (aa _) fb ⟨trivial,mr_dput (mr_g pt_mr _) (pt_mr (.jn l r p)),mr_dc tk_mr _,mr_sh _,trivial⟩ (old_app hm) ?_
       rw[aT]
       have kk:Kd (.obj dg sdN [.int S.n,dcG dW ptD (fE S.kept nm (.jn l r p)),dcG dW tkD (dU (fE S.kept nm (.jn l r p))),shD S.eX]) μ:=kk
       rw[firsts_jn n2,<- wput dD ptD]at kk
       exact .keep (gK_of em kk)
 ·exact h.elim
theorem ok_found (F:Fun K "found" "found" s_found f fd)(T:Bi2 mg)(de:ZStand K dg)(O_BadBars:OwnCls "BadBars" cBadBars veB "ValueError.__new__" mg base)(C_Stand_source:c_Stand_source P w K mg base)(C_with_key:c_with_key P w K mg base)(dR:eR P w K mg base):d8 P w K mg base (CX1 P w) 6 f fd (pA s_found) (spX (fDeed1 dg rcs 2)):=by
 refine F.okX sc_found (fun ds μ Kd Kx h=>fDeed1_len h) (fun cdv A outer s H E hr eE Kb Z=>⟨_,(df (s_asg (dv 1) ⟨(pg_tupC (n:=4) rfl (dq (qN 2 sc_found.nd) (dq (qN 3 sc_found.nd) (dq (qN 4 sc_found.nd) (dq (qN 5 sc_found.nd) eY))))),(so_tup (dG (dA 2) (dc 2) (dG (dA 3) (dc 3) (dG (dA 4) (dc 4) (dG (dA 5) (dc 5) so_nil dz) (dj (dc 5) dz)) (dj (dc 4) (dj (dc 5) dz))) (dj (dc 3) (dj (dc 4) (dj (dc 5) dz))))),(mo_tup (dj (dc 2) (dj (dc 3) (dj (dc 4) (dj (dc 5) dz)))))⟩)
  (df (s_asg (d_methX Z.z C_Stand_source de.cl hr.le (dv 0) (a2 (dv 3) (dv 4))) ⟨(pg_tupC (n:=2) rfl (dq (qN 6 sc_found.nd) (dq (qN 7 sc_found.nd) eY))),(so_tup (dG (dA 6) (dc 6) (dG (dA 7) (dc 7) so_nil dz) (dj (dc 7) dz))),(mo_tup (dj (dc 6) (dj (dc 7) dz)))⟩)
  (df (s_if (PW.pt (t_and (qNe (dv 5) dt) (t_and1 (qNe (dv 5) dt))))
  (dr (s_raise Z rfl O_BadBars af (by decide) af rfl (a1 dt)))
  eO)
  (df (s_asg (d_ixF (fg hr) (eF de.cl de.n_firsts (dv 0)) (dv 6) (fun _ _=>rfl)) ⟨(pg_tupC (n:=2) rfl (dq (qN 8 sc_found.nd) (dq (qN 9 sc_found.nd) eY))),(so_tup (dG (dA 8) (dc 8) (dG (dA 9) (dc 9) so_nil dz) (dj (dc 9) dz))),(mo_tup (dj (dc 8) (dj (dc 9) dz)))⟩)
  (df (qS 10 sc_found.nd (d_tup (a2 (dPl (dPl (d_slice false (dv 8) o_no (o_some (dv 4))) (dv 5)) (d_slice false (dv 8) (o_some (dPl (dv 4) dn)) o_no)) (dv 9))))
  (dr (dP (d_fz (d_make dR hr.le rfl (dm (eF de.cl de.n_length (dv 0)) (dm (eF de.cl de.fw (dv 0)) (dm (qC C_with_key hr (a3 (eF de.cl de.n_firsts (dv 0)) (dv 6) (dv 10))) (dm (eF de.cl de.n_closed (dv 0)) da_nil))))))))))))),fun ds μ m Kd Kx hm hl em h hK=>?_⟩)
 unfold fDeed1 at h
 split at h
 ·rename_i x y
  obtain⟨_,S,d,m',rfl,rfl,hw,wf,hm',dX,kk⟩:=h
  obtain⟨nm,bar,sg,rfl⟩:∃ nm bar sg,d=.found nm bar sg:=by cases d <;> first | exact⟨_,_,_,rfl⟩ | cases hw
  have few:=wf.few
  have n2:=wf.n2
  refine⟨rfl,⟨rfl,rfl⟩,eA em,⟨_,eA em⟩,S,rfl,wf.kp,?_⟩
  have kk:orX _ Kd Kx (if hasN S nm=false then some 11 else if 0<=bar/\bar<S.n then(if sg = "o"\/sg = "x" then none else some 0)else some 6) (sdD dg (doD S (.found nm bar sg))) μ:=kk
  unfold hasN at kk
  cases e:du S.kept nm with
  | none=>rw[e]at kk;exact(fh hK em kk).2
  | some x =>
   rw[e]at kk
   have kk:orX _ Kd Kx (if 0<=bar/\bar<S.n then(if sg = "o"\/sg = "x" then none else some 0)else some 6) (sdD dg (doD S (.found nm bar sg))) μ:=kk
   by_cases hb:0<=bar/\bar<S.n
   ·rw[ag hb]at kk
    show(if 0<=bar/\bar<S.n then _ else _)
    rw[ag hb]
    refine⟨rfl,?_⟩
    by_cases hs:sg = "o"\/sg = "x"
    ·rw[ag hs]at kk
     obtain⟨b,a,ef⟩:=src_fst wf.kp bar nm x e
     obtain⟨f1,f2,f3,f4⟩:=wf.fs _ b a ef
     obtain⟨o1,o2⟩:=sgn_ox hs
     have lf:(dU S.kept).length<=20:=aw (b9 _ _) few
     have kk:Kd (.obj dg sdN [.int S.n,dcG dW ptD (hear S.kept (srcOf S.kept nm bar).1 bar sg),dcG dW tkD (dU (hear S.kept (srcOf S.kept nm bar).1 bar sg)),shD S.eX]) μ:=kk
     unfold hear at kk
     rw[ef]at kk
     dsimp only at kk
     rw[firsts_old wf.kp.nd ef,<- wput dD tkD,pt_again ef wf.kp.nd]at kk
     have sl:sg.length=1:=o2
     have lb:(txt b).length<=sizeLine:=by rw[txt_len];exact sz (by omega)
     have c1:=cutL_le b none (some bar)
     have c2:=cutL_le b (some (bar+1)) none
     have eh:(⟨(cutL b none (some bar)).toArray⟩++sg++⟨(cutL b (some (bar+1)) none).toArray⟩:Str)=txt (hearB b bar sg):=by
      rw[cutL_to hb.1,cutL_from (show 0<=bar+1 by omega),show(bar+1).toNat=bar.toNat+1 by omega]
      rw[app_sg,app_str,aH]
      rfl
     have l1:(⟨(cutL b none (some bar)).toArray⟩:Str).length+sg.length<=sizeLine:=by rw[sl];show(cutL b none (some bar)).length+1<=_;exact sz (by omega)
     have l2:(⟨(cutL b none (some bar)).toArray⟩++sg:Str).length+(⟨(cutL b (some (bar+1)) none).toArray⟩:Str).length<=sizeLine:=by
      rw[app_sg]
      show(cutL b none (some bar)++sg.cps.toList).length+(cutL b (some (bar+1)) none).length<=_
      rw[gxE,o2]
      exact sz (by omega)
     have eg:ixF ((dU S.kept).map fun p=>dW p.1) ((dU S.kept).map fun p=>tkD p.2) (.str (srcOf S.kept nm bar).1)=some (some (tkD (b,a))):=by rw[ixF_k dD tkD _ (dU S.kept) rfl,firsts_get wf.kp.nd,ef];rfl
     refine iteNn (c1:=sg = "o") (c2:=sg = "x") (fun _=>?_) (fun z=>absurd hs z)
     refine⟨rfl,_,rfl,tkD (b,a),eg,rfl,lb,l1,lb,l2,zs,?_⟩
     refine⟨rfl,_,rfl,rfl,_,rfl,rfl,_,rfl,_,_,(kd_of dW tkD (dU S.kept)).1,(kd_of dW tkD (dU S.kept)).2,by rw[kd_len];omega,rfl,rfl,_,rfl,fb,rfl,?_⟩
     rw[set_end]
     refine Fz.obj (aa _) fb ⟨trivial,mr_dc pt_mr _,mr_dput (mr_g tk_mr _) ⟨trivial,trivial,trivial⟩,mr_sh _,trivial⟩ (old_app hm) ?_
     rw[aT]
     refine .keep (gK_of em ?_)
     show Kd (.obj dg sdN [.int S.n,dcG dW ptD S.kept,.fdc ((dput _ _ (.tup [.str (⟨(cutL b none (some bar)).toArray⟩++sg++⟨(cutL b (some (bar+1)) none).toArray⟩),.int a])).map (·.1)) ((dput _ _ (.tup [.str (⟨(cutL b none (some bar)).toArray⟩++sg++⟨(cutL b (some (bar+1)) none).toArray⟩),.int a])).map (·.2)),shD S.eX]) μ
     rw[eh]
     exact kk
    ·rw[ae hs]at kk
     exact iteDn (c:=sg = "o") (fun q1=>iteDn (c:=sg = "x") (fun q2=>⟨zs,fh hK em kk⟩) (fun q2=>absurd (.inr q2) hs)) (fun q1=>absurd (.inl q1) hs)
   ·rw[ae hb]at kk
    show(if 0<=bar/\bar<S.n then _ else _)
    rw[ae hb]
    exact(fh hK em kk).2
 ·exact h.elim
theorem ok_aged (F:Fun K "aged" "aged" s_aged f fd)(T:Bi2 mg)(de:ZStand K dg)(O_Joined:OwnCls "Joined" cJoined veB "ValueError.__new__" mg base)(C_Stand_parts:c_Stand_parts P w K mg base)(C_check_age:c_check_age P w K mg base)(C_with_key:c_with_key P w K mg base)(dR:eR P w K mg base):d8 P w K mg base (CX1 P w) 6 f fd (pA s_aged) (spX (fDeed1 dg rcs 3)):=by
 refine F.okX sc_aged (fun ds μ Kd Kx h=>fDeed1_len h) (fun cdv A outer s H E hr eE Kb Z=>⟨_,(df (s_asg (dv 1) ⟨(pg_tupC (n:=3) rfl (dq (qN 2 sc_aged.nd) (dq (qN 3 sc_aged.nd) (dq (qN 4 sc_aged.nd) eY)))),(so_tup (dG (dA 2) (dc 2) (dG (dA 3) (dc 3) (dG (dA 4) (dc 4) so_nil dz) (dj (dc 4) dz)) (dj (dc 3) (dj (dc 4) dz)))),(mo_tup (dj (dc 2) (dj (dc 3) (dj (dc 4) dz))))⟩)
  (df (s_if (t_notN (d_methX Z.z C_Stand_parts de.cl hr.le (dv 0) (a1 (dv 3))))
  (dr (s_raise Z rfl O_Joined af (by decide) af rfl (a1 dt)))
  eO)
  (df (s_expr (d_callX Z.z C_check_age hr.le rfl (a1 (dv 4))))
  (df (s_asg (d_ixF (fg hr) (eF de.cl de.n_firsts (dv 0)) (dv 3) (fun _ _=>rfl)) ⟨(pg_tupC (n:=2) rfl (dq (qN 5 sc_aged.nd) (dq (qN 6 sc_aged.nd) eY))),(so_tup (dG (dA 5) (dc 5) (dG (dA 6) (dc 6) so_nil dz) (dj (dc 6) dz))),(mo_tup (dj (dc 5) (dj (dc 6) dz)))⟩)
  (dr (dP (d_fz (d_make dR hr.le rfl (dm (eF de.cl de.n_length (dv 0)) (dm (eF de.cl de.fw (dv 0)) (dm (qC C_with_key hr (a3 (eF de.cl de.n_firsts (dv 0)) (dv 3) (d_tup (a2 (dv 5) (dv 4))))) (dm (eF de.cl de.n_closed (dv 0)) da_nil)))))))))))),fun ds μ m Kd Kx hm hl em h hK=>?_⟩)
 unfold fDeed1 at h
 split at h
 ·rename_i x y
  obtain⟨_,S,d,m',rfl,rfl,hw,wf,hm',dX,kk⟩:=h
  obtain⟨nm,a,rfl⟩:∃ nm a,d=.aged nm a:=by cases d <;> first | exact⟨_,_,rfl⟩ | cases hw
  have few:=wf.few
  have lf:(dU S.kept).length<=20:=aw (b9 _ _) few
  refine⟨rfl,⟨rfl,rfl⟩,eA em,⟨_,eA em⟩,S,rfl,?_⟩
  have kk:orX _ Kd Kx (match du S.kept nm with | none=>some 11 | some (.jn _ _ _)=>some 13 | some (.fst _ _)=>ageW a) (sdD dg (match du S.kept nm with | some (.fst b _)=>{ S with kept:=fE S.kept nm (.fst b a)} | _=>S)) μ:=kk
  cases e:du S.kept nm with
  | none=>rw[e]at kk;exact(fh hK em kk).2
  | some x =>
   rw[e]at kk
   cases x with
   | jn l r p=>exact⟨zs,fh hK em kk⟩
   | fst b a0 =>
    refine⟨eA em,⟨_,eA em⟩,?_⟩
    have kk:orX _ Kd Kx (ageW a) (sdD dg { S with kept:=fE S.kept nm (.fst b a)}) μ:=kk
    cases e2:ageW a with
    | some i=>rw[e2]at kk;exact(fh hK em kk).2
    | none =>
     rw[e2]at kk
     refine⟨rfl,_,rfl,tkD (b,a0),by rw[ixF_k dD tkD nm (dU S.kept) rfl,firsts_get wf.kp.nd,e];rfl,rfl,?_⟩
     refine⟨rfl,_,rfl,rfl,_,rfl,rfl,_,rfl,zs,_,_,(kd_of dW tkD (dU S.kept)).1,(kd_of dW tkD (dU S.kept)).2,by rw[kd_len];omega,rfl,rfl,_,rfl,fb,rfl,?_⟩
     rw[set_end]
     refine Fz.obj (aa _) fb ⟨trivial,mr_dc pt_mr _,mr_dput (mr_g tk_mr _) (tk_mr (b,a)),mr_sh _,trivial⟩ (old_app hm) ?_
     rw[aT]
     have kk:Kd (.obj dg sdN [.int S.n,dcG dW ptD (fE S.kept nm (.fst b a)),dcG dW tkD (dU (fE S.kept nm (.fst b a))),shD S.eX]) μ:=kk
     rw[firsts_old wf.kp.nd e,<- wput dD tkD,pt_again e wf.kp.nd]at kk
     exact .keep (gK_of em kk)
 ·exact h.elim
theorem ok_drop (F:Fun K "drop" "drop" s_drop f fd)(T:Bi2 mg)(de:ZStand K dg)(O_Needed:OwnCls "Needed" cNeeded veB "ValueError.__new__" mg base)(eJ:c_Stand_check_there P w K mg base)(C_without_key:c_without_key P w K mg base)(dR:eR P w K mg base):d8 P w K mg base (CX1 P w) 6 f fd (pA s_drop) (spX (fDeed1 dg rcs 4)):=by
 refine F.okX sc_drop (fun ds μ Kd Kx h=>fDeed1_len h) (fun cdv A outer s H E hr eE Kb Z=>⟨_,(df (s_asg (dv 1) ⟨(pg_tupC (n:=2) rfl (dq (qN 2 sc_drop.nd) (dq (qN 3 sc_drop.nd) eY))),(so_tup (dG (dA 2) (dc 2) (dG (dA 3) (dc 3) so_nil dz) (dj (dc 3) dz))),(mo_tup (dj (dc 2) (dj (dc 3) dz)))⟩)
  (df (s_expr (d_methX Z.z eJ de.cl hr.le (dv 0) (a1 (dv 3))))
  (df (s_if (d_testV (d_blt (anyC rfl) so_all (by rfl) T.any PyProof.Rows.boot_any (a1 (dC1 false (cOk (N:=["parts", "name"]) (js:=[none,some 3]) sc_drop (by decide +kernel)) (i_valuesF (eF de.cl de.fw (dv 0))) (fun _ _ _ nd=>(qN 0 nd)) (fun _ _ _=>ts_nil) (fun _ _ _=>(d_and (d_notN (dv 0)) (d_one (d_cmp inC so_inT (dv 1) (d_sliceT (dv 0) o_no (o_some dn)) (by with_unfolding_all rfl)))))))))
  (dr (s_raise Z rfl O_Needed af (by decide) af rfl (a1 dt)))
  eO)
  (df (qS 4 sc_drop.nd (qC C_without_key hr (a2 (eF de.cl de.fw (dv 0)) (dv 3))))
  (dr (dP (d_fz (d_make dR hr.le rfl (dm (eF de.cl de.n_length (dv 0)) (dm (dv 4) (dm (qC C_without_key hr (a2 (eF de.cl de.n_firsts (dv 0)) (dv 3))) (dm (eF de.cl de.n_closed (dv 0)) da_nil)))))))))))),fun ds μ m Kd Kx hm hl em h hK=>?_⟩)
 unfold fDeed1 at h
 split at h
 ·rename_i x y
  obtain⟨_,S,d,m',rfl,rfl,hw,wf,hm',dX,kk⟩:=h
  obtain⟨nm,rfl⟩:∃ nm,d=.drop nm:=by cases d <;> first | exact⟨_,rfl⟩ | cases hw
  have few:=wf.few
  have lf:(dU S.kept).length<=20:=aw (b9 _ _) few
  refine⟨rfl,⟨rfl,rfl⟩,eA em,⟨_,eA em⟩,S,rfl,?_⟩
  have kk:orX _ Kd Kx (if hasN S nm=false then some 11 else if needN S nm=true then some 14 else none) (sdD dg { S with kept:=adrop S.kept nm}) μ:=kk
  unfold hasN at kk
  cases e:du S.kept nm with
  | none=>rw[e]at kk;exact(fh hK em kk).2
  | some x =>
   rw[e]at kk
   have kk:orX _ Kd Kx (if needN S nm=true then some 14 else none) (sdD dg { S with kept:=adrop S.kept nm}) μ:=kk
   refine⟨rfl,_,rfl,fun _=>⟨by rw[fC];exact sz (by omega),?_⟩⟩
   refine compW_all trivial (fun p:Str×Pt=>ptD p.2) (fun p=>D.bl (isNeed nm p.2)) (fun p _ K' k'=>?_) ?_
   ·obtain⟨z,y⟩:=p
    cases y with
    | fst b a=>exact k'
    | jn l r q =>
     refine⟨fun y=>absurd y.2 (show ¬ (2:Nat)=3 by decide),rfl,rfl,?_⟩
     have eb:(false != ([D.str l,D.str r].any fun d=>deq d (.str nm)))=isNeed nm (.jn l r q):=by
      rw[fne]
      simp only[bf,List.any_nil,deq,Bool.or_false]
      rfl
     show K' (some (.bl (false != ([D.str l,D.str r].any fun d=>deq d (.str nm))))) _
     rw[eb]
     exact k'
   ·refine⟨S.kept.map fun p=>isNeed nm p.2,by rw[aB];rfl,?_⟩
    have eb:((S.kept.map fun p=>isNeed nm p.2).any id)=needN S nm:=by rw[List.any_map];rfl
    show if((S.kept.map fun p=>isNeed nm p.2).any id)=true then _ else _
    rw[eb]
    by_cases q:needN S nm=true
    ·rw[ag q]at kk ⊢
     exact⟨zs,fh hK em kk⟩
    ·rw[ae q]at kk ⊢
     have sk:∀ {β:Type} {f:β->D} {l:List (Str×β)},∀ p∈(l.map fun p=>(dW p.1,f p.2)),(∃ i j,p.1=ikey i/\dW nm=ikey j)\/∃ i j,p.1=dW i/\dW nm=dW j:=fun p hp=>by
      obtain⟨z,_,rfl⟩:=List.mem_map.mp hp;exact .inr ⟨_,_,rfl,rfl⟩
     have nf:((dU S.kept).map (·.1)).Nodup:=wf.kp.nd.sublist firsts_sub
     refine⟨rfl,_,rfl,_,_,(kd_of dW ptD S.kept).1,(kd_of dW ptD S.kept).2,by rw[kd_len];omega,kd_nd dD ptD wf.kp.nd,rfl,sk,?_⟩
     refine⟨rfl,_,rfl,rfl,_,rfl,_,_,(kd_of dW tkD (dU S.kept)).1,(kd_of dW tkD (dU S.kept)).2,by rw[kd_len];omega,kd_nd dD tkD nf,rfl,sk,rfl,_,rfl,fb,rfl,?_⟩
     rw[set_end]
     have mf:∀ {β:Type} {n:Nat} {f:β->D} (hf:∀ b,mrB n (f b)) (l:List (Str×β)),mrL n (((l.map fun p=>(dW p.1,f p.2)).filter fun p=>decide (p.1≠dW nm)).map (·.2)):=fun hf l=>mr_all fun d hd=>by
      obtain⟨z,hz,rfl⟩:=List.mem_map.mp hd
      obtain⟨z2,_,rfl⟩:=List.mem_map.mp (List.mem_filter.mp hz).1
      exact hf _
     refine Fz.obj (aa _) fb ⟨trivial,mf pt_mr _,mf tk_mr _,mr_sh _,trivial⟩ (old_app hm) ?_
     rw[aT]
     have kk:Kd (.obj dg sdN [.int S.n,dcG dW ptD (adrop S.kept nm),dcG dW tkD (dU (adrop S.kept nm)),shD S.eX]) μ:=kk
     rw[firsts_drop,<- wdrop dD,<- wdrop dD]at kk
     exact .keep (gK_of em kk)
 ·exact h.elim
theorem ok_free (F:Fun K "free" "free" s_free f fd)(T:Bi2 mg)(de:ZStand K dg)(C_check_place:c_check_place P w K mg base)(C_without_key:c_without_key P w K mg base)(dR:eR P w K mg base):d8 P w K mg base (CX1 P w) 6 f fd (pA s_free) (spX (fDeed1 dg rcs 5)):=by
 refine F.okX sc_free (fun ds μ Kd Kx h=>fDeed1_len h) (fun cdv A outer s H E hr eE Kb Z=>⟨_,(df (s_asg (dv 1) ⟨(pg_tupC (n:=2) rfl (dq (qN 2 sc_free.nd) (dq (qN 3 sc_free.nd) eY))),(so_tup (dG (dA 2) (dc 2) (dG (dA 3) (dc 3) so_nil dz) (dj (dc 3) dz))),(mo_tup (dj (dc 2) (dj (dc 3) dz)))⟩)
  (df (s_expr (d_callX Z.z C_check_place hr.le rfl (a2 (dv 0) (dv 3))))
  (dr (dP (d_fz (d_make dR hr.le rfl (dm (eF de.cl de.n_length (dv 0)) (dm (eF de.cl de.fw (dv 0)) (dm (eF de.cl de.n_firsts (dv 0)) (dm (qC C_without_key hr (a2 (eF de.cl de.n_closed (dv 0)) (dv 3))) da_nil)))))))))),fun ds μ m Kd Kx hm hl em h hK=>?_⟩)
 unfold fDeed1 at h
 split at h
 ·rename_i x y
  obtain⟨_,S,d,m',rfl,rfl,hw,wf,hm',dX,kk⟩:=h
  obtain⟨p,rfl⟩:∃ p,d=.free p:=by cases d <;> first | exact⟨_,rfl⟩ | cases hw
  have shl:=wf.shl
  refine⟨rfl,eA em,⟨_,eA em⟩,S,rfl,?_⟩
  have kk:orX _ Kd Kx (fv S p) (sdD dg { S with eX:=adrop S.eX p}) μ:=kk
  cases e:fv S p with
  | some i=>rw[e]at kk;exact(fh hK em kk).2
  | none =>
   rw[e]at kk
   refine⟨rfl,_,rfl,rfl,_,rfl,rfl,_,rfl,rfl,_,rfl,_,_,(kd_of ikey (fun _=>.bl true) S.eX).1,(kd_of ikey (fun _=>.bl true) S.eX).2,by rw[fC];omega,kd_nd ikey_inj (fun _:Unit=>D.bl true) wf.shn,rfl,fun q hq=>?_,fb,rfl,?_⟩
   ·obtain⟨z,_,rfl⟩:=List.mem_map.mp hq;exact .inl ⟨_,_,rfl,rfl⟩
   rw[set_end]
   refine Fz.obj (aa _) fb ⟨trivial,mr_dc pt_mr _,mr_dc tk_mr _,mr_all fun d hd=>?_,trivial⟩ (old_app hm) ?_
   ·obtain⟨z,hz,rfl⟩:=List.mem_map.mp hd
    obtain⟨z2,_,rfl⟩:=List.mem_map.mp (List.mem_filter.mp hz).1
    exact True.intro
   rw[aT]
   have kk:Kd (.obj dg sdN [.int S.n,dcG dW ptD S.kept,dcG dW tkD (dU S.kept),dcG ikey (fun _=>.bl true) (adrop S.eX p)]) μ:=kk
   rw[<- wdrop ikey_inj]at kk
   exact .keep (gK_of em kk)
 ·exact h.elim
theorem ok_shut (F:Fun K "shut" "shut" s_shut f fd)(T:Bi2 mg)(de:ZStand K dg)(C_check_place:c_check_place P w K mg base)(C_with_key:c_with_key P w K mg base)(dR:eR P w K mg base):d8 P w K mg base (CX1 P w) 6 f fd (pA s_shut) (spX (fDeed1 dg rcs 6)):=by
 refine F.okX sc_shut (fun ds μ Kd Kx h=>fDeed1_len h) (fun cdv A outer s H E hr eE Kb Z=>⟨_,(df (s_asg (dv 1) ⟨(pg_tupC (n:=2) rfl (dq (qN 2 sc_shut.nd) (dq (qN 3 sc_shut.nd) eY))),(so_tup (dG (dA 2) (dc 2) (dG (dA 3) (dc 3) so_nil dz) (dj (dc 3) dz))),(mo_tup (dj (dc 2) (dj (dc 3) dz)))⟩)
  (df (s_expr (d_callX Z.z C_check_place hr.le rfl (a2 (dv 0) (dv 3))))
  (dr (dP (d_fz (d_make dR hr.le rfl (dm (eF de.cl de.n_length (dv 0)) (dm (eF de.cl de.fw (dv 0)) (dm (eF de.cl de.n_firsts (dv 0)) (dm (qC C_with_key hr (a3 (eF de.cl de.n_closed (dv 0)) (dv 3) d_bl)) da_nil)))))))))),fun ds μ m Kd Kx hm hl em h hK=>?_⟩)
 unfold fDeed1 at h
 split at h
 ·rename_i x y
  obtain⟨_,S,d,m',rfl,rfl,hw,wf,hm',dX,kk⟩:=h
  obtain⟨p,rfl⟩:∃ p,d=.eX p:=by cases d <;> first | exact⟨_,rfl⟩ | cases hw
  have shl:=wf.shl
  refine⟨rfl,eA em,⟨_,eA em⟩,S,rfl,?_⟩
  have kk:orX _ Kd Kx (fv S p) (sdD dg { S with eX:=fE S.eX p ()}) μ:=kk
  cases e:fv S p with
  | some i=>rw[e]at kk;exact(fh hK em kk).2
  | none =>
   rw[e]at kk
   refine⟨rfl,_,rfl,rfl,_,rfl,rfl,_,rfl,rfl,_,rfl,_,_,(kd_of ikey (fun _=>.bl true) S.eX).1,(kd_of ikey (fun _=>.bl true) S.eX).2,by rw[fC];omega,rfl,fb,rfl,?_⟩
   rw[set_end]
   refine Fz.obj (aa _) fb ⟨trivial,mr_dc pt_mr _,mr_dc tk_mr _,mr_dput (mr_g (f:=fun _:Unit=>D.bl true) (fun _=>True.intro) _) True.intro,trivial⟩ (old_app hm) ?_
   rw[aT]
   have kk:Kd (.obj dg sdN [.int S.n,dcG dW ptD S.kept,dcG dW tkD (dU S.kept),dcG ikey (fun _=>.bl true) (fE S.eX p ())]) μ:=kk
   rw[<- wput ikey_inj (fun _:Unit=>D.bl true)]at kk
   exact .keep (gK_of em kk)
 ·exact h.elim
theorem ok_stand_behind (F:Fun K "stand_behind" "stand_behind" s_stand_behind f fd)(T:Bi2 mg)(T_DEEDS:Tab P w K mg "DEEDS" [("put",a_put),("join",a_join),("found",a_found),("aged",a_aged),("drop",a_drop),("free",a_free),("shut",a_shut)])(M_put:mg "put"=some (.ref a_put))(M_join:mg "join"=some (.ref a_join))(M_found:mg "found"=some (.ref a_found))(M_aged:mg "aged"=some (.ref a_aged))(M_drop:mg "drop"=some (.ref a_drop))(M_free:mg "free"=some (.ref a_free))(M_shut:mg "shut"=some (.ref a_shut))(C_put:c_put P w K mg base)(C_join:c_join P w K mg base)(C_found:c_found P w K mg base)(C_aged:c_aged P w K mg base)(C_drop:c_drop P w K mg base)(C_free:c_free P w K mg base)(C_shut:c_shut P w K mg base):d8 P w K mg base (CX1 P w) 7 f fd (pA s_stand_behind) (spX (fBehindS dg rcs)):=by
 have CV:=calv_cons C_put M_put (calv_cons C_join M_join (calv_cons C_found M_found (calv_cons C_aged M_aged (calv_cons C_drop M_drop (calv_cons C_free M_free (calv_cons C_shut M_shut calv_nil))))))
 refine F.okX sc_stand_behind (fun ds μ Kd Kx h=>fBehindS_len h) (fun cdv A outer s H E hr eE Kb Z=>⟨_,(df (qS 2 sc_stand_behind.nd (d_tab T_DEEDS rfl (fu (dv 1) dn) (fun _ _=>rfl)))
  (dr (dP (d_callV (i:=2) Z.z CV hr.le rfl (by first | exact Or.inl rfl | exact Or.inr (Or.inl rfl) | exact Or.inr (Or.inr rfl)) (a2 (dv 0) (dv 1)))))),fun ds μ m Kd Kx hm hl em h hK=>?_⟩)
 unfold fBehindS at h
 split at h
 ·rename_i x y
  obtain⟨_,S,d,m',rfl,rfl,wf,hm',dX,kk⟩:=h
  have kk:orX rcs (gK eE H m Kd) Kb (refW S d) (sdD dg (doD S d)) (μ.set 0 (.gx eE H)):=by
   unfold orX at kk ⊢
   cases e:refW S d with
   | some i=>rw[e]at kk;exact(fh hK em kk).2
   | none=>rw[e]at kk;exact gK_of em kk
  have fin:∀ w,ddW d=w->fDeed1 dg rcs w [sdD dg S,ddD d] (μ.set 0 (.gx eE H)) (retN (μ.set 0 (.gx eE H)).length (gK eE H m Kd)).rt Kb:=fun w hw=>⟨⟨_,eA em⟩,S,d,m',rfl,rfl,hw,wf,hm',dX,by
   unfold orX at kk ⊢
   cases e:refW S d with
   | some i=>rw[e]at kk;exact kk
   | none=>rw[e]at kk;exact .keep kk⟩
  cases d with
  | put nm b a=>exact dh rfl ⟨a_put,rfl,_,av,eA em,fin 0 rfl⟩
  | join nm l r p=>exact dh rfl ⟨a_join,rfl,_,gxI _ av,eA em,fin 1 rfl⟩
  | found nm b a=>exact dh rfl ⟨a_found,rfl,_,gxI _ (gxI _ av),eA em,fin 2 rfl⟩
  | aged nm b=>exact dh rfl ⟨a_aged,rfl,_,gxI _ (gxI _ (gxI _ av)),eA em,fin 3 rfl⟩
  | drop nm=>exact dh rfl ⟨a_drop,rfl,_,gxI _ (gxI _ (gxI _ (gxI _ av))),eA em,fin 4 rfl⟩
  | free nm=>exact dh rfl ⟨a_free,rfl,_,gxI _ (gxI _ (gxI _ (gxI _ (gxI _ av)))),eA em,fin 5 rfl⟩
  | eX nm=>exact dh rfl ⟨a_shut,rfl,_,gxI _ (gxI _ (gxI _ (gxI _ (gxI _ (gxI _ av))))),eA em,fin 6 rfl⟩
 ·exact h.elim
theorem ok_Room___init__ (F:Fun K "__init__" "Room.__init__" s_Room___init__ f fd)(T:Bi2 mg)(dH:ZRoom K cRoom)(de:ZStand K dg)(O_BadSize:OwnCls "BadSize" cBadSize veB "ValueError.__new__" mg base)(G_LONGEST:GInt mg "LONGEST" 40)(dR:eR P w K mg base):d8 P w K mg base (CX1 P w) 3 f fd (pA s_Room___init__) (spX (fRoInit cRoom dg rcs)):=by
 refine F.okX sc_Room___init__ (fun ds μ Kd Kx h=>fRoInit_len h) (fun cdv A outer s H E hr eE Kb Z=>⟨_,(df (s_if (PW.pt (t_or (qLt (dv 1) dn) (t_or1 (qGt (dv 1) (d_gint rfl G_LONGEST)))))
  (dr (s_raise Z rfl O_BadSize af (by decide) af rfl (a1 dt)))
  eO)
  (df (s_fld dH.cl dH.n_stands (d_lst true (a1 (d_fz (d_make dR hr.le rfl (dm (dv 1) (dm d_dnewF (dm d_dnewF (dm d_dnewF da_nil)))))))) (dv 0))
  (df (s_fld dH.cl dH.n_rows (d_lst true da_nil) (dv 0))
  (dr (s_fld dH.cl dH.n_done dn (dv 0)))))),fun ds μ m Kd Kx hm hl em h hK=>?_⟩)
 unfold fRoInit at h
 split at h
 ·rename_i k n
  obtain⟨_,k0,ek,kk⟩:=h
  refine iteD (c:=n<1) (fun q=>⟨zs,fh hK em (by rw[ae (by omega)]at kk;exact kk)⟩) (fun q1=>iteD (c:=(40:Int)<n) (fun q=>⟨zs,fh hK em (by rw[ae (by omega)]at kk;exact kk)⟩) (fun q2=>?_))
  rw[ag (by omega)]at kk
  have hk:k<μ.length:=(gxB ek).1
  have hkg:k<(μ.set 0 (.gx eE H)).length:=by rw[aK];exact hk
  have eg:(μ.set 0 (.gx eE H))[k]?=some (.ins cRoom [] []):=by rw[ak (aZ k0)];exact ek
  refine⟨fb,rfl,?_⟩
  rw[set_end]
  refine Fz.obj (aa _) fb ⟨trivial,trivial,trivial,trivial,trivial⟩ (old_app hm) ?_
  rw[aT]
  refine⟨zs,?_⟩
  refine⟨_,_,insM_of (by rw[gxF hkg];exact eg),rfl,by decide,?_⟩
  rw[cC _ _ hkg]
  refine⟨zs,?_⟩
  have hk2:∀ X:MO,k<((μ.set 0 (.gx eE H)).set k X).length:=fun X=>by rw[aK];exact hkg
  refine⟨_,_,insM_of (by rw[aH,gxF (hk2 _),az hkg]),rfl,by show 1<1000;decide,?_⟩
  rw[aH,cC _ _ (hk2 _),c9]
  refine⟨_,_,insM_of (by rw[gxF (hk2 _),az hkg]),rfl,by show 2<1000;decide,.keep ?_⟩
  rw[cC _ _ (hk2 _),c9]
  have h0:0<μ.length:=(gxB em).1
  refine⟨by rw[gxF (by rw[aK,aK];exact h0),ak k0,az h0],?_⟩
  rw[cC _ _ (by rw[aK,aK];exact h0),cy _ _ k0,gx_back em]
  have l0:(μ.set 0 (.gx eE H)).length=μ.length:=aK
  show Kd .fB (μ.set k (.ins cRoom roN [.mr (μ.set 0 (.gx eE H)).length,.mr ((μ.set 0 (.gx eE H)).set k _++[_]).length,.int 0])++[.lst [sdD dg ⟨n,[],[]⟩],.lst []])
  simp only[gxE,aK,aO]
  exact kk
 ·exact h.elim
theorem ok_Room_now (F:Fun K "now" "Room.now" s_Room_now f fd)(T:Bi2 mg)(dH:ZRoom K cRoom):d8 P w K mg base CX0 1 f fd (pA s_Room_now) (spD (fNow cRoom dg)):=by
 refine F.okD sc_Room_now (fun ds μ Kd h=>by unfold fNow at h;split at h <;> first | rfl | exact h.elim) (fun cdv A outer s H E hr=>⟨_,(dr (dP (fu (eF dH.cl dH.n_stands (dv 0)) (eF dH.cl dH.n_done (dv 0))))),fun ds μ Kd hm hl h=>?_⟩)
 unfold fNow at h
 split at h
 ·rename_i k
  obtain⟨j1,j2,ss,rs,d,S,ra,es,kk⟩:=h
  exact⟨.mr j1,by rw[insM_of ra.ins];rfl,.int d,by rw[insM_of ra.ins];rfl,dh (lvM_of ra.l1) (dh (atI_maps es) (Fz.keep kk))⟩
 ·exact h.elim
theorem ok_Room_deed (F:Fun K "deed" "Room.deed" s_Room_deed f fd)(T:Bi2 mg)(dH:ZRoom K cRoom)(eQ:c_Room_now P w K mg base)(C_stand_behind:c_stand_behind P w K mg base):d8 P w K mg base (CX1 P w) 8 f fd (pA s_Room_deed) (spX (fDeedR cRoom dg rcs)):=by
 refine F.okX sc_Room_deed (fun ds μ Kd Kx h=>fDeedR_len h) (fun cdv A outer s H E hr eE Kb Z=>⟨_,(df (qS 2 sc_Room_deed.nd (d_callX Z.z C_stand_behind hr.le rfl (a2 (d_meth0 eQ dH.cl hr.le (dv 0)) (dv 1))))
  (df (s_slE (eF dH.cl dH.n_stands (dv 0)) (dPl (eF dH.cl dH.n_done (dv 0)) dn) (d_lst false (a1 (dv 2))))
  (df (s_slE (eF dH.cl dH.n_rows (dv 0)) (eF dH.cl dH.n_done (dv 0)) (d_lst false (a1 (dv 1))))
  (dr (s_augFA dH.cl dH.n_done (dv 0) dn))))),fun ds μ m Kd Kx hm hl em h hK=>?_⟩)
 unfold fDeedR at h
 split at h
 ·rename_i k y
  obtain⟨_,j1,j2,ss,rs,d,S,e,ra,es,rfl,dX,few,kk⟩:=h
  have rg:=ra.gx (m:=.gx eE H)
  obtain⟨S',es',wf⟩:=ra.now
  rw[es]at es'
  cases es'
  have:=ra.le
  have:=ra.len
  have rc:recvD cRoom "now" (μ.set 0 (.gx eE H)) (.mr k):=by show(insM _ _ _).map _=_;rw[insM_of rg.ins];rfl
  refine⟨rc,j1,j2,ss,rs,d,S,rg,es,eA em,⟨_,eA em⟩,S,e,d,rfl,rfl,wf,by omega,dX,?_⟩
  unfold orX
  cases er:refW S e with
  | some i=>rw[er]at kk;exact(fh hK em kk).2
  | none =>
   rw[er]at kk
   obtain⟨lk,la,lb⟩:=rg.lk
   have few2:=ra.few
   have f1:∀ {ν:MS},ν[k]?=some (.ins cRoom roN [.mr j1,.mr j2,.int (d:Int)])->insM cRoom ν k=some (roN,[.mr j1,.mr j2,.int (d:Int)]):=fun h=>insM_of h
   refine⟨zs,.mr j1,by rw[f1 rg.ins];rfl,.int d,by rw[f1 rg.ins];rfl,_,lvM_of rg.l1,by omega,by rw[fC];omega,by rw[fC];exact sz (by show _+1<=_;omega),?_⟩
   have i1:∀ X,((μ.set 0 (.gx eE H)).set j1 X)[k]?=some (.ins cRoom roN [.mr j1,.mr j2,.int (d:Int)]):=fun X=>by rw[ak (aZ ra.ka)];exact rg.ins
   refine⟨zs,.mr j2,by rw[f1 (i1 _)];rfl,.int d,by rw[f1 (i1 _)];rfl,_,lvM_of (by rw[ak ra.ab];exact rg.l2),by omega,by rw[fC];omega,by rw[fC];exact sz (by show _+1<=_;omega),?_⟩
   have i2:∀ X Y,(((μ.set 0 (.gx eE H)).set j1 X).set j2 Y)[k]?=some (.ins cRoom roN [.mr j1,.mr j2,.int (d:Int)]):=fun X Y=>by rw[ak (aZ ra.kb)];exact i1 X
   refine⟨d,by rw[f1 (i2 _ _)];rfl,_,_,f1 (i2 _ _),rfl,by show 3<1000;decide,.keep ?_⟩
   obtain⟨g1,g2⟩:=putR_gx ra (m:=.gx eE H) (ss':=ss.take (d+1)++[doD S e]) (rs':=rs.take d++[e]) (d':=d+1) em
   have eq:((((μ.set 0 (.gx eE H)).set j1 (.lst ((ss.map (sdD dg)).take ((d:Int)+1).toNat++[sdD dg (doD S e)]))).set j2 (.lst ((rs.map ddD).take (d:Int).toNat++[ddD e]))).set k (.ins cRoom roN [.mr j1,.mr j2,.int ((d:Int)+1)]))=putR cRoom dg (μ.set 0 (.gx eE H)) k j1 j2 (ss.take (d+1)++[doD S e]) (rs.take d++[e]) (d+1):=by
    unfold putR
    rw[aE,aE,List.map_take,List.map_take,show((d:Int)+1).toNat=d+1 by omega,gxK]
    rfl
   show gK eE H m Kd .fB ((((μ.set 0 (.gx eE H)).set j1 (.lst ((ss.map (sdD dg)).take ((d:Int)+1).toNat++[sdD dg (doD S e)]))).set j2 (.lst ((rs.map ddD).take (d:Int).toNat++[ddD e]))).set k (.ins cRoom roN [.mr j1,.mr j2,.int ((d:Int)+1)]))
   rw[eq]
   exact⟨g2,by rw[g1];exact kk⟩
 ·exact h.elim
theorem ok_Room_size (F:Fun K "size" "Room.size" s_Room_size f fd)(T:Bi2 mg)(dH:ZRoom K cRoom)(de:ZStand K dg)(eQ:c_Room_now P w K mg base):d8 P w K mg base CX0 2 f fd (pA s_Room_size) (spD (fOfNow cRoom dg gSize)):=by
 refine F.okD sc_Room_size (fun ds μ Kd h=>by unfold fOfNow at h;split at h <;> first | rfl | exact h.elim) (fun cdv A outer s H E hr=>⟨_,(dr (dP (eF de.cl de.n_length (d_meth0 eQ dH.cl hr.le (dv 0))))),fun ds μ Kd hm hl h=>?_⟩)
 unfold fOfNow at h
 split at h
 ·rename_i k
  obtain⟨j1,j2,ss,rs,d,S,ra,es,kk⟩:=h
  exact⟨by show(insM _ _ _).map _=_;rw[insM_of ra.ins];rfl,j1,j2,ss,rs,d,S,ra,es,rfl,_,rfl,.keep kk⟩
 ·exact h.elim
theorem ok_Room_names (F:Fun K "names" "Room.names" s_Room_names f fd)(T:Bi2 mg)(dH:ZRoom K cRoom)(de:ZStand K dg)(eQ:c_Room_now P w K mg base):d8 P w K mg base CX0 2 f fd (pA s_Room_names) (spD (fOfNow cRoom dg gNames)):=by
 refine F.okD sc_Room_names (fun ds μ Kd h=>by unfold fOfNow at h;split at h <;> first | rfl | exact h.elim) (fun cdv A outer s H E hr=>⟨_,(dr (dP (d_ty (listD rfl) (so_listD (m:=false)) (by rfl) T.list bg (a1 (eF de.cl de.fw (d_meth0 eQ dH.cl hr.le (dv 0))))))),fun ds μ Kd hm hl h=>?_⟩)
 unfold fOfNow at h
 split at h
 ·rename_i k
  obtain⟨j1,j2,ss,rs,d,S,ra,es,kk⟩:=h
  refine⟨by show(insM _ _ _).map _=_;rw[insM_of ra.ins];rfl,j1,j2,ss,rs,d,S,ra,es,rfl,_,rfl,dh rfl ?_⟩
  unfold gNames at kk
  show Fz _ Kd (.lst ((S.kept.map fun p=>dW p.1).map keyV)) μ
  rw[aB]
  exact .keep kk
 ·exact h.elim
theorem ok_Room_bars (F:Fun K "bars" "Room.bars" s_Room_bars f fd)(T:Bi2 mg)(dH:ZRoom K cRoom)(de:ZStand K dg)(eQ:c_Room_now P w K mg base)(C_Stand_take:c_Stand_take P w K mg base):d8 P w K mg base (CX1 P w) 5 f fd (pA s_Room_bars) (spX (fOfName cRoom dg rcs gBars)):=by
 refine F.okX sc_Room_bars (fun ds μ Kd Kx h=>fOfName_len h) (fun cdv A outer s H E hr eE Kb Z=>⟨_,(dr (dP (fu (d_methX Z.z C_Stand_take de.cl hr.le (d_meth0 eQ dH.cl hr.le (dv 0)) (a1 (dv 1))) dn))),fun ds μ m Kd Kx hm hl em h hK=>?_⟩)
 unfold fOfName at h
 split at h
 ·rename_i k nm
  obtain⟨_,j1,j2,ss,rs,d,S,ra,es,kk⟩:=h
  have rg:=ra.gx (m:=.gx eE H)
  obtain⟨S',es',wf⟩:=ra.now
  rw[es]at es'
  cases es'
  refine⟨by show(insM _ _ _).map _=_;rw[insM_of rg.ins];rfl,j1,j2,ss,rs,d,S,rg,es,⟨rfl,rfl⟩,eA em,⟨_,eA em⟩,S,d,rfl,wf,?_⟩
  cases e:du S.kept nm with
  | none=>rw[e]at kk;exact(fh hK em kk).2
  | some x=>rw[e]at kk;exact dh rfl (.keep (gK_of em kk))
 ·exact h.elim
theorem ok_Room_age (F:Fun K "age" "Room.age" s_Room_age f fd)(T:Bi2 mg)(dH:ZRoom K cRoom)(de:ZStand K dg)(eQ:c_Room_now P w K mg base)(C_Stand_take:c_Stand_take P w K mg base):d8 P w K mg base (CX1 P w) 5 f fd (pA s_Room_age) (spX (fOfName cRoom dg rcs gAge)):=by
 refine F.okX sc_Room_age (fun ds μ Kd Kx h=>fOfName_len h) (fun cdv A outer s H E hr eE Kb Z=>⟨_,(dr (dP (fu (d_methX Z.z C_Stand_take de.cl hr.le (d_meth0 eQ dH.cl hr.le (dv 0)) (a1 (dv 1))) dn))),fun ds μ m Kd Kx hm hl em h hK=>?_⟩)
 unfold fOfName at h
 split at h
 ·rename_i k nm
  obtain⟨_,j1,j2,ss,rs,d,S,ra,es,kk⟩:=h
  have rg:=ra.gx (m:=.gx eE H)
  obtain⟨S',es',wf⟩:=ra.now
  rw[es]at es'
  cases es'
  refine⟨by show(insM _ _ _).map _=_;rw[insM_of rg.ins];rfl,j1,j2,ss,rs,d,S,rg,es,⟨rfl,rfl⟩,eA em,⟨_,eA em⟩,S,d,rfl,wf,?_⟩
  cases e:du S.kept nm with
  | none=>rw[e]at kk;exact(fh hK em kk).2
  | some x=>rw[e]at kk;exact dh rfl (.keep (gK_of em kk))
 ·exact h.elim
theorem ok_Room_parts (F:Fun K "parts" "Room.parts" s_Room_parts f fd)(T:Bi2 mg)(dH:ZRoom K cRoom)(de:ZStand K dg)(eQ:c_Room_now P w K mg base)(C_Stand_parts:c_Stand_parts P w K mg base):d8 P w K mg base (CX1 P w) 5 f fd (pA s_Room_parts) (spX (fOfName cRoom dg rcs gParts)):=by
 refine F.okX sc_Room_parts (fun ds μ Kd Kx h=>fOfName_len h) (fun cdv A outer s H E hr eE Kb Z=>⟨_,(dr (dP (d_methX Z.z C_Stand_parts de.cl hr.le (d_meth0 eQ dH.cl hr.le (dv 0)) (a1 (dv 1))))),fun ds μ m Kd Kx hm hl em h hK=>?_⟩)
 unfold fOfName at h
 split at h
 ·rename_i k nm
  obtain⟨_,j1,j2,ss,rs,d,S,ra,es,kk⟩:=h
  have rg:=ra.gx (m:=.gx eE H)
  refine⟨by show(insM _ _ _).map _=_;rw[insM_of rg.ins];rfl,j1,j2,ss,rs,d,S,rg,es,⟨rfl,rfl⟩,eA em,⟨_,eA em⟩,S,rfl,?_⟩
  unfold gParts at kk
  cases e:du S.kept nm with
  | none=>rw[e]at kk;exact(fh hK em kk).2
  | some x=>rw[e]at kk;exact .keep (gK_of em kk)
 ·exact h.elim
theorem ok_Room_source (F:Fun K "source" "Room.source" s_Room_source f fd)(T:Bi2 mg)(dH:ZRoom K cRoom)(de:ZStand K dg)(eQ:c_Room_now P w K mg base)(C_Stand_source:c_Stand_source P w K mg base):d8 P w K mg base (CX1 P w) 5 f fd (pA s_Room_source) (spX (fSourceR cRoom dg rcs)):=by
 refine F.okX sc_Room_source (fun ds μ Kd Kx h=>fSourceR_len h) (fun cdv A outer s H E hr eE Kb Z=>⟨_,(dr (dP (d_methX Z.z C_Stand_source de.cl hr.le (d_meth0 eQ dH.cl hr.le (dv 0)) (a2 (dv 1) (dv 2))))),fun ds μ m Kd Kx hm hl em h hK=>?_⟩)
 unfold fSourceR at h
 split at h
 ·rename_i k nm bar
  obtain⟨_,j1,j2,ss,rs,d,S,ra,es,kk⟩:=h
  have rg:=ra.gx (m:=.gx eE H)
  obtain⟨S',es',wf⟩:=ra.now
  rw[es]at es'
  cases es'
  refine⟨by show(insM _ _ _).map _=_;rw[insM_of rg.ins];rfl,j1,j2,ss,rs,d,S,rg,es,⟨rfl,rfl⟩,eA em,⟨_,eA em⟩,S,rfl,wf.kp,?_⟩
  cases e:du S.kept nm with
  | none=>rw[e]at kk;exact(fh hK em kk).2
  | some x =>
   rw[e]at kk
   have kk:(if 0<=bar/\bar<S.n then Kd (srcD (srcOf S.kept nm bar)) μ else _):=kk
   show(if 0<=bar/\bar<S.n then _ else _)
   by_cases q:0<=bar/\bar<S.n
   ·rw[ag q]at kk ⊢;exact .keep (gK_of em kk)
   ·rw[ae q]at kk ⊢;exact(fh hK em kk).2
 ·exact h.elim
theorem ok_Room_cuts (F:Fun K "cuts" "Room.cuts" s_Room_cuts f fd)(T:Bi2 mg)(dH:ZRoom K cRoom)(de:ZStand K dg)(eQ:c_Room_now P w K mg base)(C_Stand_shelf:c_Stand_shelf P w K mg base):d8 P w K mg base CX0 5 f fd (pA s_Room_cuts) (spD (fOfNow cRoom dg gCuts)):=by
 refine F.okD sc_Room_cuts (fun ds μ Kd h=>by unfold fOfNow at h;split at h <;> first | rfl | exact h.elim) (fun cdv A outer s H E hr=>⟨_,(df (s_asg (d_meth0 C_Stand_shelf de.cl hr.le (d_meth0 eQ dH.cl hr.le (dv 0))) ⟨(pg_tupC (n:=3) rfl (dq (qN 1 sc_Room_cuts.nd) (dq (qN 2 sc_Room_cuts.nd) (dq (qN 3 sc_Room_cuts.nd) eY)))),(so_tup (dG (dA 1) (dc 1) (dG (dA 2) (dc 2) (dG (dA 3) (dc 3) so_nil dz) (dj (dc 3) dz)) (dj (dc 2) (dj (dc 3) dz)))),(mo_tup (dj (dc 1) (dj (dc 2) (dj (dc 3) dz))))⟩)
  (dr (dP (dv 2)))),fun ds μ Kd hm hl h=>?_⟩)
 unfold fOfNow at h
 split at h
 ·rename_i k
  obtain⟨j1,j2,ss,rs,d,S,ra,es,kk⟩:=h
  obtain⟨S',es',wf⟩:=ra.now
  rw[es]at es'
  cases es'
  exact⟨by show(insM _ _ _).map _=_;rw[insM_of ra.ins];rfl,j1,j2,ss,rs,d,S,ra,es,⟨rfl,rfl⟩,S,d,rfl,wf,rfl,.keep kk⟩
 ·exact h.elim
theorem ok_Room_takes (F:Fun K "takes" "Room.takes" s_Room_takes f fd)(T:Bi2 mg)(dH:ZRoom K cRoom)(de:ZStand K dg)(eQ:c_Room_now P w K mg base)(C_Stand_shelf:c_Stand_shelf P w K mg base):d8 P w K mg base CX0 5 f fd (pA s_Room_takes) (spD (fOfNow cRoom dg gTakes)):=by
 refine F.okD sc_Room_takes (fun ds μ Kd h=>by unfold fOfNow at h;split at h <;> first | rfl | exact h.elim) (fun cdv A outer s H E hr=>⟨_,(df (s_asg (d_meth0 C_Stand_shelf de.cl hr.le (d_meth0 eQ dH.cl hr.le (dv 0))) ⟨(pg_tupC (n:=3) rfl (dq (qN 1 sc_Room_takes.nd) (dq (qN 2 sc_Room_takes.nd) (dq (qN 3 sc_Room_takes.nd) eY)))),(so_tup (dG (dA 1) (dc 1) (dG (dA 2) (dc 2) (dG (dA 3) (dc 3) so_nil dz) (dj (dc 3) dz)) (dj (dc 2) (dj (dc 3) dz)))),(mo_tup (dj (dc 1) (dj (dc 2) (dj (dc 3) dz))))⟩)
  (dr (dP (dv 3)))),fun ds μ Kd hm hl h=>?_⟩)
 unfold fOfNow at h
 split at h
 ·rename_i k
  obtain⟨j1,j2,ss,rs,d,S,ra,es,kk⟩:=h
  obtain⟨S',es',wf⟩:=ra.now
  rw[es]at es'
  cases es'
  exact⟨by show(insM _ _ _).map _=_;rw[insM_of ra.ins];rfl,j1,j2,ss,rs,d,S,ra,es,⟨rfl,rfl⟩,S,d,rfl,wf,rfl,.keep kk⟩
 ·exact h.elim
theorem inv_origin {ds:List D}{μ:MS}{Kd:DK}(h:fOrigin ds μ Kd):∃ v0 v1 v2,ds=[v0,.str v1,.int v2]:=by
 unfold fOrigin at h
 rcases ds with _ | ⟨z0,ds⟩
 ·exact False.elim h
 rcases ds with _ | ⟨z1,ds⟩
 ·exact False.elim h
 cases z1 <;> first | exact False.elim h | skip
 rcases ds with _ | ⟨z2,ds⟩
 ·exact False.elim h
 cases z2 <;> first | exact False.elim h | skip
 rcases ds with _ | ⟨zz,zs⟩
 ·exact⟨_,_,_,rfl⟩
 ·exact False.elim h
theorem ok_origin (F:Fun K "_law_origin" "_law_origin" s_origin f fd)(T:Bi2 mg)  : d8 P w K mg base CX0 1 f fd (pA s_origin) (spD fOrigin):=by
 refine F.okD sc_origin (fun ds μ Kd h=>by obtain⟨_,_,_,rfl⟩:=inv_origin h;rfl) (fun cdv A outer s H E hr=>⟨_,(df (qS 3 sc_origin.nd dn)
  (df (s_while bw (qEq (fu (d_ixF (fg hr) (dv 0) (dv 1) (fun _ _=>rfl)) dn) dt)
  (df (s_asg (d_ixF (fg hr) (dv 0) (dv 1) (fun _ _=>rfl)) ⟨(pg_tupC (n:=4) rfl (dq (qN 4 sc_origin.nd) (dq (qN 5 sc_origin.nd) (dq (qN 6 sc_origin.nd) (dq (qN 7 sc_origin.nd) eY))))),(so_tup (dG (dA 4) (dc 4) (dG (dA 5) (dc 5) (dG (dA 6) (dc 6) (dG (dA 7) (dc 7) so_nil dz) (dj (dc 7) dz)) (dj (dc 6) (dj (dc 7) dz))) (dj (dc 5) (dj (dc 6) (dj (dc 7) dz))))),(mo_tup (dj (dc 4) (dj (dc 5) (dj (dc 6) (dj (dc 7) dz)))))⟩)
  (df (qS 1 sc_origin.nd (d_if (qLt (dv 2) (dv 7)) (dv 5) (dv 6)))
  (dr (qS 3 sc_origin.nd (dPl (dv 3) dn))))))
  (dr (dP (d_tup (a2 (dv 1) (dv 3))))))),fun ds μ Kd hm hl h=>?_⟩)
 obtain⟨x,nm,bar,rfl⟩:=inv_origin h
 unfold fOrigin at h
 ·skip
  obtain⟨kept,y,hx,kp,ey,kk⟩:=h
  cases x with
  | fdc ks ds =>
   cases hx
   refine⟨fun i ρ μ'=>∃(z:Str) (y:Pt) (c:Nat) (v1 v2 v3 v4:Option D),i=idxN kept z/\du kept z=some y/\srcOf kept nm bar=((srcOf kept z bar).1,(srcOf kept z bar).2+c)/\ρ=[some (.fdc (kept.map fun p=>dW p.1) (kept.map fun p=>ptL p.2)),some (.str z),some (.int bar),some (.int (c:Int)),v1,v2,v3,v4]/\μ'=μ,⟨_,nm,y,0,none,none,none,none,rfl,ey,rfl,rfl,rfl⟩,?_⟩
   rintro i ρ μ' ⟨z,y,c,v1,v2,v3,v4,rfl,ez,es,rfl,rfl⟩
   have eg:ixF (kept.map fun p=>dW p.1) (kept.map fun p=>ptL p.2) (.str z)=some (some (ptL y)):=by rw[ixF_k dD ptL z kept rfl,ez];rfl
   cases y with
   | fst b a =>
    refine⟨_,eg,?_⟩
    refine⟨zs,.keep ?_⟩
    rw[es,src_fstE ez,Nat.zero_add]at kk
    exact kk
   | jn l r p =>
    obtain⟨⟨yl,el⟩,⟨yr,er⟩⟩:=kp.there ez
    obtain⟨i1,i2⟩:=kp.low z l r p ez
    have ej:=src_jn kp ez bar
    refine⟨_,eg,⟨_,eg,?_⟩⟩
    refine⟨rfl,?_⟩
    refine iteD (c:=bar<p) (fun q=>?_) (fun q=>?_)
    ·rw[ag q]at ej
     exact⟨idxN kept l,i1,l,yl,c+1,_,_,_,_,rfl,el,by rw[es,ej];congr 1;show _+1+c=_;omega,rfl,rfl⟩
    ·rw[ae q]at ej
     exact⟨idxN kept r,i2,r,yr,c+1,_,_,_,_,rfl,er,by rw[es,ej];congr 1;show _+1+c=_;omega,rfl,rfl⟩
  | mr j =>
   have hx:dicM μ j=some (kept.map (fun p=>dW p.1),kept.map fun p=>ptL p.2):=hx
   refine⟨fun i ρ μ'=>∃(z:Str) (y:Pt) (c:Nat) (v1 v2 v3 v4:Option D),i=idxN kept z/\du kept z=some y/\srcOf kept nm bar=((srcOf kept z bar).1,(srcOf kept z bar).2+c)/\ρ=[some (.mr j),some (.str z),some (.int bar),some (.int (c:Int)),v1,v2,v3,v4]/\μ'=μ,⟨_,nm,y,0,none,none,none,none,rfl,ey,rfl,rfl,rfl⟩,?_⟩
   rintro i ρ μ' ⟨z,y,c,v1,v2,v3,v4,rfl,ez,es,rfl,rfl⟩
   have eg:=(ixM_k (d:=.str z) dD ptL z kept rfl hx).trans (by rw[ez];rfl:_=some (some (ptL y)))
   cases y with
   | fst b a =>
    refine⟨_,eg,?_⟩
    refine⟨zs,.keep ?_⟩
    rw[es,src_fstE ez,Nat.zero_add]at kk
    exact kk
   | jn l r p =>
    obtain⟨⟨yl,el⟩,⟨yr,er⟩⟩:=kp.there ez
    obtain⟨i1,i2⟩:=kp.low z l r p ez
    have ej:=src_jn kp ez bar
    refine⟨_,eg,⟨_,eg,?_⟩⟩
    refine⟨rfl,?_⟩
    refine iteD (c:=bar<p) (fun q=>?_) (fun q=>?_)
    ·rw[ag q]at ej
     exact⟨idxN kept l,i1,l,yl,c+1,_,_,_,_,rfl,el,by rw[es,ej];congr 1;show _+1+c=_;omega,rfl,rfl⟩
    ·rw[ae q]at ej
     exact⟨idxN kept r,i2,r,yr,c+1,_,_,_,_,rfl,er,by rw[es,ej];congr 1;show _+1+c=_;omega,rfl,rfl⟩
  | _=>cases hx
theorem inv_ages {ds:List D}{μ:MS}{Kd:DK}(h:fAgesL ds μ Kd):∃ v0,ds=[v0]:=by
 unfold fAgesL at h
 rcases ds with _ | ⟨z0,ds⟩
 ·exact False.elim h
 rcases ds with _ | ⟨zz,zs⟩
 ·exact⟨_,rfl⟩
 ·exact False.elim h
theorem ok_ages (F:Fun K "_law_ages" "_law_ages" s_ages f fd)(T:Bi2 mg)  : d8 P w K mg base CX0 1 f fd (pA s_ages) (spD fAgesL):=by
 refine F.okD sc_ages (fun ds μ Kd h=>by obtain⟨_,rfl⟩:=inv_ages h;rfl) (fun cdv A outer s H E hr=>⟨_,(df (qS 1 sc_ages.nd d_dnew)
  (df (s_for bw rfl (i_dictF (dv 0)) (qT 2 sc_ages.nd)
  (df (qS 3 sc_ages.nd (d_ixF (fg hr) (dv 0) (dv 2) (fun _ _=>rfl)))
  (dr (s_asgKM (fg hr) (d_if (qEq (fu (dv 3) dn) dt) (fu (dv 3) dn) (dPl (d_blt (maxC rfl) so_max (by rfl) T.max PyProof.Rows.boot_max (a2 (d_ixF (fg hr) (dv 1) (fu (dv 3) dn) (fun _ _=>rfl)) (d_ixF (fg hr) (dv 1) (fu (dv 3) dn) (fun _ _=>rfl)))) dn)) (dv 1) (dv 2)))))
  (dr (dP (d_frz (dv 1)))))),fun ds μ Kd hm hl h=>?_⟩)
 obtain⟨x,rfl⟩:=inv_ages h
 unfold fAgesL at h
 ·skip
  obtain⟨S,m,rfl,wf,kk⟩:=h
  have nd:=wf.kp.nd
  have few:=wf.few
  show forW _ _ _ _ ((S.kept.map fun p=>dW p.1).map keyV) _ _
  rw[aB]
  refine forW_inv (fun ds ρ μ'=>∃(pre post:List (Str×Pt)) (v1 v2:Option D),S.kept=pre++post/\ds=post.map (fun p=>D.str p.1)/\ρ=[some (dcG dW ptL S.kept),some (.mr μ.length),v1,v2]/\μ'=μ++[dM dW D.int (pre.map fun p=>(p.1,(ft S.kept p.1).2))]) ⟨[],S.kept,none,none,rfl,rfl,rfl,rfl⟩ ?_ ?_
  ·rintro d ds' ρ μ' ⟨pre,post,v1,v2,hs,e1,rfl,rfl⟩
   refine⟨trivial,fun nx hnx=>?_⟩
   cases post with
   | nil=>cases e1
   | cons p post =>
    obtain⟨z,y⟩:=p
    cases e1
    obtain⟨ez,ix,lp,hn,inpre⟩:=pre_get (g:=fun w=>(ft S.kept w).2) nd hs
    have eg:ixF (S.kept.map fun p=>dW p.1) (S.kept.map fun p=>ptL p.2) (.str z)=some (some (ptL y)):=by rw[ixF_k dD ptL z S.kept rfl,ez];rfl
    refine⟨_,eg,?_⟩
    have fin:∀(a:Int) (ρ':DE),a=(ft S.kept z).2->ρ'=[some (dcG dW ptL S.kept),some (.mr μ.length),some (.str z),some (ptL y)]->∃ kd kd':List (Key×D),(μ++[dM dW D.int (pre.map fun p=>(p.1,(ft S.kept p.1).2))])[μ.length]?=some (.dic (kd.map (·.1)) (kd.map (·.2)))/\kd.length<sizeLine/\(keyD (.str z)).map (fun k=>dput kd k (.int a))=some kd'/\nx ρ' ((μ++[dM dW D.int (pre.map fun p=>(p.1,(ft S.kept p.1).2))]).set μ.length (.dic (kd'.map (·.1)) (kd'.map (·.2)))):=fun a ρ' ha hρ=>by
     refine put_at dD (P:=nx ρ') fb (by rw[fC];exact aq lp (sz (by omega))) rfl a rfl ?_
     rw[set_end,aput_new hn,hρ]
     refine hnx _ _ ⟨pre++[(z,y)],post,_,_,by rw[hs,aH];rfl,rfl,rfl,?_⟩
     rw[aE,ha];rfl
    cases y with
    | fst b a=>exact fin a _ (by rw[tk_fst ez]) rfl
    | jn l r p =>
     obtain⟨i1,i2⟩:=wf.kp.low z l r p ez
     have g1:∀ w,idxN S.kept w<pre.length->ixM (μ++[dM dW D.int (pre.map fun p=>(p.1,(ft S.kept p.1).2))]) μ.length (.str w)=some (some (.int (ft S.kept w).2)):=fun w hw=>(ixM_k dD D.int w (pre.map fun p=>(p.1,(ft S.kept p.1).2)) rfl (dicM_of fb)).trans (by rw[inpre w hw];rfl)
     exact⟨_,g1 l (by omega),_,g1 r (by omega),fin _ _ (by rw[tk_jn wf.kp ez];rfl) rfl⟩
  ·rintro ρ μ' ⟨pre,post,v1,v2,hs,e1,rfl,rfl⟩
   cases post with
   | cons p post=>cases e1
   | nil =>
    rw[aP]at hs
    refine⟨trivial,_,_,fb,fun o kvs hks=>?_⟩
    rw[set_end]
    refine Fz.fdc (aa _) fb (mr_all fun d hd=>by obtain⟨q,_,rfl⟩:=List.mem_map.mp hd;exact trivial) (old_app hm) ?_
    rw[aT,hks,<- hs]
    exact kk
theorem inv_heard {ds:List D}{μ:MS}{Kd:DK}(h:fHeard ds μ Kd):∃ v0 v1,ds=[v0,.str v1]:=by
 unfold fHeard at h
 rcases ds with _ | ⟨z0,ds⟩
 ·exact False.elim h
 rcases ds with _ | ⟨z1,ds⟩
 ·exact False.elim h
 cases z1 <;> first | exact False.elim h | skip
 rcases ds with _ | ⟨zz,zs⟩
 ·exact⟨_,_,rfl⟩
 ·exact False.elim h
theorem ok_heard (F:Fun K "_law_heard" "_law_heard" s_heard f fd)(T:Bi2 mg)(C_origin:c_origin P w K mg base):d8 P w K mg base CX0 2 f fd (pA s_heard) (spD fHeard):=by
 refine F.okD sc_heard (fun ds μ Kd h=>by obtain⟨_,_,rfl⟩:=inv_heard h;rfl) (fun cdv A outer s H E hr=>⟨_,(df (qS 2 sc_heard.nd (fu (dv 0) dn))
  (dr (dP (d_mt bz bW bV joinC so_join dt (a1 (dC1 false (cOk (N:=["_law_bar", "_law_kept", "_law_name"]) (js:=[none,some 2,some 1]) sc_heard (by decide +kernel)) (i_range1 rfl T.range (a1 (fu (dv 0) dn))) (fun _ _ _ nd=>(qN 0 nd)) (fun _ _ _=>ts_nil) (fun _ _ _=>(fu (fu (d_ixF (fg hr) (dv 1) (fu (qC C_origin hr (a3 (dv 1) (dv 2) (dv 0))) dn) (fun _ _=>rfl)) dn) (dv 0))))))))),fun ds μ Kd hm hl h=>?_⟩)
 obtain⟨x,nm,rfl⟩:=inv_heard h
 unfold fHeard at h
 ·skip
  obtain⟨S,m,y,rfl,wf,ey,kk⟩:=h
  have n1:=wf.n1
  have n2:=wf.n2
  obtain⟨t1,_⟩:=tk_ok wf nm y ey
  have tl:(ft S.kept nm).1.length=S.n.toNat:=by omega
  refine⟨rfl,by omega,by omega,sz (by rw[rngD_len];omega),?_⟩
  refine compW_gen trivial (fun i:Nat=>D.int (0+(i:Int))) (fun i=>some (D.str ⟨#[(ft S.kept nm).1.getD i 0]⟩)) (fun i hi K' k'=>?_) ?_
  ·have hi:=List.mem_range.mp hi
   obtain⟨b,a,c,g1,g2,g3⟩:=heard_at wf i (by omega) nm y ey
   refine⟨S.kept,y,rfl,wf.kp,ey,?_⟩
   rw[Int.zero_add]
   refine⟨_,by rw[ixF_k dD ptL _ S.kept rfl,g1];rfl,?_⟩
   have lb:=(wf.fs _ b a g1).1
   refine⟨by rw[lenS];exact sz (by omega),dh (atI_nat g2) ?_⟩
   have e:(ft S.kept nm).1.getD i 0=c:=by rw[aU,g3];rfl
   rw[e]at k'
   exact k'
  ·rw[<- tl,range_str]
   refine⟨rfl,(ft S.kept nm).1.map fun c=>⟨#[c]⟩,by unfold lv;rw[aB];rfl,by rw[sum_signs];omega,?_⟩
   rw[flat_signs]
   exact .keep kk
theorem inv_takes {ds:List D}{μ:MS}{Kd:DK}(h:fTakesL ds μ Kd):∃ v0,ds=[v0]:=by
 unfold fTakesL at h
 rcases ds with _ | ⟨z0,ds⟩
 ·exact False.elim h
 rcases ds with _ | ⟨zz,zs⟩
 ·exact⟨_,rfl⟩
 ·exact False.elim h
theorem ok_takes (F:Fun K "_law_takes" "_law_takes" s_takes f fd)(T:Bi2 mg)(C_ages:c_ages P w K mg base)(C_heard:c_heard P w K mg base):d8 P w K mg base CX0 3 f fd (pA s_takes) (spD fTakesL):=by
 refine F.okD sc_takes (fun ds μ Kd h=>by obtain⟨_,rfl⟩:=inv_takes h;rfl) (fun cdv A outer s H E hr=>⟨_,(df (qS 1 sc_takes.nd (qC C_ages hr (a1 (fu (dv 0) dn))))
  (dr (dP (dC1 false (cOk (N:=["_law_name", "_law_state", "_law_ages_here"]) (js:=[none,some 0,some 1]) sc_takes (by decide +kernel)) (i_dictF (fu (dv 0) dn)) (fun _ _ _ nd=>(qN 0 nd)) (fun _ _ _=>ts_nil) (fun _ _ _=>(d_tup (a2 (qC C_heard hr (a2 (dv 1) (dv 0))) (d_ixF (fg hr) (dv 2) (dv 0) (fun _ _=>rfl))))))))),fun ds μ Kd hm hl h=>?_⟩)
 obtain⟨x,rfl⟩:=inv_takes h
 unfold fTakesL at h
 ·skip
  obtain⟨S,m,rfl,wf,kk⟩:=h
  have few:=wf.few
  refine⟨S,m,rfl,wf,?_⟩
  refine⟨sz (by rw[fC,fC];omega),?_⟩
  rw[aB]
  refine compW_gen trivial (keyV ∘ fun p:Str×Pt=>dW p.1) (fun p=>some (tkD (ft S.kept p.1))) (fun p hp K' k'=>?_) ?_
  ·refine⟨S,m,p.2,rfl,wf,aget_of_mem wf.kp.nd hp,?_⟩
   refine⟨_,by rw[ixF_k dD D.int p.1 _ rfl,ages_get wf.kp.nd hp];rfl,zs,k'⟩
  ·rw[show(fun p:Str×Pt=>some (tkD (ft S.kept p.1)))=some ∘ (fun p=>tkD (ft S.kept p.1))from rfl,List.filterMap_eq_map]
   have kk:Kd (.lst ((takesR S).map tkD)) μ:=kk
   unfold takesR at kk
   rw[aB]at kk
   exact .keep kk
theorem inv_open {ds:List D}{μ:MS}{Kd:DK}(h:fOpenL ds μ Kd):∃ v0,ds=[v0]:=by
 unfold fOpenL at h
 rcases ds with _ | ⟨z0,ds⟩
 ·exact False.elim h
 rcases ds with _ | ⟨zz,zs⟩
 ·exact⟨_,rfl⟩
 ·exact False.elim h
theorem ok_open (F:Fun K "_law_open" "_law_open" s_open f fd)(T:Bi2 mg)  : d8 P w K mg base CX0 1 f fd (pA s_open) (spD fOpenL):=by
 refine F.okD sc_open (fun ds μ Kd h=>by obtain⟨_,rfl⟩:=inv_open h;rfl) (fun cdv A outer s H E hr=>⟨_,(dr (dP (dC1 false (cOk (N:=["_law_place", "_law_state"]) (js:=[none,some 0]) sc_open (by decide +kernel)) (i_range2 rfl T.range (a2 dn (fu (dv 0) dn))) (fun _ _ _ nd=>(qN 0 nd)) (fun _ _ _=>(ts_one (t_notinF (fg hr) (dv 0) (fu (dv 1) dn) (by with_unfolding_all rfl)))) (fun _ _ _=>(dv 0))))),fun ds μ Kd hm hl h=>?_⟩)
 obtain⟨x,rfl⟩:=inv_open h
 unfold fOpenL at h
 ·skip
  obtain⟨S,m,rfl,wf,kk⟩:=h
  have n1:=wf.n1
  have n2:=wf.n2
  refine dh rfl ⟨⟨by decide,by decide,by omega,by omega⟩,sz (by rw[rngD_len];omega),?_⟩
  rw[rngD_eq]
  refine compW_gen trivial D.int (fun p=>if(du S.eX p).isSome=true then none else some (D.int p)) (fun p _ K' k'=>?_) ?_
  ·refine dh rfl ⟨_,ixF_k ikey_inj (fun _=>.bl true) p S.eX rfl,?_⟩
   cases e:du S.eX p with
   | none=>rw[e]at k';exact k'
   | some x=>rw[e]at k';exact k'
  ·rw[open_map]
   exact .keep kk
theorem inv_done {ds:List D}{μ:MS}{Kd:DK}(h:fDoneL ds μ Kd):∃ v0 v1,ds=[v0,v1]:=by
 unfold fDoneL at h
 rcases ds with _ | ⟨z0,ds⟩
 ·exact False.elim h
 rcases ds with _ | ⟨z1,ds⟩
 ·exact False.elim h
 rcases ds with _ | ⟨zz,zs⟩
 ·exact⟨_,_,rfl⟩
 ·exact False.elim h
theorem ok_done (F:Fun K "_law_done" "_law_done" s_done f fd)(T:Bi2 mg)(C_origin:c_origin P w K mg base):d8 P w K mg base CX0 2 f fd (pA s_done) (spD fDoneL):=by
 refine F.okD sc_done (fun ds μ Kd h=>by obtain⟨_,_,rfl⟩:=inv_done h;rfl) (fun cdv A outer s H E hr=>⟨_,(df (s_par3 (i:=2) (j:=3) (k:=4) sc_done.nd rfl rfl rfl (by decide) (by decide) (by decide) rfl rfl rfl (a3 (fu (dv 0) dn) (d_ty dictC so_dictF (by rfl) T.dict c8 (a1 (fu (dv 0) dn))) (d_ty dictC so_dictF (by rfl) T.dict c8 (a1 (fu (dv 0) dn)))))
  (b_cut (s_if (qEq (fu (dv 1) dn) dt)
  (dr (s_asgKM (fg hr) (d_tup (a3 dt (fu (dv 1) dn) (fu (dv 1) dn))) (dv 3) (fu (dv 1) dn)))
  (dr (s_if (qEq (fu (dv 1) dn) dt)
  (dr (s_asgKM (fg hr) (d_tup (dm dt (dm (fu (dv 1) dn) (dm (fu (dv 1) dn) (dm (fu (dv 1) dn) da_nil))))) (dv 3) (fu (dv 1) dn)))
  (dr (s_if (qEq (fu (dv 1) dn) dt)
  (df (qS 5 sc_done.nd (fu (qC C_origin hr (a3 (dv 3) (fu (dv 1) dn) (fu (dv 1) dn))) dn))
  (df (s_asg (d_ixF (fg hr) (dv 3) (dv 5) (fun _ _=>rfl)) ⟨(pg_tupC (n:=3) rfl (dq (qN 6 sc_done.nd) (dq (qN 7 sc_done.nd) (dq (qN 8 sc_done.nd) eY)))),(so_tup (dG (dA 6) (dc 6) (dG (dA 7) (dc 7) (dG (dA 8) (dc 8) so_nil dz) (dj (dc 8) dz)) (dj (dc 7) (dj (dc 8) dz)))),(mo_tup (dj (dc 6) (dj (dc 7) (dj (dc 8) dz))))⟩)
  (dr (s_asgKM (fg hr) (d_tup (a3 (dv 6) (dPl (dPl (d_slice false (dv 7) o_no (o_some (fu (dv 1) dn))) (fu (dv 1) dn)) (d_slice false (dv 7) (o_some (dPl (fu (dv 1) dn) dn)) o_no)) (dv 8))) (dv 3) (dv 5)))))
  (dr (s_if (qEq (fu (dv 1) dn) dt)
  (dr (s_asgKM (fg hr) (d_tup (a3 dt (fu (d_ixF (fg hr) (dv 3) (fu (dv 1) dn) (fun _ _=>rfl)) dn) (fu (dv 1) dn))) (dv 3) (fu (dv 1) dn)))
  (dr (s_if (qEq (fu (dv 1) dn) dt)
  (dr (s_expr (d_popK (dv 3) (fu (dv 1) dn))))
  (dr (s_if (qEq (fu (dv 1) dn) dt)
  (dr (s_asgKM (fg hr) d_bl (dv 4) (fu (dv 1) dn)))
  (dr (s_if (t_inF (fg hr) (fu (dv 1) dn) (dv 4) (by with_unfolding_all rfl))
  (dr (s_expr (d_popK (dv 4) (fu (dv 1) dn))))
  eO)))))))))))))
  (dr (dP (d_tup (dm (dv 2) (dm (d_frz (dv 3)) (dm (d_frz (dv 4)) da_nil)))))))),fun ds μ Kd hm hl h=>?_⟩)
 obtain⟨x,y,rfl⟩:=inv_done h
 unfold fDoneL at h
 ·skip
  obtain⟨S,d,m,rfl,rfl,wf,hm',hr,kk⟩:=h
  have few:=wf.few
  have shl:=wf.shl
  have n2:=wf.n2
  have e2:(μ++[dM dW ptL S.kept]).length=μ.length+1:=by rw[gxE];rfl
  show dCut _ _ _ [some (slD S),some (ddD d),some (.int S.n),some (.mr μ.length),some (.mr (μ++[dM dW ptL S.kept]).length),none,none,none,none] (μ++[dM dW ptL S.kept]++[dM ikey (fun _=>.bl true) S.eX])
  rw[e2,aH]
  have kl:S.kept.length<sizeLine:=aq (m:=21) (by omega) (sz (by omega))
  have sl:S.eX.length<sizeLine:=aq (m:=1001) (by omega) (sz (by omega))
  refine⟨fun ρ' μ'=>∃ v5 v6 v7 v8,ρ'=[some (slD S),some (ddD d),some (.int S.n),some (.mr μ.length),some (.mr (μ.length+1)),v5,v6,v7,v8]/\(doD S d).n=S.n/\μ'=μ++[dM dW ptL (doD S d).kept,dM ikey (fun _=>.bl true) (doD S d).eX],?_,?_⟩
  ·cases d with
   | put nm b a =>
    refine⟨zs,put_at dD at_mid kl rfl (.fst b.cps.toList a) rfl ⟨none,none,none,none,rfl,rfl,?_⟩⟩
    exact set_mid
   | join nm l r p =>
    refine⟨zs,put_at dD at_mid kl rfl (.jn l r p) rfl ⟨none,none,none,none,rfl,rfl,?_⟩⟩
    exact set_mid
   | found nm bar sg =>
    have hr:(if hasN S nm=false then some 11 else if 0<=bar/\bar<S.n then(if sg = "o"\/sg = "x" then none else some 0)else some 6)=(none:Option Nat):=hr
    by_cases q1:hasN S nm=false
    ·rw[ag q1]at hr;cases hr
    rw[ae q1]at hr
    by_cases hb:0<=bar/\bar<S.n
    ·rw[ag hb]at hr
     by_cases hs:sg = "o"\/sg = "x"
     ·obtain⟨y,ey⟩:=hasN_yes q1
      obtain⟨b,a,ef⟩:=src_fst wf.kp bar nm y ey
      obtain⟨f1,f2,f3,f4⟩:=wf.fs _ b a ef
      obtain⟨o1,o2⟩:=sgn_ox hs
      refine⟨S.kept,y,dicM_of at_mid,wf.kp,ey,?_⟩
      refine⟨_,(ixM_k dD ptL (srcOf S.kept nm bar).1 S.kept rfl (dicM_of at_mid)).trans (by rw[ef];rfl:_=some (some (ptL (.fst b a)))),rfl,?_⟩
      have sl:sg.length=1:=o2
      have lb:(txt b).length<=sizeLine:=by rw[txt_len];exact sz (by omega)
      have c1:=cutL_le b none (some bar)
      have c2:=cutL_le b (some (bar+1)) none
      have eh:(⟨(cutL b none (some bar)).toArray⟩++sg++⟨(cutL b (some (bar+1)) none).toArray⟩:Str)=txt (hearB b bar sg):=by
       rw[cutL_to hb.1,cutL_from (show 0<=bar+1 by omega),show(bar+1).toNat=bar.toNat+1 by omega]
       rw[app_sg,app_str,aH]
       rfl
      have l1:(⟨(cutL b none (some bar)).toArray⟩:Str).length+sg.length<=sizeLine:=by rw[sl];show(cutL b none (some bar)).length+1<=_;exact sz (by omega)
      have l2:(⟨(cutL b none (some bar)).toArray⟩++sg:Str).length+(⟨(cutL b (some (bar+1)) none).toArray⟩:Str).length<=sizeLine:=by
       rw[app_sg]
       show(cutL b none (some bar)++sg.cps.toList).length+(cutL b (some (bar+1)) none).length<=_
       rw[gxE,o2]
       exact sz (by omega)
      refine⟨lb,l1,lb,l2,zs,?_⟩
      refine put_at dD at_mid kl rfl (.fst (hearB b bar sg) a) (by show D.tup _=D.tup _;rw[<- eh]) ⟨_,_,_,_,rfl,rfl,?_⟩
      rw[set_mid]
      show _=μ++[dM dW ptL (hear S.kept (srcOf S.kept nm bar).1 bar sg),_]
      unfold hear
      rw[ef]
      rfl
     ·rw[ae hs]at hr;cases hr
    ·rw[ae hb]at hr;cases hr
   | aged nm a =>
    have hr:(match du S.kept nm with | none=>some 11 | some (.jn _ _ _)=>some 13 | some (.fst _ _)=>ageW a)=(none:Option Nat):=hr
    cases ey:du S.kept nm with
    | none=>rw[ey]at hr;cases hr
    | some y =>
     rw[ey]at hr
     cases y with
     | jn _ _ _=>cases hr
     | fst b a0 =>
      refine⟨_,(ixM_k dD ptL nm S.kept rfl (dicM_of at_mid)).trans (by rw[ey];rfl:_=some (some (ptL (.fst b a0)))),zs,?_⟩
      have ed:doD S (.aged nm a)={ S with kept:=fE S.kept nm (.fst b a)}:=by
       show(match du S.kept nm with | some (.fst b _)=>{ S with kept:=fE S.kept nm (.fst b a)} | _=>S)=_
       rw[ey]
      refine put_at dD at_mid kl rfl (.fst b a) rfl ⟨none,none,none,none,rfl,by rw[ed],?_⟩
      rw[ed]
      exact set_mid
   | drop nm =>
    have hr:(if hasN S nm=false then some 11 else if needN S nm=true then some 14 else none)=(none:Option Nat):=hr
    by_cases q1:hasN S nm=false
    ·rw[ag q1]at hr;cases hr
    obtain⟨y,ey⟩:=hasN_yes q1
    refine⟨⟨_,_,at_mid⟩,pop_at dD at_mid rfl ey ⟨none,none,none,none,rfl,rfl,?_⟩⟩
    exact set_mid
   | eX p =>
    refine put_at ikey_inj (f:=fun _:Unit=>D.bl true) two_1 sl rfl () rfl ⟨none,none,none,none,rfl,rfl,?_⟩
    exact set_two
   | free p =>
    refine⟨_,ixM_k ikey_inj (fun _:Unit=>D.bl true) p S.eX rfl (dicM_of two_1),?_⟩
    cases ep:du S.eX p with
    | none =>
     refine⟨none,none,none,none,rfl,rfl,?_⟩
     show _=μ++[dM dW ptL S.kept,dM ikey (fun _=>.bl true) (adrop S.eX p)]
     rw[adrop_none ep];rfl
    | some u =>
     refine⟨⟨_,_,two_1⟩,pop_at ikey_inj (f:=fun _:Unit=>D.bl true) two_1 rfl ep ⟨none,none,none,none,rfl,rfl,?_⟩⟩
     exact set_two
  ·rintro ρ' μ' ⟨v5,v6,v7,v8,rfl,en,rfl⟩
   refine⟨_,_,at_mid,fun o1 k1 hk1=>?_⟩
   rw[set_mid]
   refine⟨_,_,two_1,fun o2 k2 hk2=>?_⟩
   rw[set_two]
   refine⟨zs,Fz.deepQ (frz_two (mr_all fun d hd=>by obtain⟨q,_,rfl⟩:=List.mem_map.mp hd;exact ptL_mr _) (mr_all fun d hd=>by obtain⟨q,_,rfl⟩:=List.mem_map.mp hd;exact trivial)) (old_app hm) ?_⟩
   rw[aT,hk1,hk2,<- en]
   exact kk
theorem inv_lone {ds:List D}{μ:MS}{Kd:DK}(h:fLone ds μ Kd):∃ v0,ds=[v0]:=by
 unfold fLone at h
 rcases ds with _ | ⟨z0,ds⟩
 ·exact False.elim h
 rcases ds with _ | ⟨zz,zs⟩
 ·exact⟨_,rfl⟩
 ·exact False.elim h
theorem ok_lone (F:Fun K "_law_lone" "_law_lone" s_lone f fd)(T:Bi2 mg)  : d8 P w K mg base CX0 1 f fd (pA s_lone) (spD fLone):=by
 refine F.okD sc_lone (fun ds μ Kd h=>by obtain⟨_,rfl⟩:=inv_lone h;rfl) (fun cdv A outer s H E hr=>⟨_,(df (qS 1 sc_lone.nd d_dnew)
  (df (s_for bw rfl (i_valuesF (dv 0)) (qT 2 sc_lone.nd)
  (dr (s_if (qEq (fu (dv 2) dn) dt)
  (df (s_asgKM (fg hr) d_bl (dv 1) (fu (dv 2) dn))
  (dr (s_asgKM (fg hr) d_bl (dv 1) (fu (dv 2) dn))))
  eO)))
  (dr (dP (dC1 false (cOk (N:=["_law_name", "_law_used"]) (js:=[none,some 1]) sc_lone (by decide +kernel)) (i_dictF (dv 0)) (fun _ _ _ nd=>(qN 0 nd)) (fun _ _ _=>(ts_one (t_notinF (fg hr) (dv 0) (dv 1) (by with_unfolding_all rfl)))) (fun _ _ _=>(dv 0))))))),fun ds μ Kd hm hl h=>?_⟩)
 obtain⟨x,rfl⟩:=inv_lone h
 unfold fLone at h
 ·skip
  obtain⟨S,m,rfl,wf,kk⟩:=h
  have few:=wf.few
  intro _
  refine forW_inv (fun ds ρ μ'=>∃(pre post:List (Str×Pt)) (us:List (Str×Unit)) (v1:Option D),S.kept=pre++post/\ds=post.map (fun p=>ptL p.2)/\us.length<=2*pre.length/\(∀ z,(du us z).isSome=pre.any fun p=>isNeed z p.2)/\ρ=[some (dcG dW ptL S.kept),some (.mr μ.length),v1]/\μ'=μ++[dM dW (fun _=>.bl true) us]) ⟨[],S.kept,[],none,rfl,rfl,aa _,fun _=>rfl,rfl,rfl⟩ ?_ ?_
  ·rintro d ds' ρ μ' ⟨pre,post,us,v1,hs,e1,hu,ha,rfl,rfl⟩
   refine⟨trivial,fun nx hnx=>?_⟩
   cases post with
   | nil=>cases e1
   | cons p post =>
    obtain⟨z,y⟩:=p
    cases e1
    have lp:pre.length<S.kept.length:=by rw[hs,gxE,aG];omega
    have anyE:∀ w,((pre++[(z,y)]).any fun p=>isNeed w p.2)=((pre.any fun p=>isNeed w p.2)||isNeed w y):=fun w=>by rw[List.any_append,bf,List.any_nil,Bool.or_false]
    cases y with
    | fst b a =>
     refine hnx _ _ ⟨pre++[(z,.fst b a)],post,us,_,by rw[hs,aH];rfl,rfl,by rw[gxE];omega,fun w=>by rw[anyE,ha w];exact(Bool.or_false _).symm,rfl,rfl⟩
    | jn l r p =>
     have ul:us.length<sizeLine:=aq (m:=50) (by omega) (sz (by omega))
     have la:=aput_le (l:=us) (k:=l) (v:=())
     have lb:=aput_le (l:=fE us l ()) (k:=r) (v:=())
     have ul2:(fE us l ()).length<sizeLine:=aq (m:=50) (by omega) (sz (by omega))
     refine put_at dD (f:=fun _:Unit=>D.bl true) fb ul rfl () rfl ?_
     rw[set_end]
     refine put_at dD (f:=fun _:Unit=>D.bl true) fb ul2 rfl () rfl ?_
     rw[set_end]
     refine hnx _ _ ⟨pre++[(z,.jn l r p)],post,fE (fE us l ()) r (),_,by rw[hs,aH];rfl,rfl,by rw[gxE,aO];omega,fun w=>?_,rfl,rfl⟩
     rw[anyE,aget_put,aget_put,<- ha w]
     show _=(_||(decide (l=w)||decide (r=w)))
     by_cases q1:w=r
     ·subst q1;rw[ag rfl];simp
     ·rw[ae q1,aj (aZ q1)]
      by_cases q2:w=l
      ·subst q2;rw[ag rfl];simp
      ·rw[ae q2,aj (aZ q2)];simp
  ·rintro ρ μ' ⟨pre,post,us,v1,hs,e1,hu,ha,rfl,rfl⟩
   cases post with
   | cons p post=>cases e1
   | nil =>
    rw[aP]at hs
    refine⟨trivial,sz (by rw[fC,fC];omega),?_⟩
    rw[aB]
    refine compW_gen trivial (keyV ∘ fun p:Str×Pt=>dW p.1) (fun p=>if(S.kept.any fun q=>isNeed p.1 q.2)=true then none else some (D.str p.1)) (fun p hp K' k'=>?_) ?_
    ·refine⟨_,ixM_k dD (fun _:Unit=>D.bl true) p.1 us rfl (dicM_of fb),?_⟩
     rw[<- hs]at ha
     have hw:=ha p.1
     cases eu:du us p.1 with
     | none=>rw[eu]at hw;rw[<- hw]at k';exact k'
     | some u=>rw[eu]at hw;rw[<- hw]at k';exact k'
    ·rw[lone_map]
     refine Fz.drop (mr_all fun d hd=>by obtain⟨q,_,rfl⟩:=List.mem_map.mp hd;exact trivial) (old_app hm) ?_
     rw[aT]
     exact kk
set_option maxHeartbeats 8000000 in
theorem ok_stands (F:Fun K "_law_stands" "_law_stands" s_stands f fd)(T:Bi2 mg)(dH:ZRoom K cRoom)(C_same:c_same P w K mg base)(C_Room_size:c_Room_size P w K mg base)(C_Room_names:c_Room_names P w K mg base)(C_takes:c_takes P w K mg base)(C_Room_takes:c_Room_takes P w K mg base)(C_Room_cuts:c_Room_cuts P w K mg base)(C_open:c_open P w K mg base)(C_Room_parts:c_Room_parts P w K mg base)(C_Room_bars:c_Room_bars P w K mg base)(C_Room_age:c_Room_age P w K mg base)(C_Room_source:c_Room_source P w K mg base)(C_origin:c_origin P w K mg base):d8 P w K mg base CX0 7 f fd (pA s_stands) (spD (fStands cRoom dg)):=by
 refine F.okD sc_stands (fun ds μ Kd h=>by unfold fStands at h;split at h <;> first | rfl | exact h.elim) (fun cdv A outer s H E hr=>⟨_,(df (qS 2 sc_stands.nd (d_ty (listD rfl) (so_listD (m:=false)) (by rfl) T.list bg (a1 (fu (dv 1) dn))))
  (df (s_if (PW.pt (t_or (t_not (d_testV (qC C_same hr (a2 (d_meth0 C_Room_size dH.cl hr.le (dv 0)) (fu (dv 1) dn))))) (t_or1 (t_not (d_testV (qC C_same hr (a2 (d_meth0 C_Room_names dH.cl hr.le (dv 0)) (dv 2))))))))
  (dr (dP d_bl))
  eO)
  (df (qS 3 sc_stands.nd (qC C_takes hr (a1 (dv 1))))
  (df (s_if (PW.pt (t_or (t_not (d_testV (qC C_same hr (a2 (d_meth0 C_Room_takes dH.cl hr.le (dv 0)) (dv 3))))) (t_or1 (t_not (d_testV (qC C_same hr (a2 (d_meth0 C_Room_cuts dH.cl hr.le (dv 0)) (qC C_open hr (a1 (dv 1))))))))))
  (dr (dP d_bl))
  eO)
  (df (s_for bw rfl (i_range1 rfl T.range (a1 (dLn T (dv 2)))) (qT 4 sc_stands.nd)
  (df (qS 5 sc_stands.nd (d_ixF (fg hr) (fu (dv 1) dn) (fu (dv 2) (dv 4)) (fun _ _=>rfl)))
  (df (qS 6 sc_stands.nd (d_if (qEq (fu (dv 5) dn) dt) (d_sliceT (dv 5) (o_some dn) o_no) d_non))
  (df (qS 7 sc_stands.nd (d_methXc C_Room_parts dH.cl hr.le (dv 0) (a1 (fu (dv 2) (dv 4)))))
  (df (s_if (PW.pt (t_or (PW.pt (t_and (t_isN (dv 6)) (t_and1 (t_notN (dv 7))))) (t_or1 (PW.pt (t_and (t_notN (dv 6)) (t_and1 (t_not (d_testV (qC C_same hr (a2 (dv 7) (dv 6)))))))))))
  (dr (dP d_bl))
  eO)
  (df (s_if (t_not (d_testV (qC C_same hr (a2 (d_tup (a2 (d_methXc C_Room_bars dH.cl hr.le (dv 0) (a1 (fu (dv 2) (dv 4)))) (d_methXc C_Room_age dH.cl hr.le (dv 0) (a1 (fu (dv 2) (dv 4)))))) (fu (dv 3) (dv 4))))))
  (dr (dP d_bl))
  eO)
  (dr (s_for bw rfl (i_range1 rfl T.range (a1 (fu (dv 1) dn))) (qT 8 sc_stands.nd)
  (dr (s_if (t_not (d_testV (qC C_same hr (a2 (d_methXc C_Room_source dH.cl hr.le (dv 0) (a2 (fu (dv 2) (dv 4)) (dv 8))) (qC C_origin hr (a3 (fu (dv 1) dn) (fu (dv 2) (dv 4)) (dv 8)))))))
  (dr (dP d_bl))
  eO))))))))))
  (dr (dP d_bl))))))),fun ds μ Kd hm hl h=>?_⟩)
 unfold fStands at h
 split at h
 ·rename_i k x
  obtain⟨⟨m0,em⟩,j1,j2,ss,rs,d,S,ra,es,rfl,kk⟩:=h
  obtain⟨S',es',wf⟩:=ra.now
  rw[es]at es'
  cases es'
  have few:=wf.few
  have n1:=wf.n1
  have n2:=wf.n2
  have eN:(S.kept.map fun p=>dW p.1).map keyV=S.kept.map fun p=>D.str p.1:=aB
  have ol:(openP S).length<=40:=by
   unfold openP
   refine aw (bX _ _) ?_
   rw[fC,gxJ];omega
  have tl:(takesR S).length=S.kept.length:=by unfold takesR;rw[fC]
  have rc:∀ nm:Str,lookN nm roN [.mr j1,.mr j2,.int (d:Int)]=none->recvD cRoom nm μ (.mr k):=fun nm hn=>by show(insM _ _ _).map _=_;rw[insM_of ra.ins];exact bD some hn
  have smN:smD 5 (.lst (S.kept.map fun p=>D.str p.1)):=sm_lst (by rw[fC];omega) fun d hd=>by obtain⟨q,_,rfl⟩:=List.mem_map.mp hd;exact sm_str
  have smT:smD 5 (gTakes S):=sm_tks (by omega)
  have smC:smD 5 (gCuts S):=sm_ints (by omega)
  refine dSet_of (d:=.lst (S.kept.map fun p=>D.str p.1)) (μ':=μ) (fun K k=>by rw[<- eN]at k;exact k) ?_
  dsimp only
  refine fG false ?_ (fun q=>by cases q) (fun _=>?_)
  ·exact .to (.or (x:=!true) (y:=!true) (.not (x:=true) (.tst fun K k=>⟨rc _ rfl,j1,j2,ss,rs,d,S,ra,es,_,rfl,rfl,sm_int,k⟩)) fun _=>.not (x:=true) (.tst fun K k=>⟨rc _ rfl,j1,j2,ss,rs,d,S,ra,es,_,rfl,rfl,smN,k⟩)) rfl
  refine dNx_of ?_
  refine⟨S,d,rfl,wf,?_⟩
  dsimp only
  refine fG false ?_ (fun q=>by cases q) (fun _=>?_)
  ·exact .to (.or (x:=!true) (y:=!true) (.not (x:=true) (.tst fun K k=>⟨rc _ rfl,j1,j2,ss,rs,d,S,ra,es,_,rfl,rfl,smT,k⟩)) fun _=>.not (x:=true) (.tst fun K k=>⟨rc _ rfl,j1,j2,ss,rs,d,S,ra,es,S,d,rfl,wf,_,rfl,rfl,smC,k⟩)) rfl
  refine dNx_of ?_
  refine⟨by rw[fC];omega,by rw[fC];omega,?_⟩
  rw[fC,gxK]
  refine forW_inv (fun ds ρ μ'=>∃(a b:Nat) (v4 v5 v6 v7 v8:Option D),ds=rngD a b/\a+b=S.kept.length/\ρ=[some (.mr k),some (slD S),some (.lst (S.kept.map fun p=>D.str p.1)),some (gTakes S),v4,v5,v6,v7,v8]/\μ'=μ) ⟨0,S.kept.length,none,none,none,none,none,rfl,by omega,rfl,rfl⟩ ?_ ?_
  ·rintro d' ds' ρ μ' ⟨i,b,v4,v5,v6,v7,v8,e1,hib,rfl,hμ⟩
   subst hμ
   refine⟨trivial,fun nx hnx=>?_⟩
   cases b with
   | zero=>cases e1
   | succ b =>
    rw[rngD_cons]at e1
    cases e1
    have hi:i<S.kept.length:=by omega
    obtain⟨⟨z,y⟩,hz⟩:∃ p,S.kept[i]?=some p:=⟨_,gxA hi⟩
    have e:atI (S.kept.map fun p=>D.str p.1) (i:Int)=some (.str z):=atI_map hz
    have ez:du S.kept z=some y:=aget_of_mem wf.kp.nd (gxD hz)
    have eg:ixF (S.kept.map fun p=>dW p.1) (S.kept.map fun p=>ptL p.2) (.str z)=some (some (ptL y)):=by rw[ixF_k dD ptL z S.kept rfl,ez];rfl
    have gp:gParts S z=ptD y:=by unfold gParts;rw[ez]
    have et:atI ((takesR S).map tkD) (i:Int)=some (tkD (ft S.kept z)):=atI_map (by unfold takesR;rw[gxH,hz];rfl)
    refine dh e ⟨_,eg,?_⟩
    dsimp only
    refine dSet_of (d:=ptD y) (μ':=μ') (fun K k=>?_) ?_
    ·cases y with
     | fst b a=>exact k
     | jn l r p=>exact⟨(show ¬ (HT.sIx 4 0 (some 1)=0/\HT.sIx 4 4 none=4) by decide),k⟩
    refine⟨rc _ rfl,dh e ⟨trivial,⟨m0,em⟩,j1,j2,ss,rs,d,S,ra,es,?_⟩⟩
    rw[ez]
    dsimp only
    rw[gp]
    refine fG false ?_ (fun q=>by cases q) (fun _=>?_)
    ·cases y with
     | fst b a=>exact .to (.or (x:=true&&false) (y:=false&&false) (.and (x:=true) (y:=false) (.tst fun K k=>k) fun _=>.tst fun K k=>k) fun _=>.and (x:=false) (y:=false) (.tst fun K k=>k) (fun q=>nomatch q)) rfl
     | jn l r p=>exact .to (.or (x:=false&&false) (y:=true&&!true) (.and (x:=false) (y:=false) (.tst fun K k=>k) (fun q=>nomatch q)) fun _=>.and (x:=true) (y:=!true) (.tst fun K k=>k) fun _=>.not (x:=true) (.tst fun K k=>⟨_,rfl,rfl,sm_tup (by show 3<=100000;decide) (fun d hd=>by simp only[bF,bp,cI]at hd;rcases hd with rfl | rfl | rfl;exact sm_str;exact sm_str;exact sm_int),k⟩)) rfl
    refine dNx_of ?_
    dsimp only
    refine fG false ?_ (fun q=>by cases q) (fun _=>?_)
    ·refine .to (.not (x:=true) (.tst fun K k=>?_)) rfl
     refine⟨rc _ rfl,dh e ⟨trivial,⟨m0,em⟩,j1,j2,ss,rs,d,S,ra,es,?_⟩⟩
     rw[ez]
     refine⟨rc _ rfl,dh e ⟨trivial,⟨m0,em⟩,j1,j2,ss,rs,d,S,ra,es,?_⟩⟩
     rw[ez]
     exact⟨zs,dh et ⟨_,rfl,rfl,sm_tk _,k⟩⟩
    refine dNx_of ?_
    refine⟨by omega,by omega,?_⟩
    refine forW_inv (fun ds ρ eV=>∃(a b:Nat) (v8:Option D),ds=rngD a b/\a+b=S.n.toNat/\ρ=[some (.mr k),some (slD S),some (.lst (S.kept.map fun p=>D.str p.1)),some (gTakes S),some (.int i),some (ptL y),some (ptD y),some (ptD y),v8]/\eV=μ') ⟨0,S.n.toNat,_,rfl,by omega,rfl,rfl⟩ ?_ ?_
    ·rintro d' ds' ρ eV ⟨a,b',v8',e1,hab,rfl,hμ⟩
     subst hμ
     refine⟨trivial,fun nx2 hnx2=>?_⟩
     cases b' with
     | zero=>cases e1
     | succ b' =>
      rw[rngD_cons]at e1
      cases e1
      refine fG false ?_ (fun q=>by cases q) (fun _=>?_)
      ·refine .to (.not (x:=true) (.tst fun K k=>?_)) rfl
       refine⟨rc _ rfl,dh e ⟨trivial,⟨m0,em⟩,j1,j2,ss,rs,d,S,ra,es,?_⟩⟩
       rw[ez]
       dsimp only
       rw[ag (show(0:Int)<=(a:Int)/\(a:Int)<S.n from⟨by omega,by omega⟩)]
       exact dh e ⟨S.kept,y,rfl,wf.kp,ez,_,rfl,rfl,sm_tup (by show 2<=100000;decide) (fun d hd=>by simp only[bF,bp,cI]at hd;rcases hd with rfl | rfl;exact sm_str;exact sm_int),k⟩
      exact hnx2 _ _ ⟨a+1,b',_,by rw[cP];rfl,by omega,rfl,rfl⟩
    ·rintro ρ eV ⟨a,b',v8',e1,hab,rfl,hμ⟩
     subst hμ
     exact⟨trivial,hnx _ _ ⟨i+1,b,_,_,_,_,_,by rw[cP];rfl,by omega,rfl,rfl⟩⟩
  ·rintro ρ μ' ⟨i,b,v4,v5,v6,v7,v8,e1,hib,rfl,hμ⟩
   subst hμ
   exact⟨trivial,.keep kk⟩
 ·exact h.elim
theorem ok_kinds (F:Fun K "_law_kinds" "_law_kinds" s_kinds f fd)(T:Bi2 mg)(TV:mg "ValueError"=none)(O_BadBars:OwnCls "BadBars" cBadBars veB "ValueError.__new__" mg base)(O_BadMake:OwnCls "BadMake" cBadMake veB "ValueError.__new__" mg base)(O_BadNumber:OwnCls "BadNumber" cBadNumber veB "ValueError.__new__" mg base)(O_BadText:OwnCls "BadText" cBadText veB "ValueError.__new__" mg base)(O_BadName:OwnCls "BadName" cBadName veB "ValueError.__new__" mg base)(O_BadAge:OwnCls "BadAge" cBadAge veB "ValueError.__new__" mg base)(O_BadBar:OwnCls "BadBar" cBadBar veB "ValueError.__new__" mg base)(O_BadPlace:OwnCls "BadPlace" cBadPlace veB "ValueError.__new__" mg base)(O_BadSize:OwnCls "BadSize" cBadSize veB "ValueError.__new__" mg base)(O_Taken:OwnCls "Taken" cTaken veB "ValueError.__new__" mg base)(O_Full:OwnCls "Full" cFull veB "ValueError.__new__" mg base)(O_NoTake:OwnCls "NoTake" cNoTake veB "ValueError.__new__" mg base)(O_Shut:OwnCls "Shut" cShut veB "ValueError.__new__" mg base)(O_Joined:OwnCls "Joined" cJoined veB "ValueError.__new__" mg base)(O_Needed:OwnCls "Needed" cNeeded veB "ValueError.__new__" mg base)(O_NothingLeft:OwnCls "NothingLeft" cNothingLeft veB "ValueError.__new__" mg base)(O_NoWay:OwnB "NoWay" cNoWay mg):FnOkH P w K mg base 1 f fd (pA s_kinds) (fKindsJ K rcs cHissError):=by
 refine F.okH sc_kinds (fun ds μ Kd h=>fKindsJ_len h) (fun cdv A outer s H hr eE kx e hk hh=>⟨_,(df (qS 1 sc_kinds.nd (d_lst false (dm (d_isiC (by rfl) T.isinstance (by rfl) O_BadBars.bound (dv 0)) (dm (d_isiC (by rfl) T.isinstance (by rfl) O_BadMake.bound (dv 0)) (dm (d_isiC (by rfl) T.isinstance (by rfl) O_BadNumber.bound (dv 0)) (dm (d_isiC (by rfl) T.isinstance (by rfl) O_BadText.bound (dv 0)) da_nil))))))
  (df (qS 1 sc_kinds.nd (dPl (dv 1) (d_lst false (dm (d_isiC (by rfl) T.isinstance (by rfl) O_BadName.bound (dv 0)) (dm (d_isiC (by rfl) T.isinstance (by rfl) O_BadAge.bound (dv 0)) (dm (d_isiC (by rfl) T.isinstance (by rfl) O_BadBar.bound (dv 0)) (dm (d_isiC (by rfl) T.isinstance (by rfl) O_BadPlace.bound (dv 0)) da_nil)))))))
  (df (qS 1 sc_kinds.nd (dPl (dv 1) (d_lst false (dm (d_isiC (by rfl) T.isinstance (by rfl) O_BadSize.bound (dv 0)) (dm (d_isiC (by rfl) T.isinstance (by rfl) O_Taken.bound (dv 0)) (dm (d_isiC (by rfl) T.isinstance (by rfl) O_Full.bound (dv 0)) (dm (d_isiC (by rfl) T.isinstance (by rfl) O_NoTake.bound (dv 0)) da_nil)))))))
  (df (qS 1 sc_kinds.nd (dPl (dv 1) (d_lst false (dm (d_isiC (by rfl) T.isinstance (by rfl) O_Shut.bound (dv 0)) (dm (d_isiC (by rfl) T.isinstance (by rfl) O_Joined.bound (dv 0)) (dm (d_isiC (by rfl) T.isinstance (by rfl) O_Needed.bound (dv 0)) (dm (d_isiC (by rfl) T.isinstance (by rfl) O_NothingLeft.bound (dv 0)) da_nil)))))))
  (df (qS 1 sc_kinds.nd (dPl (dv 1) (d_lst false (a2 (d_isiC (by rfl) T.isinstance (by rfl) O_NoWay.bound (dv 0)) (d_not (d_isiV (by rfl) T.isinstance (by rfl) TV PyProof.Rows.Boot.«ValueError» (dv 0)))))))
  (df (qS 2 sc_kinds.nd (d_lst false (dm dt (dm dt (dm dt (dm dt (dm dt (dm dt (dm dt (dm dt (dm dt da_nil)))))))))))
  (df (qS 2 sc_kinds.nd (dPl (dv 2) (d_lst false (dm dt (dm dt (dm dt (dm dt (dm dt (dm dt (dm dt (dm dt (dm dt da_nil))))))))))))
  (dr (dP (d_compH false (cOk (N:=["_law_k", "_law_words", "_law_found"]) (js:=[none,some 2,some 1]) sc_kinds (by decide +kernel)) hh (dA 0) (dc 0) rfl (i_rangeH (H0:=H) hk rfl T.range (a1 dn)) (fun _ _ _=>(qN 0 (show List.Nodup (["_law_k", "_law_words", "_law_found"]:List Str) by decide +kernel))) (fun _ _ _=>(ts_one (d_testV (fu (dv 2) (dv 0))))) (fun _ _ _=>(fu (dv 1) (dv 0))))))))))))),fun ds μ m Kd hm hl em hc h=>?_⟩)
 unfold fKindsJ at h
 split at h
 ·rename_i k
  obtain⟨_,hk1,j,hj,hx,KB,kk⟩:=h
  have hx2:(μ.set 0 (MO.gx eE H))[k]?=some (.exc (.ref (rcs.getD j 0))):=by rw[ak (aZ hk1)];exact hx
  refine⟨_,_,hx2,KB.ef,KB.at_ 0 (by decide),_,_,hx2,KB.ef,KB.at_ 1 (by decide),_,_,hx2,KB.ef,KB.at_ 2 (by decide),_,_,hx2,KB.ef,KB.at_ 3 (by decide),zs,?_⟩
  refine⟨_,_,hx2,KB.ef,KB.at_ 4 (by decide),_,_,hx2,KB.ef,KB.at_ 5 (by decide),_,_,hx2,KB.ef,KB.at_ 6 (by decide),_,_,hx2,KB.ef,KB.at_ 7 (by decide),zs,dh rfl (dh rfl ⟨zs,?_⟩)⟩
  refine⟨_,_,hx2,KB.ef,KB.at_ 8 (by decide),_,_,hx2,KB.ef,KB.at_ 9 (by decide),_,_,hx2,KB.ef,KB.at_ 10 (by decide),_,_,hx2,KB.ef,KB.at_ 11 (by decide),zs,dh rfl (dh rfl ⟨zs,?_⟩)⟩
  refine⟨_,_,hx2,KB.ef,KB.at_ 12 (by decide),_,_,hx2,KB.ef,KB.at_ 13 (by decide),_,_,hx2,KB.ef,KB.at_ 14 (by decide),_,_,hx2,KB.ef,KB.at_ 15 (by decide),zs,dh rfl (dh rfl ⟨zs,?_⟩)⟩
  refine⟨_,_,hx2,KB.ef,KB.at_ 16 (by decide),_,_,hx2,KB.ef,KB.kv,zs,dh rfl (dh rfl ⟨zs,?_⟩)⟩
  refine⟨zs,zs,dh rfl (dh rfl ⟨zs,?_⟩)⟩
  refine⟨by decide,by decide,zs,?_⟩
  refine compW_kinds hj hc (fun i K' hi h1 h2 k1 k2=>?_) (.keep (gK_of em kk))
  rw[Int.zero_add]
  refine dh (v:=D.bl (decide (i=j))) (atI_nat h1) ?_
  show(if decide (i=j)=true then _ else _)
  by_cases q:i=j
  ·rw[ag (ao q)]
   refine dh (v:=D.str (kWords.getD i "")) (atI_nat ?_) (k1 q)
   have:=bD (Option.map D.str) h2
   rw[<- gxH]at this
   exact this
  ·rw[ae (by simpa using q)]
   exact k2 q
 ·exact h.elim
theorem ok_told (F:Fun K "_law_told" "_law_told" s_told f fd)(T:Bi2 mg)(dH:ZRoom K cRoom)(O_HissError:OwnCls "HissError" cHissError veB "ValueError.__new__" mg base)(C_Room_deed:c_Room_deed P w K mg base)(C_kinds:c_kinds P w K mg base):d8 P w K mg base CX0 9 f fd (pA s_told) (spD (fToldD K rcs cHissError cRoom dg)):=by
 refine F.okD sc_told (fun ds μ Kd h=>by unfold fToldD at h;split at h <;> first | rfl | exact h.elim) (fun cdv A outer s H E hr=>⟨_,(df (s_try rfl rfl rfl sc_told.nd (i:=3) rfl rfl rfl O_HissError.bound (fun pn xe eE H0 Kx Zt=>(dr (qS 2 sc_told.nd (d_methX Zt C_Room_deed dH.cl hr.le (dv 0) (a1 (dv 1))))))
  (fun pn e d9 H1 kx hk hk0=>(dr (dP (d_tup (a2 dt (d_callH (H0:=H1) hk hk0 rfl C_kinds (roomM hr.le) rfl (a1 (dv 3)))))))))
  (dr (dP (d_tup (a2 dt (d_isN (dv 2))))))),fun ds μ Kd hm hl h=>?_⟩)
 unfold fToldD at h
 split at h
 ·rename_i k y
  obtain⟨⟨m,em⟩,KA,j1,j2,ss,rs,d,S,e,ra,es,rfl,dX,few,kk⟩:=h
  have h0:0<μ.length:=(gxB em).1
  refine⟨m,em,fun eE H0=>?_⟩
  have rg:=ra.gx (m:=.gx eE H0)
  refine⟨room_recv rg rfl,eA em,⟨_,eA em⟩,j1,j2,ss,rs,d,S,e,rg,es,rfl,dX,few,?_⟩
  cases er:refW S e with
  | none =>
   rw[er]at kk
   obtain⟨g1,g2⟩:=putR_gx ra (m:=.gx eE H0) (ss':=ss.take (d+1)++[doD S e]) (rs':=rs.take d++[e]) (d':=d+1) em
   refine⟨g2,?_⟩
   rw[g1]
   exact⟨zs,.keep kk⟩
  | some i =>
   rw[er]at kk
   have KB:=KA i (refW_lt er)
   refine⟨eA em,?_⟩
   rw[gx_back em]
   refine⟨rcs.getD i 0,rfl,KB.sub,fun d9 H1=>?_⟩
   have em2:(μ++[MO.exc (.ref (rcs.getD i 0))])[0]?=some m:=by rw[gxF h0];exact em
   have ex2:((μ++[MO.exc (.ref (rcs.getD i 0))]).set 0 (.gx d9 H1))[μ.length]?=some (.exc (.ref (rcs.getD i 0))):=by
    rw[ak (by omega),gxG (aa _),aQ];rfl
   refine⟨⟨eA em2,_,ex2⟩,⟨_,eA em2⟩,by omega,i,by have:=refW_lt er;omega,ex2,KB,zs,eA em2,?_⟩
   rw[gx_back em2]
   refine .drop ?_ (old_app hm) ?_
   ·exact⟨trivial,⟨trivial,trivial⟩,trivial⟩
   ·rw[aT];exact kk
 ·exact h.elim
theorem ok_named (F:Fun K "_law_named" "_law_named" s_named f fd)(T:Bi2 mg)  : d8 P w K mg base CX0 1 f fd (pA s_named) (spD fNamedL):=by
 refine F.okD sc_named (fun ds μ Kd h=>by unfold fNamedL at h;split at h <;> first | rfl | exact h.elim) (fun cdv A outer s H E hr=>⟨_,(dr (dP (d_and (d_cmp leC so_b2' dn (dLn T (dv 0)) (nomark _)) (d_and (d_cmp leC so_b2' (dLn T (dv 0)) dn (nomark _)) (d_one (d_blt (allC rfl) so_all (by rfl) T.all PyProof.Rows.boot_all (a1 (dC1 false (cOk (N:=["_law_sign"]) (js:=[none]) sc_named (by decide +kernel)) (i_str (dv 0)) (fun _ _ _ nd=>(qN 0 nd)) (fun _ _ _=>ts_nil) (fun _ _ _=>(d_cmp inC so_in (dv 0) dt (by with_unfolding_all rfl))))))))))),fun ds μ Kd hm hl h=>?_⟩)
 unfold fNamedL at h
 split at h
 ·rename_i z
  obtain⟨hz,kk⟩:=h
  have sl:z.length<=sizeLine:=sz (by omega)
  refine⟨sl,iteD (c:=(1:Int)<=((z.length:Nat):Int)) (fun q1=>⟨sl,iteD (c:=((z.length:Nat):Int)<=8) (fun q2=>?_) (fun q2=>?_)⟩) (fun q1=>?_)⟩
  ·refine⟨by rw[fC];exact sl,?_⟩
   refine compW_all trivial (fun c:Nat=>D.str ⟨#[c]⟩) (fun c=>D.bl (decide (97<=c)&&decide (c<=122))) (fun c _ K' k'=>⟨c,rfl,?_⟩) ?_
   ·show K' (some (D.bl (false != decide (c∈abcT.cps.toList)))) μ
    rw[abc_mem,Bool.false_bne];exact k'
   ·refine⟨z.cps.toList.map fun c=>decide (97<=c)&&decide (c<=122),by rw[aB];rfl,?_⟩
    have eb:((z.cps.toList.map fun c=>decide (97<=c)&&decide (c<=122)).all id)=namedB z:=by rw[nameB_of (by omega) (by omega),List.all_map];rfl
    show Fz _ Kd (.bl (List.all _ id)) μ
    rw[eb]
    exact .keep kk
  ·have:namedB z=false:=by unfold namedB;rw[aj (show ¬ z.length<=8 by omega),Bool.and_false];rfl
   rw[this]at kk
   exact .keep kk
  ·have:namedB z=false:=by unfold namedB;rw[aj (show ¬ 1<=z.length by omega)];rfl
   rw[this]at kk
   exact .keep kk
 ·exact h.elim
theorem ok_new_word (F:Fun K "_law_new_word" "_law_new_word" s_new_word f fd)(T:Bi2 mg)(C_named:c_named P w K mg base):d8 P w K mg base CX0 2 f fd (pA s_new_word) (spD fNewWord):=by
 refine F.okD sc_new_word (fun ds μ Kd h=>by unfold fNewWord at h;split at h <;> first | rfl | exact h.elim) (fun cdv A outer s H E hr=>⟨_,(df (s_if (t_not (d_testV (qC C_named hr (a1 (dv 1)))))
  (dr (dP dt))
  eO)
  (df (s_if (t_inF (fg hr) (dv 1) (fu (dv 0) dn) (by with_unfolding_all rfl))
  (dr (dP dt))
  eO)
  (dr (dP (d_if (qGe (d_blt lenD so_lenD (by rfl) T.len cA (a1 (fu (dv 0) dn))) dn) dt dt))))),fun ds μ Kd hm hl h=>?_⟩)
 unfold fNewWord at h
 split at h
 ·rename_i x z
  obtain⟨hz,S,m,rfl,wf,kk⟩:=h
  unfold newW at kk
  refine fG (!namedB z) (.not (.tst fun K k=>⟨hz,k⟩)) (fun q=>?_) (fun q=>?_)
  ·rw[ag (by simpa using q)]at kk;exact .keep kk
  rw[ae (by simpa using q)]at kk
  refine dNx_of ?_
  dsimp only
  refine fG (false != (du S.kept z).isSome) (.tst fun K k=>dh rfl ⟨_,ixF_k dD ptL z S.kept rfl,by rw[bt];exact k⟩) (fun q=>?_) (fun q=>?_)
  ·rw[ag (by unfold hasN;simpa using q)]at kk;exact .keep kk
  rw[ae (by unfold hasN;simpa using q)]at kk
  refine dNx_of ?_
  dsimp only
  refine dIfe_of (decide ((20:Int)<=((S.kept.map fun p=>dW p.1).length:Nat))) (.tst fun K k=>dh rfl (dh rfl k)) (fun q=>?_) (fun q=>?_)
  ·have q:=bB q;rw[fC]at q;rw[ag (by omega)]at kk;exact .keep kk
  ·have q:=of_decide_eq_false q;rw[fC]at q;rw[ae (by omega)]at kk;exact .keep kk
 ·exact h.elim
theorem ok_place_word (F:Fun K "_law_place_word" "_law_place_word" s_place_word f fd)(T:Bi2 mg)  : d8 P w K mg base CX0 1 f fd (pA s_place_word) (spD fPlaceWord):=by
 refine F.okD sc_place_word (fun ds μ Kd h=>by unfold fPlaceWord at h;split at h <;> first | rfl | exact h.elim) (fun cdv A outer s H E hr=>⟨_,(dr (dP (d_if (PW.pt (t_and (qLe dn (dv 1)) (t_and1 (qLt (dv 1) (fu (dv 0) dn))))) dt dt))),fun ds μ Kd hm hl h=>?_⟩)
 unfold fPlaceWord at h
 split at h
 ·rename_i x p
  obtain⟨S,rfl,kk⟩:=h
  unfold fv at kk
  refine dIfe_of (decide (1<=p)&&decide (p<S.n)) (.and (.tst fun K k=>k) fun _=>.tst fun K k=>dh rfl k) (fun q=>?_) (fun q=>?_)
  ·rw[ag (by simpa using q)]at kk;exact .keep kk
  ·rw[ae (by simpa using q)]at kk;exact .keep kk
 ·exact h.elim
theorem ok_put_word (F:Fun K "_law_put_word" "_law_put_word" s_put_word f fd)(T:Bi2 mg)(C_new_word:c_new_word P w K mg base):d8 P w K mg base CX0 3 f fd (pA s_put_word) (spD (fWordD w0)):=by
 refine F.okD sc_put_word (fun ds μ Kd h=>by unfold fWordD at h;split at h <;> first | rfl | exact h.elim) (fun cdv A outer s H E hr=>⟨_,(df (qS 2 sc_put_word.nd (qC C_new_word hr (a2 (dv 0) (fu (dv 1) dn))))
  (df (s_if (qNe (dv 2) dt)
  (dr (dP (dv 2)))
  eO)
  (df (s_if (PW.pt (t_or (qNe (dLn T (fu (dv 1) dn)) (fu (dv 0) dn)) (t_or1 (d_testV (d_blt (anyC rfl) so_all (by rfl) T.any PyProof.Rows.boot_any (a1 (dC1 false (cOk (N:=["_law_sign"]) (js:=[none]) sc_put_word (by decide +kernel)) (i_str (fu (dv 1) dn)) (fun _ _ _ nd=>(qN 0 nd)) (fun _ _ _=>ts_nil) (fun _ _ _=>(d_cmp notInC so_in (dv 0) dt (by with_unfolding_all rfl))))))))))
  (dr (dP dt))
  eO)
  (dr (dP (d_if (PW.pt (t_and (qLe dn (fu (dv 1) dn)) (t_and1 (qLe (fu (dv 1) dn) dn)))) dt dt)))))),fun ds μ Kd hm hl h=>?_⟩)
 unfold fWordD at h
 split at h
 ·rename_i x y
  obtain⟨S,m,d,rfl,rfl,hw,wf,dX,kk⟩:=h
  cases d <;> try cases hw
  rename_i nm b a
  obtain⟨k1,k2⟩:nm.length<=1000/\b.length<=1000:=dX
  have kk:Kd (.str (wordT ((newW S nm).or (if((b.length:Nat):Int)=S.n/\oxB b=true then ageW a else some 0)))) μ:=kk
  refine dh rfl ⟨k1,S,m,rfl,wf,?_⟩
  have wn:=wordT_ne (o:=newW S nm) fun i e=>newW_lt e
  dsimp only
  refine fG (true != decide (wordT (newW S nm)=("" : Str))) (.tst fun K k=>k) (fun q=>?_) (fun q=>?_)
  ·rw[wn]at q
   cases e:newW S nm with
   | none=>rw[e]at q;cases q
   | some i=>rw[e]at kk;exact .keep kk
  rw[wn]at q
  cases e:newW S nm with
  | some i=>rw[e]at q;cases q
  | none =>
  rw[e]at kk
  have kk:Kd (.str (wordT (if((b.length:Nat):Int)=S.n/\oxB b=true then ageW a else some 0))) μ:=kk
  refine dNx_of ?_
  dsimp only
  refine fG ((true != decide (((b.length:Nat):Int)=S.n))||((b.cps.toList.map fun c=>!(decide (c=111)||decide (c=120))).any id)) (.or (.tst fun K k=>dh rfl ⟨sz (by omega),dh rfl k⟩) fun _=>.tst fun K k=>dh rfl ⟨by rw[fC];exact sz (by show b.length<=_;omega),compW_all trivial (fun c:Nat=>D.str ⟨#[c]⟩) (fun c=>D.bl (!(decide (c=111)||decide (c=120)))) (fun c _ K' k'=>⟨c,rfl,?_⟩) ⟨_,by rw[aB];rfl,k⟩⟩) (fun q=>?_) (fun q=>?_)
  ·rw[ox_mem];exact(Bool.true_bne _)▸k'
  ·have:¬ (((b.length:Nat):Int)=S.n/\oxB b=true):=by
    rintro⟨z1,z2⟩
    rw[ao z1,ox_any,z2]at q
    cases q
   rw[ae this]at kk
   exact .keep kk
  ·rw[ox_any]at q
   have:((b.length:Nat):Int)=S.n/\oxB b=true:=by simpa using q
   rw[ag this]at kk
   unfold ageW at kk
   refine dNx_of ?_
   dsimp only
   refine dIfe_of (decide (0<=a)&&decide (a<=20)) (.and (.tst fun K k=>dh rfl k) fun _=>.tst fun K k=>dh rfl k) (fun q=>?_) (fun q=>?_)
   ·rw[ag (by simpa using q)]at kk;exact .keep kk
   ·rw[ae (by simpa using q)]at kk;exact .keep kk
 ·exact h.elim
theorem ok_join_word (F:Fun K "_law_join_word" "_law_join_word" s_join_word f fd)(T:Bi2 mg)(C_new_word:c_new_word P w K mg base)(C_place_word:c_place_word P w K mg base):d8 P w K mg base CX0 3 f fd (pA s_join_word) (spD (fWordD w1)):=by
 refine F.okD sc_join_word (fun ds μ Kd h=>by unfold fWordD at h;split at h <;> first | rfl | exact h.elim) (fun cdv A outer s H E hr=>⟨_,(df (qS 2 sc_join_word.nd (qC C_new_word hr (a2 (dv 0) (fu (dv 1) dn))))
  (df (s_if (qNe (dv 2) dt)
  (dr (dP (dv 2)))
  eO)
  (df (s_if (PW.pt (t_or (t_notinF (fg hr) (fu (dv 1) dn) (fu (dv 0) dn) (by with_unfolding_all rfl)) (t_or1 (t_notinF (fg hr) (fu (dv 1) dn) (fu (dv 0) dn) (by with_unfolding_all rfl)))))
  (dr (dP dt))
  eO)
  (df (s_if (qNe (qC C_place_word hr (a2 (dv 0) (fu (dv 1) dn))) dt)
  (dr (dP dt))
  eO)
  (dr (dP (d_if (t_inF (fg hr) (fu (dv 1) dn) (fu (dv 0) dn) (by with_unfolding_all rfl)) dt dt))))))),fun ds μ Kd hm hl h=>?_⟩)
 unfold fWordD at h
 split at h
 ·rename_i x y
  obtain⟨S,m,d,rfl,rfl,hw,wf,dX,kk⟩:=h
  cases d <;> try cases hw
  rename_i nm l r p
  have k1:nm.length<=1000:=dX
  have kk:Kd (.str (wordT ((newW S nm).or (if hasN S l=false then some 11 else if hasN S r=false then some 11 else(fv S p).or (if(du S.eX p).isSome=true then some 12 else none))))) μ:=kk
  refine dh rfl ⟨k1,S,m,rfl,wf,?_⟩
  have wn:=wordT_ne (o:=newW S nm) fun i e=>newW_lt e
  dsimp only
  refine fG (true != decide (wordT (newW S nm)=("" : Str))) (.tst fun K k=>k) (fun q=>?_) (fun q=>?_)
  ·rw[wn]at q
   cases e:newW S nm with
   | none=>rw[e]at q;cases q
   | some i=>rw[e]at kk;exact .keep kk
  rw[wn]at q
  cases e:newW S nm with
  | some i=>rw[e]at q;cases q
  | none =>
  rw[e]at kk
  have kk:Kd (.str (wordT (if hasN S l=false then some 11 else if hasN S r=false then some 11 else(fv S p).or (if(du S.eX p).isSome=true then some 12 else none)))) μ:=kk
  unfold hasN at kk
  refine dNx_of ?_
  dsimp only
  refine fG ((true != (du S.kept l).isSome)||(true != (du S.kept r).isSome)) (.or (.tst fun K k=>dh rfl (dh rfl ⟨_,ixF_k dD ptL l S.kept rfl,by rw[bt];exact k⟩)) fun _=>.tst fun K k=>dh rfl (dh rfl ⟨_,ixF_k dD ptL r S.kept rfl,by rw[bt];exact k⟩)) (fun q=>?_) (fun q=>?_)
  ·cases el:(du S.kept l).isSome with
   | false=>rw[el,ag rfl]at kk;exact .keep kk
   | true =>
    rw[el,ae (by decide)]at kk
    cases er:(du S.kept r).isSome with
    | false=>rw[er,ag rfl]at kk;exact .keep kk
    | true=>rw[el,er]at q;cases q
  ·obtain⟨el,er⟩:(du S.kept l).isSome=true/\(du S.kept r).isSome=true:=by simpa using q
   rw[el,ae (by decide),er,ae (by decide)]at kk
   refine dNx_of ?_
   dsimp only
   have pn:=wordT_ne (o:=fv S p) fun i e=>by unfold fv at e;split at e <;> cases e;decide
   refine fG (true != decide (wordT (fv S p)=("" : Str))) (.tst fun K k=>dh rfl ⟨S,rfl,k⟩) (fun q=>?_) (fun q=>?_)
   ·rw[pn]at q
    unfold fv at q kk
    split at q
    ·cases q
    ·rename_i q2;rw[ae q2]at kk;exact .keep kk
   ·rw[pn]at q
    unfold fv at q kk
    split at q
    ·rename_i q2
     rw[ag q2]at kk
     have kk:Kd (.str (wordT (if(du S.eX p).isSome=true then some 12 else none))) μ:=kk
     refine dNx_of ?_
     dsimp only
     refine dIfe_of (false != (du S.eX p).isSome) (.tst fun K k=>dh rfl (dh rfl ⟨_,ixF_k ikey_inj (fun _=>D.bl true) p S.eX rfl,by rw[bt];exact k⟩)) (fun q=>?_) (fun q=>?_)
     ·rw[ag (by simpa using q)]at kk;exact .keep kk
     ·rw[ae (by simpa using q)]at kk;exact .keep kk
    ·cases q
 ·exact h.elim
theorem ok_take_word (F:Fun K "_law_take_word" "_law_take_word" s_take_word f fd)(T:Bi2 mg)  : d8 P w K mg base CX0 1 f fd (pA s_take_word) (spD (fWordD w24)):=by
 refine F.okD sc_take_word (fun ds μ Kd h=>by unfold fWordD at h;split at h <;> first | rfl | exact h.elim) (fun cdv A outer s H E hr=>⟨_,(df (s_if (t_notinF (fg hr) (fu (dv 1) dn) (fu (dv 0) dn) (by with_unfolding_all rfl))
  (dr (dP dt))
  eO)
  (df (qS 2 sc_take_word.nd (d_ixF (fg hr) (fu (dv 0) dn) (fu (dv 1) dn) (fun _ _=>rfl)))
  (df (s_if (qEq (fu (dv 1) dn) dt)
  (df (s_if (PW.pt (t_or (qLt (fu (dv 1) dn) dn) (t_or1 (qGe (fu (dv 1) dn) (fu (dv 0) dn)))))
  (dr (dP dt))
  eO)
  (dr (dP (d_if (PW.pt (t_or (qEq (fu (dv 1) dn) dt) (t_or1 (qEq (fu (dv 1) dn) dt)))) dt dt))))
  eO)
  (df (s_if (qEq (fu (dv 1) dn) dt)
  (df (s_if (qEq (fu (dv 2) dn) dt)
  (dr (dP dt))
  eO)
  (dr (dP (d_if (PW.pt (t_and (qLe dn (fu (dv 1) dn)) (t_and1 (qLe (fu (dv 1) dn) dn)))) dt dt))))
  eO)
  (df (s_for bw rfl (i_valuesF (fu (dv 0) dn)) (qT 3 sc_take_word.nd)
  (dr (s_if (PW.pt (t_and (qEq (fu (dv 3) dn) dt) (t_and1 (d_testC inC so_inT (fu (dv 1) dn) (d_sliceT (dv 3) (o_some dn) (o_some dn)) (by with_unfolding_all rfl)))))
  (dr (dP dt))
  eO)))
  (dr (dP dt))))))),fun ds μ Kd hm hl h=>?_⟩)
 unfold fWordD at h
 split at h
 ·rename_i x y
  obtain⟨S,m,d,rfl,rfl,hw,wf,dX,kk⟩:=h
  have eT:∀ c:Str,(false != decide (c=c))=true:=fun c=>by rw[ao rfl];rfl
  cases d <;> try cases hw
  ·rename_i nm bar sg
   have kk:Kd (.str (wordT (if hasN S nm=false then some 11 else if 0<=bar/\bar<S.n then(if sg = "o"\/sg = "x" then none else some 0)else some 6))) μ:=kk
   unfold hasN at kk
   refine fG (true != (du S.kept nm).isSome) (.tst fun K k=>dh rfl (dh rfl ⟨_,ixF_k dD ptL nm S.kept rfl,by rw[bt];exact k⟩)) (fun q=>?_) (fun q=>?_)
   ·rw[ag (by simpa using q)]at kk;exact .keep kk
   obtain⟨y,ey⟩:=Option.isSome_iff_exists.mp (show(du S.kept nm).isSome=true by simpa using q)
   refine dNx_of ?_
   dsimp only
   refine dh rfl (dh rfl ⟨_,by rw[ixF_k dD ptL nm S.kept rfl,ey];rfl,?_⟩)
   dsimp only
   rw[ey,ae (by exact fun z=>nomatch z)]at kk
   refine fG true (.tst fun K k=>dh rfl k) (fun _=>?_) (fun q=>by cases q)
   refine fG (decide (bar<0)||decide (S.n<=bar)) (.or (.tst fun K k=>dh rfl k) fun _=>.tst fun K k=>dh rfl (dh rfl k)) (fun q=>?_) (fun q=>?_)
   ·rw[ae (by have w:bar<0\/S.n<=bar:=(by simpa using q);omega)]at kk
    exact .keep kk
   ·rw[ag (by have w:¬ bar<0/\¬ S.n<=bar:=(by simpa using q);omega)]at kk
    refine dNx_of ?_
    dsimp only
    refine dIfe_of ((false != decide (sg = "o"))||(false != decide (sg = "x"))) (.or (.tst fun K k=>dh rfl k) fun _=>.tst fun K k=>dh rfl k) (fun q=>?_) (fun q=>?_)
    ·rw[ag (by simpa using q)]at kk;exact .keep kk
    ·rw[ae (by simpa using q)]at kk;exact .keep kk
  ·rename_i nm a
   have kk:Kd (.str (wordT (match du S.kept nm with | none=>some 11 | some (.jn _ _ _)=>some 13 | some (.fst _ _)=>ageW a))) μ:=kk
   refine fG (true != (du S.kept nm).isSome) (.tst fun K k=>dh rfl (dh rfl ⟨_,ixF_k dD ptL nm S.kept rfl,by rw[bt];exact k⟩)) (fun q=>?_) (fun q=>?_)
   ·rw[show du S.kept nm=none by simpa using q]at kk;exact .keep kk
   obtain⟨y,ey⟩:=Option.isSome_iff_exists.mp (show(du S.kept nm).isSome=true by simpa using q)
   refine dNx_of ?_
   dsimp only
   refine dh rfl (dh rfl ⟨_,by rw[ixF_k dD ptL nm S.kept rfl,ey];rfl,?_⟩)
   dsimp only
   rw[ey]at kk
   refine fG false (.tst fun K k=>dh rfl k) (fun q=>by cases q) (fun _=>?_)
   refine dNx_of ?_
   dsimp only
   refine fG true (.tst fun K k=>dh rfl k) (fun _=>?_) (fun q=>by cases q)
   cases y with
   | jn l r p =>
    refine fG true (.tst fun K k=>dh rfl k) (fun _=>?_) (fun q=>by cases q)
    exact .keep kk
   | fst b a0 =>
    refine fG false (.tst fun K k=>dh rfl k) (fun q=>by cases q) (fun _=>?_)
    refine dNx_of ?_
    dsimp only at kk ⊢
    unfold ageW at kk
    refine dIfe_of (decide (0<=a)&&decide (a<=20)) (.and (.tst fun K k=>dh rfl k) fun _=>.tst fun K k=>dh rfl k) (fun q=>?_) (fun q=>?_)
    ·rw[ag (by simpa using q)]at kk;exact .keep kk
    ·rw[ae (by simpa using q)]at kk;exact .keep kk
  ·rename_i nm
   have kk:Kd (.str (wordT (if hasN S nm=false then some 11 else if needN S nm=true then some 14 else none))) μ:=kk
   unfold hasN at kk
   refine fG (true != (du S.kept nm).isSome) (.tst fun K k=>dh rfl (dh rfl ⟨_,ixF_k dD ptL nm S.kept rfl,by rw[bt];exact k⟩)) (fun q=>?_) (fun q=>?_)
   ·rw[ag (by simpa using q)]at kk;exact .keep kk
   obtain⟨y,ey⟩:=Option.isSome_iff_exists.mp (show(du S.kept nm).isSome=true by simpa using q)
   refine dNx_of ?_
   dsimp only
   refine dh rfl (dh rfl ⟨_,by rw[ixF_k dD ptL nm S.kept rfl,ey];rfl,?_⟩)
   dsimp only
   rw[ey,ae (by exact fun z=>nomatch z)]at kk
   refine fG false (.tst fun K k=>dh rfl k) (fun q=>by cases q) (fun _=>?_)
   refine dNx_of ?_
   dsimp only
   refine fG false (.tst fun K k=>dh rfl k) (fun q=>by cases q) (fun _=>?_)
   refine dNx_of ?_
   dsimp only
   refine dh rfl fun _=>?_
   refine forW_inv (fun ds ρ μ'=>∃(pre post:List (Str×Pt)) (v3:Option D),S.kept=pre++post/\ds=post.map (fun p=>ptL p.2)/\(pre.any fun p=>isNeed nm p.2)=false/\ρ=[some (slD S),some (ddD (.drop nm)),some (ptL y),v3]/\μ'=μ) ⟨[],S.kept,none,rfl,rfl,rfl,rfl,rfl⟩ ?_ ?_
   ·rintro d ds' ρ μ' ⟨pre,post,v3,hs,e1,ha,rfl,rfl⟩
    refine⟨trivial,fun nx hnx=>?_⟩
    cases post with
    | nil=>cases e1
    | cons p post =>
     obtain⟨z,u⟩:=p
     cases e1
     have nE:needN S nm=(isNeed nm u||post.any fun p=>isNeed nm p.2):=by unfold needN;rw[hs,List.any_append,bf,ha,Bool.false_or]
     have next:isNeed nm u=false->nx [some (slD S),some (ddD (.drop nm)),some (ptL y),some (ptL u)] μ':=fun q=>hnx _ _ ⟨pre++[(z,u)],post,_,by rw[hs,aH];rfl,rfl,by rw[List.any_append,ha,bf,q];rfl,rfl,rfl⟩
     dsimp only
     cases u with
     | fst b a =>
      refine fG false (fun K k=>dh rfl k) (fun q=>by cases q) (fun _=>?_)
      exact next rfl
     | jn l r p =>
      have eb:(false != ([D.str l,D.str r].any fun d=>deq d (.str nm)))=isNeed nm (.jn l r p):=by
       rw[fne]
       simp only[bf,List.any_nil,deq,Bool.or_false]
       rfl
      refine fG (true&&isNeed nm (.jn l r p)) (.and (.tst fun K k=>dh rfl k) fun _=>.tst fun K k=>dh rfl ⟨fun y=>absurd y.1 (show ¬ (1:Nat)=0 by decide),rfl,rfl,?_⟩) (fun q=>?_) (fun q=>?_)
      ·show K (.bl (false != ([D.str l,D.str r].any fun d=>deq d (.str nm)))) _
       rw[eb];exact k
      ·rw[Bool.true_and]at q
       rw[nE,q,Bool.true_or,ag rfl]at kk
       exact .keep kk
      ·rw[Bool.true_and]at q
       exact next q
   ·rintro ρ μ' ⟨pre,post,v3,hs,e1,ha,rfl,rfl⟩
    cases post with
    | cons p post=>cases e1
    | nil =>
     rw[aP]at hs
     rw[<- hs]at ha
     have:needN S nm=false:=ha
     rw[this,ae (by decide)]at kk
     exact⟨trivial,.keep kk⟩
 ·exact h.elim
theorem ok_word (F:Fun K "_law_word" "_law_word" s_word f fd)(T:Bi2 mg)(C_put_word:c_put_word P w K mg base)(C_join_word:c_join_word P w K mg base)(C_place_word:c_place_word P w K mg base)(C_take_word:c_take_word P w K mg base):d8 P w K mg base CX0 4 f fd (pA s_word) (spD (fWordD wAll)):=by
 refine F.okD sc_word (fun ds μ Kd h=>by unfold fWordD at h;split at h <;> first | rfl | exact h.elim) (fun cdv A outer s H E hr=>⟨_,(df (s_if (qEq (fu (dv 1) dn) dt)
  (dr (dP (qC C_put_word hr (a2 (dv 0) (dv 1)))))
  eO)
  (df (s_if (qEq (fu (dv 1) dn) dt)
  (dr (dP (qC C_join_word hr (a2 (dv 0) (dv 1)))))
  eO)
  (df (s_if (PW.pt (t_or (qEq (fu (dv 1) dn) dt) (t_or1 (qEq (fu (dv 1) dn) dt))))
  (dr (dP (qC C_place_word hr (a2 (dv 0) (fu (dv 1) dn)))))
  eO)
  (dr (dP (qC C_take_word hr (a2 (dv 0) (dv 1)))))))),fun ds μ Kd hm hl h=>?_⟩)
 unfold fWordD at h
 split at h
 ·rename_i x y
  obtain⟨S,m,d,rfl,rfl,hw,wf,dX,kk⟩:=h
  cases d with
  | put nm b a=>exact dh rfl ⟨S,m,.put nm b a,rfl,rfl,rfl,wf,dX,.keep kk⟩
  | join nm l r p=>exact dh rfl (dh rfl ⟨S,m,.join nm l r p,rfl,rfl,rfl,wf,dX,.keep kk⟩)
  | found nm bar sg=>exact dh rfl (dh rfl (dh rfl (dh rfl ⟨S,m,.found nm bar sg,rfl,rfl,rfl,wf,dX,.keep kk⟩)))
  | aged nm a=>exact dh rfl (dh rfl (dh rfl (dh rfl ⟨S,m,.aged nm a,rfl,rfl,rfl,wf,dX,.keep kk⟩)))
  | drop nm=>exact dh rfl (dh rfl (dh rfl (dh rfl ⟨S,m,.drop nm,rfl,rfl,rfl,wf,dX,.keep kk⟩)))
  | free p=>exact dh rfl (dh rfl (dh rfl (dh rfl ⟨S,rfl,.keep kk⟩)))
  | eX p=>exact dh rfl (dh rfl (dh rfl (dh rfl (dh rfl ⟨S,rfl,.keep kk⟩))))
 ·exact h.elim
theorem ok_names (F:Fun K "_law_names" "_law_names" s_names f fd)(T:Bi2 mg)(fc:c_take P w K mg base):d8 P w K mg base CX0 2 f fd (pA s_names) (spD fNamesD):=by
 refine F.okD sc_names (fun ds μ Kd h=>by unfold fNamesD at h;split at h <;> first | rfl | exact h.elim) (fun cdv A outer s H E hr=>⟨_,(df (qS 2 sc_names.nd dt)
  (df (qS 3 sc_names.nd (dPl dn (qC fc hr (a2 (dv 0) dn))))
  (df (qS 4 sc_names.nd (qC fc hr (a2 (dv 0) (dv 3))))
  (df (qS 5 sc_names.nd (d_cmp eqC so_eqS (qC fc hr (a2 (dv 0) dn)) dn (nomark _)))
  (df (sC1 6 false sc_names.nd (cOk (N:=["_law_k", "_law_box_here"]) (js:=[none,some 0]) sc_names (by decide +kernel)) (i_range1 rfl T.range (a1 (dv 3))) (fun _ _ _ nd=>(qN 0 nd)) (fun _ _ _=>ts_nil) (fun _ _ _=>(qC fc hr (a2 (dv 1) dn))))
  (df (qS 7 sc_names.nd (d_lst true da_nil))
  (df (s_for bw rfl (i_range1 rfl T.range (a1 (dv 1))) (qT 8 sc_names.nd)
  (df (qS 9 sc_names.nd (d_ty listC (so_list (m:=true)) (by rfl) T.list bg (a1 (dv 6))))
  (b_cut (s_if (t_not (d_testV (dv 5)))
  (dr (sC1 9 true sc_names.nd (cOk (N:=["_law_step", "_law_box_here"]) (js:=[none,some 0]) sc_names (by decide +kernel)) (i_range1 rfl T.range (a1 (dPl (dPl (dv 4) dn) (qC fc hr (a2 (dv 0) (dMi (dv 3) (dv 4))))))) (fun _ _ _ nd=>(qN 0 nd)) (fun _ _ _=>ts_nil) (fun _ _ _=>(qC fc hr (a2 (dv 1) dn)))))
  eO)
  (df (s_asgS (d_op modC so_i2 (dPl (fu (dv 6) (dv 4)) (d_op mulC so_mul dn (dv 8))) dn) (dv 9) (dv 4))
  (dr (s_expr (d_mt PySem.F.plainAttrs_list PySem.F.slot_list_append PySem.F.type_list_append appendC so_append (dv 7) (a1 (d_mt bz bW bV joinC so_join dt (a1 (dC1 false (cOk (N:=["_law_one", "_law_letters"]) (js:=[none,some 2]) sc_names (by decide +kernel)) (i_list (dv 9)) (fun _ _ _ nd=>(qN 0 nd)) (fun _ _ _=>ts_nil) (fun _ _ _=>(fu (dv 1) (dv 0))))))))))))))
  (dr (dP (dv 7)))))))))),fun ds μ Kd hm hl h=>?_⟩)
 unfold fNamesD at h
 split at h
 ·rename_i k many
  obtain⟨hb,h1,h2,kk⟩:=h
  have hk:k<μ.length:=(gxB hb).1
  have hb2:∀ g:MS,(μ++g)[k]?=some .box:=fun g=>by rw[gxF hk];exact hb
  refine⟨hb,by decide,by decide,fun v v0 v1=>⟨hb,by omega,by omega,fun p p0 p1=>⟨hb,by decide,by decide,fun w w0 w1=>?_⟩⟩⟩
  refine⟨by omega,by omega,sz (by rw[rngD_len];omega),?_⟩
  refine compW_any D.int (fun i=>0<=i/\i<26) trivial (fun d hd K' k'=>⟨hb,by decide,by decide,fun x x0 x1=>k' x ⟨x0,x1⟩⟩) fun fi hfl hf=>?_
  rw[rngD_len]at hfl
  obtain⟨n,rfl⟩:∃ n:Nat,p=(n:Int):=⟨p.toNat,by omega⟩
  obtain⟨a,ha⟩:∃ a,fi[n]?=some a:=⟨_,gxA (by omega)⟩
  refine⟨zs,by omega,by omega,?_⟩
  refine forW_inv (fun ds ρ μ'=>∃(i j:Nat) (rows:List Str) (g:MS) (u v':Option D),ds=rngD i j/\i+j=many.toNat/\rows.length=i/\(∀ z∈rows,namedB z=true)/\(∀(t:Nat) (z:Str),rows[t]?=some z->z.cps.toList[n]?=some (ch26 ((a+7*(t:Int))%26)))/\ρ=[some (.mr k),some (.int many),some (.str (Str.ofString "abcdefghijklmnopqrstuvwxyz")),some (.int (1+v)),some (.int (n:Int)),some (.bl (false != decide (w=0))),some (.lst (fi.map D.int)),some (.mr μ.length),u,v']/\μ'=μ++.lst (rows.map D.str)::g) ⟨0,many.toNat,[],[],none,none,rfl,by omega,rfl,fun _ h=>(nomatch h),fun _ _ h=>(nomatch h),rfl,rfl⟩ ?_ ?_
  ·rintro d ds' ρ μ' ⟨i,j,rows,g,u,v',e,hij,hrl,hr0,hr1,rfl,rfl⟩
   refine⟨trivial,fun nx hnx=>?_⟩
   cases j with
   | zero=>cases e
   | succ j =>
    rw[rngD_cons]at e
    cases e
    refine⟨fun ρ2 eV=>∃(g2:MS) (l:List Int),ρ2=[some (.mr k),some (.int many),some (.str (Str.ofString "abcdefghijklmnopqrstuvwxyz")),some (.int (1+v)),some (.int (n:Int)),some (.bl (false != decide (w=0))),some (.lst (fi.map D.int)),some (.mr μ.length),some (.int i),some (.mr (μ++.lst (rows.map D.str)::g2).length)]/\eV=(μ++.lst (rows.map D.str)::g2)++[.lst (l.map D.int)]/\n<l.length/\l.length<=8/\∀ x∈l,0<=x/\x<26,?_,?_⟩
    ·refine fG (!(false != decide (w=0))) (fun K k=>k) (fun _=>?_) (fun _=>⟨g,fi,rfl,rfl,by omega,by omega,hf⟩)
     refine⟨by rw[aH];exact hb2 _,by omega,by omega,fun q q0 q1=>⟨by omega,by omega,sz (by rw[rngD_len];omega),?_⟩⟩
     refine compW_any D.int (fun i=>0<=i/\i<26) trivial (fun d hd K' k'=>⟨by rw[aH];exact hb2 _,by decide,by decide,fun x x0 x1=>k' x ⟨x0,x1⟩⟩) fun l hl' hl2=>?_
     rw[rngD_len]at hl'
     exact⟨g++[.lst (fi.map D.int)],l,by rw[aH];rfl,by simp only[aH,List.cons_append,List.nil_append],by omega,by omega,hl2⟩
    ·rintro ρ2 eV ⟨g2,l,rfl,rfl,l1,l2,l3⟩
     have m26:0<=(a+7*(i:Int))%26/\(a+7*(i:Int))%26<26:=⟨cQ _ (by decide),Int.emod_lt_of_pos _ (by decide)⟩
     have ixj:ixN (l.map D.int).length (n:Int)=some n:=by
      unfold ixN;rw[fC,ag (by omega),ag (by omega),gxK]
     obtain⟨l',hl'⟩:∃ l',l'=l.set n ((a+7*(i:Int))%26):=⟨_,rfl⟩
     have ll:l'.length=l.length:=by rw[hl',aK]
     have l4:∀ x∈l',0<=x/\x<26:=fun x hx=>by
      rw[hl']at hx
      rcases List.mem_or_eq_of_mem_set hx with q | q
      ·exact l3 x q
      ·rw[q];exact m26
     refine dh (atI_map ha) ⟨.inl (by omega),show(0:Int)<26 by decide,?_⟩
     refine dh lvM_new (dh ixj ?_)
     have es:(μ++MO.lst (rows.map D.str)::g2++[MO.lst (l.map D.int)]).set (μ++MO.lst (rows.map D.str)::g2).length (MO.lst ((l.map D.int).set n (.int ((a+7*(i:Int))%26))))=μ++MO.lst (rows.map D.str)::g2++[MO.lst (l'.map D.int)]:=by
      rw[set_end,hl',List.map_set]
     rw[es]
     refine⟨lvM_ty (ds:=rows.map D.str) (lvM_of (by rw[aH];exact at_mid)),rfl,?_⟩
     refine dh lvM_new ⟨sz (by rw[fC];omega),?_⟩
     obtain⟨cs,hcs⟩:∃ cs,cs=l'.map ch26:=⟨_,rfl⟩
     have cl:cs.length=l'.length:=by rw[hcs,fC]
     have cr:∀ c∈cs,97<=c/\c<=122:=fun c hc=>by
      rw[hcs]at hc
      obtain⟨x,hx,rfl⟩:=List.mem_map.mp hc
      have:=l4 x hx
      unfold ch26;omega
     have cn:cs[n]?=some (ch26 ((a+7*(i:Int))%26)):=by
      rw[hcs,gxH,hl',az (by omega)];rfl
     refine compW_all (c:=fun x=>lvM x (μ++.lst (rows.map D.str)::g2).length=some (l'.map D.int)) lvM_new D.int (fun x=>D.str ⟨#[ch26 x]⟩) (fun x hx K' k'=>?_) ?_
     ·exact⟨zs,dh (abc_ex (l4 x hx).1 (l4 x hx).2) k'⟩
     ·rw[show l'.map (fun x=>D.str ⟨#[ch26 x]⟩)=cs.map (fun c=>D.str ⟨#[c]⟩) by rw[hcs,aB];rfl]
      refine⟨rfl,cs.map (fun c=>⟨#[c]⟩),by unfold lv;rw[aB];rfl,by rw[sum_signs];omega,?_⟩
      rw[flat_signs]
      refine dh (lvM_of (ds:=rows.map D.str) (by rw[aH];exact at_mid)) ⟨by rw[fC];exact aq (m:=51) (by omega) (sz (by omega)),?_⟩
      rw[aH,List.cons_append,set_mid]
      refine hnx _ _ ⟨i+1,j,rows++[txt cs],g2++[.lst (l'.map D.int)],_,_,by rw[cP];rfl,by omega,by rw[gxE,hrl];rfl,fun z hz=>?_,fun t z hz=>?_,rfl,by rw[aE];rfl⟩
      ·rcases List.mem_append.mp hz with q | q
       ·exact hr0 z q
       ·rw[List.mem_singleton.mp q]
        exact named_of (by omega) (by omega) cr
      ·by_cases ht:t<rows.length
       ·rw[gxF ht]at hz;exact hr1 t z hz
       ·rw[gxG (by omega)]at hz
        cases hd:t - rows.length with
        | zero =>
         rw[hd]at hz
         cases hz
         rw[show(t:Int)=(i:Int) by omega,txt_list];exact cn
        | succ d=>rw[hd]at hz;cases hz
  ·rintro ρ μ' ⟨i,j,rows,g,u,v',e,hij,hrl,hr0,hr1,rfl,rfl⟩
   cases j with
   | succ j=>rw[rngD_cons]at e;cases e
   | zero =>
    refine⟨trivial,?_⟩
    refine Fz.lst (aa _) at_mid (mr_all fun d hd=>by obtain⟨q,_,rfl⟩:=List.mem_map.mp hd;exact trivial) (old_app hm) ?_
    rw[aT]
    exact kk rows (by omega) ⟨by omega,by omega,hr0⟩ (names_nd (by omega) hr1)
 ·exact h.elim
theorem ok_new (F:Fun K "_law_new" "_law_new" s_new f fd)(T:Bi2 mg)(fc:c_take P w K mg base)(C_bars:c_bars P w K mg base):d8 P w K mg base CX0 3 f fd (pA s_new) (spD fNewD):=by
 refine F.okD sc_new (fun ds μ Kd h=>by unfold fNewD at h;split at h <;> first | rfl | exact h.elim) (fun cdv A outer s H E hr=>⟨_,(df (qS 3 sc_new.nd (d_ty (listD rfl) (so_listD (m:=false)) (by rfl) T.list bg (a1 (fu (dv 1) dn))))
  (df (qS 4 sc_new.nd (fu (dPl (dPl (dv 2) (dv 3)) (d_lst false (a2 dt dt))) (qC fc hr (a2 (dv 0) (dPl (dPl (dLn T (dv 2)) (dLn T (dv 3))) dn)))))
  (df (qS 5 sc_new.nd (dPl (dv 3) (d_lst false (a1 dt))))
  (df (s_if (qEq (qC fc hr (a2 (dv 0) dn)) dn)
  (df (qS 6 sc_new.nd (dPl (qC C_bars hr (a2 (dv 0) (fu (dv 1) dn))) (d_op mulC so_mul dt (qC fc hr (a2 (dv 0) dn)))))
  (dr (dP (d_tup (dm dt (dm (dv 4) (dm (dv 6) (dm (dMi (qC fc hr (a2 (dv 0) dn)) dn) da_nil))))))))
  eO)
  (df (qS 7 sc_new.nd (fu (dv 5) (qC fc hr (a2 (dv 0) (dLn T (dv 5))))))
  (df (qS 8 sc_new.nd (fu (dv 5) (qC fc hr (a2 (dv 0) (dLn T (dv 5))))))
  (dr (dP (d_tup (dm dt (dm (dv 4) (dm (dv 7) (dm (dv 8) (dm (qC fc hr (a2 (dv 0) (dPl (fu (dv 1) dn) dn))) da_nil)))))))))))))),fun ds μ Kd hm hl h=>?_⟩)
 unfold fNewD at h
 split at h
 ·rename_i k x y
  obtain⟨hb,S,m,pool,rfl,rfl,wf,⟨p1,p2,p3⟩,kk⟩:=h
  have few:=wf.few
  have n1:=wf.n1
  have n2:=wf.n2
  have eN:(S.kept.map fun p=>dW p.1).map keyV=S.kept.map fun p=>D.str p.1:=aB
  obtain⟨L,hL⟩:∃ L:List Str,L=(pool++S.kept.map (·.1))++([("" : Str),("Q" : Str)]:List Str):=⟨_,rfl⟩
  obtain⟨M,hM⟩:∃ M:List Str,M=S.kept.map (·.1)++[("nobody" : Str)]:=⟨_,rfl⟩
  have ll:L.length=pool.length+S.kept.length+2:=by rw[hL,gxE,gxE,fC];rfl
  have ml:M.length=S.kept.length+1:=by rw[hM,gxE,fC];rfl
  have two:∀ z∈(["", "Q"]:List Str),z.length<=100:=by decide +kernel
  have lok:∀ z∈L,z.length<=100:=fun z hz=>by
   rw[hL]at hz
   rcases List.mem_append.mp hz with hz | hz
   ·rcases List.mem_append.mp hz with hz | hz
    ·exact named_len (p3 z hz)
    ·obtain⟨p,hp,rfl⟩:=List.mem_map.mp hz
     exact named_len (wf.nms p hp)
   ·exact two z hz
  have eL:((pool.map D.str)++(S.kept.map fun p=>D.str p.1))++[D.str "",D.str "Q"]=L.map D.str:=by
   rw[hL,aE,aE,aB];rfl
  have eM:(S.kept.map fun p=>D.str p.1)++[D.str "nobody"]=M.map D.str:=by
   rw[hM,aE,aB];rfl
  refine dSet_of (d:=.lst (S.kept.map fun p=>D.str p.1)) (μ':=μ) (fun K k=>by rw[<- eN]at k;exact k) ?_
  refine dh rfl (dh rfl ⟨sz (by rw[fC,fC];omega),?_⟩)
  refine⟨zs,dh rfl (dh rfl ⟨sz (by rw[gxE,fC,fC];show pool.length+S.kept.length+2<=_;omega),?_⟩)⟩
  rw[eL]
  refine⟨hb,by rw[fC,fC];omega,by rw[fC,fC];omega,fun x x0 x1=>?_⟩
  obtain⟨z,hz,e⟩:=atI_mapx (g:=D.str) (xs:=L) x0 (by rw[fC,fC]at x1;omega)
  have zl:z.length<=1000:=aw (lok z hz) (by decide)
  refine dh e ⟨zs,dh rfl (dh rfl ⟨sz (by rw[fC];show S.kept.length+1<=_;omega),?_⟩)⟩
  rw[eM]
  have pk:∀ x:Int,0<=x->x<((M.map D.str).length:Nat)->∃ y∈M,atI (M.map D.str) x=some (D.str y):=fun x x0 x1=>atI_mapx x0 (by rw[fC]at x1;exact x1)
  refine⟨hb,by decide,by decide,fun t _ _=>?_⟩
  dsimp only
  refine iteDf (c:=t=0) (fun _=>?_) (fun _=>?_)
  ·refine⟨hb,n1,by omega,fun l hl ho=>⟨hb,by decide,by decide,fun u u0 u1=>⟨111,rfl,by omega,by omega,?_⟩⟩⟩
   have e2:(txt l).length+(⟨(List.replicate u.toNat 111).toArray⟩:Str).length<=1000:=by
    rw[txt_len];show l.length+(List.replicate u.toNat 111).toArray.size<=1000;rw[ar,aI];omega
   refine⟨aw e2 (sz (by decide)),hb,by decide,by decide,fun a _ _=>⟨zs,.keep (kk (.put z _ (a - 1)) ⟨zl,?_⟩ trivial)⟩⟩
   rw[str_app_len];exact e2
  ·refine dNx_of ?_
   refine⟨hb,by rw[fC];omega,by rw[fC];omega,fun x x0 x1=>?_⟩
   obtain⟨y,_,ey⟩:=pk x x0 x1
   refine dh ey ⟨hb,by rw[fC];omega,by rw[fC];omega,fun x x0 x1=>?_⟩
   obtain⟨y',_,ey'⟩:=pk x x0 x1
   exact dh ey' ⟨hb,by omega,by omega,fun c _ _=>⟨zs,.keep (kk (.join z y y' c) zl trivial)⟩⟩
 ·exact h.elim
theorem ok_right (F:Fun K "_law_right" "_law_right" s_right f fd)(T:Bi2 mg)(dH:ZRoom K cRoom)(C_word:c_word P w K mg base)(C_same:c_same P w K mg base)(C_told:c_told P w K mg base):d8 P w K mg base CX0 10 f fd (pA s_right) (spD (fRightD K rcs cHissError cRoom dg)):=by
 refine F.okD sc_right (fun ds μ Kd h=>by unfold fRightD at h;split at h <;> first | rfl | exact h.elim) (fun cdv A outer s H E hr=>⟨_,(df (qS 3 sc_right.nd (qC C_word hr (a2 (dv 1) (dv 2))))
  (df (qS 4 sc_right.nd (d_if (qNe (dv 3) dt) (d_tup (a2 dt (d_lst false (a1 (dv 3))))) (d_tup (a2 dt d_bl))))
  (dr (dP (qC C_same hr (a2 (qC C_told hr (a2 (dv 0) (dv 2))) (dv 4))))))),fun ds μ Kd hm hl h=>?_⟩)
 unfold fRightD at h
 split at h
 ·rename_i k x y
  obtain⟨⟨m,em⟩,KA,j1,j2,ss,rs,d,S,e,ra,es,rfl,rfl,dX,few,kk⟩:=h
  have wf:=ra.wf _ S es
  refine⟨S,_,e,rfl,rfl,rfl,wf,dX,?_⟩
  have wn:=wordT_ne (o:=refW S e) fun i h=>by have:=refW_lt h;omega
  dsimp only
  refine dSet_of (d:=dueD (refW S e)) (μ':=μ) (fun K k=>?_) ?_
  ·refine dIfe_of (true != decide (wordT (refW S e)=("" : Str))) (.tst fun K k=>k) (fun q=>?_) (fun q=>?_)
   ·rw[wn]at q
    cases er:refW S e with
    | none=>rw[er]at q;cases q
    | some i=>rw[er]at k;exact⟨zs,zs,k⟩
   ·rw[wn]at q
    cases er:refW S e with
    | some i=>rw[er]at q;cases q
    | none=>rw[er]at k;exact⟨zs,k⟩
  refine⟨⟨m,em⟩,KA,j1,j2,ss,rs,d,S,e,ra,es,rfl,dX,few,?_⟩
  cases er:refW S e with
  | some i=>rw[er]at kk;exact⟨dueD (some i),rfl,rfl,sm_due _,.keep kk⟩
  | none=>rw[er]at kk;exact⟨dueD none,rfl,rfl,sm_due _,.keep kk⟩
 ·exact h.elim
set_option maxHeartbeats 8000000 in
theorem ok_law (F:Fun K "law" "law" s_law f fd)(T:Bi2 mg)(dH:ZRoom K cRoom)(KA:∀ j,j<16->KinB K rcs cHissError j)(C_box:c_box P w K mg base)(fc:c_take P w K mg base)(C_Room___init__:c_Room___init__ P w K mg base)(C_names:c_names P w K mg base)(C_bars:c_bars P w K mg base)(C_Room_deed:c_Room_deed P w K mg base)(C_done:c_done P w K mg base)(C_new:c_new P w K mg base)(C_right:c_right P w K mg base)(C_word:c_word P w K mg base)(C_lone:c_lone P w K mg base)(C_stands:c_stands P w K mg base):d8 P w K mg base CX0 13 f fd (pA s_law) (spLaw K):=by
 refine F.ok sc_law (fun vs H Q E h=>?_) (fun cdv A outer s H vs Q E hr h=>?_)
 ·obtain⟨a,ns,rfl,_⟩:=h;rfl
 ·obtain⟨a,ns,rfl,hs,hl,k⟩:=h
  refine⟨_,pss_cons (ps_set (i:=1) sc_law.nd rfl (by first | exact Or.inl rfl | exact Or.inr rfl) (pe_callC C_box (hr.mono (by first | decide | exact aa _ | omega)) rfl (dN (pvC 0) pa_nil))) (df (qS 2 sc_law.nd (dPl dn (qC fc hr (a2 (dv 1) dn))))
   (df (qS 3 sc_law.nd (d_makeXc C_Room___init__ hr.le rfl (a1 (dv 2))))
   (df (qS 4 sc_law.nd (d_tup (a3 (dv 2) d_dnewF d_dnewF)))
   (df (qS 5 sc_law.nd (qC C_names hr (a2 (dv 1) dn)))
   (df (s_for bw rfl (i_range1 rfl T.range (a1 (dPl dn (qC fc hr (a2 (dv 1) dn))))) (qT 6 sc_law.nd)
   (df (qS 7 sc_law.nd (d_tup (dm dt (dm (fu (dv 5) (dv 6)) (dm (qC C_bars hr (a2 (dv 1) (dv 2))) (dm (qC fc hr (a2 (dv 1) dn)) da_nil))))))
   (b_cut (s_if (PW.pt (t_and (qGt (dv 6) dn) (t_and (qGt (dv 2) dn) (t_and1 (qEq (qC fc hr (a2 (dv 1) dn)) dn)))))
   (dr (qS 7 sc_law.nd (d_tup (dm dt (dm (fu (dv 5) (dv 6)) (dm (fu (dv 5) (qC fc hr (a2 (dv 1) (dv 6)))) (dm (fu (dv 5) (qC fc hr (a2 (dv 1) (dv 6)))) (dm (dPl dn (qC fc hr (a2 (dv 1) (dMi (dv 2) dn)))) da_nil))))))))
   eO)
   (df (s_expr (d_methXc C_Room_deed dH.cl hr.le (dv 3) (a1 (dv 7))))
   (dr (qS 4 sc_law.nd (qC C_done hr (a2 (dv 4) (dv 7)))))))))
   (df (s_for bw rfl (i_range1 rfl T.range (a1 (dPl dn (qC fc hr (a2 (dv 1) dn))))) (qT 8 sc_law.nd)
   (df (qS 7 sc_law.nd (qC C_new hr (a3 (dv 1) (dv 4) (dv 5))))
   (df (s_if (t_not (d_testV (qC C_right hr (a3 (dv 3) (dv 4) (dv 7)))))
   (dr (dP d_bl))
   eO)
   (dr (s_if (qEq (qC C_word hr (a2 (dv 4) (dv 7))) dt)
   (dr (qS 4 sc_law.nd (qC C_done hr (a2 (dv 4) (dv 7)))))
   eO)))))
   (df (qS 9 sc_law.nd (qC C_lone hr (a1 (fu (dv 4) dn))))
   (df (qS 10 sc_law.nd (fu (dv 9) (qC fc hr (a2 (dv 1) (dLn T (dv 9))))))
   (df (s_for bw rfl (i_list (d_lst false (dm (d_tup (a2 dt (dv 10))) (dm (d_tup (a2 dt (dv 10))) (dm (d_tup (dm dt (dm (dv 10) (dm (d_op mulC so_mul dt (dv 2)) (dm dn da_nil))))) (dm (d_tup (dm dt (dm (dv 10) (dm (d_op mulC so_mul dt (dv 2)) (dm dn da_nil))))) da_nil)))))) (qT 7 sc_law.nd)
   (df (s_if (t_not (d_testV (qC C_right hr (a3 (dv 3) (dv 4) (dv 7)))))
   (dr (dP d_bl))
   eO)
   (dr (s_if (qEq (qC C_word hr (a2 (dv 4) (dv 7))) dt)
   (dr (qS 4 sc_law.nd (qC C_done hr (a2 (dv 4) (dv 7)))))
   eO))))
   (dr (dP (qC C_stands hr (a2 (dv 3) (dv 4)))))))))))))),?_⟩
  refine⟨ns,hs,fun b q H0 B0 hb0 hq0 S0=>?_⟩
  refine law_go (m:=9) B0 ?_ k
  refine⟨rfl,by decide,by decide,fun t t0 t1=>?_⟩
  obtain⟨n,hn⟩:∃ n:Int,n=1+t:=⟨_,rfl⟩
  have n1:1<=n:=by omega
  have n2:n<=6:=by omega
  dsimp only [dAdd]
  rw[<- hn]
  refine⟨trivial,⟨_,rfl⟩,by decide,rfl,?_⟩
  rw[ag (show 1<=n/\n<=40 by omega)]
  have ra0:eP cRoom dg ([MO.box]++[.ins cRoom roN [.mr 2,.mr 3,.int 0],.lst [sdD dg ⟨n,[],[]⟩],.lst []]) 1 2 3 [⟨n,[],[]⟩] [] 0:=eP.made (by decide) n1 (by omega)
  refine⟨rfl,zs,rfl,by decide,by decide,fun pool pl hp nd=>?_⟩
  have stp:∀(v6 v8 v9 va:Option D) (ss:List RS) (rs:List Dd) (S:RS) (e:Dd) (μ':MS) (N:DN),eP cRoom dg μ' 1 2 3 ss rs rs.length->ss[rs.length]?=some S->μ'[0]?=some .box->ddOk e->rs.length<800->(∀(ss2:List RS) (rs2:List Dd) (S2:RS) (eV:MS),rs2.length<=rs.length+1->eP cRoom dg eV 1 2 3 ss2 rs2 rs2.length->ss2[rs2.length]?=some S2->eV[0]?=some .box->(S2=S\/S2=doD S e)->N.nx [none,some (.mr 0),some (.int n),some (.mr 1),some (slD S2),some (strL pool),v6,some (ddD e),v8,v9,va] eV)->(dSeq (dIfS (dtNot (dTst (dCall (fRightD K rcs cHissError cRoom dg) (dCons (dVar 3) (dCons (dVar 4) (dCons (dVar 7) dNil)))))) (dRet (dC (D.bl false))) dNx) (dIfS (dTst (dOp (dEqS false) (dCall (fWordD wAll) (dCons (dVar 4) (dCons (dVar 7) dNil))) (dC (D.str (Str.ofString ""))))) (dSet 4 (dCall fDoneL (dCons (dVar 4) (dCons (dVar 7) dNil)))) dNx)) N [none,some (.mr 0),some (.int n),some (.mr 1),some (slD S),some (strL pool),v6,some (ddD e),v8,v9,va] μ':=by
   intro v6 v8 v9 va ss rs S e μ' N ra es hbox dX few nx
   have wf:=ra.wf _ S es
   have wn:=wordT_ne (o:=refW S e) fun i h=>by have:=refW_lt h;omega
   refine dIf_gen (fun b eV=>b=false/\((∃ i,refW S e=some i)/\eV=μ'\/refW S e=none/\eV=putR cRoom dg μ' 1 2 3 (ss.take (rs.length+1)++[doD S e]) (rs.take rs.length++[e]) (rs.length+1))) (fun K k=>?_) (fun eV h=>by cases h.1) (fun eV h=>?_)
   ·refine⟨⟨_,hbox⟩,KA,2,3,ss,rs,rs.length,S,e,ra,es,rfl,rfl,dX,by omega,?_⟩
    cases er:refW S e with
    | some i=>exact k _ _ ⟨rfl,.inl ⟨⟨i,er⟩,rfl⟩⟩
    | none=>exact k _ _ ⟨rfl,.inr ⟨er,rfl⟩⟩
   ·obtain⟨_,h⟩:=h
    refine dNx_of ?_
    dsimp only
    refine fG (false != decide (wordT (refW S e)=("" : Str))) (.tst fun K k=>⟨S,_,e,rfl,rfl,rfl,wf,dX,k⟩) (fun q=>?_) (fun q=>?_)
    ·rw[wn]at q
     rcases h with⟨⟨i,er⟩,_⟩ | ⟨er,rfl⟩
     ·rw[er]at q;cases q
     obtain⟨g1,g2,g3,g4⟩:=ra.grow es er (by omega)
     rw[g1,g2]
     have el:(rs++[e]).length=rs.length+1:=by rw[gxE];rfl
     refine⟨S,e,_,rfl,rfl,wf,by omega,er,?_⟩
     exact nx (ss++[doD S e]) (rs++[e]) (doD S e) _ (by omega) (by rw[el];exact g3) (by rw[el];exact g4) (by rw[putR_at (by decide) (by decide) (by decide)];exact hbox) (.inr rfl)
    ·rw[wn]at q
     rcases h with⟨_,rfl⟩ | ⟨er,_⟩
     ·exact dNx_of (nx ss rs S _ (by omega) ra es hbox (.inl rfl))
     ·rw[er]at q;cases q
  refine⟨rfl,by decide,by decide,fun v v0 v1=>⟨by show -(2:Int) ^ 62<=18+v;omega,by show 18+v<(2:Int) ^ 62;omega,?_⟩⟩
  refine forW_inv (fun ds ρ μ'=>∃(i j:Nat) (ss:List RS) (rs:List Dd) (S:RS) (v6 v7:Option D),ds=rngD i j/\i+j=(18+v).toNat/\rs.length=i/\eP cRoom dg μ' 1 2 3 ss rs rs.length/\ss[rs.length]?=some S/\S.n=n/\S.eX=[]/\S.kept.map (·.1)=pool.take i/\μ'[0]?=some .box/\ρ=[none,some (.mr 0),some (.int n),some (.mr 1),some (slD S),some (strL pool),v6,v7,none,none,none]) ⟨0,(18+v).toNat,[⟨n,[],[]⟩],[],⟨n,[],[]⟩,none,none,rfl,by omega,rfl,ra0,rfl,rfl,rfl,rfl,rfl,rfl⟩ ?_ ?_
  ·rintro d' ds' ρ μ' ⟨i,j,ss,rs,S,v6,v7,e1,hij,hrl,ra,es,sn,ssh,ek,hbox,rfl⟩
   refine⟨trivial,fun nx hnx=>?_⟩
   cases j with
   | zero=>cases e1
   | succ j =>
    rw[rngD_cons]at e1
    cases e1
    have wf:=ra.wf _ S es
    obtain⟨z,ez⟩:∃ z,pool[i]?=some z:=⟨_,gxA (by omega)⟩
    have nw:=new_at ek (by omega) nd hp ez
    have zl:z.length<=1000:=aw (named_len (hp.2.2 z (gxD ez))) (by decide)
    refine dh (atI_map ez) ⟨hbox,by omega,by omega,fun l hl ho=>⟨hbox,by decide,by decide,fun a a0 a1=>⟨zs,?_⟩⟩⟩
    refine⟨fun ρ2 eV=>∃ e:Dd,refW S e=none/\ddOk e/\(doD S e).n=n/\(doD S e).eX=[]/\(doD S e).kept.map (·.1)=pool.take (i+1)/\ρ2=[none,some (.mr 0),some (.int n),some (.mr 1),some (slD S),some (strL pool),some (.int i),some (ddD e),none,none,none]/\eV=μ',?_,?_⟩
    ·refine dIf_any (fun b=>b=true->0<(i:Int)/\1<n) (fun K k=>?_) (fun h=>?_) (fun _=>?_)
     ·refine dtAnd_gen (x:=decide (0<(i:Int))) (.tst fun K k=>k) (fun _=>k _ fun h=>nomatch h) fun q1=>?_
      refine dtAnd_gen (x:=decide (1<n)) (.tst fun K k=>k) (fun _=>k _ fun h=>nomatch h) fun q2=>?_
      exact⟨hbox,by decide,by decide,fun x _ _=>k _ fun _=>⟨bB q1,bB q2⟩⟩
     ·obtain⟨i0,n3⟩:=h rfl
      have kl:S.kept.length=i:=by rw[<- fC (·.1),ek,aM];omega
      have old:∀ x:Int,0<=x->x<(i:Int)->∃ p,p∈S.kept/\atI (pool.map D.str) x=some (D.str p.1):=fun x x0 x1=>by
       obtain⟨m,rfl⟩:∃ m:Nat,x=(m:Int):=⟨x.toNat,by omega⟩
       obtain⟨y,ey⟩:∃ y,pool[m]?=some y:=⟨_,gxA (by omega)⟩
       have hy:y∈S.kept.map (·.1):=by
        rw[ek]
        exact gxD (i:=m) (by rw[List.getElem?_take,ag (by omega)];exact ey)
       obtain⟨p,hp',rfl⟩:=List.mem_map.mp hy
       exact⟨p,hp',atI_map ey⟩
      refine dh (atI_map ez) ⟨hbox,by omega,by omega,fun x x0 x1=>?_⟩
      obtain⟨p,hp1,e1⟩:=old x x0 x1
      refine dh e1 ⟨hbox,by omega,by omega,fun y y0 y1=>?_⟩
      obtain⟨r,hr1,e2⟩:=old y y0 y1
      refine dh e2 ⟨hbox,by omega,by omega,fun c c0 c1=>⟨zs,?_⟩⟩
      have ho:1+c∈openP S:=List.mem_filter.mpr ⟨List.mem_map.mpr ⟨c.toNat,List.mem_range.mpr (by omega),by omega⟩,by rw[ssh];rfl⟩
      exact⟨.join z p.1 r.1 (1+c),ref_join nw hp1 hr1 ho,zl,sn,ssh,keys_at ek nw ez,rfl,rfl⟩
     ·exact dNx_of ⟨.put z (txt l) a,ref_put nw (by omega) ho a0 (by omega),⟨zl,by rw[txt_len];omega⟩,sn,ssh,keys_at ek nw ez,rfl,rfl⟩
    ·rintro ρ2 eV ⟨e,href,dX,d1,d2,d3,rfl,rfl⟩
     refine⟨room_recv ra rfl,trivial,⟨_,hbox⟩,2,3,ss,rs,rs.length,S,e,ra,es,rfl,dX,by omega,?_⟩
     rw[href]
     obtain⟨g1,g2,g3,g4⟩:=ra.grow es href (by omega)
     rw[g1,g2]
     have el:(rs++[e]).length=rs.length+1:=by rw[gxE];rfl
     refine⟨S,e,_,rfl,rfl,wf,by omega,href,?_⟩
     exact hnx _ _ ⟨i+1,j,ss++[doD S e],rs++[e],doD S e,_,_,by rw[cP];rfl,by omega,by rw[el,hrl],by rw[el];exact g3,by rw[el];exact g4,d1,d2,d3,by rw[putR_at (by decide) (by decide) (by decide)];exact hbox,rfl⟩
  ·rintro ρ μ' ⟨i,j,ss,rs,S,v6,v7,e1,hij,hrl,ra,es,sn,ssh,ek,hbox,rfl⟩
   cases j with
   | succ j=>rw[rngD_cons]at e1;cases e1
   | zero =>
    have kl:S.kept≠[]:=fun e=>by
     rw[e]at ek
     have:=bD List.length ek
     rw[aM]at this
     simp only[List.map_nil,cN]at this
     omega
    have i2:i<=20:=by omega
    refine⟨trivial,hbox,by decide,by decide,fun w w0 w1=>⟨by show -(2:Int) ^ 62<=1+w;omega,by show 1+w<(2:Int) ^ 62;omega,?_⟩⟩
    refine forW_inv (fun ds ρ μ'=>∃(i j:Nat) (ss:List RS) (rs:List Dd) (S:RS) (v6 v7 v8:Option D),ds=rngD i j/\i+j=(1+w).toNat/\rs.length<=i+20/\eP cRoom dg μ' 1 2 3 ss rs rs.length/\ss[rs.length]?=some S/\S.kept≠[]/\μ'[0]?=some .box/\ρ=[none,some (.mr 0),some (.int n),some (.mr 1),some (slD S),some (strL pool),v6,v7,v8,none,none]) ⟨0,(1+w).toNat,ss,rs,S,_,_,_,rfl,by omega,by omega,ra,es,kl,hbox,rfl⟩ ?_ ?_
    ·rintro d' ds' ρ μ' ⟨i,j,ss,rs,S,v6,v7,v8,e1,hij,hrl,ra,es,kl,hbox,rfl⟩
     refine⟨trivial,fun nx hnx=>?_⟩
     cases j with
     | zero=>cases e1
     | succ j =>
      rw[rngD_cons]at e1
      cases e1
      refine⟨hbox,S,_,pool,rfl,rfl,ra.wf _ S es,hp,fun e dX hn=>?_⟩
      refine stp _ _ _ _ ss rs S e _ _ ra es hbox dX (by omega) fun ss2 rs2 S2 eV l2 ra2 es2 hb2 h2=>?_
      refine hnx _ _ ⟨i+1,j,ss2,rs2,S2,_,_,_,by rw[cP];rfl,by omega,by omega,ra2,es2,?_,hb2,rfl⟩
      rcases h2 with rfl | rfl
      ·exact kl
      ·exact isn_kept hn kl
    ·rintro ρ μ' ⟨i,j,ss,rs,S,v6,v7,v8,e1,hij,hrl,ra,es,kl,hbox,rfl⟩
     cases j with
     | succ j=>rw[rngD_cons]at e1;cases e1
     | zero =>
      have wf:=ra.wf _ S es
      have l0:=lone_ne wf.kp kl
      have ll:(loneR S.kept).length<=20:=by
       unfold loneR
       refine aw (bX _ _) ?_
       rw[fC];exact wf.few
      refine⟨trivial,S,_,rfl,wf,hbox,by rw[fC];omega,by rw[fC];omega,fun x x0 x1=>?_⟩
      obtain⟨z,hz,e⟩:=atI_mapx (g:=D.str) (xs:=loneR S.kept) x0 (by rw[fC]at x1;exact x1)
      refine dh e ?_
      have zl:z.length<=1000:=by
       unfold loneR at hz
       obtain⟨p,hp',rfl⟩:=List.mem_map.mp (List.mem_filter.mp hz).1
       exact aw (named_len (wf.nms p hp')) (by decide)
      obtain⟨o,ho⟩:∃ o:Str,o=⟨(List.replicate n.toNat 111).toArray⟩:=⟨_,rfl⟩
      have ol:o.length<=1000:=by rw[ho];show(List.replicate n.toNat 111).toArray.size<=1000;rw[ar,aI];omega
      obtain⟨S0,hS0⟩:∃ S0,S0=S:=⟨_,rfl⟩
      refine⟨zs,zs,111,rfl,by omega,by omega,zs,111,rfl,by omega,by omega,zs,zs,dh rfl ?_⟩
      rw[<- ho]
      refine forW_inv (fun ds ρ μ'=>∃(el:List Dd) (ss:List RS) (rs:List Dd) (S:RS) (v7:Option D),ds=el.map ddD/\(∀ e∈el,ddOk e)/\el.length+rs.length<=100/\eP cRoom dg μ' 1 2 3 ss rs rs.length/\ss[rs.length]?=some S/\μ'[0]?=some .box/\ρ=[none,some (.mr 0),some (.int n),some (.mr 1),some (slD S),some (strL pool),v6,v7,v8,some (strL (loneR S0.kept)),some (.str z)]) ⟨[.drop z,.drop z,.put z o 0,.put z o 0],ss,rs,S,_,rfl,fun e he=>?_,by show 4+rs.length<=100;omega,ra,es,hbox,by rw[hS0];rfl⟩ ?_ ?_
      ·simp only[bF,bp,cI]at he
       rcases he with rfl | rfl | rfl | rfl
       ·trivial
       ·trivial
       ·exact⟨zl,ol⟩
       ·exact⟨zl,ol⟩
      ·rintro d' ds' ρ μ' ⟨el,ss,rs,S,v7,e1,dX,hrl,ra,es,hbox,rfl⟩
       refine⟨trivial,fun nx hnx=>?_⟩
       cases el with
       | nil=>cases e1
       | cons e el =>
        cases e1
        refine stp _ _ _ _ ss rs S e _ _ ra es hbox (dX e av) (by rw[aG]at hrl;omega) fun ss2 rs2 S2 eV l2 ra2 es2 hb2 h2=>?_
        exact hnx _ _ ⟨el,ss2,rs2,S2,_,rfl,fun x hx=>dX x (gxI _ hx),by rw[aG]at hrl;omega,ra2,es2,hb2,rfl⟩
      ·rintro ρ μ' ⟨el,ss,rs,S,v7,e1,dX,hrl,ra,es,hbox,rfl⟩
       exact⟨trivial,⟨_,hbox⟩,2,3,ss,rs,rs.length,S,ra,es,rfl,rfl⟩
end
def kM0:Value:=(.str "hissroom.errors" 194)
def kM1:Value:=(.str "law_hissroom_k34_a_room_is_full" 1017)
def kM2:Value:=(.str "hissroom.bars" 497)
def kM3:Value:=(.str "hissroom.stand" 521)
def kM4:Value:=(.str "hissroom.room" 764)
def kk (P:Params):PySem.W.Frag:=List.flatten [[ko 3 (mainO P "law_hissroom_k34_a_room_is_full" 1017 [me "_wall" 193 (.ref 21),me "HissError" 213 (.ref 31),me "BadBars" 229 (.ref 44),me "BadMake" 245 (.ref 56),me "BadNumber" 261 (.ref 68),me "BadText" 277 (.ref 80),me "BadName" 293 (.ref 92),me "BadAge" 309 (.ref 104),me "BadBar" 325 (.ref 116),me "BadPlace" 341 (.ref 128),me "Taken" 357 (.ref 140),me "Full" 373 (.ref 152),me "NoTake" 389 (.ref 164),me "Shut" 405 (.ref 176),me "Joined" 421 (.ref 188),me "Needed" 437 (.ref 200),me "NothingLeft" 453 (.ref 212),me "BadSize" 469 (.ref 224),me "NoWay" 496 (.ref 243),me "is_bars" 506 (.ref 252),me "joined" 520 (.ref 259),me "MOST_LETTERS" 524 (.int 8 523),me "MOST_TAKES" 526 (.int 20 525),me "OLDEST" 528 (.int 20 527),me "Stand" 620 (.ref 316),me "put" 633 (.ref 327),me "join" 646 (.ref 334),me "found" 663 (.ref 341),me "aged" 676 (.ref 348),me "drop" 682 (.ref 353),me "free" 692 (.ref 360),me "shut" 702 (.ref 367),me "DEEDS" 717 (.ref 368),me "stand_behind" 726 (.ref 375),me "check_new" 732 (.ref 380),me "check_age" 739 (.ref 387),me "check_place" 747 (.ref 394),me "with_key" 757 (.ref 401),me "without_key" 763 (.ref 406),me "LONGEST" 767 (.int 40 766),me "Room" 1016 (.ref 612),me "_law_box" 1025 (.ref 623),me "_law_take" 1037 (.ref 630),me "_law_bars" 1043 (.ref 635),me "_law_origin" 1057 (.ref 642),me "_law_ages" 1067 (.ref 649),me "_law_heard" 1073 (.ref 654),me "_law_takes" 1079 (.ref 659),me "_law_open" 1085 (.ref 664),me "_law_done" 1100 (.ref 671),me "_law_lone" 1106 (.ref 676),me "_law_easy" 1112 (.ref 681),me "_law_any_name" 1122 (.ref 688),me "_law_bent_deed" 1134 (.ref 695),me "_law_wild" 1145 (.ref 702),me "_law_names" 1151 (.ref 707),me "_law_named" 1157 (.ref 712),me "_law_new_word" 1165 (.ref 719),me "_law_place_word" 1173 (.ref 726),me "_law_put_word" 1179 (.ref 731),me "_law_join_word" 1188 (.ref 738),me "_law_take_word" 1198 (.ref 745),me "_law_word" 1206 (.ref 752),me "_law_kinds" 1212 (.ref 757),me "_law_told" 1222 (.ref 764),me "_law_same" 1228 (.ref 769),me "_law_stands" 1243 (.ref 776),me "_law_new" 1258 (.ref 783),me "_law_right" 1269 (.ref 790),me "law" 1286 (.ref 797)])],[ko 316 ⟨.type "type",none,(.cls ⟨"Stand",[.type "object"],[.ref 316,.type "object"],315, "Stand",true,[],[],false,none,false⟩),#[none,none,(some (.str "Stand" 529)),(some (.str "Stand" 537)),(some (.builtin "object.__new__")),(some (.bool true))]⟩,ko 315 ⟨.type "dict",none,(.dict #[enP P "__module__" 536 (.str "hissroom.stand" 521),enP P "__firstlineno__" 540 (.int 56 539),enP P "__init__" 551 (.ref 273),enP P "check_there" 559 (.ref 280),enP P "parts" 567 (.ref 287),enP P "source" 581 (.ref 294),enP P "takes_by_names" 594 (.ref 301),enP P "take" 602 (.ref 308),enP P "shelf" 608 (.ref 313),enP P "__static_attributes__" 613 (.ref 314),enP P "__dict__" 615 (.ref 317),enP P "__weakref__" 617 (.ref 318),enP P "__doc__" 618 (.none)] 4),#[]⟩],[ko 612 ⟨.type "type",none,(.cls ⟨"Room",[.type "object"],[.ref 612,.type "object"],611, "Room",true,[],[],false,none,false⟩),#[none,none,(some (.str "Room" 768)),(some (.str "Room" 776)),(some (.builtin "object.__new__")),(some (.bool true))]⟩,ko 611 ⟨.type "dict",none,(.dict #[enP P "__module__" 775 (.str "hissroom.room" 764),enP P "__firstlineno__" 779 (.int 173 778),enP P "__init__" 787 (.ref 420),enP P "now" 794 (.ref 427),enP P "put" 804 (.ref 434),enP P "join" 815 (.ref 441),enP P "found" 825 (.ref 448),enP P "aged" 834 (.ref 455),enP P "drop" 842 (.ref 462),enP P "free" 850 (.ref 469),enP P "shut" 858 (.ref 476),enP P "deed" 867 (.ref 483),enP P "undo" 874 (.ref 490),enP P "redo" 881 (.ref 497),enP P "deeds" 888 (.ref 504),enP P "ahead" 895 (.ref 511),enP P "size" 902 (.ref 518),enP P "names" 909 (.ref 525),enP P "bars" 917 (.ref 532),enP P "age" 925 (.ref 539),enP P "parts" 933 (.ref 546),enP P "source" 942 (.ref 553),enP P "cuts" 952 (.ref 560),enP P "takes" 962 (.ref 567),enP P "answer" 969 (.ref 574),enP P "least" 976 (.ref 581),enP P "few" 983 (.ref 588),enP P "after" 991 (.ref 595),enP P "coming" 998 (.ref 602),enP P "twin" 1005 (.ref 609),enP P "__static_attributes__" 1009 (.ref 610),enP P "__dict__" 1011 (.ref 613),enP P "__weakref__" 1013 (.ref 614),enP P "__doc__" 1014 (.none)] 4),#[]⟩],kx P 164 163 31 "NoTake" (some (.ref 155)) 374 382 kM0 381 27 162,kx P 116 115 31 "BadBar" (some (.ref 107)) 310 318 kM0 317 19 114,kx P 92 91 31 "BadName" (some (.ref 83)) 278 286 kM0 285 15 90,kx P 140 139 31 "Taken" (some (.ref 131)) 342 350 kM0 349 23 138,kx P 152 151 31 "Full" (some (.ref 143)) 358 366 kM0 365 25 150,kx P 104 103 31 "BadAge" (some (.ref 95)) 294 302 kM0 301 17 102,kx P 128 127 31 "BadPlace" (some (.ref 119)) 326 334 kM0 333 21 126,kx P 44 43 31 "BadBars" (some (.ref 35)) 214 222 kM0 221 7 42,kx P 176 175 31 "Shut" (some (.ref 167)) 390 398 kM0 397 29 174,kx P 188 187 31 "Joined" (some (.ref 179)) 406 414 kM0 413 31 186,kx P 200 199 31 "Needed" (some (.ref 191)) 422 430 kM0 429 33 198,kx P 224 223 31 "BadSize" (some (.ref 215)) 454 462 kM0 461 37 222,kx P 56 55 31 "BadMake" (some (.ref 47)) 230 238 kM0 237 9 54,kx P 68 67 31 "BadNumber" (some (.ref 59)) 246 254 kM0 253 11 66,kx P 80 79 31 "BadText" (some (.ref 71)) 262 270 kM0 269 13 78,kx P 212 211 31 "NothingLeft" (some (.ref 203)) 438 446 kM0 445 35 210,[ko 243 ⟨.type "type",none,(.cls ⟨"NoWay",[.ref 31],[.ref 243,.ref 31,.type "ValueError",.type "Exception",.type "BaseException",.type "object"],242, "NoWay",true,[],[],false,none,false⟩),#[(some (.ref 227)),none,(some (.str "NoWay" 470)),(some (.str "NoWay" 478)),(some (.builtin "ValueError.__new__")),(some (.bool true))]⟩,ko 242 ⟨.type "dict",none,(.dict #[enP P "__module__" 477 (.str "hissroom.errors" 194),enP P "__firstlineno__" 481 (.int 39 480),enP P "__init__" 490 (.ref 240),enP P "__static_attributes__" 493 (.ref 241),enP P "__doc__" 494 (.none)] 2),#[]⟩],[ko 31 ⟨.type "type",none,(.cls ⟨"HissError",[.type "ValueError"],[.ref 31,.type "ValueError",.type "Exception",.type "BaseException",.type "object"],30, "HissError",true,[],[.ref 44,.ref 56,.ref 68,.ref 80,.ref 92,.ref 104,.ref 116,.ref 128,.ref 140,.ref 152,.ref 164,.ref 176,.ref 188,.ref 200,.ref 212,.ref 224,.ref 243],false,none,false⟩),#[(some (.ref 22)),none,(some (.str "HissError" 196)),(some (.str "HissError" 204)),(some (.builtin "ValueError.__new__")),(some (.bool true))]⟩,ko 30 ⟨.type "dict",none,(.dict #[enP P "__module__" 203 (.str "hissroom.errors" 194),enP P "__firstlineno__" 207 (.int 5 206),enP P "__static_attributes__" 208 (.ref 29),enP P "__weakref__" 210 (.ref 32),enP P "__doc__" 211 (.none)] 3),#[]⟩],kf1 623 622 "_law_box" s_box kM1 1019 271 1 617 618 (.ref 619) (.ref 620) 621 1023,kf1 630 629 "_law_take" s_take kM1 1026 273 2 624 625 (.ref 626) (.ref 627) 628 1035,kf1 635 634 "_law_bars" s_bars kM1 1038 289 2 631 632 .none .none 633 1041,kf1 769 768 "_law_same" s_same kM1 1223 473 2 765 766 .none .none 767 1226,kf1 252 251 "is_bars" s_is_bars kM2 499 45 2 246 247 (.ref 248) (.ref 249) 250 504,kf1 259 258 "joined" s_joined kM2 507 47 3 253 254 (.ref 255) (.ref 256) 257 518,kf1 401 400 "with_key" s_with_key kM3 748 165 3 395 396 (.ref 397) (.ref 398) 399 755,kf1 406 405 "without_key" s_without_key kM3 758 169 2 402 403 .none .none 404 761,kf 273 272 "__init__" "Stand.__init__" fF kM3 541 58 5 267 268 (.ref 269) (.ref 270) 271 549,kf 280 279 "check_there" "Stand.check_there" eW kM3 552 64 2 274 275 (.ref 276) (.ref 277) 278 557,kf 287 286 "parts" "Stand.parts" s_Stand_parts kM3 560 68 2 281 282 (.ref 283) (.ref 284) 285 565,kf 294 293 "source" "Stand.source" s_Stand_source kM3 568 72 3 288 289 (.ref 290) (.ref 291) 292 579,kf 301 300 "takes_by_names" "Stand.takes_by_names" eG kM3 582 84 1 295 296 (.ref 297) (.ref 298) 299 592,kf 308 307 "take" "Stand.take" s_Stand_take kM3 595 94 2 302 303 (.ref 304) (.ref 305) 306 600,kf 313 312 "shelf" "Stand.shelf" s_Stand_shelf kM3 603 98 1 309 310 .none .none 311 606,kf1 380 379 "check_new" s_check_new kM3 727 152 2 376 377 .none .none 378 730,kf1 387 386 "check_age" s_check_age kM3 733 159 1 381 382 (.ref 383) (.ref 384) 385 737,kf1 394 393 "check_place" s_check_place kM3 740 162 2 388 389 (.ref 390) (.ref 391) 392 745,kf1 327 326 "put" s_put kM3 621 101 2 321 322 (.ref 323) (.ref 324) 325 631,kf1 334 333 "join" s_join kM3 634 109 2 328 329 (.ref 330) (.ref 331) 332 644,kf1 341 340 "found" s_found kM3 647 118 2 335 336 (.ref 337) (.ref 338) 339 661,kf1 348 347 "aged" s_aged kM3 664 126 2 342 343 (.ref 344) (.ref 345) 346 674,kf1 353 352 "drop" s_drop kM3 677 133 2 349 350 .none .none 351 680,kf1 360 359 "free" s_free kM3 683 140 2 354 355 (.ref 356) (.ref 357) 358 690,kf1 367 366 "shut" s_shut kM3 693 144 2 361 362 (.ref 363) (.ref 364) 365 700,kf1 375 374 "stand_behind" s_stand_behind kM3 718 149 2 369 370 (.ref 371) (.ref 372) 373 724,kf 420 419 "__init__" "Room.__init__" s_Room___init__ kM4 780 175 2 414 415 (.ref 416) (.ref 417) 418 785,kf 427 426 "now" "Room.now" s_Room_now kM4 788 182 1 421 422 (.ref 423) (.ref 424) 425 792,kf 483 482 "deed" "Room.deed" s_Room_deed kM4 859 206 2 477 478 (.ref 479) (.ref 480) 481 865,kf 518 517 "size" "Room.size" s_Room_size kM4 896 227 1 512 513 (.ref 514) (.ref 515) 516 900,kf 525 524 "names" "Room.names" s_Room_names kM4 903 230 1 519 520 (.ref 521) (.ref 522) 523 907,kf 532 531 "bars" "Room.bars" s_Room_bars kM4 910 233 2 526 527 (.ref 528) (.ref 529) 530 915,kf 539 538 "age" "Room.age" s_Room_age kM4 918 236 2 533 534 (.ref 535) (.ref 536) 537 923,kf 546 545 "parts" "Room.parts" s_Room_parts kM4 926 239 2 540 541 (.ref 542) (.ref 543) 544 931,kf 553 552 "source" "Room.source" s_Room_source kM4 934 242 3 547 548 (.ref 549) (.ref 550) 551 940,kf 560 559 "cuts" "Room.cuts" s_Room_cuts kM4 943 245 1 554 555 (.ref 556) (.ref 557) 558 950,kf 567 566 "takes" "Room.takes" s_Room_takes kM4 953 249 1 561 562 (.ref 563) (.ref 564) 565 960,kf1 707 706 "_law_names" s_names kM1 1146 394 2 703 704 .none .none 705 1149,kf1 642 641 "_law_origin" s_origin kM1 1044 302 3 636 637 (.ref 638) (.ref 639) 640 1055,kf1 649 648 "_law_ages" s_ages kM1 1058 309 1 643 644 (.ref 645) (.ref 646) 647 1065,kf1 654 653 "_law_heard" s_heard kM1 1068 315 2 650 651 .none .none 652 1071,kf1 659 658 "_law_takes" s_takes kM1 1074 318 1 655 656 .none .none 657 1077,kf1 664 663 "_law_open" s_open kM1 1080 321 1 660 661 .none .none 662 1083,kf1 671 670 "_law_done" s_done kM1 1086 323 2 665 666 (.ref 667) (.ref 668) 669 1098,kf1 676 675 "_law_lone" s_lone kM1 1101 342 1 672 673 .none .none 674 1104,kf1 776 775 "_law_stands" s_stands kM1 1229 483 2 770 771 (.ref 772) (.ref 773) 774 1241,kf1 712 711 "_law_named" s_named kM1 1152 408 1 708 709 .none .none 710 1155,kf1 719 718 "_law_new_word" s_new_word kM1 1158 410 2 713 714 (.ref 715) (.ref 716) 717 1163,kf1 726 725 "_law_place_word" s_place_word kM1 1166 416 2 720 721 (.ref 722) (.ref 723) 724 1171,kf1 731 730 "_law_put_word" s_put_word kM1 1174 418 2 727 728 .none .none 729 1177,kf1 738 737 "_law_join_word" s_join_word kM1 1180 425 2 732 733 (.ref 734) (.ref 735) 736 1186,kf1 745 744 "_law_take_word" s_take_word kM1 1189 434 2 739 740 (.ref 741) (.ref 742) 743 1196,kf1 752 751 "_law_word" s_word kM1 1199 450 2 746 747 (.ref 748) (.ref 749) 750 1204,kf1 757 756 "_law_kinds" s_kinds kM1 1207 458 1 753 754 .none .none 755 1210,kf1 764 763 "_law_told" s_told kM1 1213 467 2 758 759 (.ref 760) (.ref 761) 762 1220,kf1 783 782 "_law_new" s_new kM1 1244 502 3 777 778 (.ref 779) (.ref 780) 781 1256,kf1 790 789 "_law_right" s_right kM1 1259 512 3 784 785 (.ref 786) (.ref 787) 788 1267,kf1 797 796 "law" s_law kM1 1270 516 1 791 792 (.ref 793) (.ref 794) 795 1284,[ko 368 ⟨.type "dict",none,(.dict #[enP P "put" 703 (.ref 327),enP P "join" 704 (.ref 334),enP P "found" 705 (.ref 341),enP P "aged" 706 (.ref 348),enP P "drop" 707 (.ref 353),enP P "free" 708 (.ref 360),enP P "shut" 709 (.ref 367)] 7),#[]⟩]]
def hk:PySem.W.Hook:=PySem.W.kHook kk [3,316,315,612,611,164,163,116,115,92,91,140,139,152,151,104,103,128,127,44,43,176,175,188,187,200,199,224,223,56,55,68,67,80,79,212,211,243,242,31,30,623,622,630,629,635,634,769,768,252,251,259,258,401,400,406,405,273,272,280,279,287,286,294,293,301,300,308,307,313,312,380,379,387,386,394,393,327,326,334,333,341,340,348,347,353,352,360,359,367,366,375,374,420,419,427,426,483,482,518,517,525,524,532,531,539,538,546,545,553,552,560,559,567,566,707,706,642,641,649,648,654,653,659,658,664,663,671,670,676,675,776,775,712,711,719,718,726,725,731,730,738,737,745,744,752,751,757,756,764,763,783,782,790,789,797,796,368] (fun _=>by kernel_rfl)
def lw:PySem.W.OpenLaw:=PySem.Challenge.rw_hissroom_k34_a_room_is_full
def qq:Program:={ lw.prog with main:={ lw.prog.main with body:=[s_law]}}
def ll:List Str:=[sS "_wall",sS "HissError",sS "BadBars",sS "BadMake",sS "BadNumber",sS "BadText",sS "BadName",sS "BadAge",sS "BadBar",sS "BadPlace",sS "Taken",sS "Full",sS "NoTake",sS "Shut",sS "Joined",sS "Needed",sS "NothingLeft",sS "BadSize",sS "NoWay",sS "is_bars",sS "joined",sS "MOST_LETTERS",sS "MOST_TAKES",sS "OLDEST",sS "Stand",sS "put",sS "join",sS "found",sS "aged",sS "drop",sS "free",sS "shut",sS "DEEDS",sS "stand_behind",sS "check_new",sS "check_age",sS "check_place",sS "with_key",sS "without_key",sS "LONGEST",sS "Room",sS "_law_box",sS "_law_take",sS "_law_bars",sS "_law_origin",sS "_law_ages",sS "_law_heard",sS "_law_takes",sS "_law_open",sS "_law_done",sS "_law_lone",sS "_law_easy",sS "_law_any_name",sS "_law_bent_deed",sS "_law_wild",sS "_law_names",sS "_law_named",sS "_law_new_word",sS "_law_place_word",sS "_law_put_word",sS "_law_join_word",sS "_law_take_word",sS "_law_word",sS "_law_kinds",sS "_law_told",sS "_law_same",sS "_law_stands",sS "_law_new",sS "_law_right"]
def xt (s:Shared):Bool:=PySem.W.xlAt qq [] s&&PySem.W.recOk (PySem.W.RowW.records lw.row.toRowW) s
theorem left0:LeftT lw.prog qq ll xt hk.obs hk.val 6963 "special-get-raises" false:=fun w os=>by kernel_rfl
theorem left1:LeftT lw.prog qq ll xt hk.obs hk.val 6963 "special-get-raises" true:=fun w os=>by kernel_rfl
theorem left:PySem.W.LeftO lw.prog qq ll xt hk.obs hk.val 6963:=left_ofR (by kernel_rfl) rfl (fun s=>by kernel_rfl) rfl left0.at left1.at
theorem said:lw.wellSaid=true:=(congrFun PySem.W.Fast.te9446332074065402090 lw).trans (by kernel_rfl)
def dd:DefRec:=⟨"law",defArgs s_law,defBody s_law,dk s_law,defPos s_law⟩
theorem holds (F:PySem.W.WalkO qq ll (PySem.W.XL qq []) hk.says lw.row.toRowW dd [] (fun f vs=>PySem.call f vs)):lw.Holds:=PySem.W.holds_law said fun k1=>PySem.W.holds_open (q:=qq) (loose:=ll) (Xt:=xt) (XP:=PySem.W.XL qq []) (d:=dd) (kwd:=[]) left hk.of hk.keeps (fun s e=>PySem.W.xl_of s (Bool.and_eq_true_iff.mp e).1) PySem.W.XL.keeps (by kernel_rfl) (by kernel_rfl) rfl (fun s e=>PySem.W.recFacts_of (Bool.and_eq_true_iff.mp e).2) rfl k1 (by kernel_rfl) ⟨rfl,rfl,rfl,rfl,rfl,by kernel_rfl⟩ ⟨[.list []],by kernel_rfl,by kernel_rfl⟩ F
abbrev lx (f:Program->World->PySem.W.Frag->(Str->Option Value)->Heap->Prop)(w:World)(mg:Str->Option Value)(base:Heap):Prop:=f lw.prog w (kk w.params) mg base
def fq (w:World)(x q:Str)(s:Stmt)(f:Addr)(pm:Value)(c:Addr)(l:(kk w.params).lookup f=some (fnQ x q s pm c):=by kernel_rfl)(c':PySem.W.codeIn (kk w.params) (.ref c) q=true:=by kernel_rfl)(k:PySem.W.keepIn (kk w.params) (.ref f)=true:=by kernel_rfl):=fun_of l c' k
def fq1 (w:World)(x:Str)(s:Stmt)(f:Addr)(pm:Value)(c:Addr)(l:(kk w.params).lookup f=some (fnQ x x s pm c):=by kernel_rfl)(c':PySem.W.codeIn (kk w.params) (.ref c) x=true:=by kernel_rfl)(k:PySem.W.keepIn (kk w.params) (.ref f)=true:=by kernel_rfl):=fun_of l c' k
set_option maxHeartbeats 40000000 in
theorem fin:PySem.W.WalkO qq ll (PySem.W.XL qq []) hk.says lw.row.toRowW dd [] (fun f vs=>PySem.call f vs):=by
 refine L2.walk_of (l:=lw) (d:=dd) (n:=63) (k:=13) (x := "_law_script") (K:=kk) (CX:=fun _=>CX0) (sp:=fun w=>spLaw (kk w.params)) rfl (by decide) rfl ⟨rfl,by decide,by decide⟩ (fun w h Y=>PySem.W.kIn_of Y) (fun w mg fa h X G hfa=>?_) (fun _ _ a ns hl _ hS=>⟨a,ns,rfl,hS,hl,fun _=>rfl⟩) fun _ _ _ _ _ z=>z
 have e:=hfa.symm.trans (aS X G (show PySem.W.nsIn (kk w.params) mainGlobals "law"=sr 797 by kernel_rfl))
 cases e
 have T:Bi2 mg:=⟨aL X G (by kernel_rfl),aL X G (by kernel_rfl),aL X G (by kernel_rfl),aL X G (by kernel_rfl),aL X G (by kernel_rfl),aL X G (by kernel_rfl),aL X G (by kernel_rfl),aL X G (by kernel_rfl),aL X G (by kernel_rfl),aL X G (by kernel_rfl),aL X G (by kernel_rfl),aL X G (by kernel_rfl),aL X G (by kernel_rfl),aL X G (by kernel_rfl),aL X G (by kernel_rfl),aL X G (by kernel_rfl),aL X G (by kernel_rfl)⟩
 have TV:mg "ValueError"=none:=aL X G (by kernel_rfl)
 have de:ZStand (kk w.params) dg:=⟨⟨by kernel_rfl,by kernel_rfl,by kernel_rfl,by kernel_rfl⟩,by kernel_rfl,by kernel_rfl,by kernel_rfl,by kernel_rfl⟩
 have dH:ZRoom (kk w.params) cRoom:=⟨⟨by kernel_rfl,by kernel_rfl,by kernel_rfl,by kernel_rfl⟩,by kernel_rfl,by kernel_rfl,by kernel_rfl⟩
 have F0:=fq1 w "_law_box" s_box 623 kM1 622
 have F1:=fq1 w "_law_take" s_take 630 kM1 629
 have F2:=fq1 w "_law_bars" s_bars 635 kM1 634
 have F3:=fq1 w "_law_same" s_same 769 kM1 768
 have F4:=fq1 w "is_bars" s_is_bars 252 kM2 251
 have F5:=fq1 w "joined" s_joined 259 kM2 258
 have F6:=fq1 w "with_key" s_with_key 401 kM3 400
 have F7:=fq1 w "without_key" s_without_key 406 kM3 405
 have F8:=fq w "__init__" "Stand.__init__" fF 273 kM3 272
 have F9:=fq w "check_there" "Stand.check_there" eW 280 kM3 279
 have F10:=fq w "parts" "Stand.parts" s_Stand_parts 287 kM3 286
 have F11:=fq w "source" "Stand.source" s_Stand_source 294 kM3 293
 have F12:=fq w "takes_by_names" "Stand.takes_by_names" eG 301 kM3 300
 have F13:=fq w "take" "Stand.take" s_Stand_take 308 kM3 307
 have F14:=fq w "shelf" "Stand.shelf" s_Stand_shelf 313 kM3 312
 have F15:=fq1 w "check_new" s_check_new 380 kM3 379
 have F16:=fq1 w "check_age" s_check_age 387 kM3 386
 have F17:=fq1 w "check_place" s_check_place 394 kM3 393
 have F18:=fq1 w "put" s_put 327 kM3 326
 have F19:=fq1 w "join" s_join 334 kM3 333
 have F20:=fq1 w "found" s_found 341 kM3 340
 have F21:=fq1 w "aged" s_aged 348 kM3 347
 have F22:=fq1 w "drop" s_drop 353 kM3 352
 have F23:=fq1 w "free" s_free 360 kM3 359
 have F24:=fq1 w "shut" s_shut 367 kM3 366
 have F25:=fq1 w "stand_behind" s_stand_behind 375 kM3 374
 have F26:=fq w "__init__" "Room.__init__" s_Room___init__ 420 kM4 419
 have F27:=fq w "now" "Room.now" s_Room_now 427 kM4 426
 have F28:=fq w "deed" "Room.deed" s_Room_deed 483 kM4 482
 have F29:=fq w "size" "Room.size" s_Room_size 518 kM4 517
 have F30:=fq w "names" "Room.names" s_Room_names 525 kM4 524
 have F31:=fq w "bars" "Room.bars" s_Room_bars 532 kM4 531
 have F32:=fq w "age" "Room.age" s_Room_age 539 kM4 538
 have F33:=fq w "parts" "Room.parts" s_Room_parts 546 kM4 545
 have F34:=fq w "source" "Room.source" s_Room_source 553 kM4 552
 have F35:=fq w "cuts" "Room.cuts" s_Room_cuts 560 kM4 559
 have F36:=fq w "takes" "Room.takes" s_Room_takes 567 kM4 566
 have F37:=fq1 w "_law_names" s_names 707 kM1 706
 have F38:=fq1 w "_law_origin" s_origin 642 kM1 641
 have F39:=fq1 w "_law_ages" s_ages 649 kM1 648
 have F40:=fq1 w "_law_heard" s_heard 654 kM1 653
 have F41:=fq1 w "_law_takes" s_takes 659 kM1 658
 have F42:=fq1 w "_law_open" s_open 664 kM1 663
 have F43:=fq1 w "_law_done" s_done 671 kM1 670
 have F44:=fq1 w "_law_lone" s_lone 676 kM1 675
 have F45:=fq1 w "_law_stands" s_stands 776 kM1 775
 have F46:=fq1 w "_law_named" s_named 712 kM1 711
 have F47:=fq1 w "_law_new_word" s_new_word 719 kM1 718
 have F48:=fq1 w "_law_place_word" s_place_word 726 kM1 725
 have F49:=fq1 w "_law_put_word" s_put_word 731 kM1 730
 have F50:=fq1 w "_law_join_word" s_join_word 738 kM1 737
 have F51:=fq1 w "_law_take_word" s_take_word 745 kM1 744
 have F52:=fq1 w "_law_word" s_word 752 kM1 751
 have F53:=fq1 w "_law_kinds" s_kinds 757 kM1 756
 have F54:=fq1 w "_law_told" s_told 764 kM1 763
 have F55:=fq1 w "_law_new" s_new 783 kM1 782
 have F56:=fq1 w "_law_right" s_right 790 kM1 789
 have F57:=fq1 w "law" s_law 797 kM1 796
 refine⟨PySem.W.fnOf "law" "law" (defArgs s_law) (defBody s_law) (dk s_law) .none .none .none kM1 none (.ref 796) .none,fun s v=>.of_eq rfl,fun base X0 G0=>?_⟩
 have O_NoTake:=own_of (x := "NoTake") (C:=cNoTake) (h:=base) X0 G0 (by kernel_rfl) (by kernel_rfl)
 have O_BadBar:=own_of (x := "BadBar") (C:=cBadBar) (h:=base) X0 G0 (by kernel_rfl) (by kernel_rfl)
 have O_BadName:=own_of (x := "BadName") (C:=cBadName) (h:=base) X0 G0 (by kernel_rfl) (by kernel_rfl)
 have O_Taken:=own_of (x := "Taken") (C:=cTaken) (h:=base) X0 G0 (by kernel_rfl) (by kernel_rfl)
 have O_Full:=own_of (x := "Full") (C:=cFull) (h:=base) X0 G0 (by kernel_rfl) (by kernel_rfl)
 have O_BadAge:=own_of (x := "BadAge") (C:=cBadAge) (h:=base) X0 G0 (by kernel_rfl) (by kernel_rfl)
 have O_BadPlace:=own_of (x := "BadPlace") (C:=cBadPlace) (h:=base) X0 G0 (by kernel_rfl) (by kernel_rfl)
 have O_BadBars:=own_of (x := "BadBars") (C:=cBadBars) (h:=base) X0 G0 (by kernel_rfl) (by kernel_rfl)
 have O_Shut:=own_of (x := "Shut") (C:=cShut) (h:=base) X0 G0 (by kernel_rfl) (by kernel_rfl)
 have O_Joined:=own_of (x := "Joined") (C:=cJoined) (h:=base) X0 G0 (by kernel_rfl) (by kernel_rfl)
 have O_Needed:=own_of (x := "Needed") (C:=cNeeded) (h:=base) X0 G0 (by kernel_rfl) (by kernel_rfl)
 have O_BadSize:=own_of (x := "BadSize") (C:=cBadSize) (h:=base) X0 G0 (by kernel_rfl) (by kernel_rfl)
 have O_BadMake:=own_of (x := "BadMake") (C:=cBadMake) (h:=base) X0 G0 (by kernel_rfl) (by kernel_rfl)
 have O_BadNumber:=own_of (x := "BadNumber") (C:=cBadNumber) (h:=base) X0 G0 (by kernel_rfl) (by kernel_rfl)
 have O_BadText:=own_of (x := "BadText") (C:=cBadText) (h:=base) X0 G0 (by kernel_rfl) (by kernel_rfl)
 have O_NothingLeft:=own_of (x := "NothingLeft") (C:=cNothingLeft) (h:=base) X0 G0 (by kernel_rfl) (by kernel_rfl)
 have O_NoWay:OwnB "NoWay" cNoWay mg:=⟨aS X G (by kernel_rfl)⟩
 have O_HissError:=own_of (x := "HissError") (C:=cHissError) (h:=base) X0 G0 (by kernel_rfl) (by kernel_rfl)
 have G_LONGEST:GInt mg "LONGEST" 40:=⟨766,aS X G (by kernel_rfl)⟩
 have G_MOST_LETTERS:GInt mg "MOST_LETTERS" 8:=⟨523,aS X G (by kernel_rfl)⟩
 have G_MOST_TAKES:GInt mg "MOST_TAKES" 20:=⟨525,aS X G (by kernel_rfl)⟩
 have G_OLDEST:GInt mg "OLDEST" 20:=⟨527,aS X G (by kernel_rfl)⟩
 have T_DEEDS:Tab lw.prog w (kk w.params) mg "DEEDS" [("put",a_put),("join",a_join),("found",a_found),("aged",a_aged),("drop",a_drop),("free",a_free),("shut",a_shut)]:=tab_of (x := "DEEDS") (d:=368) (n:=7) [("put",703,327),("join",704,334),("found",705,341),("aged",706,348),("drop",707,353),("free",708,360),("shut",709,367)] X G (by kernel_rfl) (by kernel_rfl) (by decide)
 have M_put:mg "put"=some (.ref a_put):=aS X G (by kernel_rfl)
 have M_join:mg "join"=some (.ref a_join):=aS X G (by kernel_rfl)
 have M_found:mg "found"=some (.ref a_found):=aS X G (by kernel_rfl)
 have M_aged:mg "aged"=some (.ref a_aged):=aS X G (by kernel_rfl)
 have M_drop:mg "drop"=some (.ref a_drop):=aS X G (by kernel_rfl)
 have M_free:mg "free"=some (.ref a_free):=aS X G (by kernel_rfl)
 have M_shut:mg "shut"=some (.ref a_shut):=aS X G (by kernel_rfl)
 have KA:∀ j,j<16->KinB (kk w.params) rcs cHissError j:=k16 kB kB kB kB kB kB kB kB kB kB kB kB kB kB kB kB
 have C0:lx c_box w mg base:=cal_of X G F0 (ok_box F0 T ) (bd1 F0)
 have C1:lx c_take w mg base:=cal_of X G F1 (ok_take F1 T ) (bd2 F1)
 have C2:lx c_bars w mg base:=cal_of X G F2 (ok_bars F2 T  C1) (bd2 F2)
 have C3:lx c_same w mg base:=cal_of X G F3 ((ok_same F3 T  (aS X G (by kernel_rfl)) F3.kp (bd2 F3)  5).imp fun vs H Q E h=>same_imp h) (bd2 F3)
 have C4:lx c_is_bars w mg base:=cal_of X G F4 (ok_is_bars F4 T ) (bd2 F4)
 have C5:lx c_joined w mg base:=cal_of X G F5 (ok_joined F5 T ) (bd3 F5)
 have C6:lx c_with_key w mg base:=cal_of X G F6 (ok_with_key F6 T ) (bd3 F6)
 have C7:lx c_without_key w mg base:=cal_of X G F7 (ok_without_key F7 T ) (bd2 F7)
 have C8:lx eR w mg base:=cali_of X G F8 (ok_Stand___init__ F8 T de) (bd5 F8)
 have C9:lx c_Stand_check_there w mg base:=calmx_of F9 (ok_Stand_check_there F9 T de O_NoTake) (bd2 F9)
 have C10:lx c_Stand_parts w mg base:=calmx_of F10 (ok_Stand_parts F10 T de C9) (bd2 F10)
 have C11:lx c_Stand_source w mg base:=calmx_of F11 (ok_Stand_source F11 T de O_BadBar C10) (bd3 F11)
 have C12:lx c_Stand_takes_by_names w mg base:=calm_of F12 (ok_Stand_takes_by_names F12 T de C5) (bd1 F12)
 have C13:lx c_Stand_take w mg base:=calmx_of F13 (ok_Stand_take F13 T de C9 C12) (bd2 F13)
 have C14:lx c_Stand_shelf w mg base:=calm_of F14 (ok_Stand_shelf F14 T de C12) (bd1 F14)
 have C15:lx c_check_new w mg base:=calx_of X G F15 (ok_check_new F15 T de O_BadName O_Taken O_Full G_MOST_TAKES G_MOST_LETTERS) (bd2 F15)
 have C16:lx c_check_age w mg base:=calx_of X G F16 (ok_check_age F16 T O_BadAge G_OLDEST) (bd1 F16)
 have C17:lx c_check_place w mg base:=calx_of X G F17 (ok_check_place F17 T de O_BadPlace) (bd2 F17)
 have C18:lx c_put w mg base:=calx_of X G F18 (ok_put F18 T de O_BadBars C15 C4 C16 C6 C8) (bd2 F18)
 have C19:lx c_join w mg base:=calx_of X G F19 (ok_join F19 T de O_Shut C15 C9 C17 C6 C8) (bd2 F19)
 have C20:lx c_found w mg base:=calx_of X G F20 (ok_found F20 T de O_BadBars C11 C6 C8) (bd2 F20)
 have C21:lx c_aged w mg base:=calx_of X G F21 (ok_aged F21 T de O_Joined C10 C16 C6 C8) (bd2 F21)
 have C22:lx c_drop w mg base:=calx_of X G F22 (ok_drop F22 T de O_Needed C9 C7 C8) (bd2 F22)
 have C23:lx c_free w mg base:=calx_of X G F23 (ok_free F23 T de C17 C7 C8) (bd2 F23)
 have C24:lx c_shut w mg base:=calx_of X G F24 (ok_shut F24 T de C17 C6 C8) (bd2 F24)
 have C25:lx c_stand_behind w mg base:=calx_of X G F25 (ok_stand_behind F25 T T_DEEDS M_put M_join M_found M_aged M_drop M_free M_shut C18 C19 C20 C21 C22 C23 C24) (bd2 F25)
 have C26:lx c_Room___init__ w mg base:=calix_of X G F26 (ok_Room___init__ F26 T dH de O_BadSize G_LONGEST C8) (bd2 F26)
 have C27:lx c_Room_now w mg base:=calm_of F27 (ok_Room_now F27 T dH) (bd1 F27)
 have C28:lx c_Room_deed w mg base:=calmx_of F28 (ok_Room_deed F28 T dH C27 C25) (bd2 F28)
 have C29:lx c_Room_size w mg base:=calm_of F29 (ok_Room_size F29 T dH de C27) (bd1 F29)
 have C30:lx c_Room_names w mg base:=calm_of F30 (ok_Room_names F30 T dH de C27) (bd1 F30)
 have C31:lx c_Room_bars w mg base:=calmx_of F31 (ok_Room_bars F31 T dH de C27 C13) (bd2 F31)
 have C32:lx c_Room_age w mg base:=calmx_of F32 (ok_Room_age F32 T dH de C27 C13) (bd2 F32)
 have C33:lx c_Room_parts w mg base:=calmx_of F33 (ok_Room_parts F33 T dH de C27 C10) (bd2 F33)
 have C34:lx c_Room_source w mg base:=calmx_of F34 (ok_Room_source F34 T dH de C27 C11) (bd3 F34)
 have C35:lx c_Room_cuts w mg base:=calm_of F35 (ok_Room_cuts F35 T dH de C27 C14) (bd1 F35)
 have C36:lx c_Room_takes w mg base:=calm_of F36 (ok_Room_takes F36 T dH de C27 C14) (bd1 F36)
 have C37:lx c_names w mg base:=cal_of X G F37 (ok_names F37 T  C1) (bd2 F37)
 have C38:lx c_origin w mg base:=cal_of X G F38 (ok_origin F38 T ) (bd3 F38)
 have C39:lx c_ages w mg base:=cal_of X G F39 (ok_ages F39 T ) (bd1 F39)
 have C40:lx c_heard w mg base:=cal_of X G F40 (ok_heard F40 T  C38) (bd2 F40)
 have C41:lx c_takes w mg base:=cal_of X G F41 (ok_takes F41 T  C39 C40) (bd1 F41)
 have C42:lx c_open w mg base:=cal_of X G F42 (ok_open F42 T ) (bd1 F42)
 have C43:lx c_done w mg base:=cal_of X G F43 (ok_done F43 T  C38) (bd2 F43)
 have C44:lx c_lone w mg base:=cal_of X G F44 (ok_lone F44 T ) (bd1 F44)
 have C45:lx c_stands w mg base:=cal_of X G F45 (ok_stands F45 T dH C3 C29 C30 C41 C36 C35 C42 C33 C31 C32 C34 C38) (bd2 F45)
 have C46:lx c_named w mg base:=cal_of X G F46 (ok_named F46 T ) (bd1 F46)
 have C47:lx c_new_word w mg base:=cal_of X G F47 (ok_new_word F47 T  C46) (bd2 F47)
 have C48:lx c_place_word w mg base:=cal_of X G F48 (ok_place_word F48 T ) (bd2 F48)
 have C49:lx c_put_word w mg base:=cal_of X G F49 (ok_put_word F49 T  C47) (bd2 F49)
 have C50:lx c_join_word w mg base:=cal_of X G F50 (ok_join_word F50 T  C47 C48) (bd2 F50)
 have C51:lx c_take_word w mg base:=cal_of X G F51 (ok_take_word F51 T ) (bd2 F51)
 have C52:lx c_word w mg base:=cal_of X G F52 (ok_word F52 T  C49 C50 C48 C51) (bd2 F52)
 have C53:lx c_kinds w mg base:=calh_of X G F53 (ok_kinds F53 T TV O_BadBars O_BadMake O_BadNumber O_BadText O_BadName O_BadAge O_BadBar O_BadPlace O_BadSize O_Taken O_Full O_NoTake O_Shut O_Joined O_Needed O_NothingLeft O_NoWay) (bd1 F53)
 have C54:lx c_told w mg base:=cal_of X G F54 (ok_told F54 T dH O_HissError C28 C53) (bd2 F54)
 have C55:lx c_new w mg base:=cal_of X G F55 (ok_new F55 T  C1 C2) (bd3 F55)
 have C56:lx c_right w mg base:=cal_of X G F56 (ok_right F56 T dH C52 C3 C54) (bd3 F56)
 exact ok_law F57 T dH KA C0 C1 C26 C37 C2 C28 C43 C55 C56 C52 C44 C45
end Pf
theorem PySem.Challenge.cw_hissroom_k34_a_room_is_full_holds : PySem.Challenge.rw_hissroom_k34_a_room_is_full.Holds :=
 Pf.holds Pf.fin