import PyProof.Rows.All
import Wide.All
import OpenK.AllK
import Wide.FinOn
import Lean
import PyProof.EqAt
import PyProof.EqKinds
import PyProof.TupleCall
import PyProof.NeKinds
import PyProof.ListRange
import PyProof.MaxThree
import PyProof.DictWalks
import PyProof.Rows.SortWalk
import PyProof.Rows.TopTwo
import PyProof.RangeIter
import PyProof.ExcArgsOwn
import PyProof.ExcBaseAll.ValueError
import PyProof.ExcAttrAll.ValueError
import KE.KIsAll
import OpenK.KOwn
import PyProof.StrBlock
import PyProof.DictItems
import PyProof.DictItemsLoops
import PyProof.DictValues
import KE.KRevSl
import KE.KxWritten
import KE.KIntText
import KE.KWords
import PyProof.Rows.StrStrike
import PyProof.Rows.RegReprOcc
import PyProof.MeetsStr2
import PyProof.Rows.StrSplitAre
import PySem.Challenge.RW_hissroom_k16_texts_of_no_make
set_option Elab.async false
set_option linter.all false
set_option maxRecDepth 100000
local macro_rules | `(tactic| omega) => `(tactic| lia)
set_option genSizeOf false
set_option maxHeartbeats 4000000
theorem gxA {α:Type _}{l:List α}{i:Nat}(h:i<l.length):l[i]?=some l[i]:=List.getElem?_eq_getElem h
theorem gxB {α:Type _}{l:List α}{i:Nat}{a:α}(h:l[i]?=some a):∃ h:i<l.length,l[i]=a:=List.getElem?_eq_some_iff.mp h
theorem gxC {α β:Type _}{as:List α}(f:α->β):(as.map f).length=as.length:=List.length_map f
theorem gxD {α:Type _}{l:List α}{i:Nat}{a:α}(e:l[i]?=some a):a∈l:=List.mem_of_getElem? e
theorem gxE {α:Type _}{as bs:List α}:(as++bs).length=as.length+bs.length:=List.length_append
theorem gxF {α:Type _}{l₁ l₂:List α}{i:Nat}(h:i<l₁.length):(l₁++l₂)[i]?=l₁[i]?:=List.getElem?_append_left h
theorem gxG {α:Type _}{l₁ l₂:List α}{i:Nat}(h:l₁.length<=i):(l₁++l₂)[i]?=l₂[i - l₁.length]?:=List.getElem?_append_right h
theorem gxI {α:Type _}{a:α}(b:α){l:List α}(h:a∈l):a∈b::l:=List.mem_cons_of_mem b h
theorem gxJ {n:Nat}:(List.range n).length=n:=List.length_range
theorem gxK (n:Nat):(n:Int).toNat=n:=Int.toNat_natCast n
theorem gxL {h:PySem.Heap}{a:PySem.Addr}{u:PySem.Obj}(v:PySem.Obj)(e:h.get? a=some u):(h.push v).get? a=some u:=PySem.Heap.get?_push_of_some v e
theorem gxM {α β:Type}{M:PySem.Model}{A:PySem.Around}{E:PySem.Value->PySem.Shared->Prop}{s:PySem.Shared}{m:PySem.Sem α}{f:α->PySem.Sem β}{Q:β->PySem.Shared->Prop}(h:PySem.wpAny M A m (fun a s=>PySem.wpAny M A (f a) Q E s) E s):PySem.wpAny M A (m >>= f) Q E s:=PySem.wpAny_bind h
theorem gxN {h:PySem.Heap}{a:PySem.Addr}{o:PySem.Obj}(e:h.get? a=some o):a<h.objs.size:=PySem.Heap.lt_size e
theorem gxH {α β:Type _}{f:α->β}{l:List α}{i:Nat}:(l.map f)[i]?=(l[i]?).map f:=List.getElem?_map ..
abbrev aa:=@Nat.le_refl
abbrev ae:=@List.mem_cons_self
abbrev af:=@List.size_toArray
abbrev ag:=@Bool.false_ne_true
abbrev ah:=@List.length_cons
abbrev ai:=@if_neg
abbrev aj:=@PySem.Heap.get?_push_size
abbrev ak:=@decide_eq_false
abbrev ao:=@PySem.wpAny_pure
abbrev aq:=@PyProof.Rows.boot_isinstance
abbrev ar:=@List.length_reverse
abbrev au:=@decide_eq_true
abbrev av:=@PySem.F.plainAttrs_list
abbrev aw:=@Nat.lt_of_lt_of_le
abbrev az:=@List.map_append
abbrev aD:=@Nat.le_trans
abbrev aE:=@if_pos
abbrev aF:=@Nat.ne_of_lt
abbrev aH:=@List.reverse_cons
abbrev aI:=@List.getElem?_set_self
abbrev aJ:=@List.append_assoc
abbrev aK:=@PySem.W.mg_none_of
abbrev aL:=@PySem.F.excBase_ValueError
abbrev aM:=@List.getElem?_set_ne
abbrev aN:=@List.mem_append_right
abbrev aO:=@List.flatMap_cons
abbrev aP:=@List.mem_of_mem_take
abbrev aQ:=@Bool.and_eq_true
abbrev aR:=@List.append_nil
abbrev aS:=@PySem.F.type_list_append
abbrev aT:=@PySem.F.slot_list_append
abbrev aU:=@PySem.wpAny_field
abbrev aV:=@Option.some.inj
abbrev aW:=@List.length_set
abbrev aX:=@decide_eq_true_eq
abbrev aY:=@PySem.Heap.get?_update_other
abbrev aZ:=@PyProof.Rows.boot_int
abbrev a6:=@Nat.zero_le
abbrev a8:=@decide_eq_false_iff_not
abbrev a9:=@List.length_take
abbrev ba:=@PySem.W.kia_one
abbrev bb:=@List.not_mem_nil
abbrev bc:=@List.getElem?_take_of_lt
abbrev bf:=@List.length_singleton
abbrev bg:=@congrArg
abbrev bh:=@PySem.wpAny_holding
abbrev bj:=@PySem.W.mg_of
abbrev bo:=@Nat.lt_irrefl
abbrev bp:=@List.take_left
abbrev bq:=@PySem.Heap.size_push
abbrev br:=@Nat.sub_self
abbrev bt:=@Nat.le_add_right
abbrev bu:=@List.mem_append_left
abbrev bw:=@List.mem_cons
abbrev bx:=@PySem.wpAny_truthy_bool
abbrev bz:=@PySem.wpAny_mono
abbrev bA:=@Nat.lt_of_le_of_lt
abbrev bB:=@List.cons_append
abbrev bC:=@Nat.ne_of_gt
abbrev bD:=@Bool.or_eq_false_iff
abbrev bE:=@PySem.wpAny_newObj_type
abbrev bF:=@PySem.wpAny_callSpecial?_slot
abbrev bG:=@PyProof.Rows.boot_tuple
abbrev bH:=@Nat.lt_succ_of_lt
abbrev bI:=@List.idxOf_cons
abbrev bJ:=@Array.toList_append
abbrev bL:=@PyProof.Rows.callWith_type1
abbrev bM:=@Ne.symm
abbrev bN:=@PySem.Calls.callWith_builtin
abbrev bO:=@PySem.wpAny_seqItems
abbrev bP:=@List.getD_eq_getElem?_getD
abbrev bQ:=@PySem.F.slot_tuple_iterator_next
abbrev bR:=@PySem.F.type_list_pop
abbrev bS:=@PySem.F.slot_list_pop
abbrev bT:=@PyProof.Rows.boot_str
abbrev bU:=@List.length_replicate
abbrev bV:=@PySem.Heap.get?_update_self
abbrev bW:=@PySem.wpAny_passesOwn
abbrev bX:=@List.dropLast_concat
abbrev bY:=@PySem.mem_of_lookup
abbrev bZ:=@PySem.wpAny_call_entry
abbrev b7:=@List.all_eq_true
abbrev b8:=@PySem.wpAny_setField_rec
abbrev b9:=@PySem.wpAny_Call_Name_kw
abbrev cb:=@PySem.F.plainAttrs_str
abbrev cf:=@PyProof.Rows.boot_list
abbrev cj:=@PyProof.Rows.boot_bool
abbrev ck:=@List.take_of_length_le
abbrev cm:=@PySem.Calls.spliced_cons
abbrev cn:=@of_decide_eq_true
abbrev cp:=@List.foldl_append
abbrev cq:=@PySem.wpAny_setField
abbrev cu:=@PySem.typeIs_str
abbrev cw:=@PySem.Str.cps_append
abbrev cx:=@PySem.Calls.evalArgs_plain
abbrev cy:=@Bool.false_bne
abbrev cz:=@PySem.wpAny_execs_cons
abbrev cA:=@List.length_drop
abbrev cC:=@List.filter_cons
abbrev cD:=@List.drop_eq_getElem_cons
abbrev cE:=@List.getElem_of_mem
abbrev cF:=@List.filterMap_cons
abbrev cG:=@or_false
abbrev cI:=@List.all_cons
abbrev cJ:=@PySem.wpAny_execs_nil
abbrev cK:=@beq_false_of_ne
abbrev cL:=@List.length_nil
abbrev cM:=@Bool.eq_iff_iff
abbrev cN:=@PySem.call_meets
abbrev cO:=@PySem.Obj.data_mapFields
abbrev cP:=@List.map_replicate
abbrev cQ:=@PySem.Calls.Constant_str
abbrev cU:=@Nat.toDigits_of_lt_base
abbrev cV:=@Nat.add_sub_cancel_left
abbrev cW:=@Int.eq_ofNat_of_zero_le
abbrev cX:=@PySem.wpAny_Call_method_late
abbrev cY:=@PySem.W.cellsFrom_some
abbrev cZ:=@PySem.F.entry_str_split
abbrev c4:=@PySem.Calls.spliced_nil
abbrev c6:=@Bool.not_eq_true'
abbrev c7:=@PySem.wpAny_isTrue_Compare1
abbrev c8:=@PySem.Obj.isFreed_of_fields
abbrev c9:=@List.set_append_right
abbrev da:=@List.getElem_mem
abbrev dc:=@PySem.F.slot_str_split
abbrev de:=@PySem.wpAny_attempt
abbrev df:=@PySem.PassesOwn.never
namespace L2
open PySem PySem.Spec PyProof.Rows
abbrev Key:=Sum Int Str
def keyIs:Key->Value->Bool
 | .inl k,v=>Value.isInt k v
 | .inr x,v=>Value.isStrOf x v
def keyH (w:World):Key->Int
 | .inl k=>hashInt k
 | .inr x=>hashStr w x
theorem keyIs_shape:∀ {k:Key} {v:Value},keyIs k v=true->(∃ i t,k=Sum.inl i/\v=Value.int i t)\/(∃ x t,k=Sum.inr x/\v=Value.str x t)
 | .inl i,v,h=>by
  obtain⟨t,e⟩:=Value.isInt_shape (k:=i) (v:=v) h
  exact .inl ⟨i,t,rfl,e⟩
 | .inr x,v,h=>by
  obtain⟨t,e⟩:=Value.isStrOf_shape (x:=x) (v:=v) h
  exact .inr ⟨x,t,rfl,e⟩
theorem key_ll (a b:Int):decide ((Sum.inl a:Key)=Sum.inl b)=(a==b):=by
 by_cases e:a=b
 ·subst e;simp
 ·have h:¬ (Sum.inl a:Key)=Sum.inl b:=fun q=>e (Sum.inl.inj q)
  rw[ak h]
  exact(beq_eq_false_iff_ne.mpr e).symm
theorem key_rr (a b:Str):decide ((Sum.inr a:Key)=Sum.inr b)=decide (a=b):=by
 by_cases e:a=b
 ·subst e;simp
 ·have h:¬ (Sum.inr a:Key)=Sum.inr b:=fun q=>e (Sum.inr.inj q)
  rw[ak h,ak e]
theorem key_lr (a:Int)(b:Str):decide ((Sum.inl a:Key)=Sum.inr b)=false:=ak (fun q=>nomatch q)
theorem key_rl (a:Str)(b:Int):decide ((Sum.inr a:Key)=Sum.inl b)=false:=ak (fun q=>nomatch q)
def mixKind (prog:Program)(w:World):PySem.KeyKind prog w Key where
 is:=keyIs
 hash:=keyH w
 inj:=fun v a b ha hb=>by
  rcases keyIs_shape ha with⟨i,t,rfl,rfl⟩ | ⟨x,t,rfl,rfl⟩
  ·rcases keyIs_shape hb with⟨j,u,rfl,e⟩ | ⟨y,u,rfl,e⟩
   ·injection e with e1 _;rw[e1]
   ·exact nomatch e
  ·rcases keyIs_shape hb with⟨j,u,rfl,e⟩ | ⟨y,u,rfl,e⟩
   ·exact nomatch e
   ·injection e with e1 _;rw[e1]
 byValue:=fun k v h=>by
  rcases keyIs_shape h with⟨i,t,rfl,rfl⟩ | ⟨x,t,rfl,rfl⟩<;> rfl
 pyHash:=fun hv h=>by
  rcases keyIs_shape hv with⟨i,t,rfl,rfl⟩ | ⟨x,t,rfl,rfl⟩
  ·exact wpAny_pyHash_int h
  ·exact wpAny_pyHash_str h
 eqBool:=fun hu hv h=>by
  rcases keyIs_shape hu with⟨i,t,rfl,rfl⟩ | ⟨x,t,rfl,rfl⟩
  ·rcases keyIs_shape hv with⟨j,u,rfl,rfl⟩ | ⟨y,u,rfl,rfl⟩
   ·rw[key_ll]at h;exact wpAny_eqBool_int h
   ·rw[key_lr]at h;exact SeqAt.EqAt.int_str i t y u _ _ _ _ h
  ·rcases keyIs_shape hv with⟨j,u,rfl,rfl⟩ | ⟨y,u,rfl,rfl⟩
   ·rw[key_rl]at h;exact SeqAt.EqAt.str_int x t j u _ _ _ _ h
   ·rw[key_rr]at h;exact wpAny_eqBool_str h
 «strs»:=fun k x t v h=>by
  rcases keyIs_shape h with⟨i,u,rfl,e⟩ | ⟨y,u,rfl,e⟩
  ·exact nomatch e
  ·injection e with e1 _
   subst e1
   cases v <;> rfl
inductive V where
 | non | bl (b:Bool) | int (i:Int) | str (x:Str) | byt (b:Array UInt8) | flt (b:UInt64) | ref (a:Addr) | ty (n:String)
 deriving DecidableEq
def RelV:V->Value->Prop
 | .non,u=>u=Value.none
 | .bl b,u=>u=Value.bool b
 | .int i,u=>∃ t,u=Value.int i t
 | .str x,u=>∃ t,u=Value.str x t
 | .byt b,u=>∃ t,u=Value.bytes b t
 | .flt b,u=>∃ t,u=Value.float b t
 | .ref a,u=>u=Value.ref a
 | .ty n,u=>u=Value.type n
abbrev Vals:List V->List Value->Prop:=Paired RelV
theorem Vals.length {xs:List V}{us:List Value}(r:Vals xs us):xs.length=us.length:=Paired.length r
theorem Vals.get:∀ {xs:List V} {us:List Value} {i:Nat} {x:V},Vals xs us->xs[i]?=some x->∃ u,us[i]?=some u/\RelV x u
 | _,_,_,_,.nil,e=>by simp at e
 | _,_,0,_,.cons r _,e=>by simp at e;subst e;exact⟨_,rfl,r⟩
 | _,_,i+1,x,.cons _ t,e=>by
  obtain⟨u,h1,h2⟩:=Vals.get (i:=i) (x:=x) t (by simpa using e)
  exact⟨u,by simpa using h1,h2⟩
theorem Vals.set {x:V}{u:Value}(r:RelV x u):∀ {xs:List V} {us:List Value} (i:Nat),Vals xs us->Vals (xs.set i x) (us.set i u)
 | _,_,_,.nil=>.nil
 | _,_,0,.cons _ t=>.cons r t
 | _,_,i+1,.cons q t=>.cons q (Vals.set r i t)
theorem Vals.append {xs ys:List V}{us ws:List Value}(h:Vals xs us)(s:Vals ys ws):Vals (xs++ys) (us++ws):=by
 induction h with
 | nil=>exact s
 | cons r t ih=>exact .cons r ih
theorem Vals.take:∀ {xs:List V} {us:List Value} (n:Nat),Vals xs us->Vals (xs.take n) (us.take n)
 | _,_,0,_=>.nil
 | _,_,_+1,.nil=>.nil
 | _,_,n+1,.cons r t=>.cons r (Vals.take n t)
theorem Vals.drop:∀ {xs:List V} {us:List Value} (n:Nat),Vals xs us->Vals (xs.drop n) (us.drop n)
 | _,_,0,r=>r
 | _,_,_+1,.nil=>.nil
 | _,_,n+1,.cons _ t=>Vals.drop n t
theorem Vals.none_of:∀ {xs:List V} {us:List Value} {i:Nat},Vals xs us->xs[i]?=none->us[i]?=none:=fun {xs us i} r e=>by
 have h1:=r.length
 have h2:xs.length<=i:=List.getElem?_eq_none_iff.mp e
 exact List.getElem?_eq_none_iff.mpr (by omega)
def RelO:Option V->Option Value->Prop
 | some v,some u=>RelV v u
 | none,none=>True
 | _,_=>False
def KV {κ:Type}:List (κ×V)->List (κ×Value)->Prop:=Paired fun(p:κ×V) (q:κ×Value)=>p.1=q.1/\RelV p.2 q.2
def kV:Key->V
 | .inl i=>.int i
 | .inr x=>.str x
inductive HO where
 | lst (xs:List V)
 | tup (xs:List V)
 | dK (kvs:List (Key×V)) | dT (kvs:List (List Key×V))
 | set (S:Int->Bool) (n:Nat)
 | ins (C dx:Addr) (fs:List (Str×V))
 | own (x:Addr)
 | xd (fs:List (Str×V))
 | met (f x:Addr)
 | rng (lo hi:Int)
 | frz (o:Obj) (u:HO)
 | tbl (ps:Array Value)
 | ext (φ:Heap->Prop)
abbrev Hp:=Addr->Option HO
def upd (H:Hp)(a:Addr)(o:HO):Hp:=fun b=>if b=a then some o else H b
theorem upd_same {H:Hp}{a:Addr}{o:HO}:upd H a o a=some o:=by unfold upd;rw[aE rfl]
theorem upd_ne {H:Hp}{a b:Addr}{o:HO}(h:b≠a):upd H a o b=H b:=by unfold upd;rw[ai h]
theorem ne_of_none {H:Hp}{a b:Addr}{o:HO}(h:H a=some o)(h':H b=none):a≠b:=by
 intro e;subst e;rw[h]at h';cases h'
section
variable (P:Program)(w:World)
def ObjOk (H:Hp)(h:Heap)(a:Addr):HO->Prop
 | .lst xs=>xs.length<=sizeLine/\∃(its:List Value) (n:Nat),Vals xs its/\h.get? a=some { cls:=.type "list",data:=.seq its.toArray n}
 | .tup xs=>xs.length<=sizeLine/\∃ its:List Value,Vals xs its/\IsTup h a its.toArray
 | .dK kvs=>kvs.length<=sizeLine/\(a==sysModules)=false/\∃ vs,KV kvs vs/\h.DictOf (mixKind P w) a vs
 | .dT kvs=>kvs.length<=sizeLine/\(a==sysModules)=false/\∃ xs:List (List Key×Addr×Value),
  Paired (fun(p:List Key×V) (q:List Key×Addr×Value)=>p.1=q.1/\H q.2.1=some (.tup (p.1.map kV))/\RelV p.2 q.2.2) kvs xs /\
  ∃ o es ep,h.get? a=some o/\o.ExactDict/\o.data=.dict es ep/\es.toList=xs.map (entryOfKey (tupleKind (mixKind P w)))/\(xs.map (·.1)).Nodup
 | .set S n=>h.SetOf (intKind P w) a S n
 | .ins C dx fs=>H dx=some (.own a)/\fs.length<=1000/\dx≠a/\h.get? a=some (PySem.W.instObj C dx) /\
  ∃ mA,h.Ns1 dx mA/\(∀ f,RelO (fs.lookup f) (mA f))/\PySem.Within mA (fs.map (·.1))
 | .own _=>∃ o,h.get? a=some o
 | .xd fs=>∃ mA,h.Ns1 a mA/\∀ f,RelO (fs.lookup f) (mA f)
 | .rng lo hi=>∃ t u v,h.get? a=some { cls:=.type "range",data:=.fields #[.int lo t,.int hi u,.int 1 v]}
 | .frz o u=>h.get? a=some o/\ObjOk H h a u
 | .tbl ps=>h.get? a=some { cls:=.none,data:=.fields ps}
 | .met f x=>h.get? a=some (PySem.W.methodObj (.ref f) (.ref x))
 | .ext φ=>φ h/\(∃ o,h.get? a=some o)/\∀ h1 h2:Heap,φ h1->(∀ o,h1.get? a=some o->h2.get? a=some o)->φ h2
def HOk (H:Hp)(h:Heap):Prop:=∀ a o,H a=some o->ObjOk P w H h a o
end
section
variable {P:Program}{w:World}{H H':Hp}{h h':Heap}{a:Addr}{o:HO}
theorem ObjOk.lt (x:ObjOk P w H h a o):a<h.objs.size:=by
 cases o with
 | lst xs=>obtain⟨_,_,_,_,e⟩:=x;exact gxN e
 | tup xs=>obtain⟨_,_,_,p⟩:=x;exact p.lt
 | dK kvs=>obtain⟨_,_,_,_,o,_,_,e,_⟩:=x;exact gxN e
 | dT kvs=>obtain⟨_,_,_,_,o,_,_,e,_⟩:=x;exact gxN e
 | set S n=>obtain⟨o,_,_,_,e,_⟩:=x;exact gxN e
 | ins C dx fs=>obtain⟨_,_,_,e,_⟩:=x;exact gxN e
 | own y=>obtain⟨_,e⟩:=x;exact gxN e
 | xd fs=>obtain⟨_,⟨_,_,_,e,_⟩,_⟩:=x;exact gxN e
 | rng lo hi=>obtain⟨_,_,_,e⟩:=x;exact gxN e
 | frz ob u=>obtain⟨e,_⟩:=x;exact gxN e
 | tbl ps=>exact gxN (show h.get? a=some _ from x)
 | met f y=>exact gxN (show h.get? a=some _ from x)
 | ext φ=>obtain⟨_,⟨_,e⟩,_⟩:=x;exact gxN e
theorem Paired.mapP {α β:Type}{F G:α->β->Prop}{l₁:List α}{l₂:List β}(h:Paired F l₁ l₂)(f:∀ a b,F a b->G a b):Paired G l₁ l₂:=by
 induction h with
 | nil=>exact .nil
 | cons r t ih=>exact .cons (f _ _ r) ih
theorem ObjOk.stay (x:ObjOk P w H h a o)(k:∀ b u,(b=a\/H b=some (.own a))->h.get? b=some u->h'.get? b=some u)
 (ho:∀ b,H b=some (.own a)->H' b=some (.own a)) (ht:∀ b xs,H b=some (.tup xs)->H' b=some (.tup xs)):ObjOk P w H' h' a o:=by
 induction o with
 | lst xs=>obtain⟨z,its,n,r,e⟩:=x;exact⟨z,its,n,r,k _ _ (.inl rfl) e⟩
 | tup xs=>obtain⟨z,its,r,ob,e,c⟩:=x;exact⟨z,its,r,ob,k _ _ (.inl rfl) e,c⟩
 | dK kvs=>obtain⟨z,y,vs,r,ob,es,ep,e,c⟩:=x;exact⟨z,y,vs,r,ob,es,ep,k _ _ (.inl rfl) e,c⟩
 | dT kvs =>
  obtain⟨z,y,xs,r,ob,es,ep,e,c⟩:=x
  exact⟨z,y,xs,Paired.mapP r fun p q z=>⟨z.1,ht _ _ z.2.1,z.2.2⟩,ob,es,ep,k _ _ (.inl rfl) e,c⟩
 | set S n=>obtain⟨ob,es,ep,t,e,c⟩:=x;exact⟨ob,es,ep,t,k _ _ (.inl rfl) e,c⟩
 | ins C dx fs =>
  obtain⟨d,z,ne,e,mA,⟨od,es,ep,e2,c⟩,r⟩:=x
  exact⟨ho _ d,z,ne,k _ _ (.inl rfl) e,mA,⟨od,es,ep,k _ _ (.inr d) e2,c⟩,r⟩
 | own y=>obtain⟨ob,e⟩:=x;exact⟨ob,k _ _ (.inl rfl) e⟩
 | xd fs=>obtain⟨mA,⟨od,es,ep,e,c⟩,r⟩:=x;exact⟨mA,⟨od,es,ep,k _ _ (.inl rfl) e,c⟩,r⟩
 | rng lo hi=>obtain⟨t,u,v,e⟩:=x;exact⟨t,u,v,k _ _ (.inl rfl) e⟩
 | frz ob u ih=>obtain⟨e,q⟩:=x;exact⟨k _ _ (.inl rfl) e,ih q⟩
 | tbl ps =>
  have e:h.get? a=some { cls:=.none,data:=.fields ps}:=x
  show h'.get? a=some { cls:=.none,data:=.fields ps}
  exact k a _ (.inl rfl) e
 | met f y =>
  have e:h.get? a=some (PySem.W.methodObj (.ref f) (.ref y)):=x
  show h'.get? a=some (PySem.W.methodObj (.ref f) (.ref y))
  exact k a _ (.inl rfl) e
 | ext φ=>obtain⟨p,⟨o,e⟩,st⟩:=x;exact⟨st _ _ p fun o q=>k _ _ (.inl rfl) q,⟨o,k _ _ (.inl rfl) e⟩,st⟩
theorem HOk.lt (x:HOk P w H h)(e:H a=some o):a<h.objs.size:=(x a o e).lt
theorem HOk.fresh (x:HOk P w H h)(e:h.objs.size<=a):H a=none:=by
 cases q:H a with
 | none=>rfl
 | some u=>exact absurd (aw (x.lt q) e) (bo _)
theorem HOk.kept (x:HOk P w H h)(k:∀ b u,h.get? b=some u->h'.get? b=some u):HOk P w H h':=fun a o e =>
 (x a o e).stay (fun b u _ q=>k b u q) (fun _ q=>q) fun _ _ q=>q
theorem HOk.laid (x:HOk P w H h)(k:∀ b u,h.get? b=some u->h'.get? b=some u)(hp:h.objs.size<=a)(new:ObjOk P w (upd H a o) h' a o):HOk P w (upd H a o) h':=fun b u e=>by
 have hn:=x.fresh hp
 by_cases hb:b=a
 ·subst hb;rw[upd_same]at e;cases e;exact new
 ·rw[upd_ne hb]at e
  exact(x b u e).stay (fun c v _ q=>k c v q) (fun c q=>by rw[upd_ne (ne_of_none q hn)];exact q) fun c xs q=>by rw[upd_ne (ne_of_none q hn)];exact q
end
def Rd (H:Hp)(a:Addr)(u:HO):Prop:=H a=some u\/∃ o,H a=some (.frz o u)
theorem Rd.ok {P:Program}{w:World}{H:Hp}{h:Heap}{a:Addr}{u:HO}(r:Rd H a u)(x:HOk P w H h):ObjOk P w H h a u:=by
 rcases r with r | ⟨o,r⟩
 ·exact x a u r
 ·obtain⟨_,q⟩:=x a _ r
  exact q
def Mut:Option HO->Prop
 | some (.lst _)=>True
 | some (.dK _)=>True
 | some (.dT _)=>True
 | some (.set _ _)=>True
 | some (.ins _ _ _)=>True
 | some (.ext _)=>True
 | _=>False
section
variable {P:Program}{w:World}{H:Hp}{h h':Heap}{x e:Addr}{o':HO}
theorem HOk.write (ok:HOk P w H h)(mu:Mut (H x))(he:e=x\/H e=some (.own x))(k:∀ b u,b≠e->h.get? b=some u->h'.get? b=some u)(heo:∃ u,h'.get? e=some u)
 (new:ObjOk P w (upd H x o') h' x o'):HOk P w (upd H x o') h':=fun b u q=>by
 have nown:∀ c y,H c=some (.own y)->c≠x:=fun c y r z=>by subst z;rw[r]at mu;exact mu
 have ntup:∀ c xs,H c=some (.tup xs)->c≠x:=fun c xs r z=>by subst z;rw[r]at mu;exact mu
 by_cases hb:b=x
 ·subst hb;rw[upd_same]at q;cases q;exact new
 ·rw[upd_ne hb]at q
  by_cases hbe:b=e
  ·have q':H b=some (.own x):=by
    rcases he with z | z
    ·exact absurd (hbe.trans z) hb
    ·rw[hbe];exact z
   rw[q]at q';cases q'
   obtain⟨v,hv⟩:=heo
   exact⟨v,by rw[hbe];exact hv⟩
  ·refine(ok b u q).stay (fun c v hc r=>k c v ?_ r) (fun c r=>by rw[upd_ne (nown c b r)];exact r) fun c xs r=>by rw[upd_ne (ntup c xs r)];exact r
   rcases hc with rfl | hc
   ·exact hbe
   ·rintro rfl
    rcases he with z | z
    ·exact nown c b hc z
    ·rw[hc]at z;cases z;exact hb rfl
end
structure Un (fs ex:List Addr)(H H':Hp)(h h':Heap):Prop where
 keep:∀ b o,h.get? b=some o->H b=none->b∉fs->b∉ex->h'.get? b=some o
 slot:∀ b o,h.get? b=some o->H b=none->b∈fs->b∉ex->∃ sl,h'.get? b=some { o with slots:=sl}
 free:∀ b o,h.get? b=some o->H b=none->b∉ex->H' b=none
 there:∀ b o,h.get? b=some o->b∉ex->∃ o',h'.get? b=some o'
 tups:∀ b xs,H b=some (.tup xs)->H' b=some (.tup xs)
 frzs:∀ b o u,H b=some (.frz o u)->H' b=some (.frz o u)
 tbls:∀ b ps,H b=some (.tbl ps)->∃ more,H' b=some (.tbl (ps++more))
section
variable {fs fs' ex ex':List Addr}{H H1 H2:Hp}{h h1 h2 h':Heap}{a x e:Addr}{o:HO}
theorem Un.any (u:Un fs ex H H1 h h1){b:Addr}{ob:Obj}(q:h.get? b=some ob)(n:H b=none)(hx:b∉ex):∃ sl,h1.get? b=some { ob with slots:=sl}:=by
 by_cases hb:b∈fs
 ·exact u.slot b ob q n hb hx
 ·exact⟨ob.slots,u.keep b ob q n hb hx⟩
theorem Un.kept (k:∀ b u,h.get? b=some u->h'.get? b=some u):Un fs ex H H h h' :=
 ⟨fun b ob q _ _ _=>k b ob q,fun b ob q _ _ _=>⟨ob.slots,k b ob q⟩,fun _ _ _ n _=>n,fun b ob q _=>⟨ob,k b ob q⟩,fun _ _ q=>q,fun _ _ _ q=>q,fun _ ps q=>⟨#[],by rw[q];simp⟩⟩
theorem Un.refl:Un fs ex H H h h:=Un.kept fun _ _ q=>q
theorem Un.laid (k:∀ b u,h.get? b=some u->h'.get? b=some u)(hp:h.objs.size<=a)(hn:H a=none):Un fs ex H (upd H a o) h h' where
 keep:=fun b u q _ _ _=>k b u q
 slot:=fun b u q _ _ _=>⟨u.slots,k b u q⟩
 free:=fun b u q n _=>by rw[upd_ne (aF (aw (gxN q) hp))];exact n
 there:=fun b u q _=>⟨u,k b u q⟩
 tups:=fun b xs q=>by rw[upd_ne (ne_of_none q hn)];exact q
 frzs:=fun b u xs q=>by rw[upd_ne (ne_of_none q hn)];exact q
 tbls:=fun b ps q=>⟨#[],by rw[upd_ne (ne_of_none q hn),q];simp⟩
theorem Un.write (mu:Mut (H x))(he:e=x\/H e=some (.own x))(k:∀ b u,b≠e->h.get? b=some u->h'.get? b=some u)(heo:∃ u,h'.get? e=some u):Un fs ex H (upd H x o) h h':=by
 have hx:∀ b,H b=none->b≠x:=fun b n z=>by subst z;rw[n]at mu;exact mu
 have hb:∀ b,H b=none->b≠e:=fun b n z=>by
  subst z
  rcases he with r | r
  ·exact hx b n r
  ·rw[n]at r;cases r
 have hm:∀ b u,H b=some u->¬ Mut (some u)->b≠x:=fun b u q nm z=>by subst z;rw[q]at mu;exact nm mu
 refine⟨fun b u q n _ _=>k b u (hb b n) q,fun b u q n _ _=>⟨u.slots,k b u (hb b n) q⟩,fun b u q n _=>by rw[upd_ne (hx b n)];exact n,fun b u q _=>?_,
  fun b xs q=>by rw[upd_ne (hm b _ q fun z=>z)];exact q,fun b u xs q=>by rw[upd_ne (hm b _ q fun z=>z)];exact q,fun b ps q=>⟨#[],by rw[upd_ne (hm b _ q fun z=>z),q];simp⟩⟩
 by_cases hbe:b=e
 ·subst hbe;exact heo
 ·exact⟨u,k b u hbe q⟩
end
def trk (h:Heap)(H:Hp):List Addr:=(List.range h.objs.size).filter fun a=>(H a).isSome
def hidT (h:Heap)(H:Hp):Heap:=PySem.W.hideAll h (trk h H)
theorem hidT_size (h:Heap)(H:Hp):(hidT h H).objs.size=h.objs.size:=PySem.W.hideAll_size _ _
theorem hidT_get {h:Heap}{H:Hp}{b:Addr}{o:Obj}(e:h.get? b=some o)(n:H b=none):(hidT h H).get? b=some o :=
 PySem.W.hideAll_get _ e fun hm=>by
  have q:(H b).isSome=true:=(List.mem_filter.mp hm).2
  rw[n]at q;simp at q
theorem of_hidT {h:Heap}{H:Hp}{b:Addr}{o:Obj}(e:(hidT h H).get? b=some o):h.get? b=some o/\H b=none:=by
 have e':h.get? b=some o:=PySem.W.of_hideAll (trk h H) e
 refine⟨e',?_⟩
 cases q:H b with
 | none=>rfl
 | some x =>
  have hm:b∈trk h H:=List.mem_filter.mpr ⟨List.mem_range.mpr (gxN e'),by simp[q]⟩
  have z:(hidT h H).get? b=none:=PySem.W.hideAll_none (trk h H) hm
  rw[z]at e;cases e
def allNews (g h:Heap)(L:Addr):List (Addr×Obj):=(List.range h.objs.size).filterMap fun a=>if a=L\/(g.get? a).isSome=true then none else(h.get? a).map fun o=>(a,o)
def rest (g h:Heap)(L d:Addr):List (Addr×Obj):=(allNews g h L).filter fun p=>decide (p.1≠d)
structure Mod (K:PySem.W.Frag)(mg:Str->Option Value)(base:Heap):Prop where
 kin:K.In base
 glob:base.Ns mainGlobals mg
 blt:∃ mb,base.Ns builtinsNs mb/\∀ x:Str,x ≠ "__name__"->mb x=bootBuiltins x
 nolimit:base.NoLimit
structure Cx where
 prog:Program
 w:World
 K:PySem.W.Frag
 mg:Str->Option Value
 base:Heap
 A:Around
 N:List Str
 s₀:Shared
 H₀:Hp
 env:Env
 outer:List Env
 stack:List Env
 ex:List Addr
 fn:Str->Bool
 calm:Bool
 pn:List (Addr×Obj)
 xe:Value->Shared->Prop
def frs (l:List Env):List Addr:=l.filterMap (·.frame)
abbrev Cx.fs (X:Cx):List Addr:=frs X.outer
def Vis (sc:Scope)(x:Str):Prop:=sc.names.lookup x=some .local\/sc.names.lookup x=some .cell\/sc.names.lookup x=some .free
def Loc (sc:Scope)(x:Str):Prop:=sc.names.lookup x=some .local\/sc.names.lookup x=some .cell
def Look (env:Env)(h:Heap)(m:Str->Option Value)(x:Str)(u:Value):Prop :=
 (env.kindOf x=some .local/\m x=some u)\/((env.kindOf x=some .cell\/env.kindOf x=some .free)/\∃ c,env.cells.lookup x=some c/\h.IsCell c (some u))
structure Cx.Ok (X:Cx):Prop where
 mod:Mod X.K X.mg X.base
 kind:X.env.scope.kind=.function
 glob:X.env.globals=mainGlobals
 blt:X.env.builtins=builtinsNs
 above:X.s₀.heap.objs.size<=X.env.locals
 inj:∀ x y c,X.env.cells.lookup x=some c->X.env.cells.lookup y=some c->x=y
 has:∀ x,(X.env.kindOf x=some .cell\/X.env.kindOf x=some .free)->∃ c,X.env.cells.lookup x=some c
 cab:∀ x c,X.fn x=true->X.env.cells.lookup x=some c->X.s₀.heap.objs.size<=c
 hd:X.calm=true->X.A.handled=none
 frames:X.A.frames=some X.stack
 stk:X.stack=X.outer\/(X.stack=X.env::X.outer/\X.env.frame=some X.env.locals)
 exf:∀ b∈X.ex,b≠X.env.locals/\∀ x c,X.env.cells.lookup x=some c->c≠b
 bs:∀ b o,X.base.get? b=some o->X.s₀.heap.get? b=some o/\X.H₀ b=none
 bsz:X.base.objs.size<=X.s₀.heap.objs.size
 noex:∀ b o,X.base.get? b=some o->b∉X.ex
 exfs:∀ b∈X.ex,b∉X.fs
 funs:X.s₀.heap.FunFrames X.base X.outer
 frf:∀ b∈X.fs,X.H₀ b=none
structure Inv (X:Cx)(pins:List (Addr×Obj))(σ:List (Option V))(H:Hp)(s:Shared):Prop where
 ok:X.Ok
 os:s.os=X.s₀.os
 bare:AllBare s.gens
 base:Un X.fs X.ex X.H₀ H X.s₀.heap s.heap
 loc:∃ m,s.heap.Ns X.env.locals m/\∀(i:Nat) (x:Str) (v:V),X.N[i]?=some x->σ[i]?=some (some v)->Vis X.env.scope x->∃ u,RelV v u/\Look X.env s.heap m x u
 cell:∀ x c,X.env.cells.lookup x=some c->∃ v,s.heap.IsCell c v
 free:H X.env.locals=none
 freeC:∀ x c,X.env.cells.lookup x=some c->H c=none
 pin:∀ p∈X.pn++pins,s.heap.get? p.1=some p.2/\H p.1=none/\p.1≠X.env.locals/\p.1∉X.fs/\∀ v,p.2.data≠.cell v
 hok:HOk X.prog X.w H s.heap
 len:σ.length=X.N.length
section
variable {X:Cx}{pins:List (Addr×Obj)}{σ:List (Option V)}{H H':Hp}{s:Shared}{h':Heap}
theorem Cx.Ok.nofr (ok:X.Ok){b:Addr}{o:Obj}(e:X.base.get? b=some o):b∉X.fs:=fun hb=>by
 have:=(ok.funs.mem hb).1
 rw[e]at this;cases this
theorem Inv.bs (I:Inv X pins σ H s):∀ b o,X.base.get? b=some o->s.heap.get? b=some o/\H b=none:=fun b o e =>
 ⟨I.base.keep b o (I.ok.bs b o e).1 (I.ok.bs b o e).2 (I.ok.nofr e) (I.ok.noex b o e),I.base.free b o (I.ok.bs b o e).1 (I.ok.bs b o e).2 (I.ok.noex b o e)⟩
theorem Inv.bk (I:Inv X pins σ H s):∀ b o,X.base.get? b=some o->s.heap.get? b=some o:=fun b o e=>(I.bs b o e).1
theorem Inv.mod (I:Inv X pins σ H s):Mod X.K X.mg X.base:=I.ok.mod
theorem Inv.kIn (I:Inv X pins σ H s):X.K.In s.heap:=I.ok.mod.kin.keeps I.bk
theorem Inv.fr (I:Inv X pins σ H s):∃ m,Fr X.base X.env.locals s.heap m :=
 let ⟨m,hn,_⟩:=I.loc
 ⟨m,hn,I.bk,aD I.ok.bsz I.ok.above⟩
theorem Inv.lt (I:Inv X pins σ H s):X.env.locals<s.heap.objs.size:=let ⟨_,hn,_⟩:=I.loc;hn.lt
theorem Inv.sz (I:Inv X pins σ H s):X.s₀.heap.objs.size<=s.heap.objs.size:=aD I.ok.above (Nat.le_of_lt I.lt)
theorem Inv.nofs (I:Inv X pins σ H s){a:Addr}(h:s.heap.objs.size<=a):a∉X.fs:=fun hb=>by
 obtain⟨_,o,ho,_⟩:=I.ok.funs.mem hb
 exact absurd (aw (gxN ho) (aD I.sz h)) (bo _)
theorem Inv.cne (I:Inv X pins σ H s):∀ x c,X.env.cells.lookup x=some c->c≠X.env.locals:=fun x c e z=>by
 obtain⟨v,o,ho,hd⟩:=I.cell x c e
 obtain⟨m,⟨o',es,ep,ho',hd',_⟩,_⟩:=I.loc
 rw[z,ho']at ho;cases ho;rw[hd']at hd;cases hd
theorem Inv.funs (I:Inv X pins σ H s):s.heap.FunFrames X.base X.outer:=by
 have all:∀(l:List Env),(∀ b∈frs l,b∈X.fs)->X.s₀.heap.FunFrames X.base l->s.heap.FunFrames X.base l:=by
  intro l
  induction l with
  | nil=>intro _ _;trivial
  | cons env r ih =>
   intro hs hl
   obtain⟨hk,⟨L,o,hf,hn,ho,hd⟩,hr⟩:=hl
   have hL:L∈X.fs:=hs L (by unfold frs;rw[cF,hf];exact ae)
   obtain⟨sl,e⟩:=I.base.slot L o ho (I.ok.frf L hL) hL fun z=>I.ok.exfs L z hL
   exact⟨hk,⟨L,_,hf,hn,e,hd⟩,ih (fun b hb=>hs b (by unfold frs;rw[cF,hf];exact gxI _ hb)) hr⟩
 exact all X.outer (fun _ hb=>hb) I.ok.funs
theorem Inv.stack (I:Inv X pins σ H s):s.heap.FunFrames X.base X.stack:=by
 rcases I.ok.stk with e | ⟨e,hf⟩
 ·rw[e];exact I.funs
 ·rw[e]
  obtain⟨m,hn,_⟩:=I.loc
  refine .cons (by rw[I.ok.kind];decide) hf hn ?_ I.funs
  exact Heap.get?_none_of_le (aD I.ok.bsz I.ok.above)
theorem Inv.stkSub (I:Inv X pins σ H s):∀ b∈frs X.stack,b∈X.env.locals::X.fs:=fun b hb=>by
 rcases I.ok.stk with e | ⟨e,hf⟩
 ·rw[e]at hb;exact gxI _ hb
 ·rw[e]at hb
  unfold frs at hb
  rw[cF,hf]at hb
  exact hb
theorem Inv.stkFree (I:Inv X pins σ H s):∀ b∈frs X.stack,H b=none:=fun b hb=>by
 rcases List.mem_cons.mp (I.stkSub b hb)with e | hb
 ·rw[e];exact I.free
 ·obtain⟨_,o,ho,_⟩:=I.ok.funs.mem hb
  exact I.base.free b o ho (I.ok.frf b hb) fun z=>I.ok.exfs b z hb
theorem Inv.step {g':Array GenState}{t':Nat}{d':Drawn}{ch:List Addr}(I:Inv X pins σ H s)
 (hch:∀ b∈ch,(b∈X.ex\/X.s₀.heap.objs.size<=b)/\b≠X.env.locals/\(∀ x c,X.env.cells.lookup x=some c->c≠b)/\∀ p∈X.pn++pins,p.1≠b)
 (keep:∀ b o,b≠X.env.locals->b∉X.fs->b∉ch->s.heap.get? b=some o->H b=none->h'.get? b=some o)
 (slot:∀ b o,b≠X.env.locals->b∈X.fs->b∉ch->s.heap.get? b=some o->H b=none->∃ sl,h'.get? b=some { o with slots:=sl}) (free:∀ b o,b∉ch->s.heap.get? b=some o->H b=none->H' b=none)
 (there:∀ b o,b∉ch->s.heap.get? b=some o->∃ o',h'.get? b=some o')
 (tups:∀ b xs,H b=some (.tup xs)->H' b=some (.tup xs)) (frzs:∀ b o u,H b=some (.frz o u)->H' b=some (.frz o u)) (tbls:∀ b ps,H b=some (.tbl ps)->∃ more,H' b=some (.tbl (ps++more)))
 (ns:∀ m,s.heap.Ns X.env.locals m->h'.Ns X.env.locals m) (hok:HOk X.prog X.w H' h') (hg:AllBare g') :
 Inv X pins σ H' { s with heap:=h',gens:=g',drawn:=d',toks:=t'}:=by
 have neL:∀ b o,X.s₀.heap.get? b=some o->b≠X.env.locals:=fun b o e=>aF (aw (gxN e) I.ok.above)
 have neC:∀ b o,X.s₀.heap.get? b=some o->b∉X.ex->b∉ch:=fun b o e hx hb=>by
  rcases(hch b hb).1 with z | z
  ·exact hx z
  ·exact absurd (aw (gxN e) z) (bo _)
 have cellK:∀ x c,X.env.cells.lookup x=some c->∀ v,s.heap.IsCell c v->h'.IsCell c v:=fun x c e v ⟨o,ho,hd⟩=>by
  have nch:c∉ch:=fun z=>(hch c z).2.2.1 x c e rfl
  by_cases hc:c∈X.fs
  ·obtain⟨sl,q⟩:=slot c o (I.cne x c e) hc nch ho (I.freeC x c e)
   exact⟨_,q,hd⟩
  ·exact⟨o,keep c o (I.cne x c e) hc nch ho (I.freeC x c e),hd⟩
 refine⟨I.ok,I.os,hg,⟨fun b o e n hb hx=>?_,fun b o e n hb hx=>?_,fun b o e n hx=>?_,fun b o e hx=>?_,fun b xs e=>tups b xs (I.base.tups b xs e),fun b o xs e=>frzs b o xs (I.base.frzs b o xs e),fun b ps e=>?_⟩,?_,fun x c e=>?_,?_,fun x c e=>?_,fun p hp=>?_,hok,I.len⟩
 ·exact keep b o (neL b o e) hb (neC b o e hx) (I.base.keep b o e n hb hx) (I.base.free b o e n hx)
 ·obtain⟨sl,e1⟩:=I.base.slot b o e n hb hx
  obtain⟨sl',e2⟩:=slot b _ (neL b o e) hb (neC b o e hx) e1 (I.base.free b o e n hx)
  exact⟨sl',e2⟩
 ·obtain⟨o',e1⟩:=I.base.there b o e hx
  exact free b o' (neC b o e hx) e1 (I.base.free b o e n hx)
 ·obtain⟨o',e1⟩:=I.base.there b o e hx
  exact there b o' (neC b o e hx) e1
 ·obtain⟨m1,e1⟩:=I.base.tbls b ps e
  obtain⟨m2,e2⟩:=tbls b _ e1
  exact⟨m1++m2,by rw[e2,Array.append_assoc]⟩
 ·obtain⟨m,hn,hl⟩:=I.loc
  refine⟨m,ns m hn,fun i x v e1 e2 e3=>?_⟩
  obtain⟨u,r,l⟩:=hl i x v e1 e2 e3
  refine⟨u,r,?_⟩
  rcases l with l | ⟨k,c,e,z⟩
  ·exact .inl l
  ·exact .inr ⟨k,c,e,cellK x c e _ z⟩
 ·obtain⟨v,z⟩:=I.cell x c e
  exact⟨v,cellK x c e v z⟩
 ·obtain⟨m,⟨o,_,_,ho,_⟩,_⟩:=I.loc
  exact free _ o (fun z=>(hch _ z).2.1 rfl) ho I.free
 ·obtain⟨v,o,ho,hd⟩:=I.cell x c e
  exact free c o (fun z=>(hch c z).2.2.1 x c e rfl) ho (I.freeC x c e)
 ·obtain⟨e,n,ne,nf,d⟩:=I.pin p hp
  have nch:p.1∉ch:=fun z=>(hch p.1 z).2.2.2 p hp rfl
  exact⟨keep p.1 p.2 ne nf nch e n,free p.1 p.2 nch e n,ne,nf,d⟩
theorem Inv.un {t':Nat}(I:Inv X pins σ H s)(u:Un X.fs [] H H' s.heap h')(hok:HOk X.prog X.w H' h'):Inv X pins σ H' { s with heap:=h',toks:=t'}:=by
 obtain⟨m,⟨o,es,ep,ho,r⟩,_⟩:=id I.loc
 obtain⟨sl,hL⟩:=u.any ho I.free (by simp)
 exact I.step (g':=s.gens) (d':=s.drawn) (ch:=[]) (fun _ z=>nomatch z) (fun b o _ hb _ e n=>u.keep b o e n hb (by simp)) (fun b o _ hb _ e n=>u.slot b o e n hb (by simp)) (fun b o _ e n=>u.free b o e n (by simp)) (fun b o _ e=>u.there b o e (by simp)) u.tups u.frzs u.tbls (fun m' hm=>by
  obtain⟨o',es',ep',ho',r'⟩:=hm
  rw[ho]at ho';cases ho'
  exact⟨_,es',ep',hL,r'⟩) hok I.bare
theorem Inv.call {g':Array GenState}{t':Nat}{d':Drawn}{ch:List Addr}(I:Inv X pins σ H s)(u:Un (frs X.stack) ch H H' s.heap h')(hok:HOk X.prog X.w H' h')(hg:AllBare g')
 (hch:∀ b∈ch,(b∈X.ex\/X.s₀.heap.objs.size<=b)/\b≠X.env.locals/\(∀ x c,X.env.cells.lookup x=some c->c≠b)/\∀ p∈X.pn++pins,p.1≠b) :
 Inv X pins σ H' { s with heap:=h',gens:=g',drawn:=d',toks:=t'}:=by
 obtain⟨m,⟨o,es,ep,ho,r⟩,_⟩:=id I.loc
 obtain⟨sl,hL⟩:=u.any ho I.free fun z=>(hch _ z).2.1 rfl
 exact I.step (ch:=ch) hch (fun b o hL hb hc e n=>u.keep b o e n (fun z=>(List.mem_cons.mp (I.stkSub b z)).elim hL hb) hc) (fun b o _ _ hc e n=>u.any e n hc) (fun b o hc e n=>u.free b o e n hc) (fun b o hc e=>u.there b o e hc) u.tups u.frzs u.tbls (fun m' hm=>by
  obtain⟨o',es',ep',ho',r'⟩:=hm
  rw[ho]at ho';cases ho'
  exact⟨_,es',ep',hL,r'⟩) hok hg
theorem Inv.turned {t':Nat}{it:Addr}(I:Inv X pins σ H s)(k:∀ b o,b≠it->s.heap.get? b=some o->h'.get? b=some o)(hn:H it=none)(hL:it≠X.env.locals)
 (h1:it∈X.ex\/X.s₀.heap.objs.size<=it) (h2:∀ x c,X.env.cells.lookup x=some c->c≠it) (h3:∀ p∈X.pn++pins,p.1≠it):Inv X pins σ H { s with heap:=h',toks:=t'}:=by
 have nit:∀ b u,H b=some u->b≠it:=fun b u e z=>by rw[z,hn]at e;cases e
 refine I.step (g':=s.gens) (d':=s.drawn) (ch:=[it]) (fun b hb=>?_) (fun b o _ _ hc e _=>k b o (fun z=>hc (by simp[z])) e) (fun b o _ _ hc e _=>⟨o.slots,k b o (fun z=>hc (by simp[z])) e⟩) (fun _ _ _ _ n=>n)
  (fun b o hc e=>⟨o,k b o (fun z=>hc (by simp[z])) e⟩) (fun _ _ e=>e) (fun _ _ _ e=>e) (fun b ps e=>⟨#[],by rw[e];simp⟩) (fun m hm=>?_) (fun b u e=>?_) I.bare
 ·have e:b=it:=by simpa using hb
  subst e
  exact⟨h1,hL,h2,h3⟩
 ·obtain⟨o,es,ep,ho,r⟩:=hm
  exact⟨o,es,ep,k _ o (bM hL) ho,r⟩
 ·refine(I.hok b u e).stay (fun c v hc q=>k c v ?_ q) (fun _ q=>q) fun _ _ q=>q
  rcases hc with z | z
  ·rw[z];exact nit b u e
  ·exact nit c _ z
theorem Inv.tok (I:Inv X pins σ H s)(t:Nat):Inv X pins σ H { s with toks:=t}:=I.un (h':=s.heap) (t':=t) Un.refl I.hok
theorem Inv.kept {t':Nat}(I:Inv X pins σ H s)(k:∀ b u,s.heap.get? b=some u->h'.get? b=some u):Inv X pins σ H { s with heap:=h',toks:=t'}:=I.un (Un.kept k) (I.hok.kept k)
theorem Inv.laid {a:Addr}{o:HO}{t':Nat}(I:Inv X pins σ H s)(k:∀ b u,s.heap.get? b=some u->h'.get? b=some u)(hp:s.heap.objs.size<=a)(new:ObjOk X.prog X.w (upd H a o) h' a o) :
 Inv X pins σ (upd H a o) { s with heap:=h',toks:=t'}:=I.un (Un.laid k hp (I.hok.fresh hp)) (I.hok.laid k hp new)
theorem Inv.write {x e:Addr}{o:HO}{t':Nat}(I:Inv X pins σ H s)(mu:Mut (H x))(he:e=x\/H e=some (.own x))(k:∀ b u,b≠e->s.heap.get? b=some u->h'.get? b=some u)(heo:∃ u,h'.get? e=some u)
 (new:ObjOk X.prog X.w (upd H x o) h' x o):Inv X pins σ (upd H x o) { s with heap:=h',toks:=t'}:=I.un (Un.write mu he k heo) (I.hok.write mu he k heo new)
theorem Inv.weak {σ':List (Option V)}(I:Inv X pins σ H s)(hl:σ'.length=σ.length)(w:∀(i:Nat) v,σ'[i]?=some (some v)->σ[i]?=some (some v)):Inv X pins σ' H s :=
 ⟨I.ok,I.os,I.bare,I.base,let ⟨m,hn,hl'⟩:=I.loc;⟨m,hn,fun i x v e1 e2 e3=>hl' i x v e1 (w i v e2) e3⟩,I.cell,I.free,I.freeC,I.pin,I.hok,hl.trans I.len⟩
theorem Inv.pins_of {pins':List (Addr×Obj)}(I:Inv X pins σ H s)(h:∀ p∈pins',s.heap.get? p.1=some p.2/\H p.1=none/\p.1≠X.env.locals/\p.1∉X.fs/\∀ v,p.2.data≠.cell v):Inv X pins' σ H s :=
 ⟨I.ok,I.os,I.bare,I.base,I.loc,I.cell,I.free,I.freeC,fun p hp=>(List.mem_append.mp hp).elim (fun z=>I.pin p (bu _ z)) (h p),I.hok,I.len⟩
theorem nodup_ix {N:List Str}(hN:N.Nodup){i j:Nat}{x:Str}(a:N[i]?=some x)(b:N[j]?=some x):i=j:=by
 obtain⟨h1,e1⟩:=gxB a
 obtain⟨h2,e2⟩:=gxB b
 exact(List.getElem_inj hN).mp (e1.trans e2.symm)
theorem store_ok2 {M:Model}{A:Around}{E:Value->Shared->Prop}{i:Nat}{x:Str}{v:V}{u:Value}{Q:Unit->Shared->Prop}(I:Inv X pins σ H s)(hN:X.N.Nodup)(hi:X.N[i]?=some x)(hx:Loc X.env.scope x)(r:RelV v u)
 (h:∀ s',Inv X pins (σ.set i (some v)) H s'->(∃ a,Heap.SameBut a s.heap s'.heap/\(a=X.env.locals\/X.env.cells.lookup x=some a))->Q () s') (hf:X.fn x=true\/X.env.scope.names.lookup x=some .local:=by first | exact .inl rfl | exact .inr rfl | assumption):wpAny M A (storeName X.env x u) Q E s:=by
 obtain⟨m,hn,hl⟩:=id I.loc
 have hcls:(X.env.scope.kind==.class||(X.env.scope.kind==.module&&X.env.locals != X.env.globals))=false:=by rw[I.ok.kind];rfl
 have hiσ:i<σ.length:=by rw[I.len];exact(gxB hi).1
 have cne:=I.cne
 have tracked:∀ {a:Addr} {h':Heap},(∃ o,s.heap.get? a=some o/\H a=none)->Heap.SameBut a s.heap h'->HOk X.prog X.w H h':=fun {a h'} ha hs b ob e=>by
  obtain⟨_,_,hfree⟩:=ha
  refine(I.hok b ob e).stay (fun c w' hc q=>(hs.2 c ?_).trans q) (fun _ q=>q) fun _ _ q=>q
  rintro rfl
  rcases hc with rfl | hc
  ·rw[hfree]at e;cases e
  ·rw[hfree]at hc;cases hc
 rcases hx with hk | hk
 ·refine wpAny_storeName_local hk hn (fun h' hn' hs=>?_) hcls
  obtain⟨oL,_,_,hoL,_⟩:=id hn
  refine h _ ⟨I.ok,I.os,I.bare,⟨fun b o e n hb hx=>?_,fun b o e n hb hx=>?_,I.base.free,fun b o e hx=>?_,I.base.tups,I.base.frzs,I.base.tbls⟩,⟨_,hn',fun j y v' e1 e2 e3=>?_⟩,fun y c e=>?_,I.free,I.freeC,fun p hp=>?_,tracked ⟨oL,hoL,I.free⟩ hs,by simpa using I.len⟩ ⟨_,hs,.inl rfl⟩
  ·exact(hs.2 b (aF (aw (gxN e) I.ok.above))).trans (I.base.keep b o e n hb hx)
  ·obtain⟨sl,e1⟩:=I.base.slot b o e n hb hx
   exact⟨sl,(hs.2 b (aF (aw (gxN e) I.ok.above))).trans e1⟩
  ·obtain⟨o',e1⟩:=I.base.there b o e hx
   exact⟨o',(hs.2 b (aF (aw (gxN e) I.ok.above))).trans e1⟩
  ·by_cases hj:j=i
   ·subst hj
    rw[hi]at e1;cases e1
    rw[aI hiσ]at e2
    cases e2
    exact⟨u,r,.inl ⟨hk,by simp⟩⟩
   ·rw[aM (bM hj)]at e2
    obtain⟨u',r',q⟩:=hl j y v' e1 e2 e3
    refine⟨u',r',?_⟩
    rcases q with⟨k,e⟩ | ⟨k,c,e,z⟩
    ·refine .inl ⟨k,?_⟩
     have:y≠x:=fun e=>hj (nodup_ix hN e1 (e▸hi))
     simp[this,e]
    ·exact .inr ⟨k,c,e,z.sameBut hs (cne y c e)⟩
  ·obtain⟨w',z⟩:=I.cell y c e
   exact⟨w',z.sameBut hs (cne y c e)⟩
  ·obtain⟨e,n,ne,nf,d⟩:=I.pin p hp
   exact⟨(hs.2 p.1 ne).trans e,n,ne,nf,d⟩
 ·have hfn:X.fn x=true:=by
   rcases hf with z | z
   ·exact z
   ·rw[z]at hk;cases hk
  obtain⟨c,hc⟩:=I.ok.has x (.inl hk)
  obtain⟨w',z⟩:=I.cell x c hc
  refine wpAny_storeName_cell I.ok.kind hk hc z (fun h' hc' hs=>?_)
  obtain⟨oc,hoc,hocd⟩:=id z
  refine h { s with heap:=h'} ⟨I.ok,I.os,I.bare,⟨fun b o e n hb hx=>?_,fun b o e n hb hx=>?_,I.base.free,fun b o e hx=>?_,I.base.tups,I.base.frzs,I.base.tbls⟩,⟨m,hn.sameBut hs (bM (cne x c hc)),fun j y v' e1 e2 e3=>?_⟩,fun y c' e=>?_,I.free,I.freeC,fun p hp=>?_,tracked ⟨oc,hoc,I.freeC x c hc⟩ hs,by simpa using I.len⟩ ⟨c,hs,.inr hc⟩
  ·exact(hs.2 b (aF (aw (gxN e) (I.ok.cab x c hfn hc)))).trans (I.base.keep b o e n hb hx)
  ·obtain⟨sl,e1⟩:=I.base.slot b o e n hb hx
   exact⟨sl,(hs.2 b (aF (aw (gxN e) (I.ok.cab x c hfn hc)))).trans e1⟩
  ·obtain⟨o',e1⟩:=I.base.there b o e hx
   exact⟨o',(hs.2 b (aF (aw (gxN e) (I.ok.cab x c hfn hc)))).trans e1⟩
  ·by_cases hj:j=i
   ·subst hj
    rw[hi]at e1;cases e1
    rw[aI hiσ]at e2
    cases e2
    exact⟨u,r,.inr ⟨.inl hk,c,hc,hc'⟩⟩
   ·rw[aM (bM hj)]at e2
    obtain⟨u',r',q⟩:=hl j y v' e1 e2 e3
    refine⟨u',r',?_⟩
    rcases q with q | ⟨k,c',e,z'⟩
    ·exact .inl q
    ·refine .inr ⟨k,c',e,z'.sameBut hs ?_⟩
     rintro rfl
     exact hj (nodup_ix hN e1 (I.ok.inj _ _ _ e hc▸hi))
  ·by_cases hcc:c'=c
   ·subst hcc;exact⟨_,hc'⟩
   ·obtain⟨w2,z2⟩:=I.cell y c' e
    exact⟨w2,z2.sameBut hs hcc⟩
  ·obtain⟨e,n,ne,nf,d⟩:=I.pin p hp
   refine⟨(hs.2 p.1 ?_).trans e,n,ne,nf,d⟩
   intro q
   rw[q,hoc]at e
   have q':oc=p.2:=aV e
   exact d w' (by rw[<- q'];exact hocd)
theorem store_ok {M:Model}{A:Around}{E:Value->Shared->Prop}{i:Nat}{x:Str}{v:V}{u:Value}{Q:Unit->Shared->Prop}(I:Inv X pins σ H s)(hN:X.N.Nodup)(hi:X.N[i]?=some x)(hx:Loc X.env.scope x)(r:RelV v u)
 (h:∀ s',Inv X pins (σ.set i (some v)) H s'->Q () s') (hf:X.fn x=true\/X.env.scope.names.lookup x=some .local:=by first | exact .inl rfl | exact .inr rfl | assumption):wpAny M A (storeName X.env x u) Q E s :=
 store_ok2 I hN hi hx r (fun s' I' _=>h s' I') hf
theorem Inv.call' {s':Shared}{ch:List Addr}(I:Inv X pins σ H s)(ho:s'.os=s.os)(u:Un (frs X.stack) ch H H' s.heap s'.heap)(hok:HOk X.prog X.w H' s'.heap)(hg:AllBare s'.gens)
 (hch:∀ b∈ch,(b∈X.ex\/X.s₀.heap.objs.size<=b)/\b≠X.env.locals/\(∀ x c,X.env.cells.lookup x=some c->c≠b)/\∀ p∈X.pn++pins,p.1≠b):Inv X pins σ H' s':=by
 obtain⟨h',g',d',t',o'⟩:=s'
 have e:o'=s.os:=ho
 subst e
 exact I.call (g':=g') (t':=t') (d':=d') u hok hg hch
end
abbrev XK:=Value->Option Addr->Hp->Prop
abbrev St:=List (Option V)
abbrev VK:=V->Hp->Prop
abbrev TE:=St->Hp->VK->Prop
abbrev TT:=St->Hp->(Bool->Hp->Prop)->Prop
abbrev TA:=St->Hp->(List V->Hp->Prop)->Prop
structure Ends where
 nx:St->Hp->Prop
 rt:VK
 bk:St->Hp->Prop:=fun _ _=>False
 ct:St->Hp->Prop:=fun _ _=>False
abbrev TS:=Ends->St->Hp->Prop
def EP (X:Cx)(pins:List (Addr×Obj))(σ:St)(Q:VK)(u:Value)(s':Shared):Prop:=∃ v H',Inv X pins σ H' s'/\RelV v u/\Q v H'
def TP (X:Cx)(pins:List (Addr×Obj))(σ:St)(Q:Bool->Hp->Prop)(b:Bool)(s':Shared):Prop:=∃ H',Inv X pins σ H' s'/\Q b H'
def AP (X:Cx)(pins:List (Addr×Obj))(σ:St)(Q:List V->Hp->Prop)(us:List Value)(s':Shared):Prop:=∃ vs H',Inv X pins σ H' s'/\Vals vs us/\Q vs H'
def SP (X:Cx)(pins:List (Addr×Obj))(D:Ends)(f:Flow)(s':Shared):Prop :=
 match f with
 | .next=>∃ σ' H',Inv X pins σ' H' s'/\D.nx σ' H'
 | .brk=>∃ σ' H',Inv X pins σ' H' s'/\D.bk σ' H'
 | .cont=>∃ σ' H',Inv X pins σ' H' s'/\D.ct σ' H'
 | .ret u=>∃ v σ' H',Inv X pins σ' H' s'/\RelV v u/\D.rt v H'
def PE (X:Cx)(e:Expr)(t:TE):Prop :=
 ∀(pins:List (Addr×Obj)) (s:Shared) (σ:St) (H:Hp) (Q:VK),Inv X pins σ H s->t σ H Q->wpAny (model X.prog X.w) X.A (eval e X.env) (EP X pins σ Q) X.xe s
def PT (X:Cx)(e:Expr)(t:TT):Prop :=
 ∀(pins:List (Addr×Obj)) (s:Shared) (σ:St) (H:Hp) (Q:Bool->Hp->Prop),Inv X pins σ H s->t σ H Q->wpAny (model X.prog X.w) X.A (isTrue e X.env (eval e X.env)) (TP X pins σ Q) X.xe s
def PW (X:Cx)(e:Expr)(t:TT):Prop :=
 ∀(whole:Sem Value) (pins:List (Addr×Obj)) (s:Shared) (σ:St) (H:Hp) (Q:Bool->Hp->Prop),Inv X pins σ H s->t σ H Q->wpAny (model X.prog X.w) X.A (isTrue e X.env whole) (TP X pins σ Q) X.xe s
theorem PW.pt {X:Cx}{e:Expr}{t:TT}(h:PW X e t):PT X e t:=h _
def PA (X:Cx)(es:List Expr)(t:TA):Prop :=
 ∀(pos:Pos) (pins:List (Addr×Obj)) (s:Shared) (σ:St) (H:Hp) (Q:List V->Hp->Prop),Inv X pins σ H s->t σ H Q->wpAny (model X.prog X.w) X.A (spliced (backTo pos (starEach es X.env))) (AP X pins σ Q) X.xe s
def PS (X:Cx)(st:Stmt)(t:TS):Prop :=
 ∀(pins:List (Addr×Obj)) (s:Shared) (σ:St) (H:Hp) (D:Ends),Inv X pins σ H s->t D σ H->wpAny (model X.prog X.w) X.A (exec st X.env) (SP X pins D) X.xe s
def PSs (X:Cx)(st:List Stmt)(t:TS):Prop :=
 ∀(pins:List (Addr×Obj)) (s:Shared) (σ:St) (H:Hp) (D:Ends),Inv X pins σ H s->t D σ H->wpAny (model X.prog X.w) X.A (execs st X.env) (SP X pins D) X.xe s
theorem thn {α:Type}{t:Sem α}{Q Q':α->Shared->Prop}{M:Model}{A:Around}{E:Value->Shared->Prop}{s:Shared}(h:wpAny M A t Q E s)(hQ:∀ a s,Q a s->Q' a s):wpAny M A t Q' E s:=bz h hQ fun _ _ x=>x
section
variable {X:Cx}
theorem bin {a b:Expr}{ta tb:TE}(ha:PE X a ta)(hb:PE X b tb){pins:List (Addr×Obj)}{s:Shared}{σ:St}{H:Hp}{R:V->V->Hp->Prop}(I:Inv X pins σ H s)(h:ta σ H fun x H1=>tb σ H1 fun y H2=>R x y H2)
 {α:Type} {Q:α->Shared->Prop} {f:Value->Value->Sem α}
 (hf:∀ v u s2 x y H2,Inv X pins σ H2 s2->RelV x v->RelV y u->R x y H2->wpAny (model X.prog X.w) X.A (f v u) Q X.xe s2) :
 wpAny (model X.prog X.w) X.A (eval a X.env) (fun v s₁=>wpAny (model X.prog X.w) X.A (eval b X.env) (fun u s₂=>wpAny (model X.prog X.w) X.A (f v u) Q X.xe s₂) X.xe s₁) X.xe s:=by
 refine thn (ha pins s σ H _ I h) fun v s1 hq2=>?_
 obtain⟨x,H1,I1,r1,q1⟩:=hq2
 refine thn (hb pins s1 σ H1 _ I1 q1) fun u s2 hq3=>?_
 obtain⟨y,H2,I2,r2,q2⟩:=hq3
 exact hf v u s2 x y H2 I2 r1 r2 q2
def tVar (i:Nat):TE:=fun σ H Q=>∃ v,σ[i]?=some (some v)/\Q v H
def tC (v:V):TE:=fun _ H Q=>Q v H
theorem pe_var {i:Nat}{x:Str}{pos:Pos}(hN:X.N[i]?=some x)(hv:Vis X.env.scope x)(hd:(x==("__debug__" : Str))=false:=by decide)(hcd:(x==("__classdict__" : Str))=false:=by decide):PE X (.Name x pos) (tVar i):=by
 intro pins s σ H Q I h
 obtain⟨v,e,h⟩:=h
 obtain⟨m,hn,hl⟩:=I.loc
 obtain⟨u,r,l⟩:=hl i x v hN e hv
 have fin:EP X pins σ Q u s:=⟨v,H,I,r,h⟩
 rcases l with⟨hk,hm⟩ | ⟨hk,c,hc,hcell⟩
 ·exact wpAny_Name (wpAny_loadName_local I.ok.kind hk hn hm fin) hd
 ·rcases hk with hk | hk
  ·exact wpAny_Name (wpAny_loadName_cell I.ok.kind hk hc hcell fin) hd
  ·exact wpAny_Name (wpAny_loadName_free I.ok.kind hk hc hcell fin hcd) hd
theorem pe_int {i j pos}:PE X (.Constant (.int i) j pos) (tC (.int i)):=fun _ _ _ H _ I h=>wpAny_Constant_int ⟨.int i,H,I.tok _,⟨_,rfl⟩,h⟩
theorem pe_bl {b j pos}:PE X (.Constant (.bool b) j pos) (tC (.bl b)):=fun _ _ _ H _ I h=>Constant_bool ⟨.bl b,H,I,rfl,h⟩
theorem pe_non {j pos}:PE X (.Constant .none j pos) (tC .non):=fun _ _ _ H _ I h=>Constant_none ⟨.non,H,I,rfl,h⟩
theorem pe_str {x j pos}:PE X (.Constant (.str x) j pos) (tC (.str x)):=fun _ _ _ H _ I h=>cQ ⟨.str x,H,I.tok _,⟨_,rfl⟩,h⟩
def Gl (X:Cx)(x:Str):Prop:=X.env.kindOf x=some .globalImplicit
theorem ld_glob {E:Value->Shared->Prop}{pins:List (Addr×Obj)}{s:Shared}{σ:St}{H:Hp}{x:Str}{u:Value}{pos:Pos}{Q:Value->Shared->Prop}(I:Inv X pins σ H s)(hg:Gl X x)(hm:X.mg x=some u)(h:Q u s)
 (hd:(x==("__debug__" : Str))=false:=by decide):wpAny (model X.prog X.w) X.A (eval (.Name x pos) X.env) Q E s :=
 Calls.Name_function_global I.ok.kind hg (Calls.loadGlobal_global (by rw[I.ok.glob];exact I.mod.glob.keeps I.bk) hm h) hd
theorem ld_blt {E:Value->Shared->Prop}{pins:List (Addr×Obj)}{s:Shared}{σ:St}{H:Hp}{x:Str}{u:Value}{pos:Pos}{Q:Value->Shared->Prop}(I:Inv X pins σ H s)(hg:Gl X x)(hm:X.mg x=none)(hv:bootBuiltins x=some u)(h:Q u s)
 (hn:x ≠ "__name__":=by decide) (hd:(x==("__debug__" : Str))=false:=by decide):wpAny (model X.prog X.w) X.A (eval (.Name x pos) X.env) Q E s:=by
 obtain⟨mb,h1,h2⟩:=I.mod.blt
 exact Calls.Name_function_global I.ok.kind hg (Calls.loadGlobal_builtin (by rw[I.ok.glob];exact I.mod.glob.keeps I.bk) hm (by rw[I.ok.blt];exact h1.keeps I.bk) ((h2 x hn).trans hv) h) hd
theorem pe_glob {x:Str}{v:V}{u:Value}{pos:Pos}(hg:Gl X x)(hm:X.mg x=some u)(r:RelV v u)(hd:(x==("__debug__" : Str))=false:=by decide):PE X (.Name x pos) (tC v) :=
 fun _ _ _ H _ I h=>ld_glob I hg hm ⟨v,H,I,r,h⟩ hd
theorem pe_bltn {x:Str}{v:V}{u:Value}{pos:Pos}(hg:Gl X x)(hm:X.mg x=none)(hv:bootBuiltins x=some u)(r:RelV v u)(hn:x ≠ "__name__":=by decide)(hd:(x==("__debug__" : Str))=false:=by decide):PE X (.Name x pos) (tC v) :=
 fun _ _ _ H _ I h=>ld_blt I hg hm hv ⟨v,H,I,r,h⟩ hn hd
variable {a b:Expr}{ta tb:TE}{pos:Pos}
def PC (X:Cx)(op:CmpOp)(a b:Expr)(t:TE):Prop :=
 ∀(pins:List (Addr×Obj)) (s:Shared) (σ:St) (H:Hp) (Q:VK),Inv X pins σ H s->t σ H Q ->
  wpAny (model X.prog X.w) X.A (eval a X.env) (fun v s₁=>wpAny (model X.prog X.w) X.A (eval b X.env) (fun u s₂=>wpAny (model X.prog X.w) X.A (compareOp op v u) (EP X pins σ Q) X.xe s₂) X.xe s₁) X.xe s
theorem nobehind (b:Expr){op:CmpOp}(h:op≠.In)(h2:op≠.NotIn):behindInMarks op b=false:=by
 have e1:(op==CmpOp.In)=false:=by cases op <;> first | rfl | exact absurd rfl h
 have e2:(op==CmpOp.NotIn)=false:=by cases op <;> first | rfl | exact absurd rfl h2
 cases b <;> simp[behindInMarks,e1,e2]
def tIsN (ta:TE):TE:=fun σ H Q=>ta σ H fun x H1=>Q (.bl (decide (x=.non))) H1
theorem RelV.none_iff {x:V}{v:Value}(r:RelV x v):(v==Value.none)=decide (x=.non):=by
 cases x with
 | non=>cases r;rfl
 | bl _=>cases r;rfl
 | int _=>obtain⟨t,rfl⟩:=r;rfl
 | str _=>obtain⟨t,rfl⟩:=r;rfl
 | byt _=>obtain⟨t,rfl⟩:=r;rfl
 | flt _=>obtain⟨t,rfl⟩:=r;rfl
 | ref _=>cases r;rfl
 | ty _=>cases r;rfl
theorem pc_isN {j pos'}(ha:PE X a ta):PC X .Is a (.Constant .none j pos') (tIsN ta):=by
 intro pins s σ H Q I h
 refine thn (ha pins s σ H _ I h) fun v s1 hq4=>?_
 obtain⟨x,H1,I1,r1,q1⟩:=hq4
 exact Constant_none (is_none_gen ⟨.bl _,H1,I1,by rw[r1.none_iff];rfl,q1⟩)
def tB (t:TE):TT:=fun σ H Q=>t σ H fun x H1=>∃ c,x=.bl c/\Q c H1
theorem pt_cmp {op:CmpOp}{t:TE}(h:PC X op a b t)(h1:behindInMarks op b=false:=by first | exact nobehind _ (by decide) (by decide) | rfl):PT X (.Compare a [op] [b] pos) (tB t):=by
 intro pins s σ H Q I hw
 refine c7 (thn (h pins s σ H _ I hw) fun v s1 h1=>thn h1 fun u s2 h2=>thn h2 fun c s3 hq5=>?_) h1
 obtain⟨x,H1,I1,r1,q1⟩:=hq5
 obtain⟨d,rfl,q⟩:=q1
 cases r1
 exact bx ⟨H1,I1,q⟩
variable {tA tB':TT}{rest:List Expr}
def tAnd (t u:TT):TT:=fun σ H Q=>t σ H fun c H1=>if c=true then u σ H1 Q else Q false H1
def tOr (t u:TT):TT:=fun σ H Q=>t σ H fun c H1=>if c=true then Q true H1 else u σ H1 Q
def tNot (t:TT):TT:=fun σ H Q=>t σ H fun c H1=>Q (!c) H1
theorem pw_and1 (ha:PT X a tA):PW X (.BoolOp .And [a] pos) tA:=by
 intro wh pins s σ H Q I h
 refine isTrue_and (thn (ha pins s σ H Q I h) fun c s1 e=>?_)
 cases c with
 | true=>exact isTrue_and_nil e
 | false=>exact e
theorem pw_or1 (ha:PT X a tA):PW X (.BoolOp .Or [a] pos) tA:=by
 intro wh pins s σ H Q I h
 refine isTrue_or (thn (ha pins s σ H Q I h) fun c s1 e=>?_)
 cases c with
 | false=>exact isTrue_or_nil e
 | true=>exact e
theorem pw_and (ha:PT X a tA)(hb:PW X (.BoolOp .And (b::rest) pos) tB'):PW X (.BoolOp .And (a::b::rest) pos) (tAnd tA tB'):=by
 intro wh pins s σ H Q I h
 refine isTrue_and (thn (ha pins s σ H _ I h) fun c s1 hq6=>?_)
 obtain⟨H1,I1,q1⟩:=hq6
 cases c with
 | true=>exact hb wh pins s1 σ H1 Q I1 q1
 | false=>exact⟨H1,I1,q1⟩
theorem pw_or (ha:PT X a tA)(hb:PW X (.BoolOp .Or (b::rest) pos) tB'):PW X (.BoolOp .Or (a::b::rest) pos) (tOr tA tB'):=by
 intro wh pins s σ H Q I h
 refine isTrue_or (thn (ha pins s σ H _ I h) fun c s1 hq0=>?_)
 obtain⟨H1,I1,q1⟩:=hq0
 cases c with
 | true=>exact⟨H1,I1,q1⟩
 | false=>exact hb wh pins s1 σ H1 Q I1 q1
theorem pt_not (ha:PT X a tA):PT X (.UnaryOp .Not a pos) (tNot tA):=by
 intro pins s σ H Q I h
 exact isTrue_not (ha pins s σ H (fun c H1=>Q (!c) H1) I h)
theorem pe_one {op}{t:TE}(h:PE X a t):PE X (.BoolOp op [a] pos) t:=fun pins s σ H Q I hw=>BoolOp_one (h pins s σ H Q I hw)
def tIf (t:TT)(ta tb:TE):TE:=fun σ H Q=>t σ H fun c H1=>if c=true then ta σ H1 Q else tb σ H1 Q
theorem pe_ifExp {c:Expr}(hc:PT X c tA)(ha:PE X a ta)(hb:PE X b tb):PE X (.IfExp c a b pos) (tIf tA ta tb):=by
 intro pins s σ H Q I h
 refine wpAny_IfExp (thn (hc pins s σ H _ I h) fun d s1 hq1=>?_)
 obtain⟨H1,I1,q1⟩:=hq1
 cases d with
 | true=>exact ha pins s1 σ H1 Q I1 q1
 | false=>exact hb pins s1 σ H1 Q I1 q1
end
def SqL (K:PySem.W.Frag)(H:Hp)(a:Addr)(xs:List V):Prop :=
 Rd H a (.lst xs) \/
  ∃(o:Obj) (its:Array Value) (n:Nat),K.lookup a=some o/\o.cls=.type "list"/\o.dict=none/\o.data=.seq its n/\its.size<=sizeLine/\Vals xs its.toList
def SqT (K:PySem.W.Frag)(H:Hp)(a:Addr)(xs:List V):Prop :=
 Rd H a (.tup xs) \/
  ∃(o:Obj) (its:Array Value) (n:Nat),K.lookup a=some o/\o.cls=.type "tuple"/\o.data=.seq its n/\its.size<=sizeLine/\Vals xs its.toList
def absV:Value->Option V
 | .none=>some .non
 | .bool b=>some (.bl b)
 | .int i _=>some (.int i)
 | .str x _=>some (.str x)
 | .bytes b _=>some (.byt b)
 | .float b _=>some (.flt b)
 | .ref a=>some (.ref a)
 | .type n=>some (.ty n)
 | _=>none
theorem RelV.abs {x:V}{u:Value}(r:RelV x u):absV u=some x:=by
 cases x with
 | non=>cases r;rfl
 | bl _=>cases r;rfl
 | int _=>obtain⟨t,rfl⟩:=r;rfl
 | str _=>obtain⟨t,rfl⟩:=r;rfl
 | byt _=>obtain⟨t,rfl⟩:=r;rfl
 | flt _=>obtain⟨t,rfl⟩:=r;rfl
 | ref _=>cases r;rfl
 | ty _=>cases r;rfl
theorem RelV.inj {x y:V}{u:Value}(r:RelV x u)(q:RelV y u):x=y:=aV (r.abs.symm.trans q.abs)
theorem Vals.inj {xs ys:List V}{us:List Value}(h:Vals xs us)(g:Vals ys us):xs=ys:=by
 induction h generalizing ys with
 | nil=>cases g;rfl
 | cons r t ih =>
  cases g with
  | cons r' t'=>rw[r.inj r',ih t']
section
variable {X:Cx}{pins:List (Addr×Obj)}{σ:St}{H:Hp}{s:Shared}{a:Addr}{xs ys:List V}
theorem SqL.of {K:PySem.W.Frag}(h:H a=some (.lst xs)):SqL K H a xs:=.inl (.inl h)
theorem SqT.of {K:PySem.W.Frag}(h:H a=some (.tup xs)):SqT K H a xs:=.inl (.inl h)
theorem Inv.list (I:Inv X pins σ H s)(h:SqL X.K H a xs):∃ its:List Value,Vals xs its/\PlainL s.heap a its.toArray/\xs.length<=sizeLine:=by
 rcases h with h | ⟨o,its,n,hk,hc,hd,hs,hz,r⟩
 ·obtain⟨z,its,n,r,e⟩:=h.ok I.hok
  exact⟨its,r,⟨_,n,e,rfl,rfl,rfl⟩,z⟩
 ·refine⟨its.toList,r,⟨o,n,I.kIn a o hk,hc,hd,by simpa using hs⟩,?_⟩
  have e:=r.length
  simp only[Array.length_toList]at e
  omega
theorem Inv.tuple (I:Inv X pins σ H s)(h:SqT X.K H a xs):∃ its:List Value,Vals xs its/\IsTup s.heap a its.toArray/\xs.length<=sizeLine:=by
 rcases h with h | ⟨o,its,n,hk,hc,hs,hz,r⟩
 ·obtain⟨z,its,r,p⟩:=h.ok I.hok
  exact⟨its,r,p,z⟩
 ·refine⟨its.toList,r,⟨o,I.kIn a o hk,hc,n,by simpa using hs⟩,?_⟩
  have e:=r.length
  simp only[Array.length_toList]at e
  omega
theorem Inv.list_inj (I:Inv X pins σ H s)(h:SqL X.K H a xs)(h':SqL X.K H a ys):xs=ys:=by
 obtain⟨its,r,⟨o,n,e,_,_,d⟩,_⟩:=I.list h
 obtain⟨its',r',⟨o',n',e',_,_,d'⟩,_⟩:=I.list h'
 rw[e]at e';cases e'
 rw[d]at d'
 injection d' with d1 _
 have:its=its':=by simpa using bg Array.toList d1
 subst this
 exact r.inj r'
end
abbrev Cx.wish (X:Cx)(E:Value->Shared->Prop):Cx:={ X with xe:=E}
abbrev Cx.nox (X:Cx):Cx:=X.wish fun _ _=>False
theorem Cx.Ok.wish {X:Cx}(ok:X.Ok)(E:Value->Shared->Prop):(X.wish E).Ok :=
 ⟨ok.mod,ok.kind,ok.glob,ok.blt,ok.above,ok.inj,ok.has,ok.cab,ok.hd,ok.frames,ok.stk,ok.exf,ok.bs,ok.bsz,ok.noex,ok.exfs,ok.funs,ok.frf⟩
theorem Cx.Ok.unwish {X:Cx}{E:Value->Shared->Prop}(ok:(X.wish E).Ok):X.Ok :=
 ⟨ok.mod,ok.kind,ok.glob,ok.blt,ok.above,ok.inj,ok.has,ok.cab,ok.hd,ok.frames,ok.stk,ok.exf,ok.bs,ok.bsz,ok.noex,ok.exfs,ok.funs,ok.frf⟩
section
variable {X:Cx}{pins:List (Addr×Obj)}{σ:St}{H:Hp}{s:Shared}{E:Value->Shared->Prop}
theorem Inv.wish (I:Inv X pins σ H s)(E:Value->Shared->Prop):Inv (X.wish E) pins σ H s:=⟨I.ok.wish E,I.os,I.bare,I.base,I.loc,I.cell,I.free,I.freeC,I.pin,I.hok,I.len⟩
theorem Inv.unwish (I:Inv (X.wish E) pins σ H s):Inv X pins σ H s:=⟨I.ok.unwish,I.os,I.bare,I.base,I.loc,I.cell,I.free,I.freeC,I.pin,I.hok,I.len⟩
theorem SP.unwish {D:Ends}{f:Flow}{s':Shared}(h:SP (X.wish E) pins D f s'):SP X pins D f s':=by
 cases f with
 | next=>obtain⟨σ',H',I,q⟩:=h;exact⟨σ',H',I.unwish,q⟩
 | brk=>obtain⟨σ',H',I,q⟩:=h;exact⟨σ',H',I.unwish,q⟩
 | cont=>obtain⟨σ',H',I,q⟩:=h;exact⟨σ',H',I.unwish,q⟩
 | ret u=>obtain⟨v,σ',H',I,r,q⟩:=h;exact⟨v,σ',H',I.unwish,r,q⟩
theorem PSs.nox {st:List Stmt}{t:TS}(h:PSs X.nox st t):PSs X st t:=fun pins s σ H D I hw =>
 bz (h pins s σ H D (I.wish _) hw) (fun _ _ q=>q.unwish) fun _ _ z=>False.elim z
end
section
variable {X:Cx}{st:Stmt}{rest:List Stmt}{t u:TS}{e:Expr}{te:TE}{pos:Pos}
def tNext:TS:=fun D σ H=>D.nx σ H
def tSeq (t u:TS):TS:=fun D σ H=>t { D with nx:=u D} σ H
theorem pss_nil:PSs X [] tNext:=fun _ _ σ H _ I h=>cJ ⟨σ,H,I,h⟩
theorem pss_cons (h1:PS X st t)(h2:PSs X rest u):PSs X (st::rest) (tSeq t u):=by
 intro pins s σ H D I h
 refine cz (thn (h1 pins s σ H { D with nx:=u D} I h) fun f s1 q=>?_)
 cases f with
 | next =>
  obtain⟨σ',H',I',q⟩:=q
  exact h2 pins s1 σ' H' D I' q
 | ret v=>exact q
 | brk=>exact q
 | cont=>exact q
theorem pss_one (h1:PS X st t):PSs X [st] t:=by
 intro pins s σ H D I h
 refine cz (thn (h1 pins s σ H D I h) fun f s1 q=>?_)
 cases f with
 | next=>exact cJ q
 | ret v=>exact q
 | brk=>exact q
 | cont=>exact q
theorem Inv.quiet {pins:List (Addr×Obj)}{σ:St}{H:Hp}{s:Shared}(I:Inv X pins σ H s):interactive X.env=false:=by simp[interactive,I.ok.kind]
def tDrop (te:TE):TS:=fun D σ H=>te σ H fun _ H1=>D.nx σ H1
theorem ps_expr (he:PE X e te)(hs:swapsWith e none pos.line X.env=pure false:=by rfl):PS X (.Expr e pos) (tDrop te):=by
 intro pins s σ H D I h
 exact wpAny_Expr_any (thn (he pins s σ H _ I h) fun v s1 hq2=>by obtain⟨x,H1,I1,r1,q1⟩:=hq2;exact⟨σ,H1,I1,q1⟩) I.quiet hs
def tRet (te:TE):TS:=fun D σ H=>te σ H D.rt
theorem ps_ret (he:PE X e te):PS X (.Return (some e) pos) (tRet te):=by
 intro pins s σ H D I h
 exact wpAny_Return_some (thn (he pins s σ H _ I h) fun v s1 hq3=>by obtain⟨x,H1,I1,r1,q1⟩:=hq3;exact⟨x,σ,H1,I1,r1,q1⟩)
def tIfS (c:TT)(t u:TS):TS:=fun D σ H=>c σ H fun b H1=>if b=true then t D σ H1 else u D σ H1
theorem ps_if {c:Expr}{a b:List Stmt}{tc:TT}(hc:PT X c tc)(ha:PSs X a t)(hb:PSs X b u):PS X (.If c a b pos) (tIfS tc t u):=by
 intro pins s σ H D I h
 refine wpAny_If (thn (hc pins s σ H _ I h) fun d s1 hq4=>?_)
 obtain⟨H1,I1,q1⟩:=hq4
 cases d with
 | true=>exact ha pins s1 σ H1 D I1 q1
 | false=>exact hb pins s1 σ H1 D I1 q1
end
abbrev TG:=V->St->Hp->(St->Hp->Prop)->Prop
abbrev TGs:=List V->St->Hp->(St->Hp->Prop)->Prop
def PG (X:Cx)(target:Expr)(t:TG):Prop :=
 ∀(pins:List (Addr×Obj)) (s:Shared) (σ:St) (H:Hp) (v:V) (u:Value) (Q:St->Hp->Prop),Inv X pins σ H s->RelV v u->t v σ H Q ->
  wpAny (model X.prog X.w) X.A (assign target X.env u) (fun _ s'=>∃ σ' H',Inv X pins σ' H' s'/\Q σ' H') X.xe s
def PGs (X:Cx)(ts:List Expr)(t:TGs):Prop :=
 ∀(pins:List (Addr×Obj)) (s:Shared) (σ:St) (H:Hp) (vs:List V) (us:List Value) (Q:St->Hp->Prop),Inv X pins σ H s->Vals vs us->t vs σ H Q ->
  wpAny (model X.prog X.w) X.A (assignInOrder ((assignEach ts X.env).map (·.2)) us) (fun _ s'=>∃ σ' H',Inv X pins σ' H' s'/\Q σ' H') X.xe s
abbrev TSet:=V->V->V->Hp->(Hp->Prop)->Prop
def PSet (X:Cx)(t:TSet):Prop :=
 ∀(pins:List (Addr×Obj)) (s:Shared) (σ:St) (H:Hp) (o i v:V) (ov iv u:Value) (Q:Hp->Prop),Inv X pins σ H s->RelV o ov->RelV i iv->RelV v u->t o i v H Q ->
  wpAny (model X.prog X.w) X.A (setItem ov iv u) (fun _ s'=>∃ H',Inv X pins σ H' s'/\Q H') X.xe s
abbrev TIp:=V->V->Hp->VK->Prop
def PIp (X:Cx)(op:Operator)(t:TIp):Prop :=
 ∀(pins:List (Addr×Obj)) (s:Shared) (σ:St) (H:Hp) (x y:V) (v u:Value) (Q:VK),Inv X pins σ H s->RelV x v->RelV y u->t x y H Q ->
  wpAny (model X.prog X.w) X.A (inplaceOp op v u) (EP X pins σ Q) X.xe s
section
variable {X:Cx}{pos:Pos}
def gName (i:Nat):TG:=fun v σ H Q=>Q (σ.set i (some v)) H
theorem pg_name {i:Nat}{x:Str}(hN:X.N.Nodup)(hi:X.N[i]?=some x)(hx:Loc X.env.scope x)(hf:X.fn x=true\/X.env.scope.names.lookup x=some .local:=by first | exact .inl rfl | exact .inr rfl | assumption):PG X (.Name x pos) (gName i):=by
 intro pins s σ H v u Q I r h
 exact wpAny_assign_Name (store_ok I hN hi hx r (fun s' I'=>⟨_,H,I',h⟩) hf)
def gNil:TGs:=fun vs σ H Q=>vs=[]/\Q σ H
def gCons (t:TG)(u:TGs):TGs:=fun vs σ H Q=>∃ v r,vs=v::r/\t v σ H fun σ' H'=>u r σ' H' Q
theorem pgs_nil:PGs X [] gNil:=by
 intro pins s σ H vs us Q I r h
 obtain⟨e,h⟩:=h
 subst e
 cases r
 exact assignInOrder_nil ⟨σ,H,I,h⟩
theorem pgs_cons {e:Expr}{es:List Expr}{t:TG}{u:TGs}(h1:PG X e t)(h2:PGs X es u)
 (hs:(assignEach (e::es) X.env).map (·.2)=assign e X.env::(assignEach es X.env).map (·.2):=by rfl):PGs X (e::es) (gCons t u):=by
 intro pins s σ H vs us Q I r h
 obtain⟨v,vr,e1,h⟩:=h
 subst e1
 cases r with
 | cons r rr =>
  rw[hs]
  refine assignInOrder_cons (thn (h1 pins s σ H _ _ _ I r h) fun _ s1 hq5=>?_)
  obtain⟨σ1,H1,I1,q1⟩:=hq5
  exact h2 pins s1 σ1 H1 _ _ Q I1 rr q1
def gTup (K:PySem.W.Frag)(n:Nat)(t:TGs):TG:=fun v σ H Q=>∃ a xs,v=.ref a/\SqT K H a xs/\xs.length=n/\t xs σ H Q
theorem pg_tup {es:List Expr}{k:Nat}{t:TGs}{n:Nat}(hc:X.calm=true)(h:PGs X es t)
 (hn:(assignEach es X.env).length=n:=by rfl) (hst:(assignEach es X.env).findIdx? (·.1)=none:=by rfl):PG X (.Tuple es k pos) (gTup X.K n t):=by
 intro pins s σ H v u Q I r hw
 obtain⟨a,xs,e1,hq,hl,hw⟩:=hw
 subst e1
 cases r
 obtain⟨its,rv,ht,hz⟩:=I.tuple hq
 refine assign_Tuple_tuple (I.ok.hd hc) ht (by simp[hn,<- hl,rv.length]) hst fun h' hx=>?_
 have I1:Inv X pins σ H { s with heap:=h'}:=I.kept (t':=s.toks) fun b o e=>hx b o (aF (gxN e)) e
 exact h pins _ σ H xs _ Q I1 (by simpa using rv) hw
def gSub (to ti:TE)(t:TSet):TG:=fun v σ H Q=>to σ H fun o H1=>ti σ H1 fun i H2=>t o i v H2 fun H3=>Q σ H3
theorem pg_sub {o i:Expr}{to ti:TE}{t:TSet}(ho:PE X o to)(hi:PE X i ti)(hs:PSet X t)
 (ha:∀ v,assign (.Subscript o i pos) X.env v=(do
   let ov <- holding [v] (eval o X.env)
   let iv <- holding [v,ov] (eval i X.env)
   standAt pos
   holding [v,ov,iv] (setItem ov iv v)
   release [v,ov,iv] []):=by intro _;rfl):PG X (.Subscript o i pos) (gSub to ti t):=by
 intro pins s σ H v u Q I r h
 rw[ha]
 refine gxM (bh (thn (ho pins s σ H _ I h) fun ov s1 hq6=>?_))
 obtain⟨x,H1,I1,r1,q1⟩:=hq6
 refine gxM (bh (thn (hi pins s1 σ H1 _ I1 q1) fun iv s2 hq0=>?_))
 obtain⟨y,H2,I2,r2,q2⟩:=hq0
 refine gxM (wpAny_standAt (gxM (bh (thn (hs pins s2 σ H2 x y v ov iv u _ I2 r1 r2 r q2) fun _ s3 hq1=>?_))))
 obtain⟨H3,I3,q3⟩:=hq1
 exact wpAny_release ⟨σ,H3,I3,q3⟩
def tAsg (te:TE)(g:TG):TS:=fun D σ H=>te σ H fun x H1=>g x σ H1 D.nx
theorem ps_asg {tg e:Expr}{te:TE}{g:TG}(he:PE X e te)(hg:PG X tg g)(hs:swapsWithSole [tg] e pos.line X.env=pure false:=by rfl)(hw:swappedStores [tg] e X.env=pure none:=by rfl)
 (h1:(assignEach [tg] X.env).map (·.2)=[assign tg X.env]:=by rfl):PS X (.Assign [tg] e pos) (tAsg te g):=by
 intro pins s σ H D I h
 refine wpAny_Assign_stores (thn (he pins s σ H _ I h) fun v s1 hq2=>?_) hs hw
 obtain⟨x,H1,I1,r1,q1⟩:=hq2
 rw[h1]
 exact thn (hg pins s1 σ H1 x v _ I1 r1 q1) fun _ s2 q=>q
theorem ps_set {i:Nat}{x:Str}{e:Expr}{te:TE}{pos':Pos}(hN:X.N.Nodup)(hi:X.N[i]?=some x)(hx:Loc X.env.scope x)(he:PE X e te)(hs:swapsWith e (some (.Name x pos')) pos.line X.env=pure false:=by rfl)(hf:X.fn x=true\/X.env.scope.names.lookup x=some .local:=by first | exact .inl rfl | exact .inr rfl | assumption) :
 PS X (.Assign [.Name x pos'] e pos) (tAsg te (gName i)):=by
 intro pins s σ H D I h
 refine wpAny_Assign_Name (thn (he pins s σ H _ I h) fun v s1 hq3=>?_) hs
 obtain⟨y,H1,I1,r1,q1⟩:=hq3
 exact store_ok I1 hN hi hx r1 (fun s2 I2=>⟨_,H1,I2,q1⟩) hf
def tAugS (to ti te:TE)(tget:V->V->Hp->VK->Prop)(tip:TIp)(tset:TSet):TS:=fun D σ H=>to σ H fun o H1=>ti σ H1 fun i H2=>tget o i H2 fun x H3=>te σ H3 fun y H4=>tip x y H4 fun z H5=>tset o i z H5 fun H6=>D.nx σ H6
def PGet (X:Cx)(t:V->V->Hp->VK->Prop):Prop :=
 ∀(pins:List (Addr×Obj)) (s:Shared) (σ:St) (H:Hp) (o i:V) (ov iv:Value) (Q:VK),Inv X pins σ H s->RelV o ov->RelV i iv->t o i H Q ->
  wpAny (model X.prog X.w) X.A (getItem ov iv) (EP X pins σ Q) X.xe s
theorem ps_augS {o i e:Expr}{to ti te:TE}{tget:V->V->Hp->VK->Prop}{tip:TIp}{tset:TSet}{op:Operator}{tpos:Pos}(ho:PE X o to)(hi:PE X i ti)(hg:PGet X tget)(he:PE X e te)(hp:PIp X op tip)(hs:PSet X tset)
 (ha:∀ ov iv new,augStore i ov iv new=(do holding [new,ov,iv] (setItem ov iv new);release [new,ov,iv] [];pure .next):=by intros;rfl):PS X (.AugAssign (.Subscript o i tpos) op e pos) (tAugS to ti te tget tip tset):=by
 intro pins s σ H D I h
 refine wpAny_AugAssign_SubscriptAny (thn (ho pins s σ H _ I h) fun ov s1 hq4=>?_) ha
 obtain⟨x1,H1,I1,r1,q1⟩:=hq4
 refine thn (hi pins s1 σ H1 _ I1 q1) fun iv s2 hq5=>?_
 obtain⟨x2,H2,I2,r2,q2⟩:=hq5
 refine thn (hg pins s2 σ H2 x1 x2 ov iv _ I2 r1 r2 q2) fun old s3 hq6=>?_
 obtain⟨x3,H3,I3,r3,q3⟩:=hq6
 refine thn (he pins s3 σ H3 _ I3 q3) fun v s4 hq0=>?_
 obtain⟨x4,H4,I4,r4,q4⟩:=hq0
 refine thn (hp pins s4 σ H4 x3 x4 old v _ I4 r3 r4 q4) fun new s5 hq1=>?_
 obtain⟨x5,H5,I5,r5,q5⟩:=hq1
 exact thn (hs pins s5 σ H5 x1 x2 x5 ov iv new _ I5 r1 r2 r5 q5) fun _ s6 hq2=>by obtain⟨H6,I6,q6⟩:=hq2;exact⟨σ,H6,I6,q6⟩
def ipI (f:Int->Int->Int):TIp:=fun x y H Q=>∃ i j,x=.int i/\y=.int j/\Q (.int (f i j)) H
theorem ip_add:PIp X .Add (ipI fun i j=>i+j):=by
 intro pins s σ H x y v u Q I r1 r2 h
 obtain⟨i,j,e1,e2,q⟩:=h
 subst e1;subst e2
 obtain⟨t,rfl⟩:=r1
 obtain⟨t',rfl⟩:=r2
 exact iadd_int ⟨.int _,H,I.tok _,⟨_,rfl⟩,q⟩
end
section
variable {X:Cx}{pos:Pos}
def tWhile (c:TT)(tb:TS):TS:=fun D σ H=>∃ W:Nat->St->Hp->Prop,(∃ m,W m σ H)/\∀ m σ H,W m σ H ->
 c σ H fun b H1=>if b=true then ∃ N:St->Hp->Prop,(∀ σ' H',N σ' H'->∃ m',m'<m/\W m' σ' H')/\tb { D with nx:=N,ct:=N,bk:=D.nx} σ H1 else D.nx σ H1
theorem ps_while {c:Expr}{body:List Stmt}{tc:TT}{tb:TS}(hp:PassesOwn (model X.prog X.w) X.A X.env X.xe)(hc:PT X c tc)(hb:PSs X body tb):PS X (.While c body [] pos) (tWhile tc tb):=by
 intro pins s σ H D I h
 obtain⟨W,⟨m0,w0⟩,turn⟩:=h
 refine wpAny_While (codeAny_whileLoop (fun n s'=>∃ σ' H',Inv X pins σ' H' s'/\W n σ' H') ?_ m0 ⟨σ,H,I,w0⟩)
 rintro n s1 ⟨σ1,H1,I1,w1⟩
 refine bW hp (thn (hc pins s1 σ1 H1 _ I1 (turn n σ1 H1 w1)) fun b s2 hq3=>?_)
 obtain⟨H2,I2,q2⟩:=hq3
 cases b with
 | true =>
  obtain⟨N,hN,q2⟩:=q2
  rw[aE rfl]
  refine bW hp (thn (hb pins s2 σ1 H2 _ I2 q2) fun f s3 q3=>?_)
  cases f with
  | next =>
   obtain⟨σ3,H3,I3,n3⟩:=q3
   obtain⟨m',hm,w3⟩:=hN σ3 H3 n3
   exact⟨m',hm,σ3,H3,I3,w3⟩
  | cont =>
   obtain⟨σ3,H3,I3,n3⟩:=q3
   obtain⟨m',hm,w3⟩:=hN σ3 H3 n3
   exact⟨m',hm,σ3,H3,I3,w3⟩
  | brk=>exact q3
  | ret v=>exact q3
 | false =>
  rw[ai ag]
  exact cJ ⟨σ1,H2,I2,q2⟩
end
structure It where
 go:Nat->Hp->Prop
 yld:Nat->Hp->V->Hp->Prop
 stop:Nat->Hp->Prop
def FpOk (X:Cx)(pins:List (Addr×Obj))(H:Hp)(b:Addr):Prop :=
 H b=none/\b≠X.env.locals/\b∉X.fs/\(b∈X.ex\/X.s₀.heap.objs.size<=b)/\(∀ x c,X.env.cells.lookup x=some c->c≠b)/\∀ p∈X.pn++pins,p.1≠b
theorem Inv.fpOk {X:Cx}{pins:List (Addr×Obj)}{σ:St}{H H':Hp}{s:Shared}{b:Addr}(I:Inv X pins σ H s)(hb:s.heap.objs.size<=b)(hn:H' b=none):FpOk X pins H' b:=by
 refine⟨hn,bC (aw I.lt hb),I.nofs hb,.inr (aD I.sz hb),fun x c e z=>?_,fun p hp z=>?_⟩
 ·obtain⟨v,q⟩:=I.cell x c e
  exact absurd (aw q.lt (by rw[z];exact hb)) (bo _)
 ·exact absurd (aw (gxN (I.pin p hp).1) (by rw[z];exact hb)) (bo _)
structure Turn (P:Program)(w:World)(K:PySem.W.Frag)(tg:Expr)(J:It)(fp:List Addr)(it:Addr)(tn:Nat->Heap->Prop)(CM:Cx->Prop:=fun X=>X.calm=true):Prop where
 mem:it∈fp
 obj:∀ i h,tn i h->∀ b∈fp,∃ o,h.get? b=some o/\∀ v,o.data≠.cell v
 keep:∀ i h h',tn i h->(∀ b∈fp,∀ o,h.get? b=some o->h'.get? b=some o)->tn i h'
 item:∀(X:Cx),X.prog=P->X.w=w->X.K=K->CM X->∀(i:Nat) (pins:List (Addr×Obj)) (s:Shared) (σ:St) (H:Hp) (E:Value->Shared->Prop),Inv X pins σ H s->(∀ b∈fp,FpOk X pins H b)->tn i s.heap->J.go i H ->
  wpAny (model P w) X.A (pyNext (.ref it)) (fun r s1=>∃ u,r=some u /\
   wpAny (model P w) X.A (letOwnedTupleGo tg (.ref it) u) (fun _ s2=>∃ x H',Inv X pins σ H' s2/\RelV x u/\J.yld i H x H'/\tn (i+1) s2.heap/\∀ b∈fp,H' b=none) E s1) E s
 done:∀(X:Cx),X.prog=P->X.w=w->X.K=K->CM X->∀(i:Nat) (pins:List (Addr×Obj)) (s:Shared) (σ:St) (H:Hp) (E:Value->Shared->Prop),Inv X pins σ H s->(∀ b∈fp,FpOk X pins H b)->tn i s.heap->J.stop i H ->
  wpAny (model P w) X.A (pyNext (.ref it)) (fun r s1=>r=none/\Inv X pins σ H s1) E s
 self:∀(A:Around) (i:Nat) (s:Shared) (Q:Value->Shared->Prop) (E:Value->Shared->Prop),tn i s.heap->Q (.ref it) s->wpAny (model P w) A (pyIter (.ref it)) Q E s
abbrev TI:=St->Hp->(It->Hp->Prop)->Prop
def PIE (X:Cx)(pins:List (Addr×Obj))(σ:St)(tg:Expr)(R:It->Hp->Prop)(itv:Value)(s2:Shared):Prop :=
 ∃(it:Addr) (fp:List Addr) (tn:Nat->Heap->Prop) (J:It) (H':Hp),itv=.ref it/\Inv X pins σ H' s2/\Turn X.prog X.w X.K tg J fp it tn/\tn 0 s2.heap/\(∀ b∈fp,FpOk X pins H' b)/\R J H'
def PI (X:Cx)(tg iter:Expr)(wi:TI):Prop :=
 ∀(pins:List (Addr×Obj)) (s:Shared) (σ:St) (H:Hp) (R:It->Hp->Prop),Inv X pins σ H s->wi σ H R ->
  wpAny (model X.prog X.w) X.A (eval iter X.env) (fun v s1=>wpAny (model X.prog X.w) X.A (pyIter v) (PIE X pins σ tg R) X.xe s1) X.xe s
theorem go_of {M:Model}{A:Around}{E:Value->Shared->Prop}{s:Shared}{tg:Expr}{it:Addr}{u:Value}{o:Obj}{n:String}{vs:Array Value}{Q:Unit->Shared->Prop}(ho:s.heap.get? it=some o)(hc:o.cls=.type n)(hd:o.data=.fields vs)
 (hn:["enumerate", "zip", "dict_itemiterator", "dict_reverseitemiterator", "odict_iterator", "itertools.zip_longest", "itertools.pairwise"].contains n=false) (hQ:Q () s):wpAny M A (letOwnedTupleGo tg (.ref it) u) Q E s:=by
 unfold letOwnedTupleGo
 cases tg <;> first
  | exact ao hQ
  | (cases u <;> first
      | exact ao hQ
      | (refine gxM (wpAny_load ho ?_)
         rw[hc,hd]
         show wpAny M A (if(["enumerate", "zip", "dict_itemiterator", "dict_reverseitemiterator", "odict_iterator", "itertools.zip_longest", "itertools.pairwise"].contains n&&vs[0]?==some (rawInt _))=true then _ else _) Q E s
         rw[ai (by intro h;rw[hn,Bool.false_and]at h;cases h)]
         exact ao hQ))
def Itl (K:PySem.W.Frag)(a:Addr):It :=
 ⟨fun i H=>∃ xs x,SqL K H a xs/\xs[i]?=some x,fun i H x H'=>H'=H/\∀ xs,SqL K H a xs->xs[i]?=some x,fun i H=>∃ xs,SqL K H a xs/\xs.length<=i⟩
def Itr (lo:Int)(n:Nat):It:=⟨fun i _=>i<n,fun i H x H'=>H'=H/\x=.int (lo+i),fun i _=>n<=i⟩
theorem turn_list {P:Program}{w:World}{K:PySem.W.Frag}{tg:Expr}(a it:Addr):Turn P w K tg (Itl K a) [it] it (fun i h=>h.IsListIter it a i) where
 mem:=by simp
 obj:=fun i h st b hb=>by
  have e:b=it:=by simpa using hb
  subst e
  obtain⟨o,e,c,d⟩:=st
  exact⟨o,e,fun v z=>by rw[d]at z;cases z⟩
 keep:=fun i h h' st k=>st.at fun o e=>k it (by simp) o e
 item:=by
  intro X hP hw hK hc i pins s σ H E I hf st hg
  subst hP hw hK
  obtain⟨xs,x,hq,hx⟩:=hg
  obtain⟨its,rv,p,hz⟩:=I.list hq
  obtain⟨u,hu,ru⟩:=rv.get hx
  obtain⟨f0,f1,f2,f3,f4,f5⟩:=hf it (by simp)
  refine wpAny_pyNext_list_item st p.isList (x:=u) (by simpa using hu) fun h' st' sb=>?_
  have I1:Inv X pins σ H { s with heap:=h'}:=I.turned (t':=s.toks) (fun b o hb e=>(sb.2 b hb).trans e) f0 f1 f3 f4 f5
  obtain⟨o,e,c,d⟩:=id st'
  exact⟨u,rfl,go_of (s:={ s with heap:=h'}) e c d (by decide) ⟨x,H,I1,ru,⟨rfl,fun ys hy=>by rw[I.list_inj hy hq];exact hx⟩,st',fun b hb=>(hf b hb).1⟩⟩
 done:=by
  intro X hP hw hK hc i pins s σ H E I hf st hg
  subst hP hw hK
  obtain⟨xs,hq,hx⟩:=hg
  obtain⟨its,rv,p,hz⟩:=I.list hq
  obtain⟨f0,f1,f2,f3,f4,f5⟩:=hf it (by simp)
  have hl:=rv.length
  exact wpAny_pyNext_list_end (I.ok.hd hc) st p.isList (by simp;omega) fun h' eb=>⟨rfl,I.turned (t':=s.toks) (fun b o hb e=>eb b o hb e) f0 f1 f3 f4 f5⟩
 self:=fun _ _ _ _ _ st h=>wpAny_pyIter_listiter st h
theorem turn_range {P:Program}{w:World}{K:PySem.W.Frag}{tg:Expr}(it:Addr)(lo:Int)(n:Nat):Turn P w K tg (Itr lo n) [it] it (fun i h=>IsRangeIter h it (lo+(i:Nat)*1) ((n:Int) - (i:Nat)) 1) where
 mem:=by simp
 obj:=fun i h st b hb=>by
  have e:b=it:=by simpa using hb
  subst e
  exact⟨_,st,fun v z=>by
   have z':Data.fields _=Data.cell v:=z
   cases z'⟩
 keep:=fun i h h' st k=>k it (by simp) _ st
 item:=by
  intro X hP hw hK hc i pins s σ H E I hf st hg
  subst hP hw hK
  obtain⟨f0,f1,f2,f3,f4,f5⟩:=hf it (by simp)
  have W:=Walks.range (prog:=X.prog) (w:=X.w) (I.ok.hd hc) it lo 1 n
  refine W.item i s _ _ hg st fun v h' tk hv st' kk=>?_
  obtain⟨t,rfl⟩:=hv
  have I1:Inv X pins σ H { s with heap:=h',toks:=tk}:=I.turned (fun b o hb e=>kk b o (by simpa using hb) e) f0 f1 f3 f4 f5
  refine⟨_,rfl,go_of (s:={ s with heap:=h',toks:=tk}) (n := "range_iterator") st' rfl rfl (by decide) ⟨.int (lo+i),H,I1,⟨t,?_⟩,⟨rfl,rfl⟩,st',fun b hb=>(hf b hb).1⟩⟩
  rw[Int.mul_one]
 done:=by
  intro X hP hw hK hc i pins s σ H E I hf st hg
  subst hP hw hK
  obtain⟨f0,f1,f2,f3,f4,f5⟩:=hf it (by simp)
  exact wpAny_pyNext_range_end (I.ok.hd hc) st (by have:n<=i:=hg;omega) fun h' eb=>⟨rfl,I.turned (t':=s.toks) (fun b o hb e=>eb b o hb e) f0 f1 f3 f4 f5⟩
 self:=fun _ _ _ _ _ st h=>wpAny_pyIter_rangeiter st h
section
variable {X:Cx}{tg:Expr}
def iList (K:PySem.W.Frag)(tl:TE):TI:=fun σ H R=>tl σ H fun x H1=>∃ a,x=.ref a/\(∃ xs,SqL K H1 a xs)/\R (Itl K a) H1
theorem pi_list {l:Expr}{tl:TE}(hl:PE X l tl):PI X tg l (iList X.K tl):=by
 intro pins s σ H R I h
 refine thn (hl pins s σ H _ I h) fun v s1 hq4=>?_
 obtain⟨x,H1,I1,r1,q1⟩:=hq4
 obtain⟨a,e,⟨xs,hq⟩,q⟩:=q1
 subst e
 cases r1
 obtain⟨its,rv,p,hz⟩:=I1.list hq
 refine wpAny_pyIter_list p.isList ?_
 refine⟨s1.heap.objs.size,[s1.heap.objs.size],_,_,H1,rfl,I1.kept (t':=s1.toks) fun b o e=>gxL _ e,turn_list a _,⟨_,aj _ rfl,rfl,rfl⟩,fun b hb=>?_,q⟩
 have e:b=s1.heap.objs.size:=by simpa using hb
 subst e
 exact I1.fpOk (aa _) (I1.hok.fresh (aa _))
def tFor (wi:TI)(g:TG)(tb:TS):TS:=fun D σ H=>wi σ H fun J H1=>∃ W:Nat->Nat->St->Hp->Prop,(∃ m,W 0 m σ H1)/\∀ i m σ H,W i m σ H ->
 (J.stop i H/\D.nx σ H)\/(J.go i H/\∃ N:St->Hp->Prop,(∀ σ' H',N σ' H'->∃ m',m'<m/\W (i+1) m' σ' H')/\∀ x H',J.yld i H x H'->g x σ H' fun σ2 H2=>tb { D with nx:=N,ct:=N,bk:=D.nx} σ2 H2)
def pinsAt (fp:List Addr)(h:Heap):List (Addr×Obj):=fp.filterMap fun b=>(h.get? b).map fun o=>(b,o)
theorem mem_pinsAt {fp:List Addr}{h:Heap}{b:Addr}{o:Obj}(hb:b∈fp)(e:h.get? b=some o):(b,o)∈pinsAt fp h:=List.mem_filterMap.mpr ⟨b,hb,by rw[e];rfl⟩
theorem of_pinsAt {fp:List Addr}{h:Heap}{p:Addr×Obj}(hp:p∈pinsAt fp h):p.1∈fp/\h.get? p.1=some p.2:=by
 obtain⟨b,hb,e⟩:=List.mem_filterMap.mp hp
 cases q:h.get? b with
 | none=>rw[q]at e;cases e
 | some o =>
  rw[q]at e
  have e':(b,o)=p:=aV e
  subst e'
  exact⟨hb,q⟩
theorem Inv.pinned {pins:List (Addr×Obj)}{σ:St}{H:Hp}{s:Shared}{fp:List Addr}(I:Inv X pins σ H s)(hf:∀ b∈fp,FpOk X pins H b)(ho:∀ b∈fp,∃ o,s.heap.get? b=some o/\∀ v,o.data≠.cell v):Inv X (pins++pinsAt fp s.heap) σ H s :=
 I.pins_of fun p hp=>(List.mem_append.mp hp).elim (fun z=>I.pin p (aN _ z)) fun z=>by
  obtain⟨hb,e⟩:=of_pinsAt z
  obtain⟨f0,f1,f2,_⟩:=hf p.1 hb
  obtain⟨o,e',d⟩:=ho p.1 hb
  rw[e]at e';cases e'
  exact⟨e,f0,f1,f2,d⟩
theorem Inv.unpinned {pins pl:List (Addr×Obj)}{σ:St}{H:Hp}{s:Shared}(I:Inv X (pins++pl) σ H s):Inv X pins σ H s:=I.pins_of fun p hp=>I.pin p (aN _ (bu _ hp))
theorem ps_for {iter:Expr}{body:List Stmt}{wi:TI}{g:TG}{tb:TS}{pos:Pos}(hp:PassesOwn (model X.prog X.w) X.A X.env X.xe)(hc:X.calm=true)(hi:PI X tg iter wi)(hg:PG X tg g)(hb:PSs X body tb)
 (hs:∀ x,foldedSetIterable iter X.env x=pure x:=by intro _;rfl):PS X (.For tg iter body [] pos) (tFor wi g tb):=by
 intro pins s σ H D I h
 refine wpAny_For (thn (hi pins s σ H _ I h) fun v s1 h1=>thn h1 fun itv s2 h2=>?_) hs
 obtain⟨it,fp,tn,J,H2,e,I2,T,st2,f2,W,⟨m0,w0⟩,turn⟩:=h2
 subst e
 have stat:∀ {H':Hp},(∀ b∈fp,H' b=none)->∀ b∈fp,FpOk X pins H' b:=fun hn b hb=>⟨hn b hb,(f2 b hb).2⟩
 refine codeAny_forLoop_any (fun n s'=>∃ i σ' H',Inv X pins σ' H' s'/\tn i s'.heap/\(∀ b∈fp,H' b=none)/\W i n σ' H') ?_ m0 ⟨0,σ,H2,I2,st2,fun b hb=>(f2 b hb).1,w0⟩
 rintro n s3 ⟨i,σ3,H3,I3,st3,fr3,w3⟩
 rcases turn i n σ3 H3 w3 with⟨stop,qn⟩ | ⟨go,N,hN,step⟩
 ·refine bW hp (thn (T.done X rfl rfl rfl hc i pins s3 σ3 H3 X.xe I3 (stat fr3) st3 stop) fun r s4 hq5=>?_)
  obtain⟨hr,I4⟩:=hq5
  subst hr
  exact cJ ⟨σ3,H3,I4,qn⟩
 ·refine bW hp (thn (T.item X rfl rfl rfl hc i pins s3 σ3 H3 X.xe I3 (stat fr3) st3 go) fun r s4 hq6=>?_)
  obtain⟨u,hr,h4⟩:=hq6
  subst hr
  refine bW hp (thn h4 fun _ s5 hq0=>?_)
  obtain⟨x,H5,I5,r5,y5,st5,fr5⟩:=hq0
  have I5':=I5.pinned (stat fr5) (T.obj _ _ st5)
  refine bW hp (thn (hg _ s5 σ3 H5 x u _ I5' r5 (step x H5 y5)) fun _ s6 hq1=>?_)
  obtain⟨σ6,H6,I6,q6⟩:=hq1
  refine bW hp (thn (hb _ s6 σ6 H6 _ I6 q6) fun f s7 q7=>?_)
  have again:∀ {σ7:St} {H7:Hp},Inv X (pins++pinsAt fp s5.heap) σ7 H7 s7->N σ7 H7->∃ m,m<n/\∃ i σ' H',Inv X pins σ' H' s7/\tn i s7.heap/\(∀ b∈fp,H' b=none)/\W i m σ' H':=fun {σ7 H7} I7 n7=>by
   obtain⟨m',hm,w7⟩:=hN σ7 H7 n7
   refine⟨m',hm,i+1,σ7,H7,I7.unpinned,T.keep _ _ _ st5 fun b hb o e=>(I7.pin (b,o) (aN _ (aN _ (mem_pinsAt hb e)))).1,fun b hb=>?_,w7⟩
   obtain⟨o,e,d⟩:=T.obj _ _ st5 b hb
   exact(I7.pin (b,o) (aN _ (aN _ (mem_pinsAt hb e)))).2.1
  cases f with
  | next=>obtain⟨σ7,H7,I7,n7⟩:=q7;exact again I7 n7
  | cont=>obtain⟨σ7,H7,I7,n7⟩:=q7;exact again I7 n7
  | brk=>obtain⟨σ7,H7,I7,q7⟩:=q7;exact⟨σ7,H7,I7.unpinned,q7⟩
  | ret v=>obtain⟨x7,σ7,H7,I7,r7,q7⟩:=q7;exact⟨x7,σ7,H7,I7.unpinned,r7,q7⟩
end
abbrev R2:=V->V->Hp->VK->Prop
def OpR (X:Cx)(f:Value->Value->Sem Value)(r:R2):Prop :=
 ∀(pins:List (Addr×Obj)) (s:Shared) (σ:St) (H:Hp) (x y:V) (v u:Value) (Q:VK),Inv X pins σ H s->RelV x v->RelV y u->r x y H Q ->
  wpAny (model X.prog X.w) X.A (f v u) (EP X pins σ Q) X.xe s
def UnR (X:Cx)(f:Value->Sem Value)(r:V->Hp->VK->Prop):Prop :=
 ∀(pins:List (Addr×Obj)) (s:Shared) (σ:St) (H:Hp) (x:V) (v:Value) (Q:VK),Inv X pins σ H s->RelV x v->r x H Q ->
  wpAny (model X.prog X.w) X.A (f v) (EP X pins σ Q) X.xe s
def CallR (X:Cx)(f:Value)(r:List V->Hp->VK->Prop):Prop :=
 ∀(pins:List (Addr×Obj)) (s:Shared) (σ:St) (H:Hp) (xs:List V) (us:List Value) (Q:VK),Inv X pins σ H s->Vals xs us->r xs H Q ->
  wpAny (model X.prog X.w) X.A (call f us) (EP X pins σ Q) X.xe s
def TruR (X:Cx)(r:V->Hp->(Bool->Hp->Prop)->Prop):Prop :=
 ∀(pins:List (Addr×Obj)) (s:Shared) (σ:St) (H:Hp) (x:V) (v:Value) (Q:Bool->Hp->Prop),Inv X pins σ H s->RelV x v->r x H Q ->
  wpAny (model X.prog X.w) X.A (truthy v) (TP X pins σ Q) X.xe s
def tOp (r:R2)(ta tb:TE):TE:=fun σ H Q=>ta σ H fun x H1=>tb σ H1 fun y H2=>r x y H2 Q
def tUn (r:V->Hp->VK->Prop)(ta:TE):TE:=fun σ H Q=>ta σ H fun x H1=>r x H1 Q
def rI (C:Int->Int->Prop)(g:Int->Int->V):R2:=fun x y H Q=>∃ i j,x=.int i/\y=.int j/\C i j/\Q (g i j) H
def rI0 (g:Int->Int->V):R2:=fun x y H Q=>∃ i j,x=.int i/\y=.int j/\Q (g i j) H
def rU (g:Int->V):V->Hp->VK->Prop:=fun x H Q=>∃ i,x=.int i/\Q (g i) H
section
variable {X:Cx}{a b c:Expr}{ta tb tc:TE}{pos:Pos}
theorem binT (ha:PE X a ta)(hb:PE X b tb){pins:List (Addr×Obj)}{s:Shared}{σ:St}{H:Hp}{R:V->V->Hp->Prop}(I:Inv X pins σ H s)
 (h:ta σ H fun x H1=>tb σ H1 fun y H2=>R x y H2) {Q:Value->Shared->Prop} {f:Value->Value->Sem Value}
 (hf:∀ v u s2 x y H2,Inv X pins σ H2 s2->RelV x v->RelV y u->R x y H2->wpAny (model X.prog X.w) X.A (f v u) Q X.xe s2) :
 wpAny (model X.prog X.w) X.A (eval a X.env) (fun v s₁=>wpAny (model X.prog X.w) X.A (eval b X.env) (fun u s₂=>wpAny (model X.prog X.w) X.A (f v u) Q X.xe s₂) X.xe s₁) X.xe s:=by
 refine thn (ha pins s σ H _ I h) fun v s1 hq2=>?_
 obtain⟨x,H1,I1,r1,q1⟩:=hq2
 refine thn (hb pins s1 σ H1 _ I1 q1) fun u s2 hq3=>?_
 obtain⟨y,H2,I2,r2,q2⟩:=hq3
 exact hf v u s2 x y H2 I2 r1 r2 q2
theorem pe_op {op:Operator}{r:R2}(ho:OpR X (binaryOp op) r)(ha:PE X a ta)(hb:PE X b tb):PE X (.BinOp a op b pos) (tOp r ta tb):=by
 intro pins s σ H Q I h
 exact wpAny_BinOp (binT ha hb I h fun v u s2 x y H2 I2 rx ry q=>ho pins s2 σ H2 x y v u Q I2 rx ry q)
theorem pe_un {op:UnaryOp}{r:V->Hp->VK->Prop}(ho:UnR X (unaryOp op) r)(ha:PE X a ta):PE X (.UnaryOp op a pos) (tUn r ta):=by
 intro pins s σ H Q I h
 exact UnaryOp_ (thn (ha pins s σ H _ I h) fun v s1 hq4=>by obtain⟨x,H1,I1,r1,q1⟩:=hq4;exact ho pins s1 σ H1 x v Q I1 r1 q1)
theorem opI {f:Value->Value->Sem Value}{C:Int->Int->Prop}{g:Int->Int->Int}
 (rule:∀(i j:Int) (t u:Tok) (s:Shared) (Q:Value->Shared->Prop) (E:Value->Shared->Prop),C i j->Q (.int (g i j) s.toks) { s with toks:=s.toks+1}->wpAny (model X.prog X.w) X.A (f (.int i t) (.int j u)) Q E s) :
 OpR X f (rI C fun i j=>.int (g i j)):=by
 intro pins s σ H x y v u Q I rx ry h
 obtain⟨i,j,rfl,rfl,hc,q⟩:=h
 obtain⟨t,rfl⟩:=rx
 obtain⟨t',rfl⟩:=ry
 exact rule i j t t' s _ _ hc ⟨.int (g i j),H,I.tok _,⟨_,rfl⟩,q⟩
theorem opI0 {f:Value->Value->Sem Value}{g:Int->Int->Int}
 (rule:∀(i j:Int) (t u:Tok) (s:Shared) (Q:Value->Shared->Prop) (E:Value->Shared->Prop),Q (.int (g i j) s.toks) { s with toks:=s.toks+1}->wpAny (model X.prog X.w) X.A (f (.int i t) (.int j u)) Q E s) :
 OpR X f (rI0 fun i j=>.int (g i j)):=by
 intro pins s σ H x y v u Q I rx ry h
 obtain⟨i,j,rfl,rfl,q⟩:=h
 obtain⟨t,rfl⟩:=rx
 obtain⟨t',rfl⟩:=ry
 exact rule i j t t' s _ _ ⟨.int (g i j),H,I.tok _,⟨_,rfl⟩,q⟩
theorem opB0 {f:Value->Value->Sem Value}{g:Int->Int->Bool}
 (rule:∀(i j:Int) (t u:Tok) (s:Shared) (Q:Value->Shared->Prop) (E:Value->Shared->Prop),Q (.bool (g i j)) s->wpAny (model X.prog X.w) X.A (f (.int i t) (.int j u)) Q E s) :
 OpR X f (rI0 fun i j=>.bl (g i j)):=by
 intro pins s σ H x y v u Q I rx ry h
 obtain⟨i,j,rfl,rfl,q⟩:=h
 obtain⟨t,rfl⟩:=rx
 obtain⟨t',rfl⟩:=ry
 exact rule i j t t' s _ _ ⟨.bl (g i j),H,I,rfl,q⟩
def CDiv (i j:Int):Prop:=0<j/\j<1073741824
def CPow (i j:Int):Prop:=0<=j/\j<=1000000/\i.natAbs<2 ^ 64
def CMul (i j:Int):Prop:=(-(2 ^ 64)<i/\i<2 ^ 64)\/(-(2 ^ 64)<j/\j<2 ^ 64)
theorem CMul.ok {i j:Int}(h:CMul i j):IntMulOk i j:=by
 rcases h with⟨h1,h2⟩ | ⟨h1,h2⟩
 ·exact .of_left (intBits_le_64 h1 h2)
 ·exact .of_right (intBits_le_64 h1 h2)
theorem op_add:OpR X (binaryOp .Add) (rI0 fun i j=>.int (i+j)):=opI0 fun _ _ _ _ _ _ _ q=>add_int q
theorem op_sub:OpR X (binaryOp .Sub) (rI0 fun i j=>.int (i - j)):=opI0 fun _ _ _ _ _ _ _ q=>sub_int q
theorem op_mul:OpR X (binaryOp .Mult) (rI CMul fun i j=>.int (i*j)):=opI fun _ _ _ _ _ _ _ hc q=>mul_int q hc.ok
theorem op_fdiv:OpR X (binaryOp .FloorDiv) (rI CDiv fun i j=>.int (i / j)):=opI fun i j _ _ _ _ _ hc q=>by
 have h1:(0:Int)<j:=hc.1
 have h2:j<1073741824:=hc.2
 exact floordiv_int (by omega) (by rw[Int.fdiv_eq_ediv_of_nonneg i (by omega)];exact q) (.inl (PyProof.noPylong_small (by omega)))
theorem op_mod:OpR X (binaryOp .Mod) (rI (fun _ j=>0<j) fun i j=>.int (i%j)):=opI fun i j _ _ _ _ _ hc q=>by
 have h1:(0:Int)<j:=hc
 exact mod_int' (by omega) (by rw[Int.fmod_eq_emod_of_nonneg i (by omega)];exact q)
theorem op_pow:OpR X (binaryOp .Pow) (rI CPow fun i j=>.int (i ^ j.toNat)):=opI fun _ _ _ _ _ _ _ hc q=>pow_int_small hc.1 hc.2.1 hc.2.2 q
theorem unI {f:Value->Sem Value}{g:Int->Int}
 (rule:∀(i:Int) (t:Tok) (s:Shared) (Q:Value->Shared->Prop) (E:Value->Shared->Prop),Q (.int (g i) s.toks) { s with toks:=s.toks+1}->wpAny (model X.prog X.w) X.A (f (.int i t)) Q E s) :
 UnR X f (rU fun i=>.int (g i)):=by
 intro pins s σ H x v Q I rx h
 obtain⟨i,rfl,q⟩:=h
 obtain⟨t,rfl⟩:=rx
 exact rule i t s _ _ ⟨.int (g i),H,I.tok _,⟨_,rfl⟩,q⟩
theorem un_neg:UnR X (unaryOp .USub) (rU fun i=>.int (-i)):=unI fun _ _ _ _ _ q=>neg_int q
end
def scal:V->V->Bool
 | .non,.non=>true | .non,.int _=>true | .int _,.non=>true | .non,.bl _=>true | .bl _,.non=>true | .non,.str _=>true | .str _,.non=>true
 | .int _,.int _=>true | .bl _,.bl _=>true | .str _,.str _=>true | .byt _,.byt _=>true
 | .int _,.str _=>true | .str _,.int _=>true | .bl _,.str _=>true | .str _,.bl _=>true
 | _,_=>false
def rEq:R2:=fun x y H Q=>scal x y=true/\Q (.bl (decide (x=y))) H
def rNe:R2:=fun x y H Q=>scal x y=true/\Q (.bl (!decide (x=y))) H
theorem dec_int {i j:Int}:decide (V.int i=V.int j)=(i==j):=by
 rw[cM]
 simp
theorem dec_bl {i j:Bool}:decide (V.bl i=V.bl j)=(i==j):=by
 rw[cM]
 simp
theorem dec_str {i j:Str}:decide (V.str i=V.str j)=(i==j):=by
 rw[cM]
 simp
theorem dec_byt {i j:Array UInt8}:decide (V.byt i=V.byt j)=(i.toList==j.toList):=by
 rw[cM]
 cases i
 cases j
 simp
section
variable {X:Cx}{a b c:Expr}{ta tb tc:TE}{pos:Pos}
theorem fin_bl {pins:List (Addr×Obj)}{σ:St}{H:Hp}{s:Shared}{Q:VK}{k k':Bool}(I:Inv X pins σ H s)(q:Q (.bl k) H)(e:k=k'):EP X pins σ Q (.bool k') s:=by
 subst e
 exact⟨.bl k,H,I,rfl,q⟩
theorem op_eq:OpR X (compareOp .Eq) rEq:=by
 intro pins s σ H x y v u Q I rx ry h
 obtain⟨hs,q⟩:=h
 cases x with
 | non =>
  cases rx
  cases y with
  | non=>cases ry;exact PySem.EqNone.eq_none_none (fin_bl I q (by simp))
  | bl j=>cases ry;exact PySem.EqNone.eq_none_bool (fin_bl I q (by simp))
  | int j=>obtain⟨t',rfl⟩:=ry;exact PySem.EqNone.eq_none_int (fin_bl I q (by simp))
  | str j=>obtain⟨t',rfl⟩:=ry;exact PySem.EqNone.eq_none_str (fin_bl I q (by simp))
  | _=>exact absurd (show false=true from hs) ag
 | bl i =>
  cases rx
  cases y with
  | non=>cases ry;exact PySem.EqNone.eq_bool_none (fin_bl I q (by simp))
  | bl j=>cases ry;exact eq_bool (fin_bl I q dec_bl)
  | str j=>obtain⟨t',rfl⟩:=ry;exact PySem.EqMixed.eq_bool_str (fin_bl I q (by simp))
  | _=>exact absurd (show false=true from hs) ag
 | int i =>
  obtain⟨t,rfl⟩:=rx
  cases y with
  | non=>cases ry;exact PySem.EqNone.eq_int_none (fin_bl I q (by simp))
  | int j=>obtain⟨t',rfl⟩:=ry;exact eq_int (fin_bl I q dec_int)
  | str j=>obtain⟨t',rfl⟩:=ry;exact PySem.EqMixed.eq_int_str (fin_bl I q (by simp))
  | _=>exact absurd (show false=true from hs) ag
 | str i =>
  obtain⟨t,rfl⟩:=rx
  cases y with
  | non=>cases ry;exact PySem.EqNone.eq_str_none (fin_bl I q (by simp))
  | bl j=>cases ry;exact PySem.EqMixed.eq_str_bool (fin_bl I q (by simp))
  | int j=>obtain⟨t',rfl⟩:=ry;exact PySem.EqMixed.eq_str_int (fin_bl I q (by simp))
  | str j=>obtain⟨t',rfl⟩:=ry;exact eq_str (fin_bl I q dec_str)
  | _=>exact absurd (show false=true from hs) ag
 | byt i =>
  obtain⟨t,rfl⟩:=rx
  cases y with
  | byt j=>obtain⟨t',rfl⟩:=ry;exact PySem.W.eq_bytes (fin_bl I q dec_byt)
  | _=>exact absurd (show false=true from hs) ag
 | _=>cases y <;> exact absurd (show false=true from hs) ag
theorem op_ne:OpR X (compareOp .NotEq) rNe:=by
 intro pins s σ H x y v u Q I rx ry h
 obtain⟨hs,q⟩:=h
 cases x with
 | non =>
  cases rx
  cases y with
  | non=>cases ry;exact PySem.EqNone.ne_none_none (fin_bl I q (by simp))
  | bl j=>cases ry;exact PySem.EqNone.ne_none_bool (fin_bl I q (by simp))
  | int j=>obtain⟨t',rfl⟩:=ry;exact PySem.EqNone.ne_none_int (fin_bl I q (by simp))
  | str j=>obtain⟨t',rfl⟩:=ry;exact PySem.EqNone.ne_none_str (fin_bl I q (by simp))
  | _=>exact absurd (show false=true from hs) ag
 | bl i =>
  cases rx
  cases y with
  | non=>cases ry;exact PySem.EqNone.ne_bool_none (fin_bl I q (by simp))
  | bl j=>cases ry;exact ne_bool (fin_bl I q (bg not dec_bl))
  | str j=>obtain⟨t',rfl⟩:=ry;exact PySem.EqMixed.ne_bool_str (fin_bl I q (by simp))
  | _=>exact absurd (show false=true from hs) ag
 | int i =>
  obtain⟨t,rfl⟩:=rx
  cases y with
  | non=>cases ry;exact PySem.EqNone.ne_int_none (fin_bl I q (by simp))
  | int j=>obtain⟨t',rfl⟩:=ry;exact ne_int (fin_bl I q (bg not dec_int))
  | str j=>obtain⟨t',rfl⟩:=ry;exact PySem.EqMixed.ne_int_str (fin_bl I q (by simp))
  | _=>exact absurd (show false=true from hs) ag
 | str i =>
  obtain⟨t,rfl⟩:=rx
  cases y with
  | non=>cases ry;exact PySem.EqNone.ne_str_none (fin_bl I q (by simp))
  | bl j=>cases ry;exact PySem.EqMixed.ne_str_bool (fin_bl I q (by simp))
  | int j=>obtain⟨t',rfl⟩:=ry;exact PySem.EqMixed.ne_str_int (fin_bl I q (by simp))
  | str j=>obtain⟨t',rfl⟩:=ry;exact ne_str (fin_bl I q (bg not dec_str))
  | _=>exact absurd (show false=true from hs) ag
 | byt i =>
  obtain⟨t,rfl⟩:=rx
  cases y with
  | byt j=>obtain⟨t',rfl⟩:=ry;exact PySem.W.ne_bytes (fin_bl I q (bg not dec_byt))
  | _=>exact absurd (show false=true from hs) ag
 | _=>cases y <;> exact absurd (show false=true from hs) ag
theorem op_lt:OpR X (compareOp .Lt) (rI0 fun i j=>.bl (decide (i<j))):=opB0 fun _ _ _ _ _ _ _ q=>lt_int q
theorem op_gt:OpR X (compareOp .Gt) (rI0 fun i j=>.bl (decide (j<i))):=opB0 fun _ _ _ _ _ _ _ q=>gt_int q
theorem op_ge:OpR X (compareOp .GtE) (rI0 fun i j=>.bl (decide (j<=i))):=opB0 fun _ _ _ _ _ _ _ q=>ge_int q
theorem op_in_str:OpR X (compareOp .In) (fun x y H Q=>∃ i j,x=.str i/\y=.str j/\Q (.bl (!(Builtin.Str.occurrences j i 0 j.length 1).isEmpty)) H):=by
 intro pins s σ H x y v u Q I rx ry h
 obtain⟨i,j,rfl,rfl,q⟩:=h
 obtain⟨t,rfl⟩:=rx
 obtain⟨t',rfl⟩:=ry
 exact in_str (fin_bl I q rfl)
theorem OpR.or {f:Value->Value->Sem Value}{r r':R2}(h:OpR X f r)(h':OpR X f r'):OpR X f (fun x y H Q=>r x y H Q\/r' x y H Q):=by
 intro pins s σ H x y v u Q I rx ry q
 rcases q with q | q
 ·exact h pins s σ H x y v u Q I rx ry q
 ·exact h' pins s σ H x y v u Q I rx ry q
theorem nomark (b:Expr){op:CmpOp}(h:op≠.In:=by decide)(h2:op≠.NotIn:=by decide):behindInMarks op b=false:=by
 have e1:(op==CmpOp.In)=false:=by cases op <;> first | rfl | exact absurd rfl h
 have e2:(op==CmpOp.NotIn)=false:=by cases op <;> first | rfl | exact absurd rfl h2
 cases b <;> simp[behindInMarks,e1,e2]
theorem pe_cmpR {op:CmpOp}{r:R2}(ho:OpR X (compareOp op) r)(ha:PE X a ta)(hb:PE X b tb)(hm:behindInMarks op b=false):PE X (.Compare a [op] [b] pos) (tOp r ta tb):=by
 intro pins s σ H Q I h
 exact wpAny_Compare1 (binT ha hb I h fun v u s2 x y H2 I2 rx ry q=>ho pins s2 σ H2 x y v u Q I2 rx ry q) hm
def tTest (t:TE):TT:=fun σ H Q=>t σ H fun x H'=>∃ k,x=.bl k/\Q k H'
def TruV (K:PySem.W.Frag)(x:V)(H:Hp)(k:Bool):Prop :=
 match x with
 | .non=>k=false
 | .bl b=>k=b
 | .int i=>k=(i != 0)
 | .str y=>y.length<=sizeLine/\k=((y.length:Int) != 0)
 | .byt y=>y.size<=sizeLine/\k=((y.size:Int) != 0)
 | .ref p=>(∃ xs,SqL K H p xs/\k=!xs.isEmpty)\/(∃ xs,SqT K H p xs/\k=!xs.isEmpty)\/∃ kvs,H p=some (.dK kvs)/\k=!kvs.isEmpty
 | _=>False
theorem isEmpty_kv {κ:Type}{kvs:List (κ×V)}{vs:List (κ×Value)}(r:KV kvs vs):(!vs.isEmpty)=!kvs.isEmpty:=by
 cases r <;> rfl
theorem isEmpty_of {xs:List V}{its:List Value}(r:Vals xs its):(!its.toArray.isEmpty)=!xs.isEmpty:=by
 cases r <;> simp
theorem line63:(sizeLine:Nat)<2 ^ 63:=by rw[sizeLine_eq];decide
theorem tru_ok:TruR X (fun x H Q=>∃ k,TruV X.K x H k/\Q k H):=by
 intro pins s σ H x v Q I rx h
 obtain⟨k,e,q⟩:=h
 have hl:=line63
 have hs:sizeLine=16777216:=sizeLine_eq
 cases x with
 | non =>
  cases rx
  have e':k=false:=e
  subst e'
  exact truthy_none ⟨H,I,q⟩
 | bl b =>
  cases rx
  have e':k=b:=e
  subst e'
  exact bx ⟨H,I,q⟩
 | int i =>
  obtain⟨t,rfl⟩:=rx
  have e':k=(i != 0):=e
  subst e'
  exact PySem.P.truthy_int ⟨H,I,q⟩
 | str y =>
  obtain⟨t,rfl⟩:=rx
  obtain⟨hy,e'⟩:y.length<=sizeLine/\k=((y.length:Int) != 0):=e
  subst e'
  exact PySem.P.truthy_str (by omega) ⟨H,I.tok _,q⟩
 | byt y =>
  obtain⟨t,rfl⟩:=rx
  obtain⟨hy,e'⟩:y.size<=sizeLine/\k=((y.size:Int) != 0):=e
  subst e'
  exact PySem.W.truthy_bytes (by omega) ⟨H,I.tok _,q⟩
 | ref p =>
  cases rx
  have e':(∃ xs,SqL X.K H p xs/\k=!xs.isEmpty)\/(∃ xs,SqT X.K H p xs/\k=!xs.isEmpty)\/∃ kvs,H p=some (.dK kvs)/\k=!kvs.isEmpty:=e
  rcases e' with⟨xs,hx,e'⟩ | ⟨xs,hx,e'⟩ | ⟨kvs,hx,e'⟩
  ·subst e'
   obtain⟨its,r,pl,hz⟩:=I.list hx
   have hlen:=r.length
   exact wpAny_truthy_list pl.isList (by simp only[af];omega) ⟨H,I.tok _,by rw[isEmpty_of r];exact q⟩
  ·subst e'
   obtain⟨its,r,pl,hz⟩:=I.tuple hx
   have hlen:=r.length
   exact truthy_tuple pl (by simp only[af];omega) ⟨H,I.tok _,by rw[isEmpty_of r];exact q⟩
  ·subst e'
   obtain⟨hz,hS,vs,r,m⟩:kvs.length<=sizeLine/\(p==sysModules)=false/\∃ vs,KV kvs vs/\s.heap.DictOf (mixKind X.prog X.w) p vs:=I.hok p _ hx
   have hlen:kvs.length=vs.length:=Paired.length r
   exact wpAny_truthy_dict hS m (by omega) ⟨H,I.tok _,by rw[isEmpty_kv r];exact q⟩
 | _=>exact(show False from e).elim
theorem pt_truth (ha:PE X a ta)(he:∀ whole,isTrue a X.env whole=(do let v <- whole;standAt a.pos;holding [v] (truthy v))) :
 PT X a (fun σ H Q=>ta σ H fun x H'=>∃ k,TruV X.K x H' k/\Q k H'):=by
 intro pins s σ H Q I h
 exact isTrue_plain (thn (ha pins s σ H _ I h) fun v s1 hq5=>by obtain⟨x,H1,I1,r1,q1⟩:=hq5;exact tru_ok pins s1 σ H1 x v Q I1 r1 q1) (he _)
theorem op_add_str:OpR X (binaryOp .Add) (fun x y H Q=>∃ i j,x=.str i/\y=.str j/\i.length+j.length<=sizeLine/\Q (.str (i++j)) H):=by
 intro pins s σ H x y v u Q I rx ry h
 obtain⟨i,j,rfl,rfl,hz,q⟩:=h
 obtain⟨t,rfl⟩:=rx
 obtain⟨t',rfl⟩:=ry
 exact add_str (fun t' tk=>⟨.str (i++j),H,I.tok _,⟨_,rfl⟩,q⟩) hz
theorem vals1 {x:V}{us:List Value}(r:Vals [x] us):∃ u,us=[u]/\RelV x u:=by
 cases r with
 | cons r1 r2=>cases r2;exact⟨_,rfl,r1⟩
theorem vals2 {x y:V}{us:List Value}(r:Vals [x,y] us):∃ u w',us=[u,w']/\RelV x u/\RelV y w':=by
 cases r with
 | cons r1 r2 =>
  cases r2 with
  | cons r3 r4=>cases r4;exact⟨_,_,rfl,r1,r3⟩
end
structure ObjM (h:Heap)(x dx C:Addr)(mA:Str->Option Value):Prop where
 obj:h.get? x=some (PySem.W.instObj C dx)
 ns:h.Ns1 dx mA
 ne:dx≠x
theorem lookIn_ns {h:Heap}{dx:Addr}{mA:Str->Option Value}(n:h.Ns1 dx mA):∃ od,h.get? dx=some od/\∀ name,PySem.W.lookIn name od=some (mA name):=by
 obtain⟨o,es,ep,ho,hd,hk,_,hm⟩:=n
 refine⟨o,ho,fun name=>?_⟩
 have e:=hm name
 unfold nsFind findBy at e
 rw[<- Array.find?_toList]at e
 unfold PySem.W.lookIn
 rw[hd]
 dsimp only
 split
 ·rename_i y q
  rw[q]at e
  exact bg some e
 ·rename_i q
  rw[q]at e
  have a:es.toList.any (·.refKey)=false:=by
   rw[List.any_eq_false]
   intro y hy
   obtain⟨z,t,hkey⟩:=hk y (Array.mem_toList_iff.mp hy)
   simp[DictEntry.refKey,hkey]
  have a':¬ es.toList.any (·.refKey)=true:=by rw[a];exact ag
  rw[ai a']
  exact bg some e
theorem ObjM.look {h:Heap}{x dx C:Addr}{mA:Str->Option Value}(I:ObjM h x dx C mA):∃ od,PySem.W.InstAt h x (PySem.W.instObj C dx) C (some od)/\∀ name,PySem.W.lookIn name od=some (mA name) :=
 let ⟨od,ho,hl⟩:=lookIn_ns I.ns
 ⟨od,⟨I.obj,rfl,rfl,ho⟩,hl⟩
section
variable {P:Program}{w:World}{H H':Hp}{h h':Heap}{a C dx:Addr}{fs fs':List (Str×V)}
theorem ins_get (hok:HOk P w H h)(e:H a=some (.ins C dx fs)):∃ mA,ObjM h a dx C mA/\(∀ f,RelO (fs.lookup f) (mA f))/\PySem.Within mA (fs.map (·.1))/\fs.length<=1000/\H dx=some (.own a):=by
 obtain⟨d,z,ne,ob,mA,n,r,q⟩:=(show ObjOk P w H h a (.ins C dx fs)from hok a _ e)
 exact⟨mA,⟨ob,n,ne⟩,r,q,z,d⟩
end
structure Cls (K:PySem.W.Frag)(C:Addr):Prop where
 pg:PySem.W.plainGet K C Str.empty=true
 hd:PySem.W.hasDictIn K C=true
 po:PySem.W.plainOver K C=true
 sa:PySem.W.findIn K (.ref C) "__setattr__"=some (some (.builtin "object.__setattr__"))
theorem Cls.get {K:PySem.W.Frag}{C:Addr}(c:Cls K C)(f:Str):PySem.W.plainGet K C f=true:=c.pg
section
variable {X:Cx}{pins:List (Addr×Obj)}{σ:St}{H:Hp}{s:Shared}{A:Around}{E:Value->Shared->Prop}{Q:Value->Shared->Prop}{c:Value}{b:Bool}
inductive TyOf (K:PySem.W.Frag)(H:Hp):V->Value->Prop where
 | non:TyOf K H .non (.type "NoneType")
 | bl (x:Bool):TyOf K H (.bl x) (.type "bool")
 | int (i:Int):TyOf K H (.int i) (.type "int")
 | str (x:Str):TyOf K H (.str x) (.type "str")
 | flt (x:UInt64):TyOf K H (.flt x) (.type "float")
 | lst {a:Addr} {xs:List V} (e:H a=some (.lst xs)):TyOf K H (.ref a) (.type "list")
 | frz {a:Addr} {o:Obj} {xs:List V} (e:H a=some (.frz o (.lst xs))):TyOf K H (.ref a) (.type "list")
 | tup {a:Addr} {xs:List V} (e:H a=some (.tup xs)):TyOf K H (.ref a) (.type "tuple")
 | dK {a:Addr} {kvs:List (Key×V)} (e:H a=some (.dK kvs)):TyOf K H (.ref a) (.type "dict")
 | dT {a:Addr} {kvs:List (List Key×V)} (e:H a=some (.dT kvs)):TyOf K H (.ref a) (.type "dict")
 | ins {a C dx:Addr} {fs:List (Str×V)} (e:H a=some (.ins C dx fs)) (cl:Cls K C) (ha:PySem.W.findIn K (.ref C) "__class__"=some (some (.builtin "object.__class__")))
  (hn:PySem.W.specialIn K (.builtin "object.__class__") "__get__"=some (some (.builtin "getset_descriptor.__get__"))) (htk:PySem.W.takesIn K (.builtin "object.__class__")=some true)
  (hm:PySem.W.mroIn K C (.type "object")=some true):TyOf K H (.ref a) (.ref C)
theorem isinst_ok {x:V}{u t:Value}(I:Inv X pins σ H s)(rx:RelV x u)(ty:TyOf X.K H x t)(e:PySem.W.kitOne X.K t c=some b)(h:∀ tk,Q (.bool b) { s with toks:=tk}) :
 wpAny (model X.prog X.w) A (call (.builtin "isinstance") [u,c]) Q E s:=by
 cases ty with
 | non=>cases(show u=Value.none from rx);exact ba PySem.W.kitx_none I.kIn True.intro e (fun z=>nomatch z) h
 | bl y=>cases(show u=Value.bool y from rx);exact ba PySem.W.kitx_bool I.kIn True.intro e (fun z=>nomatch z) h
 | int i=>obtain⟨t,q⟩:=(show ∃ t,u=Value.int i t from rx);cases q;exact ba PySem.W.kitx_int I.kIn True.intro e (fun z=>nomatch z) h
 | str y=>obtain⟨t,q⟩:=(show ∃ t,u=Value.str y t from rx);cases q;exact ba PySem.W.kitx_str I.kIn True.intro e (fun z=>nomatch z) h
 | flt y=>obtain⟨t,q⟩:=(show ∃ t,u=Value.float y t from rx);cases q;exact ba PySem.W.kitx_float I.kIn True.intro e (fun z=>nomatch z) h
 | @lst a xs ea =>
  cases(show u=Value.ref a from rx)
  obtain⟨_,_,n,_,h1⟩:=(show ObjOk X.prog X.w H s.heap a (.lst xs)from I.hok a _ ea)
  exact ba PySem.W.kitx_list I.kIn ⟨_,h1,rfl⟩ e (fun z=>nomatch z) h
 | @frz a ob xs ea =>
  cases(show u=Value.ref a from rx)
  obtain⟨_,_,_,n,_,h1⟩:=(show ObjOk X.prog X.w H s.heap a (.frz ob (.lst xs))from I.hok a _ ea)
  exact ba PySem.W.kitx_list I.kIn ⟨_,h1,rfl⟩ e (fun z=>nomatch z) h
 | @tup a xs ea =>
  cases(show u=Value.ref a from rx)
  obtain⟨_,_,_,p⟩:=(show ObjOk X.prog X.w H s.heap a (.tup xs)from I.hok a _ ea)
  obtain⟨o,h1,h2,_⟩:=p
  exact ba PySem.W.kitx_tuple I.kIn ⟨o,h1,h2⟩ e (fun z=>nomatch z) h
 | @dK a kvs ea =>
  cases(show u=Value.ref a from rx)
  obtain⟨_,_,vs,_,p⟩:=(show ObjOk X.prog X.w H s.heap a (.dK kvs)from I.hok a _ ea)
  obtain⟨o,es,ep,h1,h2,_⟩:=p
  exact ba PySem.W.kitx_dict I.kIn ⟨o,h1,h2.1⟩ e (fun z=>nomatch z) h
 | @dT a kvs ea =>
  cases(show u=Value.ref a from rx)
  obtain⟨_,_,xs,_,o,es,ep,h1,h2,_⟩:=(show ObjOk X.prog X.w H s.heap a (.dT kvs)from I.hok a _ ea)
  exact ba PySem.W.kitx_dict I.kIn ⟨o,h1,h2.1⟩ e (fun z=>nomatch z) h
 | @ins a C dx fs ea cl ha hn htk hm =>
  cases(show u=Value.ref a from rx)
  obtain⟨mA,O,_⟩:=ins_get I.hok ea
  obtain⟨od,J,_⟩:=O.look
  exact ba (PySem.W.kitx_own (cl.get _) cl.hd ha hn htk hm) I.kIn J e (fun z=>nomatch z) h
end
structure Room (k:Nat)(A:Around):Prop where
 hd:A.handled=none
 dp:A.depth+3*k+5<recursionLimit
 un:A.units+16*k+200<cLine
theorem Room.mono {j k:Nat}{A:Around}(r:Room k A)(h:j<=k):Room j A:=⟨r.hd,by have:=r.dp;omega,by have:=r.un;omega⟩
theorem Room.deeper {k:Nat}{A:Around}(r:Room (k+1) A)(env:Env):Room k (A.deeper env) :=
 ⟨r.hd,by have:=r.dp;show A.depth+1+3*k+5<_;omega,by have:=r.un;show A.units+3+16*k+200<_;omega⟩
theorem Room.depth {k:Nat}{A:Around}(r:Room k A):A.depth<recursionLimit:=by have:=r.dp;omega
theorem Room.units {k:Nat}{A:Around}(r:Room k A):A.units+64<cLine:=by have:=r.un;omega
def tNil:TA:=fun _ H Q=>Q [] H
def tCons (ta:TE)(tr:TA):TA:=fun σ H Q=>ta σ H fun x H1=>tr σ H1 fun xs H2=>Q (x::xs) H2
section
variable {X:Cx}{e:Expr}{es:List Expr}{te:TE}{t:TA}{pos:Pos}
theorem pa_nil:PA X [] tNil:=fun _ _ _ _ H Q I h=>c4 ⟨[],H,I,.nil,h⟩
theorem pa_cons (ha:PE X e te)(hr:PA X es t)(hs:starEach (e::es) X.env=(false,eval e X.env)::starEach es X.env:=by rfl):PA X (e::es) (tCons te t):=by
 intro pos pins s σ H Q I h
 rw[hs]
 show wpAny _ _ (spliced ((false,eval e X.env)::backTo pos (starEach es X.env))) _ _ s
 refine cm (thn (ha pins s σ H _ I h) fun u s1 hq6=>?_)
 obtain⟨x,H1,I1,r1,q1⟩:=hq6
 exact thn (hr pos pins s1 σ H1 _ I1 q1) fun us s2 hq0=>by obtain⟨xs,H2,I2,r2,q2⟩:=hq0;exact⟨x::xs,H2,I2,.cons r1 r2,q2⟩
def tTup (t:TA):TE:=fun σ H Q=>t σ H fun xs H1=>xs.length<=sizeLine/\∀ p,H1 p=none->Q (.ref p) (upd H1 p (.tup xs))
def tLst (t:TA):TE:=fun σ H Q=>t σ H fun xs H1=>xs.length<=sizeLine/\∀ p,H1 p=none->Q (.ref p) (upd H1 p (.lst xs))
theorem pe_tup {x1}(h:PA X es t):PE X (.Tuple es x1 pos) (tTup t):=by
 intro pins s σ H Q I hq
 refine wpAny_Tuple_spliced (thn (h pos pins s σ H _ I hq) fun us s1 ⟨xs,H1,I1,r,z,q⟩=>⟨by rw[<- r.length];exact z,?_⟩)
 have hf:H1 s1.heap.objs.size=none:=I1.hok.fresh (aa _)
 refine⟨.ref s1.heap.objs.size,upd H1 s1.heap.objs.size (.tup xs),I1.laid (t':=s1.toks) (fun b u e=>gxL _ e) (aa _) ?_,rfl,q _ hf⟩
 exact⟨z,us,r,⟨_,aj _ rfl,rfl,_,rfl⟩⟩
theorem pe_lst (h:PA X es t):PE X (.List es pos) (tLst t):=by
 intro pins s σ H Q I hq
 refine wpAny_List_spliced (thn (h pos pins s σ H _ I hq) fun us s1 ⟨xs,H1,I1,r,z,q⟩=>⟨by rw[<- r.length];exact z,?_⟩)
 have hf:H1 s1.heap.objs.size=none:=I1.hok.fresh (aa _)
 refine⟨.ref s1.heap.objs.size,upd H1 s1.heap.objs.size (.lst xs),I1.laid (t':=s1.toks) (fun b u e=>gxL _ e) (aa _) ?_,rfl,q _ hf⟩
 exact⟨z,us,0,r,aj _ rfl⟩
end
abbrev Sp:=List V->Hp->VK->XK->Prop
abbrev CXT:=List Env->Hp->Shared->XK->Value->Shared->Prop
structure Env0 (P:Program)(w:World)(K:PySem.W.Frag)(mg:Str->Option Value)(base:Heap)(A:Around)(outer:List Env)(s:Shared)(H:Hp):Prop where
 frames:A.frames=some outer
 mod:Mod K mg base
 bs:∀ b o,base.get? b=some o->s.heap.get? b=some o/\H b=none
 bsz:base.objs.size<=s.heap.objs.size
 funs:s.heap.FunFrames base outer
 frf:∀ b∈frs outer,H b=none
 hok:HOk P w H s.heap
 bare:AllBare s.gens
def CE (outer:List Env)(P:Program)(w:World)(H:Hp)(s:Shared)(Q:VK)(u:Value)(s':Shared):Prop :=
 ∃ v H',s'.os=s.os/\AllBare s'.gens/\Un (frs outer) [] H H' s.heap s'.heap/\HOk P w H' s'.heap/\RelV v u/\Q v H'
def CR (CX:CXT)(outer:List Env)(P:Program)(w:World)(H:Hp)(s:Shared)(Q:VK)(E:XK)(r:Result)(s':Shared):Prop :=
 match r with
 | .ok (.ret u)=>CE outer P w H s Q u s'
 | .ok _=>False
 | .error e=>CX outer H s E e s'
structure FnOk (P:Program)(w:World)(K:PySem.W.Frag)(mg:Str->Option Value)(base:Heap)(CX:CXT)(k:Nat)(f:Addr)(fd:FuncData)(ps:List Str)(sp:Sp):Prop where
 len:∀ vs H Q E,sp vs H Q E->vs.length=ps.length
 run:∀(A:Around) (outer:List Env) (s:Shared) (H:Hp) (args:Args) (us:List Value) (vs:List V) (Q:VK) (E:XK),Room k A->Env0 P w K mg base A outer s H->BindsTo s fd args (ps.zip us)->Vals vs us->sp vs H Q E ->
  codeAny (model P w) A (.call (.ref f) args) (CR CX outer P w H s Q E) s
theorem FnOk.imp {P:Program}{w:World}{K:PySem.W.Frag}{mg:Str->Option Value}{base:Heap}{CX:CXT}{k:Nat}{f:Addr}{fd:FuncData}{ps:List Str}{sp sp':Sp}(F:FnOk P w K mg base CX k f fd ps sp)
 (h:∀ vs H Q E,sp' vs H Q E->sp vs H Q E):FnOk P w K mg base CX k f fd ps sp' :=
 ⟨fun vs H Q E q=>F.len vs H Q E (h _ _ _ _ q),fun A outer s H args us vs Q E hr he hb hv hs=>F.run A outer s H args us vs Q E hr he hb hv (h _ _ _ _ hs)⟩
section
variable {X:Cx}{pins:List (Addr×Obj)}{σ:St}{H:Hp}{s s':Shared}
theorem Inv.env0 (I:Inv X pins σ H s):Env0 X.prog X.w X.K X.mg X.base X.A X.stack s H :=
 ⟨I.ok.frames,I.ok.mod,I.bs,aD I.ok.bsz I.sz,I.stack,I.stkFree,I.hok,I.bare⟩
theorem Inv.after {Q:VK}{u:Value}(I:Inv X pins σ H s)(h:CE X.stack X.prog X.w H s Q u s'):EP X pins σ Q u s':=by
 obtain⟨v,H',os,bare,un,hok,r,q⟩:=h
 obtain⟨hh,g,d,t,os'⟩:=s'
 obtain rfl:os'=s.os:=os
 exact⟨v,H',I.call (h':=hh) (g':=g) (d':=d) (t':=t) (ch:=[]) un hok bare (fun b z=>absurd z (by simp)),r,q⟩
end
def tCall (sp:Sp)(dvs:List V)(E:XK)(t:TA):TE:=fun σ H Q=>t σ H fun vs H1=>sp (vs++dvs) H1 Q E
def Binds (K:PySem.W.Frag)(fd:FuncData)(ps:List Str)(ds:List Value):Prop :=
 ∀(s:Shared) (us:List Value),K.In s.heap->(us++ds).length=ps.length->BindsTo s fd ⟨us,[]⟩ (ps.zip (us++ds))
theorem Binds.all {K:PySem.W.Frag}{fd:FuncData}{ps:List Str}(h:∀ us:List Value,us.length=ps.length->bindArgs fd ⟨us,[]⟩=pure (ps.zip us)):Binds K fd ps []:=fun s us _ hl=>by
 rw[aR]at hl ⊢
 exact .of_eq (h us hl)
def Passes (CX:CXT)(X:Cx)(E:XK):Prop:=∀(pins:List (Addr×Obj)) (σ:St) (H:Hp) (s:Shared) (e:Value) (s':Shared),Inv X pins σ H s->CX X.stack H s E e s'->X.xe e s'
section
variable {X:Cx}{CX:CXT}{k:Nat}{f C:Addr}{fd:FuncData}{ps:List Str}{sp:Sp}{dvs:List V}{ds:List Value}{E:XK}{x m:Str}{p pos apos:Pos}{e o:Expr}{es:List Expr}{ta:TE}{t:TA}
theorem run_fn {pins:List (Addr×Obj)}{σ:St}{H:Hp}{s:Shared}{Q:VK}{us:List Value}{vs:List V}(F:FnOk X.prog X.w X.K X.mg X.base CX k f fd ps sp)(hr:Room k X.A)(hb:Binds X.K fd ps ds)(hd:Vals dvs ds)(hx:Passes CX X E)
 (I:Inv X pins σ H s) (r:Vals vs us) (h:sp (vs++dvs) H Q E):wpAny (model X.prog X.w) X.A (call (.ref f) us) (EP X pins σ Q) X.xe s:=by
 have r2:Vals (vs++dvs) (us++ds):=r.append hd
 have hl:(us++ds).length=ps.length:=by rw[<- r2.length];exact F.len _ _ _ _ h
 refine wpAny_call (codeAny_mono (F.run X.A X.stack s H ⟨us,[]⟩ (us++ds) (vs++dvs) Q E hr I.env0 (hb s us I.kIn hl) r2 h) fun r s' hq=>?_)
 cases r with
 | error e=>exact hx pins σ H s e s' I hq
 | ok fl =>
  cases fl with
  | ret u=>exact I.after hq
  | next=>exact False.elim hq
  | brk=>exact False.elim hq
  | cont=>exact False.elim hq
theorem pe_call (F:FnOk X.prog X.w X.K X.mg X.base CX k f fd ps sp)(hr:Room k X.A)(hg:Gl X x)(hm:X.mg x=some (.ref f))(hk:PySem.W.keepIn X.K (.ref f)=true)(hb:Binds X.K fd ps ds)(hd:Vals dvs ds)(hx:Passes CX X E)
 (ha:PA X (e::es) t) (hdb:(x==("__debug__" : Str))=false:=by decide) (he:starEach (e::es) X.env=(false,eval e X.env)::starEach es X.env:=by rfl) (hpl:(backTo pos (starEach es X.env)).any (·.1)=false:=by rfl) :
 PE X (.Call (.Name x p) (e::es) [] pos) (tCall sp dvs E t):=by
 intro pins s σ H Q I h
 refine b9 (ld_glob I hg hm ?_ hdb)
 refine PySem.W.callWith_K (h₀:=X.base) I.ok.mod.kin hk (thn (ha pos pins s σ H _ I h) fun us s1 hq3=>?_) he hpl
 obtain⟨vs,H1,I1,r,q⟩:=hq3
 refine⟨I1.kIn,?_⟩
 exact run_fn F hr hb hd hx I1 r q
end
structure FnScope (N P:List Str)(sc:Scope):Prop where
 kind:sc.kind=.function
 co:sc.isCoroutine=false
 gen:sc.isGenerator=false
 nd:N.Nodup
 pre:N.take P.length=P
 par:∀ x∈P,sc.names.lookup x=some .local\/sc.names.lookup x=some .cell
 nofree:∀ y∈sc.names,y.2≠.free
theorem bindL_out {kindOf:Str->Option NameKind}{x:Str}:∀ {binds:List (Str×Value)} {m:Str->Option Value},(∀ v,(x,v)∉binds)->bindL kindOf binds m x=m x
 | [],_,_=>rfl
 | (n,v)::r,m,h=>by
  unfold bindL
  rw[bindL_out fun w hw=>h w (gxI _ hw)]
  split
  ·have:x≠n:=by rintro rfl;exact h v ae
   simp[this]
  ·rfl
theorem bindC_out {kindOf:Str->Option NameKind}{x:Str}:∀ {binds:List (Str×Value)} {m:Str->Option Value},(∀ v,(x,v)∉binds)->bindC kindOf binds m x=m x
 | [],_,_=>rfl
 | (n,v)::r,m,h=>by
  unfold bindC
  rw[bindC_out fun w hw=>h w (gxI _ hw)]
  split
  ·rfl
  ·have:x≠n:=by rintro rfl;exact h v ae
   simp[this]
theorem bindL_get {kindOf:Str->Option NameKind}{x:Str}{v:Value}:∀ {P:List Str} {vs:List Value} {i:Nat} {m:Str->Option Value},P.Nodup->P[i]?=some x->vs[i]?=some v->kindOf x=some .local ->
 bindL kindOf (P.zip vs) m x=some v
 | [],_,_,_,_,h,_,_=>by simp at h
 | _::_,[],_,_,_,_,h,_=>by simp at h
 | p::P,w::vs,0,m,nd,h1,h2,hk=>by
  simp at h1 h2;subst h1;subst h2
  show bindL kindOf ((p,w)::P.zip vs) m p=_
  unfold bindL
  rw[bindL_out fun v hv=>(List.nodup_cons.mp nd).1 (List.of_mem_zip hv).1,aE hk]
  simp
 | p::P,w::vs,i+1,m,nd,h1,h2,hk=>by
  show bindL kindOf ((p,w)::P.zip vs) m x=_
  unfold bindL
  exact bindL_get (i:=i) (List.nodup_cons.mp nd).2 (by simpa using h1) (by simpa using h2) hk
theorem bindC_get {kindOf:Str->Option NameKind}{x:Str}{v:Value}:∀ {P:List Str} {vs:List Value} {i:Nat} {m:Str->Option Value},P.Nodup->P[i]?=some x->vs[i]?=some v->kindOf x≠some .local ->
 bindC kindOf (P.zip vs) m x=some v
 | [],_,_,_,_,h,_,_=>by simp at h
 | _::_,[],_,_,_,_,h,_=>by simp at h
 | p::P,w::vs,0,m,nd,h1,h2,hk=>by
  simp at h1 h2;subst h1;subst h2
  show bindC kindOf ((p,w)::P.zip vs) m p=_
  unfold bindC
  rw[bindC_out fun v hv=>(List.nodup_cons.mp nd).1 (List.of_mem_zip hv).1,ai hk]
  simp
 | p::P,w::vs,i+1,m,nd,h1,h2,hk=>by
  show bindC kindOf ((p,w)::P.zip vs) m x=_
  unfold bindC
  exact bindC_get (i:=i) (List.nodup_cons.mp nd).2 (by simpa using h1) (by simpa using h2) hk
def start (N:List Str)(vs:List V):St:=vs.map some++List.replicate (N.length - vs.length) none
def cxOf (CX:CXT)(P:Program)(w:World)(K:PySem.W.Frag)(mg:Str->Option Value)(base:Heap)(N:List Str)(qual:Str)(scope:Scope)(f:Addr)(cd:Value)(A:Around)(outer:List Env)(s:Shared)(H:Hp)(E:XK):Cx where
 prog:=P
 w:=w
 K:=K
 mg:=mg
 base:=base
 A:=A.deeper (envOfC qual scope s.heap.objs.size f cd)
 N:=N
 s₀:=s
 H₀:=H
 env:=envOfC qual scope s.heap.objs.size f cd
 outer:=outer
 stack:=envOfC qual scope s.heap.objs.size f cd::outer
 ex:=[]
 calm:=true
 fn:=fun _=>true
 pn:=[]
 xe:=fun e s'=>wpAny (model P w) (A.deeper (envOfC qual scope s.heap.objs.size f cd)) (leaving (envOfC qual scope s.heap.objs.size f cd) e) (fun _ s''=>CX outer H s E e s'') (fun e' s''=>CX outer H s E e' s'') s'
theorem cell_has {sc:Scope}{n:Nat}{x:Str}(h:sc.names.lookup x=some .cell):∃ c,(cellsFrom n sc.names []).lookup x=some c:=by
 have q:=cY sc.names n [] (.inl h)
 exact Option.isSome_iff_exists.mp q
theorem inv_start {CX:CXT}{P:Program}{w:World}{K:PySem.W.Frag}{mg:Str->Option Value}{base:Heap}{N ps:List Str}{qual:Str}{scope:Scope}{f:Addr}{cd:Value}{A:Around}{outer:List Env}{s s1:Shared}{H:Hp}{E:XK}{us:List Value}{vs:List V}
 (S:FnScope N ps scope) (hd:A.handled=none) (e0:Env0 P w K mg base A outer s H) (hl:vs.length=ps.length) (r:Vals vs us)
 (x:InCallC s s.heap.objs.size (bindL (envOfC qual scope s.heap.objs.size f cd).kindOf (ps.zip us) fun _=>none) (cellsFrom (s.heap.objs.size+1) scope.names []) (bindC (envOfC qual scope s.heap.objs.size f cd).kindOf (ps.zip us) fun _=>none) s1) :
 Inv (cxOf CX P w K mg base N qual scope f cd A outer s H E) [] (start N vs) H s1:=by
 have hpl:ps.length<=N.length:=by have:=bg List.length S.pre;rw[a9]at this;omega
 obtain⟨h1,tk,rfl,hk⟩:=x.done
 have noA:∀ b:Addr,b∉(cxOf CX P w K mg base N qual scope f cd A outer s H E).ex:=fun b z=>absurd (show b∈([]:List Addr)from z) (by simp)
 refine⟨⟨e0.mod,S.kind,rfl,rfl,aa _,fun y z c h1 h2=>?_,fun y hy=>?_,fun y c _ h=>?_,fun _=>hd,Around.frames_deeper e0.frames,.inr ⟨rfl,rfl⟩,fun b z=>absurd z (noA b),e0.bs,e0.bsz,fun b _ _=>noA b,fun b z=>absurd z (noA b),e0.funs,e0.frf⟩,
  rfl,e0.bare,Un.kept hk,⟨_,x.toInCall.ns,fun i y v h1 h2 h3=>?_⟩,fun y c h=>⟨_,x.cell y c h⟩,e0.hok.fresh (aa _),fun y c h=>?_,fun p hp=>absurd (show p∈([]:List (Addr×Obj))from hp) (by simp),e0.hok.kept hk,?_⟩
 ·exact name_of_addr x.apart (bY h1) (bY h2)
 ·have hy:scope.names.lookup y=some .cell\/scope.names.lookup y=some .free:=hy
  rcases hy with hy | hy
  ·exact cell_has hy
  ·exact absurd rfl (S.nofree _ (bY hy))
 ·exact Nat.le_of_lt (x.above y c (bY h))
 ·have hi:i<vs.length:=by
   unfold start at h2
   by_cases hi:i<vs.length
   ·exact hi
   ·rw[gxG (by simpa using hi)]at h2
    rw[List.getElem?_replicate]at h2
    split at h2 <;> cases h2
  have ha:vs[i]?=some v:=by
   unfold start at h2
   rw[gxF (by simpa using hi),gxH]at h2
   cases e:vs[i]? with
   | none=>rw[e]at h2;cases h2
   | some a=>rw[e]at h2;cases h2;rfl
  obtain⟨u,hu,rv⟩:=r.get ha
  have hp:ps[i]?=some y:=by
   rw[<- S.pre,bc (by omega)];exact h1
  have ndP:ps.Nodup:=by rw[<- S.pre];exact S.nd.sublist (List.take_sublist _ _)
  refine⟨u,rv,?_⟩
  rcases S.par y (gxD hp)with k | k
  ·exact .inl ⟨k,bindL_get ndP hp hu k⟩
  ·obtain⟨c,e⟩:=cell_has (n:=s.heap.objs.size+1) k
   refine .inr ⟨.inl k,c,e,?_⟩
   have q:=x.cell y c e
   rw[bindC_get ndP hp hu (by show scope.names.lookup y≠_;rw[k];decide)]at q
   exact q
 ·exact e0.hok.fresh (Nat.le_of_lt (x.above y c (bY h)))
 ·unfold start
  show _=N.length
  rw[gxE,gxC,bU]
  omega
theorem fn_of {CX:CXT}{P:Program}{w:World}{K:PySem.W.Frag}{mg:Str->Option Value}{base:Heap}{k:Nat}{f:Addr}{name qual:Str}{params:Arguments}{body:List Stmt}{scope:Scope}{dV kV doc pm cdv ct oc:Value}{an od:Option Addr}
 {osl:Array (Option Value)} {N ps:List Str} {sp:Sp} (lk:K.lookup f=some ⟨oc,od,.func (PySem.W.fnOf name qual params body scope dV kV doc pm an cdv ct),osl⟩) (hcd:PySem.W.codeIn K cdv qual=true) (S:FnScope N ps scope)
 (len:∀ vs H Q E,sp vs H Q E->vs.length=ps.length)
 (hbody:∀(A:Around) (outer:List Env) (s:Shared) (H:Hp) (vs:List V) (Q:VK) (E:XK),Room k (A.deeper (envOfC qual scope s.heap.objs.size f cdv))->sp vs H Q E ->
   ∃ t,PSs (cxOf CX P w K mg base N qual scope f cdv A outer s H E) body t/\t { nx:=fun _ H'=>Q .non H',rt:=Q} (start N vs) H) :
 FnOk P w K mg base CX (k+1) f (PySem.W.fnOf name qual params body scope dV kV doc pm an cdv ct) ps sp:=by
 refine⟨len,fun A outer s H args us vs Q E hr e0 hb r hsp=>?_⟩
 have hl:=len _ _ _ _ hsp
 have KX:K.In s.heap:=e0.mod.kin.keeps fun b o e=>(e0.bs b o e).1
 have lim:s.heap.NoLimit:=e0.mod.nolimit.keeps fun b o e=>(e0.bs b o e).1
 have hkind:∀ y∈ps.zip us,scope.names.lookup y.1=some .local\/(scope.names.lookup y.1=some .cell/\((cellsFrom (s.heap.objs.size+1) scope.names []).lookup y.1).isSome=true):=fun⟨n,v⟩ hy=>by
  rcases S.par n (List.of_mem_zip hy).1 with q | q
  ·exact .inl q
  ·exact .inr ⟨q,cY _ _ _ (.inl q)⟩
 refine codeAny_call_function hr.depth (KX _ _ lk) rfl S.co S.gen rfl (PySem.W.codeRec_of KX hcd) (hb _ _ _ _ ?_)
 refine wpAny_newFunctionEnv_cells S.kind hkind fun env he s1 x=>?_
 subst he
 refine⟨lim.keeps x.toInCall.keep,codeAny_func ?_⟩
 obtain⟨t,ht,hq⟩:=hbody A outer s H vs Q E (hr.deeper _) hsp
 have I:Inv (cxOf CX P w K mg base N qual scope f cdv A outer s H E) [] (start N vs) H s1:=inv_start S hr.hd e0 hl r x
 refine bz (ht [] s1 (start N vs) H _ I hq) (fun fl s' hs=>?_) fun e s' hs=>hs
 have fin:∀ {σ':St} {H':Hp} {v:V} {u:Value},Inv (cxOf CX P w K mg base N qual scope f cdv A outer s H E) [] σ' H' s'->RelV v u->Q v H'->CE outer P w H s Q u s' :=
  fun {σ' H' v u} J rv q=>⟨v,H',J.os,J.bare,J.base,J.hok,rv,q⟩
 cases fl with
 | ret u =>
  obtain⟨v,σ',H',J,rv,q⟩:=hs
  exact fin J rv q
 | next =>
  obtain⟨σ',H',J,q⟩:=hs
  exact fin (v:=V.non) (u:=Value.none) J rfl q
 | brk =>
  obtain⟨_,_,_,q⟩:=hs
  exact False.elim q
 | cont =>
  obtain⟨_,_,_,q⟩:=hs
  exact False.elim q
section
variable {X:Cx}{x:Str}{p pos:Pos}{e:Expr}{es:List Expr}{t:TA}{id T:String}{r:List V->Hp->VK->Prop}
def tCB (r:List V->Hp->VK->Prop)(t:TA):TE:=fun σ H Q=>t σ H fun vs H1=>r vs H1 Q
theorem pe_callB (hc:CallR X (.builtin id) r)(hg:Gl X x)(hm:X.mg x=none)(hv:bootBuiltins x=some (.builtin id))(ha:PA X (e::es) t)(hn:x ≠ "__name__":=by decide)(hdb:(x==("__debug__" : Str))=false:=by decide)
 (he:starEach (e::es) X.env=(false,eval e X.env)::starEach es X.env:=by rfl) (hpl:(backTo pos (starEach es X.env)).any (·.1)=false:=by rfl):PE X (.Call (.Name x p) (e::es) [] pos) (tCB r t):=by
 intro pins s σ H Q I h
 refine b9 (ld_blt I hg hm hv ?_ hn hdb)
 exact PyProof.Rows.callWith_builtin1 (thn (ha pos pins s σ H _ I h) fun us s1 hq4=>by obtain⟨vs,H1,I1,r1,q1⟩:=hq4;exact hc pins s1 σ H1 vs us Q I1 r1 q1) he hpl
theorem pe_callTy (hc:CallR X (.type T) r)(hg:Gl X x)(hm:X.mg x=none)(hv:bootBuiltins x=some (.type T))(ha:PA X (e::es) t)(hn:x ≠ "__name__":=by decide)(hdb:(x==("__debug__" : Str))=false:=by decide)
 (he:starEach (e::es) X.env=(false,eval e X.env)::starEach es X.env:=by rfl) (hpl:(backTo pos (starEach es X.env)).any (·.1)=false:=by rfl):PE X (.Call (.Name x p) (e::es) [] pos) (tCB r t):=by
 intro pins s σ H Q I h
 refine b9 (ld_blt I hg hm hv ?_ hn hdb)
 exact bL (thn (ha pos pins s σ H _ I h) fun us s1 hq5=>by obtain⟨vs,H1,I1,r1,q1⟩:=hq5;exact hc pins s1 σ H1 vs us Q I1 r1 q1) he hpl
end
end L2
namespace HT
open PySem PyProof.Rows
section
variable {prog:Program}{w:World}{A:Around}{E:Value->Shared->Prop}{s:Shared}
def sIx (n d:Nat):Option Int->Nat
 | none=>d
 | some v=>if v<0 then(v+(n:Int)).toNat else min v.toNat n
theorem sIx_none (n d:Nat):sIx n d none=d:=rfl
theorem sIx_nat (n d k:Nat):sIx n d (some (k:Int))=min k n:=by
 show(if(k:Int)<0 then((k:Int)+(n:Int)).toNat else min (k:Int).toNat n)=min k n
 rw[ai (by omega),gxK]
theorem sIx_le (n d:Nat)(hd:d<=n)(o:Option Int):sIx n d o<=n:=by
 cases o with
 | none=>exact hd
 | some v =>
  show(if v<0 then(v+(n:Int)).toNat else min v.toNat n)<=n
  by_cases hv:v<0
  ·rw[aE hv];omega
  ·rw[ai hv];exact Nat.min_le_right _ _
end
end HT
namespace L2
open PySem PySem.Spec PyProof.Rows
abbrev TO:=St->Hp->(Option Int->Hp->Prop)->Prop
def PO (X:Cx)(e:Option Expr)(t:TO):Prop :=
 ∀(pins:List (Addr×Obj)) (s:Shared) (σ:St) (H:Hp) (Q:Option Int->Hp->Prop),Inv X pins σ H s->t σ H Q ->
  wpAny (model X.prog X.w) X.A (evalPart e X.env) (fun u s'=>∃ o H',Inv X pins σ H' s'/\IsPart u o/\Q o H') X.xe s
def tNoPart:TO:=fun _ H Q=>Q none H
section
variable {X:Cx}{e:Expr}{te:TE}{lo hi:Option Expr}{tl th:TO}{pos p2:Pos}
theorem po_none:PO X none tNoPart:=by
 intro pins s σ H Q I h
 rw[evalPart_none]
 exact ao ⟨none,H,I,.none,h⟩
def SlR (X:Cx)(r:V->Option Int->Option Int->Hp->VK->Prop):Prop :=
 ∀(pins:List (Addr×Obj)) (s:Shared) (σ:St) (H:Hp) (x:V) (v vl vu:Value) (lo hi:Option Int) (sl:Addr) (Q:VK),Inv X pins σ H s->RelV x v->s.heap.IsSliceOf sl vl vu .none->IsPart vl lo->IsPart vu hi->r x lo hi H Q ->
  ∃ T id,typeLookup (.type T) "__getitem__"=pure (some (.builtin id))/\s.TypeIs v T/\wpAny (model X.prog X.w) X.A (getItem v (.ref sl)) (EP X pins σ Q) X.xe s
def tSl (r:V->Option Int->Option Int->Hp->VK->Prop)(te:TE)(tl th:TO):TE:=fun σ H Q=>te σ H fun x H1=>tl σ H1 fun l H2=>th σ H2 fun u H3=>r x l u H3 Q
theorem pe_slice {r:V->Option Int->Option Int->Hp->VK->Prop}(hr:SlR X r)(he:PE X e te)(hl:PO X lo tl)(hu:PO X hi th):PE X (.Subscript e (.Slice lo hi none p2) pos) (tSl r te tl th):=by
 intro pins s σ H Q I h
 refine Subscript_ (thn (he pins s σ H _ I h) fun v s1 hq6=>?_)
 obtain⟨x,H1,I1,r1,q1⟩:=hq6
 refine wpAny_Slice (thn (hl pins s1 σ H1 _ I1 q1) fun vl s2 hq0=>?_)
 obtain⟨l,H2,I2,pl,q2⟩:=hq0
 refine thn (hu pins s2 σ H2 _ I2 q2) fun vu s3 hq1=>?_
 obtain⟨u,H3,I3,pu,q3⟩:=hq1
 rw[evalPart_none]
 refine ao ?_
 have I4:Inv X pins σ H3 { s3 with heap:=s3.heap.push { cls:=.type "slice",data:=.fields #[vl,vu,.none]}}:=I3.kept (t':=s3.toks) fun b ob q=>gxL _ q
 obtain⟨T,id,hT,ht,hg⟩:=hr pins { s3 with heap:=s3.heap.push { cls:=.type "slice",data:=.fields #[vl,vu,.none]}} σ H3 x v vl vu l u s3.heap.objs.size Q I4 r1 (Heap.IsSliceOf.new ..) pl pu q3
 show wpAny (model X.prog X.w) X.A (subscriptTail e (.Slice lo hi none p2) v (.ref s3.heap.objs.size)) (EP X pins σ Q) X.xe { s3 with heap:=s3.heap.push { cls:=.type "slice",data:=.fields #[vl,vu,.none]}}
 exact tail_any (ops:=[.ref s3.heap.objs.size,v]) ht hT hg (by with_unfolding_all rfl)
def cutV (xs:List V)(lo hi:Option Int):List V:=(xs.drop (HT.sIx xs.length 0 lo)).take (HT.sIx xs.length xs.length hi - HT.sIx xs.length 0 lo)
theorem cutV_length (xs:List V)(lo hi:Option Int):(cutV xs lo hi).length<=xs.length:=by
 unfold cutV
 rw[a9,cA]
 omega
end
def ixN (n:Nat)(i:Int):Option Nat:=if 0<=i then(if i<n then some i.toNat else none)else if -(n:Int)<=i then some (i+n).toNat else none
def atI {α:Type}(xs:List α)(i:Int):Option α:=(ixN xs.length i).bind fun j=>xs[j]?
theorem ixN_seq {n:Nat}{i:Int}{j:Nat}(h:ixN n i=some j):seqIndex? i n=some j/\j<n /\ -(n:Int)<=i/\i<n:=by
 unfold ixN at h
 by_cases h0:0<=i
 ·rw[aE h0]at h
  by_cases h1:i<n
  ·rw[aE h1]at h
   have e:i.toNat=j:=aV h
   exact⟨by rw[seqIndex_of h0 h1,e],by omega,by omega,h1⟩
  ·rw[ai h1]at h;cases h
 ·rw[ai h0]at h
  by_cases h1:-(n:Int)<=i
  ·rw[aE h1]at h
   have e:(i+n).toNat=j:=aV h
   exact⟨by rw[seqIndex_neg (by omega) h1,e],by omega,h1,by omega⟩
  ·rw[ai h1]at h;cases h
theorem atI_get {α:Type}{xs:List α}{i:Int}{v:α}(h:atI xs i=some v):∃ j,seqIndex? i xs.length=some j/\xs[j]?=some v/\j<xs.length /\ -(xs.length:Int)<=i/\i<xs.length:=by
 unfold atI at h
 cases e:ixN xs.length i with
 | none=>rw[e]at h;cases h
 | some j =>
  rw[e]at h
  obtain⟨h1,h2,h3,h4⟩:=ixN_seq e
  exact⟨j,h1,h,h2,h3,h4⟩
theorem atI_nat {α:Type}{xs:List α}{j:Nat}{v:α}(h:xs[j]?=some v):atI xs (j:Int)=some v:=by
 have hj:j<xs.length:=(gxB h).1
 have e:ixN xs.length (j:Int)=some j:=by
  unfold ixN
  rw[aE (by omega),aE (by omega)];simp
 unfold atI;rw[e];exact h
def PlainIx (b:Expr):Prop:=∀ o i,subscripted b false o i=operate [o,i] (getItem o i)
def IxR (X:Cx)(r:R2):Prop :=
 ∀(value slice:Expr) (pins:List (Addr×Obj)) (s:Shared) (σ:St) (H:Hp) (x y:V) (v u:Value) (Q:VK),Inv X pins σ H s->RelV x v->RelV y u->r x y H Q ->
  subscripted slice false v u=operate [v,u] (getItem v u)->wpAny (model X.prog X.w) X.A (subscriptTail value slice v u) (EP X pins σ Q) X.xe s
def MtR (X:Cx)(id:String)(r:V->List V->Hp->VK->Prop):Prop :=
 ∀(pins:List (Addr×Obj)) (s:Shared) (σ:St) (H:Hp) (x:V) (xs:List V) (v:Value) (us:List Value) (Q:VK),Inv X pins σ H s->RelV x v->Vals xs us->r x xs H Q ->
  wpAny (model X.prog X.w) X.A (call (.builtin id) (v::us)) (EP X pins σ Q) X.xe s
section
variable {X:Cx}{a b:Expr}{ta tb:TE}{pos:Pos}
theorem IxR.or {r r':R2}(h:IxR X r)(h':IxR X r'):IxR X (fun x y H Q=>r x y H Q\/r' x y H Q):=by
 intro value slice pins s σ H x y v u Q I rx ry q hs
 rcases q with q | q
 ·exact h value slice pins s σ H x y v u Q I rx ry q hs
 ·exact h' value slice pins s σ H x y v u Q I rx ry q hs
theorem pe_ix {r:R2}(hr:IxR X r)(ha:PE X a ta)(hb:PE X b tb)(hs:PlainIx b):PE X (.Subscript a b pos) (tOp r ta tb):=by
 intro pins s σ H Q I h
 exact Subscript_ (binT ha hb I h fun v u s2 x y H2 I2 rx ry q=>hr a b pins s2 σ H2 x y v u Q I2 rx ry q (hs _ _))
def rIxL (K:PySem.W.Frag):R2:=fun x y H Q=>∃ p xs i v,x=.ref p/\y=.int i/\SqL K H p xs/\atI xs i=some v/\Q v H
def rIxT (K:PySem.W.Frag):R2:=fun x y H Q=>∃ p xs i v,x=.ref p/\y=.int i/\SqT K H p xs/\atI xs i=some v/\Q v H
def rIxS:R2:=fun x y H Q=>∃ z i c,x=.str z/\y=.int i/\z.length<=sizeLine/\atI z.cps.toList i=some c/\Q (.str ⟨#[c]⟩) H
theorem ix_list:IxR X (rIxL X.K):=by
 intro value slice pins s σ H x y v u Q I rx ry h hs
 obtain⟨p,xs,i,z,rfl,rfl,hq,he,q⟩:=h
 cases rx
 obtain⟨t,rfl⟩:=ry
 obtain⟨its,r,pl,hz⟩:=I.list hq
 obtain⟨j,h1,h2,h3,h4,h5⟩:=atI_get he
 obtain⟨w,ew,rw'⟩:=r.get h2
 have hl:=r.length
 have hn:=line63
 have fin:EP X pins σ Q w s:=⟨z,H,I,rw',q⟩
 by_cases h0:0<=i
 ·have hj:i.toNat=j:=by
   rw[seqIndex_of h0 h5]at h1
   exact aV h1
  exact item_listR pl.isList h0 (by omega) (by rw[hj];simpa using ew) fin hs
 ·have hj:(i+(its.toArray.size:Int)).toNat=j:=by
   rw[seqIndex_neg (by omega) h4]at h1
   rw[af,<- hl]
   exact aV h1
  exact subscriptTail_builtinR (x:=w) pl.isList.typeIs slot_list_getitem.lookup
   (wpAny_getItem_list_neg (Q:=fun r s'=>r=w/\EP X pins σ Q r s') pl.isList (by omega) (by rw[af]<;> omega) (by omega) (by rw[hj];simpa using ew) ⟨rfl,fin⟩) hs
theorem ix_tup:IxR X (rIxT X.K):=by
 intro value slice pins s σ H x y v u Q I rx ry h hs
 obtain⟨p,xs,i,z,rfl,rfl,hq,he,q⟩:=h
 cases rx
 obtain⟨t,rfl⟩:=ry
 obtain⟨its,r,pl,hz⟩:=I.tuple hq
 obtain⟨j,h1,h2,h3,h4,h5⟩:=atI_get he
 obtain⟨w,ew,rw'⟩:=r.get h2
 have hl:=r.length
 have hn:=line63
 have fin:EP X pins σ Q w s:=⟨z,H,I,rw',q⟩
 exact subscriptTail_builtinR (x:=w) pl.typeIs slot_tuple_getitem.lookup
  (getItem_tuple (j:=j) (Q:=fun r s'=>r=w/\EP X pins σ Q r s') pl (by omega) (by omega) (by rw[af,<- hl];exact h1) (by simpa using ew) ⟨rfl,fin⟩) hs
theorem ix_str:IxR X rIxS:=by
 intro value slice pins s σ H x y v u Q I rx ry h hs
 obtain⟨z,i,c,rfl,rfl,hz,he,q⟩:=h
 obtain⟨t,rfl⟩:=rx
 obtain⟨t',rfl⟩:=ry
 obtain⟨j,h1,h2,h3,h4,h5⟩:=atI_get he
 have hl:z.cps.toList.length=z.length:=by simp[Str.length]
 rw[hl]at h1 h4 h5
 have hn:=line63
 exact tail_any (cu s z t) slot_str_getitem.lookup (getItem_str (c:=c) (by
  have e1:decide (i < -(2 ^ 63:Int))=false:=ak (by omega)
  have e2:decide (i≥2 ^ 63)=false:=ak (by omega)
  rw[e1,e2,Bool.or_false]) (by rw[h1];simpa using h2) ⟨.str ⟨#[c]⟩,H,I.tok _,⟨_,rfl⟩,q⟩) hs
def rIx (K:PySem.W.Frag):R2:=fun x y H Q=>rIxL K x y H Q\/rIxT K x y H Q\/rIxS x y H Q
theorem ix_seq:IxR X (rIx X.K):=ix_list.or (ix_tup.or ix_str)
theorem mapSeq_set (its:List Value)(n j:Nat)(u:Value):Obj.mapSeq (·.setIfInBounds j u) { cls:=.type "list",data:=.seq its.toArray n}={ cls:=.type "list",data:=.seq (its.set j u).toArray n}:=by
 simp[Obj.mapSeq]
theorem Inv.lst {pins:List (Addr×Obj)}{σ:St}{H:Hp}{s:Shared}{p:Addr}{xs:List V}(I:Inv X pins σ H s)(h:H p=some (.lst xs)) :
 ∃(its:List Value) (n:Nat),Vals xs its/\s.heap.get? p=some { cls:=.type "list",data:=.seq its.toArray n}/\xs.length<=sizeLine:=by
 obtain⟨z,its,n,r,e⟩:=I.hok p _ h
 exact⟨its,n,r,e,z⟩
theorem Inv.lstUpd {pins:List (Addr×Obj)}{σ:St}{H:Hp}{s:Shared}{p:Addr}{xs ys:List V}{its its':List Value}{n n':Nat}{f:Obj->Obj}(I:Inv X pins σ H s)(h:H p=some (.lst xs))
 (ho:s.heap.get? p=some { cls:=.type "list",data:=.seq its.toArray n}) (hf:f { cls:=.type "list",data:=.seq its.toArray n}={ cls:=.type "list",data:=.seq its'.toArray n'}) (r:Vals ys its') (hz:ys.length<=sizeLine) (t:Nat) :
 Inv X pins σ (upd H p (.lst ys)) { s with heap:=s.heap.update p f,toks:=t}:=by
 have e:(s.heap.update p f).get? p=some { cls:=.type "list",data:=.seq its'.toArray n'}:=by
  rw[bV f ho (by rw[hf]<;> rfl),hf]
 refine I.write (x:=p) (e:=p) (by rw[h];trivial) (.inl rfl) (fun b u hb q=>(aY _ _ (bM hb)).trans q) ⟨_,e⟩ ?_
 exact⟨hz,its',n',r,e⟩
def rSetL:V->V->V->Hp->(Hp->Prop)->Prop:=fun o i v H Q=>∃ p xs k j,o=.ref p/\i=.int k/\H p=some (.lst xs)/\ixN xs.length k=some j/\Q (upd H p (.lst (xs.set j v)))
theorem set_list:PSet X rSetL:=by
 intro pins s σ H o i v ov iv u Q I ro ri rv h
 obtain⟨p,xs,k,j,rfl,rfl,hp,hj,q⟩:=h
 cases ro
 obtain⟨t,rfl⟩:=ri
 obtain⟨its,n,r,ho,hz⟩:=I.lst hp
 obtain⟨h1,h2,h3,h4⟩:=ixN_seq hj
 have hl:=r.length
 have hn:=line63
 have I':Inv X pins σ (upd H p (.lst (xs.set j v))) { s with heap:=s.heap.update p (Obj.mapSeq (·.setIfInBounds j u))} :=
  I.lstUpd hp ho (mapSeq_set its n j u) (r.set rv j) (by rw[aW];exact hz) s.toks
 by_cases h0:0<=k
 ·have hk:k.toNat=j:=by
   rw[seqIndex_of h0 h4]at h1
   exact aV h1
  exact PySem.W.ki_setAt ho h0 (by omega) (by rw[af,<- hl];exact h4) (by rw[hk];exact⟨_,I',q⟩)
 ·have hk:(k+(its.toArray.size:Int)).toNat=j:=by
   rw[seqIndex_neg (by omega) h3]at h1
   rw[af,<- hl]
   exact aV h1
  exact PySem.W.ki_setBack ho (by omega) (by rw[af,<- hl];exact h3) (by omega) (by rw[hk];exact⟨_,I',q⟩)
theorem slice_bounds (lo hi:Option Int)(n:Nat):(sliceBounds lo hi none n).1=((HT.sIx n 0 lo:Nat):Int)/\(sliceBounds lo hi none n).2.1=((HT.sIx n n hi:Nat):Int)/\(sliceBounds lo hi none n).2.2=1:=by
 refine⟨?_,?_,rfl⟩
 ·cases lo with
  | none=>simp[sliceBounds,HT.sIx]
  | some i =>
   simp only[sliceBounds,HT.sIx,Option.getD_none,show(1:Int)>0 by decide,if_true]
   by_cases h:i<0
   ·simp only[h,if_true]<;> omega
   ·simp only[h,if_false]<;> omega
 ·cases hi with
  | none=>simp[sliceBounds,HT.sIx]
  | some i =>
   simp only[sliceBounds,HT.sIx,Option.getD_none,show(1:Int)>0 by decide,if_true]
   by_cases h:i<0
   ·simp only[h,if_true]<;> omega
   ·simp only[h,if_false]<;> omega
theorem slicePick_cut (its:List Value)(lo hi:Option Int):slicePick its.toArray lo hi none=((its.drop (HT.sIx its.length 0 lo)).take (HT.sIx its.length its.length hi - HT.sIx its.length 0 lo)).toArray:=by
 obtain⟨h1,h2,h3⟩:=slice_bounds lo hi its.toArray.size
 unfold slicePick
 rw[h1,h2,h3]
 simp only[sliceRange_one,pick_run,af]<;> rfl
def rSlL (K:PySem.W.Frag):V->Option Int->Option Int->Hp->VK->Prop:=fun x lo hi H Q=>∃ a xs,x=.ref a/\SqL K H a xs/\∀ p,H p=none->Q (.ref p) (upd H p (.lst (cutV xs lo hi)))
theorem sl_list:SlR X (rSlL X.K):=by
 intro pins s σ H x v vl vu lo hi sl Q I rx hs pl pu h
 obtain⟨a,xs,rfl,hx,q⟩:=h
 cases rx
 obtain⟨its,r,ht,hz⟩:=I.list hx
 have hlen:=r.length
 refine⟨"list",_,slot_list_getitem.lookup,ht.isList.typeIs,?_⟩
 refine wpAny_getItem_list_slice ht.isList hs pl pu .none (by simp) ?_ (by rw[af]<;> omega)
 rw[slicePick_cut,<- hlen]
 refine⟨.ref s.heap.objs.size,_,I.laid (t':=s.toks) (o:=.lst (cutV xs lo hi)) (fun b ob q=>gxL _ q) (aa _) ?_,rfl,q _ (I.hok.fresh (aa _))⟩
 exact⟨aD (cutV_length xs lo hi) hz,_,0,(r.drop (HT.sIx xs.length 0 lo)).take (HT.sIx xs.length xs.length hi - HT.sIx xs.length 0 lo),aj _ rfl⟩
def flatV:V->Bool
 | .non=>true
 | .bl _=>true
 | .int _=>true
 | .str _=>true
 | _=>false
def eqV:V->V->Bool
 | .non,.non=>true
 | .bl a,.bl b=>a==b
 | .bl a,.int b=>(if a then 1 else 0)==b
 | .int a,.bl b=>a==(if b then 1 else 0)
 | .int a,.int b=>a==b
 | .str a,.str b=>a==b
 | _,_=>false
theorem eqAt_V {A:Around}{s:Shared}{y x:V}{u v:Value}(ry:RelV y u)(rx:RelV x v)(fy:flatV y=true)(fx:flatV x=true):SeqAt.EqAt A s u v (eqV y x):=by
 cases y with
 | non =>
  cases ry
  cases x with
  | non=>cases rx;exact SeqAt.EqAt.same _
  | bl b=>cases rx;exact SeqAt.EqAt.none_bool b
  | int b=>obtain⟨t,rfl⟩:=rx;exact SeqAt.EqAt.none_int b t
  | str b=>obtain⟨t,rfl⟩:=rx;exact SeqAt.EqAt.none_str b t
  | _=>exact absurd (show false=true from fx) ag
 | bl a =>
  cases ry
  cases x with
  | non=>cases rx;exact SeqAt.EqAt.bool_none a
  | bl b=>cases rx;exact SeqAt.EqAt.bool_bool a b
  | int b=>obtain⟨t,rfl⟩:=rx;exact SeqAt.EqAt.bool_int a b t
  | str b=>obtain⟨t,rfl⟩:=rx;exact SeqAt.EqAt.bool_str a b t
  | _=>exact absurd (show false=true from fx) ag
 | int a =>
  obtain⟨t',rfl⟩:=ry
  cases x with
  | non=>cases rx;exact SeqAt.EqAt.int_none a t'
  | bl b=>cases rx;exact SeqAt.EqAt.int_bool a t' b
  | int b=>obtain⟨t,rfl⟩:=rx;exact SeqAt.EqAt.int_int a t' b t
  | str b=>obtain⟨t,rfl⟩:=rx;exact SeqAt.EqAt.int_str a t' b t
  | _=>exact absurd (show false=true from fx) ag
 | str a =>
  obtain⟨t',rfl⟩:=ry
  cases x with
  | non=>cases rx;exact SeqAt.EqAt.str_none a t'
  | bl b=>cases rx;exact SeqAt.EqAt.str_bool a t' b
  | int b=>obtain⟨t,rfl⟩:=rx;exact SeqAt.EqAt.str_int a t' b t
  | str b=>obtain⟨t,rfl⟩:=rx;exact SeqAt.EqAt.str_str a t' b t
  | _=>exact absurd (show false=true from fx) ag
 | _=>exact absurd (show false=true from fy) ag
def eqU (x:V)(u:Value):Bool:=match u with
 | .none=>eqV .non x
 | .bool b=>eqV (.bl b) x
 | .int i _=>eqV (.int i) x
 | .str z _=>eqV (.str z) x
 | _=>false
theorem eqU_of {x y:V}{u:Value}(r:RelV y u)(f:flatV y=true):eqU x u=eqV y x:=by
 cases y with
 | non=>cases r;rfl
 | bl b=>cases r;rfl
 | int i=>obtain⟨t,rfl⟩:=r;rfl
 | str z=>obtain⟨t,rfl⟩:=r;rfl
 | _=>exact absurd (show false=true from f) ag
theorem any_eqU {x:V}:∀ {xs:List V} {us:List Value},Vals xs us->xs.all flatV=true->us.any (eqU x)=xs.any fun y=>eqV y x
 | _,_,.nil,_=>rfl
 | y::xs,u::us,.cons r t,f=>by
  rw[cI,aQ]at f
  rw[List.any_cons,List.any_cons,eqU_of r f.1,any_eqU t f.2]
theorem mem_eqAt {A:Around}{s:Shared}{x:V}{v:Value}(rx:RelV x v)(fx:flatV x=true):∀ {xs:List V} {us:List Value},Vals xs us->xs.all flatV=true->∀ u∈us,SeqAt.EqAt A s u v (eqU x u)
 | _,_,.nil,_=>fun u hu=>by cases hu
 | y::xs,u::us,.cons r t,f=>fun u' hu=>by
  rw[cI,aQ]at f
  rcases List.mem_cons.mp hu with rfl | hu
  ·rw[eqU_of r f.1];exact eqAt_V r rx f.1 fx
  ·exact mem_eqAt rx fx t f.2 u' hu
def inV (x:V)(xs:List V):Bool:=xs.any fun y=>eqV y x
def rIn (K:PySem.W.Frag)(neg:Bool):R2:=fun x y H Q=>∃ p xs,y=.ref p/\(SqL K H p xs\/SqT K H p xs)/\flatV x=true/\xs.all flatV=true/\Q (.bl (if neg then !inV x xs else inV x xs)) H
theorem op_in_seq:OpR X (compareOp .In) (rIn X.K false):=by
 intro pins s σ H x y v u Q I rx ry h
 obtain⟨p,xs,rfl,hq,fx,fs,q⟩:=h
 cases ry
 rcases hq with hq | hq
 ·obtain⟨its,r,pl,hz⟩:=I.list hq
  refine SeqAt.in_listAt (eqU x) pl.isList (fun w hw=>mem_eqAt rx fx r fs w (by simpa using hw)) ⟨.bl _,H,I,rfl,?_⟩
  rw[show its.toArray.any (eqU x)=its.any (eqU x) by simp,any_eqU r fs]
  exact q
 ·obtain⟨its,r,pl,hz⟩:=I.tuple hq
  refine SeqAt.in_tupleAt (eqU x) pl (fun w hw=>mem_eqAt rx fx r fs w (by simpa using hw)) ⟨.bl _,H,I,rfl,?_⟩
  rw[show its.toArray.any (eqU x)=its.any (eqU x) by simp,any_eqU r fs]
  exact q
theorem call_len_seq:CallR X (.builtin "len") (fun xs H Q=>∃ p ys,xs=[.ref p]/\(SqL X.K H p ys\/SqT X.K H p ys)/\Q (.int ys.length) H):=by
 intro pins s σ H xs us Q I r h
 obtain⟨p,ys,rfl,hq,q⟩:=h
 obtain⟨u,rfl,rx⟩:=vals1 r
 cases rx
 have hn:=line63
 rcases hq with hq | hq
 ·obtain⟨its,r',pl,hz⟩:=I.list hq
  have hlen:=r'.length
  exact Calls.call_len_list pl.isList (by simp only[af]<;> omega) ⟨.int ys.length,H,I.tok _,⟨s.toks+1,by rw[af,hlen]⟩,q⟩
 ·obtain⟨its,r',pl,hz⟩:=I.tuple hq
  have hlen:=r'.length
  exact len_tuple pl (by simp only[af]<;> omega) ⟨.int ys.length,H,I.tok _,⟨s.toks+1,by rw[af,hlen]⟩,q⟩
theorem call_len_str:CallR X (.builtin "len") (fun xs H Q=>∃ z,xs=[.str z]/\z.length<=sizeLine/\Q (.int z.length) H):=by
 intro pins s σ H xs us Q I r h
 obtain⟨z,rfl,hz,q⟩:=h
 obtain⟨u,rfl,t,rfl⟩:=vals1 r
 have hn:=line63
 exact len_str (by omega) ⟨.int z.length,H,I.tok _,⟨_,rfl⟩,q⟩
theorem CallR.or {f:Value}{r r':List V->Hp->VK->Prop}(h:CallR X f r)(h':CallR X f r'):CallR X f (fun xs H Q=>r xs H Q\/r' xs H Q):=by
 intro pins s σ H xs us Q I rs q
 rcases q with q | q
 ·exact h pins s σ H xs us Q I rs q
 ·exact h' pins s σ H xs us Q I rs q
theorem call_list_of:CallR X (.type "list") (fun xs H Q=>∃ p ys,xs=[.ref p]/\(SqL X.K H p ys\/SqT X.K H p ys)/\∀ l,H l=none->Q (.ref l) (upd H l (.lst ys))):=by
 intro pins s σ H xs us Q I r h
 obtain⟨p,ys,rfl,hq,q⟩:=h
 obtain⟨u,rfl,rx⟩:=vals1 r
 cases rx
 have fin:∀(its:List Value),Vals ys its->ys.length<=sizeLine->∀(h':Heap) (c':Nat),(∀ b o',s.heap.get? b=some o'->h'.get? b=some o') ->
  h'.get? s.heap.objs.size=some { cls:=.type "list",dict:=none,data:=.seq its.toArray c',slots:=#[]}->EP X pins σ Q (.ref s.heap.objs.size) { s with heap:=h'}:=fun its r' hz h' c' kp e =>
  ⟨.ref s.heap.objs.size,_,I.laid (t':=s.toks) kp (aa _) (show ObjOk X.prog X.w _ h' _ (.lst ys)from⟨hz,its,c',r',e⟩),rfl,q _ (I.hok.fresh (aa _))⟩
 rcases hq with hq | hq
 ·obtain⟨its,r',pl,hz⟩:=I.list hq
  have hlen:=r'.length
  obtain⟨o,ho,hc,n,hd⟩:=pl.isList
  exact call_list_seq p (.inl rfl) ho hc hd (fun h' c' kp e=>fin its r' hz h' c' kp e) (by simp only[af]<;> omega)
 ·obtain⟨its,r',pl,hz⟩:=I.tuple hq
  have hlen:=r'.length
  obtain⟨o,ho,hc,n,hd⟩:=pl
  exact call_list_seq p (.inr rfl) ho hc hd (fun h' c' kp e=>fin its r' hz h' c' kp e) (by simp only[af]<;> omega)
def tyV (K:PySem.W.Frag)(T:String)(x:V)(H:Hp):Prop:=match x with
 | .str _=>T = "str"
 | .int _=>T = "int"
 | .ref p=>(T = "list"/\∃ xs,SqL K H p xs)\/(T = "tuple"/\∃ o,K.lookup p=some o/\o.cls=.type "tuple"/\o.dict=none) \/
  (T = "dict"/\((∃ kvs,H p=some (.dK kvs))\/∃ kvs,H p=some (.dT kvs)))\/(T = "set"/\∃ S n,H p=some (.set S n))
 | _=>False
theorem tyV_is {pins:List (Addr×Obj)}{σ:St}{H:Hp}{s:Shared}{T:String}{x:V}{v:Value}(I:Inv X pins σ H s)(r:RelV x v)(ty:tyV X.K T x H) :
 s.TypeIs v T/\∀ a,v=.ref a->∃ ob,s.heap.get? a=some ob/\ob.dict=none:=by
 cases x with
 | str z =>
  obtain⟨t,rfl⟩:=r
  cases(show T = "str" from ty)
  exact⟨cu s z t,fun _ e=>nomatch e⟩
 | int i =>
  obtain⟨t,rfl⟩:=r
  cases(show T = "int" from ty)
  exact⟨typeIs_int s i t,fun _ e=>nomatch e⟩
 | ref p =>
  cases r
  rcases ty with⟨rfl,xs,hq⟩ | ⟨rfl,o,hk,hc,hd⟩ | ⟨rfl,hk⟩ | ⟨rfl,S,n,hk⟩
  ·obtain⟨its,_,pl,_⟩:=I.list hq
   refine⟨pl.isList.typeIs,fun a e=>?_⟩
   cases e
   obtain⟨o,n,e,c,hd,_⟩:=pl
   exact⟨o,e,hd⟩
  ·refine⟨⟨o,I.kIn p o hk,hc⟩,fun a e=>?_⟩
   cases e
   exact⟨o,I.kIn _ o hk,hd⟩
  ·have z:∃ o,s.heap.get? p=some o/\o.ExactDict:=by
    rcases hk with⟨kvs,hk⟩ | ⟨kvs,hk⟩
    ·obtain⟨_,_,_,_,o,_,_,e,ex,_⟩:=I.hok p _ hk
     exact⟨o,e,ex⟩
    ·obtain⟨_,_,_,_,o,_,_,e,ex,_⟩:=I.hok p _ hk
     exact⟨o,e,ex⟩
   obtain⟨o,e,ex⟩:=z
   refine⟨⟨o,e,ex.1⟩,fun a e2=>?_⟩
   cases e2
   exact⟨o,e,ex.2.1⟩
  ·obtain⟨o,_,_,_,e,ex,_⟩:=I.hok p _ hk
   refine⟨⟨o,e,ex.1⟩,fun a e2=>?_⟩
   cases e2
   exact⟨o,e,ex.2.1⟩
 | _=>exact False.elim ty
def tBM0 (K:PySem.W.Frag)(T:String)(r:V->List V->Hp->VK->Prop)(to:TE):TE:=fun σ H Q=>to σ H fun x H1=>tyV K T x H1/\r x [] H1 Q
def tBM (K:PySem.W.Frag)(T:String)(r:V->List V->Hp->VK->Prop)(to:TE)(t:TA):TE:=fun σ H Q=>to σ H fun x H1=>tyV K T x H1/\t σ H1 fun xs H2=>r x xs H2 Q
variable {o e:Expr}{es:List Expr}{to:TE}{t:TA}{name:Str}{apos cpos:Pos}{T id:String}{r:V->List V->Hp->VK->Prop}
theorem pe_bm0 (pa:PlainAttrs T)(slot:Slot T name id)(hty:typeOf (.builtin id)=pure (.type "method_descriptor"))(hm:MtR X id r)(ho:PE X o to)
 (hbase:attributeBase o name X.env (eval o X.env)=eval o X.env:=by rfl) (hline:(apos.endLine==cpos.line)=true:=by rfl):PE X (.Call (.Attribute o name apos) [] [] cpos) (tBM0 X.K T r to):=by
 intro pins s σ H Q I h
 refine wpAny_Call_method0_late hbase hline (thn (ho pins s σ H _ I h) fun v s1 hq2=>?_)
 obtain⟨x,H1,I1,r1,ty,q1⟩:=hq2
 obtain⟨h1,h2⟩:=tyV_is I1 r1 ty
 exact⟨T,id,pa,slot,hty,h1,h2,bN rfl (PySem.evalArgs_none (hm pins s1 σ H1 x [] v [] Q I1 r1 .nil q1))⟩
theorem pe_bm (pa:PlainAttrs T)(slot:Slot T name id)(hty:typeOf (.builtin id)=pure (.type "method_descriptor"))(hm:MtR X id r)(ho:PE X o to)(ha:PA X (e::es) t)
 (hbase:attributeBase o name X.env (eval o X.env)=eval o X.env:=by rfl)
 (hfew:((backTo cpos (starEach (e::es) X.env)).all (fun x=>!x.1)&&(backToKw cpos (keywordEach [] X.env)).all (fun x=>x.1.isSome)
   && decide ((e::es).length+([]:List Keyword).length+(if([]:List Keyword).isEmpty then 0 else 1)<30))=true:=by rfl)
 (hline:(apos.endLine==cpos.line)=true:=by rfl) (hs:starEach (e::es) X.env=(false,eval e X.env)::starEach es X.env:=by rfl) (hplain:(backTo cpos (starEach es X.env)).any (·.1)=false:=by rfl) :
 PE X (.Call (.Attribute o name apos) (e::es) [] cpos) (tBM X.K T r to t):=by
 intro pins s σ H Q I h
 refine cX hbase hfew hline rfl (thn (ho pins s σ H _ I h) fun v s1 hq3=>?_)
 obtain⟨x,H1,I1,r1,ty,q1⟩:=hq3
 obtain⟨h1,h2⟩:=tyV_is I1 r1 ty
 refine⟨T,id,pa,slot,hty,h1,h2,?_⟩
 have hA:=ha cpos pins s1 σ H1 _ I1 q1
 rw[hs]at hA ⊢
 refine bN (by show(false||(backTo cpos (starEach es X.env)).any (·.1))=false;rw[hplain]<;> rfl) (cx ?_)
 exact thn hA fun us s2 hq4=>by obtain⟨vs,H2,I2,r2,q2⟩:=hq4;exact hm pins s2 σ H2 x vs v us Q I2 r1 r2 q2
end
def MtM (X:Cx)(id:String)(r:V->List V->Hp->VK->Prop):Prop :=
 ∀(pins:List (Addr×Obj)) (s:Shared) (σ:St) (H:Hp) (x:V) (xs:List V) (v:Value) (us:List Value) (Q:VK),Inv X pins σ H s->RelV x v->Vals xs us->r x xs H Q ->
  wpAny (model X.prog X.w) X.A (call (.builtin id) (v::us)) (EP X pins σ Q) X.xe s
theorem Vals.one {x:V}{us:List Value}(h:Vals [x] us):∃ u,us=[u]/\RelV x u:=by
 cases h with
 | cons r t=>cases t;exact⟨_,rfl,r⟩
theorem Vals.two {x y:V}{us:List Value}(h:Vals [x,y] us):∃ u v,us=[u,v]/\RelV x u/\RelV y v:=by
 cases h with
 | cons r t=>obtain⟨v,rfl,q⟩:=Vals.one t;exact⟨_,v,rfl,r,q⟩
theorem Vals.zero:∀ {us:List Value},Vals [] us->us=[]
 | _,.nil=>rfl
theorem Vals.dropLast {xs:List V}{us:List Value}(h:Vals xs us):Vals xs.dropLast us.dropLast:=by
 induction h with
 | nil=>exact .nil
 | cons r t ih =>
  cases t with
  | nil=>exact .nil
  | cons q t'=>exact .cons r ih
theorem Vals.reverse {xs:List V}{us:List Value}(h:Vals xs us):Vals xs.reverse us.reverse:=by
 induction h with
 | nil=>exact .nil
 | cons r t ih=>rw[aH,aH];exact Vals.append ih (.cons r .nil)
theorem erase_last {α:Type}(l:List α):l.eraseIdx (l.length - 1)=l.dropLast:=by
 induction l with
 | nil=>rfl
 | cons a r ih =>
  cases r with
  | nil=>rfl
  | cons b r =>
   have e:(a::b::r).length - 1=((b::r).length - 1)+1:=by
    have h1:(a::b::r).length=r.length+2:=rfl
    have h2:(b::r).length=r.length+1:=rfl
    omega
   rw[e,List.eraseIdx_cons_succ,ih]
   all_goals rfl
section
variable {X:Cx}{pins:List (Addr×Obj)}{σ:St}{H:Hp}{s:Shared}{l b:Addr}{xs ys zs:List V}
theorem Inv.lset {its its':List Value}{n:Nat}{f:Array Value->Array Value}{t':Nat}(I:Inv X pins σ H s)(hH:H l=some (.lst xs))
 (e:s.heap.get? l=some { cls:=.type "list",data:=.seq its.toArray n}) (hf:f its.toArray=its'.toArray) (hv:Vals ys its') (hz:ys.length<=sizeLine) :
 Inv X pins σ (upd H l (.lst ys)) { s with heap:=s.heap.update l (Obj.mapSeq f),toks:=t'}:=by
 have q:=PySem.IsL.update e f
 rw[hf]at q
 refine I.write (x:=l) (e:=l) (by rw[hH];exact trivial) (.inl rfl) (fun b' u hb hu=>(aY s.heap (Obj.mapSeq f) (bM hb)).trans hu) ⟨_,q⟩ ?_
 exact⟨hz,its',_,hv,q⟩
theorem Inv.lnew {its:List Value}{t':Nat}(I:Inv X pins σ H s)(hv:Vals ys its)(hz:ys.length<=sizeLine) :
 Inv X pins σ (upd H s.heap.objs.size (.lst ys)) { s with heap:=s.heap.push { cls:=.type "list",data:=.seq its.toArray},toks:=t'} :=
 I.laid (fun _ _ q=>gxL _ q) (aa _) ⟨hz,its,0,hv,aj _ rfl⟩
theorem Inv.fresh (I:Inv X pins σ H s):H s.heap.objs.size=none:=I.hok.fresh (aa _)
theorem Inv.lstM (I:Inv X pins σ H s)(hH:H l=some (.lst xs)):xs.length<=sizeLine/\∃(its:List Value) (n:Nat),Vals xs its/\xs.length=its.length/\s.heap.get? l=some { cls:=.type "list",data:=.seq its.toArray n}:=by
 obtain⟨z,its,n,r,e⟩:=I.hok l _ hH
 exact⟨z,its,n,r,r.length,e⟩
theorem notLongL {n:Nat}(h:n<=sizeLine):Builtin.List.listTooLong n=false:=by
 unfold Builtin.List.listTooLong
 exact ak (by omega)
end
section
variable {X:Cx}
def rAppend:V->List V->Hp->VK->Prop:=fun x vs H Q=>∃ l xs y,x=.ref l/\vs=[y]/\H l=some (.lst xs)/\xs.length<sizeLine/\Q .non (upd H l (.lst (xs++[y])))
theorem mt_append:MtM X "list.append" rAppend:=by
 intro pins s σ H x vs v us Q I rx rv h
 obtain⟨l,xs,y,rfl,rfl,hH,hz,q⟩:=h
 cases rx
 obtain⟨u,rfl,ru⟩:=rv.one
 obtain⟨z,its,n,r,hl,e⟩:=I.lstM hH
 refine cN F.slot_list_append ⟨_,e,rfl⟩ F.entry_list_append (F.args_list_append_2 _ _) (PySem.list_append l its.toArray n u (by rw[af];omega)) ⟨e,?_⟩
 refine⟨.non,_,I.lset (its':=its++[u]) hH e (by simp) (r.append (.cons ru .nil)) ?_,rfl,q⟩
 rw[gxE,bf]
 omega
def rExtend:V->List V->Hp->VK->Prop:=fun x vs H Q=>∃ l b xs zs,x=.ref l/\vs=[.ref b]/\H l=some (.lst xs)/\H b=some (.lst zs)/\xs.length+zs.length<=sizeLine/\Q .non (upd H l (.lst (xs++zs)))
theorem mt_extend:MtM X "list.extend" rExtend:=by
 intro pins s σ H x vs v us Q I rx rv h
 obtain⟨l,b,xs,zs,rfl,rfl,hH,hB,hz,q⟩:=h
 cases rx
 obtain⟨u,rfl,ru⟩:=rv.one
 cases ru
 obtain⟨z,its,n,r,hl,e⟩:=I.lstM hH
 obtain⟨z2,its2,n2,r2,hl2,e2⟩:=I.lstM hB
 have hsz:its.toArray.size+its2.toArray.size<=sizeLine:=by rw[af,af];omega
 have hlong:¬ (!its.toArray.isEmpty&&Builtin.List.listTooLong (its.toArray.size+its2.toArray.size))=true:=by
  rw[notLongL hsz,Bool.and_false]
  exact ag
 refine cN F.slot_list_extend ⟨_,e,rfl⟩ F.entry_list_extend (F.args_list_extend_2 _ _)
  (AutoSeq1.list_extend_list_list_0 l its.toArray n b its2.toArray n2 hlong (by rw[af];omega) (by omega)) ⟨e,e2,?_⟩
 refine⟨.non,_,I.lset (its':=its++its2) hH e (by simp) (r.append r2) ?_,rfl,q⟩
 rw[gxE]
 omega
def rPop:V->List V->Hp->VK->Prop:=fun x vs H Q=>∃ l xs y,x=.ref l/\vs=[]/\H l=some (.lst xs)/\xs[xs.length - 1]?=some y/\Q y (upd H l (.lst xs.dropLast))
theorem mt_pop:MtM X "list.pop" rPop:=by
 intro pins s σ H x vs v us Q I rx rv h
 obtain⟨l,xs,y,rfl,rfl,hH,hy,q⟩:=h
 cases rx
 have hus:=rv.zero
 subst hus
 obtain⟨z,its,n,r,hl,e⟩:=I.lstM hH
 obtain⟨u,hu,ru⟩:=r.get hy
 have hy':its.toArray[its.toArray.size - 1]?=some u:=by
  show its.toArray[its.length - 1]?=some u
  rw[<- Array.getElem?_toList,<- hl]
  exact hu
 refine cN F.slot_list_pop ⟨_,e,rfl⟩ F.entry_list_pop (F.args_list_pop_1 _) (MeetsSeq.list_pop_last l its.toArray n u hy' (by rw[af];omega)) ⟨e,?_⟩
 refine⟨y,_,I.lset (its':=its.dropLast) hH e ?_ r.dropLast ?_,ru,q⟩
 ·show its.toArray.eraseIdxIfInBounds (its.toArray.size - 1)=its.dropLast.toArray
  rw[af,List.eraseIdxIfInBounds_toArray,erase_last]
 ·rw[List.length_dropLast]
  omega
def rCat:R2:=fun x y H Q=>∃ l b xs zs,x=.ref l/\y=.ref b/\H l=some (.lst xs)/\H b=some (.lst zs)/\xs.length+zs.length<=sizeLine/\∀ p,H p=none->Q (.ref p) (upd H p (.lst (xs++zs)))
theorem op_cat:OpR X (binaryOp .Add) rCat:=by
 intro pins s σ H x y v u Q I rx ry h
 obtain⟨l,b,xs,zs,rfl,rfl,hH,hB,hz,q⟩:=h
 cases rx
 cases ry
 obtain⟨z,its,n,r,hl,e⟩:=I.lstM hH
 obtain⟨z2,its2,n2,r2,hl2,e2⟩:=I.lstM hB
 refine PySem.P.add_list e e2 ?_ (by rw[af,af];omega)
 have ea:its.toArray++its2.toArray=(its++its2).toArray:=by simp
 rw[ea]
 exact⟨.ref _,_,I.lnew (t':=s.toks) (r.append r2) (by rw[gxE];omega),rfl,q _ I.fresh⟩
end
end L2
namespace Att
open PySem PySem.W PySem.Calls PyProof.Rows
theorem ints_of_wellAll {P:Params}{h:Heap}:∀(ns:List Int) (vs:List Value),WellAll P h vs (ns.map WData.int)->IntsAre vs ns:=by
 intro ns
 induction ns with
 | nil =>
  intro vs w
  rw[List.map_nil]at w
  cases w
  exact .nil
 | cons n ns ih =>
  intro vs w
  rw[List.map_cons]at w
  cases w with
  | cons a b =>
   cases a
   exact .cons _ _ (ih _ b)
theorem script_of {l:OpenLaw}{n:Nat}(hn:l.most=some n){P:Params}{h:Heap}{args:List WData}{vals:List Value}
 (hpre:l.row.toRowW.claim.pre args=true) (hwl:WellAll P h vals args) :
 ∃ a vs ns,vals=[Value.ref a]/\args=[WData.list (ns.map WData.int)]/\h.get? a=some { cls:=.type "list",data:=.seq vs.toArray}/\IntsAre vs ns/\ns.length<=n:=by
 have hsh:WShape.hasAll [] args [.list .int]=true:=(pre_splitW hpre).1
 have hc:l.pre.holds [] { args:=args}=true:=(pre_splitW hpre).2
 obtain⟨d,r,rfl,h1,h2⟩:=hasAllW_cons hsh
 obtain rfl:=hasAllW_nil h2
 obtain⟨xs,rfl,h3⟩:=hasW_list h1
 obtain⟨ns,rfl⟩:=items_int h3
 have hlen:ns.length<=n:=by
  unfold OpenLaw.pre at hc
  have h4:(WTm.not (.lt (.lit (.int (n:Int))) (.len (.arg 0)))).holds [] { args:=[.list (ns.map .int)]}=true:=by
   have h4:=(holds_andW hc).1
   rw[hn]at h4
   exact h4
  have h5:=condW_of h4 (w_not (w_lt w_lit (w_len_list (w_arg rfl))))
  rw[gxC]at h5
  refine Nat.le_of_not_lt fun q=>?_
  have q':(n:Int)<((ns.length:Nat):Int):=by omega
  first
   | (rw[au q']at h5;exact absurd h5 (by decide))
   | (simp at h5;omega)
 cases hwl with
 | cons w1 w2 =>
  cases w2
  cases w1 with
  | list ho hall=>exact⟨_,_,ns,rfl,rfl,ho,ints_of_wellAll ns _ hall,hlen⟩
theorem post_true (l:OpenLaw)(args:List WData):l.row.toRowW.claim.post args (.bool true) args=true :=
 postW_of (r:=l.row.toRowW) (X:=(true==true))
  (show WShape.has [] (.bool true) .bool=true by first | rfl | decide | simp[WShape.has,WShape.arms,WShape.armsAll])
  (show(WTm.eq .res (.lit (.bool true))).value [] { args:=args,res:=some (.bool true),after:=args}=some (.bool (true==true))from w_eq_bool (w_res rfl) w_lit) rfl
theorem attach_call {l:OpenLaw}{n:Nat}{q:Program}{loose:List Str}{XP:(Str->Option Value)->Heap->Prop}{YP:World->Heap->Prop}{d:DefRec}
 (hn:l.most=some n) (hdf:d.params.defaults=[])
 (call:∀(w:World) (s₀ s₁:Shared) (mg mb:Str->Option Value) (fa:Addr) (o:Obj) (pm cd doc:Value) (a:Addr) (vs:List Value) (ns:List Int),
   Ground q loose [] XP w s₀ mg mb s₁.heap->YP w s₁.heap ->
   s₁.heap.get? fa=some o->o.data=.func (docDef d.name d.params d.body d.scope pm cd doc)->s₁.heap.CodeRec cd d.name->mg d.name=some (.ref fa) ->
   s₁.heap.get? a=some { cls:=.type "list",data:=.seq vs.toArray}->IntsAre vs ns->ns.length<=n->s₁.gens=#[] ->
   codeAny (model l.prog w) callerA (.call (.ref fa) ⟨[.ref a],[]⟩) (fun r s'=>r=.ok (.ret (.bool true))/\OldK s₁.heap s'.heap/\s'.os=s₁.os/\AllBare s'.gens) s₁) :
 WalkO q loose XP YP l.row.toRowW d [] (fun f vs=>PySem.call f vs):=by
 intro w s₀ s₁ mg mb G Y fa o pm cd doc dV kV ho hd hcd hD hmg hg args vals as hpre hlay hrd hwl hlo
 obtain rfl:dV=.none:=Dflts.none hD hdf
 obtain rfl:kV=.none:=Dflts.noKw hD
 obtain⟨a,vs,ns,rfl,rfl,hobj,hints,hlen⟩:=script_of hn hpre hwl
 refine enter_call (codeAny_mono (call w s₀ s₁ mg mb fa o pm cd doc a vs ns G Y ho (fd_plain hd) hcd hmg hobj hints hlen hg) fun r s' hq=>?_)
 obtain⟨rfl,h2,h3,h4⟩:=hq
 exact⟨.inl ⟨.bool true,.bool true,[],rfl,fun _=>rfl,.bool true,post_true l _,fun _=>⟨List.Pairwise.nil,fun _ hm=>(nomatch hm)⟩⟩,h2,h3,h4⟩
end Att
namespace L2
open PySem PySem.Spec PyProof.Rows
theorem vals_ints {vs:List Value}{ns:List Int}(h:IntsAre vs ns):Vals (ns.map V.int) vs:=by
 induction h with
 | nil=>exact .nil
 | cons n t h ih=>exact .cons ⟨t,rfl⟩ ih
def Only (H:Hp):Prop:=∀ b,H b=none\/∃ o xs,H b=some (.frz o (.lst xs))
theorem law_call {P:Program}{w:World}{K:PySem.W.Frag}{mg mb:Str->Option Value}{CX:CXT}{k:Nat}{fa a:Addr}{fd:FuncData}{x:Str}{sp:Sp}{s₁:Shared}{vs:List Value}{ns:List Int}
 (KX:K.In s₁.heap) (hns:s₁.heap.Ns mainGlobals mg) (hb:s₁.heap.Ns builtinsNs mb) (hbb:∀ x:Str,x ≠ "__name__"->mb x=bootBuiltins x) (hlim:s₁.heap.NoLimit) (hg:s₁.gens=#[])
 (ha:s₁.heap.get? a=some { cls:=.type "list",data:=.seq vs.toArray}) (hi:IntsAre vs ns) (hl:ns.length<=sizeLine) (hr:Room k callerA)
 (F:∀ base:Heap,K.In base->base.Ns mainGlobals mg->FnOk P w K mg base CX k fa fd [x] sp) (hbind:∀(s:Shared) (u:Value),BindsTo s fd ⟨[u],[]⟩ [(x,u)])
 (hsp:∀ H:Hp,Only H->SqL K H a (ns.map V.int)->sp [.ref a] H (fun v _=>v=.bl true) fun _ _ _=>False)
 (hCX:∀ H e s',CX [] H s₁ (fun _ _ _=>False) e s'->False) :
 codeAny (model P w) callerA (.call (.ref fa) ⟨[.ref a],[]⟩) (fun r s'=>r=.ok (.ret (.bool true))/\OldK s₁.heap s'.heap/\s'.os=s₁.os/\AllBare s'.gens) s₁:=by
 have rv:=vals_ints hi
 have lenV:=hi.length
 have core:∀ H:Hp,Only H->SqL K H a (ns.map V.int)->HOk P w H s₁.heap->(∀ b,H b≠none->b=a)->(H a≠none->K.lookup a=none) ->
  codeAny (model P w) callerA (.call (.ref fa) ⟨[.ref a],[]⟩) (fun r s'=>r=.ok (.ret (.bool true))/\OldK s₁.heap s'.heap/\s'.os=s₁.os/\AllBare s'.gens) s₁:=by
  intro H hO hS hok hA hK
  have base_of:∀ {b:Addr} {o:Obj},s₁.heap.get? b=some o->H b=none->(hidT s₁.heap H).get? b=some o:=fun e n=>hidT_get e n
  have noA:∀ {b:Addr} {o:Obj} {es:Array DictEntry} {ep:Nat},s₁.heap.get? b=some o->o.data=.dict es ep->H b=none:=fun {b o es ep} e d=>by
   cases q:H b with
   | none=>rfl
   | some u =>
    have e':b=a:=hA b (by rw[q];simp)
    subst e'
    rw[ha]at e;cases e
    have d':Data.seq vs.toArray _=Data.dict es ep:=d
    cases d'
  have nsK:∀ {b:Addr} {m:Str->Option Value},s₁.heap.Ns b m->(hidT s₁.heap H).Ns b m:=fun {b m} hq5=>by obtain⟨o,es,ep,e,d,r⟩:=hq5;exact⟨o,es,ep,base_of e (noA e d),d,r⟩
  have hKb:K.In (hidT s₁.heap H):=fun b o e=>base_of (KX b o e) (by
   cases q:H b with
   | none=>rfl
   | some u =>
    have e':b=a:=hA b (by rw[q];simp)
    subst e'
    rw[hK (by rw[q];simp)]at e;cases e)
  have hM:Mod K mg (hidT s₁.heap H):=⟨hKb,nsK hns,⟨mb,nsK hb,hbb⟩,let ⟨mc,h1,h2⟩:=hlim;⟨mc,nsK h1,h2⟩⟩
  have e0:Env0 P w K mg (hidT s₁.heap H) callerA [] s₁ H:=⟨rfl,hM,fun b o e=>of_hidT e,Nat.le_of_eq (hidT_size _ _),trivial,fun b hb=>absurd (show b∈([]:List Addr)from hb) (by simp),hok,.of_eq hg⟩
  refine codeAny_mono ((F _ hKb (nsK hns)).run callerA [] s₁ H ⟨[.ref a],[]⟩ [.ref a] [.ref a] _ _ hr e0 (hbind s₁ (.ref a)) (.cons rfl .nil) (hsp H hO hS)) fun r s' h=>?_
  cases r with
  | error e=>exact(hCX H e s' h).elim
  | ok fl =>
   cases fl with
   | next=>exact False.elim h
   | brk=>exact False.elim h
   | cont=>exact False.elim h
   | ret u =>
    obtain⟨v,H',os,bare,un,hok',r',q⟩:=h
    have q':v=.bl true:=q
    subst q'
    obtain rfl:u=Value.bool true:=r'
    refine⟨rfl,OldK.of_keep fun b o e=>?_,os,bare⟩
    cases q:H b with
    | none=>exact un.keep b o e q (by intro z;exact absurd (show b∈([]:List Addr)from z) (by simp)) (by simp)
    | some u =>
     rcases hO b with z | ⟨ob,xs,z⟩
     ·rw[q]at z;cases z
     ·have z2:=un.frzs b ob _ z
      obtain⟨e1,_⟩:=hok b _ z
      obtain⟨e2,_⟩:=hok' b _ z2
      rw[e]at e1;cases e1
      exact e2
 cases hk:K.lookup a with
 | some o =>
  have e:=KX a o hk
  rw[ha]at e
  cases e
  refine core (fun _=>none) (fun _=>.inl rfl) (.inr ⟨_,vs.toArray,_,hk,rfl,rfl,rfl,by rw[af,lenV];exact hl,by simpa using rv⟩) (fun b u z=>by have z':(none:Option HO)=some u:=z;cases z') (fun b z=>absurd rfl z) fun z=>absurd rfl z
 | none =>
  refine core (fun b=>if b=a then some (.frz { cls:=.type "list",data:=.seq vs.toArray} (.lst (ns.map V.int)))else none) (fun b=>?_) (.inl (.inr ⟨{ cls:=.type "list",data:=.seq vs.toArray},aE rfl⟩)) (fun b u z=>?_) (fun b z=>?_) fun _=>hk
  ·by_cases hb:b=a
   ·exact .inr ⟨_,_,aE hb⟩
   ·exact .inl (ai hb)
  ·by_cases hb:b=a
   ·have z':=(aE hb).symm.trans z
    cases z'
    subst hb
    exact⟨ha,by rw[gxC];exact hl,vs,_,rv,ha⟩
   ·have z':=(ai hb).symm.trans z
    cases z'
  ·by_cases hb:b=a
   ·exact hb
   ·exact absurd (ai hb) z
theorem walk_of {l:PySem.W.OpenLaw}{n k:Nat}{q:Program}{loose:List Str}{XP:(Str->Option Value)->Heap->Prop}{YP:World->Heap->Prop}{d:DefRec}{K:Params->PySem.W.Frag}{CX:World->CXT}{sp:World->Sp}{x:Str}
 (hn:l.most=some n) (hn2:n<=sizeLine) (hdf:d.params.defaults=[]) (hr:Room k callerA)
 (hY:∀(w:World) (h:Heap),YP w h->(K w.params).In h)
 (F:∀(w:World) (mg:Str->Option Value) (fa:Addr) (h:Heap),(K w.params).In h->h.Ns mainGlobals mg->mg d.name=some (.ref fa) ->
   ∃ fd:FuncData,(∀(s:Shared) (u:Value),BindsTo s fd ⟨[u],[]⟩ [(x,u)]) /\
    ∀ base:Heap,(K w.params).In base->base.Ns mainGlobals mg->FnOk l.prog w (K w.params) mg base (CX w) k fa fd [x] (sp w))
 (hsp:∀(w:World) (H:Hp) (a:Addr) (ns:List Int),ns.length<=n->Only H->SqL (K w.params) H a (ns.map V.int)->sp w [.ref a] H (fun v _=>v=.bl true) fun _ _ _=>False)
 (hCX:∀(w:World) (H:Hp) (s:Shared) (e:Value) (s':Shared),CX w [] H s (fun _ _ _=>False) e s'->False) :
 PySem.W.WalkO q loose XP YP l.row.toRowW d [] (fun f vs=>PySem.call f vs):=by
 refine Att.attach_call hn hdf fun w s₀ s₁ mg mb fa o pm cd doc a vs ns G Y ho hd hcd hmg hobj hints hlen hg=>?_
 have KX:=hY w _ Y
 obtain⟨fd,hb,hF⟩:=F w mg fa _ KX G.T.g hmg
 exact law_call KX G.T.g G.T.b G.T.builtins G.T.nolimit hg hobj hints (aD hlen hn2) hr hF hb (fun H hO hS=>hsp w H a ns hlen hO hS) fun H e s'=>hCX w H s₁ e s'
def defArgs (s:Stmt):Arguments:=match s with
 | .FunctionDef _ a _ _ _ _ _ _ _ _=>a
 | _=>{ posonlyargs:=[],args:=[],vararg:=none,kwonlyargs:=[],kw_defaults:=[],kwarg:=none,defaults:=[]}
def defBody (s:Stmt):List Stmt:=match s with
 | .FunctionDef _ _ b _ _ _ _ _ _ _=>b
 | _=>[]
def defScope (s:Stmt):Scope:=match s with
 | .FunctionDef _ _ _ _ _ _ sc _ _ _=>sc
 | _=>{ kind:=.function,names:=[],isGenerator:=false,isCoroutine:=false}
abbrev CX0:CXT:=fun _ _ _ _ _ _=>False
abbrev E0:XK:=fun _ _ _=>False
theorem pass0 {X:Cx}:Passes CX0 X E0:=fun _ _ _ _ _ _ _ h=>h.elim
structure Fun (K:PySem.W.Frag)(x qual:Str)(st:Stmt)(f:Addr)(fd:FuncData):Prop where
 ex:∃(oc:Value) (od:Option Addr) (kV doc pm:Value) (an:Option Addr) (cdv ct:Value) (osl:Array (Option Value)),
  fd=PySem.W.fnOf x qual (defArgs st) (defBody st) (defScope st) .none kV doc pm an cdv ct/\K.lookup f=some ⟨oc,od,.func fd,osl⟩/\PySem.W.codeIn K cdv qual=true
 kp:PySem.W.keepIn K (.ref f)=true
section
variable {P:Program}{w:World}{K:PySem.W.Frag}{mg:Str->Option Value}{base:Heap}
theorem Fun.ok {x qual:Str}{st:Stmt}{f:Addr}{fd:FuncData}{N ps:List Str}{k:Nat}{sp:Sp}(F:Fun K x qual st f fd)(S:FnScope N ps (defScope st))(len:∀ vs H Q E,sp vs H Q E->vs.length=ps.length)
 (hbody:∀(cdv:Value) (A:Around) (outer:List Env) (s:Shared) (H:Hp) (vs:List V) (Q:VK) (E:XK),Room k (A.deeper (envOfC qual (defScope st) s.heap.objs.size f cdv))->sp vs H Q E ->
   ∃ t,PSs (cxOf CX0 P w K mg base N qual (defScope st) f cdv A outer s H E).nox (defBody st) t/\t { nx:=fun _ H'=>Q .non H',rt:=Q} (start N vs) H):FnOk P w K mg base CX0 (k+1) f fd ps sp:=by
 obtain⟨oc,od,kV,doc,pm,an,cdv,ct,osl,rfl,lk,hcd⟩:=F.ex
 refine fn_of lk hcd S len fun A outer s H vs Q E hr hsp=>?_
 obtain⟨t,h,q⟩:=hbody cdv A outer s H vs Q E hr hsp
 exact⟨t,h.nox,q⟩
theorem Fun.binds {x qual:Str}{st:Stmt}{f:Addr}{fd:FuncData}{ps:List Str}(F:Fun K x qual st f fd)
 (h:∀(kV doc pm:Value) (an:Option Addr) (cdv ct:Value) (us:List Value),us.length=ps.length->bindArgs (PySem.W.fnOf x qual (defArgs st) (defBody st) (defScope st) .none kV doc pm an cdv ct) ⟨us,[]⟩=pure (ps.zip us)):Binds K fd ps []:=by
 obtain⟨oc,od,kV,doc,pm,an,cdv,ct,osl,rfl,lk,hcd⟩:=F.ex
 exact .all (h kV doc pm an cdv ct)
theorem fun_mk {x qual:Str}{st:Stmt}{f:Addr}{oc:Value}{od an:Option Addr}{osl:Array (Option Value)}{kV doc pm cdv ct:Value}(l:K.lookup f=some ⟨oc,od,.func (PySem.W.fnOf x qual (defArgs st) (defBody st) (defScope st) .none kV doc pm an cdv ct),osl⟩)
 (c:PySem.W.codeIn K cdv qual=true) (k:PySem.W.keepIn K (.ref f)=true):Fun K x qual st f (PySem.W.fnOf x qual (defArgs st) (defBody st) (defScope st) .none kV doc pm an cdv ct):=⟨⟨oc,od,kV,doc,pm,an,cdv,ct,osl,rfl,l,c⟩,k⟩
end
theorem hu_of {A:Around}{k:Nat}(hr:Room k A):A.units+1<cLine:=bA (Nat.add_le_add_left (by decide:1<=64) _) hr.units
def Same (H H':Hp):Prop:=∀ b o,H b=some o->H' b=some o
theorem Same.refl (H:Hp):Same H H:=fun _ _ h=>h
theorem Same.trans {H H1 H2:Hp}(a:Same H H1)(b:Same H1 H2):Same H H2:=fun c o h=>b c o (a c o h)
theorem Same.free {H H':Hp}(e:Same H H'){l:Addr}(h:H' l=Option.none):H l=Option.none:=by
 cases q:H l with
 | none=>rfl
 | some o =>
  rw[e l o q]at h
  cases h
end L2
namespace L2
open PySem PySem.W PyProof.Rows
noncomputable abbrev twRun:=Fast.tw14082659384304107361
noncomputable abbrev twTab:=Fast.tw14364793385576792824
noncomputable abbrev twSeen:=Fast.tw4187177175401517315
noncomputable abbrev S00 (w:World)(os:OsState):Shared:=⟨boot_heap w.params,#[],boot_drawn,boot_toks,os⟩
theorem boot_size (P:Params):((boot_heap P).isNs mainGlobals,(boot_heap P).objs.size,(boot_heap P).nsMap mainGlobals "__annotations__")=(true,11,some (.ref 6)):=by kernel_rfl
theorem left_of {p q:Program}{loose:List Str}{Xt:Shared->Bool}{α:Type}{Yf:Shared->α}{Ya:World->α}{N M:Nat}
 (e:opening p=plainProg p.main.scope.names) (hN:Nat.ble 600 N=true) (f:∀ s,fenceModules? p s=some s) (le:Nat.ble M N=true)
 (h:∀(w:World) (os:OsState),(twRun twTab p w 11 (some (.ref 6)) M (S00 w os) (topStub p)).map (fun s =>
   (staticsOk (importedModules p.main.body) (boot_heap w.params) s.heap&&namesBound p s.heap&&gensDone s&&laidKept (boot_heap w.params) s.heap,twSeen q loose (importedModules p.main.body) Xt true s,Yf s))=some (true,openGood q loose,Ya w)) :
 LeftO p q loose Xt Yf Ya N:=fun w=>by
 obtain⟨⟨h0,gs,d,k,os⟩,e1,e2⟩:=Option.map_eq_some_iff.mp (boot_open e hN f w)
 obtain⟨rfl,rfl,rfl,rfl⟩:h0=boot_heap w.params/\gs=#[]/\d=boot_drawn/\k=boot_toks:=by simpa using e2
 have b:=boot_size w.params
 simp only[Prod.mk.injEq]at b
 obtain⟨s1,r,e3⟩:=Option.map_eq_some_iff.mp (h w os)
 simp only[Prod.mk.injEq]at e3
 have r':topRun treeTable p w 11 (some (.ref 6)) M (S00 w os) (topStub p)=some s1:=by
  rw[show topRun=twRun from Fast.te14082659384304107361,show treeTable=twTab from Fast.te14364793385576792824];exact r
 have r2:=topRun_mono (N - M) _ _ _ _ r'
 rw[show M+(N - M)=N by have:=Nat.le_of_ble_eq_true le;omega]at r2
 have t:topFrom treeTable p w N ⟨boot_heap w.params,#[],boot_drawn,boot_toks,os⟩=some s1:=by
  unfold topFrom
  dsimp only
  rw[b.1,b.2.1,b.2.2,r2]
  show(match staticsOk (importedModules p.main.body) (boot_heap w.params) s1.heap&&namesBound p s1.heap&&gensDone s1&&laidKept (boot_heap w.params) s1.heap with | true=>_ | false=>_)=_
  rw[e3.1]
 unfold openEnds
 rw[e1]
 show(topFrom treeTable p w N _).map _=_
 rw[t]
 refine bg some (Prod.ext ?_ e3.2.2)
 rw[<- e3.2.1]
 exact congrFun (congrFun (congrFun (congrFun (congrFun (congrFun Fast.te4187177175401517315 q) loose) (importedModules p.main.body)) Xt) true) s1
def enP (P:Params)(x:Str)(t:Nat)(v:Value):DictEntry:=⟨PyData.keyHash P x,.str x t,v⟩
def mainO (P:Params)(nm:Str)(t:Nat)(es:List (Str×Nat×Value)):Obj:=⟨.type "dict",none,.dict ((([("__name__",165,.str nm t),("__doc__",166,.none),("__package__",167,.none),("__loader__",168,.builtin "__main__.__loader__#opaque"),("__spec__",169,.none),("__annotations__",170,.ref 6),("__builtins__",171,.ref 4),("__file__",173,.str "/claim/cut.py" 172),("__cached__",174,.none)]:List (Str×Nat×Value))++es).map fun e=>enP P e.1 e.2.1 e.2.2).toArray (es.length+9),#[]⟩
abbrev sS (x:String):Str:=Str.ofString x
abbrev me (x:String)(t:Nat)(v:Value):Str×Nat×Value:=(Str.ofString x,t,v)
abbrev ko (a:Addr)(o:Obj):Addr×Obj:=(a,o)
abbrev sr (a:Addr):Option (Option Value):=some (some (.ref a))
abbrev sn:Option (Option Value):=some none
def fnQ (x q:Str)(s:Stmt)(pm:Value)(c:Addr):Obj:=⟨.type "function",none,.func (fnOf x q (defArgs s) (defBody s) (defScope s) .none .none .none pm none (.ref c) .none),#[]⟩
def coQ (x q:Str)(t l a r1 r2:Nat)(v1 v2:Value)(r3 t2:Nat):Obj:=⟨.type "code",none,.fields #[.str x t,.str q (t+1),.str "/claim/cut.py" (t+2),.int l 0,.int a 0,.int 0 0,.int 0 0,.int 3 0,.ref r1,.bool true,.int 181 0,.ref r2,.none,v1,v2,.ref r3,.int t2 0,.int l 0,.str "/claim/cut.py" (t2+1)],#[]⟩
theorem fun_of {K:Frag}{x q:Str}{s:Stmt}{f c:Addr}{pm:Value}(l:K.lookup f=some (fnQ x q s pm c):=by kernel_rfl)(c':codeIn K (.ref c) q=true:=by kernel_rfl)(k:keepIn K (.ref f)=true:=by kernel_rfl):Fun K x q s f (fnOf x q (defArgs s) (defBody s) (defScope s) .none .none .none pm none (.ref c) .none):=fun_mk l c' k
theorem bn1 {α:Type}{P:List α->Prop}(h:∀ a,P [a])(us:List α)(e:us.length=1):P us:=by
 obtain⟨a,rfl⟩:=List.length_eq_one_iff.mp e
 exact h a
theorem bnS {α:Type}{P:List α->Prop}{n:Nat}(h:∀ a us,us.length=n->P (a::us))(us:List α)(e:us.length=n+1):P us:=by
 cases us with
 | nil=>cases e
 | cons a us=>exact h a us (Nat.succ.inj e)
def defPos (s:Stmt):Pos:=match s with
 | .FunctionDef _ _ _ _ _ _ _ _ _ p=>p
 | _=>⟨0,0,0,0⟩
end L2
namespace L2
open PySem PySem.Spec PyProof.Rows
def closOf (cells:List (Str×Addr)):List (Str×NameKind)->List (Str×Addr)->List (Str×Addr)
 | [],acc=>acc
 | (n,k)::r,acc=>if k==.free then closOf cells r ((n,(cells.lookup n).getD 0)::acc)else closOf cells r acc
theorem closOf_run {env:Env}(f:Str×NameKind->List (Str×Addr)->Sem (ForInStep (List (Str×Addr))))
 (hf:∀ n k cs,f (n,k) cs=if k==.free then(do let a <- cellOf env n;pure (.yield ((n,a)::cs)))else pure (.yield cs)) :
 ∀(names:List (Str×NameKind)) (acc:List (Str×Addr)),(∀ y∈names,y.2=.free->∃ c,env.cells.lookup y.1=some c) ->
  forIn names acc f=pure (closOf env.cells names acc)
 | [],acc,_=>by rw[List.forIn_nil];rfl
 | (n,k)::r,acc,h=>by
  rw[List.forIn_cons,hf]
  unfold closOf
  have hr:∀ y∈r,y.2=.free->∃ c,env.cells.lookup y.1=some c:=fun y hy=>h y (gxI _ hy)
  by_cases hk:(k==NameKind.free)=true
  ·rw[aE hk,aE hk]
   obtain⟨c,hc⟩:=h (n,k) ae (by simpa using hk)
   have hc':env.cells.lookup n=some c:=hc
   have e:cellOf env n=pure c:=by unfold cellOf;rw[hc']
   rw[e,hc',pure_bind,pure_bind]
   exact closOf_run f hf r _ hr
  ·rw[ai hk,ai hk,pure_bind]
   exact closOf_run f hf r _ hr
theorem closureFor_eq {scope:Scope}{env:Env}(h:∀ y∈scope.names,y.2=.free->∃ c,env.cells.lookup y.1=some c):closureFor scope env=pure (closOf env.cells scope.names []):=by
 simp only[closureFor]
 rw[closOf_run (env:=env) _ (fun n k cs=>by
  by_cases hk:(k==NameKind.free)=true
  ·simp only[hk,if_true]
  ·simp only[Bool.not_eq_true]at hk;simp only[hk,Bool.false_eq_true,if_false]) scope.names [] h]
 rfl
theorem closOf_mem {cells:List (Str×Addr)}:∀ {names:List (Str×NameKind)} {acc:List (Str×Addr)},(∀ y∈names,y.2=.free->∃ c,cells.lookup y.1=some c) ->
 ∀ n c,(n,c)∈closOf cells names acc->(n,c)∈acc\/cells.lookup n=some c
 | [],acc,_,n,c,h=>.inl h
 | (m,k)::r,acc,hf,n,c,h=>by
  unfold closOf at h
  have hr:∀ y∈r,y.2=.free->∃ c,cells.lookup y.1=some c:=fun y hy=>hf y (gxI _ hy)
  split at h
  ·rename_i hk
   rcases closOf_mem hr n c h with h | h
   ·rcases List.mem_cons.mp h with e | h
    ·cases e
     obtain⟨c,hc⟩:=hf (m,k) ae (by simpa using hk)
     have hc':cells.lookup m=some c:=hc
     exact .inr (by rw[hc'];rfl)
    ·exact .inl h
   ·exact .inr h
  ·exact closOf_mem hr n c h
theorem closOf_acc {cells:List (Str×Addr)}:∀(names:List (Str×NameKind)) (acc:List (Str×Addr)) (n:Str),(acc.lookup n).isSome=true->((closOf cells names acc).lookup n).isSome=true
 | [],acc,n,h=>h
 | (m,k)::r,acc,n,h=>by
  unfold closOf
  split
  ·refine closOf_acc r _ n ?_
   rw[List.lookup_cons]
   cases n==m
   ·exact h
   ·rfl
  ·exact closOf_acc r _ n h
theorem closOf_has {cells:List (Str×Addr)}:∀(names:List (Str×NameKind)) (acc:List (Str×Addr)) (n:Str),(n,NameKind.free)∈names->((closOf cells names acc).lookup n).isSome=true
 | (m,k)::r,acc,n,h=>by
  unfold closOf
  rcases List.mem_cons.mp h with e | h
  ·cases e
   refine closOf_acc r _ m ?_
   simp
  ·split
   ·exact closOf_has r _ n h
   ·exact closOf_has r _ n h
theorem cellsFrom_app:∀(names:List (Str×NameKind)) (n:Nat) (a b:List (Str×Addr)),cellsFrom n names (a++b)=cellsFrom n names a++b
 | [],_,_,_=>rfl
 | (m,k)::r,n,a,b=>by
  unfold cellsFrom
  split
  ·exact cellsFrom_app r (n+1) ((m,n)::a) b
  ·exact cellsFrom_app r n a b
theorem newEnv_comp {M:Model}{A:Around}{E:Value->Shared->Prop}{s:Shared}{scope:Scope}{cl:List (Str×Addr)}{env:Env}{Q:Env->Shared->Prop}
 (h:Q (newEnv scope s.heap.objs.size env.globals (cellsFrom (s.heap.objs.size+1) scope.names cl) env.qual none .none (some env) builtinsNs) { s with heap:=pushCells (s.heap.push { cls:=.type "dict",data:=.dict #[]}) scope.names}) :
 wpAny M A (newFunctionEnv scope env.globals cl [] env.qual none .none (some env)) Q E s:=by
 simp only[newFunctionEnv,Option.isSome_some,if_true]
 refine gxM (wpAny_alloc ?_)
 refine gxM (wpAny_layCells _ (fun name kind cells=>by cases hkc:kind==NameKind.cell <;> simp[hkc]) _ _ _ _ ?_)
 rw[show({ s with heap:=s.heap.push { cls:=.type "dict",data:=.dict #[]}}:Shared).heap.objs.size=s.heap.objs.size+1 from bq ..]
 rw[List.forIn_nil]
 exact gxM (ao (ao h))
def startC (js:List (Option Nat))(σ:St):St:=js.map fun o=>o.bind fun j=>(σ[j]?).join
def compChk (XN:List Str)(xsc:Scope)(N:List Str)(js:List (Option Nat))(sc:Scope):Bool :=
 (sc.kind==.function)&&(sc.names.all fun y=>(y.2 != .local)||(sc.names.lookup y.1==some .local)) &&
 (sc.names.all fun y=>(y.2 != .free)||(xsc.names.lookup y.1==some .cell)||(xsc.names.lookup y.1==some .free)) &&
 (js.length==N.length)&&decide N.Nodup &&
 ((N.zip js).all fun p=>match p.2 with
   | none=>true
   | some j=>XN[j]?==some p.1&&sc.names.contains (p.1,NameKind.free)&&sc.names.lookup p.1==some .free&&!(sc.names.contains (p.1,NameKind.cell)))
structure CompOk (X:Cx)(N:List Str)(js:List (Option Nat))(sc:Scope):Prop where
 kind:sc.kind=.function
 loc:∀ y∈sc.names,y.2=.local->sc.names.lookup y.1=some .local
 free:∀ y∈sc.names,y.2=.free->X.env.kindOf y.1=some .cell\/X.env.kindOf y.1=some .free
 len:js.length=N.length
 nd:N.Nodup
 slot:∀(i:Nat) (x:Str) (j:Nat),N[i]?=some x->js[i]?=some (some j)->X.N[j]?=some x/\(x,NameKind.free)∈sc.names/\sc.names.lookup x=some .free/\(x,NameKind.cell)∉sc.names
theorem compOk {X:Cx}{XN:List Str}{xsc:Scope}{N:List Str}{js:List (Option Nat)}{sc:Scope}(h:compChk XN xsc N js sc=true)(hN:X.N=XN:=by rfl)(hs:X.env.scope=xsc:=by rfl):CompOk X N js sc:=by
 subst hN;subst hs
 unfold compChk at h
 simp only[aQ,b7,Bool.or_eq_true,bne_iff_ne,beq_iff_eq,aX]at h
 obtain⟨⟨⟨⟨⟨h1,h2⟩,h3⟩,h4⟩,h5⟩,h6⟩:=h
 refine⟨h1,fun y hy e=>(h2 y hy).resolve_left fun z=>z e,fun y hy e=>?_,h4,h5,fun i x j e1 e2=>?_⟩
 ·rcases h3 y hy with(z | z) | z
  ·exact absurd e z
  ·exact .inl z
  ·exact .inr z
 ·have hm:(x,some j)∈N.zip js:=List.mem_iff_getElem?.mpr ⟨i,by rw[List.getElem?_zip_eq_some];exact⟨e1,e2⟩⟩
  have q:=h6 _ hm
  simp only[aQ,beq_iff_eq,List.contains_iff_mem,c6,List.contains_eq_mem,aX,a8]at q
  exact⟨q.1.1.1,q.1.1.2,q.1.2,q.2⟩
theorem cellsFrom_mem:∀(names:List (Str×NameKind)) (n:Nat) (acc:List (Str×Addr)) (x:Str) (c:Addr),(x,c)∈cellsFrom n names acc->(x,NameKind.cell)∈names\/(x,c)∈acc
 | [],_,_,_,_,h=>.inr h
 | (m,k)::r,n,acc,x,c,h=>by
  unfold cellsFrom at h
  split at h
  ·rename_i hk
   rcases cellsFrom_mem r _ _ x c h with h | h
   ·exact .inl (gxI _ h)
   ·rcases List.mem_cons.mp h with e | h
    ·cases e
     have hk':k=NameKind.cell:=by simpa using hk
     exact .inl (by rw[hk'];exact ae)
    ·exact .inr h
  ·rcases cellsFrom_mem r _ _ x c h with h | h
   ·exact .inl (gxI _ h)
   ·exact .inr h
theorem lookup_mapk {α β:Type}(g:Str->α->β):∀(l:List (Str×α)) (x:Str),(l.map fun p=>(p.1,g p.1 p.2)).lookup x=(l.lookup x).map (g x)
 | [],_=>rfl
 | (n,k)::r,x=>by
  rw[List.map_cons,List.lookup_cons,List.lookup_cons]
  cases hb:x==n with
  | true=>rw[beq_iff_eq.mp hb];rfl
  | false=>exact lookup_mapk g r x
def relK (env:Env)(x:Str)(k:NameKind):NameKind:=if(k==.free&&env.scope.kind==.function&&env.kindOf x==some .cell)then .cell else k
theorem lookup_relabel {sc:Scope}{env:Env}{x:Str}:(relabel sc env).names.lookup x=(sc.names.lookup x).map (relK env x):=by
 rw[<- lookup_mapk]
 unfold relabel
 congr 1
 refine List.map_congr_left fun p _=>?_
 obtain⟨n,k⟩:=p
 show(if _ then _ else _)=(n,relK env n k)
 unfold relK
 split <;> rfl
theorem relK_vis {env:Env}{x:Str}{k:NameKind}(h:relK env x k=.cell\/relK env x k=.free):k=.cell\/k=.free:=by
 unfold relK at h
 split at h
 ·rename_i q
  simp only[aQ,beq_iff_eq]at q
  exact .inr q.1.1
 ·exact h
theorem relK_free {env:Env}{x:Str}:relK env x .free=.cell\/relK env x .free=.free:=by
 unfold relK
 split
 ·exact .inl rfl
 ·exact .inr rfl
def envC (sc:Scope)(C:Addr)(env:Env):Env where
 scope:=relabel sc env
 locals:=C
 globals:=env.globals
 cells:=cellsFrom (C+1) sc.names (closOf env.cells sc.names [])
 qual:=env.qual
 func:=none
 code:=env.code
 frame:=env.frame
 builtins:=env.builtins
def cxC (X:Cx)(N:List Str)(sc:Scope)(fp:List Addr)(s:Shared)(H:Hp):Cx where
 prog:=X.prog
 w:=X.w
 K:=X.K
 mg:=X.mg
 base:=X.base
 A:=X.A
 N:=N
 s₀:=s
 H₀:=H
 env:=envC sc (s.heap.objs.size+1) X.env
 outer:=X.stack
 stack:=X.stack
 ex:=fp
 fn:=fun x=>sc.names.lookup x==some .cell
 calm:=X.calm
 pn:=[]
 xe:=fun _ _=>False
def heapC (sc:Scope)(h:Heap):Heap:=pushCells ((h.push { cls:=.type "list",dict:=none,data:=.seq ([]:List Value).toArray}).push { cls:=.type "dict",data:=.dict #[]}) sc.names
theorem heapC_keeps {sc:Scope}{h:Heap}:∀ b o,h.get? b=some o->(heapC sc h).get? b=some o:=fun b o e=>pushCells_keeps _ _ b o (gxL _ (gxL _ e))
theorem heapC_acc {sc:Scope}{h:Heap}:(heapC sc h).get? h.objs.size=some { cls:=.type "list",dict:=none,data:=.seq ([]:List Value).toArray} :=
 pushCells_keeps _ _ _ _ (gxL _ (aj _ rfl))
theorem getStart {js:List (Option Nat)}{σ:St}{i:Nat}{v:V}(h:(startC js σ)[i]?=some (some v)):∃ j,js[i]?=some (some j)/\σ[j]?=some (some v):=by
 unfold startC at h
 rw[gxH]at h
 cases e:js[i]? with
 | none=>rw[e]at h;cases h
 | some o =>
  rw[e]at h
  cases o with
  | none=>cases h
  | some j =>
   refine⟨j,rfl,?_⟩
   have h':(σ[j]?).join=some v:=aV h
   cases q:σ[j]? with
   | none=>rw[q]at h';cases h'
   | some z=>rw[q]at h';have:z=some v:=h';rw[this]
section
variable {X:Cx}{pins:List (Addr×Obj)}{σ:St}{H:Hp}{s:Shared}{N:List Str}{js:List (Option Nat)}{sc:Scope}{fp:List Addr}
theorem inv_comp (I:Inv X pins σ H s)(hc:CompOk X N js sc)(hf:∀ b∈fp,FpOk X pins H b)(ho:∀ b∈fp,∃ o,s.heap.get? b=some o)(tk:Nat) :
 Inv (cxC X N sc fp s H) [] (startC js σ) H { s with heap:=heapC sc s.heap,toks:=tk}:=by
 have hC:(s.heap.push { cls:=.type "list",dict:=none,data:=.seq ([]:List Value).toArray}).objs.size=s.heap.objs.size+1:=bq ..
 have freeX:∀ y∈sc.names,y.2=.free->∃ c,X.env.cells.lookup y.1=some c:=fun y hy e=>I.ok.has y.1 (hc.free y hy e)
 have ok:=cellsFrom_ok sc.names ((s.heap.push { cls:=.type "list",dict:=none,data:=.seq ([]:List Value).toArray}).push { cls:=.type "dict",data:=.dict #[]}) (s.heap.objs.size+1+1) [] ⟨fun _ _ hm=>(nomatch hm),List.Pairwise.nil⟩
  (by rw[bq,hC];exact aa _)
 rw[bq,hC]at ok
 have eC:(envC sc (s.heap.objs.size+1) X.env).cells=cellsFrom (s.heap.objs.size+1+1) sc.names []++closOf X.env.cells sc.names []:=cellsFrom_app sc.names _ [] _
 have lk:∀ x c,(envC sc (s.heap.objs.size+1) X.env).cells.lookup x=some c->(x,c)∈cellsFrom (s.heap.objs.size+1+1) sc.names []\/X.env.cells.lookup x=some c:=fun x c e=>by
  rw[eC]at e
  rcases List.mem_append.mp (mem_of_lookup e)with h | h
  ·exact .inl h
  ·rcases closOf_mem freeX x c h with h | h
   ·cases h
   ·exact .inr h
 have big:∀(x:Str) (c:Nat),(x,c)∈cellsFrom (s.heap.objs.size+1+1) sc.names []->s.heap.objs.size+1+1<=c:=fun x c h=>(ok.empty x c h).2
 have small:∀(x:Str) (c:Nat),X.env.cells.lookup x=some c->c<s.heap.objs.size:=fun x c h=>let ⟨_,q⟩:=I.cell x c h;q.lt
 have has:∀ x,((envC sc (s.heap.objs.size+1) X.env).kindOf x=some .cell\/(envC sc (s.heap.objs.size+1) X.env).kindOf x=some .free)->∃ c,(envC sc (s.heap.objs.size+1) X.env).cells.lookup x=some c:=fun x h=>by
  have h':(relabel sc X.env).names.lookup x=some .cell\/(relabel sc X.env).names.lookup x=some .free:=h
  rw[lookup_relabel]at h'
  rw[eC,List.lookup_append]
  cases q:sc.names.lookup x with
  | none=>rw[q]at h';rcases h' with h' | h' <;> cases h'
  | some k =>
   rw[q]at h'
   have hk:=relK_vis (env:=X.env) (x:=x) (k:=k) (h'.elim (fun z=>.inl (aV z)) fun z=>.inr (aV z))
   rcases hk with rfl | rfl
   ·obtain⟨c,hc'⟩:=cell_has (n:=s.heap.objs.size+1+1) q
    exact⟨c,by rw[hc'];rfl⟩
   ·have z:=closOf_has (cells:=X.env.cells) sc.names [] x (mem_of_lookup q)
    obtain⟨c,hc'⟩:=Option.isSome_iff_exists.mp z
    cases q2:(cellsFrom (s.heap.objs.size+1+1) sc.names []).lookup x with
    | none=>exact⟨c,by rw[hc'];rfl⟩
    | some d=>exact⟨d,rfl⟩
 have okY:(cxC X N sc fp s H).Ok:=by
  refine⟨I.ok.mod,hc.kind,I.ok.glob,I.ok.blt,Nat.le_succ _,fun x y c h1 h2=>?_,has,fun x c hx h=>?_,I.ok.hd,I.ok.frames,.inl rfl,fun b hb=>⟨?_,fun x c h=>?_⟩,I.bs,aD I.ok.bsz I.sz,fun b o e hb=>?_,fun b hb hs=>?_,I.stack,I.stkFree⟩
  ·rcases lk x c h1 with g1 | g1 <;> rcases lk y c h2 with g2 | g2
   ·exact name_of_addr ok.apart g1 g2
   ·exact absurd (aw (small _ _ g2) (aD (bt _ 2) (big _ _ g1))) (bo _)
   ·exact absurd (aw (small _ _ g1) (aD (bt _ 2) (big _ _ g2))) (bo _)
   ·exact I.ok.inj x y c g1 g2
  ·have hx':sc.names.lookup x=some .cell:=by simpa [cxC]using hx
   have h':(envC sc (s.heap.objs.size+1) X.env).cells.lookup x=some c:=h
   rw[eC,List.lookup_append]at h'
   obtain⟨c2,hc'⟩:=cell_has (n:=s.heap.objs.size+1+1) hx'
   rw[hc']at h'
   have e:c2=c:=aV h'
   subst e
   exact aD (bt _ 2) (big _ _ (mem_of_lookup hc'))
  ·obtain⟨o,e⟩:=ho b hb
   exact aF (bH (gxN e))
  ·obtain⟨o,e⟩:=ho b hb
   have l:=gxN e
   rcases lk x c h with g | g
   ·exact bC (aw l (aD (bt _ 2) (big _ _ g)))
   ·exact(hf b hb).2.2.2.2.1 x c g
  ·rcases(hf b hb).2.2.2.1 with z | z
   ·exact I.ok.noex b o e z
   ·exact absurd (aw (gxN e) (aD I.ok.bsz z)) (bo _)
  ·rcases List.mem_cons.mp (I.stkSub b hs)with z | z
   ·exact(hf b hb).2.1 z
   ·exact(hf b hb).2.2.1 z
 have keepH:∀ b u,s.heap.get? b=some u->(heapC sc s.heap).get? b=some u:=heapC_keeps
 have nsC:(heapC sc s.heap).Ns (s.heap.objs.size+1) fun _=>none:=by
  have q:=(Heap.Ns.new (s.heap.push { cls:=.type "list",dict:=none,data:=.seq ([]:List Value).toArray}) (.type "dict")).keeps (pushCells_keeps sc.names _)
  rw[hC]at q
  exact q
 refine⟨okY,rfl,I.bare,Un.kept keepH,⟨_,nsC,fun i x v e1 e2 e3=>?_⟩,fun x c h=>?_,I.hok.fresh (Nat.le_succ _),fun x c h=>?_,fun p hp=>absurd (show p∈([]:List (Addr×Obj))from hp) (by simp),I.hok.kept keepH,?_⟩
 ·obtain⟨j,hj,hv⟩:=getStart e2
  obtain⟨g1,g2,g3,g4⟩:=hc.slot i x j e1 hj
  have kx:=hc.free _ g2 rfl
  obtain⟨m,hn,hl⟩:=I.loc
  obtain⟨u,r,l⟩:=hl j x v g1 hv (.inr kx)
  refine⟨u,r,?_⟩
  rcases l with⟨z,_⟩ | ⟨_,c,hcc,hcell⟩
  ·have z':X.env.kindOf x=some .local:=z
   rcases kx with k | k <;> (have k':X.env.kindOf x=_:=k;rw[z']at k';cases k')
  ·have kY:(envC sc (s.heap.objs.size+1) X.env).kindOf x=some .cell\/(envC sc (s.heap.objs.size+1) X.env).kindOf x=some .free:=by
    show(relabel sc X.env).names.lookup x=some .cell\/(relabel sc X.env).names.lookup x=some .free
    rw[lookup_relabel,g3]
    rcases relK_free (env:=X.env) (x:=x)with q | q
    ·exact .inl (show some (relK X.env x .free)=_ by rw[q])
    ·exact .inr (show some (relK X.env x .free)=_ by rw[q])
   obtain⟨c',h'⟩:=has x kY
   refine .inr ⟨kY,c',h',?_⟩
   rcases lk x c' h' with g | g
   ·rcases cellsFrom_mem _ _ _ _ _ g with z | z
    ·exact absurd z g4
    ·cases z
   ·rw[hcc]at g;cases g
    exact hcell.keeps keepH
 ·rcases lk x c h with g | g
  ·exact⟨_,(ok.empty x c g).1⟩
  ·obtain⟨v,q⟩:=I.cell x c g
   exact⟨v,q.keeps keepH⟩
 ·rcases lk x c h with g | g
  ·exact I.hok.fresh (aD (bt _ 2) (big _ _ g))
  ·exact I.freeC x c g
 ·show(startC js σ).length=N.length
  unfold startC
  rw[gxC];exact hc.len
end
section
variable {X:Cx}{pins:List (Addr×Obj)}{σ:St}{H:Hp}{s:Shared}
theorem Inv.adopt {D:Addr}{ys:List V}{its:List Value}{n:Nat}(I:Inv X pins σ H s)(hn:H D=none)(hL:D≠X.env.locals)(h1:X.s₀.heap.objs.size<=D)(h2:∀ x c,X.env.cells.lookup x=some c->c≠D)(h3:∀ p∈X.pn++pins,p.1≠D)
 (e:s.heap.get? D=some { cls:=.type "list",data:=.seq its.toArray n}) (r:Vals ys its) (hz:ys.length<=sizeLine):Inv X pins σ (upd H D (.lst ys)) s:=by
 have ne:∀ b,b∉[D]->b≠D:=fun b h z=>h (by simp[z])
 refine I.step (g':=s.gens) (d':=s.drawn) (t':=s.toks) (h':=s.heap) (ch:=[D]) (fun b hb=>?_) (fun b o _ _ _ q _=>q) (fun b o _ _ _ q _=>⟨o.slots,q⟩) (fun b o hb q z=>by rw[upd_ne (ne b hb)];exact z) (fun b o _ q=>⟨o,q⟩)
  (fun b xs q=>by rw[upd_ne (ne_of_none q hn)];exact q) (fun b o u q=>by rw[upd_ne (ne_of_none q hn)];exact q) (fun b ps q=>⟨#[],by rw[upd_ne (ne_of_none q hn),q];simp⟩) (fun m q=>q) (fun b u q=>?_) I.bare
 ·have z:b=D:=by simpa using hb
  subst z
  exact⟨.inr h1,hL,h2,h3⟩
 ·by_cases hb:b=D
  ·subst hb;rw[upd_same]at q;cases q
   exact⟨hz,its,n,r,e⟩
  ·rw[upd_ne hb]at q
   exact(I.hok b u q).stay (fun c v _ z=>z) (fun c z=>by rw[upd_ne (ne_of_none z hn)];exact z) fun c xs z=>by rw[upd_ne (ne_of_none z hn)];exact z
def PTs (X:Cx)(ifs:List Expr)(t:TT):Prop :=
 ∀(pins:List (Addr×Obj)) (s:Shared) (σ:St) (H:Hp) (Q:Bool->Hp->Prop),Inv X pins σ H s->t σ H Q ->
  wpAny (model X.prog X.w) X.A (forIn ifs true fun c r=>if r=true then do let ok <- isTrue c X.env (eval c X.env);pure (ForInStep.yield ok)else pure (ForInStep.yield r)) (TP X pins σ Q) X.xe s
def tYes:TT:=fun _ H Q=>Q true H
theorem pts_nil:PTs X [] tYes:=fun _ _ _ H _ I h=>wpAny_tests_nil ⟨H,I,h⟩
theorem pts_one {c:Expr}{t:TT}(h:PT X c t):PTs X [c] t:=fun pins s σ H Q I q=>wpAny_tests_one (h pins s σ H Q I q)
def Ext (σ σ':St):Prop:=σ.length=σ'.length/\∀(i:Nat) v,σ[i]?=some (some v)->σ'[i]?=some (some v)
theorem Ext.own2 {v u:Option V}{r:St}:Ext (none::none::r) (v::u::r):=⟨rfl,fun i z h=>by
 match i,h with
 | 0,h=>simp at h
 | 1,h=>simp at h
 | i+2,h=>simpa using h⟩
def wComp (js:List (Option Nat))(g:TG)(tt:TT)(te:TE)(J:It)(σ:St)(H1:Hp)(fin:List V->Hp->Prop):Prop :=
 ∃ W:Nat->Nat->List V->Hp->Prop,(∃ m,W 0 m [] H1)/\∀ i m ys H,W i m ys H ->
  (J.stop i H/\fin ys H)\/(J.go i H/\∀ x H',J.yld i H x H'->g x (startC js σ) H' fun σ2 H2=>Ext (startC js σ) σ2/\tt σ2 H2 fun b H3 =>
    if b=true then te σ2 H3 fun y H4=>ys.length<sizeLine/\∃ m',m'<m/\W (i+1) m' (ys++[y]) H4 else ∃ m',m'<m/\W (i+1) m' ys H3)
theorem compLoop_any {prog:Program}{w:World}{A:Around}{R:Result->Shared->Prop}{s:Shared}{elt target iter:Expr}{ifs:List Expr}{scope:Scope}{pos:Pos}{it acc:Value}{env:Env}(I:Nat->Shared->Prop)
 (turn:∀ n s,I n s->wpAny (model prog w) A (pyNext it) (fun r s₁=>match r with
   | none=>R (.ok .next) s₁
   | some v=>wpAny (model prog w) A (letOwnedTupleGo target it v) (fun _ s₁'=>wpAny (model prog w) A (assign target env v) (fun _ s₂ =>
    wpAny (model prog w) A (forIn ifs true fun c r=>if r=true then do let ok <- isTrue c env (eval c env);pure (ForInStep.yield ok)else pure (ForInStep.yield r)) (fun ok s₃ =>
     if ok=true then wpAny (model prog w) A (eval elt env) (fun x s₄ =>
      wpAny (model prog w) A (call (.builtin "list.append") [acc,x]) (fun _ s₅=>∃ m,m<n/\I m s₅) (fun _ _=>False) s₄) (fun _ _=>False) s₃
     else ∃ m,m<n/\I m s₃) (fun _ _=>False) s₂) (fun _ _=>False) s₁') (fun _ _=>False) s₁) (fun _ _=>False) s)
 (n:Nat) (h:I n s) :
 codeAny (model prog w) A (.compLoop (.ListComp elt [⟨target,iter,ifs,0⟩] scope pos) 0 it acc env) R s:=by
 refine codeAny_loop rfl I (fun n s hI=>?_) n h
 show wpAny _ A ((compTurn (.ListComp elt [⟨target,iter,ifs,0⟩] scope pos) 0 it acc env).onRaise (fun x=>do noteFrame x env;theTreesLotGoes x)) _ _ s
 refine wpAny_noted ?_
 rw[compTurn_list]
 refine gxM (wpAny_standAt (gxM (bz (turn n s hI) (fun r s₁ h₁=>?_) fun _ _ h'=>h'.elim)))
 cases r with
 | none=>exact ao h₁
 | some v =>
  refine gxM (bz h₁ (fun _ s₁' h₁'=>?_) fun _ _ h'=>h'.elim)
  refine gxM (bz h₁' (fun _ s₂ h₂=>gxM (bz h₂ (fun ok s₃ h₃=>?_) fun _ _ h'=>h'.elim)) fun _ _ h'=>h'.elim)
  cases ok with
  | false=>exact ao ⟨rfl,h₃⟩
  | true =>
   exact gxM (gxM (bz h₃ (fun x s₄ h₄=>gxM (bz h₄ (fun _ s₅ h₅=>ao (ao ⟨rfl,h₅⟩)) fun _ _ h'=>h'.elim)) fun _ _ h'=>h'.elim))
variable {N:List Str}{js:List (Option Nat)}{sc:Scope}{fp:List Addr}{tg elt iter:Expr}{ifs:List Expr}{g:TG}{tt:TT}{te:TE}
def lobj (its:List Value)(n:Nat):Obj:={ cls:=.type "list",data:=.seq its.toArray n}
theorem comp_block {J:It}{it:Addr}{tn:Nat->Heap->Prop}{pos:Pos}{R:Result->Shared->Prop}{fin:List V->Hp->Prop}{tk:Nat}(I:Inv X pins σ H s)(hc:CompOk X N js sc){CM:Cx->Prop}(calm:CM (cxC X N sc fp s H))
 (T:Turn X.prog X.w X.K tg J fp it tn CM) (st:tn 0 s.heap) (hf:∀ b∈fp,FpOk X pins H b)
 (hg:PG (cxC X N sc fp s H) tg g) (ht:PTs (cxC X N sc fp s H) ifs tt) (he:PE (cxC X N sc fp s H) elt te) (q:wComp js g tt te J σ H fin)
 (hR:∀ s' H' ys m,Inv X pins σ (upd H' s.heap.objs.size (.lst ys)) s'->H' s.heap.objs.size=none->fin ys H'->s'.heap.Ns (s.heap.objs.size+1) m->H' (s.heap.objs.size+1)=none->R (.ok .next) s') :
 codeAny (model X.prog X.w) X.A (.compStart (.ListComp elt [⟨tg,iter,ifs,0⟩] sc pos) 0 (.ref it) (.ref s.heap.objs.size) (envC sc (s.heap.objs.size+1) X.env)) R { s with heap:=heapC sc s.heap,toks:=tk}:=by
 have hob:∀ b∈fp,∃ o,s.heap.get? b=some o:=fun b hb=>let ⟨o,e,_⟩:=T.obj 0 s.heap st b hb;⟨o,e⟩
 have I0:=inv_comp I hc hf hob tk
 have okY:=I0.ok
 obtain⟨W,⟨m0,w0⟩,turn⟩:=q
 have small:∀ b∈fp,b≠s.heap.objs.size:=fun b hb=>let ⟨o,e⟩:=hob b hb;aF (gxN e)
 have stat:∀ {its:List Value} {k:Nat} {H':Hp},(∀ b∈fp,H' b=none)->∀ b∈fp,FpOk (cxC X N sc fp s H) [(s.heap.objs.size,lobj its k)] H' b:=fun {its k H'} hn b hb =>
  ⟨hn b hb,(okY.exf b hb).1,okY.exfs b hb,.inl hb,(okY.exf b hb).2,fun p hp=>by
   have e:p=(s.heap.objs.size,lobj its k):=by simpa [cxC]using hp
   rw[e];exact(small b hb).symm⟩
 have st0:tn 0 (heapC sc s.heap):=T.keep 0 _ _ st fun b _ o e=>heapC_keeps b o e
 have I1:Inv (cxC X N sc fp s H) [(s.heap.objs.size,lobj [] 0)] (startC js σ) H { s with heap:=heapC sc s.heap,toks:=tk}:=I0.pins_of fun p hp=>by
  have e:p=(s.heap.objs.size,lobj [] 0):=by simpa using hp
  subst e
  refine⟨heapC_acc,I.hok.fresh (aa _),aF (Nat.lt_succ_self _),fun z=>?_,fun v z=>by cases z⟩
  obtain⟨_,o,ho,_⟩:=okY.funs.mem z
  exact bo _ (gxN ho)
 have loop:codeAny (model X.prog X.w) X.A (.compLoop (.ListComp elt [⟨tg,iter,ifs,0⟩] sc pos) 0 (.ref it) (.ref s.heap.objs.size) (envC sc (s.heap.objs.size+1) X.env)) R { s with heap:=heapC sc s.heap,toks:=tk}:=by
  refine compLoop_any (fun n s'=>∃ i ys its k H',Inv (cxC X N sc fp s H) [(s.heap.objs.size,lobj its k)] (startC js σ) H' s'/\tn i s'.heap/\(∀ b∈fp,H' b=none)/\Vals ys its/\ys.length<=sizeLine/\W i n ys H') ?_ m0
   ⟨0,[],[],0,H,I1,st0,fun b hb=>(hf b hb).1,.nil,a6 _,w0⟩
  rintro n s3 ⟨i,ys,its,k,H3,I3,st3,fr3,rv,hz,w3⟩
  have len:=rv.length
  rcases turn i n ys H3 w3 with⟨stop,qf⟩ | ⟨go,step⟩
  ·refine thn (T.done (cxC X N sc fp s H) rfl rfl rfl calm i _ s3 _ H3 _ I3 (stat fr3) st3 stop) fun r s4 hq6=>?_
   obtain⟨hr,I4⟩:=hq6
   subst hr
   show R (.ok .next) s4
   have hD:=I4.pin (s.heap.objs.size,lobj its k) (aN _ ae)
   obtain⟨m,hns,_⟩:=I4.loc
   have IX:Inv X pins σ H3 s4:=I.call' (ch:=fp) I4.os I4.base I4.hok I4.bare fun b hb=>by
    obtain⟨f0,f1,f2,f3,f4,f5⟩:=hf b hb
    exact⟨f3,f1,f4,f5⟩
   have neD:∀(b:Addr) (o:Obj),s.heap.get? b=some o->b≠s.heap.objs.size:=fun b o e=>aF (gxN e)
   refine hR s4 H3 ys m (IX.adopt hD.2.1 (bC I.lt) I.sz (fun x c e=>?_) (fun p hp=>neD _ _ (I.pin p hp).1) hD.1 rv hz) hD.2.1 qf hns I4.free
   obtain⟨v,q⟩:=I.cell x c e
   exact aF q.lt
  ·refine thn (T.item (cxC X N sc fp s H) rfl rfl rfl calm i _ s3 _ H3 _ I3 (stat fr3) st3 go) fun r s4 hq0=>?_
   obtain⟨u,hr,h4⟩:=hq0
   subst hr
   refine thn h4 fun _ s5 hq1=>?_
   obtain⟨x,H5,I5,r5,y5,st5,fr5⟩:=hq1
   have I5':=I5.pinned (stat fr5) (T.obj _ _ st5)
   refine thn (hg _ s5 _ H5 x u _ I5' r5 (step x H5 y5)) fun _ s6 ⟨σ6,H6,I6,⟨ext6,q6⟩⟩=>?_
   refine thn (ht _ s6 σ6 H6 _ I6 q6) fun b s7 hq2=>?_
   obtain⟨H7,I7,q7⟩:=hq2
   have back:∀ {s':Shared} {H':Hp},Inv (cxC X N sc fp s H) ([(s.heap.objs.size,lobj its k)]++pinsAt fp s5.heap) σ6 H' s'->tn (i+1) s'.heap/\(∀ b∈fp,H' b=none)/\Inv (cxC X N sc fp s H) [(s.heap.objs.size,lobj its k)] (startC js σ) H' s':=fun {s' H'} I'=>by
    refine⟨T.keep _ _ _ st5 fun b hb o e=>(I'.pin (b,o) (aN _ (aN _ (mem_pinsAt hb e)))).1,fun b hb=>?_,(I'.weak ext6.1 ext6.2).unpinned⟩
    obtain⟨o,e,d⟩:=T.obj _ _ st5 b hb
    exact(I'.pin (b,o) (aN _ (aN _ (mem_pinsAt hb e)))).2.1
   cases b with
   | false =>
    rw[ai ag]at q7 ⊢
    obtain⟨m',hm,w7⟩:=q7
    obtain⟨t7,f7,I7'⟩:=back I7
    exact⟨m',hm,i+1,ys,its,k,H7,I7',t7,f7,rv,hz,w7⟩
   | true =>
    rw[aE rfl]at q7 ⊢
    refine thn (he _ s7 σ6 H7 _ I7 q7) fun y s8 hq3=>?_
    obtain⟨yv,H8,I8,ry,hlt,m',hm,w8⟩:=hq3
    obtain⟨t8,f8,I8'⟩:=back I8
    have hD:=I8'.pin (s.heap.objs.size,lobj its k) (aN _ ae)
    have eD:s8.heap.get? s.heap.objs.size=some { cls:=.type "list",data:=.seq its.toArray k}:=hD.1
    refine cN F.slot_list_append ⟨_,eD,rfl⟩ F.entry_list_append (F.args_list_append_2 _ _) (PySem.list_append s.heap.objs.size its.toArray k y (by rw[af];omega)) ⟨eD,?_⟩
    have q:=PySem.IsL.update eD (·.push y)
    have epush:its.toArray.push y=(its++[y]).toArray:=by simp
    have keep:∀(b:Addr) (o:Obj),b≠s.heap.objs.size->s8.heap.get? b=some o->(s8.heap.update s.heap.objs.size (Obj.mapSeq (·.push y))).get? b=some o:=fun b o hb e=>(aY s8.heap (Obj.mapSeq (·.push y)) (bM hb)).trans e
    have cellD:∀ x c,(cxC X N sc fp s H).env.cells.lookup x=some c->c≠s.heap.objs.size:=fun x c e z=>by
     obtain⟨v,o,ho,hd⟩:=I8'.cell x c e
     rw[z,eD]at ho;cases ho
     cases hd
    have I9:Inv (cxC X N sc fp s H) [] (startC js σ) H8 { s8 with heap:=s8.heap.update s.heap.objs.size (Obj.mapSeq (·.push y))} :=
     (I8'.pins_of (pins':=[]) fun p hp=>absurd hp (by simp)).turned (t':=s8.toks) keep hD.2.1 hD.2.2.1 (.inr (aa _)) cellD (fun p hp=>absurd (show p∈([]:List (Addr×Obj))from hp) (by simp))
    rw[epush]at q
    obtain⟨k',q'⟩:∃ k',(s8.heap.update s.heap.objs.size (Obj.mapSeq (·.push y))).get? s.heap.objs.size=some (lobj (its++[y]) k'):=⟨_,q⟩
    refine⟨m',hm,i+1,ys++[yv],its++[y],k',H8,I9.pins_of fun p hp=>?_,T.keep _ _ _ t8 fun b hb o e=>keep b o (small b hb) e,f8,rv.append (.cons ry .nil),by rw[gxE,bf];omega,w8⟩
    have e:p=(s.heap.objs.size,lobj (its++[y]) k'):=by simpa using hp
    subst e
    exact⟨q',hD.2.1,hD.2.2.1,hD.2.2.2.1,fun v z=>by cases z⟩
 exact codeAny_compStart_list loop (T.self _ 0 _ _ _ st0 loop)
def tComp (wi:TI)(js:List (Option Nat))(g:TG)(tt:TT)(te:TE):TE:=fun σ H Q=>wi σ H fun J H1=>wComp js g tt te J σ H1 fun ys H'=>∀ D,H' D=none->Q (.ref D) (upd H' D (.lst ys))
theorem pe_comp {wi:TI}{pos:Pos}(hc:CompOk X N js sc)(calm:X.calm=true)(hi:PI X tg iter wi)(hg:∀ fp s H,PG (cxC X N sc fp s H) tg g)(ht:∀ fp s H,PTs (cxC X N sc fp s H) ifs tt)(he:∀ fp s H,PE (cxC X N sc fp s H) elt te)
 (hs:∀ x,foldedSetIterable iter X.env x=pure x:=by intro _;rfl):PE X (.ListComp elt [⟨tg,iter,ifs,0⟩] sc pos) (tComp wi js g tt te):=by
 intro pins s σ H Q I h
 rw[eval_ListComp]
 refine wpAny_comprehension_free (use:=none) rfl hs (closureFor_eq fun y hy e=>I.ok.has y.1 (hc.free y hy e)) hc.kind hc.loc (thn (hi pins s σ H _ I h) fun v s1 h1=>thn h1 fun itv s2 h2=>?_)
 obtain⟨it,fp,tn,J,H2,e,I2,T,st2,f2,q⟩:=h2
 subst e
 refine bE (newEnv_comp ?_)
 have hC:(s2.heap.push { cls:=.type "list",dict:=none,data:=.seq ([]:List Value).toArray}).objs.size=s2.heap.objs.size+1:=bq ..
 simp only[hC]
 refine comp_block (tk:=s2.toks) I2 hc calm T st2 f2 (hg fp s2 H2) (ht fp s2 H2) (he fp s2 H2) q fun s' H' ys m IX nD qf nC hn=>?_
 refine⟨m,nC,fun h' sb=>?_⟩
 have neC:∀(b:Addr) (o:Obj),s2.heap.get? b=some o->b≠s2.heap.objs.size+1:=fun b o e=>aF (bH (gxN e))
 have IY:Inv X pins σ (upd H' s2.heap.objs.size (.lst ys)) { s' with heap:=h'}:=IX.turned (t':=s'.toks) (it:=s2.heap.objs.size+1) (fun b o hb e=>(sb.2 b hb).trans e) (by rw[upd_ne (bC (Nat.lt_succ_self _))];exact hn)
  (bC (bH I2.lt)) (.inr (Nat.le_succ_of_le I2.sz)) (fun x c e=>let ⟨v,z⟩:=I2.cell x c e;aF (bH z.lt)) (fun p hp=>neC _ _ (I2.pin p hp).1)
 exact⟨.ref _,_,IY,rfl,qf _ nD⟩
end
open Builtin Builtin.Str
def cutL {α:Type}(xs:List α)(lo hi:Option Int):List α:=(xs.drop (HT.sIx xs.length 0 lo)).take (HT.sIx xs.length xs.length hi - HT.sIx xs.length 0 lo)
theorem clip_lo (n:Nat)(lo:Option Int):(match lo with | none=>(0:Int) | some i=>max 0 (min (if i<0 then i+(n:Int)else i) (n:Int)))=((HT.sIx n 0 lo:Nat):Int):=by
 cases lo with
 | none=>rfl
 | some i=>unfold HT.sIx;dsimp only;split <;> omega
theorem clip_hi (n:Nat)(hi:Option Int):(match hi with | none=>(n:Int) | some i=>max 0 (min (if i<0 then i+(n:Int)else i) (n:Int)))=((HT.sIx n n hi:Nat):Int):=by
 cases hi with
 | none=>rfl
 | some i=>unfold HT.sIx;dsimp only;split <;> omega
theorem sliceIx_eq (lo hi:Option Int)(n:Nat):strSliceIndices lo hi 1 n=sliceRange ((HT.sIx n 0 lo:Nat):Int) ((HT.sIx n n hi:Nat):Int) 1:=by
 rw[<- clip_lo,<- clip_hi]
 unfold strSliceIndices
 cases lo <;> cases hi <;> rfl
theorem sliced_eq (x:Str)(lo hi:Option Int):(strSliceIndices lo hi 1 x.length).filterMap (x.cps[·]?)=cutL x.cps.toList lo hi:=by
 have hl:x.cps.toList.length=x.length:=by simp[Str.length]
 unfold cutL
 rw[hl]
 have ha:=HT.sIx_le x.length 0 (a6 _) lo
 have hb:=HT.sIx_le x.length x.length (aa _) hi
 by_cases hab:HT.sIx x.length 0 lo<=HT.sIx x.length x.length hi
 ·rw[<- StrLaws.sliced_plain x hab hb,sliceIx_eq,sliceIx_eq]
  congr 2
  ·rw[HT.sIx_nat,Nat.min_eq_left ha]
  ·rw[HT.sIx_nat,Nat.min_eq_left hb]
 ·rw[sliceIx_eq]
  have e:HT.sIx x.length x.length hi - HT.sIx x.length 0 lo=0:=by omega
  rw[e,List.take_zero]
  unfold sliceRange
  have h1:¬ (((HT.sIx x.length 0 lo:Nat):Int)<((HT.sIx x.length x.length hi:Nat):Int)):=by omega
  simp[h1]
theorem cutL_len {α:Type}(xs:List α)(lo hi:Option Int):(cutL xs lo hi).length<=xs.length:=by
 unfold cutL
 rw[a9,cA]
 omega
section
variable {X:Cx}
def rSlS:V->Option Int->Option Int->Hp->VK->Prop:=fun x lo hi H Q=>∃ z:Str,x=.str z/\z.length<=sizeLine/\Q (.str ⟨(cutL z.cps.toList lo hi).toArray⟩) H
theorem sl_str:SlR X rSlS:=by
 intro pins s σ H x v vl vu lo hi sl Q I rx hs pl pu h
 obtain⟨z,rfl,hz,q⟩:=h
 obtain⟨t,rfl⟩:=rx
 refine⟨"str",_,F.slot_str_getitem.lookup,cu _ _ _,?_⟩
 obtain⟨l,el⟩:∃ l:Option (Int×Tok),vl=partValue l/\l.map (·.1)=lo:=by
  cases pl with
  | none=>exact⟨none,rfl,rfl⟩
  | int i t=>exact⟨some (i,t),rfl,rfl⟩
 obtain⟨u,eu⟩:∃ u:Option (Int×Tok),vu=partValue u/\u.map (·.1)=hi:=by
  cases pu with
  | none=>exact⟨none,rfl,rfl⟩
  | int i t=>exact⟨some (i,t),rfl,rfl⟩
 obtain⟨rfl,el⟩:=el
 obtain⟨rfl,eu⟩:=eu
 refine wpAny_getItem_str_slice (l:=l) (u:=u) (st:=none) hs rfl ?_
 unfold sliceMade
 have e:slicePicked z l u none=strSliceIndices lo hi 1 z.length:=by unfold slicePicked;rw[el,eu];rfl
 rw[e,sliced_eq]
 by_cases hc:(((none:Option (Int×Tok)).map (·.1)).getD 1==1&&(strSliceIndices lo hi 1 z.length).length==z.length)=true
 ·rw[aE hc]
  refine⟨.str z,H,I,⟨_,rfl⟩,?_⟩
  have hc':(strSliceIndices lo hi 1 z.length).length=z.length:=by simpa using hc
  have hl:z.cps.toList.length=z.length:=by simp[Str.length]
  have h3:cutL z.cps.toList lo hi=z.cps.toList:=by
   rw[sliceIx_eq]at hc'
   unfold sliceRange at hc'
   have ha:=HT.sIx_le z.length 0 (a6 _) lo
   have hb:=HT.sIx_le z.length z.length (aa _) hi
   rw[gxC,gxJ]at hc'
   unfold cutL
   rw[hl]
   by_cases hlt:((HT.sIx z.length 0 lo:Nat):Int)<((HT.sIx z.length z.length hi:Nat):Int)
   ·simp[hlt]at hc'
    have a0:HT.sIx z.length 0 lo=0:=by omega
    have b0:HT.sIx z.length z.length hi=z.length:=by omega
    rw[a0,b0,List.drop_zero,Nat.sub_zero,<- hl,List.take_length]
   ·simp[hlt]at hc'
    have z0:z.cps.toList=[]:=List.length_eq_zero_iff.mp (by omega)
    rw[z0];simp
  have e2:(⟨(cutL z.cps.toList lo hi).toArray⟩:Str)=z:=by rw[h3]
  rw[e2]at q
  exact q
 ·rw[ai hc]
  refine⟨?_,.str _,H,I.tok _,⟨_,rfl⟩,q⟩
  have hl:z.cps.toList.length=z.length:=by simp[Str.length]
  have:=cutL_len z.cps.toList lo hi
  show(cutL z.cps.toList lo hi).toArray.size<=sizeLine
  rw[af]
  omega
theorem rep_one (c:Nat):∀(n:Nat) (acc:Array Nat),(List.replicate n #[c]).foldl (·++·) acc=acc++(List.replicate n c).toArray
 | 0,acc=>by simp
 | n+1,acc=>by
  rw[List.replicate_succ,List.foldl_cons,rep_one c n,List.replicate_succ]
  apply Array.toList_inj.mp
  simp
theorem mul_one (c:Nat)(n:Int):Txt.mul ⟨#[c]⟩ n=⟨(List.replicate n.toNat c).toArray⟩:=by
 unfold Txt.mul
 by_cases h1:n<1
 ·rw[aE h1]
  have e:n.toNat=0:=by omega
  rw[e];rfl
 ·rw[ai h1]
  by_cases h2:(n==1||(⟨#[c]⟩:Str).length==0)=true
  ·rw[aE h2]
   have e:n=1:=by simpa [Str.length]using h2
   rw[e];rfl
  ·rw[ai h2]
   congr 1
   have:=rep_one c n.toNat #[]
   rw[this]
   apply Array.toList_inj.mp
   simp
theorem op_mul_str:OpR X (binaryOp .Mult) (fun x y H Q=>∃(c:Nat) (n:Int),x=.str ⟨#[c]⟩/\y=.int n /\ -1000000<=n/\n<=1000000/\Q (.str ⟨(List.replicate n.toNat c).toArray⟩) H):=by
 intro pins s σ H x y v u Q I rx ry h
 obtain⟨c,n,rfl,rfl,h1,h2,q⟩:=h
 obtain⟨t,rfl⟩:=rx
 obtain⟨t',rfl⟩:=ry
 refine SB.mul ⟨?_,fun hn _=>?_,fun hn _=>?_⟩ fun t' k=>?_
 ·rw[ak (by omega),ak (by omega)];rfl
 ·have e:((⟨#[c]⟩:Str).length:Int)=1:=rfl
  rw[e]
  have:(1:Int)<=(2 ^ 63 - 1) / n:=(Int.le_ediv_iff_mul_le (by omega)).mpr (by omega)
  omega
 ·have e:(⟨#[c]⟩:Str).length=1:=rfl
  rw[e]
  unfold tooLong sizeLine
  rw[ak (by omega)]
 ·rw[mul_one]
  exact⟨.str _,H,I.tok _,⟨_,rfl⟩,q⟩
theorem cnt_count (c:Nat):∀ l:List Nat,countIn (.str ⟨#[c]⟩) (l.map fun n=>PyData.str ⟨#[n]⟩)=((l.count c:Nat):Int)
 | []=>rfl
 | n::r=>by
  have h:=cnt_cons c n r
  unfold cnt at h
  rw[h,cnt_count c r,List.count_cons]
  by_cases e:n=c
  ·rw[aE e,aE (by simpa using e)];omega
  ·rw[ai e,ai (by simpa using e)];omega
def rCount:V->List V->Hp->VK->Prop:=fun x vs H Q=>∃(z:Str) (c:Nat),x=.str z/\vs=[.str ⟨#[c]⟩]/\Q (.int ((z.cps.toList.count c:Nat):Int)) H
theorem mt_count:MtR X "str.count" rCount:=by
 intro pins s σ H x vs v us Q I rx rv h
 obtain⟨z,c,rfl,rfl,q⟩:=h
 obtain⟨t,rfl⟩:=rx
 obtain⟨u,rfl,ru⟩:=rv.one
 obtain⟨t',rfl⟩:=ru
 refine SC.count ?_
 rw[count_is,cnt_count]
 exact⟨.int _,H,I.tok _,⟨_,rfl⟩,q⟩
def Its (l:List Nat):It:=⟨fun i _=>i<l.length,fun i H x H'=>H'=H/\∃ c,l[i]?=some c/\x=.str ⟨#[c]⟩,fun i _=>i=l.length⟩
theorem turn_str {P:Program}{w:World}{K:PySem.W.Frag}{tg:Expr}{it:Addr}{z:Str}{n:String}{St:Nat->Heap->Prop}
 (W:∀ A':Around,A'.handled=none->Walks P w A' it [it] [it] z.cps.size (SignAt z) St) (hn:["enumerate", "zip", "dict_itemiterator", "dict_reverseitemiterator", "odict_iterator", "itertools.zip_longest", "itertools.pairwise"].contains n=false)
 (ob:∀ i h,St i h->∃ o vs,h.get? it=some o/\o.cls=.type n/\o.data=.fields vs) (slf:∀(A:Around) (i:Nat) (s:Shared) (Q:Value->Shared->Prop) (E:Value->Shared->Prop),St i s.heap->Q (.ref it) s->wpAny (model P w) A (pyIter (.ref it)) Q E s):Turn P w K tg (Its z.cps.toList) [it] it St where
 mem:=by simp
 obj:=fun i h st b hb=>by
  have e:b=it:=by simpa using hb
  subst e
  obtain⟨o,vs,e,c,d⟩:=ob i h st
  exact⟨o,e,fun v z=>by rw[d]at z;cases z⟩
 keep:=fun i h h' st k=>(W { handled:=none,depth:=0,units:=0,frames:=none} rfl).frame i h h' st k
 item:=by
  intro X hP hw hK hc i pins s σ H E I hf st hg
  subst hP hw hK
  obtain⟨f0,f1,f2,f3,f4,f5⟩:=hf it (by simp)
  have hg':i<z.cps.toList.length:=hg
  refine(W X.A (I.ok.hd hc)).item i s _ _ (by simpa using hg') st fun v h' tk hv st' kk=>?_
  obtain⟨c,u,hcc,rfl⟩:=hv
  have I1:Inv X pins σ H { s with heap:=h',toks:=tk}:=I.turned (fun b o hb e=>kk b o (by simpa using hb) e) f0 f1 f3 f4 f5
  obtain⟨o,vs,e,c',d⟩:=ob _ _ st'
  refine⟨_,rfl,go_of (s:={ s with heap:=h',toks:=tk}) (n:=n) e c' d hn ⟨.str ⟨#[c]⟩,H,I1,⟨u,rfl⟩,⟨rfl,c,by simpa using hcc,rfl⟩,st',fun b hb=>(hf b hb).1⟩⟩
 done:=by
  intro X hP hw hK hc i pins s σ H E I hf st hg
  subst hP hw hK
  obtain⟨f0,f1,f2,f3,f4,f5⟩:=hf it (by simp)
  have e:i=z.cps.size:=by have:i=z.cps.toList.length:=hg;simpa using this
  subst e
  exact(W X.A (I.ok.hd hc)).done s _ _ st fun h' tk eb=>⟨rfl,I.turned (t':=tk) (fun b o hb e=>eb b o (by simpa using hb) e) f0 f1 f3 f4 f5⟩
 self:=slf
def iStr (tl:TE):TI:=fun σ H R=>tl σ H fun x H1=>∃ z:Str,x=.str z/\R (Its z.cps.toList) H1
theorem pi_str {tg l:Expr}{tl:TE}(hl:PE X l tl):PI X tg l (iStr tl):=by
 intro pins s σ H R I h
 refine thn (hl pins s σ H _ I h) fun v s1 hq4=>?_
 obtain⟨x,H1,I1,r1,z,e,q⟩:=hq4
 subst e
 obtain⟨t,rfl⟩:=r1
 have fp:∀ b∈[s1.heap.objs.size],FpOk X pins H1 b:=fun b hb=>by
  have e:b=s1.heap.objs.size:=by simpa using hb
  subst e
  exact I1.fpOk (aa _) (I1.hok.fresh (aa _))
 have kp:∀(o:Obj),Inv X pins σ H1 { s1 with heap:=s1.heap.push o}:=fun o=>I1.kept (t':=s1.toks) fun b o' e=>gxL _ e
 cases ha:z.cps.all (·<128)
 ·refine wpAny_pyIter_wide ha ⟨s1.heap.objs.size,[s1.heap.objs.size],fun i h=>h.IsStrIter s1.heap.objs.size "str_iterator" z t i,_,H1,rfl,kp _,turn_str (n := "str_iterator") (fun A' hA=>Walks.strWide hA _ z t) (by decide) (fun i h st=>let ⟨o,a,b,c⟩:=st;⟨o,_,a,b,c⟩) (fun _ _ _ _ _ st h=>wpAny_pyIter_striter_wide st h),⟨_,aj _ rfl,rfl,rfl⟩,fp,q⟩
 ·refine wpAny_pyIter_ascii ha ⟨s1.heap.objs.size,[s1.heap.objs.size],fun i h=>h.IsStrIter s1.heap.objs.size "str_ascii_iterator" z t i,_,H1,rfl,kp _,turn_str (n := "str_ascii_iterator") (fun A' hA=>Walks.strAscii hA _ z t) (by decide) (fun i h st=>let ⟨o,a,b,c⟩:=st;⟨o,_,a,b,c⟩) (fun _ _ _ _ _ st h=>wpAny_pyIter_striter_ascii st h),⟨_,aj _ rfl,rfl,rfl⟩,fp,q⟩
theorem call_isi:CallR X (.builtin "isinstance") (fun vs H Q=>∃ x T t b,vs=[x,.ty T]/\TyOf X.K H x t/\PySem.W.kitOne X.K t (.type T)=some b/\Q (.bl b) H):=by
 intro pins s σ H vs us Q I rv h
 obtain⟨x,T,t,b,rfl,ty,e,q⟩:=h
 obtain⟨u,w',rfl,r1,r2⟩:=vals2 rv
 cases r2
 exact isinst_ok I r1 ty e fun tk=>⟨.bl b,H,I.tok tk,rfl,q⟩
end
end L2
namespace L2
open PySem PySem.Spec PyProof.Rows
open Builtin Builtin.Str
section
variable {X:Cx}
theorem OpR.imp {f:Value->Value->Sem Value}{r r':R2}(h:OpR X f r)(hi:∀ x y H Q,r' x y H Q->r x y H Q):OpR X f r':=fun pins s σ H x y v u Q I r1 r2 q=>h pins s σ H x y v u Q I r1 r2 (hi x y H Q q)
theorem PE.imp {e:Expr}{t t':TE}(h:PE X e t)(hi:∀ σ H Q,t' σ H Q->t σ H Q):PE X e t':=fun pins s σ H Q I q=>h pins s σ H Q I (hi σ H Q q)
theorem PT.imp {e:Expr}{t t':TT}(h:PT X e t)(hi:∀ σ H Q,t' σ H Q->t σ H Q):PT X e t':=fun pins s σ H Q I q=>h pins s σ H Q I (hi σ H Q q)
theorem PG.imp {e:Expr}{t t':TG}(h:PG X e t)(hi:∀ v σ H Q,t' v σ H Q->t v σ H Q):PG X e t':=fun pins s σ H v u Q I r q=>h pins s σ H v u Q I r (hi v σ H Q q)
theorem PGs.imp {e:List Expr}{t t':TGs}(h:PGs X e t)(hi:∀ v σ H Q,t' v σ H Q->t v σ H Q):PGs X e t':=fun pins s σ H v u Q I r q=>h pins s σ H v u Q I r (hi v σ H Q q)
theorem PS.imp {e:Stmt}{t t':TS}(h:PS X e t)(hi:∀ D σ H,t' D σ H->t D σ H):PS X e t':=fun pins s σ H D I q=>h pins s σ H D I (hi D σ H q)
theorem CallR.imp {f:Value}{r r':List V->Hp->VK->Prop}(h:CallR X f r)(hi:∀ vs H Q,r' vs H Q->r vs H Q):CallR X f r':=fun pins s σ H vs us Q I rv q=>h pins s σ H vs us Q I rv (hi vs H Q q)
theorem MtR.imp {id:String}{r r':V->List V->Hp->VK->Prop}(h:MtR X id r)(hi:∀ x vs H Q,r' x vs H Q->r x vs H Q):MtR X id r':=fun pins s σ H x vs v us Q I r1 rv q=>h pins s σ H x vs v us Q I r1 rv (hi x vs H Q q)
def cVar (i:Nat):TE:=fun σ H Q=>match σ[i]? with | some (some v)=>Q v H | _=>False
theorem pvC (i:Nat){x:Str}{pos:Pos}(hN:X.N[i]?=some x:=by rfl)(hv:Vis X.env.scope x:=by first | exact Or.inl rfl | exact Or.inr (Or.inl rfl) | exact Or.inr (Or.inr rfl))(hd:(x==("__debug__" : Str))=false:=by decide)
 (hcd:(x==("__classdict__" : Str))=false:=by decide):PE X (.Name x pos) (cVar i):=(pe_var (i:=i) hN hv hd hcd).imp fun σ H Q q=>by
 unfold cVar at q
 split at q
 ·rename_i v e;exact⟨v,e,q⟩
 ·exact q.elim
def rAddC:R2:=fun x y H Q=>match x,y with
 | .int i,.int j=>Q (.int (i+j)) H
 | .str i,.str j=>i.length+j.length<=sizeLine/\Q (.str (i++j)) H
 | .ref l,.ref b=>∃ xs zs,H l=some (.lst xs)/\H b=some (.lst zs)/\xs.length+zs.length<=sizeLine/\∀ p,H p=none->Q (.ref p) (upd H p (.lst (xs++zs)))
 | _,_=>False
theorem addC:OpR X (binaryOp .Add) rAddC:=(op_add.or (op_add_str.or op_cat)).imp fun x y H Q q=>by
 unfold rAddC at q
 split at q
 ·exact .inl ⟨_,_,rfl,rfl,q⟩
 ·exact .inr (.inl ⟨_,_,rfl,rfl,q.1,q.2⟩)
 ·obtain⟨xs,zs,a,b,c,d⟩:=q;exact .inr (.inr ⟨_,_,xs,zs,rfl,rfl,a,b,c,d⟩)
 ·exact q.elim
def rI2 (C:Int->Int->Prop)(g:Int->Int->V):R2:=fun x y H Q=>match x,y with
 | .int i,.int j=>C i j/\Q (g i j) H
 | _,_=>False
def rI2' (g:Int->Int->V):R2:=fun x y H Q=>match x,y with
 | .int i,.int j=>Q (g i j) H
 | _,_=>False
theorem OpR.i2 {f:Value->Value->Sem Value}{C:Int->Int->Prop}{g:Int->Int->V}(h:OpR X f (rI C g)):OpR X f (rI2 C g):=h.imp fun x y H Q q=>by
 unfold rI2 at q
 split at q
 ·exact⟨_,_,rfl,rfl,q.1,q.2⟩
 ·exact q.elim
theorem OpR.i2' {f:Value->Value->Sem Value}{g:Int->Int->V}(h:OpR X f (rI0 g)):OpR X f (rI2' g):=h.imp fun x y H Q q=>by
 unfold rI2' at q
 split at q
 ·exact⟨_,_,rfl,rfl,q⟩
 ·exact q.elim
theorem subC:OpR X (binaryOp .Sub) (rI2' fun i j=>.int (i - j)):=op_sub.i2'
def rMulC:R2:=fun x y H Q=>match x,y with
 | .int i,.int j=>CMul i j/\Q (.int (i*j)) H
 | .str z,.int n=>∃ c:Nat,z=⟨#[c]⟩ /\ -1000000<=n/\n<=1000000/\Q (.str ⟨(List.replicate n.toNat c).toArray⟩) H
 | _,_=>False
theorem mulC:OpR X (binaryOp .Mult) rMulC:=(op_mul.or op_mul_str).imp fun x y H Q q=>by
 unfold rMulC at q
 split at q
 ·exact .inl ⟨_,_,rfl,rfl,q.1,q.2⟩
 ·obtain⟨c,rfl,a,b,d⟩:=q;exact .inr ⟨c,_,rfl,rfl,a,b,d⟩
 ·exact q.elim
theorem divC:OpR X (binaryOp .FloorDiv) (rI2 CDiv fun i j=>.int (i / j)):=op_fdiv.i2
theorem modC:OpR X (binaryOp .Mod) (rI2 (fun _ j=>0<j) fun i j=>.int (i%j)):=op_mod.i2
theorem powC:OpR X (binaryOp .Pow) (rI2 CPow fun i j=>.int (i ^ j.toNat)):=op_pow.i2
theorem ltC:OpR X (compareOp .Lt) (rI2' fun i j=>.bl (decide (i<j))):=op_lt.i2'
theorem gtC:OpR X (compareOp .Gt) (rI2' fun i j=>.bl (decide (j<i))):=op_gt.i2'
theorem geC:OpR X (compareOp .GtE) (rI2' fun i j=>.bl (decide (j<=i))):=op_ge.i2'
def rEqC (neg:Bool):R2:=fun x y H Q=>match x,y with
 | .int i,.int j=>Q (.bl (neg != decide (i=j))) H
 | .str i,.str j=>Q (.bl (neg != decide (i=j))) H
 | .bl i,.bl j=>Q (.bl (neg != decide (i=j))) H
 | _,_=>False
theorem dec_congr {p q:Prop}[Decidable p][Decidable q](h:p↔q):decide p=decide q:=by
 by_cases hp:p
 ·rw[au hp,au (h.mp hp)]
 ·rw[ak hp,ak fun z=>hp (h.mpr z)]
theorem dI {i j:Int}:decide (V.int i=V.int j)=decide (i=j):=dec_congr (by simp)
theorem dS {i j:Str}:decide (V.str i=V.str j)=decide (i=j):=dec_congr (by simp)
theorem dB {i j:Bool}:decide (V.bl i=V.bl j)=decide (i=j):=dec_congr (by simp)
theorem eqC:OpR X (compareOp .Eq) (rEqC false):=op_eq.imp fun x y H Q q=>by
 unfold rEqC at q
 split at q
 ·exact⟨rfl,by rw[dI];simpa using q⟩
 ·exact⟨rfl,by rw[dS];simpa using q⟩
 ·exact⟨rfl,by rw[dB];simpa using q⟩
 ·exact q.elim
theorem neC:OpR X (compareOp .NotEq) (rEqC true):=op_ne.imp fun x y H Q q=>by
 unfold rEqC at q
 split at q
 ·exact⟨rfl,by rw[dI];simpa using q⟩
 ·exact⟨rfl,by rw[dS];simpa using q⟩
 ·exact⟨rfl,by rw[dB];simpa using q⟩
 ·exact q.elim
def cT (t:TE):TT:=fun σ H Q=>t σ H fun x H1=>match x with | .bl c=>Q c H1 | _=>False
end
def bK (Q:Bool->Hp->Prop):VK:=fun x H1=>match x with | .bl c=>Q c H1 | _=>False
section
variable {X:Cx}{a b e:Expr}{t ta tb:TE}{pos:Pos}
def cB (t:TE):TT:=fun σ H Q=>t σ H (bK Q)
theorem pt_cmpC {op:CmpOp}{r:R2}(ho:OpR X (compareOp op) r)(ha:PE X a ta)(hb:PE X b tb)(hm:behindInMarks op b=false):PT X (.Compare a [op] [b] pos) (cB (tOp r ta tb)):=by
 intro pins s σ H Q I h
 have hE:=pe_cmpR (pos:=pos) ho ha hb hm
 refine c7 ?_ hm
 refine binT ha hb I h fun v u s2 x y H2 I2 rx ry q=>?_
 refine thn (ho _ s2 σ H2 x y v u _ I2 rx ry q) fun c s3 hq5=>?_
 obtain⟨z,H3,I3,r3,q3⟩:=hq5
 cases z with
 | bl d=>cases r3;exact bx ⟨H3,I3,q3⟩
 | _=>exact(show False from q3).elim
theorem pt_valC (h:PE X e t)(he:∀ whole,isTrue e X.env whole=(do let v <- whole;standAt e.pos;holding [v] (truthy v)):=by intro _;rfl):PT X e (cB t):=by
 intro pins s σ H Q I hw
 refine isTrue_plain (thn (h pins s σ H _ I hw) fun v s1 hq6=>?_) (he _)
 obtain⟨x,H1,I1,r1,q1⟩:=hq6
 cases x with
 | bl d=>cases r1;exact bx ⟨H1,I1,q1⟩
 | _=>exact(show False from q1).elim
def cAnd (ta tb:TE):TE:=fun σ H Q=>ta σ H fun x H1=>match x with | .bl c=>if c=true then tb σ H1 Q else Q (.bl false) H1 | _=>False
def cNot (ta:TE):TE:=fun σ H Q=>ta σ H fun x H1=>match x with | .bl c=>Q (.bl (!c)) H1 | _=>False
theorem pe_andC {rest:List Expr}(ha:PE X a ta)(hb:PE X (.BoolOp .And (b::rest) pos) tb):PE X (.BoolOp .And (a::b::rest) pos) (cAnd ta tb):=by
 intro pins s σ H Q I h
 refine BoolOp_and (thn (ha pins s σ H _ I h) fun v s1 hq0=>?_)
 obtain⟨x,H1,I1,r1,q1⟩:=hq0
 cases x with
 | bl c =>
  cases r1
  refine bx ?_
  cases c with
  | true=>exact hb pins s1 σ H1 Q I1 q1
  | false=>exact⟨.bl false,H1,I1,rfl,q1⟩
 | _=>exact(show False from q1).elim
theorem pe_notC (ha:PE X a ta):PE X (.UnaryOp .Not a pos) (cNot ta):=by
 intro pins s σ H Q I h
 refine UnaryOp_ (thn (ha pins s σ H _ I h) fun v s1 hq1=>?_)
 obtain⟨x,H1,I1,r1,q1⟩:=hq1
 cases x with
 | bl c=>cases r1;exact not_of (bx ⟨.bl (!c),H1,I1,rfl,q1⟩)
 | _=>exact(show False from q1).elim
def opt {α:Type}(o:Option α)(k:α->Prop):Prop:=match o with | some v=>k v | none=>False
theorem opt_ex {α:Type}{o:Option α}{k:α->Prop}(h:opt o k):∃ v,o=some v/\k v:=by
 cases o with
 | none=>exact h.elim
 | some v=>exact⟨v,rfl,h⟩
def rIxC:R2:=fun x y H Q=>match x,y with
 | .ref p,.int i=>∃ xs,(H p=some (.lst xs)\/H p=some (.tup xs))/\opt (atI xs i) fun v=>Q v H
 | .str z,.int i=>z.length<=sizeLine/\opt (atI z.cps.toList i) fun c=>Q (.str ⟨#[c]⟩) H
 | _,_=>False
theorem IxR.imp {r r':R2}(h:IxR X r)(hi:∀ x y H Q,r' x y H Q->r x y H Q):IxR X r':=fun value slice pins s σ H x y v u Q I r1 r2 q=>h value slice pins s σ H x y v u Q I r1 r2 (hi x y H Q q)
theorem ixC:IxR X rIxC:=ix_seq.imp fun x y H Q q=>by
 unfold rIxC at q
 split at q
 ·obtain⟨xs,h,q⟩:=q
  obtain⟨v,e,q⟩:=opt_ex q
  rcases h with h | h
  ·exact .inl ⟨_,xs,_,v,rfl,rfl,SqL.of h,e,q⟩
  ·exact .inr (.inl ⟨_,xs,_,v,rfl,rfl,SqT.of h,e,q⟩)
 ·obtain⟨hz,q⟩:=q
  obtain⟨v,e,q⟩:=opt_ex q
  exact .inr (.inr ⟨_,_,v,rfl,rfl,hz,e,q⟩)
 ·exact q.elim
def rSlC:V->Option Int->Option Int->Hp->VK->Prop:=fun x lo hi H Q=>match x with
 | .ref p=>∃ xs,H p=some (.lst xs)/\∀ l,H l=none->Q (.ref l) (upd H l (.lst (cutV xs lo hi)))
 | .str z=>z.length<=sizeLine/\Q (.str ⟨(cutL z.cps.toList lo hi).toArray⟩) H
 | _=>False
theorem slC:SlR X rSlC:=by
 intro pins s σ H x v vl vu lo hi sl Q I rx hs pl pu h
 unfold rSlC at h
 split at h
 ·obtain⟨xs,h1,h2⟩:=h
  exact sl_list pins s σ H _ v vl vu lo hi sl Q I rx hs pl pu ⟨_,xs,rfl,SqL.of h1,h2⟩
 ·exact sl_str pins s σ H _ v vl vu lo hi sl Q I rx hs pl pu ⟨_,rfl,h.1,h.2⟩
 ·exact h.elim
def cNo:TO:=fun _ H Q=>Q none H
def cPart (t:TE):TO:=fun σ H Q=>t σ H fun x H1=>match x with | .int i=>Q (some i) H1 | _=>False
theorem po_noC:PO X none cNo:=po_none
theorem po_someC {te:TE}(h:PE X e te):PO X (some e) (cPart te):=by
 intro pins s σ H Q I hw
 rw[evalPart_some]
 refine thn (h pins s σ H _ I hw) fun u s1 hq2=>?_
 obtain⟨x,H1,I1,r1,q1⟩:=hq2
 cases x with
 | int i=>obtain⟨t,rfl⟩:=r1;exact⟨some i,H1,I1,.int i t,q1⟩
 | _=>exact(show False from q1).elim
def rLenC:List V->Hp->VK->Prop:=fun vs H Q=>match vs with
 | [.ref p]=>∃ xs,(H p=some (.lst xs)\/H p=some (.tup xs))/\Q (.int xs.length) H
 | [.str z]=>z.length<=sizeLine/\Q (.int z.length) H
 | _=>False
theorem lenC:CallR X (.builtin "len") rLenC:=(call_len_seq.or call_len_str).imp fun vs H Q q=>by
 unfold rLenC at q
 split at q
 ·obtain⟨xs,h,q⟩:=q
  rcases h with h | h
  ·exact .inl ⟨_,xs,rfl,.inl (SqL.of h),q⟩
  ·exact .inl ⟨_,xs,rfl,.inr (SqT.of h),q⟩
 ·exact .inr ⟨_,rfl,q.1,q.2⟩
 ·exact q.elim
def rSetC:TSet:=fun o i v H Q=>match o,i with
 | .ref p,.int k=>∃ xs,H p=some (.lst xs)/\opt (ixN xs.length k) fun j=>Q (upd H p (.lst (xs.set j v)))
 | _,_=>False
theorem setC:PSet X rSetC:=by
 intro pins s σ H o i v ov iv u Q I ro ri rv h
 unfold rSetC at h
 split at h
 ·obtain⟨xs,hx,q⟩:=h
  obtain⟨j,e,q⟩:=opt_ex q
  exact set_list pins s σ H _ _ v ov iv u Q I ro ri rv ⟨_,xs,_,j,rfl,rfl,hx,e,q⟩
 ·exact h.elim
def rGetC:V->V->Hp->VK->Prop:=fun o i H Q=>match o,i with
 | .ref p,.int k=>∃ xs,H p=some (.lst xs)/\0<=k/\opt (xs[k.toNat]?) fun v=>Q v H
 | _,_=>False
theorem getC:PGet X rGetC:=by
 intro pins s σ H o i ov iv Q I ro ri h
 unfold rGetC at h
 split at h
 ·obtain⟨xs,hx,h0,q⟩:=h
  obtain⟨v,e,q⟩:=opt_ex q
  cases ro
  obtain⟨t,rfl⟩:=ri
  obtain⟨z,its,n,r,hl,ho⟩:=I.lstM hx
  obtain⟨w,ew,rw'⟩:=r.get e
  have hlt:=(gxB e).1
  have hn:=line63
  exact wpAny_getItem_list (x:=w) (⟨_,ho,rfl,n,rfl⟩:s.heap.IsList _ its.toArray) h0 (by omega) (by simpa using ew) ⟨v,H,I,rw',q⟩
 ·exact h.elim
def ipC (f:Int->Int->Int):TIp:=fun x y H Q=>match x,y with | .int i,.int j=>Q (.int (f i j)) H | _,_=>False
theorem ip_addC:PIp X .Add (ipC fun i j=>i+j):=by
 intro pins s σ H x y v u Q I r1 r2 h
 unfold ipC at h
 split at h
 ·exact ip_add pins s σ H _ _ v u Q I r1 r2 ⟨_,_,rfl,rfl,h⟩
 ·exact h.elim
def cTup (n:Nat)(t:TGs):TG:=fun v σ H Q=>match v with | .ref a=>∃ xs,H a=some (.tup xs)/\xs.length=n/\t xs σ H Q | _=>False
def cCons (t:TG)(u:TGs):TGs:=fun vs σ H Q=>match vs with | v::r=>t v σ H fun σ' H'=>u r σ' H' Q | []=>False
def cNil:TGs:=fun vs σ H Q=>match vs with | []=>Q σ H | _=>False
theorem pg_tupC {es:List Expr}{k:Nat}{t:TGs}{n:Nat}(hc:X.calm=true)(h:PGs X es t)(hn:(assignEach es X.env).length=n:=by rfl)(hst:(assignEach es X.env).findIdx? (·.1)=none:=by rfl):PG X (.Tuple es k pos) (cTup n t) :=
 (pg_tup (pos:=pos) (k:=k) hc h hn hst).imp fun v σ H Q q=>by
  unfold cTup at q
  split at q
  ·obtain⟨xs,a,b,c⟩:=q;exact⟨_,xs,rfl,SqT.of a,b,c⟩
  ·exact q.elim
theorem pgs_consC {es:List Expr}{t:TG}{u:TGs}(h1:PG X e t)(h2:PGs X es u)(hs:(assignEach (e::es) X.env).map (·.2)=assign e X.env::(assignEach es X.env).map (·.2):=by rfl):PGs X (e::es) (cCons t u) :=
 (pgs_cons h1 h2 hs).imp fun v σ H Q q=>by
  unfold cCons at q
  split at q
  ·exact⟨_,_,rfl,q⟩
  ·exact q.elim
theorem pgs_nilC:PGs X [] cNil:=pgs_nil.imp fun v σ H Q q=>by
 unfold cNil at q
 split at q
 ·exact⟨rfl,q⟩
 ·exact q.elim
def rCountC:V->List V->Hp->VK->Prop:=fun x vs H Q=>match x,vs with
 | .str z,[.str y]=>∃ c:Nat,y=⟨#[c]⟩/\Q (.int ((z.cps.toList.count c:Nat):Int)) H
 | _,_=>False
theorem countC:MtR X "str.count" rCountC:=mt_count.imp fun x vs H Q q=>by
 unfold rCountC at q
 split at q
 ·obtain⟨c,rfl,q⟩:=q;exact⟨_,c,rfl,rfl,q⟩
 ·exact q.elim
def rIsiC (K:PySem.W.Frag):List V->Hp->VK->Prop:=fun vs H Q=>match vs with
 | [x,.ty T]=>∃ t b,TyOf K H x t/\PySem.W.kitOne K t (.type T)=some b/\Q (.bl b) H
 | _=>False
theorem isiC:CallR X (.builtin "isinstance") (rIsiC X.K):=call_isi.imp fun vs H Q q=>by
 unfold rIsiC at q
 split at q
 ·obtain⟨t,b,h1,h2,h3⟩:=q;exact⟨_,_,t,b,rfl,h1,h2,h3⟩
 ·exact q.elim
def rListC (K:PySem.W.Frag):List V->Hp->VK->Prop:=fun vs H Q=>match vs with
 | [.ref p]=>∃ ys,SqL K H p ys/\∀ l,H l=none->Q (.ref l) (upd H l (.lst ys))
 | _=>False
theorem listC:CallR X (.type "list") (rListC X.K):=call_list_of.imp fun vs H Q q=>by
 unfold rListC at q
 split at q
 ·obtain⟨ys,h1,h2⟩:=q;exact⟨_,ys,rfl,.inl h1,h2⟩
 ·exact q.elim
end
theorem iteD {c A B:Prop}[Decidable c](h1:c->A)(h2:¬ c->B):if decide c=true then A else B:=by
 by_cases h:c
 ·rw[aE (au h)];exact h1 h
 ·rw[ai (by simp[h])];exact h2 h
theorem iteDn {c A B:Prop}[Decidable c](h1:¬ c->A)(h2:c->B):if(true != decide c)=true then A else B:=by
 by_cases h:c
 ·rw[ai (by simp[h])];exact h2 h
 ·rw[aE (by simp[h])];exact h1 h
theorem iteDf {c A B:Prop}[Decidable c](h1:c->A)(h2:¬ c->B):if(false != decide c)=true then A else B:=by
 by_cases h:c
 ·rw[aE (by simp[h])];exact h1 h
 ·rw[ai (by simp[h])];exact h2 h
theorem iteB {b:Bool}{A B:Prop}(h1:b=true->A)(h2:b=false->B):if b=true then A else B:=by
 cases b with
 | true=>exact h1 rfl
 | false=>exact h2 rfl
def CNx (n i:Nat)(Pv:Nat->List V->Hp->Prop)(ys:List V):VK:=fun y H4=>ys.length<sizeLine/\∃ m',m'<n - i/\(m'=n - (i+1)/\i+1<=n/\Pv (i+1) (ys++[y]) H4)
theorem cnx {n i:Nat}{Pv:Nat->List V->Hp->Prop}{ys:List V}{y:V}{H:Hp}(hi:i<n)(hl:ys.length<sizeLine)(p:Pv (i+1) (ys++[y]) H):CNx n i Pv ys y H:=⟨hl,n - (i+1),by omega,rfl,hi,p⟩
def CSk (n i:Nat)(Pv:Nat->List V->Hp->Prop)(ys:List V)(H3:Hp):Prop:=∃ m',m'<n - i/\(m'=n - (i+1)/\i+1<=n/\Pv (i+1) ys H3)
end L2
namespace L2
open PySem PySem.Spec PyProof.Rows
structure Cal (P:Program)(w:World)(K:PySem.W.Frag)(mg:Str->Option Value)(base:Heap)(x:Str)(k:Nat)(ps:List Str)(sp:Sp):Prop where
 ex:∃ f fd,FnOk P w K mg base CX0 k f fd ps sp/\mg x=some (.ref f)/\PySem.W.keepIn K (.ref f)=true/\Binds K fd ps []
theorem pe_callC {X:Cx}{x:Str}{p pos:Pos}{e:Expr}{es:List Expr}{t:TA}{k:Nat}{ps:List Str}{sp:Sp}(C:Cal X.prog X.w X.K X.mg X.base x k ps sp)(hr:Room k X.A)(hg:Gl X x)(ha:PA X (e::es) t)
 (hdb:(x==("__debug__" : Str))=false:=by decide) (he:starEach (e::es) X.env=(false,eval e X.env)::starEach es X.env:=by rfl) (hpl:(backTo pos (starEach es X.env)).any (·.1)=false:=by rfl) :
 PE X (.Call (.Name x p) (e::es) [] pos) (tCall sp [] E0 t):=by
 obtain⟨f,fd,F,hm,hk,hb⟩:=C.ex
 exact pe_call F hr hg hm hk hb .nil pass0 ha hdb he hpl
def tCut (t u:TS):TS:=fun D σ H=>∃ M:St->Hp->Prop,t { D with nx:=M} σ H/\∀ σ' H',M σ' H'->u D σ' H'
theorem pss_cut {X:Cx}{st:Stmt}{rest:List Stmt}{t u:TS}(h1:PS X st t)(h2:PSs X rest u):PSs X (st::rest) (tCut t u):=by
 intro pins s σ H D I h
 obtain⟨M,a,b⟩:=h
 refine cz (thn (h1 pins s σ H { D with nx:=M} I a) fun f s1 q=>?_)
 cases f with
 | next =>
  obtain⟨σ',H',I',q⟩:=q
  exact h2 pins s1 σ' H' D I' (b σ' H' q)
 | ret v=>exact q
 | brk=>exact q
 | cont=>exact q
theorem opt_of {α:Type}{o:Option α}{k:α->Prop}{v:α}(e:o=some v)(h:k v):opt o k:=by rw[e];exact h
def OB (b:Addr)(H H':Hp):Prop:=∀ c,c≠b->H' c=H c
theorem OB.refl {b:Addr}{H:Hp}:OB b H H:=fun _ _=>rfl
theorem OB.upd {b:Addr}{H H':Hp}{o:HO}(h:OB b H H'):OB b H (L2.upd H' b o):=fun c n=>by rw[upd_ne n];exact h c n
theorem pM:(0:Int)<2147483647:=by decide
theorem pN:(0:Int)<1000000007:=by decide
def OX (l:List Nat):Prop:=∀ c∈l,c=111\/c=120
theorem atI_in {l:List Nat}{v:Int}(h0:0<=v)(h1:v<l.length):∃ c,atI l v=some c/\c∈l:=by
 have hlt:v.toNat<l.length:=by omega
 refine⟨l[v.toNat],?_,da _⟩
 have q:=atI_nat (xs:=l) (j:=v.toNat) (v:=l[v.toNat]) (gxA hlt)
 rwa [Int.toNat_of_nonneg h0]at q
theorem app_str (a b:List Nat):((⟨a.toArray⟩:Str)++(⟨b.toArray⟩:Str))=⟨(a++b).toArray⟩:=by
 show(⟨a.toArray++b.toArray⟩:Str)=_
 congr 1
 simp
theorem lenS (a:List Nat):(⟨a.toArray⟩:Str).length=a.length:=by simp[Str.length]
def spLaw (K:PySem.W.Frag):Sp:=fun vs H Q _=>∃(a:Addr) (ns:List Int),vs=[.ref a]/\SqL K H a (ns.map V.int)/\ns.length<=63/\∀ H',Q (.bl true) H'
theorem fne (b:Bool):(false != b)=b:=by cases b <;> rfl
theorem kit_same (K:PySem.W.Frag)(T:String):PySem.W.kitOne K (.type T) (.type T)=some true:=by unfold PySem.W.kitOne;simp
def ItOf (c:Bool)(h:Heap)(it a:Addr)(k:Nat):Prop:=if c=true then h.IsTupleIter it a k else h.IsListIter it a k
def SqOf (c:Bool)(h:Heap)(a:Addr)(its:Array Value):Prop:=if c=true then h.IsTuple a its else h.IsList a its
theorem ItOf.extBut {c:Bool}{h h':Heap}{it a b:Addr}{k:Nat}(x:ItOf c h it a k)(hs:Heap.ExtBut b h h')(hab:it≠b):ItOf c h' it a k:=by
 cases c with
 | true=>exact Heap.IsTupleIter.extBut x hs hab
 | false=>exact Heap.IsListIter.extBut x hs hab
theorem SqOf.extBut {c:Bool}{h h':Heap}{a b:Addr}{its:Array Value}(x:SqOf c h a its)(hs:Heap.ExtBut b h h')(hab:a≠b):SqOf c h' a its:=by
 cases c with
 | true=>exact Heap.IsTuple.extBut x hs hab
 | false=>exact Heap.IsList.extBut x hs hab
theorem SqOf.lt {c:Bool}{h:Heap}{a:Addr}{its:Array Value}(x:SqOf c h a its):a≠h.objs.size:=by
 cases c with
 | true=>obtain⟨o,e,_⟩:=x;exact aF (gxN e)
 | false=>obtain⟨o,e,_⟩:=x;exact aF (gxN e)
theorem ItOf.ex {c:Bool}{h:Heap}{it a:Addr}{k:Nat}(x:ItOf c h it a k):∃ o,h.get? it=some o:=by
 cases c with
 | true=>obtain⟨o,e,_⟩:=x;exact⟨o,e⟩
 | false=>obtain⟨o,e,_⟩:=x;exact⟨o,e⟩
theorem ItOf.data {c:Bool}{h:Heap}{it a:Addr}{k:Nat}(x:ItOf c h it a k):∃ o,h.get? it=some o/\∀ v,o.data≠.cell v:=by
 cases c with
 | true=>obtain⟨o,e,_,d⟩:=x;exact⟨o,e,fun v z=>by rw[d]at z;cases z⟩
 | false=>obtain⟨o,e,_,d⟩:=x;exact⟨o,e,fun v z=>by rw[d]at z;cases z⟩
theorem ItOf.at {c:Bool}{h h':Heap}{it a:Addr}{k:Nat}(x:ItOf c h it a k)(e:∀ o,h.get? it=some o->h'.get? it=some o):ItOf c h' it a k:=by
 cases c with
 | true=>obtain⟨o,q,r⟩:=x;exact⟨o,e o q,r⟩
 | false=>obtain⟨o,q,r⟩:=x;exact⟨o,e o q,r⟩
section
variable {prog:Program}{w:World}{A:Around}{E:Value->Shared->Prop}{s:Shared}
theorem nextT_item {it t:Addr}{i:Nat}{items}{x:Value}{Q:Value->Shared->Prop}(hit:s.heap.IsTupleIter it t i)(ht:s.heap.IsTuple t items)(hx:items[i]?=some x)
 (hQ:∀ h',h'.IsTupleIter it t (i+1)->Heap.SameBut it s.heap h'->Q x { s with heap:=h'}):wpAny (model prog w) A (Builtin.SmallTypes.nextOf (.ref it)) Q E s:=by
 obtain⟨o,ho,hc,hd⟩:=id hit
 obtain⟨ol,hol,_,nl,hdl⟩:=ht
 unfold Builtin.SmallTypes.nextOf
 refine gxM (bF (name:=Str.ofString "__next__") hit.typeIs bQ (bZ bQ hit.typeIs F.entry_tuple_iterator_next ?_ (F.args_tuple_iterator_next_1 _)))
 show wpAny _ _ (field (.ref it) 0 >>= _) _ _ s
 refine gxM (aU ho hd (x:=.ref t) rfl ?_)
 show wpAny _ _ (if(Value.ref t==Value.none)=true then _ else _) _ _ s
 rw[ai (show ¬ ((Value.ref t==Value.none)=true)from ag)]
 show wpAny _ _ (field (.ref it) 1 >>= _) _ _ s
 refine gxM (aU ho hd (x:=.int i 0) rfl ?_)
 show wpAny _ _ (seqItems? (.ref t) >>= _) _ _ s
 refine gxM (bO hol hdl ?_)
 simp only[gxK,hx]
 refine gxM (cq ho hd (by simp) (ao ⟨x,rfl,ao (hQ _ ?_ (Heap.SameBut.update ..))⟩))
 exact⟨_,bV _ ho (c8 (cO hd _)),(Obj.cls_mapFields ..).trans hc,by rw[cO hd];simp[rawInt]⟩
theorem nextT_end {it t:Addr}{i:Nat}{items}{Q:Value->Shared->Prop}(hh:A.handled=none)(hit:s.heap.IsTupleIter it t i)(ht:s.heap.IsTuple t items)(hx:items[i]?=none)
 (hE:∀ h' e,Heap.ExtBut it s.heap h'->(∃ o,h'.get? e=some o/\o.cls=.type "StopIteration")->E (.ref e) { s with heap:=h'}):wpAny (model prog w) A (Builtin.SmallTypes.nextOf (.ref it)) Q E s:=by
 obtain⟨o,ho,hc,hd⟩:=id hit
 obtain⟨ol,hol,_,nl,hdl⟩:=ht
 unfold Builtin.SmallTypes.nextOf
 refine gxM (bF (name:=Str.ofString "__next__") hit.typeIs bQ (bZ bQ hit.typeIs F.entry_tuple_iterator_next ?_ (F.args_tuple_iterator_next_1 _)))
 show wpAny _ _ (field (.ref it) 0 >>= _) _ _ s
 refine gxM (aU ho hd (x:=.ref t) rfl ?_)
 show wpAny _ _ (if(Value.ref t==Value.none)=true then _ else _) _ _ s
 rw[ai (show ¬ ((Value.ref t==Value.none)=true)from ag)]
 show wpAny _ _ (field (.ref it) 1 >>= _) _ _ s
 refine gxM (aU ho hd (x:=.int i 0) rfl ?_)
 show wpAny _ _ (seqItems? (.ref t) >>= _) _ _ s
 refine gxM (bO hol hdl ?_)
 simp only[gxK,hx]
 refine gxM (wpAny_rule (gxM (cq ho hd (by simp) ?_)))
 show wpAny _ _ (newExc (.type "StopIteration") [] >>= _) _ _ _
 refine gxM ?_
 simp only[newExc,newTuple]
 refine gxM (bE ?_ (by size_fits))
 refine gxM (m:=firstArgMember _ _) (wpAny_of_eq (a:=Value.none) (by first | rfl | (simp only[firstArgMember];rfl)) ?_)
 refine bE ?_ (by size_fits)
 simp only[raiseNew]
 refine gxM (wpAny_handled ?_)
 first | rw[show A.in1.handled=none from hh] | rw[hh]
 refine gxM (ao (wpAny_throw ?_))
 exact hE _ _ (((Heap.SameBut.update ..).extBut.push _).push _) ⟨_,aj _ rfl,rfl⟩
theorem nextG_item {c:Bool}{it l:Addr}{i:Nat}{items:Array Value}{x:Value}{Q:Value->Shared->Prop}(hit:ItOf c s.heap it l i)(hl:SqOf c s.heap l items)(hx:items[i]?=some x)
 (hQ:∀ h',ItOf c h' it l (i+1)->Heap.SameBut it s.heap h'->Q x { s with heap:=h'}):wpAny (model prog w) A (Builtin.SmallTypes.nextOf (.ref it)) Q E s:=by
 cases c with
 | true=>exact nextT_item hit hl hx hQ
 | false=>exact wpAny_nextOf_list_item hit hl hx hQ
theorem nextG_end {c:Bool}{it l:Addr}{i:Nat}{items:Array Value}{Q:Value->Shared->Prop}(hh:A.handled=none)(hit:ItOf c s.heap it l i)(hl:SqOf c s.heap l items)(hx:items[i]?=none)
 (hE:∀ h' e,Heap.ExtBut it s.heap h'->(∃ o,h'.get? e=some o/\o.cls=.type "StopIteration")->E (.ref e) { s with heap:=h'}):wpAny (model prog w) A (Builtin.SmallTypes.nextOf (.ref it)) Q E s:=by
 cases c with
 | true=>exact nextT_end hh hit hl hx hE
 | false=>exact wpAny_nextOf_list_end hh hit hl hx hE
structure ZS (c:Bool)(z TI TO i1 i2 l1 l2:Addr)(f a b:Value)(k1 k2:Nat)(xs ys:Array Value)(h:Heap):Prop where
 z:IsZip h z TI TO f
 ti:IsPair h TI (.ref i1) (.ref i2)
 to:IsPair h TO a b
 n1:ItOf c h i1 l1 k1
 n2:ItOf c h i2 l2 k2
 q1:SqOf c h l1 xs
 q2:SqOf c h l2 ys
def ZK (z TO i1 i2:Addr)(h h':Heap):Prop:=∀ d o,d≠z->d≠TO->d≠i1->d≠i2->h.get? d=some o->h'.get? d=some o
theorem ZK.trans {z TO i1 i2:Addr}{h h1 h2:Heap}(a:ZK z TO i1 i2 h h1)(b:ZK z TO i1 i2 h1 h2):ZK z TO i1 i2 h h2:=fun d o q1 q2 q3 q4 e=>b d o q1 q2 q3 q4 (a d o q1 q2 q3 q4 e)
section
variable {c:Bool}{z TI TO i1 i2 l1 l2:Addr}{f f' a b x y:Value}{k1 k2:Nat}{xs ys:Array Value}{h h':Heap}
theorem ZS.mz (S:ZS c z TI TO i1 i2 l1 l2 f a b k1 k2 xs ys h)(D:ZipApart z TI TO i1 i2 l1 l2)(e:IsZip h' z TI TO f')(k:Heap.ExtBut z h h'):ZS c z TI TO i1 i2 l1 l2 f' a b k1 k2 xs ys h' :=
 ⟨e,k _ _ D.TIz S.ti,k _ _ D.TOz S.to,S.n1.extBut k D.i1z,S.n2.extBut k D.i2z,S.q1.extBut k D.l1z,S.q2.extBut k D.l2z⟩
theorem ZS.m1 {j:Nat}(S:ZS c z TI TO i1 i2 l1 l2 f a b k1 k2 xs ys h)(D:ZipApart z TI TO i1 i2 l1 l2)(e:ItOf c h' i1 l1 j)(k:Heap.ExtBut i1 h h'):ZS c z TI TO i1 i2 l1 l2 f a b j k2 xs ys h' :=
 ⟨k _ _ D.i1z.symm S.z,k _ _ D.TIi1 S.ti,k _ _ D.TOi1 S.to,e,S.n2.extBut k D.i12.symm,S.q1.extBut k D.l1i1,S.q2.extBut k D.l2i1⟩
theorem ZS.m2 {j:Nat}(S:ZS c z TI TO i1 i2 l1 l2 f a b k1 k2 xs ys h)(D:ZipApart z TI TO i1 i2 l1 l2)(e:ItOf c h' i2 l2 j)(k:Heap.ExtBut i2 h h'):ZS c z TI TO i1 i2 l1 l2 f a b k1 j xs ys h' :=
 ⟨k _ _ D.i2z.symm S.z,k _ _ D.TIi2 S.ti,k _ _ D.TOi2 S.to,S.n1.extBut k D.i12,e,S.q1.extBut k D.l1i2,S.q2.extBut k D.l2i2⟩
theorem ZS.mo (S:ZS c z TI TO i1 i2 l1 l2 f a b k1 k2 xs ys h)(D:ZipApart z TI TO i1 i2 l1 l2)(e:IsPair h' TO x y)(k:Heap.ExtBut TO h h'):ZS c z TI TO i1 i2 l1 l2 f x y k1 k2 xs ys h' :=
 ⟨k _ _ D.TOz.symm S.z,k _ _ D.TITO S.ti,e,S.n1.extBut k D.TOi1.symm,S.n2.extBut k D.TOi2.symm,S.q1.extBut k D.l1TO,S.q2.extBut k D.l2TO⟩
theorem ZS.push (S:ZS c z TI TO i1 i2 l1 l2 f a b k1 k2 xs ys h)(o:Obj):ZS c z TI TO i1 i2 l1 l2 f a b k1 k2 xs ys (h.push o) :=
 ⟨gxL _ S.z,gxL _ S.ti,gxL _ S.to,S.n1.at fun _ e=>gxL _ e,S.n2.at fun _ e=>gxL _ e,
  S.q1.extBut (b:=h.objs.size) (fun _ _ _ e=>gxL _ e) (S.q1.lt),S.q2.extBut (b:=h.objs.size) (fun _ _ _ e=>gxL _ e) (S.q2.lt)⟩
theorem zk_z (k:Heap.ExtBut z h h'):ZK z TO i1 i2 h h':=fun d o q _ _ _ e=>k d o q e
theorem zk_o (k:Heap.ExtBut TO h h'):ZK z TO i1 i2 h h':=fun d o _ q _ _ e=>k d o q e
theorem zk_1 (k:Heap.ExtBut i1 h h'):ZK z TO i1 i2 h h':=fun d o _ _ q _ e=>k d o q e
theorem zk_2 (k:Heap.ExtBut i2 h h'):ZK z TO i1 i2 h h':=fun d o _ _ _ q e=>k d o q e
end
section
variable {c:Bool}{z TI TO i1 i2 l1 l2:Addr}{k1 k2:Nat}{xs ys:Array Value}{x y a b:Value}
theorem zip_turn {Q:Value->Shared->Prop}(D:ZipApart z TI TO i1 i2 l1 l2)(S:ZS c z TI TO i1 i2 l1 l2 .none a b k1 k2 xs ys s.heap)(hx:xs[k1]?=some x)(hy:ys[k2]?=some y)
 (hQ:∀ h',ZS c z TI TO i1 i2 l1 l2 (rawInt s.heap.objs.size) x y (k1+1) (k2+1) xs ys h'->IsPair h' s.heap.objs.size x y->ZK z TO i1 i2 s.heap h'->Q (.ref s.heap.objs.size) { s with heap:=h'}) :
 wpAny (model prog w) A (Builtin.«zip.__next__» ⟨[.ref z],[]⟩) (fun fin s'=>∃ v,fin=.done (.ret v)/\Q v s') E s:=by
 refine gxM (ao (gxM (aU S.z rfl (x:=.bool false) rfl (gxM (aU S.z rfl (x:=.ref TI) rfl (gxM (bO S.ti rfl ?_)))))))
 refine gxM (m:=Builtin.SmallTypes.ownedTupleIsFree (.ref z)) (gxM (aU S.z rfl (x:=.none) rfl (ao ?_)))
 refine gxM (wpAny_rule (gxM (aU S.z rfl (x:=.ref TO) rfl (gxM (b8 S.z (by simp) fun g1 e1 t1=>?_)))))
 have S1:=S.mz D (f':=.ellipsis) e1 t1.extBut
 refine gxM ?_
 rw[show(#[Value.ref i1,Value.ref i2]:Array Value).toList.zipIdx=[(.ref i1,0),(.ref i2,1)]from rfl,List.forIn_cons]
 refine gxM (gxM (wpAny_onRaise (gxM (nextG_item S1.n1 S1.q1 hx fun g2 e2 t2=>ao ?_))))
 have S2:=S1.m1 D e2 t2.extBut
 refine gxM (bO S2.to rfl (gxM (wpAny_updateSeq_pair S2.to fun g3 e3 t3=>gxM (wpAny_letGo (ao ?_)))))
 have S3:=S2.mo D (x:=x) (y:=b) e3 t3.extBut
 dsimp only
 rw[List.forIn_cons]
 refine gxM (gxM (wpAny_onRaise (gxM (nextG_item S3.n2 S3.q2 hy fun g4 e4 t4=>ao ?_))))
 have S4:=S3.m2 D e4 t4.extBut
 refine gxM (bO S4.to rfl (gxM (wpAny_updateSeq_pair S4.to fun g5 e5 t5=>gxM (wpAny_letGo (ao ?_)))))
 have S5:=S4.mo D (x:=x) (y:=y) e5 t5.extBut
 dsimp only
 rw[List.forIn_nil]
 have sz:g5.objs.size=s.heap.objs.size:=t5.1.trans (t4.1.trans (t3.1.trans (t2.1.trans t1.1)))
 refine ao (gxM (bO S5.to rfl (gxM (wpAny_newTuple ?_))))
 have S6:=S5.push { cls:=.type "tuple",data:=.seq #[x,y]}
 refine gxM (m:=Builtin.SmallTypes.ownedTupleHandOut (.ref z) (.ref g5.objs.size)) (gxM (b8 S6.z (by simp) fun g7 e7 t7=>?_))
 have S7:=S6.mz D (f':=rawInt g5.objs.size) e7 t7.extBut
 refine b8 S7.z (by simp) fun g8 e8 t8=>?_
 have S8:=S7.mz D (f':=rawInt g5.objs.size) e8 t8.extBut
 have zlt:g5.objs.size≠z:=bC (gxN S5.z)
 have hT:IsPair g8 g5.objs.size x y:=t8.extBut _ _ zlt (t7.extBut _ _ zlt (aj _ rfl))
 have kk:ZK z TO i1 i2 s.heap g8:=((((((zk_z t1.extBut).trans (zk_1 t2.extBut)).trans (zk_o t3.extBut)).trans (zk_2 t4.extBut)).trans (zk_o t5.extBut)).trans (fun d o _ _ _ _ e=>gxL _ e)).trans ((zk_z t7.extBut).trans (zk_z t8.extBut))
 rw[sz]at S8 hT
 refine ao ⟨_,rfl,?_⟩
 show Q (.ref g5.objs.size) _
 rw[sz]
 exact hQ g8 S8 hT kk
theorem zip_over {Q:Fin->Shared->Prop}(hh:A.handled=none)(D:ZipApart z TI TO i1 i2 l1 l2)(S:ZS c z TI TO i1 i2 l1 l2 .none a b k1 k2 xs ys s.heap)(hx:xs[k1]?=none)
 (hE:∀ h' e,ZK z TO i1 i2 s.heap h'->(∃ o,h'.get? e=some o/\o.cls=.type "StopIteration")->E (.ref e) { s with heap:=h'}) :
 wpAny (model prog w) A (Builtin.«zip.__next__» ⟨[.ref z],[]⟩) Q E s:=by
 refine gxM (ao (gxM (aU S.z rfl (x:=.bool false) rfl (gxM (aU S.z rfl (x:=.ref TI) rfl (gxM (bO S.ti rfl ?_)))))))
 refine gxM (m:=Builtin.SmallTypes.ownedTupleIsFree (.ref z)) (gxM (aU S.z rfl (x:=.none) rfl (ao ?_)))
 refine gxM (wpAny_rule (gxM (aU S.z rfl (x:=.ref TO) rfl (gxM (b8 S.z (by simp) fun g1 e1 t1=>?_)))))
 have S1:=S.mz D (f':=.ellipsis) e1 t1.extBut
 refine gxM ?_
 rw[show(#[Value.ref i1,Value.ref i2]:Array Value).toList.zipIdx=[(.ref i1,0),(.ref i2,1)]from rfl,List.forIn_cons]
 refine gxM (gxM (wpAny_onRaise (gxM (nextG_end hh S1.n1 S1.q1 hx fun g2 e t2 he=>?_))))
 obtain⟨oe,hoe,hce⟩:=he
 have hz2:IsZip g2 z TI TO .ellipsis:=t2 _ _ D.i1z.symm S1.z
 have hez:e≠z:=fun q=>by subst q;rw[hz2]at hoe;cases hoe;simp at hce
 exact b8 hz2 (by simp) fun g3 _ t3=>hE g3 e (((zk_z t1.extBut).trans (zk_1 t2)).trans (zk_z t3.extBut)) ⟨oe,t3.extBut _ _ hez hoe,hce⟩
theorem zip_item {Q:Option Value->Shared->Prop}(D:ZipApart z TI TO i1 i2 l1 l2)(S:ZS c z TI TO i1 i2 l1 l2 .none a b k1 k2 xs ys s.heap)(hx:xs[k1]?=some x)(hy:ys[k2]?=some y)
 (hQ:∀ h',ZS c z TI TO i1 i2 l1 l2 (rawInt s.heap.objs.size) x y (k1+1) (k2+1) xs ys h'->IsPair h' s.heap.objs.size x y->ZK z TO i1 i2 s.heap h'->Q (some (.ref s.heap.objs.size)) { s with heap:=h'}) :
 wpAny (model prog w) A (pyNext (.ref z)) Q E s:=by
 have ty:s.TypeIs (.ref z) "zip":=⟨_,S.z,rfl⟩
 unfold pyNext
 exact gxM (de (bF (name:=Str.ofString "__next__") ty F.slot_zip_next (bZ F.slot_zip_next ty F.entry_zip_next (zip_turn D S hx hy fun h' a1 a2 a3=>ao (hQ h' a1 a2 a3)) (F.args_zip_next_1 _))))
theorem zip_end {Q:Option Value->Shared->Prop}(hh:A.handled=none)(D:ZipApart z TI TO i1 i2 l1 l2)(S:ZS c z TI TO i1 i2 l1 l2 .none a b k1 k2 xs ys s.heap)(hx:xs[k1]?=none)
 (hQ:∀ h',ZK z TO i1 i2 s.heap h'->Q none { s with heap:=h'}):wpAny (model prog w) A (pyNext (.ref z)) Q E s:=by
 have ty:s.TypeIs (.ref z) "zip":=⟨_,S.z,rfl⟩
 unfold pyNext
 refine gxM (de (bF (name:=Str.ofString "__next__") ty F.slot_zip_next (bZ F.slot_zip_next ty F.entry_zip_next (zip_over hh D S hx fun h' e hk he=>?_) (F.args_zip_next_1 _))))
 obtain⟨o,ho,hc⟩:=he
 exact gxM (wpAny_isInstance (T := "StopIteration") (b:=true) ⟨o,ho,hc⟩ isSubtype_stop (ao (hQ _ hk)))
end
end
def SqC (c:Bool)(H:Hp)(a:Addr)(xs:List V):Prop:=if c=true then H a=some (.tup xs)else H a=some (.lst xs)
theorem SqC.inj {c:Bool}{H:Hp}{a:Addr}{xs ys:List V}(h:SqC c H a xs)(h':SqC c H a ys):xs=ys:=by
 cases c with
 | true=>have h1:H a=some (.tup xs):=h;have h2:H a=some (.tup ys):=h';rw[h1]at h2;cases h2;rfl
 | false=>have h1:H a=some (.lst xs):=h;have h2:H a=some (.lst ys):=h';rw[h1]at h2;cases h2;rfl
theorem SqC.ex {c:Bool}{H:Hp}{a:Addr}{xs:List V}(h:SqC c H a xs):∃ o,H a=some o:=by
 cases c with
 | true=>exact⟨_,h⟩
 | false=>exact⟨_,h⟩
theorem SqC.val {X:Cx}{pins:List (Addr×Obj)}{σ:St}{H:Hp}{s:Shared}{c:Bool}{a:Addr}{xs:List V}(I:Inv X pins σ H s)(h:SqC c H a xs):∃ its:List Value,Vals xs its/\SqOf c s.heap a its.toArray:=by
 cases c with
 | true =>
  obtain⟨_,its,r,p⟩:=(show ObjOk X.prog X.w H s.heap a (.tup xs)from I.hok a _ h)
  exact⟨its,r,p⟩
 | false =>
  obtain⟨_,its,n,r,_,e⟩:=I.lstM h
  exact⟨its,r,⟨_,e,rfl,n,rfl⟩⟩
def Itz (c:Bool)(a1 a2:Addr):It :=
 ⟨fun i H=>∃ xs ys x y,SqC c H a1 xs/\SqC c H a2 ys/\xs[i]?=some x/\ys[i]?=some y,
  fun i H v H'=>∃ T x y,v=.ref T/\H T=none/\H'=upd H T (.tup [x,y])/\(∀ xs,SqC c H a1 xs->xs[i]?=some x)/\(∀ ys,SqC c H a2 ys->ys[i]?=some y),
  fun i H=>∃ xs ys,SqC c H a1 xs/\SqC c H a2 ys/\xs.length<=i⟩
section
variable {X:Cx}{pins:List (Addr×Obj)}{σ:St}{H:Hp}{s:Shared}
theorem Inv.turnT {ch:List Addr}{h'':Heap}{x y:V}{u v:Value}(I:Inv X pins σ H s)(fr:∀ b∈ch,FpOk X pins H b)(kp':∀ b o,b∉ch->s.heap.get? b=some o->h''.get? b=some o)(hT':IsPair h'' s.heap.objs.size u v)(ru:RelV x u)(rv:RelV y v) :
 Inv X pins σ (upd H s.heap.objs.size (.tup [x,y])) { s with heap:=h''}:=by
 have hn:H s.heap.objs.size=none:=I.hok.fresh (aa _)
 refine I.step (g':=s.gens) (d':=s.drawn) (t':=s.toks) (h':=h'') (ch:=ch) (fun b hb=>?_) (fun b o _ _ hb e _=>kp' b o hb e) (fun b o _ _ hb e _=>⟨o.slots,kp' b o hb e⟩)
  (fun b o hb e n=>by rw[upd_ne (aF (gxN e))];exact n) (fun b o hb e=>⟨o,kp' b o hb e⟩)
  (fun b zs e=>by rw[upd_ne (ne_of_none e hn)];exact e) (fun b o u e=>by rw[upd_ne (ne_of_none e hn)];exact e) (fun b ps e=>⟨#[],by rw[upd_ne (ne_of_none e hn),e];simp⟩) (fun m hm=>?_) (fun b o e=>?_) I.bare
 ·obtain⟨f0,f1,f2,f3,f4,f5⟩:=fr b hb
  exact⟨f3,f1,f4,f5⟩
 ·obtain⟨o,es,ep,ho,rr⟩:=hm
  exact⟨o,es,ep,kp' _ o (fun q=>(fr _ q).2.1 rfl) ho,rr⟩
 ·by_cases hb:b=s.heap.objs.size
  ·subst hb;rw[upd_same]at e;cases e
   exact⟨by show 2<=sizeLine;decide,[u,v],.cons ru (.cons rv .nil),⟨_,hT',rfl,0,rfl⟩⟩
  ·rw[upd_ne hb]at e
   refine(I.hok b o e).stay (fun d v' hd q=>kp' d v' (fun hm=>?_) q) (fun d q=>by rw[upd_ne (ne_of_none q hn)];exact q) fun d zs q=>by rw[upd_ne (ne_of_none q hn)];exact q
   have nn:=(fr d hm).1
   rcases hd with rfl | hd
   ·rw[nn]at e;cases e
   ·rw[nn]at hd;cases hd
theorem Inv.turnK {ch:List Addr}{h'':Heap}(I:Inv X pins σ H s)(fr:∀ b∈ch,FpOk X pins H b)(kp':∀ b o,b∉ch->s.heap.get? b=some o->h''.get? b=some o):Inv X pins σ H { s with heap:=h''}:=by
 refine I.step (g':=s.gens) (d':=s.drawn) (t':=s.toks) (h':=h'') (ch:=ch) (fun b hb=>?_) (fun b o _ _ hb e _=>kp' b o hb e) (fun b o _ _ hb e _=>⟨o.slots,kp' b o hb e⟩)
  (fun b o hb e n=>n) (fun b o hb e=>⟨o,kp' b o hb e⟩) (fun b zs e=>e) (fun b o u e=>e) (fun b ps e=>⟨#[],by rw[e];simp⟩) (fun m hm=>?_) (fun b o e=>?_) I.bare
 ·obtain⟨f0,f1,f2,f3,f4,f5⟩:=fr b hb
  exact⟨f3,f1,f4,f5⟩
 ·obtain⟨o,es,ep,ho,rr⟩:=hm
  exact⟨o,es,ep,kp' _ o (fun q=>(fr _ q).2.1 rfl) ho,rr⟩
 ·refine(I.hok b o e).stay (fun d v' hd q=>kp' d v' (fun hm=>?_) q) (fun d q=>q) fun d zs q=>q
  have nn:=(fr d hm).1
  rcases hd with rfl | hd
  ·rw[nn]at e;cases e
  ·rw[nn]at hd;cases hd
end
theorem turn_zip {P:Program}{w:World}{K:PySem.W.Frag}{elts:List Expr}{kk:Nat}{tpos:Pos}{c:Bool}{z TI TO i1 i2 l1 l2:Addr}(D:ZipApart z TI TO i1 i2 l1 l2) :
 Turn P w K (.Tuple elts kk tpos) (Itz c l1 l2) [z,TI,TO,i1,i2] z (fun i h=>IsZip h z TI TO .none/\IsPair h TI (.ref i1) (.ref i2)/\(∃ a b,IsPair h TO a b)/\ItOf c h i1 l1 i/\ItOf c h i2 l2 i) where
 mem:=by simp
 obj:=fun i h st b hb=>by
  obtain⟨hz,hTI,⟨a,b',hTO⟩,h1,h2⟩:=st
  simp only[bw,bb,cG]at hb
  rcases hb with rfl | rfl | rfl | rfl | rfl
  ·exact⟨_,hz,fun v q=>by cases q⟩
  ·exact⟨_,hTI,fun v q=>by cases q⟩
  ·exact⟨_,hTO,fun v q=>by cases q⟩
  ·exact h1.data
  ·exact h2.data
 keep:=fun i h h' st k=>by
  obtain⟨hz,hTI,⟨a,b',hTO⟩,h1,h2⟩:=st
  exact⟨k z (by simp) _ hz,k TI (by simp) _ hTI,⟨a,b',k TO (by simp) _ hTO⟩,h1.at fun o e=>k i1 (by simp) o e,h2.at fun o e=>k i2 (by simp) o e⟩
 item:=by
  intro X hP hw hK hc i pins s σ H E I hf st hg
  subst hP hw hK
  obtain⟨hz,hTI,⟨a,b',hTO⟩,h1,h2⟩:=st
  obtain⟨xs,ys,x,y,q1,q2,ex,ey⟩:=hg
  obtain⟨us,r1,p1⟩:=q1.val I
  obtain⟨ws,r2,p2⟩:=q2.val I
  obtain⟨u,eu,ru⟩:=r1.get ex
  obtain⟨v,ev,rv⟩:=r2.get ey
  refine zip_item D ⟨hz,hTI,hTO,h1,h2,p1,p2⟩ (by simpa using eu) (by simpa using ev) fun h' S' hT hk=>?_
  refine⟨_,rfl,wpAny_letOwnedTupleGo_zip S'.z fun h'' e'' t''=>?_⟩
  have S'':=S'.mz D (f':=.none) e'' t''.extBut
  have Tz:s.heap.objs.size≠z:=bC (gxN hz)
  have hT':IsPair h'' s.heap.objs.size u v:=t''.extBut _ _ Tz hT
  have kp:ZK z TO i1 i2 s.heap h'':=hk.trans (zk_z t''.extBut)
  have hn:H s.heap.objs.size=none:=I.hok.fresh (aa _)
  have fr:∀ b∈[z,TO,i1,i2],FpOk X pins H b:=fun b hb=>hf b (by
   simp only[bw,bb,cG]at hb ⊢
   rcases hb with q | q | q | q <;> simp[q])
  have kp':∀ b o,b∉[z,TO,i1,i2]->s.heap.get? b=some o->h''.get? b=some o:=fun b o hb e=>kp b o (fun q=>hb (by simp[q])) (fun q=>hb (by simp[q])) (fun q=>hb (by simp[q])) (fun q=>hb (by simp[q])) e
  have I1:Inv X pins σ (upd H s.heap.objs.size (.tup [x,y])) { s with heap:=h''}:=I.turnT fr kp' hT' ru rv
  refine⟨.ref s.heap.objs.size,_,I1,rfl,⟨_,x,y,rfl,hn,rfl,fun zs q=>by rw[q.inj q1];exact ex,fun zs q=>by rw[q.inj q2];exact ey⟩,⟨S''.z,S''.ti,⟨_,_,S''.to⟩,S''.n1,S''.n2⟩,fun b hb=>?_⟩
  obtain⟨o,e,_⟩:∃ o,s.heap.get? b=some o/\True:=by
   simp only[bw,bb,cG]at hb
   rcases hb with rfl | rfl | rfl | rfl | rfl
   ·exact⟨_,hz,trivial⟩
   ·exact⟨_,hTI,trivial⟩
   ·exact⟨_,hTO,trivial⟩
   ·obtain⟨o,e⟩:=h1.ex;exact⟨o,e,trivial⟩
   ·obtain⟨o,e⟩:=h2.ex;exact⟨o,e,trivial⟩
  rw[upd_ne (aF (gxN e))]
  exact(hf b hb).1
 done:=by
  intro X hP hw hK hc i pins s σ H E I hf st hg
  subst hP hw hK
  obtain⟨hz,hTI,⟨a,b',hTO⟩,h1,h2⟩:=st
  obtain⟨xs,ys,q1,q2,hx⟩:=hg
  obtain⟨us,r1,p1⟩:=q1.val I
  obtain⟨ws,r2,p2⟩:=q2.val I
  have hl:=r1.length
  refine zip_end (I.ok.hd hc) D ⟨hz,hTI,hTO,h1,h2,p1,p2⟩ (by simp;omega) fun h' hk=>⟨rfl,?_⟩
  have fr:∀ b∈[z,TO,i1,i2],FpOk X pins H b:=fun b hb=>hf b (by
   simp only[bw,bb,cG]at hb ⊢
   rcases hb with q | q | q | q <;> simp[q])
  have kp':∀ b o,b∉[z,TO,i1,i2]->s.heap.get? b=some o->h'.get? b=some o:=fun b o hb e=>hk b o (fun q=>hb (by simp[q])) (fun q=>hb (by simp[q])) (fun q=>hb (by simp[q])) (fun q=>hb (by simp[q])) e
  exact I.turnK fr kp'
 self:=fun _ _ _ _ _ st h=>wpAny_pyIter_zip st.1 h
def tIt (a:Addr):Obj:={ cls:=.type "tuple_iterator",data:=.fields #[.ref a,.int 0 0]}
def zH (l1 l2:Addr)(h:Heap):Heap :=
 ((((h.push (tIt l1)).push (tIt l2)).push { cls:=.type "tuple",data:=.seq #[.ref h.objs.size,.ref (h.push (tIt l1)).objs.size]}).push { cls:=.type "tuple",data:=.seq #[.none,.none]}).push
  { cls:=.type "zip",data:=.fields #[.none,.bool false,.bool false,.ref ((h.push (tIt l1)).push (tIt l2)).objs.size,.ref (((h.push (tIt l1)).push (tIt l2)).push { cls:=.type "tuple",data:=.seq #[.ref h.objs.size,.ref (h.push (tIt l1)).objs.size]}).objs.size]}
theorem zip_newT (l1 l2:Addr)(xs ys:Array Value):Meets (Builtin.«zip.__new__» ⟨[.type "zip",.ref l1,.ref l2],[]⟩) (fun _ R s=>s.heap.IsTuple l1 xs/\s.heap.IsTuple l2 ys /\
 R (.ok (.ret (.ref (s.heap.objs.size+4)))) { s with heap:=zH l1 l2 s.heap}) :=
 .of_wp fun prog w A R s h=>by
  obtain⟨hp,g,d,tk,os⟩:=s;obtain⟨hl1,hl2,h⟩:=h
  have hsub:=sub_zip
  have t1:Heap.IsTuple (Shared.heap ⟨hp,g,d,tk,os⟩) l1 xs:=hl1
  have t2:Heap.IsTuple (Shared.heap ⟨hp.push { cls:=.type "tuple_iterator",data:=.fields #[.ref l1,.int 0 0]},g,d,tk,os⟩) l2 ys:=Heap.IsTuple.push hl2 _
  wp_walk using wpAny_pyIter_tuple t1,wpAny_pyIter_tuple t2
  refine⟨_,rfl,?_⟩
  have e:hp.objs.size+4=((((hp.push (tIt l1)).push (tIt l2)).push { cls:=.type "tuple",data:=.seq #[.ref hp.objs.size,.ref (hp.push (tIt l1)).objs.size]}).push { cls:=.type "tuple",data:=.seq #[.none,.none]}).objs.size:=by
   simp only[bq]
  have h':R (.ok (.ret (.ref (hp.objs.size+4)))) _:=h
  rw[e]at h'
  exact h'
theorem zip_made {prog:Program}{w:World}{A:Around}{E:Value->Shared->Prop}{s:Shared}{c:Bool}{l1 l2:Addr}{xs ys:Array Value}{Q:Value->Shared->Prop}(p1:SqOf c s.heap l1 xs)(p2:SqOf c s.heap l2 ys)
 (h:∀ h',IsZip h' (s.heap.objs.size+4) (s.heap.objs.size+2) (s.heap.objs.size+3) .none->IsPair h' (s.heap.objs.size+2) (.ref s.heap.objs.size) (.ref (s.heap.objs.size+1))->IsPair h' (s.heap.objs.size+3) .none .none ->
   ItOf c h' s.heap.objs.size l1 0->ItOf c h' (s.heap.objs.size+1) l2 0->(∀ b o,s.heap.get? b=some o->h'.get? b=some o)->Q (.ref (s.heap.objs.size+4)) { s with heap:=h'}) :
 wpAny (model prog w) A (call (.type "zip") [.ref l1,.ref l2]) Q E s:=by
 cases c with
 | false=>exact call_zip_2 p1 p2 fun h' a1 a2 a3 a4 a5 _ a7=>h h' a1 a2 a3 a4 a5 a7
 | true =>
  refine callType_new F.called_zip (by decide) (F.typeCall_zip_2 _ _) (F.newCall_zip_2 _ _) (fun obj=>F.args_object_init_3 obj _ _) F.entry_zip_new (zip_newT l1 l2 xs ys) ⟨p1,p2,?_⟩
  have z1:(s.heap.push (tIt l1)).objs.size=s.heap.objs.size+1:=bq ..
  have z2:((s.heap.push (tIt l1)).push (tIt l2)).objs.size=s.heap.objs.size+2:=by rw[bq,z1]
  have z3:(((s.heap.push (tIt l1)).push (tIt l2)).push { cls:=.type "tuple",data:=.seq #[.ref s.heap.objs.size,.ref (s.heap.push (tIt l1)).objs.size]}).objs.size=s.heap.objs.size+3:=by rw[bq,z2]
  have z4:((((s.heap.push (tIt l1)).push (tIt l2)).push { cls:=.type "tuple",data:=.seq #[.ref s.heap.objs.size,.ref (s.heap.push (tIt l1)).objs.size]}).push { cls:=.type "tuple",data:=.seq #[.none,.none]}).objs.size=s.heap.objs.size+4:=by rw[bq,z3]
  have g0:(zH l1 l2 s.heap).get? s.heap.objs.size=some (tIt l1):=gxL _ (gxL _ (gxL _ (gxL _ (aj _ rfl))))
  have g1:(zH l1 l2 s.heap).get? (s.heap.push (tIt l1)).objs.size=some (tIt l2):=gxL _ (gxL _ (gxL _ (aj _ rfl)))
  have g2:(zH l1 l2 s.heap).get? ((s.heap.push (tIt l1)).push (tIt l2)).objs.size=some _:=gxL _ (gxL _ (aj _ rfl))
  have g3:(zH l1 l2 s.heap).get? (((s.heap.push (tIt l1)).push (tIt l2)).push { cls:=.type "tuple",data:=.seq #[.ref s.heap.objs.size,.ref (s.heap.push (tIt l1)).objs.size]}).objs.size=some _:=gxL _ (aj _ rfl)
  have g4:(zH l1 l2 s.heap).get? ((((s.heap.push (tIt l1)).push (tIt l2)).push { cls:=.type "tuple",data:=.seq #[.ref s.heap.objs.size,.ref (s.heap.push (tIt l1)).objs.size]}).push { cls:=.type "tuple",data:=.seq #[.none,.none]}).objs.size=some _:=aj _ rfl
  rw[z1]at g1
  rw[z2,z1]at g2
  rw[z3]at g3
  rw[z4,z2,z3]at g4
  exact⟨⟨_,g4,rfl⟩,h _ g4 g2 g3 ⟨_,g0,rfl,rfl⟩ ⟨_,g1,rfl,rfl⟩ fun b o e=>gxL _ (gxL _ (gxL _ (gxL _ (gxL _ e))))⟩
section
variable {X:Cx}
def iZip (ta:TA):TI:=fun σ H R=>ta σ H fun vs H1=>match vs with
 | [.ref a,.ref b]=>∃(c:Bool) (xs ys:List V),SqC c H1 a xs/\SqC c H1 b ys/\R (Itz c a b) H1
 | _=>False
theorem pi_zip {elts:List Expr}{kk:Nat}{tpos:Pos}{a b:Expr}{ta:TA}{p pos:Pos}(hg:Gl X "zip")(hm:X.mg "zip"=none)(ha:PA X [a,b] ta)(hs:starEach [a,b] X.env=[(false,eval a X.env),(false,eval b X.env)]:=by rfl)(hs2:starEach [b] X.env=[(false,eval b X.env)]:=by rfl) :
 PI X (.Tuple elts kk tpos) (.Call (.Name "zip" p) [a,b] [] pos) (iZip ta):=by
 intro pins s σ H R I h
 refine Call_ (ld_blt I hg hm boot_zip (bL (thn (ha pos pins s σ H _ I h) fun us s1 hq3=>?_) (by rw[hs,hs2]) (by rw[hs2];rfl)))
 obtain⟨vs,H1,I1,r1,q1⟩:=hq3
 try dsimp only at q1
 split at q1
 ·rename_i l1 l2
  obtain⟨c,xs,ys,q1,q2,q⟩:=q1
  obtain⟨u1,u2,rfl,e1,e2⟩:=r1.two
  cases e1;cases e2
  obtain⟨us,r1,p1⟩:=q1.val I1
  obtain⟨ws,r2,p2⟩:=q2.val I1
  have lt:∀ {l:Addr} {o:HO},H1 l=some o->l<s1.heap.objs.size:=fun e=>I1.hok.lt e
  obtain⟨o1,w1⟩:=q1.ex
  obtain⟨o2,w2⟩:=q2.ex
  refine zip_made p1 p2 fun h' hz hTI hTO n1 n2 kp=>wpAny_pyIter_zip hz ?_
  have I2:Inv X pins σ H1 { s1 with heap:=h'}:=I1.kept (t':=s1.toks) kp
  refine⟨s1.heap.objs.size+4,_,_,_,H1,rfl,I2,turn_zip (c:=c) (zipApart_new (lt w1) (lt w2)),⟨hz,hTI,⟨_,_,hTO⟩,n1,n2⟩,fun b hb=>?_,q⟩
  have hb':s1.heap.objs.size<=b:=by
   simp only[bw,bb,cG]at hb
   rcases hb with e | e | e | e | e <;> subst e
   ·exact bt ..
   ·exact bt ..
   ·exact bt ..
   ·exact aa _
   ·exact bt ..
  exact I1.fpOk hb' (I1.hok.fresh hb')
 ·exact q1.elim
def rAllC (g:List Bool->Bool):List V->Hp->VK->Prop:=fun vs H Q=>match vs with
 | [.ref p]=>∃ bs:List Bool,H p=some (.lst (bs.map V.bl))/\Q (.bl (g bs)) H
 | _=>False
theorem range_all (bs:List Bool):(List.range bs.length).all (fun i=>bs.getD i true)=bs.all id:=by
 rw[cM,b7,b7]
 constructor
 ·intro h b hb
  obtain⟨i,hi,e⟩:=cE hb
  have:=h i (by simpa using hi)
  rw[bP,gxA hi,e]at this
  exact this
 ·intro h i hi
  have hi':i<bs.length:=by simpa using hi
  rw[bP,gxA hi']
  exact h _ (da _)
theorem allC (hc:X.calm=true):CallR X (.builtin "all") (rAllC fun bs=>bs.all id):=by
 intro pins s σ H vs us Q I rv h
 unfold rAllC at h
 split at h
 ·rename_i p
  obtain⟨bs,hp,q⟩:=h
  obtain⟨u,rfl,ru⟩:=rv.one
  cases ru
  obtain⟨z,its,n,r,hl,e⟩:=I.lstM hp
  have isl:s.heap.IsList p its.toArray:=⟨_,e,rfl,n,rfl⟩
  have lt:p≠s.heap.objs.size:=aF (gxN e)
  refine call_all_walk (wpAny_pyIter_list isl ⟨_,_,_,_,_,_,fun i=>bs.getD i true,rfl,Walks.list (A:=X.A.in1) (I.ok.hd hc) s.heap.objs.size p lt its.toArray,⟨⟨_,aj _ rfl,rfl,rfl⟩,isl.push _⟩,?_,fun h' tk kp=>?_⟩)
  ·intro i v s' Q' E' hv hq
   have hv':its[i]?=some v:=by simpa using hv
   have hb:∃ b,bs[i]?=some b/\v=.bool b:=by
    cases eb:(bs.map V.bl)[i]? with
    | none=>have:=r.none_of eb;rw[hv']at this;cases this
    | some y =>
     obtain⟨u,hu,ry⟩:=r.get eb
     rw[hv']at hu;cases hu
     rw[gxH]at eb
     cases e2:bs[i]? with
     | none=>rw[e2]at eb;cases eb
     | some b=>rw[e2]at eb;cases eb;exact⟨b,rfl,ry⟩
   obtain⟨b,eb,rfl⟩:=hb
   have e3:bs.getD i true=b:=by rw[bP,eb];rfl
   have hq':Q' (bs.getD i true) s':=hq
   rw[e3]at hq'
   exact bx hq'
  ·have I2:Inv X pins σ H { s with heap:=h',toks:=tk}:=I.kept fun b o e'=>kp b o (by simpa using aF (gxN e')) (gxL _ e')
   have len:its.toArray.size=bs.length:=by rw[af,<- hl,gxC]
   rw[len,range_all]
   exact⟨.bl _,H,I2,rfl,q⟩
 ·exact h.elim
def rEqN:R2:=fun x y H Q=>match x,y with
 | .non,.non=>Q (.bl true) H
 | .int i,.int j=>Q (.bl (decide (i=j))) H
 | .str i,.str j=>Q (.bl (decide (i=j))) H
 | .bl i,.bl j=>Q (.bl (decide (i=j))) H
 | _,_=>False
theorem eqN:OpR X (compareOp .Eq) rEqN:=op_eq.imp fun x y H Q q=>by
 unfold rEqN at q
 split at q
 ·exact⟨rfl,by simpa using q⟩
 ·exact⟨rfl,by rw[dI];exact q⟩
 ·exact⟨rfl,by rw[dS];exact q⟩
 ·exact⟨rfl,by rw[dB];exact q⟩
 ·exact q.elim
end
section
variable {js:List (Option Nat)}{g:TG}{tt:TT}{te:TE}{σ:St}{H:Hp}{fin:List V->Hp->Prop}
theorem compZip {c:Bool}{a1 a2:Addr}{xs zs:List V}(hn:xs.length=zs.length)(Pv:Nat->List V->Hp->Prop)(h0:Pv 0 [] H)(hl:∀ i ys H,Pv i ys H->SqC c H a1 xs/\SqC c H a2 zs)
 (hs:∀ i x y ys H T,i<xs.length->xs[i]?=some x->zs[i]?=some y->Pv i ys H->H T=none->g (.ref T) (startC js σ) (upd H T (.tup [x,y])) fun σ2 H2=>Ext (startC js σ) σ2/\tt σ2 H2 fun b H3=>if b=true then te σ2 H3 (CNx xs.length i Pv ys)else CSk xs.length i Pv ys H3)
 (hd:∀ ys H,Pv xs.length ys H->fin ys H):wComp js g tt te (Itz c a1 a2) σ H fin:=by
 refine⟨fun i m ys H=>m=xs.length - i/\i<=xs.length/\Pv i ys H,⟨xs.length,by simp,a6 _,h0⟩,?_⟩
 rintro i m ys H ⟨rfl,hi,p⟩
 obtain⟨q1,q2⟩:=hl i ys H p
 by_cases hlt:i<xs.length
 ·refine .inr ⟨⟨xs,zs,xs[i],zs[i]'(by omega),q1,q2,by simp[hlt],by simp[show i<zs.length by omega]⟩,fun v H' yl=>?_⟩
  obtain⟨T,x,y,rfl,hT,rfl,h1,h2⟩:=yl
  exact hs i x y ys H T hlt (h1 xs q1) (h2 zs q2) p hT
 ·have e:i=xs.length:=by omega
  subst e
  exact .inl ⟨⟨xs,zs,q1,q2,aa _⟩,hd ys H p⟩
end
inductive DV where
 | non | bl (b:Bool) | int (i:Int) | str (z:Str) | lst (ds:List DV) | tup (ds:List DV)
mutual
def dep:DV->Nat
 | .lst ds=>depL ds+1
 | .tup ds=>depL ds+1
 | _=>0
def depL:List DV->Nat
 | []=>0
 | d::ds=>max (dep d) (depL ds)
end
mutual
def wid:DV->Nat
 | .lst ds=>max ds.length (widL ds)
 | .tup ds=>max ds.length (widL ds)
 | _=>0
def widL:List DV->Nat
 | []=>0
 | d::ds=>max (wid d) (widL ds)
end
mutual
def Is (H:Hp):DV->V->Prop
 | .non,v=>v=.non
 | .bl b,v=>v=.bl b
 | .int i,v=>v=.int i
 | .str z,v=>v=.str z
 | .lst ds,v=>∃ p vs,v=.ref p/\H p=some (.lst vs)/\IsAll H ds vs
 | .tup ds,v=>∃ p vs,v=.ref p/\H p=some (.tup vs)/\IsAll H ds vs
def IsAll (H:Hp):List DV->List V->Prop
 | [],vs=>vs=[]
 | d::ds,vs=>∃ v r,vs=v::r/\Is H d v/\IsAll H ds r
end
mutual
theorem Is.mono {H H':Hp}(s:Same H H'):∀(d:DV) (v:V),Is H d v->Is H' d v
 | .non,_,h=>h
 | .bl _,_,h=>h
 | .int _,_,h=>h
 | .str _,_,h=>h
 | .lst ds,_,h=>by
  obtain⟨p,vs,e,hp,q⟩:=h
  exact⟨p,vs,e,s _ _ hp,IsAll.mono s ds vs q⟩
 | .tup ds,_,h=>by
  obtain⟨p,vs,e,hp,q⟩:=h
  exact⟨p,vs,e,s _ _ hp,IsAll.mono s ds vs q⟩
theorem IsAll.mono {H H':Hp}(s:Same H H'):∀(ds:List DV) (vs:List V),IsAll H ds vs->IsAll H' ds vs
 | [],_,h=>h
 | d::ds,_,h=>by
  obtain⟨v,r,e,h1,h2⟩:=h
  exact⟨v,r,e,Is.mono s d v h1,IsAll.mono s ds r h2⟩
end
theorem IsAll.len {H:Hp}:∀ {ds:List DV} {vs:List V},IsAll H ds vs->vs.length=ds.length
 | [],_,h=>by rw[show _=[]from h];rfl
 | d::ds,_,h=>by obtain⟨v,r,rfl,_,h2⟩:=h;rw[ah,ah,IsAll.len h2]
theorem IsAll.get {H:Hp}:∀ {ds:List DV} {vs:List V} {i:Nat} {v:V},IsAll H ds vs->vs[i]?=some v->∃ d,ds[i]?=some d/\Is H d v
 | [],_,i,v,h,e=>by rw[show _=[]from h]at e;simp at e
 | d::ds,_,0,v,h,e=>by
  obtain⟨v',r,rfl,h1,h2⟩:=h
  simp at e;subst e;exact⟨d,rfl,h1⟩
 | d::ds,_,i+1,v,h,e=>by
  obtain⟨v',r,rfl,h1,h2⟩:=h
  obtain⟨d',e1,e2⟩:=IsAll.get (i:=i) h2 (by simpa using e)
  exact⟨d',by simpa using e1,e2⟩
theorem depL_get:∀ {ds:List DV} {i:Nat} {d:DV},ds[i]?=some d->dep d<=depL ds
 | d::ds,0,d',h=>by simp at h;subst h;unfold depL;omega
 | d::ds,i+1,d',h=>by have:=depL_get (ds:=ds) (i:=i) (by simpa using h);unfold depL;omega
theorem widL_get:∀ {ds:List DV} {i:Nat} {d:DV},ds[i]?=some d->wid d<=widL ds
 | d::ds,0,d',h=>by simp at h;subst h;unfold widL;omega
 | d::ds,i+1,d',h=>by have:=widL_get (ds:=ds) (i:=i) (by simpa using h);unfold widL;omega
def spSame (n:Nat):Sp:=fun vs H Q _=>match vs with
 | [x,y]=>∃ d,dep d<=n/\wid d<sizeLine/\Is H d x/\Is H d y/\∀ H',Same H H'->Q (.bl true) H'
 | _=>False
def spNo:Sp:=fun _ _ _ _=>False
def spS:Nat->Sp
 | 0=>spNo
 | n+1=>spSame n
theorem Same.upd {H:Hp}{p:Addr}{o:HO}(h:H p=none):Same H (L2.upd H p o):=fun b u e=>by rw[upd_ne (ne_of_none e h)];exact e
theorem cutL_to {α:Type}{l:List α}{n:Int}(h:0<=n):cutL l none (some n)=l.take n.toNat:=by
 obtain⟨m,rfl⟩:∃ m:Nat,n=(m:Int):=⟨n.toNat,by omega⟩
 unfold cutL
 rw[HT.sIx_nat,HT.sIx_none,List.drop_zero,Nat.sub_zero,gxK]
 by_cases hm:m<=l.length
 ·rw[Nat.min_eq_left hm]
 ·rw[Nat.min_eq_right (by omega),List.take_length,ck (by omega)]
theorem cutL_from {α:Type}{l:List α}{n:Int}(h:0<=n):cutL l (some n) none=l.drop n.toNat:=by
 obtain⟨m,rfl⟩:∃ m:Nat,n=(m:Int):=⟨n.toNat,by omega⟩
 unfold cutL
 rw[HT.sIx_nat,HT.sIx_none,gxK]
 by_cases hm:m<=l.length
 ·rw[Nat.min_eq_left hm,ck (by rw[cA];omega)]
 ·rw[Nat.min_eq_right (by omega),List.drop_of_length_le (aa _),List.drop_of_length_le (by omega),List.take_nil]
end L2
namespace L2
open PySem PySem.Spec PyProof.Rows
section
variable {X:Cx}
def rAppendC:V->List V->Hp->VK->Prop:=fun x vs H Q=>∃ l y xs,x=.ref l/\vs=[y]/\H l=some (.lst xs)/\xs.length<sizeLine/\Q .non (upd H l (.lst (xs++[y])))
theorem appendC:MtR X "list.append" rAppendC:=MtR.imp mt_append fun x vs H Q q=>by
 obtain⟨l,y,xs,rfl,rfl,a,b,c⟩:=q
 exact⟨_,xs,_,rfl,rfl,a,b,c⟩
end
def PairsAt (H:Hp):List V->List (Nat×Nat)->Prop:=Paired fun v r=>∃ p,v=.ref p/\H p=some (.tup [.int r.1,.int r.2])
def dvp (r:Nat×Nat):DV:=.tup [.int r.1,.int r.2]
theorem PairsAt.all {H:Hp}:∀ {vs:List V} {rs:List (Nat×Nat)},PairsAt H vs rs->IsAll H (rs.map dvp) vs
 | _,_,.nil=>rfl
 | _,_,.cons ⟨p,e,h⟩ r=>⟨_,_,rfl,⟨p,_,e,h,_,_,rfl,rfl,_,_,rfl,rfl,rfl⟩,PairsAt.all r⟩
def rr (l:List Nat):Nat->Nat×List (Nat×Nat)
 | 0=>(0,[])
 | i+1=>if l[i]?=some 120 then(i+1,if(rr l i).1<i then(rr l i).2++[((rr l i).1,i)]else(rr l i).2)else rr l i
inductive D where
 | non | bl (b:Bool) | int (i:Int) | str (z:Str) | lst (ds:List D) | tup (ds:List D) | dic (ks:List Key) (ds:List D) | mr (k:Nat) | obj (C:Addr) (ns:List Str) (ds:List D) | fdc (ks:List Key) (ds:List D) | fn (a:Addr)
inductive MO where
 | box | lst (ds:List D) | dic (ks:List Key) (ds:List D) | fdic (o:Obj) (kvs:List (Key×V)) (ds:List D) | ins (C:Addr) (ns:List Str) (ds:List D) | dtu (ks:List (List Key)) (ds:List D) | gx (φ:List Addr) (H:Hp) | exc (c:Value)
abbrev MS:=List MO
def lvM (μ:MS)(k:Nat):Option (List D):=match μ[k]? with | some (.lst ds)=>some ds | _=>none
theorem lvM_eq {μ:MS}{k:Nat}{ds:List D}(h:lvM μ k=some ds):μ[k]?=some (.lst ds):=by
 unfold lvM at h
 split at h
 ·cases h;assumption
 ·cases h
theorem lvM_of {μ:MS}{k:Nat}{ds:List D}(h:μ[k]?=some (.lst ds)):lvM μ k=some ds:=by unfold lvM;rw[h]
theorem lvM_set {μ:MS}{k:Nat}{ds:List D}(h:k<μ.length):lvM (μ.set k (.lst ds)) k=some ds:=lvM_of (aI h)
theorem lvM_ne {μ:MS}{j k:Nat}{m:MO}(h:k≠j):lvM (μ.set k m) j=lvM μ j:=by unfold lvM;rw[aM h]
theorem lvM_new {μ:MS}{ds:List D}:lvM (μ++[.lst ds]) μ.length=some ds:=lvM_of (by rw[gxG (aa _),br];rfl)
abbrev DE:=List (Option D)
mutual
def DIs (φ:List Addr)(H:Hp):D->V->Prop
 | .non,v=>v=.non
 | .bl b,v=>v=.bl b
 | .int i,v=>v=.int i
 | .str z,v=>v=.str z
 | .lst ds,v=>∃ p vs,v=.ref p/\p∉φ/\H p=some (.lst vs)/\DAll φ H ds vs
 | .tup ds,v=>∃ p vs,v=.ref p/\p∉φ/\H p=some (.tup vs)/\DAll φ H ds vs
 | .dic ks ds,v=>∃ p kvs vs,v=.ref p/\p∉φ/\H p=some (.dK kvs)/\kvs.map (·.1)=ks/\vs=kvs.map (·.2)/\DAll φ H ds vs
 | .mr k,v=>∃ p,φ[k]?=some p/\v=.ref p
 | .obj C ns ds,v=>∃ p dx fs vs,v=.ref p/\p∉φ/\H p=some (.ins C dx fs)/\fs.map (·.1)=ns/\vs=fs.map (·.2)/\DAll φ H ds vs
 | .fdc ks ds,v=>∃ p o kvs vs,v=.ref p/\p∉φ/\H p=some (.frz o (.dK kvs))/\kvs.map (·.1)=ks/\vs=kvs.map (·.2)/\DAll φ H ds vs
 | .fn a,v=>v=.ref a
def DAll (φ:List Addr)(H:Hp):List D->List V->Prop
 | [],vs=>vs=[]
 | d::ds,vs=>∃ v r,vs=v::r/\DIs φ H d v/\DAll φ H ds r
end
structure Fr (φ:List Addr)(H:Hp)(φ':List Addr)(H':Hp):Prop where
 ext:∃ ψ,φ'=φ++ψ/\∀ c∈ψ,H c=none
 keep:∀ c o,c∉φ->H c=some o->H' c=some o
 dom:∀ c,H' c=none->H c=none
theorem Fr.refl (φ:List Addr)(H:Hp):Fr φ H φ H:=⟨⟨[],by simp,fun _ h=>nomatch h⟩,fun _ _ _ h=>h,fun _ h=>h⟩
theorem Fr.trans {φ φ1 φ2:List Addr}{H H1 H2:Hp}(a:Fr φ H φ1 H1)(b:Fr φ1 H1 φ2 H2):Fr φ H φ2 H2:=by
 obtain⟨⟨ψ,rfl,hψ⟩,k1,d1⟩:=a
 obtain⟨⟨χ,rfl,hχ⟩,k2,d2⟩:=b
 refine⟨⟨ψ++χ,by simp,fun c hc=>?_⟩,fun c o hc e=>k2 c o (fun h=>?_) (k1 c o hc e),fun c h=>d1 c (d2 c h)⟩
 ·rcases List.mem_append.mp hc with h | h
  ·exact hψ c h
  ·exact d1 c (hχ c h)
 ·rcases List.mem_append.mp h with h | h
  ·exact hc h
  ·rw[hψ c h]at e;cases e
theorem Fr.same {φ:List Addr}{H H':Hp}(h:Same H H'):Fr φ H φ H':=⟨⟨[],by simp,fun _ h=>nomatch h⟩,fun c o _ e=>h c o e,fun c e=>h.free e⟩
theorem Fr.new {φ:List Addr}{H:Hp}{p:Addr}{o:HO}(h:H p=none):Fr φ H φ (upd H p o):=.same (Same.upd h)
theorem Fr.put {φ:List Addr}{H:Hp}{p:Addr}{o:HO}(h:p∈φ):Fr φ H φ (upd H p o) :=
 ⟨⟨[],by simp,fun _ h=>nomatch h⟩,fun c u hc e=>by rw[upd_ne (show c≠p from fun z=>hc (by rw[z];exact h))];exact e,fun c e=>by
  unfold upd at e
  split at e
  ·cases e
  ·exact e⟩
theorem Fr.snoc {φ:List Addr}{H:Hp}{p:Addr}(h:H p=none):Fr φ H (φ++[p]) H:=⟨⟨[p],rfl,fun c hc=>by rw[List.mem_singleton.mp hc];exact h⟩,fun _ _ _ e=>e,fun _ e=>e⟩
theorem Fr.notin {φ φ':List Addr}{H H':Hp}(f:Fr φ H φ' H'){p:Addr}{o:HO}(h:p∉φ)(e:H p=some o):p∉φ':=by
 obtain⟨⟨ψ,rfl,hψ⟩,_,_⟩:=f
 intro hc
 rcases List.mem_append.mp hc with q | q
 ·exact h q
 ·rw[hψ p q]at e;cases e
theorem Fr.get {φ φ':List Addr}{H H':Hp}(f:Fr φ H φ' H'){k:Nat}{p:Addr}(h:φ[k]?=some p):φ'[k]?=some p:=by
 obtain⟨⟨ψ,rfl,hψ⟩,_,_⟩:=f
 rw[gxF (gxB h).1];exact h
mutual
theorem DIs.mono {φ φ':List Addr}{H H':Hp}(f:Fr φ H φ' H'):∀ {d:D} {v:V},DIs φ H d v->DIs φ' H' d v
 | .non,_,h=>h
 | .bl _,_,h=>h
 | .int _,_,h=>h
 | .str _,_,h=>h
 | .lst _,_,h=>by obtain⟨p,vs,e,n,hp,q⟩:=h;exact⟨p,vs,e,f.notin n hp,f.keep _ _ n hp,DAll.mono f q⟩
 | .tup _,_,h=>by obtain⟨p,vs,e,n,hp,q⟩:=h;exact⟨p,vs,e,f.notin n hp,f.keep _ _ n hp,DAll.mono f q⟩
 | .dic _ _,_,h=>by obtain⟨p,kvs,vs,e,n,hp,q1,q2,q⟩:=h;exact⟨p,kvs,vs,e,f.notin n hp,f.keep _ _ n hp,q1,q2,DAll.mono f q⟩
 | .mr _,_,h=>by obtain⟨p,e,q⟩:=h;exact⟨p,f.get e,q⟩
 | .obj _ _ _,_,h=>by obtain⟨p,dx,fs,vs,e,n,hp,q1,q2,q⟩:=h;exact⟨p,dx,fs,vs,e,f.notin n hp,f.keep _ _ n hp,q1,q2,DAll.mono f q⟩
 | .fdc _ _,_,h=>by obtain⟨p,dx,fs,vs,e,n,hp,q1,q2,q⟩:=h;exact⟨p,dx,fs,vs,e,f.notin n hp,f.keep _ _ n hp,q1,q2,DAll.mono f q⟩
 | .fn _,_,h=>h
theorem DAll.mono {φ φ':List Addr}{H H':Hp}(f:Fr φ H φ' H'):∀ {ds:List D} {vs:List V},DAll φ H ds vs->DAll φ' H' ds vs
 | [],_,h=>h
 | _::_,_,h=>by obtain⟨v,r,e,h1,h2⟩:=h;exact⟨v,r,e,DIs.mono f h1,DAll.mono f h2⟩
end
theorem DAll.len {φ:List Addr}{H:Hp}:∀ {ds:List D} {vs:List V},DAll φ H ds vs->vs.length=ds.length
 | [],_,h=>by rw[show _=[]from h];rfl
 | d::ds,_,h=>by obtain⟨v,r,rfl,_,h2⟩:=h;rw[ah,ah,DAll.len h2]
theorem DAll.get {φ:List Addr}{H:Hp}:∀ {ds:List D} {vs:List V} {i:Nat} {d:D},DAll φ H ds vs->ds[i]?=some d->∃ v,vs[i]?=some v/\DIs φ H d v
 | [],_,i,d,h,e=>by simp at e
 | d::ds,_,0,d',h,e=>by obtain⟨v',r,rfl,h1,h2⟩:=h;simp at e;subst e;exact⟨v',rfl,h1⟩
 | d::ds,_,i+1,d',h,e=>by
  obtain⟨v',r,rfl,h1,h2⟩:=h
  obtain⟨v,e1,e2⟩:=DAll.get (i:=i) h2 (by simpa using e)
  exact⟨v,by simpa using e1,e2⟩
theorem DAll.getV {φ:List Addr}{H:Hp}{ds:List D}{vs:List V}{i:Nat}{v:V}(h:DAll φ H ds vs)(e:vs[i]?=some v):∃ d,ds[i]?=some d/\DIs φ H d v:=by
 have hl:=h.len
 have hi:=(gxB e).1
 obtain⟨u,e1,e2⟩:=h.get (d:=ds[i]'(by omega)) (gxA (by omega))
 rw[e]at e1;cases e1
 exact⟨_,gxA (by omega),e2⟩
theorem DAll.app {φ:List Addr}{H:Hp}:∀ {ds es:List D} {vs us:List V},DAll φ H ds vs->DAll φ H es us->DAll φ H (ds++es) (vs++us)
 | [],_,_,_,h,g=>by rw[show _=[]from h];exact g
 | d::ds,es,_,us,h,g=>by obtain⟨v,r,rfl,h1,h2⟩:=h;exact⟨v,r++us,rfl,h1,h2.app g⟩
theorem DAll.take {φ:List Addr}{H:Hp}:∀ {ds:List D} {vs:List V} (n:Nat),DAll φ H ds vs->DAll φ H (ds.take n) (vs.take n)
 | _,_,0,_=>rfl
 | [],_,n+1,h=>by rw[show _=[]from h];rfl
 | d::ds,_,n+1,h=>by obtain⟨v,r,rfl,h1,h2⟩:=h;exact⟨v,r.take n,rfl,h1,h2.take n⟩
theorem DAll.drop {φ:List Addr}{H:Hp}:∀ {ds:List D} {vs:List V} (n:Nat),DAll φ H ds vs->DAll φ H (ds.drop n) (vs.drop n)
 | _,_,0,h=>h
 | [],_,n+1,h=>by rw[show _=[]from h];rfl
 | d::ds,_,n+1,h=>by obtain⟨v,r,rfl,h1,h2⟩:=h;exact h2.drop n
theorem DAll.set {φ:List Addr}{H:Hp}{d:D}{v:V}(hd:DIs φ H d v):∀ {ds:List D} {vs:List V} (n:Nat),DAll φ H ds vs->DAll φ H (ds.set n d) (vs.set n v)
 | [],_,n,h=>by rw[show _=[]from h];cases n <;> rfl
 | e::ds,_,0,h=>by obtain⟨w,r,rfl,h1,h2⟩:=h;exact⟨v,r,rfl,hd,h2⟩
 | e::ds,_,n+1,h=>by obtain⟨w,r,rfl,h1,h2⟩:=h;exact⟨w,r.set n v,rfl,h1,h2.set hd n⟩
theorem DAll.rev {φ:List Addr}{H:Hp}:∀ {ds:List D} {vs:List V},DAll φ H ds vs->DAll φ H ds.reverse vs.reverse
 | [],_,h=>by rw[show _=[]from h];rfl
 | d::ds,_,h=>by
  obtain⟨v,r,rfl,h1,h2⟩:=h
  rw[aH,aH]
  exact h2.rev.app ⟨v,[],rfl,h1,rfl⟩
theorem DAll.bls {φ:List Addr}{H:Hp}:∀ {ns:List Bool} {vs:List V},DAll φ H (ns.map D.bl) vs->vs=ns.map V.bl
 | [],_,h=>h
 | n::ns,_,h=>by obtain⟨v,r,rfl,h1,h2⟩:=h;rw[show v=.bl n from h1,DAll.bls h2];rfl
def BxF (φ:List Addr)(H:Hp)(b:Addr):Prop:=∃(q:Addr) (ns:List Int) (i r z:Int),H b=some (.lst [.ref q,.int i,.int r,.int z])/\H q=some (.lst (ns.map V.int))/\q∉φ/\0<=i/\0<=z/\z<2147483647
def ExcIs (p:Addr)(c:Value)(h:Heap):Prop:=∃ oe vs,h.get? p=some oe/\oe.cls=c/\oe.dict=none/\oe.data=.fields vs/\vs[2]?=some .none
def MoIs (φ:List Addr)(H:Hp):MO->Addr->Prop
 | .box,p=>BxF φ H p
 | .lst ds,p=>∃ vs,H p=some (.lst vs)/\DAll φ H ds vs
 | .dic ks ds,p=>∃ kvs vs,H p=some (.dK kvs)/\kvs.map (·.1)=ks/\vs=kvs.map (·.2)/\DAll φ H ds vs
 | .fdic o kvs ds,p=>H p=some (.frz o (.dK kvs))/\DAll φ H ds (kvs.map (·.2))
 | .ins C ns ds,p=>∃ dx fs,H p=some (.ins C dx fs)/\fs.map (·.1)=ns/\DAll φ H ds (fs.map (·.2))
 | .dtu ks ds,p=>∃ kvs,H p=some (.dT kvs)/\kvs.map (·.1)=ks/\DAll φ H ds (kvs.map (·.2))
 | .gx φ0 H0,p=>Fr φ0 H0 φ H/\H p=H0 p/\(∃ o,H p=some o)/\∀ zs,H p≠some (.tup zs)
 | .exc c,p=>H p=some (.ext (ExcIs p c))
structure MSis (φ:List Addr)(H:Hp)(μ:MS):Prop where
 nd:φ.Nodup
 len:φ.length=μ.length
 at_:∀(k:Nat) (m:MO),μ[k]?=some m->∃ p,φ[k]?=some p/\MoIs φ H m p
theorem MoIs.mono {φ φ':List Addr}{H H':Hp}(f:Fr φ H φ' H'){m:MO}{p:Addr}(s:∀ o,H p=some o->H' p=some o)(h:MoIs φ H m p):MoIs φ' H' m p:=by
 cases m with
 | box=>obtain⟨q,ns,i,r,z,h1,h2,h3,h4⟩:=h;exact⟨q,ns,i,r,z,s _ h1,f.keep _ _ h3 h2,f.notin h3 h2,h4⟩
 | lst ds=>obtain⟨vs,h1,h2⟩:=h;exact⟨vs,s _ h1,h2.mono f⟩
 | dic ks ds=>obtain⟨kvs,vs,h1,h2,h3,h4⟩:=h;exact⟨kvs,vs,s _ h1,h2,h3,h4.mono f⟩
 | fdic o kvs ds=>exact⟨s _ h.1,h.2.mono f⟩
 | ins C ns ds=>obtain⟨dx,fs,h1,h2,h3⟩:=h;exact⟨dx,fs,s _ h1,h2,h3.mono f⟩
 | dtu ks ds=>obtain⟨kvs,h1,h2,h3⟩:=h;exact⟨kvs,s _ h1,h2,h3.mono f⟩
 | gx φ0 H0=>obtain⟨h1,h2,⟨o,h3⟩,h4⟩:=h;exact⟨h1.trans f,(s _ h3).trans (h3.symm.trans h2),⟨o,s _ h3⟩,fun zs e=>h4 zs (h3.trans ((s _ h3).symm.trans e))⟩
 | exc c=>exact s _ h
theorem MoIs.ex {φ:List Addr}{H:Hp}{m:MO}{p:Addr}(h:MoIs φ H m p):∃ o,H p=some o:=by
 cases m with
 | box=>obtain⟨q,ns,i,r,z,h1,_⟩:=h;exact⟨_,h1⟩
 | lst ds=>obtain⟨vs,h1,_⟩:=h;exact⟨_,h1⟩
 | dic ks ds=>obtain⟨kvs,vs,h1,_⟩:=h;exact⟨_,h1⟩
 | fdic o kvs ds=>exact⟨_,h.1⟩
 | ins C ns ds=>obtain⟨dx,fs,h1,_⟩:=h;exact⟨_,h1⟩
 | dtu ks ds=>obtain⟨kvs,h1,_⟩:=h;exact⟨_,h1⟩
 | gx φ0 H0=>exact h.2.2.1
 | exc c=>exact⟨_,h⟩
theorem MSis.same {φ:List Addr}{H H':Hp}{μ:MS}(h:MSis φ H μ)(s:Same H H'):MSis φ H' μ :=
 ⟨h.nd,h.len,fun k m e=>let ⟨p,e1,e2⟩:=h.at_ k m e;⟨p,e1,e2.mono (.same s) fun o q=>s _ _ q⟩⟩
theorem MSis.mem {φ:List Addr}{H:Hp}{μ:MS}(h:MSis φ H μ){p:Addr}(hp:p∈φ):∃ o,H p=some o:=by
 obtain⟨k,hk,e⟩:=cE hp
 obtain⟨q,e1,e2⟩:=h.at_ k (μ[k]'(by have:=h.len;omega)) (gxA _)
 rw[gxA hk,e]at e1
 cases e1
 exact e2.ex
theorem MSis.fresh {φ:List Addr}{H:Hp}{μ:MS}(h:MSis φ H μ){p:Addr}(hp:H p=none):p∉φ:=fun q=>by
 obtain⟨o,e⟩:=h.mem q
 rw[hp]at e;cases e
theorem MSis.snoc {φ:List Addr}{H:Hp}{μ:MS}{m:MO}{p:Addr}{o:HO}(h:MSis φ H μ)(hp:H p=none)(hm:MoIs (φ++[p]) (upd H p o) m p):MSis (φ++[p]) (upd H p o) (μ++[m])/\Fr φ H (φ++[p]) (upd H p o):=by
 have f1:Fr φ H (φ++[p]) H:=.snoc hp
 have f:Fr φ H (φ++[p]) (upd H p o):=⟨f1.ext,fun c u hc e=>Same.upd hp _ _ e,fun c e=>(Same.upd hp).free e⟩
 refine⟨⟨?_,by rw[gxE,gxE,h.len];rfl,fun k n e=>?_⟩,f⟩
 ·rw[List.nodup_append]
  exact⟨h.nd,by simp,fun a ha b hb=>by rw[List.mem_singleton.mp hb];intro z;exact h.fresh hp (by rw[<- z];exact ha)⟩
 ·by_cases hk:k<μ.length
  ·rw[gxF hk]at e
   obtain⟨q,e1,e2⟩:=h.at_ k n e
   exact⟨q,f.get e1,e2.mono f fun u eu=>Same.upd hp _ _ eu⟩
  ·have hk':k=μ.length:=by
    have:=(gxB e).1
    rw[gxE,bf]at this
    omega
   subst hk'
   rw[gxG (aa _),br]at e
   cases e
   exact⟨p,by rw[gxG (by rw[h.len];exact aa _),h.len,br];rfl,hm⟩
theorem MSis.put {φ:List Addr}{H:Hp}{μ:MS}{m:MO}{p:Addr}{o:HO}{k:Nat}(h:MSis φ H μ)(hk:φ[k]?=some p)(hm:MoIs φ (upd H p o) m p):MSis φ (upd H p o) (μ.set k m):=by
 have hp:p∈φ:=gxD hk
 have f:Fr φ H φ (upd H p o):=.put hp
 refine⟨h.nd,by rw[aW];exact h.len,fun j n e=>?_⟩
 by_cases hj:k=j
 ·subst hj
  have hl:k<μ.length:=by have:=(gxB hk).1;have:=h.len;omega
  rw[aI hl]at e
  cases e
  exact⟨p,hk,hm⟩
 ·rw[aM hj]at e
  obtain⟨q,e1,e2⟩:=h.at_ j n e
  refine⟨q,e1,e2.mono f fun u eu=>?_⟩
  rw[upd_ne]
  ·exact eu
  ·intro z
   subst z
   have a1:=gxB hk
   have a2:=gxB e1
   obtain⟨i1,r1⟩:=a1
   obtain⟨i2,r2⟩:=a2
   rcases Nat.lt_or_gt_of_ne hj with z | z
   ·exact List.pairwise_iff_getElem.mp h.nd k j i1 i2 z (r1.trans r2.symm)
   ·exact List.pairwise_iff_getElem.mp h.nd j k i2 i1 z (r2.trans r1.symm)
def DEnv (φ:List Addr)(H:Hp)(ρ:DE)(σ:St):Prop:=ρ.length=σ.length/\∀(i:Nat) (d:D),ρ[i]?=some (some d)->∃ v,σ[i]?=some (some v)/\DIs φ H d v
theorem DEnv.mono {φ φ':List Addr}{H H':Hp}{ρ:DE}{σ:St}(f:Fr φ H φ' H')(h:DEnv φ H ρ σ):DEnv φ' H' ρ σ:=⟨h.1,fun i d e=>let ⟨v,a,b⟩:=h.2 i d e;⟨v,a,b.mono f⟩⟩
theorem DEnv.set {φ:List Addr}{H:Hp}{ρ:DE}{σ:St}{d:D}{v:V}(h:DEnv φ H ρ σ)(hd:DIs φ H d v)(i:Nat):DEnv φ H (ρ.set i (some d)) (σ.set i (some v)):=by
 refine⟨by rw[aW,aW];exact h.1,fun j e hj=>?_⟩
 by_cases hij:i=j
 ·subst hij
  have hl:i<ρ.length:=by have:=(gxB hj).1;rwa [aW]at this
  rw[aI hl]at hj
  cases hj
  exact⟨v,aI (by rw[<- h.1];exact hl),hd⟩
 ·rw[aM hij]at hj
  obtain⟨u,a,b⟩:=h.2 j e hj
  exact⟨u,by rw[aM hij];exact a,b⟩
def lv (μ:MS):D->Option (List D)
 | .lst ds=>some ds
 | .mr k=>lvM μ k
 | _=>none
def lc:D->List D->MS->Prop
 | .mr k,ds=>fun μ=>lvM μ k=some ds
 | _,_=>fun _=>True
theorem lv_is {φ:List Addr}{H:Hp}{μ:MS}{d:D}{v:V}{ds:List D}(M:MSis φ H μ)(i:DIs φ H d v)(h:lv μ d=some ds):∃ p vs,v=.ref p/\H p=some (.lst vs)/\DAll φ H ds vs:=by
 cases d with
 | lst es=>cases h;obtain⟨p,vs,rfl,_,hp,ha⟩:=i;exact⟨p,vs,rfl,hp,ha⟩
 | mr k =>
  obtain⟨p,hp,rfl⟩:=i
  have e:=lvM_eq (show lvM μ k=some ds from h)
  obtain⟨q,e1,vs,hv,ha⟩:=M.at_ k _ e
  rw[hp]at e1;cases e1
  exact⟨p,vs,rfl,hv,ha⟩
 | _=>cases h
theorem lv_stay {φ φ':List Addr}{H H':Hp}{μ μ':MS}{d:D}{p:Addr}{ds:List D}(M:MSis φ H μ)(i:DIs φ H d (.ref p))(h:lv μ d=some ds)(f:Fr φ H φ' H')(M':MSis φ' H' μ')(c:lc d ds μ'):∃ vs,H' p=some (.lst vs)/\DAll φ' H' ds vs:=by
 cases d with
 | lst es=>cases h;obtain⟨p',vs,e,n,hp,ha⟩:=i;cases e;exact⟨vs,f.keep _ _ n hp,ha.mono f⟩
 | mr k =>
  obtain⟨p',hp,e⟩:=i
  cases e
  obtain⟨q,e1,vs,hv,ha⟩:=M'.at_ k _ (lvM_eq c)
  rw[f.get hp]at e1;cases e1
  exact⟨vs,hv,ha⟩
 | _=>cases h
abbrev DK:=D->MS->Prop
abbrev De:=DE->MS->DK->Prop
abbrev DA:=DE->MS->(List D->MS->Prop)->Prop
abbrev Dt:=DE->MS->(Bool->MS->Prop)->Prop
def Lif (φ:List Addr)(H:Hp)(K:DK)(Q:VK):Prop:=∀ d μ' φ' v H',K d μ'->Fr φ H φ' H'->MSis φ' H' μ'->DIs φ' H' d v->Q v H'
theorem Lif.mono {φ φ1:List Addr}{H H1:Hp}{K:DK}{Q:VK}(h:Lif φ H K Q)(f:Fr φ H φ1 H1):Lif φ1 H1 K Q:=fun d μ' φ' v H' k g m i=>h d μ' φ' v H' k (f.trans g) m i
def tD (w:De):TE:=fun σ H Q=>∃ φ ρ μ K,DEnv φ H ρ σ/\MSis φ H μ/\w ρ μ K/\Lif φ H K Q
def tDA (w:DA):TA:=fun σ H Q=>∃ φ ρ μ K,DEnv φ H ρ σ/\MSis φ H μ/\w ρ μ K/\∀ ds μ' φ' vs H',K ds μ'->Fr φ H φ' H'->MSis φ' H' μ'->DAll φ' H' ds vs->Q vs H'
def tDT (w:Dt):TT:=fun σ H Q=>∃ φ ρ μ K,DEnv φ H ρ σ/\MSis φ H μ/\w ρ μ K/\∀ b μ' φ' H',K b μ'->Fr φ H φ' H'->MSis φ' H' μ'->Q b H'
section
variable {X:Cx}{a b e:Expr}{pos:Pos}
abbrev PD (X:Cx)(e:Expr)(w:De):Prop:=PE X e (tD w)
def dVar (i:Nat):De:=fun ρ μ K=>match ρ[i]? with | some (some d)=>K d μ | _=>False
def dC (d:D):De:=fun _ μ K=>K d μ
theorem dv (i:Nat){x:Str}{pos:Pos}(hN:X.N[i]?=some x:=by rfl)(hv:Vis X.env.scope x:=by first | exact Or.inl rfl | exact Or.inr (Or.inl rfl) | exact Or.inr (Or.inr rfl))(hd:(x==("__debug__" : Str))=false:=by decide)
 (hcd:(x==("__classdict__" : Str))=false:=by decide):PD X (.Name x pos) (dVar i):=(pe_var (i:=i) hN hv hd hcd).imp fun σ H Q q=>by
 obtain⟨φ,ρ,μ,K,E,M,w,L⟩:=q
 unfold dVar at w
 split at w
 ·rename_i d hd
  obtain⟨v,e,r⟩:=E.2 i d hd
  exact⟨v,e,L d μ φ v H w (.refl _ _) M r⟩
 ·exact w.elim
theorem d_int {i j pos}:PD X (.Constant (.int i) j pos) (dC (.int i)):=pe_int.imp fun σ H Q hq4=>by obtain⟨φ,ρ,μ,K,E,M,w,L⟩:=hq4;exact L _ _ φ _ H w (.refl _ _) M rfl
theorem d_bl {b j pos}:PD X (.Constant (.bool b) j pos) (dC (.bl b)):=pe_bl.imp fun σ H Q hq5=>by obtain⟨φ,ρ,μ,K,E,M,w,L⟩:=hq5;exact L _ _ φ _ H w (.refl _ _) M rfl
theorem d_non {j pos}:PD X (.Constant .none j pos) (dC .non):=pe_non.imp fun σ H Q hq6=>by obtain⟨φ,ρ,μ,K,E,M,w,L⟩:=hq6;exact L _ _ φ _ H w (.refl _ _) M rfl
theorem d_str {x j pos}:PD X (.Constant (.str x) j pos) (dC (.str x)):=pe_str.imp fun σ H Q hq0=>by obtain⟨φ,ρ,μ,K,E,M,w,L⟩:=hq0;exact L _ _ φ _ H w (.refl _ _) M rfl
abbrev DOp:=D->D->MS->DK->Prop
def dOp (ro:DOp)(wa wb:De):De:=fun ρ μ K=>wa ρ μ fun x μ1=>wb ρ μ1 fun y μ2=>ro x y μ2 K
def SoOp (r:R2)(ro:DOp):Prop:=∀ φ H x y dx dy μ K Q,MSis φ H μ->DIs φ H dx x->DIs φ H dy y->ro dx dy μ K->Lif φ H K Q->r x y H Q
theorem tD_op {r:R2}{ro:DOp}{wa wb:De}(so:SoOp r ro){σ:St}{H:Hp}{Q:VK}(h:tD (dOp ro wa wb) σ H Q):tOp r (tD wa) (tD wb) σ H Q:=by
 obtain⟨φ,ρ,μ,K,E,M,w,L⟩:=h
 refine⟨φ,ρ,μ,_,E,M,w,fun d1 μ1 φ1 v1 H1 k1 f1 M1 i1=>?_⟩
 refine⟨φ1,ρ,μ1,_,E.mono f1,M1,k1,fun d2 μ2 φ2 v2 H2 k2 f2 M2 i2=>?_⟩
 exact so φ2 H2 v1 v2 d1 d2 μ2 K Q M2 (i1.mono f2) i2 k2 (L.mono (f1.trans f2))
theorem d_op {op:Operator}{r:R2}{ro:DOp}{wa wb:De}(h:OpR X (binaryOp op) r)(so:SoOp r ro)(ha:PD X a wa)(hb:PD X b wb):PD X (.BinOp a op b pos) (dOp ro wa wb):=(pe_op h ha hb).imp fun σ H Q q=>tD_op so q
theorem d_cmp {op:CmpOp}{r:R2}{ro:DOp}{wa wb:De}(h:OpR X (compareOp op) r)(so:SoOp r ro)(ha:PD X a wa)(hb:PD X b wb)(hm:behindInMarks op b=false):PD X (.Compare a [op] [b] pos) (dOp ro wa wb):=(pe_cmpR h ha hb hm).imp fun σ H Q q=>tD_op so q
theorem d_ix {r:R2}{ro:DOp}{wa wb:De}(h:IxR X r)(so:SoOp r ro)(ha:PD X a wa)(hb:PD X b wb)(hs:PlainIx b):PD X (.Subscript a b pos) (dOp ro wa wb):=(pe_ix h ha hb hs).imp fun σ H Q q=>tD_op so q
def dTst (w:De):Dt:=fun ρ μ K=>w ρ μ fun d μ'=>match d with | .bl b=>K b μ' | _=>False
theorem tD_bool {w:De}{σ:St}{H:Hp}{Q:Bool->Hp->Prop}(h:tDT (dTst w) σ H Q):cB (tD w) σ H Q:=by
 obtain⟨φ,ρ,μ,K,E,M,k,L⟩:=h
 refine⟨φ,ρ,μ,_,E,M,k,fun d μ' φ' v H' k' f M' i=>?_⟩
 cases d with
 | bl b=>cases(show v=_ from i);exact L b μ' φ' H' k' f M'
 | _=>exact k'.elim
theorem d_testV {w:De}(h:PD X e w)(he:∀ whole,isTrue e X.env whole=(do let v <- whole;standAt e.pos;holding [v] (truthy v)):=by intro _;rfl):PT X e (tDT (dTst w)):=(pt_valC h he).imp fun σ H Q q=>tD_bool q
theorem d_testC {op:CmpOp}{r:R2}{ro:DOp}{wa wb:De}(h:OpR X (compareOp op) r)(so:SoOp r ro)(ha:PD X a wa)(hb:PD X b wb)(hm:behindInMarks op b=false):PT X (.Compare a [op] [b] pos) (tDT (dTst (dOp ro wa wb))) :=
 (pt_cmpC h ha hb hm).imp fun σ H Q q=>by
  obtain⟨φ,ρ,μ,K,E,M,k,L⟩:=q
  refine tD_op so ⟨φ,ρ,μ,_,E,M,k,fun d μ' φ' v H' k' f M' i=>?_⟩
  cases d with
  | bl b=>cases(show v=_ from i);exact L b μ' φ' H' k' f M'
  | _=>exact k'.elim
def dIsN (neg:Bool)(w:De):De:=fun ρ μ K=>w ρ μ fun d μ'=>match d with | .non=>K (.bl (!neg)) μ' | _=>K (.bl neg) μ'
theorem isN_of {φ:List Addr}{H:Hp}{d:D}{v:V}(i:DIs φ H d v):decide (v=V.non)=(match d with | .non=>true | _=>false):=by
 cases d with
 | non=>cases(show v=_ from i);rfl
 | bl _=>cases(show v=_ from i);rfl
 | int _=>cases(show v=_ from i);rfl
 | str _=>cases(show v=_ from i);rfl
 | lst _=>obtain⟨p,vs,rfl,_⟩:=i;rfl
 | tup _=>obtain⟨p,vs,rfl,_⟩:=i;rfl
 | dic _ _=>obtain⟨p,kvs,vs,rfl,_⟩:=i;rfl
 | mr _=>obtain⟨p,_,rfl⟩:=i;rfl
 | obj _ _ _=>obtain⟨p,dx,fs,vs,rfl,_⟩:=i;rfl
 | fdc _ _=>obtain⟨p,dx,fs,vs,rfl,_⟩:=i;rfl
 | fn _=>cases(show v=_ from i);rfl
theorem tD_isN {w:De}{σ:St}{H:Hp}{Q:VK}(h:tD (dIsN false w) σ H Q):tIsN (tD w) σ H Q:=by
 obtain⟨φ,ρ,μ,K,E,M,k,L⟩:=h
 refine⟨φ,ρ,μ,_,E,M,k,fun d μ' φ' v H' k' f M' i=>?_⟩
 show Q (.bl _) H'
 rw[isN_of i]
 cases d <;> exact L _ μ' φ' _ H' k' f M' rfl
end
end L2
namespace L2
open PySem PySem.Spec PyProof.Rows
section
variable {X:Cx}{a b e:Expr}{es:List Expr}{pos:Pos}
theorem PA.imp {es:List Expr}{t t':TA}(h:PA X es t)(hi:∀ σ H Q,t' σ H Q->t σ H Q):PA X es t':=fun pos pins s σ H Q I q=>h pos pins s σ H Q I (hi σ H Q q)
theorem PSs.imp {st:List Stmt}{t t':TS}(h:PSs X st t)(hi:∀ D σ H,t' D σ H->t D σ H):PSs X st t':=fun pins s σ H D I q=>h pins s σ H D I (hi D σ H q)
def dNil:DA:=fun _ μ K=>K [] μ
def dCons (wa:De)(wr:DA):DA:=fun ρ μ K=>wa ρ μ fun x μ1=>wr ρ μ1 fun xs μ2=>K (x::xs) μ2
abbrev PDA (X:Cx)(es:List Expr)(w:DA):Prop:=PA X es (tDA w)
theorem da_nil:PDA X [] dNil:=pa_nil.imp fun σ H Q hq1=>by obtain⟨φ,ρ,μ,K,E,M,w,L⟩:=hq1;exact L [] μ φ [] H w (.refl _ _) M rfl
theorem da_cons {wa:De}{wr:DA}(ha:PD X e wa)(hr:PDA X es wr)(hs:starEach (e::es) X.env=(false,eval e X.env)::starEach es X.env:=by rfl):PDA X (e::es) (dCons wa wr):=(pa_cons ha hr hs).imp fun σ H Q q=>by
 obtain⟨φ,ρ,μ,K,E,M,w,L⟩:=q
 refine⟨φ,ρ,μ,_,E,M,w,fun d1 μ1 φ1 v1 H1 k1 f1 M1 i1=>?_⟩
 refine⟨φ1,ρ,μ1,_,E.mono f1,M1,k1,fun ds μ2 φ2 vs H2 k2 f2 M2 i2=>?_⟩
 exact L _ μ2 φ2 _ H2 k2 (f1.trans f2) M2 ⟨v1,vs,rfl,i1.mono f2,i2⟩
theorem al_lst {φ:List Addr}{H:Hp}{μ:MS}{K:DK}{Q:VK}{ds:List D}{vs:List V}{p:Addr}(L:Lif φ H K Q)(M:MSis φ H μ)(h:DAll φ H ds vs)(k:K (.lst ds) μ)(hp:H p=none):Q (.ref p) (upd H p (.lst vs)) :=
 L _ μ φ _ _ k (.new hp) (M.same (Same.upd hp)) ⟨p,vs,rfl,M.fresh hp,upd_same,h.mono (.new hp)⟩
theorem al_tup {φ:List Addr}{H:Hp}{μ:MS}{K:DK}{Q:VK}{ds:List D}{vs:List V}{p:Addr}(L:Lif φ H K Q)(M:MSis φ H μ)(h:DAll φ H ds vs)(k:K (.tup ds) μ)(hp:H p=none):Q (.ref p) (upd H p (.tup vs)) :=
 L _ μ φ _ _ k (.new hp) (M.same (Same.upd hp)) ⟨p,vs,rfl,M.fresh hp,upd_same,h.mono (.new hp)⟩
theorem al_mr {φ:List Addr}{H:Hp}{μ:MS}{K:DK}{Q:VK}{ds:List D}{vs:List V}{p:Addr}(L:Lif φ H K Q)(M:MSis φ H μ)(h:DAll φ H ds vs)(k:K (.mr μ.length) (μ++[.lst ds]))(hp:H p=none):Q (.ref p) (upd H p (.lst vs)):=by
 have f:Fr φ H (φ++[p]) (upd H p (.lst vs)):=⟨(Fr.snoc (φ:=φ) hp).ext,fun c u _ e=>Same.upd hp _ _ e,fun c e=>(Same.upd hp).free e⟩
 obtain⟨M',_⟩:=M.snoc (m:=.lst ds) (o:=.lst vs) hp ⟨vs,upd_same,h.mono f⟩
 exact L _ _ _ _ _ k f M' ⟨p,by rw[gxG (by rw[M.len];exact aa _),M.len,br];rfl,rfl⟩
def nL (m:Bool)(ds:List D)(μ:MS)(K:DK):Prop:=match m with | false=>K (.lst ds) μ | true=>K (.mr μ.length) (μ++[.lst ds])
theorem al_n {m:Bool}{φ:List Addr}{H:Hp}{μ:MS}{K:DK}{Q:VK}{ds:List D}{vs:List V}{p:Addr}(L:Lif φ H K Q)(M:MSis φ H μ)(h:DAll φ H ds vs)(k:nL m ds μ K)(hp:H p=none):Q (.ref p) (upd H p (.lst vs)):=by
 cases m with
 | false=>exact al_lst L M h k hp
 | true=>exact al_mr L M h k hp
def dLst (m:Bool)(w:DA):De:=fun ρ μ K=>w ρ μ fun ds μ1=>ds.length<=sizeLine/\nL m ds μ1 K
def dTup (w:DA):De:=fun ρ μ K=>w ρ μ fun ds μ1=>ds.length<=sizeLine/\K (.tup ds) μ1
theorem d_lst {w:DA}(m:Bool)(h:PDA X es w):PD X (.List es pos) (dLst m w):=(pe_lst h).imp fun σ H Q ⟨φ,ρ,μ,K,E,M,w,L⟩ =>
 ⟨φ,ρ,μ,_,E,M,w,fun ds μ1 φ1 vs H1 k1 f1 M1 i1=>⟨by rw[i1.len];exact k1.1,fun p hp=>al_n (L.mono f1) M1 i1 k1.2 hp⟩⟩
theorem d_tup {w:DA}{x1}(h:PDA X es w):PD X (.Tuple es x1 pos) (dTup w):=(pe_tup h).imp fun σ H Q ⟨φ,ρ,μ,K,E,M,w,L⟩ =>
 ⟨φ,ρ,μ,_,E,M,w,fun ds μ1 φ1 vs H1 k1 f1 M1 i1=>⟨by rw[i1.len];exact k1.1,fun p hp=>al_tup (L.mono f1) M1 i1 k1.2 hp⟩⟩
abbrev DSp:=List D->MS->DK->Prop
def spD (f:DSp):Sp:=fun vs H Q _=>∃ φ ds μ K,DAll φ H ds vs/\MSis φ H μ/\f ds μ K/\Lif φ H K Q
def dCall (f:DSp)(w:DA):De:=fun ρ μ K=>w ρ μ fun ds μ1=>f ds μ1 K
theorem d_call {f:DSp}{w:DA}{x:Str}{p:Pos}{k:Nat}{ps:List Str}(C:Cal X.prog X.w X.K X.mg X.base x k ps (spD f))(hr:Room k X.A)(hg:Gl X x)(ha:PDA X (e::es) w)
 (hdb:(x==("__debug__" : Str))=false:=by decide) (he:starEach (e::es) X.env=(false,eval e X.env)::starEach es X.env:=by rfl) (hpl:(backTo pos (starEach es X.env)).any (·.1)=false:=by rfl) :
 PD X (.Call (.Name x p) (e::es) [] pos) (dCall f w):=(pe_callC C hr hg ha hdb he hpl).imp fun σ H Q ⟨φ,ρ,μ,K,E,M,w,L⟩ =>
 ⟨φ,ρ,μ,_,E,M,w,fun ds μ1 φ1 vs H1 k1 f1 M1 i1=>by show spD f (vs++[]) H1 Q E0;rw[aR];exact⟨φ1,ds,μ1,K,i1,M1,k1,L.mono f1⟩⟩
def SoCall (r:List V->Hp->VK->Prop)(f:DSp):Prop:=∀ φ H vs ds μ K Q,MSis φ H μ->DAll φ H ds vs->f ds μ K->Lif φ H K Q->r vs H Q
theorem tD_cb {r:List V->Hp->VK->Prop}{f:DSp}{w:DA}(so:SoCall r f){σ:St}{H:Hp}{Q:VK}(h:tD (dCall f w) σ H Q):tCB r (tDA w) σ H Q:=by
 obtain⟨φ,ρ,μ,K,E,M,w,L⟩:=h
 exact⟨φ,ρ,μ,_,E,M,w,fun ds μ1 φ1 vs H1 k1 f1 M1 i1=>so φ1 H1 vs ds μ1 K Q M1 i1 k1 (L.mono f1)⟩
theorem d_blt {r:List V->Hp->VK->Prop}{f:DSp}{w:DA}{id:String}{x:Str}{p:Pos}(hc:CallR X (.builtin id) r)(so:SoCall r f)(hg:Gl X x)(hm:X.mg x=none)(hv:bootBuiltins x=some (.builtin id))(ha:PDA X (e::es) w)(hn:x ≠ "__name__":=by decide)(hdb:(x==("__debug__" : Str))=false:=by decide)
 (he:starEach (e::es) X.env=(false,eval e X.env)::starEach es X.env:=by rfl) (hpl:(backTo pos (starEach es X.env)).any (·.1)=false:=by rfl):PD X (.Call (.Name x p) (e::es) [] pos) (dCall f w) :=
 (pe_callB hc hg hm hv ha hn hdb he hpl).imp fun σ H Q q=>tD_cb so q
theorem d_ty {r:List V->Hp->VK->Prop}{f:DSp}{w:DA}{T:String}{x:Str}{p:Pos}(hc:CallR X (.type T) r)(so:SoCall r f)(hg:Gl X x)(hm:X.mg x=none)(hv:bootBuiltins x=some (.type T))(ha:PDA X (e::es) w)(hn:x ≠ "__name__":=by decide)(hdb:(x==("__debug__" : Str))=false:=by decide)
 (he:starEach (e::es) X.env=(false,eval e X.env)::starEach es X.env:=by rfl) (hpl:(backTo pos (starEach es X.env)).any (·.1)=false:=by rfl):PD X (.Call (.Name x p) (e::es) [] pos) (dCall f w) :=
 (pe_callTy hc hg hm hv ha hn hdb he hpl).imp fun σ H Q q=>tD_cb so q
abbrev DMt:=D->List D->MS->DK->Prop
def SoMt (K:PySem.W.Frag)(T:String)(r:V->List V->Hp->VK->Prop)(f:DMt):Prop:=∀ φ H x vs d ds μ K' Q,MSis φ H μ->DIs φ H d x->DAll φ H ds vs->f d ds μ K'->Lif φ H K' Q->r x vs H Q
def TyD (T:String)(μ:MS):D->Prop
 | .str _=>T = "str"
 | .lst _=>T = "list"
 | .dic _ _=>T = "dict"
 | .mr k=>match μ[k]? with | some (.lst _)=>T = "list" | some (.dic _ _)=>T = "dict" | _=>False
 | _=>False
theorem TyD.is {Kf:PySem.W.Frag}{T:String}{φ:List Addr}{H:Hp}{μ:MS}{d:D}{v:V}(M:MSis φ H μ)(i:DIs φ H d v)(h:TyD T μ d):tyV Kf T v H:=by
 cases d with
 | str z=>cases(show v=_ from i);exact h
 | lst ds=>obtain⟨p,vs,rfl,_,hp,_⟩:=i;exact .inl ⟨h,vs,SqL.of hp⟩
 | dic ks ds=>obtain⟨p,kvs,vs,rfl,_,hp,_⟩:=i;exact .inr (.inr (.inl ⟨h,.inl ⟨kvs,hp⟩⟩))
 | mr k =>
  obtain⟨p,hp,rfl⟩:=i
  unfold TyD at h
  dsimp only at h
  cases e:μ[k]? with
  | none=>rw[e]at h;exact h.elim
  | some m =>
   obtain⟨q,e1,e2⟩:=M.at_ k m e
   rw[hp]at e1;cases e1
   rw[e]at h
   cases m with
   | box=>exact h.elim
   | lst ds=>obtain⟨vs,hv,_⟩:=e2;exact .inl ⟨h,vs,SqL.of hv⟩
   | dic ks ds=>obtain⟨kvs,vs,hv,_⟩:=e2;exact .inr (.inr (.inl ⟨h,.inl ⟨kvs,hv⟩⟩))
   | _=>exact h.elim
 | _=>exact(show False from h).elim
def dMt (T:String)(f:DMt)(wo:De)(w:DA):De:=fun ρ μ K=>wo ρ μ fun x μ1=>TyD T μ1 x/\w ρ μ1 fun ds μ2=>f x ds μ2 K
theorem d_mt {o:Expr}{name:Str}{apos cpos:Pos}{T id:String}{r:V->List V->Hp->VK->Prop}{f:DMt}{wo:De}{w:DA}(pa:PlainAttrs T)(slot:Slot T name id)(hty:typeOf (.builtin id)=pure (.type "method_descriptor"))(hm:MtR X id r)(so:SoMt X.K T r f)(ho:PD X o wo)(ha:PDA X (e::es) w)
 (hbase:attributeBase o name X.env (eval o X.env)=eval o X.env:=by rfl)
 (hfew:((backTo cpos (starEach (e::es) X.env)).all (fun x=>!x.1)&&(backToKw cpos (keywordEach [] X.env)).all (fun x=>x.1.isSome)
   && decide ((e::es).length+([]:List Keyword).length+(if([]:List Keyword).isEmpty then 0 else 1)<30))=true:=by rfl)
 (hline:(apos.endLine==cpos.line)=true:=by rfl) (hs:starEach (e::es) X.env=(false,eval e X.env)::starEach es X.env:=by rfl) (hplain:(backTo cpos (starEach es X.env)).any (·.1)=false:=by rfl) :
 PD X (.Call (.Attribute o name apos) (e::es) [] cpos) (dMt T f wo w):=(pe_bm pa slot hty hm ho ha hbase hfew hline hs hplain).imp fun σ H Q q=>by
 obtain⟨φ,ρ,μ,K,E,M,w,L⟩:=q
 refine⟨φ,ρ,μ,_,E,M,w,fun d1 μ1 φ1 v1 H1 k1 f1 M1 i1=>⟨TyD.is M1 i1 k1.1,?_⟩⟩
 exact⟨φ1,ρ,μ1,_,E.mono f1,M1,k1.2,fun ds μ2 φ2 vs H2 k2 f2 M2 i2=>so φ2 H2 v1 vs d1 ds μ2 K Q M2 (i1.mono f2) i2 k2 (L.mono (f1.trans f2))⟩
theorem d_mt0 {o:Expr}{name:Str}{apos cpos:Pos}{T id:String}{r:V->List V->Hp->VK->Prop}{f:DMt}{wo:De}(pa:PlainAttrs T)(slot:Slot T name id)(hty:typeOf (.builtin id)=pure (.type "method_descriptor"))(hm:MtR X id r)(so:SoMt X.K T r f)(ho:PD X o wo)
 (hbase:attributeBase o name X.env (eval o X.env)=eval o X.env:=by rfl) (hline:(apos.endLine==cpos.line)=true:=by rfl):PD X (.Call (.Attribute o name apos) [] [] cpos) (dMt T f wo dNil):=(pe_bm0 pa slot hty hm ho hbase hline).imp fun σ H Q q=>by
 obtain⟨φ,ρ,μ,K,E,M,w,L⟩:=q
 exact⟨φ,ρ,μ,_,E,M,w,fun d1 μ1 φ1 v1 H1 k1 f1 M1 i1=>⟨TyD.is M1 i1 k1.1,so φ1 H1 v1 [] d1 [] μ1 K Q M1 i1 rfl k1.2 (L.mono f1)⟩⟩
def dAnd (wa wb:De):De:=fun ρ μ K=>wa ρ μ fun x μ1=>match x with | .bl c=>if c=true then wb ρ μ1 K else K (.bl false) μ1 | _=>False
def dNot (wa:De):De:=fun ρ μ K=>wa ρ μ fun x μ1=>match x with | .bl c=>K (.bl (!c)) μ1 | _=>False
theorem d_not {wa:De}(ha:PD X a wa):PD X (.UnaryOp .Not a pos) (dNot wa):=(pe_notC ha).imp fun σ H Q q=>by
 obtain⟨φ,ρ,μ,K,E,M,w,L⟩:=q
 refine⟨φ,ρ,μ,_,E,M,w,fun d1 μ1 φ1 v1 H1 k1 f1 M1 i1=>?_⟩
 cases d1 with
 | bl c=>cases(show v1=_ from i1);exact L _ μ1 φ1 _ H1 k1 f1 M1 rfl
 | _=>exact k1.elim
def dNeg (wa:De):De:=fun ρ μ K=>wa ρ μ fun x μ1=>match x with | .int i=>K (.int (-i)) μ1 | _=>False
theorem d_neg {wa:De}(ha:PD X a wa):PD X (.UnaryOp .USub a pos) (dNeg wa):=(pe_un un_neg ha).imp fun σ H Q q=>by
 obtain⟨φ,ρ,μ,K,E,M,w,L⟩:=q
 refine⟨φ,ρ,μ,_,E,M,w,fun d1 μ1 φ1 v1 H1 k1 f1 M1 i1=>?_⟩
 cases d1 with
 | int c=>cases(show v1=_ from i1);exact⟨c,rfl,L _ μ1 φ1 _ H1 k1 f1 M1 rfl⟩
 | _=>exact k1.elim
def dtAnd (t u:Dt):Dt:=fun ρ μ K=>t ρ μ fun c μ1=>if c=true then u ρ μ1 K else K false μ1
def dtOr (t u:Dt):Dt:=fun ρ μ K=>t ρ μ fun c μ1=>if c=true then K true μ1 else u ρ μ1 K
def dtNot (t:Dt):Dt:=fun ρ μ K=>t ρ μ fun c μ1=>K (!c) μ1
abbrev PDT (X:Cx)(e:Expr)(w:Dt):Prop:=PT X e (tDT w)
theorem tDT_and {t u:Dt}{σ:St}{H:Hp}{Q:Bool->Hp->Prop}(h:tDT (dtAnd t u) σ H Q):tAnd (tDT t) (tDT u) σ H Q:=by
 obtain⟨φ,ρ,μ,K,E,M,w,L⟩:=h
 refine⟨φ,ρ,μ,_,E,M,w,fun b μ1 φ1 H1 k1 f1 M1=>?_⟩
 cases b with
 | true=>exact⟨φ1,ρ,μ1,_,E.mono f1,M1,k1,fun b μ2 φ2 H2 k2 f2 M2=>L b μ2 φ2 H2 k2 (f1.trans f2) M2⟩
 | false=>exact L _ μ1 φ1 H1 k1 f1 M1
theorem tDT_or {t u:Dt}{σ:St}{H:Hp}{Q:Bool->Hp->Prop}(h:tDT (dtOr t u) σ H Q):tOr (tDT t) (tDT u) σ H Q:=by
 obtain⟨φ,ρ,μ,K,E,M,w,L⟩:=h
 refine⟨φ,ρ,μ,_,E,M,w,fun b μ1 φ1 H1 k1 f1 M1=>?_⟩
 cases b with
 | false=>exact⟨φ1,ρ,μ1,_,E.mono f1,M1,k1,fun b μ2 φ2 H2 k2 f2 M2=>L b μ2 φ2 H2 k2 (f1.trans f2) M2⟩
 | true=>exact L _ μ1 φ1 H1 k1 f1 M1
abbrev PDW (X:Cx)(e:Expr)(w:Dt):Prop:=PW X e (tDT w)
theorem PW.imp {e:Expr}{t t':TT}(h:PW X e t)(hi:∀ σ H Q,t' σ H Q->t σ H Q):PW X e t':=fun wh pins s σ H Q I q=>h wh pins s σ H Q I (hi σ H Q q)
theorem t_and1 {t:Dt}(h:PDT X a t):PDW X (.BoolOp .And [a] pos) t:=pw_and1 h
theorem t_or1 {t:Dt}(h:PDT X a t):PDW X (.BoolOp .Or [a] pos) t:=pw_or1 h
theorem t_and {rest:List Expr}{t u:Dt}(ha:PDT X a t)(hb:PDW X (.BoolOp .And (b::rest) pos) u):PDW X (.BoolOp .And (a::b::rest) pos) (dtAnd t u):=(pw_and ha hb).imp fun σ H Q q=>tDT_and q
theorem t_or {rest:List Expr}{t u:Dt}(ha:PDT X a t)(hb:PDW X (.BoolOp .Or (b::rest) pos) u):PDW X (.BoolOp .Or (a::b::rest) pos) (dtOr t u):=(pw_or ha hb).imp fun σ H Q q=>tDT_or q
theorem t_not {t:Dt}(h:PDT X a t):PDT X (.UnaryOp .Not a pos) (dtNot t):=(pt_not h).imp fun σ H Q q=>by
 obtain⟨φ,ρ,μ,K,E,M,w,L⟩:=q
 exact⟨φ,ρ,μ,_,E,M,w,fun b μ1 φ1 H1 k1 f1 M1=>L _ μ1 φ1 H1 k1 f1 M1⟩
def dIf (t:Dt)(wa wb:De):De:=fun ρ μ K=>t ρ μ fun c μ1=>if c=true then wa ρ μ1 K else wb ρ μ1 K
theorem d_if {c:Expr}{t:Dt}{wa wb:De}(hc:PDT X c t)(ha:PD X a wa)(hb:PD X b wb):PD X (.IfExp c a b pos) (dIf t wa wb):=(pe_ifExp hc ha hb).imp fun σ H Q q=>by
 obtain⟨φ,ρ,μ,K,E,M,w,L⟩:=q
 refine⟨φ,ρ,μ,_,E,M,w,fun b μ1 φ1 H1 k1 f1 M1=>?_⟩
 cases b with
 | true=>exact⟨φ1,ρ,μ1,_,E.mono f1,M1,k1,L.mono f1⟩
 | false=>exact⟨φ1,ρ,μ1,_,E.mono f1,M1,k1,L.mono f1⟩
theorem tB_of {w:De}{t:TE}{σ:St}{H:Hp}{Q:Bool->Hp->Prop}(hi:∀ Q,tD w σ H Q->t σ H Q)(h:tDT (dTst w) σ H Q):tB t σ H Q:=by
 obtain⟨φ,ρ,μ,K,E,M,k,L⟩:=h
 refine hi _ ⟨φ,ρ,μ,_,E,M,k,fun d μ' φ' v H' k' f M' i=>?_⟩
 cases d with
 | bl b=>cases(show v=_ from i);exact⟨b,rfl,L b μ' φ' H' k' f M'⟩
 | _=>exact k'.elim
theorem t_isN {j pos'}{w:De}(h:PD X a w):PDT X (.Compare a [.Is] [.Constant .none j pos'] pos) (dTst (dIsN false w)):=(pt_cmp (pc_isN h)).imp fun σ H Q q=>tB_of (fun Q q=>tD_isN q) q
end
structure DN where
 nx:DE->MS->Prop
 rt:DK
 bk:DE->MS->Prop:=fun _ _=>False
 ct:DE->MS->Prop:=fun _ _=>False
abbrev Ds:=DN->DE->MS->Prop
def LiS (φ:List Addr)(H:Hp)(k:DE->MS->Prop)(q:St->Hp->Prop):Prop:=∀ ρ' μ' φ' σ' H',k ρ' μ'->Fr φ H φ' H'->DEnv φ' H' ρ' σ'->MSis φ' H' μ'->q σ' H'
theorem LiS.mono {φ φ1:List Addr}{H H1:Hp}{k:DE->MS->Prop}{q:St->Hp->Prop}(h:LiS φ H k q)(f:Fr φ H φ1 H1):LiS φ1 H1 k q:=fun ρ' μ' φ' σ' H' a b c d=>h ρ' μ' φ' σ' H' a (f.trans b) c d
structure LiN (φ:List Addr)(H:Hp)(N:DN)(E:Ends):Prop where
 nx:LiS φ H N.nx E.nx
 rt:Lif φ H N.rt E.rt
 bk:LiS φ H N.bk E.bk
 ct:LiS φ H N.ct E.ct
theorem LiN.mono {φ φ1:List Addr}{H H1:Hp}{N:DN}{E:Ends}(h:LiN φ H N E)(f:Fr φ H φ1 H1):LiN φ1 H1 N E:=⟨h.nx.mono f,h.rt.mono f,h.bk.mono f,h.ct.mono f⟩
def tDS (w:Ds):TS:=fun E σ H=>∃ φ ρ μ N,DEnv φ H ρ σ/\MSis φ H μ/\w N ρ μ/\LiN φ H N E
abbrev PDS (X:Cx)(st:Stmt)(w:Ds):Prop:=PS X st (tDS w)
abbrev PDB (X:Cx)(st:List Stmt)(w:Ds):Prop:=PSs X st (tDS w)
section
variable {X:Cx}{a b e:Expr}{es:List Expr}{pos:Pos}{st:Stmt}{rest:List Stmt}
def dNx:Ds:=fun N ρ μ=>N.nx ρ μ
def dSeq (t u:Ds):Ds:=fun N ρ μ=>t { N with nx:=fun ρ' μ'=>u N ρ' μ'} ρ μ
def dCut (t u:Ds):Ds:=fun N ρ μ=>∃ M:DE->MS->Prop,t { N with nx:=M} ρ μ/\∀ ρ' μ',M ρ' μ'->u N ρ' μ'
theorem b_nil:PDB X [] dNx:=pss_nil.imp fun E σ H hq2=>by obtain⟨φ,ρ,μ,N,A,M,w,L⟩:=hq2;exact L.nx ρ μ φ σ H w (.refl _ _) A M
theorem b_cons {t u:Ds}(h1:PDS X st t)(h2:PDB X rest u):PDB X (st::rest) (dSeq t u):=(pss_cons h1 h2).imp fun E σ H ⟨φ,ρ,μ,N,A,M,w,L⟩ =>
 ⟨φ,ρ,μ,_,A,M,w,⟨fun ρ' μ' φ' σ' H' k f A' M'=>⟨φ',ρ',μ',N,A',M',k,L.mono f⟩,L.rt,L.bk,L.ct⟩⟩
theorem b_cut {t u:Ds}(h1:PDS X st t)(h2:PDB X rest u):PDB X (st::rest) (dCut t u):=(pss_cons h1 h2).imp fun E σ H ⟨φ,ρ,μ,N,A,M,⟨P,w1,w2⟩,L⟩ =>
 ⟨φ,ρ,μ,_,A,M,w1,⟨fun ρ' μ' φ' σ' H' k f A' M'=>⟨φ',ρ',μ',N,A',M',w2 ρ' μ' k,L.mono f⟩,L.rt,L.bk,L.ct⟩⟩
theorem b_one {t:Ds}(h:PDS X st t):PDB X [st] t:=pss_one h
def dExpr (w:De):Ds:=fun N ρ μ=>w ρ μ fun _ μ'=>N.nx ρ μ'
theorem s_expr {w:De}(h:PD X e w)(hs:swapsWith e none pos.line X.env=pure false:=by rfl):PDS X (.Expr e pos) (dExpr w):=(ps_expr h hs).imp fun E σ H hq3=>by obtain⟨φ,ρ,μ,N,A,M,w,L⟩:=hq3;exact⟨φ,ρ,μ,_,A,M,w,fun d μ1 φ1 v1 H1 k1 f1 M1 i1=>L.nx ρ μ1 φ1 σ H1 k1 f1 (A.mono f1) M1⟩
def dRet (w:De):Ds:=fun N ρ μ=>w ρ μ N.rt
theorem s_ret {w:De}(h:PD X e w):PDS X (.Return (some e) pos) (dRet w):=(ps_ret h).imp fun E σ H hq4=>by obtain⟨φ,ρ,μ,N,A,M,w,L⟩:=hq4;exact⟨φ,ρ,μ,_,A,M,w,L.rt⟩
def dIfS (c:Dt)(t u:Ds):Ds:=fun N ρ μ=>c ρ μ fun b μ1=>if b=true then t N ρ μ1 else u N ρ μ1
theorem s_if {c:Expr}{body orelse:List Stmt}{t:Dt}{u v:Ds}(hc:PDT X c t)(h1:PDB X body u)(h2:PDB X orelse v):PDS X (.If c body orelse pos) (dIfS t u v):=(ps_if hc h1 h2).imp fun E σ H ⟨φ,ρ,μ,N,A,M,w,L⟩ =>
 ⟨φ,ρ,μ,_,A,M,w,fun b μ1 φ1 H1 k1 f1 M1=>by
  cases b with
  | true=>exact⟨φ1,ρ,μ1,N,A.mono f1,M1,k1,L.mono f1⟩
  | false=>exact⟨φ1,ρ,μ1,N,A.mono f1,M1,k1,L.mono f1⟩⟩
def dSet (i:Nat)(w:De):Ds:=fun N ρ μ=>w ρ μ fun d μ'=>N.nx (ρ.set i (some d)) μ'
theorem s_set {i:Nat}{x:Str}{w:De}{pos':Pos}(hN:X.N.Nodup)(hi:X.N[i]?=some x)(hx:Loc X.env.scope x)(he:PD X e w)(hf:X.fn x=true\/X.env.scope.names.lookup x=some .local:=by first | exact .inl rfl | exact .inr rfl | assumption)
 (hsw:swapsWith e (some (.Name x pos')) pos.line X.env=pure false:=by rfl):PDS X (.Assign [.Name x pos'] e pos) (dSet i w):=(ps_set (pos:=pos) (pos':=pos') hN hi hx he hsw hf).imp fun E σ H ⟨φ,ρ,μ,N,A,M,w,L⟩ =>
 ⟨φ,ρ,μ,_,A,M,w,fun d μ1 φ1 v1 H1 k1 f1 M1 i1=>L.nx _ μ1 φ1 _ H1 k1 f1 ((A.mono f1).set i1 i) M1⟩
abbrev DG:=D->DE->MS->(DE->MS->Prop)->Prop
abbrev DGs:=List D->DE->MS->(DE->MS->Prop)->Prop
def SoG (g:TG)(w:DG)(S:List Nat):Prop:=∀ φ H ρ σ μ d v K,DEnv φ H ρ σ->MSis φ H μ->DIs φ H d v->w d ρ μ K->g v σ H fun σ2 H2=>H2=H/\σ2.length=σ.length/\(∀ i,i∉S->σ2[i]?=σ[i]?)/\∃ ρ2,DEnv φ H ρ2 σ2/\K ρ2 μ
def SoGs (g:TGs)(w:DGs)(S:List Nat):Prop:=∀ φ H ρ σ μ ds vs K,DEnv φ H ρ σ->MSis φ H μ->DAll φ H ds vs->w ds ρ μ K->g vs σ H fun σ2 H2=>H2=H/\σ2.length=σ.length/\(∀ i,i∉S->σ2[i]?=σ[i]?)/\∃ ρ2,DEnv φ H ρ2 σ2/\K ρ2 μ
def MonoG (g:TG):Prop:=∀ v σ H Q Q',(∀ σ' H',Q σ' H'->Q' σ' H')->g v σ H Q->g v σ H Q'
def MonoGs (g:TGs):Prop:=∀ v σ H Q Q',(∀ σ' H',Q σ' H'->Q' σ' H')->g v σ H Q->g v σ H Q'
def dgName (i:Nat):DG:=fun d ρ μ K=>K (ρ.set i (some d)) μ
def dgTup (n:Nat)(t:DGs):DG:=fun d ρ μ K=>match d with | .tup ds=>ds.length=n/\t ds ρ μ K | _=>False
def dgCons (t:DG)(u:DGs):DGs:=fun ds ρ μ K=>match ds with | d::r=>t d ρ μ fun ρ' μ'=>u r ρ' μ' K | []=>False
def dgNil:DGs:=fun ds ρ μ K=>match ds with | []=>K ρ μ | _=>False
theorem so_name (i:Nat):SoG (gName i) (dgName i) [i]:=fun φ H ρ σ μ d v K E M h w=>⟨rfl,aW,fun j hj=>aM (fun z=>hj (by simp[z])),_,E.set h i,w⟩
theorem mo_name (i:Nat):MonoG (gName i):=fun v σ H Q Q' h q=>h _ _ q
theorem so_nil:SoGs cNil dgNil []:=fun φ H ρ σ μ ds vs K E M h w=>by
 cases ds with
 | nil=>cases(show vs=[]from h);exact⟨rfl,rfl,fun _ _=>rfl,ρ,E,w⟩
 | cons d r=>exact w.elim
theorem mo_nil:MonoGs cNil:=fun v σ H Q Q' h q=>by
 cases v with
 | nil=>exact h _ _ q
 | cons x r=>exact q
theorem mo_cons {g:TG}{u:TGs}(h1:MonoG g)(h2:MonoGs u):MonoGs (cCons g u):=fun v σ H Q Q' h q=>by
 cases v with
 | nil=>exact q
 | cons x r=>exact h1 _ _ _ _ _ (fun σ' H' q'=>h2 _ _ _ _ _ h q') q
theorem mo_tup {n:Nat}{u:TGs}(h2:MonoGs u):MonoG (cTup n u):=fun v σ H Q Q' h q=>by
 cases v with
 | ref a=>obtain⟨xs,e,l,q⟩:=q;exact⟨xs,e,l,h2 _ _ _ _ _ h q⟩
 | _=>exact q
theorem so_cons {g:TG}{u:TGs}{w:DG}{y:DGs}{S T:List Nat}(h1:SoG g w S)(m1:MonoG g)(h2:SoGs u y T)(m2:MonoGs u):SoGs (cCons g u) (dgCons w y) (S++T):=fun φ H ρ σ μ ds vs K E M h k=>by
 cases ds with
 | nil=>exact k.elim
 | cons d r =>
  obtain⟨v,vr,rfl,hd,hr⟩:=h
  refine m1 _ _ _ _ _ (fun σ1 H1 hq5=>?_) (h1 φ H ρ σ μ d v _ E M hd k)
  obtain⟨e1,l1,n1,ρ1,E1,k1⟩:=hq5
  subst e1
  refine m2 _ _ _ _ _ (fun σ2 H2 hq6=>?_) (h2 φ H1 ρ1 σ1 μ r vr K E1 M hr k1)
  obtain⟨e2,l2,n2,ρ2,E2,k2⟩:=hq6
  refine⟨e2,l2.trans l1,fun i hi=>?_,ρ2,E2,k2⟩
  rw[n2 i (fun z=>hi (aN _ z)),n1 i (fun z=>hi (bu _ z))]
theorem so_tup {n:Nat}{u:TGs}{y:DGs}{S:List Nat}(h2:SoGs u y S):SoG (cTup n u) (dgTup n y) S:=fun φ H ρ σ μ d v K E M h k=>by
 cases d with
 | tup ds =>
  obtain⟨p,vs,rfl,hn,hp,ha⟩:=h
  exact⟨vs,hp,by rw[ha.len];exact k.1,h2 φ H ρ σ μ ds vs K E M ha k.2⟩
 | _=>exact k.elim
structure Tg (X:Cx)(tg:Expr)(g:TG)(w:DG)(S:List Nat):Prop where
 pg:PG X tg g
 so:SoG g w S
 mo:MonoG g
def dAsg (w:De)(g:DG):Ds:=fun N ρ μ=>w ρ μ fun d μ1=>g d ρ μ1 N.nx
theorem s_asg {tg:Expr}{w:De}{g:TG}{y:DG}{S:List Nat}(he:PD X e w)(hg:Tg X tg g y S)(hs:swapsWithSole [tg] e pos.line X.env=pure false:=by rfl)(hw:swappedStores [tg] e X.env=pure none:=by rfl)
 (h1:(assignEach [tg] X.env).map (·.2)=[assign tg X.env]:=by rfl):PDS X (.Assign [tg] e pos) (dAsg w y):=(ps_asg he hg.pg hs hw h1).imp fun E σ H ⟨φ,ρ,μ,N,A,M,w,L⟩ =>
 ⟨φ,ρ,μ,_,A,M,w,fun d μ1 φ1 v1 H1 k1 f1 M1 i1=>hg.mo _ _ _ _ _ (fun σ2 H2 ⟨e2,_,_,ρ2,E2,k2⟩=>by subst e2;exact L.nx ρ2 μ1 φ1 σ2 _ k2 f1 E2 M1) (hg.so φ1 H1 ρ σ μ1 d v1 _ (A.mono f1) M1 i1 k1)⟩
def SoSet (t:TSet)(w:D->D->D->MS->(MS->Prop)->Prop):Prop:=∀ φ H o i v dO di d μ K Q,MSis φ H μ->DIs φ H dO o->DIs φ H di i->DIs φ H d v->w dO di d μ K->(∀ μ' H',K μ'->Fr φ H φ H'->MSis φ H' μ'->Q H')->t o i v H Q
def dsetL:D->D->D->MS->(MS->Prop)->Prop:=fun o i d μ K=>match o,i with
 | .mr k,.int j=>opt (lvM μ k) fun ds=>opt (ixN ds.length j) fun n=>K (μ.set k (.lst (ds.set n d)))
 | _,_=>False
theorem so_set:SoSet rSetC dsetL:=fun φ H o i v dO di d μ K Q M hO hi hd w q=>by
 unfold dsetL at w
 split at w
 ·rename_i k j
  obtain⟨ds,em,w⟩:=opt_ex w
  have em:=lvM_eq em
  obtain⟨p,hp,rfl⟩:=hO
  cases(show i=_ from hi)
  obtain⟨p',e1,vs,hv,ha⟩:=M.at_ k _ em
  rw[hp]at e1;cases e1
  obtain⟨n,en,w⟩:=opt_ex w
  refine⟨vs,hv,opt_of (v:=n) (by rw[ha.len];exact en) ?_⟩
  have f:Fr φ H φ (upd H p (.lst (vs.set n v))):=.put (gxD hp)
  exact q _ _ w f (M.put hp ⟨_,upd_same,(ha.set hd n).mono f⟩)
 ·exact w.elim
def dAsgS (w wo wi:De):Ds:=fun N ρ μ=>w ρ μ fun d μ1=>wo ρ μ1 fun o μ2=>wi ρ μ2 fun i μ3=>dsetL o i d μ3 fun μ4=>N.nx ρ μ4
theorem s_asgS {o i:Expr}{w wo wi:De}{pos':Pos}(he:PD X e w)(ho:PD X o wo)(hi:PD X i wi)
 (ha:∀ v,assign (.Subscript o i pos') X.env v=(do
   let ov <- holding [v] (eval o X.env)
   let iv <- holding [v,ov] (eval i X.env)
   standAt pos'
   holding [v,ov,iv] (setItem ov iv v)
   release [v,ov,iv] []):=by intro _;rfl) (hs:swapsWithSole [.Subscript o i pos'] e pos.line X.env=pure false:=by rfl) (hw:swappedStores [.Subscript o i pos'] e X.env=pure none:=by rfl)
 (h1:(assignEach [.Subscript o i pos'] X.env).map (·.2)=[assign (.Subscript o i pos') X.env]:=by rfl):PDS X (.Assign [.Subscript o i pos'] e pos) (dAsgS w wo wi):=(ps_asg he (pg_sub ho hi setC ha) hs hw h1).imp fun E σ H hq=>by
 obtain⟨φ,ρ,μ,N,A,M,w,L⟩:=hq
 refine⟨φ,ρ,μ,_,A,M,w,fun d μ1 φ1 v1 H1 k1 f1 M1 i1=>?_⟩
 refine⟨φ1,ρ,μ1,_,A.mono f1,M1,k1,fun d2 μ2 φ2 v2 H2 k2 f2 M2 i2=>?_⟩
 refine⟨φ2,ρ,μ2,_,A.mono (f1.trans f2),M2,k2,fun d3 μ3 φ3 v3 H3 k3 f3 M3 i3=>?_⟩
 exact so_set φ3 H3 _ _ _ d2 d3 d μ3 _ _ M3 (i2.mono f3) i3 (i1.mono (f2.trans f3)) k3 fun μ' H' k4 f4 M4=>L.nx ρ μ' φ3 σ H' k4 ((f1.trans (f2.trans f3)).trans f4) (A.mono ((f1.trans (f2.trans f3)).trans f4)) M4
def dWhile (c:Dt)(b:Ds):Ds:=fun N ρ μ=>∃ W:Nat->DE->MS->Prop,(∃ m,W m ρ μ)/\∀ m ρ μ,W m ρ μ ->
 c ρ μ fun t μ1=>if t=true then b { N with nx:=fun ρ' μ'=>∃ m',m'<m/\W m' ρ' μ',ct:=fun ρ' μ'=>∃ m',m'<m/\W m' ρ' μ',bk:=N.nx} ρ μ1 else N.nx ρ μ1
theorem s_while {c:Expr}{body:List Stmt}{t:Dt}{u:Ds}(hp:PassesOwn (model X.prog X.w) X.A X.env X.xe)(hc:PDT X c t)(hb:PDB X body u):PDS X (.While c body [] pos) (dWhile t u):=(ps_while hp hc hb).imp fun E σ H ⟨φ,ρ,μ,N,A,M,⟨W,⟨m0,w0⟩,turn⟩,L⟩=>by
 refine⟨fun m σ' H'=>∃ φ' ρ' μ',Fr φ H φ' H'/\DEnv φ' H' ρ' σ'/\MSis φ' H' μ'/\W m ρ' μ',⟨m0,φ,ρ,μ,.refl _ _,A,M,w0⟩,?_⟩
 rintro m σ' H' ⟨φ',ρ',μ',f',A',M',w'⟩
 refine⟨φ',ρ',μ',_,A',M',turn m ρ' μ' w',fun b μ1 φ1 H1 k1 f1 M1=>?_⟩
 cases b with
 | true =>
  refine⟨fun σ2 H2=>∃ m',m'<m/\∃ φ2 ρ2 μ2,Fr φ H φ2 H2/\DEnv φ2 H2 ρ2 σ2/\MSis φ2 H2 μ2/\W m' ρ2 μ2,fun σ2 H2 q=>q,φ1,ρ',μ1,_,A'.mono f1,M1,k1,?_⟩
  have nx:LiS φ1 H1 (fun ρ' μ'=>∃ m',m'<m/\W m' ρ' μ') fun σ2 H2=>∃ m',m'<m/\∃ φ2 ρ2 μ2,Fr φ H φ2 H2/\DEnv φ2 H2 ρ2 σ2/\MSis φ2 H2 μ2/\W m' ρ2 μ2:=fun ρ2 μ2 φ2 σ2 H2 ⟨m',hm,w2⟩ f2 A2 M2=>⟨m',hm,φ2,ρ2,μ2,(f'.trans f1).trans f2,A2,M2,w2⟩
  exact⟨nx,L.rt.mono (f'.trans f1),L.nx.mono (f'.trans f1),nx⟩
 | false=>exact L.nx ρ' μ1 φ1 σ' H1 k1 (f'.trans f1) (A'.mono f1) M1
def Wk (J:It)(φ:List Addr)(H:Hp)(ds:List D)(c:MS->Prop):Prop:=∀ φ' H' μ',Fr φ H φ' H'->MSis φ' H' μ'->c μ'->∀ i,
 (∀ d,ds[i]?=some d->J.go i H'/\∀ x H'',J.yld i H' x H''->Fr φ' H' φ' H''/\MSis φ' H'' μ'/\DIs φ' H'' d x)/\(i=ds.length->J.stop i H')
abbrev DI:=DE->MS->(List D->(MS->Prop)->MS->Prop)->Prop
def tDI (w:DI):TI:=fun σ H R=>∃ φ ρ μ K,DEnv φ H ρ σ/\MSis φ H μ/\w ρ μ K/\∀ ds c μ' φ' J H',K ds c μ'->Fr φ H φ' H'->MSis φ' H' μ'->Wk J φ' H' ds c->R J H'
abbrev PDI (X:Cx)(tg iter:Expr)(w:DI):Prop:=PI X tg iter (tDI w)
theorem PI.imp {tg iter:Expr}{t t':TI}(h:PI X tg iter t)(hi:∀ σ H Q,t' σ H Q->t σ H Q):PI X tg iter t':=fun pins s σ H Q I q=>h pins s σ H Q I (hi σ H Q q)
def forW (g:DG)(b:Ds)(N:DN)(c:MS->Prop):List D->DE->MS->Prop
 | [],ρ,μ=>c μ/\N.nx ρ μ
 | d::ds,ρ,μ=>c μ/\g d ρ μ fun ρ2 μ2=>b { N with nx:=fun ρ' μ'=>forW g b N c ds ρ' μ',ct:=fun ρ' μ'=>forW g b N c ds ρ' μ',bk:=N.nx} ρ2 μ2
def dFor (wi:DI)(g:DG)(b:Ds):Ds:=fun N ρ μ=>wi ρ μ fun ds c μ1=>forW g b N c ds ρ μ1
theorem s_for {tg iter:Expr}{body:List Stmt}{wi:DI}{g:TG}{y:DG}{S:List Nat}{u:Ds}(hp:PassesOwn (model X.prog X.w) X.A X.env X.xe)(hc:X.calm=true)(hi:PDI X tg iter wi)(hg:Tg X tg g y S)(hb:PDB X body u)
 (hs:∀ x,foldedSetIterable iter X.env x=pure x:=by intro _;rfl):PDS X (.For tg iter body [] pos) (dFor wi y u):=(ps_for hp hc hi hg.pg hb hs).imp fun E σ H hq=>by
 obtain⟨φ,ρ,μ,N,A,M,w,L⟩:=hq
 refine⟨φ,ρ,μ,_,A,M,w,fun ds c μ1 φ1 J H1 k1 f1 M1 wk=>?_⟩
 refine⟨fun i m σ' H'=>m=ds.length - i/\i<=ds.length/\∃ φ' ρ' μ',Fr φ1 H1 φ' H'/\DEnv φ' H' ρ' σ'/\MSis φ' H' μ'/\forW y u N c (ds.drop i) ρ' μ',⟨ds.length,rfl,a6 _,φ1,ρ,μ1,.refl _ _,A.mono f1,M1,k1⟩,?_⟩
 rintro i m σ' H' ⟨rfl,hi,φ',ρ',μ',f',A',M',w'⟩
 by_cases hlt:i<ds.length
 ·rw[cD hlt]at w'
  obtain⟨c',w'⟩:=w'
  obtain⟨go,yld⟩:=(wk φ' H' μ' f' M' c' i).1 ds[i] (gxA hlt)
  refine .inr ⟨go,fun σ2 H2=>∃ φ2 ρ2 μ2,Fr φ1 H1 φ2 H2/\DEnv φ2 H2 ρ2 σ2/\MSis φ2 H2 μ2/\forW y u N c (ds.drop (i+1)) ρ2 μ2,fun σ2 H2 q=>⟨ds.length - (i+1),by omega,rfl,hlt,q⟩,fun x H2 hy=>?_⟩
  obtain⟨f2,M2,i2⟩:=yld x H2 hy
  refine hg.mo _ _ _ _ _ (fun σ3 H3 hq3=>?_) (hg.so φ' H2 ρ' σ' μ' _ x _ (A'.mono f2) M2 i2 w')
  obtain⟨e3,_,_,ρ3,E3,k3⟩:=hq3
  subst e3
  refine⟨φ',ρ3,μ',_,E3,M2,k3,?_⟩
  have nx:LiS φ' H3 (fun ρ' μ'=>forW y u N c (ds.drop (i+1)) ρ' μ') fun σ2 H2=>∃ φ2 ρ2 μ2,Fr φ1 H1 φ2 H2/\DEnv φ2 H2 ρ2 σ2/\MSis φ2 H2 μ2/\forW y u N c (ds.drop (i+1)) ρ2 μ2:=fun ρ2 μ2 φ2 σ2 H2 w2 g2 A2 N2=>⟨φ2,ρ2,μ2,(f'.trans f2).trans g2,A2,N2,w2⟩
  have ff:=f1.trans (f'.trans f2)
  exact⟨nx,L.rt.mono ff,L.nx.mono ff,nx⟩
 ·have e:i=ds.length:=by omega
  subst e
  rw[List.drop_length]at w'
  exact .inl ⟨(wk φ' H' μ' f' M' w'.1 _).2 rfl,L.nx ρ' μ' φ' σ' H' w'.2 (f1.trans f') A' M'⟩
end
def startD (js:List (Option Nat))(ρ:DE):DE:=js.map fun o=>o.bind fun j=>(ρ[j]?).join
theorem DEnv.startC {φ:List Addr}{H:Hp}{ρ:DE}{σ:St}(h:DEnv φ H ρ σ)(js:List (Option Nat)):DEnv φ H (startD js ρ) (startC js σ):=by
 refine⟨by unfold startD L2.startC;rw[gxC,gxC],fun i d e=>?_⟩
 unfold startD at e
 rw[gxH]at e
 unfold L2.startC
 rw[gxH]
 cases q:js[i]? with
 | none=>rw[q]at e;cases e
 | some o =>
  rw[q]at e
  cases o with
  | none=>cases e
  | some j =>
   have e':(ρ[j]?).join=some d:=aV e
   have e2:ρ[j]?=some (some d):=by
    cases z:ρ[j]? with
    | none=>rw[z]at e';cases e'
    | some y=>rw[z]at e';have:y=some d:=e';rw[this]
   obtain⟨v,hv,hd⟩:=h.2 j d e2
   refine⟨v,?_,hd⟩
   show some ((σ[j]?).join)=_
   rw[hv];rfl
def dItem (ρ:DE)(y:DG)(t:Dt)(w:De)(d:D)(μ:MS)(K:Option D->MS->Prop):Prop:=y d ρ μ fun ρ2 μ2=>t ρ2 μ2 fun b μ3=>if b=true then w ρ2 μ3 (fun z μ4=>K (some z) μ4)else K none μ3
def compW (it:D->MS->(Option D->MS->Prop)->Prop)(c:MS->Prop):List D->MS->(List D->MS->Prop)->Prop
 | [],μ,K=>c μ/\K [] μ
 | d::ds,μ,K=>c μ/\it d μ fun o μ1=>compW it c ds μ1 fun ys μ2=>K (o.toList++ys) μ2
def ownJs (S:List Nat)(js:List (Option Nat)):Bool:=S.all fun i=>js[i]?==some none
theorem ext_of {js:List (Option Nat)}{σ σ2:St}{S:List Nat}(ho:ownJs S js=true)(hl:σ2.length=(startC js σ).length)(hn:∀ i,i∉S->σ2[i]?=(startC js σ)[i]?):Ext (startC js σ) σ2:=by
 refine⟨hl.symm,fun i v e=>?_⟩
 by_cases hi:i∈S
 ·have q:=List.all_eq_true.mp ho i hi
  have q':js[i]?=some none:=by simpa using q
  obtain⟨j,e1,_⟩:=getStart e
  rw[q']at e1;cases e1
 ·rw[hn i hi];exact e
def dComp (m:Bool)(wi:DI)(js:List (Option Nat))(y:DG)(t:Dt)(w:De):De:=fun ρ μ K=>wi ρ μ fun ds c μ1=>ds.length<=sizeLine/\compW (dItem (startD js ρ) y t w) c ds μ1 fun ys μ2=>nL m ys μ2 K
theorem tD_comp {m:Bool}{wi:DI}{js:List (Option Nat)}{g:TG}{y:DG}{S:List Nat}{t:Dt}{w:De}(so:SoG g y S)(mo:MonoG g)(ho:ownJs S js=true){σ:St}{H:Hp}{Q:VK}(h:tD (dComp m wi js y t w) σ H Q):tComp (tDI wi) js g (tDT t) (tD w) σ H Q:=by
 obtain⟨φ,ρ,μ,K,A,M,k,L⟩:=h
 refine⟨φ,ρ,μ,_,A,M,k,fun ds c μ1 φ1 J H1 k1 f1 M1 wk=>?_⟩
 obtain⟨hz,k1⟩:=k1
 refine⟨fun i n ys H'=>n=ds.length - i/\i<=ds.length/\ys.length<=i/\∃ φ' zs μ',Fr φ1 H1 φ' H'/\DAll φ' H' zs ys/\MSis φ' H' μ'/\compW (dItem (startD js ρ) y t w) c (ds.drop i) μ' fun r μ2=>nL m (zs++r) μ2 K,
  ⟨ds.length,rfl,a6 _,a6 _,φ1,[],μ1,.refl _ _,rfl,M1,k1⟩,?_⟩
 rintro i n ys H' ⟨rfl,hi,hy,φ',zs,μ',f',Z',M',w'⟩
 by_cases hlt:i<ds.length
 ·rw[cD hlt]at w'
  obtain⟨c',w'⟩:=w'
  obtain⟨go,yld⟩:=(wk φ' H' μ' f' M' c' i).1 ds[i] (gxA hlt)
  refine .inr ⟨go,fun x H2 hy2=>?_⟩
  obtain⟨f2,M2,i2⟩:=yld x H2 hy2
  have E2:DEnv φ' H2 (startD js ρ) (startC js σ):=((A.mono (f1.trans (f'.trans f2))).startC js)
  refine mo _ _ _ _ _ (fun σ3 H3 hq4=>?_) (so φ' H2 _ _ μ' _ x _ E2 M2 i2 w')
  obtain⟨e3,l3,n3,ρ3,E3,k3⟩:=hq4
  refine⟨ext_of ho l3 n3,?_⟩
  subst e3
  refine⟨φ',ρ3,μ',_,E3,M2,k3,fun b μ4 φ4 H4 k4 f4 M4=>?_⟩
  have ff:=f'.trans (f2.trans f4)
  cases b with
  | true =>
   refine⟨φ4,ρ3,μ4,_,E3.mono f4,M4,k4,fun d5 μ5 φ5 v5 H5 k5 f5 M5 i5=>⟨by omega,ds.length - (i+1),by omega,rfl,hlt,by rw[gxE,bf];omega,φ5,zs++[d5],μ5,ff.trans f5,(Z'.mono (f2.trans (f4.trans f5))).app ⟨v5,[],rfl,i5,rfl⟩,M5,?_⟩⟩
   have e:(fun r μ2=>nL m (zs++[d5]++r) μ2 K)=fun r μ2=>nL m (zs++((some d5).toList++r)) μ2 K:=by funext r μ2;rw[aJ];rfl
   rw[e]
   exact k5
  | false =>
   exact⟨ds.length - (i+1),by omega,rfl,hlt,by omega,φ4,zs,μ4,ff,Z'.mono (f2.trans f4),M4,k4⟩
 ·have e:i=ds.length:=by omega
  subst e
  rw[List.drop_length]at w'
  refine .inl ⟨(wk φ' H' μ' f' M' w'.1 _).2 rfl,fun p hp=>?_⟩
  have q:nL m (zs++[]) μ' K:=w'.2
  rw[aR]at q
  exact al_n (L.mono (f1.trans f')) M' Z' q hp
section
variable {X:Cx}{a b e:Expr}{es:List Expr}{pos:Pos}
variable {N:List Str}{js:List (Option Nat)}{sc:Scope}{tg elt iter:Expr}{ifs:List Expr}{g:TG}{y:DG}{S:List Nat}{t:Dt}{w:De}
abbrev PDTs (X:Cx)(ifs:List Expr)(t:Dt):Prop:=PTs X ifs (tDT t)
theorem PTs.imp {ifs:List Expr}{t t':TT}(h:PTs X ifs t)(hi:∀ σ H Q,t' σ H Q->t σ H Q):PTs X ifs t':=fun pins s σ H Q I q=>h pins s σ H Q I (hi σ H Q q)
def dYes:Dt:=fun _ μ K=>K true μ
theorem ts_nil:PDTs X [] dYes:=pts_nil.imp fun σ H Q hq5=>by obtain⟨φ,ρ,μ,K,A,M,k,L⟩:=hq5;exact L true μ φ H k (.refl _ _) M
theorem ts_one {c:Expr}(h:PDT X c t):PDTs X [c] t:=pts_one h
theorem d_comp (m:Bool){wi:DI}(hc:CompOk X N js sc)(calm:X.calm=true)(so:SoG g y S)(mo:MonoG g)(ho:ownJs S js=true)(hi:PDI X tg iter wi)(hg:∀ fp s H,PG (cxC X N sc fp s H) tg g)(ht:∀ fp s H,PDTs (cxC X N sc fp s H) ifs t)(he:∀ fp s H,PD (cxC X N sc fp s H) elt w)
 (hs:∀ x,foldedSetIterable iter X.env x=pure x:=by intro _;rfl):PD X (.ListComp elt [⟨tg,iter,ifs,0⟩] sc pos) (dComp m wi js y t w):=(pe_comp hc calm hi hg ht he hs).imp fun σ H Q q=>tD_comp so mo ho q
def dItL (w:De):DI:=fun ρ μ K=>w ρ μ fun d μ1=>opt (lv μ1 d) fun ds=>K ds (lc d ds) μ1
theorem wk_list {Kf:PySem.W.Frag}{p:Addr}{φ:List Addr}{H:Hp}{ds:List D}{c:MS->Prop}(h:∀ φ' H' μ',Fr φ H φ' H'->MSis φ' H' μ'->c μ'->∃ vs,H' p=some (.lst vs)/\DAll φ' H' ds vs):Wk (Itl Kf p) φ H ds c:=fun φ' H' μ' f M c' i=>by
 obtain⟨vs,hp,ha⟩:=h φ' H' μ' f M c'
 refine⟨fun d hd=>?_,fun hi=>⟨vs,SqL.of hp,by rw[ha.len,hi];exact aa _⟩⟩
 obtain⟨v,hv,hi⟩:=ha.get hd
 refine⟨⟨vs,v,SqL.of hp,hv⟩,fun x H'' hy=>?_⟩
 obtain⟨rfl,hy⟩:=hy
 have e:=hy vs (SqL.of hp)
 rw[hv]at e;cases e
 exact⟨.refl _ _,M,hi⟩
theorem i_list {w:De}(h:PD X a w):PDI X tg a (dItL w):=(pi_list h).imp fun σ H Q hq=>by
 obtain⟨φ,ρ,μ,K,A,M,k,L⟩:=hq
 refine⟨φ,ρ,μ,_,A,M,k,fun d μ1 φ1 v1 H1 k1 f1 M1 i1=>?_⟩
 obtain⟨ds,el,k1⟩:=opt_ex k1
 obtain⟨p,vs,rfl,hp,ha⟩:=lv_is M1 i1 el
 exact⟨p,rfl,⟨vs,SqL.of hp⟩,L ds _ μ1 φ1 _ H1 k1 f1 M1 (wk_list fun φ' H' μ' f M c=>lv_stay M1 i1 el f M c)⟩
def rngD (lo:Int)(n:Nat):List D:=(List.range n).map fun i=>D.int (lo+(i:Nat))
def dItS (w:De):DI:=fun ρ μ K=>w ρ μ fun d μ1=>match d with
 | .str z=>K (z.cps.toList.map fun c=>D.str ⟨#[c]⟩) (fun _=>True) μ1
 | _=>False
theorem i_str {w:De}(h:PD X a w):PDI X tg a (dItS w):=(pi_str h).imp fun σ H Q hq=>by
 obtain⟨φ,ρ,μ,K,A,M,k,L⟩:=hq
 refine⟨φ,ρ,μ,_,A,M,k,fun d μ1 φ1 v1 H1 k1 f1 M1 i1=>?_⟩
 split at k1
 ·rename_i z
  cases(show v1=_ from i1)
  refine⟨z,rfl,L _ _ μ1 φ1 _ H1 k1 f1 M1 fun φ' H' μ' f M _ i=>⟨fun d hd=>?_,fun hi=>by rw[gxC]at hi;exact hi⟩⟩
  have hi:i<z.cps.toList.length:=by have:=(gxB hd).1;rwa [gxC]at this
  refine⟨hi,fun x H'' hy=>?_⟩
  obtain⟨rfl,c,hc,rfl⟩:=hy
  rw[gxH,hc]at hd
  cases hd
  exact⟨.refl _ _,M,rfl⟩
 ·exact k1.elim
end
mutual
def mrB (n:Nat):D->Prop
 | .lst ds=>mrL n ds
 | .tup ds=>mrL n ds
 | .dic _ ds=>mrL n ds
 | .mr k=>k<n
 | .obj _ _ ds=>mrL n ds
 | .fdc _ ds=>mrL n ds
 | _=>True
def mrL (n:Nat):List D->Prop
 | []=>True
 | d::ds=>mrB n d/\mrL n ds
end
def moB (n:Nat):MO->Prop
 | .box=>True
 | .lst ds=>mrL n ds
 | .dic _ ds=>mrL n ds
 | .fdic _ _ ds=>mrL n ds
 | .ins _ _ ds=>mrL n ds
 | .dtu _ ds=>mrL n ds
 | .gx φ0 _=>φ0.length<=n
 | .exc _=>True
theorem Fr.takeN {φ0 φ:List Addr}{H0 H:Hp}{n:Nat}(f:Fr φ0 H0 φ H)(h:φ0.length<=n):Fr φ0 H0 (φ.take n) H:=by
 obtain⟨⟨ψ,rfl,hψ⟩,k,d⟩:=f
 exact⟨⟨ψ.take (n - φ0.length),by rw[List.take_append,ck h],fun c hc=>hψ c (aP hc)⟩,k,d⟩
theorem Fr.late {φ0 φ:List Addr}{H0 H:Hp}{j:Nat}{p:Addr}(f:Fr φ0 H0 φ H)(h:φ0.length<=j)(hp:φ[j]?=some p):H0 p=none:=by
 obtain⟨⟨ψ,rfl,hψ⟩,k,d⟩:=f
 rw[gxG h]at hp
 exact hψ p (gxD hp)
theorem Fr.takeP {φ0 φ:List Addr}{H0 H:Hp}{n:Nat}{p:Addr}(f:Fr φ0 H0 φ H)(h:φ0.length<=n)(hp:H0 p=none):Fr φ0 H0 (φ.take n++[p]) H:=by
 obtain⟨⟨ψ,e,hψ⟩,k,d⟩:=f.takeN h
 exact⟨⟨ψ++[p],by rw[e,aJ],fun c hc=>by rcases List.mem_append.mp hc with z | z;exact hψ c z;rw[List.mem_singleton.mp z];exact hp⟩,k,d⟩
mutual
theorem DIs.cutT {n:Nat}{φ:List Addr}{H:Hp}:∀ {d:D} {v:V},mrB n d->DIs φ H d v->DIs (φ.take n) H d v
 | .non,_,_,h=>h
 | .bl _,_,_,h=>h
 | .int _,_,_,h=>h
 | .str _,_,_,h=>h
 | .lst _,_,m,h=>by obtain⟨p,vs,e,nn,hp,q⟩:=h;exact⟨p,vs,e,fun z=>nn (aP z),hp,DAll.cutT m q⟩
 | .tup _,_,m,h=>by obtain⟨p,vs,e,nn,hp,q⟩:=h;exact⟨p,vs,e,fun z=>nn (aP z),hp,DAll.cutT m q⟩
 | .dic _ _,_,m,h=>by obtain⟨p,kvs,vs,e,nn,hp,q1,q2,q⟩:=h;exact⟨p,kvs,vs,e,fun z=>nn (aP z),hp,q1,q2,DAll.cutT m q⟩
 | .mr k,_,m,h=>by obtain⟨p,e,q⟩:=h;exact⟨p,by rw[bc m];exact e,q⟩
 | .obj _ _ _,_,m,h=>by obtain⟨p,dx,fs,vs,e,nn,hp,q1,q2,q⟩:=h;exact⟨p,dx,fs,vs,e,fun z=>nn (aP z),hp,q1,q2,DAll.cutT m q⟩
 | .fdc _ _,_,m,h=>by obtain⟨p,dx,fs,vs,e,nn,hp,q1,q2,q⟩:=h;exact⟨p,dx,fs,vs,e,fun z=>nn (aP z),hp,q1,q2,DAll.cutT m q⟩
 | .fn _,_,_,h=>h
theorem DAll.cutT {n:Nat}{φ:List Addr}{H:Hp}:∀ {ds:List D} {vs:List V},mrL n ds->DAll φ H ds vs->DAll (φ.take n) H ds vs
 | [],_,_,h=>h
 | _::_,_,m,h=>by obtain⟨v,r,e,h1,h2⟩:=h;exact⟨v,r,e,DIs.cutT m.1 h1,DAll.cutT m.2 h2⟩
end
theorem MSis.cutT {n:Nat}{φ:List Addr}{H:Hp}{μ:MS}(h:MSis φ H μ)(hm:∀(k:Nat) (m:MO),k<n->μ[k]?=some m->moB n m):MSis (φ.take n) H (μ.take n):=by
 refine⟨h.nd.sublist (List.take_sublist _ _),by rw[a9,a9,h.len],fun k m e=>?_⟩
 have hk:k<n:=by have:=(gxB e).1;rw[a9]at this;omega
 rw[bc hk]at e
 obtain⟨p,e1,e2⟩:=h.at_ k m e
 refine⟨p,by rw[bc hk];exact e1,?_⟩
 have hb:=hm k m hk e
 cases m with
 | box=>obtain⟨q,ns,i,r,z,h1,h2,h3,h4⟩:=e2;exact⟨q,ns,i,r,z,h1,h2,fun z=>h3 (aP z),h4⟩
 | lst ds=>obtain⟨vs,h1,h2⟩:=e2;exact⟨vs,h1,h2.cutT hb⟩
 | dic ks ds=>obtain⟨kvs,vs,h1,h2,h3,h4⟩:=e2;exact⟨kvs,vs,h1,h2,h3,h4.cutT hb⟩
 | fdic o kvs ds=>exact⟨e2.1,e2.2.cutT hb⟩
 | ins C ns ds=>obtain⟨dx,fs,h1,h2,h3⟩:=e2;exact⟨dx,fs,h1,h2,h3.cutT hb⟩
 | dtu ks ds=>obtain⟨kvs,h1,h2,h3⟩:=e2;exact⟨kvs,h1,h2,h3.cutT hb⟩
 | gx φ0 H0=>exact⟨e2.1.takeN hb,e2.2⟩
 | exc c=>exact e2
mutual
theorem DIs.bound {φ:List Addr}{H:Hp}:∀ {d:D} {v:V},DIs φ H d v->mrB φ.length d
 | .non,_,_=>True.intro
 | .bl _,_,_=>True.intro
 | .int _,_,_=>True.intro
 | .str _,_,_=>True.intro
 | .lst _,_,h=>by obtain⟨p,vs,e,nn,hp,q⟩:=h;exact DAll.bound q
 | .tup _,_,h=>by obtain⟨p,vs,e,nn,hp,q⟩:=h;exact DAll.bound q
 | .dic _ _,_,h=>by obtain⟨p,kvs,vs,e,nn,hp,q1,q2,q⟩:=h;exact DAll.bound q
 | .mr k,_,h=>by obtain⟨p,e,q⟩:=h;exact(gxB e).1
 | .obj _ _ _,_,h=>by obtain⟨p,dx,fs,vs,e,nn,hp,q1,q2,q⟩:=h;exact DAll.bound q
 | .fdc _ _,_,h=>by obtain⟨p,dx,fs,vs,e,nn,hp,q1,q2,q⟩:=h;exact DAll.bound q
 | .fn _,_,_=>True.intro
theorem DAll.bound {φ:List Addr}{H:Hp}:∀ {ds:List D} {vs:List V},DAll φ H ds vs->mrL φ.length ds
 | [],_,_=>True.intro
 | _::_,_,h=>by obtain⟨v,r,e,h1,h2⟩:=h;exact⟨DIs.bound h1,DAll.bound h2⟩
end
theorem MSis.bound {φ:List Addr}{H:Hp}{μ:MS}(h:MSis φ H μ):∀(k:Nat) (m:MO),μ[k]?=some m->moB μ.length m:=fun k m e=>by
 obtain⟨p,e1,e2⟩:=h.at_ k m e
 rw[<- h.len]
 cases m with
 | box=>exact True.intro
 | lst ds=>obtain⟨vs,h1,h2⟩:=e2;exact h2.bound
 | dic ks ds=>obtain⟨kvs,vs,h1,h2,h3,h4⟩:=e2;exact h4.bound
 | fdic o kvs ds=>exact e2.2.bound
 | ins C ns ds=>obtain⟨dx,fs,h1,h2,h3⟩:=e2;exact h3.bound
 | dtu ks ds=>obtain⟨kvs,h1,h2,h3⟩:=e2;exact h3.bound
 | gx φ0 H0=>obtain⟨⟨ψ,e,_⟩,_⟩:=e2.1;show φ0.length<=φ.length;rw[e,gxE];omega
 | exc c=>exact True.intro
theorem notin_addP {n:Nat}{φ':List Addr}{p q:Addr}(hp:p∈φ')(h:q∉φ'):q∉φ'.take n++[p]:=fun z=>by
 rcases List.mem_append.mp z with z | z
 ·exact h (aP z)
 ·exact h (by rw[List.mem_singleton.mp z];exact hp)
mutual
theorem DIs.addP {n:Nat}{φ':List Addr}{H:Hp}{p:Addr}(hp:p∈φ'):∀ {d:D} {v:V},mrB n d->DIs φ' H d v->DIs (φ'.take n++[p]) H d v
 | .non,_,_,h=>h
 | .bl _,_,_,h=>h
 | .int _,_,_,h=>h
 | .str _,_,_,h=>h
 | .lst _,_,m,h=>by obtain⟨q,vs,e,nn,hq,z⟩:=h;exact⟨q,vs,e,notin_addP hp nn,hq,DAll.addP' hp m z⟩
 | .tup _,_,m,h=>by obtain⟨q,vs,e,nn,hq,z⟩:=h;exact⟨q,vs,e,notin_addP hp nn,hq,DAll.addP' hp m z⟩
 | .dic _ _,_,m,h=>by obtain⟨q,kvs,vs,e,nn,hq,q1,q2,z⟩:=h;exact⟨q,kvs,vs,e,notin_addP hp nn,hq,q1,q2,DAll.addP' hp m z⟩
 | .mr k,_,m,h=>by
  obtain⟨q,e,z⟩:=h
  have hk:k<(φ'.take n).length:=by rw[a9];have:=(gxB e).1;have m':k<n:=m;omega
  exact⟨q,by rw[gxF hk,bc m];exact e,z⟩
 | .obj _ _ _,_,m,h=>by obtain⟨q,dx,fs,vs,e,nn,hq,q1,q2,z⟩:=h;exact⟨q,dx,fs,vs,e,notin_addP hp nn,hq,q1,q2,DAll.addP' hp m z⟩
 | .fdc _ _,_,m,h=>by obtain⟨q,dx,fs,vs,e,nn,hq,q1,q2,z⟩:=h;exact⟨q,dx,fs,vs,e,notin_addP hp nn,hq,q1,q2,DAll.addP' hp m z⟩
 | .fn _,_,_,h=>h
theorem DAll.addP' {n:Nat}{φ':List Addr}{H:Hp}{p:Addr}(hp:p∈φ'):∀ {ds:List D} {vs:List V},mrL n ds->DAll φ' H ds vs->DAll (φ'.take n++[p]) H ds vs
 | [],_,_,h=>h
 | _::_,_,m,h=>by obtain⟨v,r,e,h1,h2⟩:=h;exact⟨v,r,e,DIs.addP hp m.1 h1,DAll.addP' hp m.2 h2⟩
end
def All2 (R:D->D->Prop)(ds es:List D):Prop:=ds.length=es.length/\∀(i:Nat) (a b:D),ds[i]?=some a->es[i]?=some b->R a b
def FrzR (n:Nat)(μ:MS):Nat->D->D->Prop
 | 0,d,d'=>d'=d/\mrB n d
 | k+1,d,d'=>(d'=d/\mrB n d)\/(∃ j ds es,d=.mr j/\n<=j/\μ[j]?=some (.lst ds)/\d'=.lst es/\All2 (FrzR n μ k) ds es)\/(∃ ds es,d=.lst ds/\d'=.lst es/\All2 (FrzR n μ k) ds es)\/(∃ ds es,d=.tup ds/\d'=.tup es/\All2 (FrzR n μ k) ds es)\/(∃ j ks ds es,d=.mr j/\n<=j/\μ[j]?=some (.dic ks ds)/\d'=.dic ks es/\All2 (FrzR n μ k) ds es)
theorem DAll.ofGet {φ:List Addr}{H:Hp}:∀ {ds:List D} {vs:List V},ds.length=vs.length->(∀(i:Nat) (d:D) (v:V),ds[i]?=some d->vs[i]?=some v->DIs φ H d v)->DAll φ H ds vs
 | [],vs,hl,_=>by cases vs with
  | nil=>rfl
  | cons v r=>simp at hl
 | d::ds,vs,hl,h=>by cases vs with
  | nil=>simp at hl
  | cons v r=>exact⟨v,r,rfl,h 0 d v rfl rfl,DAll.ofGet (by simpa using hl) fun i a b e1 e2=>h (i+1) a b (by simpa using e1) (by simpa using e2)⟩
theorem FrzR.is {n:Nat}{φ:List Addr}{H:Hp}{μ:MS}(M:MSis φ H μ)(nin:∀ {j:Nat} {p:Addr},n<=j->φ[j]?=some p->p∉φ.take n):∀ {k:Nat} {d d':D} {v:V},FrzR n μ k d d'->DIs φ H d v->DIs (φ.take n) H d' v:=by
 intro k
 induction k with
 | zero=>intro d d' v h i;obtain⟨rfl,hb⟩:=h;exact i.cutT hb
 | succ k ih =>
  have all:∀ {ds es:List D} {vs:List V},All2 (FrzR n μ k) ds es->DAll φ H ds vs->DAll (φ.take n) H es vs:=fun {ds es vs} ha hd =>
   DAll.ofGet (by rw[hd.len,ha.1]) fun i b v e1 e2=>by
    obtain⟨a,e3,hv⟩:=hd.getV e2
    exact ih (ha.2 i a b e3 e1) hv
  intro d d' v h i
  rcases h with⟨rfl,hb⟩ | ⟨j,ds,es,rfl,hj,e,rfl,ha⟩ | ⟨ds,es,rfl,rfl,ha⟩ | ⟨ds,es,rfl,rfl,ha⟩ | ⟨j,ks,ds,es,rfl,hj,e,rfl,ha⟩
  ·exact i.cutT hb
  ·obtain⟨p,hp,rfl⟩:=i
   obtain⟨p',e1,vs,hv,hd⟩:=M.at_ j _ e
   rw[hp]at e1;cases e1
   exact⟨p,vs,rfl,nin hj hp,hv,all ha hd⟩
  ·obtain⟨p,vs,rfl,hn,hp,hd⟩:=i
   exact⟨p,vs,rfl,fun z=>hn (aP z),hp,all ha hd⟩
  ·obtain⟨p,vs,rfl,hn,hp,hd⟩:=i
   exact⟨p,vs,rfl,fun z=>hn (aP z),hp,all ha hd⟩
  ·obtain⟨p,hp,rfl⟩:=i
   obtain⟨p',e1,kvs,vs,hv,h1,h2,hd⟩:=M.at_ j _ e
   rw[hp]at e1;cases e1
   exact⟨p,kvs,vs,rfl,nin hj hp,hv,h1,h2,all ha hd⟩
def FrzQ (n:Nat)(μ:MS):Nat->D->D->Prop
 | 0,d,d'=>d'=d/\mrB n d
 | k+1,d,d'=>(d'=d/\mrB n d)\/(∃ j ds es,d=.mr j/\n<=j/\μ[j]?=some (.lst ds)/\d'=.lst es/\All2 (FrzQ n μ k) ds es)\/(∃ ds es,d=.lst ds/\d'=.lst es/\All2 (FrzQ n μ k) ds es)\/(∃ ds es,d=.tup ds/\d'=.tup es/\All2 (FrzQ n μ k) ds es)\/(∃ j o kvs ds es,d=.mr j/\n<=j/\μ[j]?=some (.fdic o kvs ds)/\d'=.fdc (kvs.map (·.1)) es/\All2 (FrzQ n μ k) ds es)\/(∃ j C ns ds es,d=.mr j/\n<=j/\μ[j]?=some (.ins C ns ds)/\d'=.obj C ns es/\All2 (FrzQ n μ k) ds es)
theorem FrzQ.is {n:Nat}{φ:List Addr}{H:Hp}{μ:MS}(M:MSis φ H μ)(nin:∀ {j:Nat} {p:Addr},n<=j->φ[j]?=some p->p∉φ.take n):∀ {k:Nat} {d d':D} {v:V},FrzQ n μ k d d'->DIs φ H d v->DIs (φ.take n) H d' v:=by
 intro k
 induction k with
 | zero=>intro d d' v h i;obtain⟨rfl,hb⟩:=h;exact i.cutT hb
 | succ k ih =>
  have all:∀ {ds es:List D} {vs:List V},All2 (FrzQ n μ k) ds es->DAll φ H ds vs->DAll (φ.take n) H es vs:=fun {ds es vs} ha hd =>
   DAll.ofGet (by rw[hd.len,ha.1]) fun i b v e1 e2=>by
    obtain⟨a,e3,hv⟩:=hd.getV e2
    exact ih (ha.2 i a b e3 e1) hv
  intro d d' v h i
  rcases h with⟨rfl,hb⟩ | ⟨j,ds,es,rfl,hj,e,rfl,ha⟩ | ⟨ds,es,rfl,rfl,ha⟩ | ⟨ds,es,rfl,rfl,ha⟩ | ⟨j,o,kvs,ds,es,rfl,hj,e,rfl,ha⟩ | ⟨j,C,ns,ds,es,rfl,hj,e,rfl,ha⟩
  ·exact i.cutT hb
  ·obtain⟨p,hp,rfl⟩:=i
   obtain⟨p',e1,vs,hv,hd⟩:=M.at_ j _ e
   rw[hp]at e1;cases e1
   exact⟨p,vs,rfl,nin hj hp,hv,all ha hd⟩
  ·obtain⟨p,vs,rfl,hn,hp,hd⟩:=i
   exact⟨p,vs,rfl,fun z=>hn (aP z),hp,all ha hd⟩
  ·obtain⟨p,vs,rfl,hn,hp,hd⟩:=i
   exact⟨p,vs,rfl,fun z=>hn (aP z),hp,all ha hd⟩
  ·obtain⟨p,hp,rfl⟩:=i
   obtain⟨p',e1,hv,hd⟩:=M.at_ j _ e
   rw[hp]at e1;cases e1
   exact⟨p,o,kvs,_,rfl,nin hj hp,hv,rfl,rfl,all ha hd⟩
  ·obtain⟨p,hp,rfl⟩:=i
   obtain⟨p',e1,dx,fs,hv,h1,hd⟩:=M.at_ j _ e
   rw[hp]at e1;cases e1
   exact⟨p,dx,fs,_,rfl,nin hj hp,hv,h1,rfl,all ha hd⟩
inductive Fz (n:Nat)(K:DK):DK where
 | keep {d μ} (k:K d μ):Fz n K d μ
 | drop {d μ} (hd:mrB n d) (hm:∀(j:Nat) (m:MO),j<n->μ[j]?=some m->moB n m) (k:K d (μ.take n)):Fz n K d μ
 | lst {j ds μ} (hj:n<=j) (e:μ[j]?=some (.lst ds)) (hd:mrL n ds) (hm:∀(j:Nat) (m:MO),j<n->μ[j]?=some m->moB n m) (k:K (.lst ds) (μ.take n)):Fz n K (.mr j) μ
 | one {j ds μ} (hj:n<=j) (e:μ[j]?=some (.lst ds)) (hd:mrL n ds) (hm:∀(j:Nat) (m:MO),j<n->μ[j]?=some m->moB n m) (k:K (.mr n) (μ.take n++[.lst ds])):Fz n K (.mr j) μ
 | deep {f d d' μ} (e:FrzR n μ f d d') (hm:∀(j:Nat) (m:MO),j<n->μ[j]?=some m->moB n m) (k:K d' (μ.take n)):Fz n K d μ
 | dic {j ks ds μ} (hj:n<=j) (e:μ[j]?=some (.dic ks ds)) (hd:mrL n ds) (hm:∀(j:Nat) (m:MO),j<n->μ[j]?=some m->moB n m) (k:K (.dic ks ds) (μ.take n)):Fz n K (.mr j) μ
 | obj {j C ns ds μ} (hj:n<=j) (e:μ[j]?=some (.ins C ns ds)) (hd:mrL n ds) (hm:∀(j:Nat) (m:MO),j<n->μ[j]?=some m->moB n m) (k:K (.obj C ns ds) (μ.take n)):Fz n K (.mr j) μ
 | fdc {j o kvs ds μ} (hj:n<=j) (e:μ[j]?=some (.fdic o kvs ds)) (hd:mrL n ds) (hm:∀(j:Nat) (m:MO),j<n->μ[j]?=some m->moB n m) (k:K (.fdc (kvs.map (·.1)) ds) (μ.take n)):Fz n K (.mr j) μ
 | deepQ {f d d' μ} (e:FrzQ n μ f d d') (hm:∀(j:Nat) (m:MO),j<n->μ[j]?=some m->moB n m) (k:K d' (μ.take n)):Fz n K d μ
theorem Lif.fz {φ:List Addr}{H:Hp}{μ:MS}{K:DK}{Q:VK}(M:MSis φ H μ)(L:Lif φ H K Q):Lif φ H (Fz μ.length K) Q:=fun d μ' φ' v H' k f M' i=>by
 have eφ:φ'.take μ.length=φ:=by
  obtain⟨⟨ψ,rfl,_⟩,_,_⟩:=f
  rw[<- M.len,bp]
 have f0:Fr φ H (φ'.take μ.length) H':=by
  rw[eφ]
  exact⟨⟨[],by simp,fun _ h=>nomatch h⟩,f.keep,f.dom⟩
 have nin:∀ {j:Nat} {p:Addr},μ.length<=j->φ'[j]?=some p->p∉φ'.take μ.length:=fun {j p} hj e hp=>by
  obtain⟨i,hi,ei⟩:=cE hp
  rw[a9]at hi
  rw[List.getElem_take]at ei
  obtain⟨hj',ej⟩:=gxB e
  exact List.pairwise_iff_getElem.mp M'.nd i j (by omega) hj' (by omega) (ei.trans ej.symm)
 cases k with
 | keep k=>exact L d μ' φ' v H' k f M' i
 | drop hd hm k=>exact L d _ _ v H' k f0 (M'.cutT hm) (i.cutT hd)
 | @lst j ds _ hj e hd hm k =>
  obtain⟨p,hp,rfl⟩:=i
  obtain⟨p',e1,vs,hv,ha⟩:=M'.at_ j _ e
  rw[hp]at e1;cases e1
  exact L _ _ _ _ H' k f0 (M'.cutT hm) ⟨p,vs,rfl,nin hj hp,hv,ha.cutT hd⟩
 | @one j ds _ hj e hd hm k =>
  obtain⟨p,hp,rfl⟩:=i
  obtain⟨p',e1,vs,hv,ha⟩:=M'.at_ j _ e
  rw[hp]at e1;cases e1
  have M0:=M'.cutT hm
  have hpn:p∉φ:=by have:=nin hj hp;rwa [eφ]at this
  have hH:H p=none:=by
   obtain⟨⟨ψ,rfl,hψ⟩,_,_⟩:=f
   refine hψ p ?_
   have q:=gxD hp
   rcases List.mem_append.mp q with q | q
   ·exact absurd q hpn
   ·exact q
  have M1:MSis (φ'.take μ.length) H' (μ'.take μ.length):=M0
  rw[eφ]at M1
  have f1:Fr φ H (φ++[p]) H':=⟨⟨[p],rfl,fun c hc=>by rw[List.mem_singleton.mp hc];exact hH⟩,f.keep,f.dom⟩
  have len:(μ'.take μ.length).length=μ.length:=by rw[<- M1.len,M.len]
  have pin:p∈φ':=gxD hp
  have hdv:DAll (φ++[p]) H' ds vs:=by
   have q:=DAll.addP' pin hd ha
   rwa [eφ]at q
  have M2:MSis (φ++[p]) H' (μ'.take μ.length++[.lst ds]):=by
   refine⟨?_,by rw[gxE,gxE,M1.len];rfl,fun k m ek=>?_⟩
   ·rw[List.nodup_append]
    exact⟨M.nd,by simp,fun a ha b hb=>by rw[List.mem_singleton.mp hb];intro z;exact hpn (by rw[<- z];exact ha)⟩
   ·by_cases hk:k<μ.length
    ·rw[gxF (by rw[len];exact hk)]at ek
     rw[bc hk]at ek
     obtain⟨q,e1,e2⟩:=M'.at_ k m ek
     have e1':φ[k]?=some q:=by rw[<- eφ,bc hk];exact e1
     refine⟨q,by rw[gxF (by rw[M.len];exact hk)];exact e1',?_⟩
     have hb:=hm k m hk ek
     cases m with
     | box =>
      obtain⟨b,ns,i,r,z,h1,h2,h3,h4⟩:=e2
      exact⟨b,ns,i,r,z,h1,h2,by have:=notin_addP (n:=μ.length) pin h3;rwa [eφ]at this,h4⟩
     | lst es=>obtain⟨us,h1,h2⟩:=e2;exact⟨us,h1,by have:=DAll.addP' pin hb h2;rwa [eφ]at this⟩
     | dic ks es=>obtain⟨kvs,us,h1,h2,h3,h4⟩:=e2;exact⟨kvs,us,h1,h2,h3,by have:=DAll.addP' pin hb h4;rwa [eφ]at this⟩
     | fdic o kvs es=>exact⟨e2.1,by have:=DAll.addP' pin hb e2.2;rwa [eφ]at this⟩
     | ins C ns es=>obtain⟨dx,fs,h1,h2,h3⟩:=e2;exact⟨dx,fs,h1,h2,by have:=DAll.addP' pin hb h3;rwa [eφ]at this⟩
     | dtu ks es=>obtain⟨kvs,h1,h2,h3⟩:=e2;exact⟨kvs,h1,h2,by have:=DAll.addP' pin hb h3;rwa [eφ]at this⟩
     | gx φ0 H0=>exact⟨by have:=e2.1.takeP (n:=μ.length) hb (p:=p) (e2.1.late (aD hb hj) hp);rwa [eφ]at this,e2.2⟩
     | exc c=>exact e2
    ·have hk':k=μ.length:=by
      have:=(gxB ek).1
      rw[gxE,bf,len]at this
      omega
     subst hk'
     rw[gxG (by rw[len];exact aa _),len,br]at ek
     cases ek
     exact⟨p,by rw[gxG (by rw[M.len];exact aa _),M.len,br];rfl,vs,hv,hdv⟩
  exact L _ _ _ _ H' k f1 M2 ⟨p,by rw[gxG (by rw[M.len];exact aa _),M.len,br];rfl,rfl⟩
 | @deep f' d d' _ e hm k=>exact L _ _ _ _ H' k f0 (M'.cutT hm) (e.is M' nin i)
 | @dic j ks ds _ hj e hd hm k =>
  obtain⟨p,hp,rfl⟩:=i
  obtain⟨p',e1,kvs,vs,hv,h1,h2,ha⟩:=M'.at_ j _ e
  rw[hp]at e1;cases e1
  exact L _ _ _ _ H' k f0 (M'.cutT hm) ⟨p,kvs,vs,rfl,nin hj hp,hv,h1,h2,ha.cutT hd⟩
 | @obj j C ns ds _ hj e hd hm k =>
  obtain⟨p,hp,rfl⟩:=i
  obtain⟨p',e1,dx,fs,h1,h2,h3⟩:=M'.at_ j _ e
  rw[hp]at e1;cases e1
  exact L _ _ _ _ H' k f0 (M'.cutT hm) ⟨p,dx,fs,_,rfl,nin hj hp,h1,h2,rfl,h3.cutT hd⟩
 | @fdc j o kvs ds _ hj e hd hm k =>
  obtain⟨p,hp,rfl⟩:=i
  obtain⟨p',e1,h1,h3⟩:=M'.at_ j _ e
  rw[hp]at e1;cases e1
  exact L _ _ _ _ H' k f0 (M'.cutT hm) ⟨p,o,kvs,_,rfl,nin hj hp,h1,rfl,rfl,h3.cutT hd⟩
 | @deepQ f' d d' _ e hm k=>exact L _ _ _ _ H' k f0 (M'.cutT hm) (e.is M' nin i)
def retN (n:Nat)(K:DK):DN:={ nx:=fun _ μ'=>Fz n K .non μ',rt:=fun d μ'=>Fz n K d μ'}
def startE (N:List Str)(ds:List D):DE:=ds.map some++List.replicate (N.length - ds.length) none
theorem DEnv.start {φ:List Addr}{H:Hp}{N:List Str}{ds:List D}{vs:List V}(h:DAll φ H ds vs):DEnv φ H (startE N ds) (start N vs):=by
 have hl:=h.len
 unfold startE L2.start
 refine⟨by simp[hl],fun i d e=>?_⟩
 by_cases hi:i<ds.length
 ·rw[gxF (by rw[gxC];exact hi),gxH]at e
  have e':ds[i]?=some d:=by
   cases q:ds[i]? with
   | none=>rw[q]at e;cases e
   | some z=>rw[q]at e;cases e;rfl
  obtain⟨v,hv,hd⟩:=h.get e'
  exact⟨v,by rw[gxF (by rw[gxC];omega),gxH,hv];rfl,hd⟩
 ·rw[gxG (by rw[gxC];omega)]at e
  have:=gxD e
  have:=List.eq_of_mem_replicate this
  cases this
section
variable {P:Program}{w:World}{K:PySem.W.Frag}{mg:Str->Option Value}{base:Heap}
theorem Fun.okD {x qual:Str}{st:Stmt}{f:Addr}{fd:FuncData}{N ps:List Str}{k:Nat}{fs:DSp}(F:Fun K x qual st f fd)(S:FnScope N ps (defScope st))(len:∀ ds μ Kd,fs ds μ Kd->ds.length=ps.length)
 (hbody:∀(cdv:Value) (A:Around) (outer:List Env) (s:Shared) (H:Hp) (E:XK),Room k (A.deeper (envOfC qual (defScope st) s.heap.objs.size f cdv)) ->
   ∃ W,PDB (cxOf CX0 P w K mg base N qual (defScope st) f cdv A outer s H E).nox (defBody st) W/\∀ ds μ Kd,(∀(j:Nat) (m:MO),μ[j]?=some m->moB μ.length m)->mrL μ.length ds->fs ds μ Kd->W (retN μ.length Kd) (startE N ds) μ):FnOk P w K mg base CX0 (k+1) f fd ps (spD fs):=by
 refine F.ok S (fun vs H Q E h=>?_) (fun cdv A outer s H vs Q E hr h=>?_)
 ·obtain⟨φ,ds,μ,Kd,ha,M,hf,L⟩:=h
  rw[ha.len];exact len ds μ Kd hf
 ·obtain⟨φ,ds,μ,Kd,ha,M,hf,L⟩:=h
  obtain⟨W,hW,q⟩:=hbody cdv A outer s H E hr
  refine⟨_,hW,φ,startE N ds,μ,retN μ.length Kd,.start ha,M,q ds μ Kd M.bound (by rw[<- M.len];exact ha.bound) hf,⟨fun ρ' μ' φ' σ' H' k' f' A' M'=>?_,L.fz M,fun _ _ _ _ _ k' _ _ _=>k'.elim,fun _ _ _ _ _ k' _ _ _=>k'.elim⟩⟩
  exact L.fz M .non μ' φ' .non H' k' f' M' rfl
end
end L2
namespace L2
open PySem PySem.Spec PyProof.Rows
theorem Lif.val {φ:List Addr}{H:Hp}{μ:MS}{K:DK}{Q:VK}{d:D}{v:V}(L:Lif φ H K Q)(M:MSis φ H μ)(k:K d μ)(i:DIs φ H d v):Q v H:=L d μ φ v H k (.refl _ _) M i
def dAdd (m:Bool):DOp:=fun x y μ K=>match x,y with
 | .int i,.int j=>K (.int (i+j)) μ
 | .str i,.str j=>i.length+j.length<=sizeLine/\K (.str (i++j)) μ
 | x,y=>opt (lv μ x) fun xs=>opt (lv μ y) fun ys=>xs.length+ys.length<=sizeLine/\nL m (xs++ys) μ K
theorem so_add {m:Bool}:SoOp rAddC (dAdd m):=fun φ H x y dx dy μ K Q M hx hy k L=>by
 unfold dAdd at k
 split at k
 ·cases(show x=_ from hx);cases(show y=_ from hy);exact L.val M k rfl
 ·cases(show x=_ from hx);cases(show y=_ from hy);exact⟨k.1,L.val M k.2 rfl⟩
 ·obtain⟨xs,ex,k⟩:=opt_ex k
  obtain⟨ys,ey,k⟩:=opt_ex k
  obtain⟨p,vx,rfl,hp,ax⟩:=lv_is M hx ex
  obtain⟨q,vy,rfl,hq,ay⟩:=lv_is M hy ey
  exact⟨vx,vy,hp,hq,by rw[ax.len,ay.len];exact k.1,fun l hl=>al_n L M (ax.app ay) k.2 hl⟩
def dI2 (C:Int->Int->Prop)(g:Int->Int->D):DOp:=fun x y μ K=>match x,y with
 | .int i,.int j=>C i j/\K (g i j) μ
 | _,_=>False
def dI2' (g:Int->Int->D):DOp:=fun x y μ K=>match x,y with
 | .int i,.int j=>K (g i j) μ
 | _,_=>False
theorem so_i2' {g:Int->Int->Int}:SoOp (rI2' fun i j=>.int (g i j)) (dI2' fun i j=>.int (g i j)):=fun φ H x y dx dy μ K Q M hx hy k L=>by
 unfold dI2' at k
 split at k
 ·cases(show x=_ from hx);cases(show y=_ from hy);exact L.val M k rfl
 ·exact k.elim
theorem so_b2' {g:Int->Int->Bool}:SoOp (rI2' fun i j=>.bl (g i j)) (dI2' fun i j=>.bl (g i j)):=fun φ H x y dx dy μ K Q M hx hy k L=>by
 unfold dI2' at k
 split at k
 ·cases(show x=_ from hx);cases(show y=_ from hy);exact L.val M k rfl
 ·exact k.elim
def dEqS (neg:Bool):DOp:=fun x y μ K=>match x,y with
 | .int i,.int j=>K (.bl (neg != decide (i=j))) μ
 | .str i,.str j=>K (.bl (neg != decide (i=j))) μ
 | .bl i,.bl j=>K (.bl (neg != decide (i=j))) μ
 | _,_=>False
theorem so_eqS {neg:Bool}:SoOp (rEqC neg) (dEqS neg):=fun φ H x y dx dy μ K Q M hx hy k L=>by
 unfold dEqS at k
 split at k
 ·cases(show x=_ from hx);cases(show y=_ from hy);exact L.val M k rfl
 ·cases(show x=_ from hx);cases(show y=_ from hy);exact L.val M k rfl
 ·cases(show x=_ from hx);cases(show y=_ from hy);exact L.val M k rfl
 ·exact k.elim
def dIx:DOp:=fun x y μ K=>match x,y with
 | .str z,.int i=>z.length<=sizeLine/\opt (atI z.cps.toList i) fun c=>K (.str ⟨#[c]⟩) μ
 | .tup ds,.int i=>opt (atI ds i) fun d=>K d μ
 | x,.int i=>opt (lv μ x) fun ds=>opt (atI ds i) fun d=>K d μ
 | _,_=>False
theorem DAll.atI {φ:List Addr}{H:Hp}{ds:List D}{vs:List V}{i:Int}{d:D}(h:DAll φ H ds vs)(e:atI ds i=some d):∃ v,atI vs i=some v/\DIs φ H d v:=by
 unfold L2.atI at e ⊢
 rw[h.len]
 cases q:ixN ds.length i with
 | none=>rw[q]at e;cases e
 | some j=>rw[q]at e;exact h.get e
theorem so_ix:SoOp rIxC dIx:=fun φ H x y dx dy μ K Q M hx hy k L=>by
 unfold dIx at k
 split at k
 ·cases(show x=_ from hx);cases(show y=_ from hy)
  obtain⟨c,e,k'⟩:=opt_ex k.2
  exact⟨k.1,opt_of e (L.val M k' rfl)⟩
 ·cases(show y=_ from hy)
  obtain⟨d,e,k⟩:=opt_ex k
  obtain⟨p,vs,rfl,_,hp,ha⟩:=hx
  obtain⟨v,ev,iv⟩:=ha.atI e
  exact⟨vs,.inr hp,opt_of ev (L.val M k iv)⟩
 ·cases(show y=_ from hy)
  obtain⟨ds,el,k⟩:=opt_ex k
  obtain⟨d,e,k⟩:=opt_ex k
  obtain⟨p,vs,rfl,hp,ha⟩:=lv_is M hx el
  obtain⟨v,ev,iv⟩:=ha.atI e
  exact⟨vs,.inl hp,opt_of ev (L.val M k iv)⟩
 ·exact k.elim
abbrev DO:=DE->MS->(Option Int->MS->Prop)->Prop
def tDO (w:DO):TO:=fun σ H Q=>∃ φ ρ μ K,DEnv φ H ρ σ/\MSis φ H μ/\w ρ μ K/\∀ o μ' φ' H',K o μ'->Fr φ H φ' H'->MSis φ' H' μ'->Q o H'
def dNo:DO:=fun _ μ K=>K none μ
def dPart (w:De):DO:=fun ρ μ K=>w ρ μ fun d μ1=>match d with | .int i=>K (some i) μ1 | _=>False
def cutD (ds:List D)(lo hi:Option Int):List D:=(ds.drop (HT.sIx ds.length 0 lo)).take (HT.sIx ds.length ds.length hi - HT.sIx ds.length 0 lo)
def dSlc (m:Bool)(w:De)(l h:DO):De:=fun ρ μ K=>w ρ μ fun x μ1=>l ρ μ1 fun lo μ2=>h ρ μ2 fun hi μ3=>match x with
 | .str z=>z.length<=sizeLine/\K (.str ⟨(cutL z.cps.toList lo hi).toArray⟩) μ3
 | x=>opt (lv μ3 x) fun ds=>nL m (cutD ds lo hi) μ3 K
section
variable {X:Cx}{a b e:Expr}{es:List Expr}{pos:Pos}
theorem PO.imp {e:Option Expr}{t t':TO}(h:PO X e t)(hi:∀ σ H Q,t' σ H Q->t σ H Q):PO X e t':=fun pins s σ H Q I q=>h pins s σ H Q I (hi σ H Q q)
theorem o_no:PO X none (tDO dNo):=po_noC.imp fun σ H Q hq1=>by obtain⟨φ,ρ,μ,K,A,M,k,L⟩:=hq1;exact L none μ φ H k (.refl _ _) M
theorem o_some {w:De}(h:PD X e w):PO X (some e) (tDO (dPart w)):=(po_someC h).imp fun σ H Q ⟨φ,ρ,μ,K,A,M,k,L⟩ =>
 ⟨φ,ρ,μ,_,A,M,k,fun d μ1 φ1 v1 H1 k1 f1 M1 i1=>by
  cases d with
  | int i=>cases(show v1=_ from i1);exact L _ μ1 φ1 H1 k1 f1 M1
  | _=>exact k1.elim⟩
theorem DAll.cut {φ:List Addr}{H:Hp}{ds:List D}{vs:List V}(h:DAll φ H ds vs)(lo hi:Option Int):DAll φ H (cutD ds lo hi) (cutV vs lo hi):=by
 unfold cutD cutV
 rw[h.len]
 exact(h.drop _).take _
theorem d_slice (m:Bool){lo hi:Option Expr}{w:De}{l h:DO}{p:Pos}(ha:PD X a w)(hl:PO X lo (tDO l))(hh:PO X hi (tDO h)):PD X (.Subscript a (.Slice lo hi none p) pos) (dSlc m w l h):=(pe_slice slC ha hl hh).imp fun σ H Q hq=>by
 obtain⟨φ,ρ,μ,K,A,M,k,L⟩:=hq
 refine⟨φ,ρ,μ,_,A,M,k,fun d μ1 φ1 v1 H1 k1 f1 M1 i1=>?_⟩
 refine⟨φ1,ρ,μ1,_,A.mono f1,M1,k1,fun lo μ2 φ2 H2 k2 f2 M2=>?_⟩
 refine⟨φ2,ρ,μ2,_,A.mono (f1.trans f2),M2,k2,fun hi μ3 φ3 H3 k3 f3 M3=>?_⟩
 have i3:=i1.mono (f2.trans f3)
 have L3:=L.mono (f1.trans (f2.trans f3))
 split at k3
 ·cases(show v1=_ from i3);exact⟨k3.1,L3.val M3 k3.2 rfl⟩
 ·obtain⟨ds,el,k⟩:=opt_ex k3
  obtain⟨p,vs,rfl,hp,ha⟩:=lv_is M3 i3 el
  exact⟨vs,hp,fun l hl=>al_n L3 M3 (ha.cut lo hi) k hl⟩
end
def fLen:DSp:=fun ds μ K=>match ds with
 | [.str z]=>z.length<=sizeLine/\K (.int z.length) μ
 | [.tup xs]=>K (.int xs.length) μ
 | [x]=>opt (lv μ x) fun xs=>K (.int xs.length) μ
 | _=>False
theorem so_len:SoCall rLenC fLen:=fun φ H vs ds μ K Q M h k L=>by
 unfold fLen at k
 split at k
 ·obtain⟨v,r,rfl,h1,h2⟩:=h;cases(show r=[]from h2);cases(show v=_ from h1);exact⟨k.1,L.val M k.2 rfl⟩
 ·obtain⟨v,r,rfl,h1,h2⟩:=h;cases(show r=[]from h2)
  obtain⟨p,vs,rfl,_,hp,ha⟩:=h1
  exact⟨vs,.inr hp,by rw[ha.len];exact L.val M k rfl⟩
 ·obtain⟨v,r,rfl,h1,h2⟩:=h;cases(show r=[]from h2)
  obtain⟨xs,el,k⟩:=opt_ex k
  obtain⟨p,vs,rfl,hp,ha⟩:=lv_is M h1 el
  exact⟨vs,.inl hp,by rw[ha.len];exact L.val M k rfl⟩
 ·exact k.elim
def fMaxL:DSp:=fun ds μ K=>match ds with
 | [x]=>∃ ns:List Int,lv μ x=some (ns.map D.int)/\ns≠[]/\∀ m,m∈ns->(∀ y∈ns,y<=m)->K (.int m) μ
 | _=>False
def fAll (g:List Bool->Bool):DSp:=fun ds μ K=>match ds with
 | [x]=>∃ bs:List Bool,lv μ x=some (bs.map D.bl)/\K (.bl (g bs)) μ
 | _=>False
theorem so_all {g:List Bool->Bool}:SoCall (rAllC g) (fAll g):=fun φ H vs ds μ K Q M h k L=>by
 unfold fAll at k
 split at k
 ·obtain⟨v,r,rfl,h1,h2⟩:=h;cases(show r=[]from h2)
  obtain⟨bs,el,k⟩:=k
  obtain⟨p,vs,rfl,hp,ha⟩:=lv_is M h1 el
  exact⟨bs,by rw[hp,ha.bls],L.val M k rfl⟩
 ·exact k.elim
def fCount:DMt:=fun d ds μ K=>match d,ds with
 | .str z,[.str y]=>∃ c:Nat,y=⟨#[c]⟩/\K (.int ((z.cps.toList.count c:Nat):Int)) μ
 | _,_=>False
theorem so_count {Kf:PySem.W.Frag}:SoMt Kf "str" rCountC fCount:=fun φ H x vs d ds μ K Q M hx h k L=>by
 unfold fCount at k
 split at k
 ·cases(show x=_ from hx)
  obtain⟨v,r,rfl,h1,h2⟩:=h;cases(show r=[]from h2);cases(show v=_ from h1)
  obtain⟨c,rfl,k⟩:=k
  exact⟨c,rfl,L.val M k rfl⟩
 ·exact k.elim
theorem mr_at {φ:List Addr}{H:Hp}{μ:MS}{k:Nat}{x:V}{ds:List D}(M:MSis φ H μ)(hx:DIs φ H (.mr k) x)(e:μ[k]?=some (.lst ds)):∃ p vs,x=.ref p/\φ[k]?=some p/\H p=some (.lst vs)/\DAll φ H ds vs:=by
 obtain⟨p,hp,rfl⟩:=hx
 obtain⟨q,e1,vs,hv,ha⟩:=M.at_ k _ e
 rw[hp]at e1;cases e1
 exact⟨p,vs,rfl,hp,hv,ha⟩
theorem mr_put {φ:List Addr}{H:Hp}{μ:MS}{K:DK}{Q:VK}{k:Nat}{p:Addr}{ds:List D}{vs:List V}{d:D}{v:V}(L:Lif φ H K Q)(M:MSis φ H μ)(hp:φ[k]?=some p)(ha:DAll φ H ds vs)(hd:DIs φ H d v)(kk:K d (μ.set k (.lst ds))):Q v (upd H p (.lst vs)):=by
 have f:Fr φ H φ (upd H p (.lst vs)):=.put (gxD hp)
 exact L d _ φ v _ kk f (M.put hp ⟨_,upd_same,ha.mono f⟩) (hd.mono f)
def fAppend:DMt:=fun d ds μ K=>match d,ds with
 | .mr k,[y]=>opt (lvM μ k) fun xs=>xs.length<sizeLine/\K .non (μ.set k (.lst (xs++[y])))
 | _,_=>False
theorem so_append {Kf:PySem.W.Frag}:SoMt Kf "list" rAppendC fAppend:=fun φ H x vs d ds μ K Q M hx h k L=>by
 unfold fAppend at k
 split at k
 ·obtain⟨xs,em,k⟩:=opt_ex k
  ·obtain⟨p,us,rfl,hp,hv,ha⟩:=mr_at M hx (lvM_eq em)
   obtain⟨v,r,rfl,h1,h2⟩:=h;cases(show r=[]from h2)
   exact⟨_,_,us,rfl,rfl,hv,by rw[ha.len];exact k.1,mr_put (d:=.non) (v:=.non) L M hp (ha.app (show DAll φ H [_] [v]from⟨v,[],rfl,h1,rfl⟩)) rfl k.2⟩
 ·exact k.elim
section
variable {X:Cx}
def rPopC:V->List V->Hp->VK->Prop:=fun x vs H Q=>match x,vs with
 | .ref l,[]=>∃ xs y,H l=some (.lst xs)/\xs[xs.length - 1]?=some y/\Q y (upd H l (.lst xs.dropLast))
 | _,_=>False
theorem popL:MtR X "list.pop" rPopC:=MtR.imp mt_pop fun x vs H Q q=>by
 unfold rPopC at q
 split at q
 ·obtain⟨xs,y,a,b,c⟩:=q;exact⟨_,xs,y,rfl,rfl,a,b,c⟩
 ·exact q.elim
def rExtendC:V->List V->Hp->VK->Prop:=fun x vs H Q=>match x,vs with
 | .ref l,[.ref b]=>∃ xs zs,H l=some (.lst xs)/\H b=some (.lst zs)/\xs.length+zs.length<=sizeLine/\Q .non (upd H l (.lst (xs++zs)))
 | _,_=>False
theorem extendC:MtR X "list.extend" rExtendC:=MtR.imp mt_extend fun x vs H Q q=>by
 unfold rExtendC at q
 split at q
 ·obtain⟨xs,zs,a,b,c,d⟩:=q;exact⟨_,_,xs,zs,rfl,rfl,a,b,c,d⟩
 ·exact q.elim
end
theorem DAll.dropLast {φ:List Addr}{H:Hp}{ds:List D}{vs:List V}(h:DAll φ H ds vs):DAll φ H ds.dropLast vs.dropLast:=by
 rw[List.dropLast_eq_take,List.dropLast_eq_take,h.len]
 exact h.take _
def fPop:DMt:=fun d ds μ K=>match d,ds with
 | .mr k,[]=>opt (lvM μ k) fun xs=>opt (xs[xs.length - 1]?) fun y=>K y (μ.set k (.lst xs.dropLast))
 | _,_=>False
theorem so_pop {Kf:PySem.W.Frag}:SoMt Kf "list" rPopC fPop:=fun φ H x vs d ds μ K Q M hx h k L=>by
 unfold fPop at k
 split at k
 ·obtain⟨xs,em,k⟩:=opt_ex k
  ·obtain⟨p,us,rfl,hp,hv,ha⟩:=mr_at M hx (lvM_eq em)
   cases(show vs=[]from h)
   obtain⟨y,ey,k⟩:=opt_ex k
   obtain⟨v,ev,iv⟩:=ha.get ey
   exact⟨us,v,hv,by rw[ha.len];exact ev,mr_put (d:=y) L M hp ha.dropLast iv k⟩
 ·exact k.elim
def fExtend:DMt:=fun d ds μ K=>match d,ds with
 | .mr k,[y]=>opt (lvM μ k) fun xs=>opt (lv μ y) fun zs=>xs.length+zs.length<=sizeLine/\K .non (μ.set k (.lst (xs++zs)))
 | _,_=>False
theorem so_extend {Kf:PySem.W.Frag}:SoMt Kf "list" rExtendC fExtend:=fun φ H x vs d ds μ K Q M hx h k L=>by
 unfold fExtend at k
 split at k
 ·obtain⟨xs,em,k⟩:=opt_ex k
  obtain⟨zs,el,k⟩:=opt_ex k
  ·obtain⟨p,us,rfl,hp,hv,ha⟩:=mr_at M hx (lvM_eq em)
   obtain⟨v,r,rfl,h1,h2⟩:=h;cases(show r=[]from h2)
   obtain⟨q,ws,rfl,hq,hz⟩:=lv_is M h1 el
   exact⟨us,ws,hv,hq,by rw[ha.len,hz.len];exact k.1,mr_put (d:=.non) (v:=.non) L M hp (ha.app hz) rfl k.2⟩
 ·exact k.elim
mutual
def deq:D->D->Bool
 | .non,.non=>true
 | .bl a,.bl b=>a==b
 | .bl a,.int b=>(if a then 1 else 0)==b
 | .int a,.bl b=>a==(if b then 1 else 0)
 | .int a,.int b=>a==b
 | .str a,.str b=>a==b
 | .lst xs,.lst ys=>deqL xs ys
 | .tup xs,.tup ys=>deqL xs ys
 | _,_=>false
def deqL:List D->List D->Bool
 | [],[]=>true
 | x::xs,y::ys=>deq x y&&deqL xs ys
 | _,_=>false
end
end L2
namespace L2
open PySem PySem.Spec PyProof.Rows
def fltD:D->Bool
 | .non=>true
 | .bl _=>true
 | .int _=>true
 | .str _=>true
 | _=>false
section
variable {X:Cx}
def rInC (neg:Bool):R2:=fun x y H Q=>match x,y with
 | .str z,.str t=>∃ c:Nat,z=⟨#[c]⟩/\Q (.bl (neg != decide (c∈t.cps.toList))) H
 | x,.ref p=>∃ xs,(H p=some (.lst xs)\/H p=some (.tup xs))/\flatV x=true/\xs.all flatV=true/\Q (.bl (neg != inV x xs)) H
 | _,_=>False
theorem inC:OpR X (compareOp .In) (rInC false):=(op_in_str.or op_in_seq).imp fun x y H Q q=>by
 unfold rInC at q
 split at q
 ·obtain⟨c,rfl,q⟩:=q
  exact .inl ⟨_,_,rfl,rfl,by rw[StrLaws.found_one];rw[fne]at q;exact q⟩
 ·obtain⟨xs,h,h1,h2,q⟩:=q
  rw[fne]at q
  rcases h with h | h
  ·exact .inr ⟨_,xs,rfl,.inl (SqL.of h),h1,h2,q⟩
  ·exact .inr ⟨_,xs,rfl,.inr (SqT.of h),h1,h2,q⟩
 ·exact q.elim
end
def dIn (neg:Bool):DOp:=fun x y μ K=>match x,y with
 | .str z,.str t=>∃ c:Nat,z=⟨#[c]⟩/\K (.bl (neg != decide (c∈t.cps.toList))) μ
 | x,y=>opt (lv μ y) fun ds=>fltD x=true/\ds.all fltD=true/\K (.bl (neg != ds.any fun d=>deq d x)) μ
theorem flt_is {φ:List Addr}{H:Hp}{d:D}{v:V}(i:DIs φ H d v)(h:fltD d=true):flatV v=true:=by
 cases d <;> first | exact(Bool.noConfusion (show false=true from h)) | (cases(show v=_ from i);rfl)
theorem flt_eq {φ:List Addr}{H:Hp}{d e:D}{v u:V}(i:DIs φ H d v)(j:DIs φ H e u)(h:fltD d=true)(h':fltD e=true):eqV v u=deq d e:=by
 cases d <;> first
  | exact(Bool.noConfusion (show false=true from h))
  | (cases(show v=_ from i)
     cases e <;> first
      | exact(Bool.noConfusion (show false=true from h'))
      | (cases(show u=_ from j);unfold eqV deq;rfl))
theorem flt_all {φ:List Addr}{H:Hp}{x:D}{v:V}(i:DIs φ H x v)(hx:fltD x=true):∀ {ds:List D} {vs:List V},DAll φ H ds vs->ds.all fltD=true->vs.all flatV=true/\inV v vs=ds.any fun d=>deq d x
 | [],_,h,_=>by cases(show _=[]from h);exact⟨rfl,rfl⟩
 | d::ds,_,h,f=>by
  obtain⟨u,r,rfl,h1,h2⟩:=h
  rw[cI,aQ]at f
  obtain⟨a,b⟩:=flt_all i hx h2 f.2
  unfold inV at b ⊢
  rw[cI,List.any_cons,List.any_cons,a,b,flt_is h1 f.1,flt_eq h1 i f.1 hx]
  exact⟨rfl,rfl⟩
theorem so_in {neg:Bool}:SoOp (rInC neg) (dIn neg):=fun φ H x y dx dy μ K Q M hx hy k L=>by
 unfold dIn at k
 split at k
 ·cases(show x=_ from hx);cases(show y=_ from hy)
  obtain⟨c,rfl,k⟩:=k
  exact⟨c,rfl,L.val M k rfl⟩
 ·obtain⟨ds,el,f1,f2,k⟩:=opt_ex k
  obtain⟨p,vs,rfl,hp,ha⟩:=lv_is M hy el
  obtain⟨a,b⟩:=flt_all hx f1 ha f2
  have fx:=flt_is hx f1
  have key:∃ xs,(H p=some (.lst xs)\/H p=some (.tup xs))/\flatV x=true/\xs.all flatV=true/\Q (.bl (neg != inV x xs)) H:=⟨vs,.inl hp,fx,a,by rw[b];exact L.val M k rfl⟩
  unfold rInC
  cases x <;> exact key
def tyN:D->MS->Option String
 | .non,_=>some "NoneType"
 | .bl _,_=>some "bool"
 | .int _,_=>some "int"
 | .str _,_=>some "str"
 | .lst _,_=>some "list"
 | .tup _,_=>some "tuple"
 | .dic _ _,_=>some "dict"
 | .mr k,μ=>match μ[k]? with | some (.lst _)=>some "list" | some (.dic _ _)=>some "dict" | _=>none
 | .obj _ _ _,_=>none
 | .fdc _ _,_=>none
 | .fn _,_=>none
def isiT (t T:String):Bool:=t==T||(t == "bool"&&T == "int")
def dIsi (T:String)(w:De):De:=fun ρ μ K=>w ρ μ fun d μ1=>opt (tyN d μ1) fun t=>K (.bl (isiT t T)) μ1
theorem kit_ok (K:PySem.W.Frag){t T:String}(ht:t∈["NoneType", "bool", "int", "str", "list", "tuple", "dict"])(hT:T∈["bool", "int", "str", "list", "tuple", "dict"]):PySem.W.kitOne K (.type t) (.type T)=some (isiT t T):=by
 simp only[bw,bb,cG]at ht hT
 rcases ht with rfl | rfl | rfl | rfl | rfl | rfl | rfl <;> rcases hT with rfl | rfl | rfl | rfl | rfl | rfl <;> first | rfl | exact kit_same K _
theorem tyN_is {φ:List Addr}{H:Hp}{μ:MS}{Kf:PySem.W.Frag}{d:D}{v:V}{t:String}(M:MSis φ H μ)(i:DIs φ H d v)(e:tyN d μ=some t):TyOf Kf H v (.type t)/\t∈["NoneType", "bool", "int", "str", "list", "tuple", "dict"]:=by
 cases d with
 | non=>cases e;cases(show v=_ from i);exact⟨.non,by simp⟩
 | bl b=>cases e;cases(show v=_ from i);exact⟨.bl b,by simp⟩
 | int b=>cases e;cases(show v=_ from i);exact⟨.int b,by simp⟩
 | str b=>cases e;cases(show v=_ from i);exact⟨.str b,by simp⟩
 | lst ds=>cases e;obtain⟨p,vs,rfl,_,hp,_⟩:=i;exact⟨.lst hp,by simp⟩
 | tup ds=>cases e;obtain⟨p,vs,rfl,_,hp,_⟩:=i;exact⟨.tup hp,by simp⟩
 | dic ks ds=>cases e;obtain⟨p,kvs,vs,rfl,_,hp,_⟩:=i;exact⟨.dK hp,by simp⟩
 | obj _ _ _=>cases e
 | fdc _ _=>cases e
 | fn _=>cases e
 | mr k =>
  unfold tyN at e
  dsimp only at e
  obtain⟨p,hp,rfl⟩:=i
  cases em:μ[k]? with
  | none=>rw[em]at e;cases e
  | some m =>
   rw[em]at e
   obtain⟨q,e1,e2⟩:=M.at_ k m em
   rw[hp]at e1;cases e1
   cases m with
   | box=>cases e
   | lst ds=>cases e;obtain⟨vs,hv,_⟩:=e2;exact⟨.lst hv,by simp⟩
   | dic ks ds=>cases e;obtain⟨kvs,vs,hv,_⟩:=e2;exact⟨.dK hv,by simp⟩
   | _=>cases e
theorem d_isi {X:Cx}{a:Expr}{w:De}{T:String}{x:Str}{p p2 pos:Pos}(hT:T∈["bool", "int", "str", "list", "tuple", "dict"])(hg:Gl X "isinstance")(hm:X.mg "isinstance"=none)(hg2:Gl X x)(hm2:X.mg x=none)(hv:bootBuiltins x=some (.type T))(ha:PD X a w)(hn:x ≠ "__name__":=by decide)(hd:(x==("__debug__" : Str))=false:=by decide)
 (hs:starEach [a,.Name x p2] X.env=(false,eval a X.env)::starEach [.Name x p2] X.env:=by rfl) (hs2:starEach [.Name x p2] X.env=(false,eval (.Name x p2) X.env)::starEach [] X.env:=by rfl) (hpl:(backTo pos (starEach [.Name x p2] X.env)).any (·.1)=false:=by rfl) :
 PD X (.Call (.Name "isinstance" p) [a,.Name x p2] [] pos) (dIsi T w) :=
 (pe_callB isiC hg hm boot_isinstance (pa_cons ha (pa_cons (pe_bltn (v:=.ty T) hg2 hm2 hv rfl hn hd) pa_nil hs2) hs) (by decide) (by decide) hs hpl).imp fun σ H Q hq=>by
  obtain⟨φ,ρ,μ,K,A,M,k,L⟩:=hq
  refine⟨φ,ρ,μ,_,A,M,k,fun d μ1 φ1 v1 H1 k1 f1 M1 i1=>?_⟩
  obtain⟨t,et,k1⟩:=opt_ex k1
  obtain⟨h1,h2⟩:=tyN_is M1 i1 et
  exact⟨.type t,isiT t T,h1,kit_ok X.K h2 hT,L _ μ1 φ1 _ H1 k1 f1 M1 rfl⟩
def BxQ (H:Hp)(b q:Addr):Prop:=∃(ns:List Int) (i r z:Int),H b=some (.lst [.ref q,.int i,.int r,.int z])/\H q=some (.lst (ns.map V.int))/\q≠b/\0<=i/\0<=z/\z<2147483647
def spTakeQ:Sp:=fun vs H Q _=>match vs with
 | [.ref b,.int n]=>∃ q,BxQ H b q/\0<n/\n<1073741824/\∀ v H',0<=v->v<n->BxQ H' b q->OB b H H'->Q (.int v) H'
 | _=>False
theorem spTakeQ_inv {vs:List V}{H:Hp}{Q:VK}{E:XK}(h:spTakeQ vs H Q E):∃ b n q,vs=[.ref b,.int n]/\BxQ H b q/\0<n/\n<1073741824/\∀ v H',0<=v->v<n->BxQ H' b q->OB b H H'->Q (.int v) H':=by
 unfold spTakeQ at h
 split at h
 ·obtain⟨q,h⟩:=h;exact⟨_,_,q,rfl,h⟩
 ·exact h.elim
def fTake:DSp:=fun ds μ K=>match ds with
 | [.mr k,.int n]=>μ[k]?=some .box/\0<n/\n<1073741824/\∀ v,0<=v->v<n->K (.int v) μ
 | _=>False
theorem take_imp {vs:List V}{H:Hp}{Q:VK}{E:XK}(h:spD fTake vs H Q E):spTakeQ vs H Q E:=by
 obtain⟨φ,ds,μ,K,ha,M,k,L⟩:=h
 unfold fTake at k
 split at k
 ·rename_i kk n
  obtain⟨v,r,rfl,h1,u,r',rfl,h2,h3⟩:=ha
  cases(show r'=[]from h3);cases(show u=_ from h2)
  obtain⟨b,hb,rfl⟩:=h1
  obtain⟨em,hn,hn2,k⟩:=k
  obtain⟨b',e1,q,ns,i,r,z,g1,g2,g3,g4,g5,g6⟩:=M.at_ kk _ em
  rw[hb]at e1;cases e1
  have bin:b∈φ:=gxD hb
  have qb:q≠b:=fun e=>g3 (by rw[e];exact bin)
  refine⟨q,⟨ns,i,r,z,g1,g2,qb,g4,g5,g6⟩,hn,hn2,fun v H' v0 v1 B' ob=>?_⟩
  obtain⟨ns',i',r',z',b1,b2,b3,b4,b5,b6⟩:=B'
  have f:Fr φ H φ H':=⟨⟨[],by simp,fun _ h=>nomatch h⟩,fun c o hc e=>(ob c (fun e'=>hc (by rw[e'];exact bin))).trans e,fun c e=>by
   by_cases hc:c=b
   ·rw[hc,b1]at e;cases e
   ·rw[<- ob c hc];exact e⟩
  refine L _ μ φ _ H' (k v v0 v1) f ⟨M.nd,M.len,fun j m ej=>?_⟩ rfl
  by_cases hj:j=kk
  ·subst hj
   rw[em]at ej;cases ej
   exact⟨b,hb,q,ns',i',r',z',b1,b2,g3,b4,b5,b6⟩
  ·obtain⟨p,e1,e2⟩:=M.at_ j m ej
   refine⟨p,e1,e2.mono f fun o eo=>?_⟩
   have pb:p≠b:=fun e=>by
    subst e
    obtain⟨i1,r1⟩:=gxB hb
    obtain⟨i2,r2⟩:=gxB e1
    rcases Nat.lt_or_gt_of_ne hj with z | z
    ·exact List.pairwise_iff_getElem.mp M.nd j kk i2 i1 z (r2.trans r1.symm)
    ·exact List.pairwise_iff_getElem.mp M.nd kk j i1 i2 z (r1.trans r2.symm)
   rw[ob p pb];exact eo
 ·exact k.elim
def spBoxQ (K:PySem.W.Frag):Sp:=fun vs H Q _=>match vs with
 | [.ref a]=>∃ ns:List Int,SqL K H a (ns.map V.int)/\∀ b q H',BxQ H' b q->H b=none->H q=none->Same H H'->Q (.ref b) H'
 | _=>False
theorem box_start {H:Hp}{b q:Addr}(h:BxQ H b q):MSis [b] H [.box]:=by
 obtain⟨ns,i,r,z,h1,h2,h3,h4,h5,h6⟩:=h
 refine⟨by simp,rfl,fun k m e=>?_⟩
 cases k with
 | zero=>cases e;exact⟨b,rfl,q,ns,i,r,z,h1,h2,by simpa using h3,h4,h5,h6⟩
 | succ k=>simp at e
mutual
def smD:Nat->D->Prop
 | n+1,.lst ds=>ds.length<=100000/\smL n ds
 | n+1,.tup ds=>ds.length<=100000/\smL n ds
 | 0,.lst _=>False
 | 0,.tup _=>False
 | _,.dic _ _=>False
 | _,.mr _=>False
 | _,.obj _ _ _=>False
 | _,.fdc _ _=>False
 | _,.fn _=>False
 | _,_=>True
def smL:Nat->List D->Prop
 | _,[]=>True
 | n,d::ds=>smD n d/\smL n ds
end
theorem smL_all {n:Nat}:∀ {ds:List D},(∀ d∈ds,smD n d)->smL n ds
 | [],_=>by unfold smL;trivial
 | d::ds,h=>by unfold smL;exact⟨h d ae,smL_all fun x hx=>h x (gxI _ hx)⟩
theorem sm_lst {n:Nat}{ds:List D}(hl:ds.length<=100000)(h:∀ d∈ds,smD n d):smD (n+1) (.lst ds):=⟨hl,smL_all h⟩
theorem sm_tup {n:Nat}{ds:List D}(hl:ds.length<=100000)(h:∀ d∈ds,smD n d):smD (n+1) (.tup ds):=⟨hl,smL_all h⟩
theorem sm_int {n:Nat}{i:Int}:smD n (.int i):=by cases n <;> trivial
theorem sm_str {n:Nat}{i:Str}:smD n (.str i):=by cases n <;> trivial
mutual
def toDV:D->DV
 | .non=>.non
 | .bl b=>.bl b
 | .int i=>.int i
 | .str z=>.str z
 | .lst ds=>.lst (toDVs ds)
 | .tup ds=>.tup (toDVs ds)
 | _=>.non
def toDVs:List D->List DV
 | []=>[]
 | d::ds=>toDV d::toDVs ds
end
theorem toDVs_len:∀ ds:List D,(toDVs ds).length=ds.length
 | []=>rfl
 | d::ds=>by unfold toDVs;rw[ah,ah,toDVs_len ds]
mutual
theorem sm_dv {φ:List Addr}{H:Hp}:∀ {n:Nat} {d:D},smD n d->(∀ v,DIs φ H d v->Is H (toDV d) v)/\dep (toDV d)<=n/\wid (toDV d)<=100000:=fun {n d} h=>by
 cases d with
 | lst ds =>
  cases n with
  | zero=>exact absurd h id
  | succ n =>
   have h:_/\smL n _:=h
   obtain⟨a,b,c⟩:=sm_dvs (φ:=φ) (H:=H) h.2
   refine⟨fun v hv=>?_,?_,?_⟩
   ·obtain⟨p,vs,rfl,_,hp,q⟩:=hv
    unfold toDV
    exact⟨p,vs,rfl,hp,a vs q⟩
   ·unfold toDV dep;omega
   ·have:=toDVs_len ds
    unfold toDV wid;omega
 | tup ds =>
  cases n with
  | zero=>exact absurd h id
  | succ n =>
   have h:_/\smL n _:=h
   obtain⟨a,b,c⟩:=sm_dvs (φ:=φ) (H:=H) h.2
   refine⟨fun v hv=>?_,?_,?_⟩
   ·obtain⟨p,vs,rfl,_,hp,q⟩:=hv
    unfold toDV
    exact⟨p,vs,rfl,hp,a vs q⟩
   ·unfold toDV dep;omega
   ·have:=toDVs_len ds
    unfold toDV wid;omega
 | non=>exact⟨fun v hv=>hv,a6 _,a6 _⟩
 | bl b=>exact⟨fun v hv=>hv,a6 _,a6 _⟩
 | int b=>exact⟨fun v hv=>hv,a6 _,a6 _⟩
 | str b=>exact⟨fun v hv=>hv,a6 _,a6 _⟩
 | dic _ _=>exact absurd h (by cases n <;> exact id)
 | mr _=>exact absurd h (by cases n <;> exact id)
 | obj _ _ _=>exact absurd h (by cases n <;> exact id)
 | fdc _ _=>exact absurd h (by cases n <;> exact id)
 | fn _=>exact absurd h (by cases n <;> exact id)
theorem sm_dvs {φ:List Addr}{H:Hp}:∀ {n:Nat} {ds:List D},smL n ds->(∀ vs,DAll φ H ds vs->IsAll H (toDVs ds) vs)/\depL (toDVs ds)<=n/\widL (toDVs ds)<=100000:=fun {n ds} h=>by
 cases ds with
 | nil=>exact⟨fun vs hv=>hv,a6 _,a6 _⟩
 | cons d ds =>
  unfold smL at h
  obtain⟨a,b,c⟩:=sm_dv (φ:=φ) (H:=H) h.1
  obtain⟨a',b',c'⟩:=sm_dvs (φ:=φ) (H:=H) h.2
  refine⟨fun vs hv=>?_,?_,?_⟩
  ·obtain⟨v,r,rfl,h1,h2⟩:=hv
   unfold toDVs
   exact⟨v,r,rfl,a v h1,a' r h2⟩
  ·unfold toDVs depL;omega
  ·unfold toDVs widL;omega
end
def frzD (μ:MS):D->Option D
 | .mr k=>(lvM μ k).map .lst
 | x=>some x
theorem frzD_is {φ:List Addr}{H:Hp}{μ:MS}{x d:D}{v:V}{n:Nat}(M:MSis φ H μ)(e:frzD μ x=some d)(hs:smD n d)(h:DIs φ H x v):Is H (toDV d) v:=by
 cases x with
 | mr k =>
  obtain⟨p,hp,rfl⟩:=h
  have e':(lvM μ k).map D.lst=some d:=e
  cases q:lvM μ k with
  | none=>rw[q]at e';cases e'
  | some ds =>
   rw[q]at e';cases e'
   obtain⟨p',e1,vs,hv,ha⟩:=M.at_ k _ (lvM_eq q)
   rw[hp]at e1;cases e1
   cases n with
   | zero=>exact absurd hs id
   | succ n =>
    have hs:_/\smL n _:=hs
    unfold toDV
    exact⟨p,vs,rfl,hv,(sm_dvs (φ:=φ) (H:=H) hs.2).1 vs ha⟩
 | non=>cases e;exact(sm_dv (φ:=φ) (H:=H) hs).1 v h
 | bl b=>cases e;exact(sm_dv (φ:=φ) (H:=H) hs).1 v h
 | int b=>cases e;exact(sm_dv (φ:=φ) (H:=H) hs).1 v h
 | str b=>cases e;exact(sm_dv (φ:=φ) (H:=H) hs).1 v h
 | lst b=>cases e;exact(sm_dv (φ:=φ) (H:=H) hs).1 v h
 | tup b=>cases e;exact(sm_dv (φ:=φ) (H:=H) hs).1 v h
 | obj _ _ _=>cases e;exact(sm_dv (φ:=φ) (H:=H) hs).1 v h
 | fdc _ _=>cases e;exact(sm_dv (φ:=φ) (H:=H) hs).1 v h
 | fn _=>cases e;exact(sm_dv (φ:=φ) (H:=H) hs).1 v h
 | dic _ _=>cases e;exact absurd hs (by cases n <;> exact id)
theorem forW_inv {g:DG}{b:Ds}{N:DN}{c:MS->Prop}(Pv:List D->DE->MS->Prop):∀ {ds:List D} {ρ:DE} {μ:MS},Pv ds ρ μ->(∀ d ds' ρ μ,Pv (d::ds') ρ μ->c μ/\∀(nx:DE->MS->Prop),(∀ ρ' μ',Pv ds' ρ' μ'->nx ρ' μ')->g d ρ μ fun ρ2 μ2=>b { N with nx:=nx,ct:=nx,bk:=N.nx} ρ2 μ2)->(∀ ρ μ,Pv [] ρ μ->c μ/\N.nx ρ μ)->forW g b N c ds ρ μ
 | [],ρ,μ,h,hs,hd=>hd ρ μ h
 | d::ds,ρ,μ,h,hs,hd=>by
  obtain⟨c',st⟩:=hs d ds ρ μ h
  exact⟨c',st _ fun ρ' μ' h'=>forW_inv Pv h' hs hd⟩
end L2
namespace L2
open PySem PySem.Spec PyProof.Rows
structure Bi2 (mg:Str->Option Value):Prop where
 len:mg "len"=none
 range:mg "range"=none
 list:mg "list"=none
 isinstance:mg "isinstance"=none
 max:mg "max"=none
 min:mg "min"=none
 bool:mg "bool"=none
 tuple:mg "tuple"=none
 str:mg "str"=none
 int:mg "int"=none
 all:mg "all"=none
 any:mg "any"=none
 zip:mg "zip"=none
 enumerate:mg "enumerate"=none
 reversed:mg "reversed"=none
 dict:mg "dict"=none
 sorted:mg "sorted"=none
abbrev txt (l:List Nat):Str:=⟨l.toArray⟩
structure Cuts (n:Int)(cs:List Int):Prop where
 inn:∀ c∈cs,1<=c/\c<n
 up:cs.Pairwise (·<·)
abbrev Tk:=List Nat×Int
def tkD (t:Tk):D:=.tup [.str (txt t.1),.int t.2]
structure Takes (n:Int)(ts:List Tk):Prop where
 few:ts.length<=20
 ok:∀ t∈ts,(t.1.length:Int)=n/\OX t.1/\0<=t.2/\t.2<=60
theorem sz {n:Nat}(h:n<=100000):n<=sizeLine:=aD h (by decide)
theorem szS {n:Nat}(h:n<=100000):n<sizeLine:=bA h (by decide)
def cutN (l:List Nat)(a b:Int):List Nat:=cutL l (some a) (some b)
def bad (ts:List Tk)(p:Int×Int):Bool:=ts.all fun t=>decide (120∈cutN t.1 p.1 p.2)
theorem atI_map {α β:Type}{g:α->β}{xs:List α}{i:Nat}{a:α}(h:xs[i]?=some a):atI (xs.map g) (i:Int)=some (g a):=atI_nat (by rw[gxH,h];rfl)
theorem set_end {μ:MS}{x y:MO}:(μ++[x]).set μ.length y=μ++[y]:=by
 rw[c9 _ _ (aa _),br];rfl
theorem law_env {m:Nat}{b:Addr}{H:Hp}{x:Option V}:DEnv [b] H (none::some (.mr 0)::List.replicate m none) (x::some (.ref b)::List.replicate m none):=by
 refine⟨by simp,fun i d e=>?_⟩
 cases i with
 | zero=>cases e
 | succ i =>
  cases i with
  | zero=>cases e;exact⟨_,rfl,b,rfl,rfl⟩
  | succ i =>
   have:=List.eq_of_mem_replicate (gxD (show(List.replicate m (none:Option D))[i]?=some (some d)from e))
   cases this
def lawN:DN:={ nx:=fun _ _=>False,rt:=fun d _=>d=.bl true}
theorem law_go {m:Nat}{b q a:Addr}{H:Hp}{Q:VK}{W:Ds}(B:BxQ H b q)(w:W lawN (none::some (.mr 0)::List.replicate m none) [.box])(k:∀ H',Q (.bl true) H'):tDS W { nx:=fun _ H'=>Q .non H',rt:=Q} (some (.ref a)::some (.ref b)::List.replicate m none) H :=
 ⟨[b],_,[.box],lawN,law_env,box_start B,w,⟨fun _ _ _ _ _ z=>z.elim,fun d μ' φ' v H' kd _ _ i=>by cases(show d=.bl true from kd);cases(show v=_ from i);exact k H',fun _ _ _ _ _ z=>z.elim,fun _ _ _ _ _ z=>z.elim⟩⟩
section
variable {κ:Type}[DecidableEq κ]
def dropK (kvs:List (κ×V))(k:κ):List (κ×V):=kvs.filter fun kv=>decide (kv.1≠k)
theorem KV.drop {kvs:List (κ×V)}{vs:List (κ×Value)}(r:KV kvs vs)(k:κ):KV (dropK kvs k) (without vs k):=by
 unfold KV at r ⊢
 unfold dropK without
 induction r with
 | nil=>exact .nil
 | @cons p q ps qs h t ih =>
  obtain⟨h1,h2⟩:=h
  rw[cC,cC]
  by_cases e:p.1=k
  ·have a:¬ decide (p.1≠k)=true:=by simp[e]
   have b:¬ decide (q.1≠k)=true:=by simp[h1.symm.trans e]
   rw[ai a,ai b];exact ih
  ·have e':¬ q.1=k:=fun z=>e (h1.trans z)
   have a:decide (p.1≠k)=true:=by simp[e]
   have b:decide (q.1≠k)=true:=by simp[e']
   rw[aE a,aE b];exact .cons ⟨h1,h2⟩ ih
theorem KV.length {kvs:List (κ×V)}{vs:List (κ×Value)}(r:KV kvs vs):kvs.length=vs.length:=Paired.length r
end
structure M1 (X:Cx)(o:Expr)(m:Str)(apos:Pos)(e:Expr)(cpos:Pos):Prop where
 base:attributeBase o m X.env (eval o X.env)=eval o X.env
 few:((backTo cpos (starEach [e] X.env)).all (fun x=>!x.1)&&(backToKw cpos (keywordEach [] X.env)).all (fun x=>x.1.isSome)
  && decide (([e]:List Expr).length+([]:List Keyword).length+(if([]:List Keyword).isEmpty then 0 else 1)<30))=true
 line:(apos.endLine==cpos.line)=true
 trees:backTo cpos (starEach [e] X.env)=[(false,eval e X.env)]
structure M2 (X:Cx)(o:Expr)(m:Str)(apos:Pos)(e f:Expr)(cpos:Pos):Prop where
 base:attributeBase o m X.env (eval o X.env)=eval o X.env
 few:((backTo cpos (starEach [e,f] X.env)).all (fun x=>!x.1)&&(backToKw cpos (keywordEach [] X.env)).all (fun x=>x.1.isSome)
  && decide (([e,f]:List Expr).length+([]:List Keyword).length+(if([]:List Keyword).isEmpty then 0 else 1)<30))=true
 line:(apos.endLine==cpos.line)=true
 trees:backTo cpos (starEach [e,f] X.env)=[(false,eval e X.env),(false,eval f X.env)]
def clN (l:List Nat)(e:Nat):Nat:=e+((l.drop e).takeWhile (·==111)).length
def farF (es:List Int)(l:List Nat)(e:Int):Int:=(es.filter fun x=>decide (x<=(clN l e.toNat:Int))).foldl max e
structure RowOk (es row:List Int):Prop where
 len:row.length=es.length
 mem:∀ x∈row,x∈es
structure Shelf (n:Int)(cs:List Int)(ts:List Tk):Prop where
 n1:1<=n
 n2:n<=1000
 few:cs.length<=1000
 cuts:Cuts n cs
 takes:Takes n ts
theorem lvM_app {μ g:MS}{j:Nat}{ds:List D}(h:lvM μ j=some ds):lvM (μ++g) j=some ds:=lvM_of (by rw[gxF (gxB (lvM_eq h)).1];exact lvM_eq h)
theorem old_app {μ g:MS}(hm:∀(j:Nat) (m:MO),μ[j]?=some m->moB μ.length m):∀(j:Nat) (m:MO),j<μ.length->(μ++g)[j]?=some m->moB μ.length m:=fun j m hj e=>by
 rw[gxF hj]at e;exact hm j m e
theorem lvM_ty {μ:MS}{k:Nat}{ds:List D}(h:lvM μ k=some ds):TyD "list" μ (.mr k):=by show(match μ[k]? with | some (.lst _) => "list" = "list" | some (.dic _ _) => "list" = "dict" | _=>False);rw[lvM_eq h]
end L2
namespace L2
theorem nLf {ds:List D}{μ:MS}{K:DK}(h:K (.lst ds) μ):nL false ds μ K:=h
end L2
namespace L2
open PySem PySem.Spec PyProof.Rows
def Rises (row:List Int):Prop:=∀(i j:Nat) (a b:Int),i<=j->row[i]?=some a->row[j]?=some b->a<=b
structure RowGood (es:List Int)(ts:List Tk)(a:Int)(row:List Int):Prop where
 ok:RowOk es row
 up:Rises row
 ge:∀(i:Nat) (x e:Int),row[i]?=some x->es[i]?=some e->e<=x
 far:∀(i:Nat) (x e:Int),row[i]?=some x->es[i]?=some e->∀ t∈ts,t.2<=a->farF es t.1 e<=x
structure GoodTo (es:List Int)(ts:List Tk)(a:Int)(row:List Int)(k:Nat):Prop where
 mem:∀(i:Nat) (x:Int),i<k->row[i]?=some x->x∈es
 up:∀(i j:Nat) (x y:Int),i<=j->j<k->row[i]?=some x->row[j]?=some y->x<=y
 ge:∀(i:Nat) (x e:Int),i<k->row[i]?=some x->es[i]?=some e->e<=x
 far:∀(i:Nat) (x e:Int),i<k->row[i]?=some x->es[i]?=some e->∀ t∈ts,t.2<=a->farF es t.1 e<=x
theorem GoodTo.all {es:List Int}{ts:List Tk}{a:Int}{row:List Int}(g:GoodTo es ts a row row.length)(hl:row.length=es.length):RowGood es ts a row:=by
 have lt:∀ {i:Nat} {x:Int},row[i]?=some x->i<row.length:=fun e=>(gxB e).1
 exact⟨⟨hl,fun x hx=>by obtain⟨i,hi,e⟩:=cE hx;exact g.mem i x hi (by rw[gxA hi,e])⟩,fun i j x y hij e1 e2=>g.up i j x y hij (lt e2) e1 e2,fun i x e e1 e2=>g.ge i x e (lt e1) e1 e2,fun i x e e1 e2=>g.far i x e (lt e1) e1 e2⟩
theorem compW_gen {α:Type}{it:D->MS->(Option D->MS->Prop)->Prop}{c:MS->Prop}{μ:MS}(hc:c μ)(g:α->D)(f:α->Option D):∀ {xs:List α} {K:List D->MS->Prop},(∀ x∈xs,∀(K':Option D->MS->Prop),K' (f x) μ->it (g x) μ K')->K (xs.filterMap f) μ->compW it c (xs.map g) μ K
 | [],K,_,k=>⟨hc,k⟩
 | x::xs,K,h,k=>⟨hc,h x ae _ (compW_gen hc g f (fun y hy=>h y (gxI _ hy)) (by
  cases e:f x with
  | none=>rw[List.filterMap_cons_none e]at k;exact k
  | some y=>rw[List.filterMap_cons_some e]at k;exact k))⟩
theorem compW_all {α:Type}{it:D->MS->(Option D->MS->Prop)->Prop}{c:MS->Prop}{μ:MS}(hc:c μ)(g f:α->D){xs:List α}{K:List D->MS->Prop}(h:∀ x∈xs,∀(K':Option D->MS->Prop),K' (some (f x)) μ->it (g x) μ K')(k:K (xs.map f) μ):compW it c (xs.map g) μ K:=by
 refine compW_gen hc g (fun x=>some (f x)) h ?_
 rw[List.filterMap_eq_map']
 exact k
theorem atI_maps {α:Type}{g:α->D}{xs:List α}{k:Nat}{x:α}(h:xs[k]?=some x):atI (xs.map g) (k:Int)=some (g x):=atI_map h
end L2
namespace L2
end L2
namespace L2
open PySem PySem.Spec PyProof.Rows
theorem Room.le {j k:Nat}{A:Around}(r:Room k A)(h:j<=k:=by first | decide | exact aa _ | omega):Room j A:=r.mono h
theorem lo {sc:Scope}{x:Str}(h:Loc sc x:=by first | exact Or.inl rfl | exact Or.inr rfl):Loc sc x:=h
theorem set_app {μ g:MS}{i:Nat}{m:MO}:(μ++g).set (μ.length+i) m=μ++g.set i m:=by
 rw[c9 _ _ (by omega),cV]
theorem lvM_at {μ g:MS}{i:Nat}{ds:List D}(h:g[i]?=some (.lst ds)):lvM (μ++g) (μ.length+i)=some ds:=lvM_of (by rw[gxG (by omega),cV];exact h)
theorem mr_all {n:Nat}:∀ {ds:List D},(∀ d∈ds,mrB n d)->mrL n ds
 | [],_=>by unfold mrL;trivial
 | d::ds,h=>by unfold mrL;exact⟨h d ae,mr_all fun x hx=>h x (gxI _ hx)⟩
end L2
namespace L2
end L2
namespace L2
open PySem PySem.Spec PyProof.Rows
def Itv (l:Addr)(n:Nat):It :=
 ⟨fun i H=>i<n/\∃ xs,H l=some (.lst xs)/\xs.length=n,
  fun i H v H'=>H'=H/\∀ xs,H l=some (.lst xs)->xs[n - 1 - i]?=some v,
  fun i H=>i=n⟩
theorem turn_rev {P:Program}{w:World}{K:PySem.W.Frag}{tg:Expr}(l it:Addr)(n:Nat):Turn P w K tg (Itv l n) [it] it (fun i h=>h.IsRevIter it l ((n:Int) - 1 - (i:Nat))) where
 mem:=by simp
 obj:=fun i h st b hb=>by
  have e:b=it:=by simpa using hb
  subst e
  obtain⟨o,e,c,d⟩:=st
  exact⟨o,e,fun v z=>by rw[d]at z;cases z⟩
 keep:=fun i h h' st k=>st.at fun o e=>k it (by simp) o e
 item:=by
  intro X hP hw hK hc i pins s σ H E I hf st hg
  subst hP hw hK
  obtain⟨hi,xs,hl,hn⟩:=hg
  obtain⟨z,its,nn,r,ll,ho⟩:=I.lstM hl
  have isl:s.heap.IsList l its.toArray:=⟨_,ho,rfl,nn,rfl⟩
  obtain⟨x,hx⟩:∃ x,xs[n - 1 - i]?=some x:=⟨_,gxA (by omega)⟩
  obtain⟨u,hu,ru⟩:=r.get hx
  obtain⟨f0,f1,f2,f3,f4,f5⟩:=hf it (by simp)
  have e1:(n:Int) - 1 - (i:Nat)=((n - 1 - i:Nat):Int):=by omega
  rw[e1]at st
  refine wpAny_pyNext_rev_item st isl (x:=u) (by simpa using hu) fun h' st' sb=>?_
  have I1:Inv X pins σ H { s with heap:=h'}:=I.turned (t':=s.toks) (fun b o hb e=>(sb.2 b hb).trans e) f0 f1 f3 f4 f5
  have e2:((n - 1 - i:Nat):Int) - 1=(n:Int) - 1 - ((i+1:Nat):Int):=by omega
  rw[e2]at st'
  obtain⟨o,e,c,d⟩:=id st'
  exact⟨u,rfl,go_of (s:={ s with heap:=h'}) e c d (by decide) ⟨x,H,I1,ru,⟨rfl,fun ys hy=>by rw[hl]at hy;cases hy;exact hx⟩,st',fun b hb=>(hf b hb).1⟩⟩
 done:=by
  intro X hP hw hK hc i pins s σ H E I hf st hg
  subst hP hw hK
  have hg':i=n:=hg
  obtain⟨f0,f1,f2,f3,f4,f5⟩:=hf it (by simp)
  rw[hg',show(n:Int) - 1 - (n:Nat) = -1 by omega]at st
  exact wpAny_pyNext_rev_end (I.ok.hd hc) st fun h' eb=>⟨rfl,I.turned (t':=s.toks) (fun b o hb e=>eb b o hb e) f0 f1 f3 f4 f5⟩
 self:=fun _ _ _ _ _ st h=>wpAny_pyIter_revIter st h
section
variable {X:Cx}{a b e:Expr}{es:List Expr}{pos:Pos}{tg:Expr}
def iRev (ta:TA):TI:=fun σ H R=>ta σ H fun vs H1=>match vs with
 | [.ref l]=>∃ xs,H1 l=some (.lst xs)/\R (Itv l xs.length) H1
 | _=>False
theorem pi_rev {ta:TA}{p:Pos}(hg:Gl X "reversed")(hm:X.mg "reversed"=none)(ha:PA X [a] ta)(hs:starEach [a] X.env=[(false,eval a X.env)]:=by rfl) :
 PI X tg (.Call (.Name "reversed" p) [a] [] pos) (iRev ta):=by
 intro pins s σ H R I h
 refine Call_ (ld_blt I hg hm boot_reversed (bL (thn (ha pos pins s σ H _ I h) fun us s1 hq4=>?_) hs rfl))
 obtain⟨vs,H1,I1,r1,q1⟩:=hq4
 try dsimp only at q1
 split at q1
 ·rename_i l
  obtain⟨xs,hl,q⟩:=q1
  obtain⟨u,rfl,ru⟩:=r1.one
  cases ru
  obtain⟨_,its,n,r,ll,ho⟩:=I1.lstM hl
  have len:(its.toArray.size:Int) - 1=(xs.length:Int) - 1 - ((0:Nat):Int):=by rw[af,<- ll];omega
  refine call_reversed_list (l:=l) (items:=its.toArray) ⟨_,ho,rfl,n,rfl⟩ ?_
  have hit:(s1.heap.push (revObj l ((its.toArray.size:Int) - 1))).IsRevIter s1.heap.objs.size l ((xs.length:Int) - 1 - ((0:Nat):Int)):=⟨_,aj _ rfl,rfl,by rw[<- len];rfl⟩
  refine wpAny_pyIter_revIter (s:={ s1 with heap:=s1.heap.push (revObj l ((its.toArray.size:Int) - 1))}) hit ?_
  have I2:Inv X pins σ H1 { s1 with heap:=s1.heap.push (revObj l ((its.toArray.size:Int) - 1))}:=I1.kept (t':=s1.toks) fun b o e=>gxL _ e
  refine⟨s1.heap.objs.size,_,_,_,H1,rfl,I2,turn_rev l s1.heap.objs.size xs.length,hit,fun b hb=>?_,q⟩
  have hb':b=s1.heap.objs.size:=by simpa using hb
  rw[hb']
  exact I1.fpOk (aa _) (I1.hok.fresh (aa _))
 ·exact q1.elim
def dItV (w:DA):DI:=fun ρ μ K=>w ρ μ fun ds μ1=>match ds with
 | [x]=>opt (lv μ1 x) fun xs=>K xs.reverse (fun μ'=>lc x xs μ') μ1
 | _=>False
theorem i_rev {w:DA}{p:Pos}(hg:Gl X "reversed")(hm:X.mg "reversed"=none)(ha:PDA X [a] w)(hs:starEach [a] X.env=[(false,eval a X.env)]:=by rfl) :
 PDI X tg (.Call (.Name "reversed" p) [a] [] pos) (dItV w):=(pi_rev hg hm ha hs).imp fun σ H Q hq=>by
 obtain⟨φ,ρ,μ,K,A,M,k,L⟩:=hq
 refine⟨φ,ρ,μ,_,A,M,k,fun ds μ1 φ1 vs H1 k1 f1 M1 i1=>?_⟩
 split at k1
 ·rename_i x
  obtain⟨xs,ex,k1⟩:=opt_ex k1
  obtain⟨v,r,rfl,h1,h2⟩:=i1
  cases(show r=[]from h2)
  obtain⟨p1,vx,rfl,hp1,ax⟩:=lv_is M1 h1 ex
  refine⟨vx,hp1,L _ _ μ1 φ1 _ H1 k1 f1 M1 fun φ' H' μ' f M' c i=>?_⟩
  obtain⟨vy,hy,ay⟩:=lv_stay M1 h1 ex f M' c
  have lx:=ax.len
  have ly:=ay.len
  refine⟨fun d hd=>?_,fun hi=>by rw[ar]at hi;show i=vx.length;omega⟩
  have hi:i<xs.length:=by have:=(gxB hd).1;rwa [ar]at this
  rw[List.getElem?_reverse hi]at hd
  obtain⟨u,hu,du⟩:=ay.get hd
  refine⟨⟨by omega,vy,hy,by omega⟩,fun z H'' hz=>?_⟩
  obtain⟨rfl,q⟩:=hz
  have:=q vy hy
  rw[show vx.length - 1 - i=xs.length - 1 - i by omega,hu]at this
  cases this
  exact⟨.refl _ _,M',du⟩
 ·exact k1.elim
def dtTru (w:De):Dt:=fun ρ μ K=>w ρ μ fun d μ1=>opt (lv μ1 d) fun ds=>K (!ds.isEmpty) μ1
theorem t_truth {w:De}(h:PD X a w)(he:∀ whole,isTrue a X.env whole=(do let v <- whole;standAt a.pos;holding [v] (truthy v)):=by intro _;rfl):PDT X a (dtTru w):=(pt_truth h he).imp fun σ H Q hq=>by
 obtain⟨φ,ρ,μ,K,A,M,k,L⟩:=hq
 refine⟨φ,ρ,μ,_,A,M,k,fun d μ1 φ1 v1 H1 k1 f1 M1 i1=>?_⟩
 obtain⟨ds,ed,k1⟩:=opt_ex k1
 obtain⟨p,vs,rfl,hp,ha⟩:=lv_is M1 i1 ed
 refine⟨!vs.isEmpty,.inl ⟨vs,SqL.of hp,rfl⟩,?_⟩
 have:vs.isEmpty=ds.isEmpty:=by
  have:=ha.len
  cases vs <;> cases ds <;> first | rfl | simp at this
 rw[this]
 exact L _ μ1 φ1 H1 k1 f1 M1
end
inductive Mak where
 | num (n:Int)
 | tri (p:Int) (l r:Mak)
def mkD:Mak->D
 | .num n=>.int n
 | .tri p l r=>.tup [.int p,mkD l,mkD r]
def Mak.pre:Mak->List Mak
 | .num n=>[.num n]
 | .tri p l r=>.tri p l r::(l.pre++r.pre)
def Mak.cnt:Mak->Nat
 | .num _=>1
 | .tri _ l r=>l.cnt+r.cnt
def Mak.dep:Mak->Nat
 | .num _=>0
 | .tri _ l r=>max l.dep r.dep+1
def Mak.ok (cs:List Int)(m:Nat):Mak->Prop
 | .num n=>0<=n/\n<m
 | .tri p l r=>p∈cs/\l.ok cs m/\r.ok cs m
theorem Mak.cnt_pos:∀ t:Mak,0<t.cnt
 | .num _=>by show 0<1;decide
 | .tri _ l r=>by have:=l.cnt_pos;show 0<l.cnt+r.cnt;omega
theorem Mak.pre_len:∀ t:Mak,t.pre.length+1=2*t.cnt
 | .num _=>rfl
 | .tri _ l r=>by
  have h1:=l.pre_len
  have h2:=r.pre_len
  show(l.pre++r.pre).length+1+1=2*(l.cnt+r.cnt)
  rw[gxE];omega
theorem Mak.pre_head:∀ t:Mak,∃ r,t.pre=t::r
 | .num n=>⟨[],rfl⟩
 | .tri p l r=>⟨_,rfl⟩
theorem Mak.pre_parts:∀ {t:Mak} {A B:List Mak} {p:Int} {l r:Mak},t.pre=A++.tri p l r::B->∃ C,B=l.pre++r.pre++C
 | .num n,A,B,p,l,r,h=>by
  have h':[Mak.num n]=A++.tri p l r::B:=h
  cases A with
  | nil=>cases h'
  | cons a A=>have:=bg List.length h';simp at this
 | .tri q u v,A,B,p,l,r,h=>by
  have h':Mak.tri q u v::(u.pre++v.pre)=A++.tri p l r::B:=h
  cases A with
  | nil=>cases h';exact⟨[],by simp⟩
  | cons a A =>
   rw[bB]at h'
   injection h' with _ h'
   rcases List.append_eq_append_iff.mp h' with⟨a',e1,e2⟩ | ⟨c',e1,e2⟩
   ·exact pre_parts (t:=v) e2
   ·cases c' with
    | nil =>
     rw[List.nil_append]at e2
     exact pre_parts (t:=v) (A:=[]) e2.symm
    | cons d c' =>
     rw[bB]at e2
     injection e2 with e3 e4
     subst e3
     obtain⟨C,hC⟩:=pre_parts (t:=u) (A:=A) (B:=c') e1
     exact⟨C++v.pre,by rw[e4,hC];simp⟩
theorem forest_head {F:List Mak}{t:Mak}{C:List Mak}(h:F.flatMap Mak.pre=t.pre++C):∃ F',F=t::F'/\F'.flatMap Mak.pre=C:=by
 obtain⟨r,hr⟩:=t.pre_head
 cases F with
 | nil=>rw[hr]at h;cases h
 | cons f F =>
  obtain⟨r',hr'⟩:=f.pre_head
  have h2:=h
  rw[aO,hr,hr']at h2
  injection h2 with h3 h4
  subst h3
  rw[aO]at h
  exact⟨F,rfl,List.append_cancel_left h⟩
def joinT (a b:Tk)(p:Int):Tk:=(a.1.take p.toNat++b.1.drop p.toNat,max a.2 b.2+1)
def mkTri:Mak->Bool
 | .tri _ _ _=>true
 | .num _=>false
def fJoined:DSp:=fun ds μ K=>match ds with
 | [.tup [.str z,.int a],.tup [.str y,.int b],.int p]=>∃ x u:Tk,z=txt x.1/\a=x.2/\y=txt u.1/\b=u.2/\0<=p/\x.1.length<=1000/\u.1.length<=1000/\K (tkD (joinT x u p)) μ
 | _=>False
def fPlace:DSp:=fun ds μ K=>match ds with
 | [.lst y,.int p]=>∃ cs:List Int,y=cs.map D.int/\p∈cs/\K (.int p) μ
 | _=>False
def fMakeL (n:Nat):DSp:=fun ds μ K=>match ds with
 | [.mr k,.int m,.lst c,.int d]=>μ[k]?=some .box/\0<m/\m<=1000/\∃ cs:List Int,c=cs.map D.int/\cs.length<=1000/\0<=d/\d<=n/\∀ t:Mak,t.ok cs m.toNat->t.dep<=d.toNat->t.cnt<=2 ^ d.toNat->K (mkD t) μ
 | _=>False
theorem mrB_mk {n:Nat}:∀ t:Mak,mrB n (mkD t)
 | .num _=>trivial
 | .tri p l r=>⟨trivial,mrB_mk l,mrB_mk r,trivial⟩
def fRec (f:Nat->DSp):Nat->DSp
 | 0=>fun _ _ _=>False
 | n+1=>f n
theorem set0 {μ:MS}{x y m:MO}:(μ++[x,y]).set μ.length m=μ++[m,y]:=by
 have:=set_app (μ:=μ) (g:=[x,y]) (i:=0) (m:=m)
 rwa [Nat.add_zero]at this
theorem set1 {μ:MS}{x y m:MO}:(μ++[x,y]).set (μ.length+1) m=μ++[x,m]:=set_app (μ:=μ) (g:=[x,y]) (i:=1) (m:=m)
theorem at0 {μ:MS}{x:List D}{y:MO}:lvM (μ++[.lst x,y]) μ.length=some x:=lvM_at (μ:=μ) (g:=[.lst x,y]) (i:=0) rfl
theorem at1 {μ:MS}{x:MO}{y:List D}:lvM (μ++[x,.lst y]) (μ.length+1)=some y:=lvM_at (μ:=μ) (g:=[x,.lst y]) (i:=1) rfl
theorem last_snoc {α:Type}(xs:List α)(x:α):(xs++[x])[(xs++[x]).length - 1]?=some x:=by
 rw[gxE,bf,Nat.add_sub_cancel,gxG (aa _),br];rfl
theorem ty_mk (t:Mak)(μ:MS):tyN (mkD t) μ=some (if mkTri t then "tuple" else "int"):=by cases t <;> rfl
theorem forest_nil {F:List Mak}(h:F.flatMap Mak.pre=[]):F=[]:=by
 cases F with
 | nil=>rfl
 | cons f F =>
  obtain⟨r,hr⟩:=f.pre_head
  rw[aO,hr]at h
  cases h
theorem forest_len:∀ F:List Mak,F.length<=(F.flatMap Mak.pre).length
 | []=>aa _
 | f::F=>by
  obtain⟨r,hr⟩:=f.pre_head
  have:=forest_len F
  rw[aO,hr,gxE,ah,ah]
  omega
theorem two_pow {a b n:Nat}(h1:a<=2 ^ n)(h2:b<=2 ^ n):a+b<=2 ^ (n+1):=by rw[Nat.pow_succ];omega
end L2
namespace L2
open PySem PySem.Spec PyProof.Rows PySem.SeqAt
end L2
namespace L2
open PySem PySem.Spec PyProof.Rows
section
variable {X:Cx}{a b e o:Expr}{es:List Expr}{pos:Pos}{C:Addr}
theorem cal_of {P:Program}{w:World}{K:PySem.W.Frag}{mg:Str->Option Value}{base h:Heap}{x q:Str}{st:Stmt}{f:Addr}{fd:FuncData}{k:Nat}{ps:List Str}{sp:Sp}(G:K.In h)(N:h.Ns mainGlobals mg)(F:Fun K x q st f fd)(ok:FnOk P w K mg base CX0 k f fd ps sp)(hb:Binds K fd ps [])
 (a:PySem.W.nsIn K mainGlobals x=some (some (.ref f)):=by kernel_rfl):Cal P w K mg base x k ps sp:=⟨f,fd,ok,bj G N a,F.kp,hb⟩
end
def bmN:List Str:=["places", "rows", "tables", "whole", "counts"]
abbrev At (g:Heap)(b:Addr):Prop:=∃ u,g.get? b=some u
structure Kp (g:Heap)(l:List Env)(h h':Heap):Prop where
 other:∀ b o,h.get? b=some o->At g b->b∉frs l->h'.get? b=some o
 slot:∀ b o,h.get? b=some o->At g b->b∈frs l->∃ sl,h'.get? b=some { o with slots:=sl}
theorem Kp.trans {g:Heap}{l:List Env}{h1 h2 h3:Heap}(a:Kp g l h1 h2)(b:Kp g l h2 h3):Kp g l h1 h3 :=
 ⟨fun c o q lt hc=>b.other c o (a.other c o q lt hc) lt hc,fun c o q lt hc=>by
  obtain⟨sl,e⟩:=a.slot c o q lt hc
  obtain⟨sl',e'⟩:=b.slot c _ e lt hc
  exact⟨sl',e'⟩⟩
theorem Kp.any {g:Heap}{l:List Env}{h h':Heap}(a:Kp g l h h'){b:Addr}{o:Obj}(q:h.get? b=some o)(lt:At g b):∃ sl,h'.get? b=some { o with slots:=sl}:=by
 by_cases hb:b∈frs l
 ·exact a.slot b o q lt hb
 ·exact⟨o.slots,a.other b o q lt hb⟩
theorem Kp.of {g:Heap}{l:List Env}{h h':Heap}(k:∀ b o,h.get? b=some o->At g b->h'.get? b=some o):Kp g l h h':=⟨fun b o q lt _=>k b o q lt,fun b o q lt _=>⟨o.slots,k b o q lt⟩⟩
abbrev Gk (g h:Heap):Prop:=∀ b,At g b->At h b
theorem Kp.gk {g:Heap}{l:List Env}{h h':Heap}(a:Kp g l h h')(k:Gk g h):Gk g h':=fun b hb=>by
 obtain⟨o,e⟩:=k b hb
 obtain⟨sl,e'⟩:=a.any e hb
 exact⟨_,e'⟩
theorem Gk.fresh {g h:Heap}(k:Gk g h):g.get? h.objs.size=none:=by
 cases q:g.get? h.objs.size with
 | none=>rfl
 | some o=>obtain⟨o',e⟩:=k _ ⟨o,q⟩;exact absurd (gxN e) (bo _)
theorem at_ne {g:Heap}{b c:Addr}(h:At g b)(hc:g.get? c=none):c≠b:=fun z=>by obtain⟨u,e⟩:=h;rw[<- z,hc]at e;cases e
def ExAt (g:Heap)(e:Addr)(cls fl:Value)(h:Heap):Prop:=∃(oe:Obj) (vs:Array Value) (T:Addr) (oT:Obj) (ts:Array Value),(h.get? e=some oe/\(oe.cls=cls/\oe.dict=none)/\oe.data=.fields vs/\vs[1]?=some (.ref T)/\vs[2]?=some .none)/\(g.get? T=none/\T≠e/\h.get? T=some oT/\oT.data=.fields ts/\ts[3]?=some fl)/\g.get? e=none
section
variable {M:Model}{A:Around}{E:Value->Shared->Prop}{s:Shared}
theorem entry_new {base:Heap}{env:Env}{outer:List Env}{L e:Addr}{oe:Obj}{vs:Array Value}{head:Value}{hadNext:Bool}{g:Heap}{Q:Unit->Shared->Prop}
 (hfr:A.frames=some (env::outer)) (hl:s.heap.FunFrames base (env::outer)) (hf:env.frame=some L) (he:s.heap.get? e=some oe) (hdi:oe.dict=none) (hd:oe.data=.fields vs) (h1:1<vs.size) (h2:vs[2]?=some .none) (hn:g.get? e=none) (hs:Gk g s.heap)
 (h:∀ h',ExAt g e oe.cls (rawInt L) h'->Kp g (env::outer) s.heap h'->Q () { s with heap:=h'}) :
 wpAny M A (do let a <- frameOf env;let pl <- entryPlaceOf L hadNext;let b <- EntryCells.newEntry head a .none (rawInt L) .none pl;setField (.ref e) 1 b) Q E s:=by
 have hene:e∉(env::outer).filterMap (·.frame):=fun hm=>by
  obtain⟨_,o,ho,hnf⟩:=hl.mem hm
  rw[he]at ho;injection ho with ho;subst ho;exact hnf vs hd
 refine gxM (wpAny_frameOf_fun hfr hl hf fun m x=>?_)
 refine gxM (wpAny_entryPlaceOf fun pl hpl=>?_)
 unfold EntryCells.newEntry newFields
 refine gxM (bE ?_ (hpl.sizeOk5 _ _ _ _ _))
 obtain⟨rec,hrec⟩:∃ rec:Obj,rec={ cls:=.type "traceback",dict:=none,data:=.fields ([head,.ref L,.none,rawInt L,.none]++(if pl.isEmpty then List.replicate 6 Value.none else pl)).toArray}:=⟨_,rfl⟩
 rw[<- hrec]
 have e1:m.get? e=some oe:=(x.2.1 e hene).trans he
 have e2:=gxL rec e1
 have hT:(m.push rec).get? m.objs.size=some rec:=aj m (by rw[hrec];rfl)
 have hTe:m.objs.size≠e:=bC (gxN e1)
 have hd3:=cO hd (·.setIfInBounds 1 (Value.ref m.objs.size))
 have e3:=bV (Obj.mapFields (·.setIfInBounds 1 (Value.ref m.objs.size))) e2 (c8 hd3)
 refine cq e2 hd h1 (h _ ⟨_,_,m.objs.size,rec,_,⟨e3,⟨Obj.cls_mapFields _ _,by show(Obj.mapFields _ oe).dict=none;unfold Obj.mapFields;split <;> exact hdi⟩,hd3,by simp[h1],by rw[Array.getElem?_setIfInBounds_ne (by decide)];exact h2⟩,⟨by rw[x.1];exact hs.fresh,hTe,?_,by rw[hrec],?_⟩,hn⟩ ⟨fun b o q lt hb=>?_,fun b o q lt hb=>?_⟩)
 ·rw[aY _ _ (bM hTe)];exact hT
 ·first | (simp;done) | (rcases hpl with rfl | ⟨_,_,_,_,_,_,_,rfl⟩<;> simp)
 ·rw[aY _ _ (at_ne lt hn)]
  exact gxL _ ((x.2.1 b hb).trans q)
 ·obtain⟨sl,q'⟩:=x.2.2 b o q
  exact⟨sl,by rw[aY _ _ (at_ne lt hn)];exact gxL _ q'⟩
theorem note_first {base:Heap}{env:Env}{outer:List Env}{L e:Addr}{oe:Obj}{vs:Array Value}{g:Heap}{Q:Unit->Shared->Prop}
 (hfr:A.frames=some (env::outer)) (hl:s.heap.FunFrames base (env::outer)) (hf:env.frame=some L) (he:s.heap.get? e=some oe) (hdi:oe.dict=none) (hd:oe.data=.fields vs) (h1:vs[1]?=some .none) (h2:vs[2]?=some .none) (hn:g.get? e=none) (hs:Gk g s.heap)
 (h:∀ h',ExAt g e oe.cls (rawInt L) h'->Kp g (env::outer) s.heap h'->Q () { s with heap:=h'}):wpAny M A (noteFrame (.ref e) env) Q E s:=by
 unfold noteFrame
 simp only[hf]
 refine gxM (aU he hd h1 ?_)
 rw[ai (by decide)]
 exact entry_new hfr hl hf he hdi hd (Array.getElem?_eq_some_iff.mp h1).1 h2 hn hs h
theorem note_next {base:Heap}{env:Env}{outer:List Env}{L e:Addr}{cls:Value}{g:Heap}{Q:Unit->Shared->Prop}
 (hfr:A.frames=some (env::outer)) (hl:s.heap.FunFrames base (env::outer)) (hf:env.frame=some L) (hs:Gk g s.heap) (x:ExAt g e cls .none s.heap)
 (h:∀ h',ExAt g e cls (rawInt L) h'->Kp g (env::outer) s.heap h'->Q () { s with heap:=h'}):wpAny M A (noteFrame (.ref e) env) Q E s:=by
 obtain⟨oe,vs,T,oT,ts,⟨he,hc,hd,h1,h2⟩,⟨hn,hTe,hT,hdT,h3⟩,hne⟩:=x
 unfold noteFrame
 simp only[hf]
 refine gxM (aU he hd h1 ?_)
 rw[aE (show(Value.ref T != Value.none)=true from by simp)]
 refine gxM (aU hT hdT h3 ?_)
 rw[ai (show ¬ ((Value.none==rawInt L)=true)from by simp[rawInt])]
 refine gxM (cq hT hdT (Array.getElem?_eq_some_iff.mp h3).1 ?_)
 have other:∀ b,b≠T->(s.heap.update T (Obj.mapFields (·.setIfInBounds 3 Value.none))).get? b=s.heap.get? b:=fun b hb=>aY _ _ (bM hb)
 have ff:(s.heap.update T (Obj.mapFields (·.setIfInBounds 3 Value.none))).FunFrames base (env::outer):=hl.of_keeps fun b o q nf=>⟨o,(other b fun z=>by rw[z,hT]at q;cases q;exact nf _ hdT).trans q,rfl⟩
 have k0:Kp g (env::outer) s.heap (s.heap.update T (Obj.mapFields (·.setIfInBounds 3 Value.none))):=Kp.of fun b o q lt=>(other b (bM (at_ne lt hn))).trans q
 exact entry_new (g:=g) hfr ff hf ((other e (bM hTe)).trans he) hc.2 hd (Array.getElem?_eq_some_iff.mp h1).1 h2 hne (k0.gk hs) fun h' a k=>h h' (hc.1▸a) (k0.trans k)
theorem flight_none {l:List Env}{e:Addr}{cls fl:Value}{g:Heap}{Q:Unit->Shared->Prop}(x:ExAt g e cls fl s.heap)
 (h:∀ h',ExAt g e cls .none h'->Kp g l s.heap h'->(∀ b o,s.heap.get? b=some o->(∀ vs,o.data≠.fields vs)->h'.get? b=some o)->Q () { s with heap:=h'}):wpAny M A (setFlight (.ref e) none) Q E s:=by
 obtain⟨oe,vs,T,oT,ts,⟨he,hc,hd,h1,h2⟩,⟨hn,hTe,hT,hdT,h3⟩,hne⟩:=x
 unfold setFlight
 refine gxM (aU he hd h1 ?_)
 rw[aE (show(Value.ref T != Value.none)=true from by simp)]
 have h3s:=(Array.getElem?_eq_some_iff.mp h3).1
 have hd3:=cO hdT (·.setIfInBounds 3 ((none:Option Addr).elim Value.none fun f=>rawInt f))
 have other:∀ b,b≠T->(s.heap.update T (Obj.mapFields (·.setIfInBounds 3 ((none:Option Addr).elim Value.none fun f=>rawInt f)))).get? b=s.heap.get? b:=fun b hb=>aY _ _ (bM hb)
 refine cq hT hdT h3s (h _ ⟨oe,vs,T,_,_,⟨(other e (bM hTe)).trans he,hc,hd,h1,h2⟩,⟨hn,hTe,bV _ hT (c8 hd3),hd3,by simp[h3s]⟩,hne⟩ (Kp.of fun b o q lt=>(other b (bM (at_ne lt hn))).trans q) fun b o q nf=>(other b fun z=>by rw[z,hT]at q;cases q;exact nf _ hdT).trans q)
end
def CX1 (P:Program)(w:World):CXT:=fun outer H s E ev s'=>∃(e:Addr) (cls:Value) (H':Hp) (g:Heap),ev=.ref e/\s'.os=s.os/\AllBare s'.gens/\Un (frs outer) [] H H' s.heap s'.heap/\HOk P w H' s'.heap/\(Gk s.heap g/\(∀ b,H' b≠none->At g b)/\Gk g s'.heap)/\ExAt g e cls .none s'.heap/\E cls none H'
theorem at_of {P:Program}{w:World}{H:Hp}{h:Heap}{a:Addr}{o:HO}(x:HOk P w H h)(e:H a=some o):At h a:=by
 have x:=x a o e
 cases o with
 | lst xs=>obtain⟨_,_,_,_,e⟩:=x;exact⟨_,e⟩
 | tup xs=>obtain⟨_,_,_,_,e,_⟩:=x;exact⟨_,e⟩
 | dK kvs=>obtain⟨_,_,_,_,o,_,_,e,_⟩:=x;exact⟨_,e⟩
 | dT kvs=>obtain⟨_,_,_,_,o,_,_,e,_⟩:=x;exact⟨_,e⟩
 | set S n=>obtain⟨o,_,_,_,e,_⟩:=x;exact⟨_,e⟩
 | ins C dx fs=>obtain⟨_,_,_,e,_⟩:=x;exact⟨_,e⟩
 | own y=>obtain⟨_,e⟩:=x;exact⟨_,e⟩
 | xd fs=>obtain⟨_,⟨_,_,_,e,_⟩,_⟩:=x;exact⟨_,e⟩
 | rng lo hi=>obtain⟨_,_,_,e⟩:=x;exact⟨_,e⟩
 | frz ob u=>obtain⟨e,_⟩:=x;exact⟨_,e⟩
 | tbl ps=>exact⟨_,(show h.get? a=some _ from x)⟩
 | met f y=>exact⟨_,(show h.get? a=some _ from x)⟩
 | ext φ=>obtain⟨_,⟨_,e⟩,_⟩:=x;exact⟨_,e⟩
theorem hok_kp {P:Program}{w:World}{g h h':Heap}{l:List Env}{H:Hp}(x:HOk P w H h)(hb:∀ b,H b≠none->At g b/\b∉frs l)(k:Kp g l h h'):HOk P w H h':=fun a o e =>
 (x a o e).stay (fun b u hb' q=>by
   have hn:H b≠none:=by rcases hb' with rfl | z <;> intro y <;> simp_all
   exact k.other b u q (hb b hn).1 (hb b hn).2) (fun _ q=>q) fun _ _ q=>q
section
variable {X:Cx}{pins:List (Addr×Obj)}{σ:St}{H H':Hp}{s:Shared}{g h1 h2:Heap}
theorem Inv.exit (I:Inv X pins σ H s)(hx:X.ex=[])(u:Un (frs X.stack) [] H H' s.heap h1)(hg:Gk s.heap g)(k:Kp g X.stack h1 h2):Un X.fs [] X.H₀ H' X.s₀.heap h2:=by
 have nx:∀ b,b∉X.ex:=fun b z=>by rw[hx]at z;cases z
 have nn:∀ b:Addr,b∉([]:List Addr):=fun b z=>by cases z
 have atg:∀ b o,X.s₀.heap.get? b=some o->At g b:=fun b o e=>by
  obtain⟨o',e'⟩:=I.base.there b o e (nx b)
  exact hg b ⟨o',e'⟩
 refine⟨fun b o e n hb _=>?_,fun b o e n hb _=>?_,fun b o e n _=>?_,fun b o e _=>?_,fun b xs e=>u.tups b xs (I.base.tups b xs e),fun b o xs e=>u.frzs b o xs (I.base.frzs b o xs e),fun b ps e=>?_⟩
 ·have e1:=I.base.keep b o e n hb (nx b)
  have n1:=I.base.free b o e n (nx b)
  have hs:b∉frs X.stack:=fun z=>by
   rcases List.mem_cons.mp (I.stkSub b z)with y | y
   ·exact absurd y (aF (aw (gxN e) I.ok.above))
   ·exact hb y
  exact k.other b o (u.keep b o e1 n1 hs (nn b)) (atg b o e) hs
 ·obtain⟨sl,e1⟩:=I.base.slot b o e n hb (nx b)
  have n1:=I.base.free b o e n (nx b)
  obtain⟨sl2,e2⟩:=u.any e1 n1 (nn b)
  obtain⟨sl3,e3⟩:=k.any e2 (atg b o e)
  exact⟨sl3,e3⟩
 ·obtain⟨o',e1⟩:=I.base.there b o e (nx b)
  exact u.free b o' e1 (I.base.free b o e n (nx b)) (nn b)
 ·obtain⟨o',e1⟩:=I.base.there b o e (nx b)
  obtain⟨o2,e2⟩:=u.there b o' e1 (nn b)
  obtain⟨sl,e3⟩:=k.any e2 (atg b o e)
  exact⟨_,e3⟩
 ·obtain⟨m1,e1⟩:=I.base.tbls b ps e
  obtain⟨m2,e2⟩:=u.tbls b _ e1
  exact⟨m1++m2,by rw[e2,Array.append_assoc]⟩
end
section
variable {P:Program}{w:World}{K:PySem.W.Frag}{mg:Str->Option Value}{base:Heap}{N:List Str}{qual:Str}{scope:Scope}{f:Addr}{cd:Value}{A:Around}{outer:List Env}{s₀ s:Shared}{H₀ H:Hp}{E:XK}{pins:List (Addr×Obj)}{σ:St}
theorem flies:Passes (CX1 P w) (cxOf (CX1 P w) P w K mg base N qual scope f cd A outer s₀ H₀ E) E:=fun pins σ H s ev s' I c=>by
 obtain⟨e,cls,H',g,rfl,os,bare,un,hok,⟨g1,g2,g3⟩,ex,hE⟩:=c
 have I2:=I.call' (s':=s') (ch:=[]) os un hok bare (fun b z=>absurd z (by simp))
 have hfr:(cxOf (CX1 P w) P w K mg base N qual scope f cd A outer s₀ H₀ E).A.frames=some (envOfC qual scope s₀.heap.objs.size f cd::outer):=I.ok.frames
 show wpAny _ _ (leaving _ (.ref e)) _ _ s'
 unfold leaving
 refine gxM (note_next hfr I2.stack rfl g3 ex fun h1 x1 k1=>?_)
 refine flight_none (l:=envOfC qual scope s₀.heap.objs.size f cd::outer) x1 fun h2 x2 k2 _=>?_
 have k:=k1.trans k2
 exact⟨e,cls,H',g,rfl,os.trans I.os,bare,I.exit rfl un g1 k,hok_kp hok (fun b hb=>⟨g2 b hb,fun z=>hb (I2.stkFree b z)⟩) k,⟨fun b hb=>by
  obtain⟨o,e0⟩:=hb
  obtain⟨o',e1⟩:=I.base.there b o e0 (by simp[cxOf])
  exact g1 b ⟨o',e1⟩,g2,k.gk g3⟩,x2,hE⟩
theorem raises {h':Heap}{e:Addr}{cls:Value}{vs:List Value}(I:Inv (cxOf (CX1 P w) P w K mg base N qual scope f cd A outer s₀ H₀ E) pins σ H s)(x:Heap.MadeExcOf s.heap h' e cls vs)(hE:E cls none H):(cxOf (CX1 P w) P w K mg base N qual scope f cd A outer s₀ H₀ E).xe (.ref e) { s with heap:=h'}:=by
 have hfr:(cxOf (CX1 P w) P w K mg base N qual scope f cd A outer s₀ H₀ E).A.frames=some (envOfC qual scope s₀.heap.objs.size f cd::outer):=I.ok.frames
 obtain⟨t,he,htn,ht⟩:=x.there
 have ff:h'.FunFrames base (envOfC qual scope s₀.heap.objs.size f cd::outer):=(show s.heap.FunFrames base _ from I.stack).of_keeps fun b o q _=>⟨o,x.keeps b o q,rfl⟩
 have gk:Gk s.heap h':=fun b hq0=>by obtain⟨o,q⟩:=hq0;exact⟨o,x.keeps b o q⟩
 show wpAny _ _ (leaving _ (.ref e)) _ _ _
 unfold leaving
 refine gxM (note_first (s:={ s with heap:=h'}) (g:=s.heap) hfr ff rfl he rfl rfl rfl rfl x.new gk fun h1 x1 k1=>?_)
 refine flight_none (l:=envOfC qual scope s₀.heap.objs.size f cd::outer) x1 fun h2 x2 k2 _=>?_
 have k:=k1.trans k2
 have un:Un (frs (envOfC qual scope s₀.heap.objs.size f cd::outer)) [] H H s.heap h':=Un.kept x.keeps
 have hok:HOk P w H h':=(show HOk P w H s.heap from I.hok).kept x.keeps
 refine⟨e,cls,H,s.heap,rfl,I.os,I.bare,I.exit rfl un (fun b hb=>hb) k,hok_kp hok (fun b hb=>⟨?_,fun z=>hb (I.stkFree b z)⟩) k,⟨fun b hb=>?_,fun b hb=>?_,k.gk gk⟩,x2,hE⟩
 ·cases q:H b with
  | none=>exact absurd q hb
  | some o=>exact at_of (show HOk P w H s.heap from I.hok) q
 ·obtain⟨o,e0⟩:=hb
  obtain⟨o',e1⟩:=I.base.there b o e0 (by simp[cxOf])
  exact⟨o',e1⟩
 ·cases q:H b with
  | none=>exact absurd q hb
  | some o=>exact at_of (show HOk P w H s.heap from I.hok) q
end
abbrev DX:=Value->MS->Prop
def LifX (φ:List Addr)(H:Hp)(Kx:DX)(E:XK):Prop:=∀ c μ' φ' H',Kx c μ'->Fr φ H φ' H'->MSis φ' H' μ'->E c none H'
theorem LifX.mono {φ φ1:List Addr}{H H1:Hp}{Kx:DX}{E:XK}(h:LifX φ H Kx E)(f:Fr φ H φ1 H1):LifX φ1 H1 Kx E:=fun c μ' φ' H' k g M=>h c μ' φ' H' k (f.trans g) M
abbrev DSpX:=List D->MS->DK->DX->Prop
def spX (f:DSpX):Sp:=fun vs H Q E=>∃ φ ds μ K Kx,DAll φ H ds vs/\MSis φ H μ/\f ds μ K Kx/\Lif φ H K Q/\LifX φ H Kx E
structure CalX (P:Program)(w:World)(K:PySem.W.Frag)(mg:Str->Option Value)(base:Heap)(x:Str)(k:Nat)(ps:List Str)(sp:Sp):Prop where
 ex:∃ f fd,FnOk P w K mg base (CX1 P w) k f fd ps sp/\mg x=some (.ref f)/\PySem.W.keepIn K (.ref f)=true/\Binds K fd ps []
structure Rz (X:Cx)(φ0:List Addr)(H0:Hp)(Kx:DX):Prop where
 ex:∃ E:XK,LifX φ0 H0 Kx E/\Passes (CX1 X.prog X.w) X E
structure Rm (X:Cx)(φ0:List Addr)(H0:Hp)(Kx:DX):Prop where
 ex:∃ E:XK,LifX φ0 H0 Kx E/\Passes (CX1 X.prog X.w) X E/\∀(pins:List (Addr×Obj)) (σ:St) (H:Hp) (s:Shared) (h':Heap) (e:Addr) (cls:Value) (vs:List Value),Inv X pins σ H s->Heap.MadeExcOf s.heap h' e cls vs->E cls none H->X.xe (.ref e) { s with heap:=h'}
theorem Rm.z {X:Cx}{φ0:List Addr}{H0:Hp}{Kx:DX}(h:Rm X φ0 H0 Kx):Rz X φ0 H0 Kx:=let ⟨E,a,b,_⟩:=h.ex;⟨E,a,b⟩
theorem MSis.hist {φ φ0:List Addr}{H H0:Hp}{μ:MS}(M:MSis φ H μ)(e:μ[0]?=some (.gx φ0 H0)):Fr φ0 H0 φ H:=let ⟨_,_,h⟩:=M.at_ 0 _ e;h.1
theorem MoIs.nt {φ:List Addr}{H:Hp}{m:MO}{p:Addr}(h:MoIs φ H m p)(zs:List V):H p≠some (.tup zs):=fun e=>by
 cases m with
 | box=>obtain⟨q,ns,i,r,z,h1,_⟩:=h;rw[e]at h1;cases h1
 | lst ds=>obtain⟨vs,h1,_⟩:=h;rw[e]at h1;cases h1
 | dic ks ds=>obtain⟨kvs,vs,h1,_⟩:=h;rw[e]at h1;cases h1
 | fdic o kvs ds=>have h1:=h.1;rw[e]at h1;cases h1
 | ins C ns ds=>obtain⟨dx,fs,h1,_⟩:=h;rw[e]at h1;cases h1
 | dtu ks ds=>obtain⟨kvs,h1,_⟩:=h;rw[e]at h1;cases h1
 | gx φ0 H0=>exact h.2.2.2 zs e
 | exc c=>rw[show _=_ from h]at e;cases e
theorem MSis.ghost {φ:List Addr}{H:Hp}{μ:MS}{m:MO}(M:MSis φ H μ)(e:μ[0]?=some m):MSis φ H (μ.set 0 (.gx φ H)):=by
 have h0:0<μ.length:=(gxB e).1
 refine⟨M.nd,by rw[aW];exact M.len,fun k n en=>?_⟩
 by_cases hk:k=0
 ·subst hk
  rw[aI h0]at en
  cases en
  obtain⟨p,e1,e2⟩:=M.at_ 0 m e
  exact⟨p,e1,.refl _ _,rfl,e2.ex,e2.nt⟩
 ·rw[aM (bM hk)]at en
  exact M.at_ k n en
theorem MSis.back {φ φ':List Addr}{H H':Hp}{μ μ':MS}{m:MO}(M:MSis φ H μ)(e:μ[0]?=some m)(M':MSis φ' H' μ')(e':μ'[0]?=some (.gx φ H)):MSis φ' H' (μ'.set 0 m):=by
 have h0:0<μ'.length:=(gxB e').1
 refine⟨M'.nd,by rw[aW];exact M'.len,fun k n en=>?_⟩
 by_cases hk:k=0
 ·subst hk
  rw[aI h0]at en
  cases en
  obtain⟨p',e1,f,hp,_⟩:=M'.at_ 0 _ e'
  obtain⟨p,e2,im⟩:=M.at_ 0 m e
  have:=f.get e2
  rw[e1]at this
  cases this
  exact⟨p',e1,im.mono f fun o q=>hp.trans q⟩
 ·rw[aM (bM hk)]at en
  exact M'.at_ k n en
def gK (φ0:List Addr)(H0:Hp)(m:MO)(K:DK):DK:=fun d μ'=>μ'[0]?=some (.gx φ0 H0)/\K d (μ'.set 0 m)
def gX (φ0:List Addr)(H0:Hp)(m:MO)(K:DX):DX:=fun c μ'=>μ'[0]?=some (.gx φ0 H0)/\K c (μ'.set 0 m)
theorem Lif.ghost {φ:List Addr}{H:Hp}{μ:MS}{m:MO}{K:DK}{Q:VK}(L:Lif φ H K Q)(M:MSis φ H μ)(e:μ[0]?=some m):Lif φ H (gK φ H m K) Q:=fun d μ' φ' v H' ⟨e',k⟩ f M' i=>L d _ φ' v H' k f (M.back e M' e') i
theorem LifX.ghost {φ:List Addr}{H:Hp}{μ:MS}{m:MO}{K:DX}{Q:XK}(L:LifX φ H K Q)(M:MSis φ H μ)(e:μ[0]?=some m):LifX φ H (gX φ H m K) Q:=fun c μ' φ' H' ⟨e',k⟩ f M'=>L c _ φ' H' k f (M.back e M' e')
section
variable {X:Cx}{e:Expr}{es:List Expr}{pos:Pos}{φ0:List Addr}{H0:Hp}{Kx:DX}
def dCallX (φ0:List Addr)(H0:Hp)(Kx:DX)(f:DSpX)(w:DA):De:=fun ρ μ K=>w ρ μ fun ds μ1=>μ1[0]?=some (.gx φ0 H0)/\f ds μ1 K Kx
theorem d_callX {f:DSpX}{w:DA}{x:Str}{p:Pos}{k:Nat}{ps:List Str}(Z:Rz X φ0 H0 Kx)(C:CalX X.prog X.w X.K X.mg X.base x k ps (spX f))(hr:Room k X.A)(hg:Gl X x)(ha:PDA X (e::es) w)
 (hdb:(x==("__debug__" : Str))=false:=by decide) (he:starEach (e::es) X.env=(false,eval e X.env)::starEach es X.env:=by rfl) (hpl:(backTo pos (starEach es X.env)).any (·.1)=false:=by rfl) :
 PD X (.Call (.Name x p) (e::es) [] pos) (dCallX φ0 H0 Kx f w):=by
 obtain⟨E,LX,hp⟩:=Z.ex
 obtain⟨f',fd,F,hm,hk,hb⟩:=C.ex
 exact(pe_call F hr hg hm hk hb .nil hp ha hdb he hpl).imp fun σ H Q ⟨φ,ρ,μ,K,Ee,M,w,L⟩ =>
  ⟨φ,ρ,μ,_,Ee,M,w,fun ds μ1 φ1 vs H1 k1 f1 M1 i1=>by show spX f (vs++[]) H1 Q E;rw[aR];exact⟨φ1,ds,μ1,K,Kx,i1,M1,k1.2,L.mono f1,LX.mono (M1.hist k1.1)⟩⟩
def dRaise (φ0:List Addr)(H0:Hp)(Kx:DX)(C:Addr)(w:DA):Ds:=fun _ ρ μ=>w ρ μ fun ds μ1=>ds.length<=sizeLine/\μ1[0]?=some (.gx φ0 H0)/\Kx (.ref C) μ1
theorem s_raise {w:DA}{x:Str}{C:Addr}{bm bmN:List Value}{B Bn newId nid initId inN:String}{np cpos:Pos}(Z:Rm X φ0 H0 Kx)(hc:X.calm=true)(O:OwnCls x C bm newId X.mg X.base)(Fn:ExcBaseFacts Bn newId inN bmN)(hBn:bm.contains (.type Bn)=true)
 (FB:ExcBaseFacts B nid initId bm) (hg:Gl X x) (ha:PDA X (e::es) w) (hd:(x==("__debug__" : Str))=false:=by decide)
 (he:starEach (e::es) X.env=(false,eval e X.env)::starEach es X.env:=by rfl) (hpl:(backTo cpos (starEach es X.env)).any (·.1)=false:=by rfl) :
 PDS X (.Raise (some (.Call (.Name x np) (e::es) [] cpos)) none pos) (dRaise φ0 H0 Kx C w):=fun pins s σ H D I hq=>by
 obtain⟨φ,ρ,μ,N,A,M,k,L⟩:=hq
 obtain⟨E,LX,hp,mk⟩:=Z.ex
 obtain⟨tl,Na,nm,q,bs,hdct,sn,sub,ab,col,dd,k0,k1,k2,k3,k5,mN,hC,hN,hni,T⟩:=O.obj
 refine wpAny_Raise_call_subU (C:=C) (nm:=nm) (q:=q) (N:=Na) (bs:=bs) (bm:=tl) (hdct:=hdct) (sn:=sn) (sub:=sub) (ab:=ab) (col:=col) (dd:=dd) (k0:=k0) (k1:=k1) (k2:=k2) (k3:=k3) (k5:=k5)
  Fn hBn FB (mN:=mN) (T.hasType FB.hasBase) (I.ok.hd hc) (by rw[he];show(false||(backTo cpos (starEach es X.env)).any (·.1))=false;rw[hpl];rfl) hni (ld_glob I hg O.bound ⟨rfl,?_⟩ hd)
 have h:=ha cpos pins s σ H (fun vs H1=>vs.length<=sizeLine/\E (.ref C) none H1) I ⟨φ,ρ,μ,_,A,M,k,fun ds μ1 φ1 vs H1 k1 f1 M1 i1=>⟨by rw[i1.len];exact k1.1,LX (.ref C) μ1 φ1 H1 k1.2.2 (M1.hist k1.2.1) M1⟩⟩
 rw[he]at h ⊢
 refine cx (bz h (fun us s2 hq1=>by obtain⟨vs,H1,I1,r1,q1⟩:=hq1;exact⟨rfl,by rw[<- r1.length];exact q1.1,I1.bk _ _ hC,hN.keeps I1.bk,T.keeps I1.bk,fun h' e' mx=>mk pins σ H1 s2 h' e' _ _ I1 mx q1.2⟩) fun _ _ y=>y)
end
def FX (n:Nat)(K:DX):DX:=fun c μ'=>K c μ'\/((∀(j:Nat) (m:MO),j<n->μ'[j]?=some m->moB n m)/\K c (μ'.take n))
theorem LifX.fx {φ:List Addr}{H:Hp}{μ:MS}{K:DX}{E:XK}(M:MSis φ H μ)(L:LifX φ H K E):LifX φ H (FX μ.length K) E:=fun c μ' φ' H' k f M'=>by
 rcases k with k | ⟨hm,k⟩
 ·exact L c μ' φ' H' k f M'
 ·have eφ:φ'.take μ.length=φ:=by
   obtain⟨⟨ψ,rfl,_⟩,_,_⟩:=f
   rw[<- M.len,bp]
  have f0:Fr φ H (φ'.take μ.length) H':=by
   rw[eφ]
   exact⟨⟨[],by simp,fun _ h=>nomatch h⟩,f.keep,f.dom⟩
  exact L c _ _ H' k f0 (M'.cutT hm)
section
variable {P:Program}{w:World}{K:PySem.W.Frag}{mg:Str->Option Value}{base:Heap}
theorem Fun.okX {x qual:Str}{st:Stmt}{f:Addr}{fd:FuncData}{N ps:List Str}{k:Nat}{fs:DSpX}(F:Fun K x qual st f fd)(S:FnScope N ps (defScope st))(len:∀ ds μ Kd Kx,fs ds μ Kd Kx->ds.length=ps.length/\∃ m,μ[0]?=some m)
 (hbody:∀(cdv:Value) (A:Around) (outer:List Env) (s:Shared) (H:Hp) (E:XK),Room k (A.deeper (envOfC qual (defScope st) s.heap.objs.size f cdv))->∀(φ0:List Addr) (Kb:DX),Rm (cxOf (CX1 P w) P w K mg base N qual (defScope st) f cdv A outer s H E) φ0 H Kb ->
   ∃ W,PDB (cxOf (CX1 P w) P w K mg base N qual (defScope st) f cdv A outer s H E) (defBody st) W/\∀ ds μ m Kd Kx,(∀(j:Nat) (m':MO),(μ.set 0 (.gx φ0 H))[j]?=some m'->moB (μ.set 0 (.gx φ0 H)).length m')->mrL (μ.set 0 (.gx φ0 H)).length ds->μ[0]?=some m->fs ds μ Kd Kx->Kb=FX (μ.set 0 (.gx φ0 H)).length (gX φ0 H m Kx) ->
    W (retN (μ.set 0 (.gx φ0 H)).length (gK φ0 H m Kd)) (startE N ds) (μ.set 0 (.gx φ0 H))):FnOk P w K mg base (CX1 P w) (k+1) f fd ps (spX fs):=by
 obtain⟨oc,od,kV,doc,pm,an,cdv,ct,osl,rfl,lk,hcd⟩:=F.ex
 refine fn_of lk hcd S (fun vs H Q E h=>?_) fun A outer s H vs Q E hr hsp=>?_
 ·obtain⟨φ,ds,μ,Kd,Kx,ha,M,hf,L,LX⟩:=h
  rw[ha.len];exact(len ds μ Kd Kx hf).1
 ·obtain⟨φ,ds,μ,Kd,Kx,ha,M,hf,L,LX⟩:=hsp
  obtain⟨_,m,em⟩:=len ds μ Kd Kx hf
  have Mg:=M.ghost em
  have Lg:=(L.ghost M em).fz Mg
  obtain⟨W,hW,q⟩:=hbody cdv A outer s H E hr φ (FX (μ.set 0 (.gx φ H)).length (gX φ H m Kx)) ⟨E,(LX.ghost M em).fx Mg,flies,fun pins σ H' s' h' e cls vs I x hE=>raises I x hE⟩
  refine⟨_,hW,φ,startE N ds,μ.set 0 (.gx φ H),retN (μ.set 0 (.gx φ H)).length (gK φ H m Kd),.start ha,Mg,q ds μ m Kd Kx Mg.bound (by rw[<- Mg.len];exact ha.bound) em hf rfl,⟨fun ρ' μ' φ' σ' H' k' f' A' M'=>?_,Lg,fun _ _ _ _ _ k' _ _ _=>k'.elim,fun _ _ _ _ _ k' _ _ _=>k'.elim⟩⟩
  exact Lg .non μ' φ' .non H' k' f' M' rfl
end
theorem entry_unchain:entryFor table "proto.unchain"=some Builtin.«proto.unchain»:=entryFor_of_tree (by kernel_rfl)
section
variable {prog:Program}{w:World}{A:Around}{E:Value->Shared->Prop}{s:Shared}
theorem raiseNew_ctx {α:Type}{e h:Addr}{oh oe:Obj}{vs ws:Array Value}{Q:α->Shared->Prop}(hh:A.handled=some (.ref h))(hne:h≠e)(ho:s.heap.get? h=some oh)(hd:oh.data=.fields vs)(h2:vs[2]?=some .none)(he:s.heap.get? e=some oe)(hde:oe.data=.fields ws)(h2e:2<ws.size)
 (hE:E (.ref e) { s with heap:=s.heap.update e (Obj.mapFields (·.setIfInBounds 2 (.ref h)))}):wpAny (model prog w) A (raiseNew (.ref e):Sem α) Q E s:=by
 unfold raiseNew
 refine gxM (wpAny_handled ?_)
 rw[hh]
 dsimp only
 rw[aE (show(Value.ref h != Value.ref e)=true from by simp[hne])]
 refine gxM (bh (wpAny_runValue (codeAny_builtin entry_unchain ?_)))
 unfold Builtin.«proto.unchain»
 dsimp only
 refine gxM (aU ho hd h2 ?_)
 rw[aE (by decide)]
 refine gxM (ao (ao ?_))
 exact gxM (show wpAny _ _ (setField (.ref e) 2 (.ref h)) _ _ _ from cq he hde h2e (wpAny_throw hE))
theorem range_endH {it h:Addr}{oh:Obj}{vs:Array Value}{x left step:Int}{Q:Option Value->Shared->Prop}(hh:A.handled=some (.ref h))(ho:s.heap.get? h=some oh)(hd:oh.data=.fields vs)(h2:vs[2]?=some .none)(hit:IsRangeIter s.heap it x left step)(hleft:left<=0)
 (hQ:∀ h',(∀ b o,s.heap.get? b=some o->h'.get? b=some o)->Q none { s with heap:=h'}):wpAny (model prog w) A (pyNext (.ref it)) Q E s:=by
 have hT:s.TypeIs (.ref it) "range_iterator":=⟨_,hit,rfl⟩
 unfold pyNext
 refine gxM (de (bF (name:=Str.ofString "__next__") hT F.slot_range_iterator_next
  (bZ F.slot_range_iterator_next hT F.entry_range_iterator_next ?_ (F.args_range_iterator_next_1 _))))
 show wpAny _ _ (field (.ref it) 0 >>= _) _ _ s
 refine gxM (aU hit rfl (x:=rawInt x) rfl ?_)
 show wpAny _ _ (field (.ref it) 1 >>= _) _ _ s
 refine gxM (aU hit rfl (x:=rawInt left) rfl ?_)
 show wpAny _ _ (field (.ref it) 2 >>= _) _ _ s
 refine gxM (aU hit rfl (x:=rawInt step) rfl ?_)
 show wpAny _ _ (if left<=0 then _ else _) _ _ s
 rw[aE hleft]
 refine gxM (wpAny_rule (gxM ?_))
 show wpAny _ _ (newExc (.type "StopIteration") [] >>= _) _ _ _
 refine gxM ?_
 simp only[newExc,newTuple]
 refine gxM (bE ?_ (by size_fits))
 refine gxM (m:=firstArgMember _ _) (wpAny_of_eq (a:=Value.none) (by first | rfl | (simp only[firstArgMember];rfl)) ?_)
 refine bE ?_ (by size_fits)
 obtain⟨g,hg⟩:∃ g,g=s.heap.push { cls:=Value.type "tuple",data:=Data.seq #[]}:=⟨_,rfl⟩
 show wpAny _ _ (raiseNew (.ref (s.heap.push { cls:=Value.type "tuple",data:=Data.seq #[]}).objs.size)) _ _ { s with heap:=(s.heap.push { cls:=Value.type "tuple",data:=Data.seq #[]}).push { cls:=Value.type "StopIteration",data:=Data.fields (#[Value.ref s.heap.objs.size,Value.none,Value.none,Value.none,Value.bool false,Value.none]++ownMembersOf (Value.type "StopIteration") [])}}
 rw[<- hg]
 have k1:∀ b o,s.heap.get? b=some o->g.get? b=some o:=fun b o e=>by rw[hg];exact gxL _ e
 have k2:=fun b o (e:g.get? b=some o)=>gxL (h:=g) { cls:=Value.type "StopIteration",data:=Data.fields (#[Value.ref s.heap.objs.size,Value.none,Value.none,Value.none,Value.bool false,Value.none]++ownMembersOf (Value.type "StopIteration") [])} e
 have ne:h≠g.objs.size:=aF (gxN (k1 _ _ ho))
 have eN:=aj g (o:={ cls:=Value.type "StopIteration",data:=Data.fields (#[Value.ref s.heap.objs.size,Value.none,Value.none,Value.none,Value.bool false,Value.none]++ownMembersOf (Value.type "StopIteration") [])}) rfl
 refine raiseNew_ctx (s:={ s with heap:=g.push _}) (hh:=hh) ne (k2 _ _ (k1 _ _ ho)) hd h2 eN rfl (by rw[Array.size_append];show 2<6+_;omega) ?_
 refine gxM (wpAny_isInstance (T := "StopIteration") (b:=true) ⟨_,bV _ eN rfl,rfl⟩ isSubtype_stop ?_)
 exact ao (hQ _ fun b o e=>by
  have e2:=k2 _ _ (k1 _ _ e)
  rw[aY _ _ (bC (gxN (k1 _ _ e)))]
  exact e2)
end
structure ExF (K:PySem.W.Frag)(C:Addr):Prop where
 cl:(PySem.W.clsIn K C).isSome=true
 ga:PySem.W.findIn K (.ref C) "__getattribute__"=some (some (.builtin "BaseException.__getattribute__"))
 gn:PySem.W.findIn K (.ref C) "__getattr__"=some none
 ca:PySem.W.findIn K (.ref C) "__class__"=some (some (.builtin "object.__class__"))
 cg:PySem.W.specialIn K (.builtin "object.__class__") "__get__"=some (some (.builtin "getset_descriptor.__get__"))
 ct:PySem.W.takesIn K (.builtin "object.__class__")=some true
 mo:PySem.W.mroIn K C (.type "object")=some true
 mb:PySem.W.mroIn K C (.type "BaseException")=some true
section
variable {prog:Program}{w:World}{A:Around}{E:Value->Shared->Prop}{s:Shared}{K:PySem.W.Frag}{e C:Addr}{oe:Obj}
theorem exc_class {Q:Option Value->Shared->Prop}(X:K.In s.heap)(I:PySem.W.InstAt s.heap e oe C none)(f:ExF K C)(h:Q (some (.ref C)) { s with toks:=s.toks+1}):wpAny (model prog w) A (getAttr? (.ref e) "__class__") Q E s:=by
 obtain⟨hh,g,d,t,os⟩:=s
 have L0:=I.type (M:=model prog w)
 have L1:=PySem.W.looks_findIn (M:=model prog w) X f.ga
 have L2:=PySem.W.looks_findIn (M:=model prog w) X f.gn
 have hf:PySem.W.findObj K C none "__class__"=some (.bind (.builtin "getset_descriptor.__get__") (.builtin "object.__class__")):=by
  obtain⟨cd,hc⟩:=Option.isSome_iff_exists.mp f.cl
  unfold PySem.W.findObj
  rw[hc,Option.bind_some,f.ca,Option.bind_some]
  simp[f.cg,f.ct]
 have L3:=PySem.W.looks_find (M:=model prog w) X I hf
 have LB:=PySem.W.looks_mroIn (M:=model prog w) X f.mb
 unfold getAttr? getAttrBy? getAttrBy
 refine gxM (wpAny_mkText (gxM (de (bh (gxM (L0.at (gxM (L1.at ?_))))))))
 show wpAny _ _ (getAttrByItsOwn _ _ _ _ _ _) _ _ _
 unfold getAttrByItsOwn
 refine gxM (show wpAny _ _ (typeLookup (.ref C) "__getattr__") _ _ _ from L2.at ?_)
 refine gxM (de (bh ?_))
 show wpAny _ _ (boundAndCalled _ _ _) _ _ _
 unfold boundAndCalled
 have ga:=PySem.F.attr_ValueError.ga
 refine gxM (wpAny_of_eq (ga.bind (.ref e)) (wpAny_call (codeAny_call_builtin ga.plain F.entry_bexc_ga ?_)))
 have LI:PySem.W.Looks (model prog w) hh (isInstance (.ref e) (.type "BaseException")) true:=L0.andThen LB
 have hk:builtinKind "BaseException.__getattribute__"=some .slot:=by decide +kernel
 have hsplit:splitId "BaseException.__getattribute__"=some ("BaseException", "__getattribute__"):=by decide +kernel
 have ha:=F.args_bexc_ga (.ref e) (.str "__class__" t)
 show wpAny _ _ (checkBuiltinCall "BaseException.__getattribute__" ⟨[.ref e,.str "__class__" t],[]⟩) _ _ _
 simp only[checkBuiltinCall,hk,hsplit]
 refine gxM (LI.at ?_)
 simp only[if_true,Bool.not_true,Bool.false_eq_true,if_false]
 refine wpAny_of_eq ha ?_
 show wpAny _ _ (Builtin.«object.__getattribute__» ⟨[.ref e,.str "__class__" t],[]⟩) _ _ _
 unfold Builtin.«object.__getattribute__»
 refine gxM (ao (gxM (ao (gxM (L0.at (gxM (L3.at ?_)))))))
 show wpAny _ _ (holding [Value.builtin "object.__class__"] (call (.builtin "getset_descriptor.__get__") [.builtin "object.__class__",.ref e,.ref C]) >>= fun v=>ret v) _ _ _
 refine gxM (bh (wpAny_call (PySem.W.class_get (ox:=oe) (od:=none) X I f.mo ?_)))
 refine ao ?_
 exact PySem.W.handed_on rfl (ao h)
theorem kitx_exc (f:ExF K C):PySem.W.KitX K (.ref e) (.ref C) (fun h=>∃ oe,PySem.W.InstAt h e oe C none) where
 ty:=fun _ _ _ hq2=>by obtain⟨_,I⟩:=hq2;exact I.type
 it:=fun _ _ X _=>by
  obtain⟨cdD,hcD⟩:=Option.isSome_iff_exists.mp f.cl
  unfold PySem.W.clsIn at hcD
  split at hcD
  ·rename_i c' d' cd' sl' ho
   intro A' Q' E' s' k q
   unfold isType loadHead
   exact gxM (wpAny_loadPart (k _ _ (X _ _ ho)) (ao q))
  ·cases hcD
 ne:=fun h tp dd its n sl X htp=>by
  obtain⟨cdD,hcD⟩:=Option.isSome_iff_exists.mp f.cl
  refine Bool.eq_false_iff.mpr fun q=>?_
  have e:C=tp:=Value.ref.inj (beq_iff_eq.mp q)
  subst e
  unfold PySem.W.clsIn at hcD
  split at hcD
  ·rename_i c' d' cd' sl' ho
   have z:=(X _ _ ho).symm.trans htp
   cases z
  ·cases hcD
 ca:=fun X ⟨_,I⟩ k=>exc_class X I f k
theorem exc_match {h:Heap}{g:Array GenState}{d:Drawn}{t:Nat}{os:OsState}{B:Addr}{Q:Bool->Shared->Prop}{nB qB nC qC:Str}{NB NC:Addr}{bsB bmB bsC bmC:List Value}{hdB hdC:Bool}{snB snC:List Str}{subB subC:List Value}{abB abC:Bool}{colB colC:Option Bool}{ddB ddC:Option Addr}{b0 b1 b2 b3 b5 c0 c1 c2 c3 c5:Option Value}{idB idC:String}
 (hB:h.get? B=some (excClassObj nB qB B NB bsB bmB hdB snB subB abB colB ddB b0 b1 b2 b3 b5 idB)) (hC:h.get? C=some (excClassObj nC qC C NC bsC bmC hdC snC subC abC colC ddC c0 c1 c2 c3 c5 idC)) (he:h.get? e=some oe) (hcls:oe.cls=.ref C)
 (hbB:bmB.contains (.type "BaseException")=true) (hin:(Value.ref C::bmC).contains (.ref B)=true) (hq:Q true ⟨h,g,d,t,os⟩):wpAny (model prog w) A (excMatches (.ref e) (.ref B)) Q E ⟨h,g,d,t,os⟩:=by
 have hcB:(Value.ref B::bmB).contains (.type "BaseException")=true:=by rw[List.contains_cons,hbB,Bool.or_true]
 have f:=tc_notTuple
 unfold excMatches
 repeat (first | (with_reducible refine wpAny_loadPart_at he ?_;rw[hcls]) | with_reducible refine wpAny_loadPart_at hB ?_ | (with_reducible refine wpAny_isSubtype_exc hB ?_;rw[hcB]) | (with_reducible refine wpAny_isSubtype_exc hC ?_;rw[hin]) | wp_step)
 exact hq
end
section
variable {X:Cx}{a e:Expr}{es:List Expr}{pos:Pos}
theorem isiE {c:V}{cv:Value}(rc:∀ u,RelV c u->u=cv):CallR X (.builtin "isinstance") (fun vs H Q=>∃ e C b,vs=[.ref e,c]/\H e=some (.ext (ExcIs e (.ref C)))/\ExF X.K C/\PySem.W.kitOne X.K (.ref C) cv=some b/\Q (.bl b) H):=by
 intro pins s σ H vs us Q I r q
 obtain⟨e,C,b,rfl,he,f,hk,q⟩:=q
 obtain⟨u1,u2,rfl,r1,r2⟩:=r.two
 cases(show u1=.ref e from r1)
 have:=rc u2 r2
 subst this
 obtain⟨⟨oe,ws,h1,h2,h3,h4,_⟩,_,_⟩:=(show ObjOk X.prog X.w H s.heap e (.ext (ExcIs e (.ref C)))from I.hok e _ he)
 exact ba (kitx_exc f) I.kIn ⟨oe,h1,h2,by unfold PySem.W.notCls;rw[h4],by rw[h3];trivial⟩ hk (fun z=>nomatch z) fun tk=>⟨.bl b,H,I.tok tk,rfl,q⟩
def dIsiE (K:PySem.W.Frag)(cv:Value)(w:De):De:=fun ρ μ Kd=>w ρ μ fun d μ1=>match d with
 | .mr k=>∃ C b,μ1[k]?=some (.exc (.ref C))/\ExF K C/\PySem.W.kitOne K (.ref C) cv=some b/\Kd (.bl b) μ1
 | _=>False
theorem tD_isiE {c:V}{cv:Value}{w:De}{σ:St}{H:Hp}{Q:VK}(h:tD (dIsiE X.K cv w) σ H Q):tCB (fun vs H Q=>∃ e C b,vs=[.ref e,c]/\H e=some (.ext (ExcIs e (.ref C)))/\ExF X.K C/\PySem.W.kitOne X.K (.ref C) cv=some b/\Q (.bl b) H) (tCons (tD w) (tCons (tC c) tNil)) σ H Q:=by
 obtain⟨φ,ρ,μ,K,A,M,k,L⟩:=h
 refine⟨φ,ρ,μ,_,A,M,k,fun d μ1 φ1 v1 H1 k1 f1 M1 i1=>?_⟩
 cases d with
 | mr j =>
  obtain⟨C,b,e1,f,hk,k1⟩:=k1
  obtain⟨p,hp,rfl⟩:=i1
  obtain⟨p',e2,e3⟩:=M1.at_ j _ e1
  rw[hp]at e2;cases e2
  exact⟨p,C,b,rfl,e3,f,hk,L _ μ1 φ1 _ H1 k1 f1 M1 rfl⟩
 | _=>exact k1.elim
theorem d_isiC {w:De}{B:Addr}{x:Str}{p p2:Pos}(hg:Gl X "isinstance")(hm:X.mg "isinstance"=none)(hg2:Gl X x)(hm2:X.mg x=some (.ref B))(ha:PD X a w)(hd:(x==("__debug__" : Str))=false:=by decide)
 (hs:starEach [a,.Name x p2] X.env=(false,eval a X.env)::starEach [.Name x p2] X.env:=by rfl) (hs2:starEach [.Name x p2] X.env=(false,eval (.Name x p2) X.env)::starEach [] X.env:=by rfl) (hpl:(backTo pos (starEach [.Name x p2] X.env)).any (·.1)=false:=by rfl) :
 PD X (.Call (.Name "isinstance" p) [a,.Name x p2] [] pos) (dIsiE X.K (.ref B) w) :=
 (pe_callB (isiE (c:=.ref B) (cv:=.ref B) fun u r=>r) hg hm boot_isinstance (pa_cons ha (pa_cons (pe_glob (v:=.ref B) hg2 hm2 rfl hd) pa_nil hs2) hs) (by decide) (by decide) hs hpl).imp fun σ H Q q=>tD_isiE q
theorem d_isiV {w:De}{T:String}{x:Str}{p p2:Pos}(hg:Gl X "isinstance")(hm:X.mg "isinstance"=none)(hg2:Gl X x)(hm2:X.mg x=none)(hv:bootBuiltins x=some (.type T))(ha:PD X a w)(hn:x ≠ "__name__":=by decide)(hd:(x==("__debug__" : Str))=false:=by decide)
 (hs:starEach [a,.Name x p2] X.env=(false,eval a X.env)::starEach [.Name x p2] X.env:=by rfl) (hs2:starEach [.Name x p2] X.env=(false,eval (.Name x p2) X.env)::starEach [] X.env:=by rfl) (hpl:(backTo pos (starEach [.Name x p2] X.env)).any (·.1)=false:=by rfl) :
 PD X (.Call (.Name "isinstance" p) [a,.Name x p2] [] pos) (dIsiE X.K (.type T) w) :=
 (pe_callB (isiE (c:=.ty T) (cv:=.type T) fun u r=>r) hg hm boot_isinstance (pa_cons ha (pa_cons (pe_bltn (v:=.ty T) hg2 hm2 hv rfl hn hd) pa_nil hs2) hs) (by decide) (by decide) hs hpl).imp fun σ H Q q=>tD_isiE q
end
def ItrH (lo:Int)(n:Nat)(e:Addr):It:=⟨fun i _=>i<n,fun i H x H'=>H'=H/\x=.int (lo+i),fun i H=>n<=i/\∃ c,H e=some (.ext (ExcIs e c))⟩
def HndBy (e:Addr):Cx->Prop:=fun X=>X.A.handled=some (.ref e)
theorem turn_rangeH {P:Program}{w:World}{K:PySem.W.Frag}{tg:Expr}(it:Addr)(lo:Int)(n:Nat)(e:Addr):Turn P w K tg (ItrH lo n e) [it] it (fun i h=>IsRangeIter h it (lo+(i:Nat)*1) ((n:Int) - (i:Nat)) 1) (HndBy e) where
 mem:=by simp
 obj:=(turn_range (P:=P) (w:=w) (K:=K) (tg:=tg) it lo n).obj
 keep:=(turn_range (P:=P) (w:=w) (K:=K) (tg:=tg) it lo n).keep
 item:=by
  intro X hP hw hK hc i pins s σ H E I hf st hg
  subst hP hw hK
  obtain⟨f0,f1,f2,f3,f4,f5⟩:=hf it (by simp)
  refine wpAny_pyNext_range_item st (by have:i<n:=hg;omega) fun h' st' kk=>?_
  have I1:Inv X pins σ H { s with heap:=h',toks:=s.toks+1}:=I.turned (fun b o hb e=>kk.extBut b o hb e) f0 f1 f3 f4 f5
  have st2:IsRangeIter h' it (lo+((i+1:Nat):Int)*1) ((n:Int) - ((i+1:Nat):Int)) 1:=by
   have e1:lo+((i+1:Nat):Int)*1=lo+(i:Int)*1+1:=by omega
   have e2:(n:Int) - ((i+1:Nat):Int)=(n:Int) - (i:Int) - 1:=by omega
   rw[e1,e2];exact st'
  refine⟨_,rfl,go_of (s:={ s with heap:=h',toks:=s.toks+1}) (n := "range_iterator") st' rfl rfl (by decide) ⟨.int (lo+i),H,I1,⟨s.toks,by rw[Int.mul_one]⟩,⟨rfl,rfl⟩,st2,fun b hb=>(hf b hb).1⟩⟩
 done:=by
  intro X hP hw hK hc i pins s σ H E I hf st hg
  subst hP hw hK
  obtain⟨f0,f1,f2,f3,f4,f5⟩:=hf it (by simp)
  obtain⟨hg,c,he⟩:=hg
  obtain⟨⟨oe,ws,h1,h2,h3,h4,h5⟩,_,_⟩:=(show ObjOk X.prog X.w H s.heap e (.ext (ExcIs e c))from I.hok e _ he)
  exact range_endH hc h1 h4 h5 st (by omega) fun h' k=>⟨rfl,I.kept (t':=s.toks) k⟩
 self:=(turn_range (P:=P) (w:=w) (K:=K) (tg:=tg) it lo n).self
section
variable {X:Cx}{tg:Expr}{CM:Cx->Prop}
def PIH (X:Cx)(CM:Cx->Prop)(tg iter:Expr)(wi:TI):Prop :=
 ∀(pins:List (Addr×Obj)) (s:Shared) (σ:St) (H:Hp) (R:It->Hp->Prop),Inv X pins σ H s->wi σ H R ->
  wpAny (model X.prog X.w) X.A (eval iter X.env) (fun v s1=>wpAny (model X.prog X.w) X.A (pyIter v) (fun itv s2=>∃(it:Addr) (fp:List Addr) (tn:Nat->Heap->Prop) (J:It) (H':Hp),itv=.ref it/\Inv X pins σ H' s2/\Turn X.prog X.w X.K tg J fp it tn CM/\tn 0 s2.heap/\(∀ b∈fp,FpOk X pins H' b)/\R J H') X.xe s1) X.xe s
theorem PIH.imp {iter:Expr}{t t':TI}(h:PIH X CM tg iter t)(hi:∀ σ H Q,t' σ H Q->t σ H Q):PIH X CM tg iter t':=fun pins s σ H R I q=>h pins s σ H R I (hi σ H R q)
def iRngH (e:Addr)(ta:TA):TI:=fun σ H R=>ta σ H fun vs H1=>∃ j:Int,vs=[.int j] /\ -(2 ^ 62)<=j/\j<2 ^ 62/\R (ItrH 0 j.toNat e) H1
theorem pi_rangeH {a:Expr}{ta:TA}{e:Addr}{p pos:Pos}(hg:Gl X "range")(hm:X.mg "range"=none)(ha:PA X [a] ta)(hs:starEach [a] X.env=[(false,eval a X.env)]:=by rfl):PIH X (HndBy e) tg (.Call (.Name "range" p) [a] [] pos) (iRngH e ta):=by
 intro pins s σ H R I h
 refine Call_ (ld_blt I hg hm boot_range (bL (thn (ha pos pins s σ H _ I h) fun us s1 hq3=>?_) hs rfl))
 obtain⟨vs,H1,I1,r1,q1⟩:=hq3
 obtain⟨j,e',q1,q2,q⟩:=q1
 subst e'
 cases r1 with
 | cons r rr =>
  cases rr
  obtain⟨t,rfl⟩:=r
  refine call_range_1 ?_
  refine wpAny_pyIter_range (IsRange.new ..) (small_one (by omega) (by omega) q1 q2) ?_
  obtain⟨o,ho⟩:∃ o:Obj,o={ cls:=.type "range",data:=.fields #[.int 0 s1.toks,.int j t,.int 1 (s1.toks+1)]}:=⟨_,rfl⟩
  have I2:Inv X pins σ H1 { s1 with heap:=s1.heap.push o,toks:=s1.toks+1+1}:=I1.kept fun b u e=>gxL _ e
  rw[<- ho]
  refine⟨(s1.heap.push o).objs.size,[(s1.heap.push o).objs.size],_,_,H1,rfl,I2.kept (t':=s1.toks+1+1) fun b u e=>gxL _ e,turn_rangeH _ 0 j.toNat e,?_,fun b hb=>?_,q⟩
  ·have e1:(0:Int)+((0:Nat):Int)*1=0:=by simp
   have e2:((j.toNat:Nat):Int) - ((0:Nat):Int)=Builtin.Range.rangeSize 0 j 1:=by rw[rangeSize_one];split <;> omega
   show IsRangeIter _ _ ((0:Int)+((0:Nat):Int)*1) (((j.toNat:Nat):Int) - ((0:Nat):Int)) 1
   rw[e1,e2]
   exact aj _ rfl
  ·have e':b=(s1.heap.push o).objs.size:=by simpa using hb
   subst e'
   exact I2.fpOk (aa _) (I2.hok.fresh (aa _))
variable {N:List Str}{js:List (Option Nat)}{sc:Scope}{elt iter:Expr}{ifs:List Expr}{g:TG}{tt:TT}{te:TE}
theorem pe_compH {wi:TI}{pos:Pos}(hc:CompOk X N js sc)(calm:∀ fp s H,CM (cxC X N sc fp s H))(hi:PIH X CM tg iter wi)(hg:∀ fp s H,PG (cxC X N sc fp s H) tg g)(ht:∀ fp s H,PTs (cxC X N sc fp s H) ifs tt)(he:∀ fp s H,PE (cxC X N sc fp s H) elt te)
 (hs:∀ x,foldedSetIterable iter X.env x=pure x:=by intro _;rfl):PE X (.ListComp elt [⟨tg,iter,ifs,0⟩] sc pos) (tComp wi js g tt te):=by
 intro pins s σ H Q I h
 rw[eval_ListComp]
 refine wpAny_comprehension_free (use:=none) rfl hs (closureFor_eq fun y hy e=>I.ok.has y.1 (hc.free y hy e)) hc.kind hc.loc (thn (hi pins s σ H _ I h) fun v s1 h1=>thn h1 fun itv s2 h2=>?_)
 obtain⟨it,fp,tn,J,H2,e,I2,T,st2,f2,q⟩:=h2
 subst e
 refine bE (newEnv_comp ?_)
 have hC:(s2.heap.push { cls:=.type "list",dict:=none,data:=.seq ([]:List Value).toArray}).objs.size=s2.heap.objs.size+1:=bq ..
 simp only[hC]
 refine comp_block (tk:=s2.toks) I2 hc (calm fp s2 H2) T st2 f2 (hg fp s2 H2) (ht fp s2 H2) (he fp s2 H2) q fun s' H' ys m IX nD qf nC hn=>?_
 refine⟨m,nC,fun h' sb=>?_⟩
 have neC:∀(b:Addr) (o:Obj),s2.heap.get? b=some o->b≠s2.heap.objs.size+1:=fun b o e=>aF (bH (gxN e))
 have IY:Inv X pins σ (upd H' s2.heap.objs.size (.lst ys)) { s' with heap:=h'}:=IX.turned (t':=s'.toks) (it:=s2.heap.objs.size+1) (fun b o hb e=>(sb.2 b hb).trans e) (by rw[upd_ne (bC (Nat.lt_succ_self _))];exact hn)
  (bC (bH I2.lt)) (.inr (Nat.le_succ_of_le I2.sz)) (fun x c e=>let ⟨v,z⟩:=I2.cell x c e;aF (bH z.lt)) (fun p hp=>neC _ _ (I2.pin p hp).1)
 exact⟨.ref _,_,IY,rfl,qf _ nD⟩
end
abbrev hC (φ0:List Addr)(H0:Hp)(k:Nat):MS->Prop:=fun μ=>μ[0]?=some (.gx φ0 H0)/\∃ c,μ[k]?=some (.exc c)
theorem hC_ext {φ0 φ:List Addr}{H0 H:Hp}{k:Nat}{μ:MS}{e:Addr}(hk:φ0[k]?=some e)(M:MSis φ H μ)(h:hC φ0 H0 k μ):φ[k]?=some e/\∃ c,H e=some (.ext (ExcIs e c)):=by
 obtain⟨h1,c,h2⟩:=h
 have:=(M.hist h1).get hk
 obtain⟨p,e1,e2⟩:=M.at_ k _ h2
 rw[this]at e1;cases e1
 exact⟨this,c,e2⟩
theorem wk_rangeH {lo:Int}{n k:Nat}{φ φ0:List Addr}{H H0:Hp}{e:Addr}(hk:φ0[k]?=some e):Wk (ItrH lo n e) φ H (rngD lo n) (hC φ0 H0 k):=fun φ' H' μ' f M c i=>by
 have hl:(rngD lo n).length=n:=by unfold rngD;rw[gxC,gxJ]
 refine⟨fun d hd=>?_,fun hi=>⟨by rw[hl]at hi;exact Nat.le_of_eq hi.symm,(hC_ext hk M c).2⟩⟩
 have hi:i<n:=by have:=(gxB hd).1;omega
 refine⟨hi,fun x H'' hy=>?_⟩
 obtain⟨rfl,rfl⟩:=hy
 refine⟨.refl _ _,M,?_⟩
 unfold rngD at hd
 rw[gxH,List.getElem?_range hi]at hd
 cases hd
 rfl
def dItRH (φ0:List Addr)(H0:Hp)(k:Nat)(w:DA):DI:=fun ρ μ K=>w ρ μ fun ds μ1=>match ds with
 | [.int j] => -(2 ^ 62)<=j/\j<2 ^ 62/\K (rngD 0 j.toNat) (hC φ0 H0 k) μ1
 | _=>False
section
variable {X:Cx}{a:Expr}{pos:Pos}{N:List Str}{js:List (Option Nat)}{sc:Scope}{tg elt iter:Expr}{ifs:List Expr}{g:TG}{y:DG}{S:List Nat}{t:Dt}{w:De}{φ0:List Addr}{H0:Hp}{k:Nat}{e:Addr}
theorem i_rangeH {w:DA}{p:Pos}(hk:φ0[k]?=some e)(hg:Gl X "range")(hm:X.mg "range"=none)(ha:PDA X [a] w)(hs:starEach [a] X.env=[(false,eval a X.env)]:=by rfl):PIH X (HndBy e) tg (.Call (.Name "range" p) [a] [] pos) (tDI (dItRH φ0 H0 k w)):=(pi_rangeH hg hm ha hs).imp fun σ H Q hq=>by
 obtain⟨φ,ρ,μ,K,A,M,k,L⟩:=hq
 refine⟨φ,ρ,μ,_,A,M,k,fun ds μ1 φ1 vs H1 k1 f1 M1 i1=>?_⟩
 split at k1
 ·obtain⟨v,r,rfl,h1,h2⟩:=i1
  cases(show v=_ from h1);cases(show r=[]from h2)
  exact⟨_,rfl,k1.1,k1.2.1,L _ _ μ1 φ1 _ H1 k1.2.2 f1 M1 (wk_rangeH hk)⟩
 ·exact k1.elim
theorem d_compH (m:Bool){wi:DI}(hc:CompOk X N js sc)(hh:X.A.handled=some (.ref e))(so:SoG g y S)(mo:MonoG g)(ho:ownJs S js=true)(hi:PIH X (HndBy e) tg iter (tDI wi))(hg:∀ fp s H,PG (cxC X N sc fp s H) tg g)(ht:∀ fp s H,PDTs (cxC X N sc fp s H) ifs t)(he:∀ fp s H,PD (cxC X N sc fp s H) elt w)
 (hs:∀ x,foldedSetIterable iter X.env x=pure x:=by intro _;rfl):PD X (.ListComp elt [⟨tg,iter,ifs,0⟩] sc pos) (dComp m wi js y t w):=(pe_compH hc (fun _ _ _=>hh) hi hg ht he hs).imp fun σ H Q q=>tD_comp so mo ho q
end
structure RoomH (k:Nat)(A:Around):Prop where
 dp:A.depth+3*k+5<recursionLimit
 un:A.units+16*k+200<cLine
theorem RoomH.deeper {k:Nat}{A:Around}(r:RoomH (k+1) A)(env:Env):RoomH k (A.deeper env) :=
 ⟨by have:=r.dp;show A.depth+1+3*k+5<_;omega,by have:=r.un;show A.units+3+16*k+200<_;omega⟩
theorem RoomH.depth {k:Nat}{A:Around}(r:RoomH k A):A.depth<recursionLimit:=by have:=r.dp;omega
abbrev Cx.hnd (X:Cx)(A:Around):Cx:={ X with A:=A,calm:=false,xe:=fun _ _=>False}
theorem Inv.hnd {X:Cx}{pins:List (Addr×Obj)}{σ:St}{H:Hp}{s:Shared}(I:Inv X pins σ H s){A:Around}(hf:A.frames=some X.stack):Inv (X.hnd A) pins σ H s :=
 ⟨⟨I.ok.mod,I.ok.kind,I.ok.glob,I.ok.blt,I.ok.above,I.ok.inj,I.ok.has,I.ok.cab,(fun z=>by cases z),hf,I.ok.stk,I.ok.exf,I.ok.bs,I.ok.bsz,I.ok.noex,I.ok.exfs,I.ok.funs,I.ok.frf⟩,I.os,I.bare,I.base,I.loc,I.cell,I.free,I.freeC,I.pin,I.hok,I.len⟩
structure FnOkH (P:Program)(w:World)(K:PySem.W.Frag)(mg:Str->Option Value)(base:Heap)(k:Nat)(f:Addr)(fd:FuncData)(ps:List Str)(fs:DSp):Prop where
 len:∀ ds μ Kd,fs ds μ Kd->ds.length=ps.length
 run:∀(A:Around) (outer:List Env) (s:Shared) (H:Hp) (args:Args) (us:List Value) (vs:List V) (Q:VK) (e:Addr),RoomH k A->A.handled=some (.ref e)->Env0 P w K mg base A outer s H->BindsTo s fd args (ps.zip us)->Vals vs us ->
  (∃ φ ds μ Kd kx,DAll φ H ds vs/\MSis φ H μ/\φ[kx]?=some e/\kx≠0/\(∃ c,μ[kx]?=some (.exc c))/\fs ds μ Kd/\Lif φ H Kd Q)->codeAny (model P w) A (.call (.ref f) args) (CR CX0 outer P w H s Q E0) s
section
variable {P:Program}{w:World}{K:PySem.W.Frag}{mg:Str->Option Value}{base:Heap}
abbrev cxH (P:Program)(w:World)(K:PySem.W.Frag)(mg:Str->Option Value)(base:Heap)(N:List Str)(qual:Str)(scope:Scope)(f:Addr)(cd:Value)(A:Around)(outer:List Env)(s:Shared)(H:Hp):Cx :=
 (cxOf CX0 P w K mg base N qual scope f cd { A with handled:=none} outer s H E0).hnd (A.deeper (envOfC qual scope s.heap.objs.size f cd))
theorem Fun.okH {x qual:Str}{st:Stmt}{f:Addr}{fd:FuncData}{N ps:List Str}{k:Nat}{fs:DSp}(F:Fun K x qual st f fd)(S:FnScope N ps (defScope st))(len:∀ ds μ Kd,fs ds μ Kd->ds.length=ps.length/\∃ m,μ[0]?=some m)
 (hbody:∀(cdv:Value) (A:Around) (outer:List Env) (s:Shared) (H:Hp),RoomH k (A.deeper (envOfC qual (defScope st) s.heap.objs.size f cdv))->∀(φ0:List Addr) (kx:Nat) (e:Addr),φ0[kx]?=some e->A.handled=some (.ref e) ->
   ∃ W,PDB (cxH P w K mg base N qual (defScope st) f cdv A outer s H) (defBody st) W/\∀ ds μ m Kd,(∀(j:Nat) (m':MO),(μ.set 0 (.gx φ0 H))[j]?=some m'->moB (μ.set 0 (.gx φ0 H)).length m')->mrL (μ.set 0 (.gx φ0 H)).length ds->μ[0]?=some m->hC φ0 H kx (μ.set 0 (.gx φ0 H))->fs ds μ Kd ->
    W (retN (μ.set 0 (.gx φ0 H)).length (gK φ0 H m Kd)) (startE N ds) (μ.set 0 (.gx φ0 H))):FnOkH P w K mg base (k+1) f fd ps fs:=by
 obtain⟨oc,od,kV,doc,pm,an,cdv,ct,osl,rfl,lk,hcd⟩:=F.ex
 refine⟨fun ds μ Kd h=>(len ds μ Kd h).1,fun A outer s H args us vs Q e hr hh e0 hb r hsp=>?_⟩
 obtain⟨φ,ds,μ,Kd,kx,ha,M,hk,hk0,hex,hf,L⟩:=hsp
 obtain⟨hl',m,em⟩:=len ds μ Kd hf
 have hl:vs.length=ps.length:=by rw[ha.len];exact hl'
 have KX:K.In s.heap:=e0.mod.kin.keeps fun b o e=>(e0.bs b o e).1
 have lim:s.heap.NoLimit:=e0.mod.nolimit.keeps fun b o e=>(e0.bs b o e).1
 have hkind:∀ y∈ps.zip us,(defScope st).names.lookup y.1=some .local\/((defScope st).names.lookup y.1=some .cell/\((cellsFrom (s.heap.objs.size+1) (defScope st).names []).lookup y.1).isSome=true):=fun⟨n,v⟩ hy=>by
  rcases S.par n (List.of_mem_zip hy).1 with q | q
  ·exact .inl q
  ·exact .inr ⟨q,cY _ _ _ (.inl q)⟩
 refine codeAny_call_function hr.depth (KX _ _ lk) rfl S.co S.gen rfl (PySem.W.codeRec_of KX hcd) (hb _ _ _ _ ?_)
 refine wpAny_newFunctionEnv_cells S.kind hkind fun env he s1 x=>?_
 subst he
 refine⟨lim.keeps x.toInCall.keep,codeAny_func ?_⟩
 have e1:Env0 P w K mg base { A with handled:=none} outer s H:=⟨e0.frames,e0.mod,e0.bs,e0.bsz,e0.funs,e0.frf,e0.hok,e0.bare⟩
 have I0:Inv (cxOf CX0 P w K mg base N qual (defScope st) f cdv { A with handled:=none} outer s H E0) [] (start N vs) H s1:=inv_start S rfl e1 hl r x
 have I:Inv (cxH P w K mg base N qual (defScope st) f cdv A outer s H) [] (start N vs) H s1:=I0.hnd (Around.frames_deeper e0.frames)
 have Mg:=M.ghost em
 have Lg:=(L.ghost M em).fz Mg
 have hc:hC φ H kx (μ.set 0 (.gx φ H)):=⟨aI (gxB em).1,by rw[aM (bM hk0)];exact hex⟩
 obtain⟨W,hW,q⟩:=hbody cdv A outer s H (hr.deeper _) φ kx e hk hh
 refine bz (hW [] s1 (start N vs) H { nx:=fun _ H'=>Q .non H',rt:=Q} I ⟨φ,startE N ds,μ.set 0 (.gx φ H),retN (μ.set 0 (.gx φ H)).length (gK φ H m Kd),.start ha,Mg,q ds μ m Kd Mg.bound (by rw[<- Mg.len];exact ha.bound) em hc hf,⟨fun ρ' μ' φ' σ' H' k' f' A' M'=>Lg .non μ' φ' .non H' k' f' M' rfl,Lg,fun _ _ _ _ _ k' _ _ _=>k'.elim,fun _ _ _ _ _ k' _ _ _=>k'.elim⟩⟩) (fun fl s' hs=>?_) fun e s' hs=>hs.elim
 have fin:∀ {σ':St} {H':Hp} {v:V} {u:Value},Inv (cxH P w K mg base N qual (defScope st) f cdv A outer s H) [] σ' H' s'->RelV v u->Q v H'->CE outer P w H s Q u s' :=
  fun {σ' H' v u} J rv q=>⟨v,H',J.os,J.bare,J.base,J.hok,rv,q⟩
 cases fl with
 | ret u =>
  obtain⟨v,σ',H',J,rv,q⟩:=hs
  exact fin J rv q
 | next =>
  obtain⟨σ',H',J,q⟩:=hs
  exact fin (v:=V.non) (u:=Value.none) J rfl q
 | brk =>
  obtain⟨_,_,_,q⟩:=hs
  exact False.elim q
 | cont =>
  obtain⟨_,_,_,q⟩:=hs
  exact False.elim q
end
structure CalH (P:Program)(w:World)(K:PySem.W.Frag)(mg:Str->Option Value)(base:Heap)(x:Str)(k:Nat)(ps:List Str)(fs:DSp):Prop where
 ex:∃ f fd,FnOkH P w K mg base k f fd ps fs/\mg x=some (.ref f)/\PySem.W.keepIn K (.ref f)=true/\Binds K fd ps []
section
variable {X:Cx}{e:Expr}{es:List Expr}{pos:Pos}{φ0:List Addr}{H0:Hp}{kx:Nat}{ea:Addr}
def dCallH (φ0:List Addr)(H0:Hp)(kx:Nat)(f:DSp)(w:DA):De:=fun ρ μ K=>w ρ μ fun ds μ1=>hC φ0 H0 kx μ1/\f ds μ1 K
theorem d_callH {f:DSp}{w:DA}{x:Str}{p:Pos}{k:Nat}{ps:List Str}(hk:φ0[kx]?=some ea)(hk0:kx≠0)(hh:X.A.handled=some (.ref ea))(C:CalH X.prog X.w X.K X.mg X.base x k ps f)(hr:RoomH k X.A)(hg:Gl X x)(ha:PDA X (e::es) w)
 (hdb:(x==("__debug__" : Str))=false:=by decide) (he:starEach (e::es) X.env=(false,eval e X.env)::starEach es X.env:=by rfl) (hpl:(backTo pos (starEach es X.env)).any (·.1)=false:=by rfl) :
 PD X (.Call (.Name x p) (e::es) [] pos) (dCallH φ0 H0 kx f w):=by
 obtain⟨f',fd,F,hm,hkp,hb⟩:=C.ex
 intro pins s σ H Q I h
 obtain⟨φ,ρ,μ,K,A,M,w,L⟩:=h
 refine b9 (ld_glob I hg hm ?_ hdb)
 refine PySem.W.callWith_K (h₀:=X.base) I.ok.mod.kin hkp (thn (ha pos pins s σ H (fun vs H1=>∃ φ ds μ Kd kx,DAll φ H1 ds vs/\MSis φ H1 μ/\φ[kx]?=some ea/\kx≠0/\(∃ c,μ[kx]?=some (.exc c))/\f ds μ Kd/\Lif φ H1 Kd Q) I ⟨φ,ρ,μ,_,A,M,w,fun ds μ1 φ1 vs H1 k1 f1 M1 i1=>⟨φ1,ds,μ1,K,kx,i1,M1,(hC_ext hk M1 k1.1).1,hk0,k1.1.2,k1.2,L.mono f1⟩⟩) fun us s1 hq5=>?_) he hpl
 obtain⟨vs,H1,I1,r,q⟩:=hq5
 refine⟨I1.kIn,?_⟩
 have hl:us.length=ps.length:=by
  obtain⟨φ1,ds,μ1,Kd,kx1,i1,_,_,_,_,hf,_⟩:=q
  rw[<- r.length,i1.len];exact F.len _ _ _ hf
 refine wpAny_call (codeAny_mono (F.run X.A X.stack s1 H1 ⟨us,[]⟩ us vs Q ea hr hh I1.env0 (by have:=hb s1 us I1.kIn (by rw[aR];exact hl);rwa [aR]at this) r q) fun r s' hq=>?_)
 cases r with
 | error e=>exact hq.elim
 | ok fl =>
  cases fl with
  | ret u=>exact I1.after hq
  | next=>exact False.elim hq
  | brk=>exact False.elim hq
  | cont=>exact False.elim hq
end
structure ExSub (K:PySem.W.Frag)(C B:Addr):Prop where
 ex:∃(nB qB:Str) (NB:Addr) (bsB bmB:List Value) (hdB:Bool) (snB:List Str) (subB:List Value) (abB:Bool) (colB:Option Bool) (ddB:Option Addr) (b0 b1 b2 b3 b5:Option Value) (idB:String) (nC qC:Str) (NC:Addr) (bsC bmC:List Value) (hdC:Bool) (snC:List Str) (subC:List Value) (abC:Bool) (colC:Option Bool) (ddC:Option Addr) (c0 c1 c2 c3 c5:Option Value) (idC:String),
  K.lookup B=some (excClassObj nB qB B NB bsB bmB hdB snB subB abB colB ddB b0 b1 b2 b3 b5 idB)/\K.lookup C=some (excClassObj nC qC C NC bsC bmC hdC snC subC abC colC ddC c0 c1 c2 c3 c5 idC)/\bmB.contains (.type "BaseException")=true/\(Value.ref C::bmC).contains (.ref B)=true
section
variable {X:Cx}{pins:List (Addr×Obj)}{σ:St}{H:Hp}{s:Shared}
theorem Inv.track (I:Inv X pins σ H s){e:Addr}{c:Value}(hn:H e=none)(x:ExcIs e c s.heap)(h0:X.s₀.heap.get? e=none)(hl:e≠X.env.locals)(hc:∀ y a,X.env.cells.lookup y=some a->a≠e)(hp:∀ p∈X.pn++pins,p.1≠e) :
 Inv X pins σ (upd H e (.ext (ExcIs e c))) s:=by
 have ne0:∀ b o,X.s₀.heap.get? b=some o->b≠e:=fun b o q z=>by rw[z,h0]at q;cases q
 have ne1:∀ b o,H b=some o->b≠e:=fun b o q z=>by rw[z,hn]at q;cases q
 refine⟨I.ok,I.os,I.bare,⟨I.base.keep,I.base.slot,fun b o q n hx=>?_,I.base.there,fun b xs q=>?_,fun b o xs q=>?_,fun b ps q=>?_⟩,I.loc,I.cell,?_,fun y a q=>?_,fun p hq=>?_,fun a o q=>?_,I.len⟩
 ·rw[upd_ne (ne0 b o q)];exact I.base.free b o q n hx
 ·have:=I.base.tups b xs q
  rw[upd_ne (ne1 b _ this)];exact this
 ·have:=I.base.frzs b o xs q
  rw[upd_ne (ne1 b _ this)];exact this
 ·obtain⟨m,this⟩:=I.base.tbls b ps q
  exact⟨m,by rw[upd_ne (ne1 b _ this)];exact this⟩
 ·rw[upd_ne (bM hl)];exact I.free
 ·rw[upd_ne (hc y a q)];exact I.freeC y a q
 ·obtain⟨h1,h2,h3⟩:=I.pin p hq
  exact⟨h1,by rw[upd_ne (hp p hq)];exact h2,h3⟩
 ·by_cases z:a=e
  ·subst z
   rw[upd_same]at q
   cases q
   obtain⟨oe,vs,q1,q2⟩:=x
   exact⟨⟨oe,vs,q1,q2⟩,⟨oe,q1⟩,fun h1 h2 ⟨o,v,e1,e2⟩ k=>⟨o,v,k o e1,e2⟩⟩
  ·rw[upd_ne z]at q
   exact(I.hok a o q).stay (fun _ _ _ k=>k) (fun b k=>by rw[upd_ne (ne1 b _ k)];exact k) fun b xs k=>by rw[upd_ne (ne1 b _ k)];exact k
theorem Inv.forget (I:Inv X pins σ H s){h':Heap}{m':Str->Option Value}{t:Nat}(hn:h'.Ns X.env.locals m')(hs:Heap.SameBut X.env.locals s.heap h'):Inv X pins (σ.map fun _=>none) H { s with heap:=h',toks:=t}:=by
 have ne:∀ b o,X.s₀.heap.get? b=some o->b≠X.env.locals:=fun b o e=>aF (aw (gxN e) I.ok.above)
 refine⟨I.ok,I.os,I.bare,⟨fun b o e n hb hx=>?_,fun b o e n hb hx=>?_,I.base.free,fun b o e hx=>?_,I.base.tups,I.base.frzs,I.base.tbls⟩,⟨m',hn,fun j y v' e1 e2 e3=>?_⟩,fun y c e=>?_,I.free,I.freeC,fun p hp=>?_,fun b ob e=>?_,by rw[gxC];exact I.len⟩
 ·exact(hs.2 b (ne b o e)).trans (I.base.keep b o e n hb hx)
 ·obtain⟨sl,e1⟩:=I.base.slot b o e n hb hx
  exact⟨sl,(hs.2 b (ne b o e)).trans e1⟩
 ·obtain⟨o',e1⟩:=I.base.there b o e hx
  exact⟨o',(hs.2 b (ne b o e)).trans e1⟩
 ·rw[gxH]at e2
  cases q:σ[j]? <;> rw[q]at e2 <;> cases e2
 ·obtain⟨w',z⟩:=I.cell y c e
  exact⟨w',z.sameBut hs (I.cne y c e)⟩
 ·obtain⟨e,n,ne,nf,d⟩:=I.pin p hp
  exact⟨(hs.2 p.1 ne).trans e,n,ne,nf,d⟩
 ·refine(I.hok b ob e).stay (fun c w' hc q=>(hs.2 c ?_).trans q) (fun _ q=>q) fun _ _ q=>q
  rintro rfl
  rcases hc with rfl | hc
  ·rw[I.free]at e;cases e
  ·rw[I.free]at hc;cases hc
theorem Un.kp {fs:List Addr}{l:List Env}{H H':Hp}{h h1 h2 g:Heap}(u:Un fs [] H H' h h1)(k:Kp g l h1 h2)(hg:Gk h g)(hl:∀ b,b∈frs l->b∈fs):Un fs [] H H' h h2:=by
 refine⟨fun b o e n hb hx=>k.other b o (u.keep b o e n hb hx) (hg b ⟨o,e⟩) fun z=>hb (hl b z),fun b o e n hb hx=>?_,u.free,fun b o e hx=>?_,u.tups,u.frzs,u.tbls⟩
 ·obtain⟨sl,e1⟩:=u.slot b o e n hb hx
  obtain⟨sl2,e2⟩:=k.any e1 (hg b ⟨o,e⟩)
  exact⟨sl2,e2⟩
 ·obtain⟨o',e1⟩:=u.there b o e hx
  obtain⟨sl,e2⟩:=k.any e1 (hg b ⟨o,e⟩)
  exact⟨_,e2⟩
end
def dTry (K:PySem.W.Frag)(B:Addr)(n i:Nat)(u:List Addr->Hp->DX->Ds)(v:List Addr->Hp->Nat->Ds):Ds:=fun N ρ μ=>∃ m,μ[0]?=some m/\∀ φ0 H0,
 u φ0 H0 (gX φ0 H0 m fun c μ'=>∃ C,c=.ref C/\ExSub K C B/\∀ φ1 H1,v φ1 H1 μ'.length { nx:=fun _ _=>False,rt:=gK φ1 H1 m N.rt} ((List.replicate n none).set i (some (.mr μ'.length))) ((μ'++[MO.exc c]).set 0 (.gx φ1 H1)))
  { nx:=fun ρ' μ'=>μ'[0]?=some (.gx φ0 H0)/\N.nx ρ' (μ'.set 0 m),rt:=gK φ0 H0 m N.rt,bk:=fun ρ' μ'=>μ'[0]?=some (.gx φ0 H0)/\N.bk ρ' (μ'.set 0 m),ct:=fun ρ' μ'=>μ'[0]?=some (.gx φ0 H0)/\N.ct ρ' (μ'.set 0 m)} ρ (μ.set 0 (.gx φ0 H0))
theorem LiS.ghost {φ:List Addr}{H:Hp}{μ:MS}{m:MO}{k:DE->MS->Prop}{q:St->Hp->Prop}(L:LiS φ H k q)(M:MSis φ H μ)(e:μ[0]?=some m):LiS φ H (fun ρ' μ'=>μ'[0]?=some (.gx φ H)/\k ρ' (μ'.set 0 m)) q:=fun ρ' μ' φ' σ' H' ⟨e',k'⟩ f A M'=>L ρ' _ φ' σ' H' k' f A (M.back e M' e')
theorem Inv.caught {X:Cx}{pins:List (Addr×Obj)}{σ:St}{H H':Hp}{s s':Shared}{g h2:Heap}(I:Inv X pins σ H s)(os:s'.os=s.os)(bare:AllBare s'.gens)(un:Un (frs X.stack) [] H H' s.heap s'.heap)(hok:HOk X.prog X.w H' s'.heap)(g1:Gk s.heap g)(g2:∀ b,H' b≠none->At g b)(k:Kp g X.stack s'.heap h2) :
 Inv X pins σ H' { s' with heap:=h2}:=by
 have I2:=I.call' (s':=s') (ch:=[]) os un hok bare (fun b z=>absurd z (by simp))
 exact I.call' (s':={ s' with heap:=h2}) (ch:=[]) os (un.kp k g1 fun b z=>z) (hok_kp hok (fun b hb=>⟨g2 b hb,fun z=>hb (I2.stkFree b z)⟩) k) bare (fun b z=>absurd z (by simp))
theorem ExAt.is {g h:Heap}{e:Addr}{cls fl:Value}(x:ExAt g e cls fl h):ExcIs e cls h:=by
 obtain⟨oe,vs,T,oT,ts,⟨h1,⟨h2,h3⟩,h4,_,h5⟩,_⟩:=x
 exact⟨oe,vs,h1,h2,h3,h4,h5⟩
section
variable {X:Cx}{body suite:List Stmt}{b0:Stmt}{x n:Str}{np hpos pos:Pos}{B:Addr}{i:Nat}{u:List Addr->Hp->DX->Ds}{v:List Addr->Hp->Nat->Ds}
theorem s_try (hex:X.ex=[])(hst:X.stack=X.env::X.outer)(hfm:X.env.frame=some X.env.locals)(hN:X.N.Nodup)(hi:X.N[i]?=some n)(hn:X.env.scope.names.lookup n=some .local)(hg:Gl X x)(hm:X.mg x=some (.ref B))
 (hb:∀(pn:List (Addr×Obj)) (xe:Value->Shared->Prop) (φ0:List Addr) (H0:Hp) (Kx:DX),Rz { X with pn:=pn,xe:=xe} φ0 H0 Kx->PDB { X with pn:=pn,xe:=xe} body (u φ0 H0 Kx))
 (hs:∀(pn:List (Addr×Obj)) (e:Addr) (φ1:List Addr) (H1:Hp) (kx:Nat),φ1[kx]?=some e->kx≠0->PDB (Cx.hnd { X with pn:=pn} (X.A.mark (some (.ref e)))) (b0::suite) (v φ1 H1 kx)) (hd:(x==("__debug__" : Str))=false:=by decide) :
 PDS X (.Try body [.ExceptHandler (some (.Name x np)) (some n) (b0::suite) hpos] [] [] pos) (dTry X.K B X.N.length i u v):=fun pins s σ H D I hq=>by
 obtain⟨φ,ρ,μ,N,A,M,⟨m,em,w⟩,L⟩:=hq
 have w:=w φ H
 refine wpAny_Try_except ?_
 obtain⟨xe,hxe⟩:∃ xe:Value->Shared->Prop,xe=fun ev s₁=>wpAny (model X.prog X.w) X.A (noteFrame ev X.env) (fun _ s₂=>wpAny (model X.prog X.w) X.A (setFlight ev none) (fun _ s₃=>wpAny (model X.prog X.w) X.A (handleBy ev X.env [.ExceptHandler (some (.Name x np)) (some n) (b0::suite) hpos]) (SP X pins D) X.xe s₃) X.xe s₂) X.xe s₁:=⟨_,rfl⟩
 have I':Inv { X with pn:=X.pn++pins,xe:=xe} [] σ H s:=⟨⟨I.ok.mod,I.ok.kind,I.ok.glob,I.ok.blt,I.ok.above,I.ok.inj,I.ok.has,I.ok.cab,I.ok.hd,I.ok.frames,I.ok.stk,I.ok.exf,I.ok.bs,I.ok.bsz,I.ok.noex,I.ok.exfs,I.ok.funs,I.ok.frf⟩,I.os,I.bare,I.base,I.loc,I.cell,I.free,I.freeC,(fun p hp=>I.pin p (by simpa using hp)),I.hok,I.len⟩
 have back:∀ {pins1:List (Addr×Obj)} {σ1:St} {H1:Hp} {s1:Shared},Inv { X with pn:=X.pn++pins,xe:=xe} pins1 σ1 H1 s1->Inv X pins σ1 H1 s1:=fun J=>⟨I.ok,J.os,J.bare,J.base,J.loc,J.cell,J.free,J.freeC,(fun p hp=>J.pin p (bu _ hp)),J.hok,J.len⟩
 have Mg:=M.ghost em
 have hfr:X.A.frames=some (X.env::X.outer):=by rw[<- hst];exact I.ok.frames
 obtain⟨Kx,hKx⟩:∃ Kx:DX,Kx=fun c μ'=>∃ C,c=.ref C/\ExSub X.K C B/\∀ φ1 H1,v φ1 H1 μ'.length { nx:=fun _ _=>False,rt:=gK φ1 H1 m N.rt} ((List.replicate X.N.length none).set i (some (.mr μ'.length))) ((μ'++[MO.exc c]).set 0 (.gx φ1 H1)):=⟨_,rfl⟩
 rw[<- hKx]at w
 have Z:Rz { X with pn:=X.pn++pins,xe:=xe} φ H (gX φ H m Kx):=by
  refine⟨fun c _ H'=>∃ φ' μ',gX φ H m Kx c μ'/\Fr φ H φ' H'/\MSis φ' H' μ',fun c μ' φ' H' k f M=>⟨φ',μ',k,f,M⟩,fun pins1 σ1 H1 s1 ev s' J c=>?_⟩
  obtain⟨e,cls,H',g,rfl,os,bare,un,hok,⟨g1,g2,g3⟩,ex,φ',μ',⟨e0,hK⟩,f',M'⟩:=c
  rw[hKx]at hK
  obtain⟨C,rfl,sub,hv⟩:=hK
  show xe (.ref e) s'
  rw[hxe]
  have J2:=J.call' (s':=s') (ch:=[]) os un hok bare (fun b z=>absurd z (by simp))
  have ff:s'.heap.FunFrames X.base (X.env::X.outer):=by rw[<- hst];exact J2.stack
  refine note_next hfr ff hfm g3 ex fun h1 x1 k1=>?_
  refine flight_none (l:=X.env::X.outer) x1 fun h2 x2 k2 _=>?_
  have k12:Kp g X.stack s'.heap h2:=by rw[hst];exact k1.trans k2
  have J3:=(J.caught os bare un hok g1 g2 k12).pins_of (pins':=[]) (fun p hp=>absurd hp (by simp))
  have eN:g.get? e=none:=by obtain⟨_,_,_,_,_,_,_,z⟩:=ex;exact z
  have hHe:H' e=none:=by
   cases q:H' e with
   | none=>rfl
   | some o=>obtain⟨u,z⟩:=g2 e (by rw[q];simp);rw[eN]at z;cases z
  have J4:Inv (Cx.hnd { X with pn:=X.pn++pins} (X.A.mark (some (.ref e)))) [] σ1 H' { s' with heap:=h2}:=J3.hnd I.ok.frames
  refine wpAny_handleBy_cons (codeAny_handlers_test (ld_glob J4 hg hm ?_ hd)) (by intro q;cases q)
  obtain⟨nB,qB,NB,bsB,bmB,hdB,snB,subB,abB,colB,ddB,b0',b1,b2,b3,b5,idB,nC,qC,NC,bsC,bmC,hdC,snC,subC,abC,colC,ddC,c0,c1,c2,c3,c5,idC,lB,lC,hbB,hin⟩:=sub.ex
  obtain⟨oe,vs,q1,q2,q3,q4,q5⟩:=x2.is
  refine exc_match (J4.kIn _ _ lB) (J4.kIn _ _ lC) q1 q2 hbB hin ?_
  refine codeAny_handlers_suite_as (flight_none (l:=X.env::X.outer) (s:={ s' with heap:=h2}) x2 fun h3 x3 k3 _=>?_)
  have k13:Kp g X.stack s'.heap h3:=k12.trans (by rw[hst];exact k3)
  have J5:=(J.caught os bare un hok g1 g2 k13).pins_of (pins':=[]) (fun p hp=>absurd hp (by simp))
  have atg:∀ b o,s1.heap.get? b=some o->b≠e:=fun b o q z=>by
   obtain⟨u,y⟩:=g1 b ⟨o,q⟩
   rw[z,eN]at y;cases y
  have J6:=J5.track hHe x3.is (by
   cases q:X.s₀.heap.get? e with
   | none=>rfl
   | some o =>
    obtain⟨o',y⟩:=J.base.there e o q (by show e∉X.ex;rw[hex];simp)
    exact absurd rfl (atg e o' y)) (by
   obtain⟨mm,⟨oo,_,_,y,_⟩,_⟩:=J.loc
   exact fun z=>atg _ oo y z.symm) (fun y a q=>by
   obtain⟨w',o,z,_⟩:=J.cell y a q
   exact atg a o z) (fun p hp=>atg p.1 p.2 (J.pin p (bu _ (by simpa using hp))).1)
  have J7:Inv (Cx.hnd { X with pn:=X.pn++pins} (X.A.mark (some (.ref e)))) [] σ1 (upd H' e (.ext (ExcIs e (.ref C)))) { s' with heap:=h3}:=J6.hnd I.ok.frames
  refine store_ok (X:=Cx.hnd { X with pn:=X.pn++pins} (X.A.mark (some (.ref e)))) J7 hN hi (.inl hn) (v:=.ref e) (u:=.ref e) rfl (fun s8 J8=>?_) (.inr hn)
  have Mb:=M.back em M' e0
  obtain⟨μ1,hμ1⟩:∃ μ1,μ1=μ'.set 0 m:=⟨_,rfl⟩
  rw[<- hμ1]at Mb hv
  have h0l:0<μ'.length:=(gxB e0).1
  have em1:μ1[0]?=some m:=by rw[hμ1];exact aI h0l
  have l1:μ1.length≠0:=by rw[hμ1,aW];omega
  obtain⟨Msn,f2⟩:=Mb.snoc (m:=.exc (.ref C)) (o:=.ext (ExcIs e (.ref C))) hHe upd_same
  have em2:(μ1++[MO.exc (.ref C)])[0]?=some m:=by rw[gxF (by omega)];exact em1
  have hk:(φ'++[e])[μ1.length]?=some e:=by rw[gxG (by rw[Mb.len];exact aa _),Mb.len,br];rfl
  have ls:σ1.length=X.N.length:=J.len
  have hil:i<σ1.length:=by rw[ls];exact(gxB hi).1
  have A2:DEnv (φ'++[e]) (upd H' e (.ext (ExcIs e (.ref C)))) ((List.replicate X.N.length none).set i (some (.mr μ1.length))) (σ1.set i (some (.ref e))):=by
   refine⟨by rw[aW,aW,bU,ls],fun j d q=>?_⟩
   by_cases z:i=j
   ·subst z
    rw[aI (by rw[bU,<- ls];exact hil)]at q
    cases q
    exact⟨.ref e,aI hil,e,hk,rfl⟩
   ·rw[aM z,List.getElem?_replicate]at q
    split at q <;> cases q
  have L2:LiN (φ'++[e]) (upd H' e (.ext (ExcIs e (.ref C)))) { nx:=fun _ _=>False,rt:=gK (φ'++[e]) (upd H' e (.ext (ExcIs e (.ref C)))) m N.rt} { nx:=fun _ _=>False,rt:=D.rt} :=
   ⟨fun _ _ _ _ _ k' _ _ _=>k'.elim,(L.rt.mono (f'.trans f2)).ghost Msn em2,fun _ _ _ _ _ k' _ _ _=>k'.elim,fun _ _ _ _ _ k' _ _ _=>k'.elim⟩
  refine bz (hs (X.pn++pins) e (φ'++[e]) (upd H' e (.ext (ExcIs e (.ref C)))) μ1.length hk l1 [] s8 _ _ { nx:=fun _ _=>False,rt:=D.rt} J8 ⟨φ'++[e],_,_,_,A2,Msn.ghost em2,hv _ _,L2⟩) (fun f s9 q=>?_) (fun _ _ z=>z.elim)
  cases f with
  | next=>obtain⟨_,_,_,q⟩:=q;exact q.elim
  | brk=>obtain⟨_,_,_,q⟩:=q;exact q.elim
  | cont=>obtain⟨_,_,_,q⟩:=q;exact q.elim
  | ret r =>
   obtain⟨v',σ9,H9,J9,rv,qr⟩:=q
   have J9x:Inv X pins σ9 H9 s9:=⟨I.ok,J9.os,J9.bare,J9.base,J9.loc,J9.cell,J9.free,J9.freeC,(fun p hp=>J9.pin p (bu _ hp)),J9.hok,J9.len⟩
   obtain⟨mm,hns,_⟩:=J9.loc
   show wpAny _ _ (do bindName X.env n .none;unbindBehindTheSuite X.env n hpos) _ _ _
   refine wpAny_nameGoes hn hns (by rw[I.ok.kind];rfl) fun h' m' hns' hsb=>?_
   exact⟨v',_,H9,J9x.forget hns' hsb,rv,qr⟩
 have hbody:=hb _ _ φ H _ Z [] s σ H D I' ⟨φ,ρ,μ.set 0 (.gx φ H),_,A,Mg,w,⟨L.nx.ghost M em,L.rt.ghost M em,L.bk.ghost M em,L.ct.ghost M em⟩⟩
 refine bz hbody (fun f s1 q=>?_) (fun ev s1 q=>by have q:xe ev s1:=q;rw[hxe]at q;exact q)
 cases f with
 | next=>obtain⟨σ',H',J,q⟩:=q;exact cJ ⟨σ',H',back J,q⟩
 | brk=>obtain⟨σ',H',J,q⟩:=q;exact⟨σ',H',back J,q⟩
 | cont=>obtain⟨σ',H',J,q⟩:=q;exact⟨σ',H',back J,q⟩
 | ret u=>obtain⟨v',σ',H',J,r,q⟩:=q;exact⟨v',σ',H',back J,r,q⟩
end
abbrev veB:List Value:=[.type "ValueError",.type "Exception",.type "BaseException",.type "object"]
theorem cls_of {K:PySem.W.Frag}{C:Addr}{bmB:List Value}{newId:String}(q:PySem.W.excIn K C bmB newId=true):∃(bm:List Value) (ns:Addr) (nm qn:Str) (bs:List Value) (hd:Bool) (sn:List Str) (sub:List Value) (ab:Bool) (col:Option Bool) (dd:Option Addr) (k0 k1 k2 k3 k5:Option Value),
 K.lookup C=some (excClassObj nm qn C ns bs bm hd sn sub ab col dd k0 k1 k2 k3 k5 newId)/\PySem.W.nsOkIn K ns=true/\PySem.W.nsIn K ns "__init__"=some none/\PySem.W.tailIn K bmB bm=true:=by
 unfold PySem.W.excIn at q
 split at q
 ·rename_i dd cd sl ho
  split at q
  ·rename_i C' bm k0 k1 k2 k3 n k5 hm hs
   simp only[aQ,beq_iff_eq,c6]at q
   obtain⟨⟨⟨⟨⟨rfl,rfl⟩,hdel⟩,ht⟩,hok⟩,hni⟩:=q
   obtain⟨nm,bs,mro,ns,qn,hd,sn,sub,ab,col,del⟩:=cd
   dsimp only at hm hdel hok hni
   subst hm hdel
   have hsl:sl=#[k0,k1,k2,k3,some (.builtin n),k5]:=by
    obtain⟨l⟩:=sl
    simp only at hs
    rw[hs]
   subst hsl
   exact⟨bm,ns,nm,qn,bs,hd,sn,sub,ab,col,dd,k0,k1,k2,k3,k5,ho,hok,hni,ht⟩
  ·cases q
 ·cases q
theorem own_of {K:PySem.W.Frag}{h:Heap}{mg:Str->Option Value}{x:Str}{C:Addr}(X:K.In h)(G:h.Ns mainGlobals mg)(e:PySem.W.nsIn K mainGlobals x=some (some (.ref C)))(q:PySem.W.excIn K C veB "ValueError.__new__"=true):OwnCls x C veB "ValueError.__new__" mg h:=by
 obtain⟨bm,ns,nm,qn,bs,hd,sn,sub,ab,col,dd,k0,k1,k2,k3,k5,h1,h2,h3,h4⟩:=cls_of q
 exact⟨bj X G e,bm,ns,nm,qn,bs,hd,sn,sub,ab,col,dd,k0,k1,k2,k3,k5,_,X _ _ h1,.of_isNs (PySem.W.isNs_of_in X h2),PySem.W.nsMap_none_of_in X h2 h3,PySem.W.tail_of_in X h4⟩
def subIn (K:PySem.W.Frag)(C B:Addr):Bool:=match K.lookup C with
 | some ⟨_,_,.cls cd,_⟩=>cd.mro.contains (.ref B)
 | _=>false
theorem sub_of {K:PySem.W.Frag}{C B:Addr}(qB:PySem.W.excIn K B veB "ValueError.__new__"=true)(qC:PySem.W.excIn K C veB "ValueError.__new__"=true)(s:subIn K C B=true):ExSub K C B:=by
 obtain⟨bm,ns,nm,qn,bs,hd,sn,sub,ab,col,dd,k0,k1,k2,k3,k5,h1,h2,h3,h4⟩:=cls_of qB
 obtain⟨bm',ns',nm',qn',bs',hd',sn',sub',ab',col',dd',k0',k1',k2',k3',k5',h1',h2',h3',h4'⟩:=cls_of qC
 refine⟨nm,qn,ns,bs,bm,hd,sn,sub,ab,col,dd,k0,k1,k2,k3,k5,_,nm',qn',ns',bs',bm',hd',sn',sub',ab',col',dd',k0',k1',k2',k3',k5',_,h1,h1',?_,?_⟩
 ·have tl:∀ l,PySem.W.tailIn K veB l=true->l.contains (.type "BaseException")=true:=fun l=>by
   induction l with
   | nil=>intro z;exact absurd (show(veB==[])=true from z) (by decide)
   | cons v r ih =>
    intro z
    unfold PySem.W.tailIn at z
    rcases Bool.or_eq_true_iff.mp z with q | q
    ·rw[beq_iff_eq.mp q];decide
    ·rw[List.contains_cons]
     have:PySem.W.tailIn K veB r=true:=by
      split at q
      ·split at q
       ·simp only[aQ]at q;exact q.2
       ·cases q
      ·cases q
     rw[ih this,Bool.or_true]
  exact tl _ h4
 ·unfold subIn at s
  rw[h1']at s
  exact s
theorem roomM {k:Nat}{A:Around}{h:Option Value}(r:Room k A):RoomH k (A.mark h):=⟨r.dp,r.un⟩
theorem calx_of {P:Program}{w:World}{K:PySem.W.Frag}{mg:Str->Option Value}{base h:Heap}{x q:Str}{st:Stmt}{f:Addr}{fd:FuncData}{k:Nat}{ps:List Str}{sp:Sp}(G:K.In h)(N:h.Ns mainGlobals mg)(F:Fun K x q st f fd)(ok:FnOk P w K mg base (CX1 P w) k f fd ps sp)(hb:Binds K fd ps [])
 (a:PySem.W.nsIn K mainGlobals x=some (some (.ref f)):=by kernel_rfl):CalX P w K mg base x k ps sp:=⟨f,fd,ok,bj G N a,F.kp,hb⟩
theorem calh_of {P:Program}{w:World}{K:PySem.W.Frag}{mg:Str->Option Value}{base h:Heap}{x q:Str}{st:Stmt}{f:Addr}{fd:FuncData}{k:Nat}{ps:List Str}{sp:DSp}(G:K.In h)(N:h.Ns mainGlobals mg)(F:Fun K x q st f fd)(ok:FnOkH P w K mg base k f fd ps sp)(hb:Binds K fd ps [])
 (a:PySem.W.nsIn K mainGlobals x=some (some (.ref f)):=by kernel_rfl):CalH P w K mg base x k ps sp:=⟨f,fd,ok,bj G N a,F.kp,hb⟩
theorem gx_at {μ:MS}{m n:MO}(em:μ[0]?=some m):(μ.set 0 n)[0]?=some n:=aI (gxB em).1
theorem gx_back {μ:MS}{m n:MO}(em:μ[0]?=some m):(μ.set 0 n).set 0 m=μ:=by
 cases μ with
 | nil=>cases em
 | cons a r=>cases em;rfl
theorem gX_of {μ:MS}{m:MO}{n:Nat}{φ0:List Addr}{H:Hp}{c:Value}{Kb Kx:DX}(hK:Kb=FX n (gX φ0 H m Kx))(em:μ[0]?=some m)(k:Kx c μ):(μ.set 0 (.gx φ0 H))[0]?=some (.gx φ0 H)/\Kb c (μ.set 0 (.gx φ0 H)):=⟨gx_at em,by rw[hK];exact .inl ⟨gx_at em,by rw[gx_back em];exact k⟩⟩
theorem gK_of {μ:MS}{m:MO}{φ0:List Addr}{H:Hp}{d:D}{K:DK}(em:μ[0]?=some m)(k:K d μ):gK φ0 H m K d (μ.set 0 (.gx φ0 H)):=⟨gx_at em,by rw[gx_back em];exact k⟩
def runOk (n e a b:Int):Prop:=e<a/\a<b/\b<=n
instance (n e a b:Int):Decidable (runOk n e a b):=by unfold runOk;infer_instance
def kitB (K:PySem.W.Frag)(cs:List Addr)(j:Nat):Bool:=(List.range 17).all fun i=>PySem.W.kitOne K (.ref (cs.getD j 0)) (.ref (cs.getD i 0))==some (decide (i=j))
structure KinB (K:PySem.W.Frag)(cs:List Addr)(cH:Addr)(j:Nat):Prop where
 ef:ExF K (cs.getD j 0)
 kit:kitB K cs j=true
 kv:PySem.W.kitOne K (.ref (cs.getD j 0)) (.type "ValueError")=some true
 sub:ExSub K (cs.getD j 0) cH
theorem KinB.at_ {K:PySem.W.Frag}{cs:List Addr}{cH:Addr}{j:Nat}(h:KinB K cs cH j)(i:Nat)(hi:i<17):PySem.W.kitOne K (.ref (cs.getD j 0)) (.ref (cs.getD i 0))=some (decide (i=j)):=by
 have:=List.all_eq_true.mp h.kit i (List.mem_range.mpr hi)
 simpa using this
def kWord (j:Nat):Str:=(["BadBars", "BadMake", "BadNumber", "BadText", "BadName", "BadAge", "BadBar", "BadPlace", "BadSize", "Taken", "Full", "NoTake", "Shut", "Joined", "Needed", "NothingLeft", "NoWay"]:List Str).getD j ""
structure OwnB (x:Str)(C:Addr)(mg:Str->Option Value):Prop where
 bound:mg x=some (.ref C)
section
variable {X:Cx}{a b c e o:Expr}{es:List Expr}{pos:Pos}
def GInt (mg:Str->Option Value)(x:Str)(i:Int):Prop:=∃ t,mg x=some (.int i t)
theorem d_gint {x:Str}{i:Int}(hg:Gl X x)(hm:GInt X.mg x i)(hd:(x==("__debug__" : Str))=false:=by decide):PD X (.Name x pos) (dC (.int i)):=by
 obtain⟨t,hm⟩:=hm
 exact(pe_glob (v:=.int i) hg hm ⟨t,rfl⟩ hd).imp fun σ H Q hq=>by
  obtain⟨φ,ρ,μ,K,A,M,k,L⟩:=hq
  exact L _ _ φ _ H k (.refl _ _) M rfl
end
inductive Pt where
 | fst (b:List Nat) (a:Int)
 | jn (l r:Str) (p:Int)
structure RS where
 n:Int
 kept:List (Str×Pt)
 shut:List (Int×Unit)
inductive Dd where
 | put (nm b:Str) (a:Int) | join (nm l r:Str) (p:Int) | found (nm:Str) (bar:Int) (sg:Str) | aged (nm:Str) (a:Int) | drop (nm:Str) | free (p:Int) | shut (p:Int)
section
variable {α β:Type}[DecidableEq α]
def aget (l:List (α×β))(k:α):Option β:=(l.find? fun p=>decide (p.1=k)).map (·.2)
def adrop (l:List (α×β))(k:α):List (α×β):=l.filter fun p=>decide (p.1≠k)
theorem aget_cons {p:α×β}{l:List (α×β)}{k:α}:aget (p::l) k=if p.1=k then some p.2 else aget l k:=by
 unfold aget
 rw[List.find?_cons]
 by_cases h:p.1=k
 ·rw[au h,aE h];rfl
 ·rw[ak h,ai h]
theorem aget_mem {l:List (α×β)}{k:α}{v:β}(h:aget l k=some v):(k,v)∈l:=by
 induction l with
 | nil=>cases h
 | cons p l ih =>
  rw[aget_cons]at h
  by_cases q:p.1=k
  ·rw[aE q]at h;cases h
   rw[<- q];exact ae
  ·rw[ai q]at h;exact gxI _ (ih h)
theorem aget_drop {l:List (α×β)}{k j:α}(h:j≠k):aget (adrop l k) j=aget l j:=by
 unfold adrop
 induction l with
 | nil=>rfl
 | cons p l ih =>
  rw[cC,aget_cons]
  by_cases q:p.1=k
  ·rw[ai (by simp[q]),ih,ai (fun y=>h (by rw[<- y,q]))]
  ·rw[aE (by simp[q]),aget_cons,ih]
end
section
variable {α β:Type}[DecidableEq α]{κ:α->Key}(hi:∀ a b,κ a=κ b->a=b)(f:β->D)
include hi
end
def evF {γ:Type}(gf:Str->List Nat->Int->γ)(gj:γ->γ->Int->γ)(z:γ)(kept:List (Str×Pt)):Nat->Str->γ
 | 0,_=>z
 | f+1,nm=>match aget kept nm with
  | some (.fst b a)=>gf nm b a
  | some (.jn l r p)=>gj (evF gf gj z kept f l) (evF gf gj z kept f r) p
  | none=>z
def idxN (kept:List (Str×Pt))(nm:Str):Nat:=(kept.map (·.1)).idxOf nm
structure Kpt (kept:List (Str×Pt)):Prop where
 nd:(kept.map (·.1)).Nodup
 low:∀ nm l r p,aget kept nm=some (.jn l r p)->idxN kept l<idxN kept nm/\idxN kept r<idxN kept nm
section
variable {γ:Type}{gf:Str->List Nat->Int->γ}{gj:γ->γ->Int->γ}{z:γ}{kept:List (Str×Pt)}
def ev (gf:Str->List Nat->Int->γ)(gj:γ->γ->Int->γ)(z:γ)(kept:List (Str×Pt))(nm:Str):γ:=evF gf gj z kept kept.length nm
end
theorem idx_filter {p:Str->Bool}{a b:Str}:∀ {l:List Str},p a=true->p b=true->l.idxOf a<l.idxOf b->(l.filter p).idxOf a<(l.filter p).idxOf b
 | [],_,_,h=>by simp at h
 | x::t,ha,hb,h=>by
  by_cases e1:x=a
  ·subst e1
   have e2:¬ x=b:=fun e2=>by subst e2;exact absurd h (bo _)
   rw[cC,aE ha,bI,bI,show(x==x)=true from beq_self_eq_true _,show(x==b)=false from cK e2]
   simp
  ·have e2:¬ x=b:=fun e2=>by
    subst e2
    rw[bI,bI,show(x==x)=true from beq_self_eq_true _]at h
    simp at h
   rw[bI,bI,show(x==a)=false from cK e1,show(x==b)=false from cK e2]at h
   have h':t.idxOf a<t.idxOf b:=by simpa using h
   have ih:=idx_filter ha hb h'
   rw[cC]
   split
   ·rw[bI,bI,show(x==a)=false from cK e1,show(x==b)=false from cK e2]
    simpa using ih
   ·exact ih
theorem Kpt.drop {l:List (Str×Pt)}(h:Kpt l){nm:Str}(hx:∀ z a b p,aget l z=some (.jn a b p)->a≠nm/\b≠nm):Kpt (adrop l nm):=by
 have hk:(adrop l nm).map (·.1)=(l.map (·.1)).filter fun z=>decide (z≠nm):=by
  unfold adrop
  rw[List.filter_map]
  rfl
 refine⟨by rw[hk];exact h.nd.sublist (List.filter_sublist),fun z a b p e=>?_⟩
 have hz:z≠nm:=fun y=>by
  subst y
  have:=aget_mem e
  unfold adrop at this
  rw[List.mem_filter]at this
  simpa using this.2
 rw[aget_drop hz]at e
 obtain⟨h1,h2⟩:=h.low z a b p e
 obtain⟨n1,n2⟩:=hx z a b p e
 unfold idxN at h1 h2 ⊢
 rw[hk]
 exact⟨idx_filter (au n1) (au hz) h1,idx_filter (au n2) (au hz) h2⟩
section
variable {α β:Type}[DecidableEq α]{κ:α->Key}(hi:∀ a b,κ a=κ b->a=b)(f:β->D)
include hi
end
section
variable {cR cS:Addr}{μ:MS}{k j1 j2:Nat}{ss:List RS}{rs:List Dd}{d:Nat}
theorem set_same {μ:MS}{i:Nat}{m:MO}(h:μ[i]?=some m):μ.set i m=μ:=by
 refine List.ext_getElem? fun j=>?_
 by_cases e:i=j
 ·subst e;rw[aI (gxB h).1,h]
 ·rw[aM e]
end
end L2
namespace L2
open PySem PySem.Spec PyProof.Rows PyProof
theorem atI_ex {α:Type}{xs:List α}{v:Int}(h0:0<=v)(h1:v<(xs.length:Int)):∃ x∈xs,atI xs v=some x:=by
 obtain⟨n,rfl⟩:∃ n:Nat,v=(n:Int):=⟨v.toNat,by omega⟩
 have hn:n<xs.length:=by omega
 exact⟨xs[n],da hn,atI_nat (gxA hn)⟩
theorem atI_mapx {α β:Type}{g:α->β}{xs:List α}{v:Int}(h0:0<=v)(h1:v<(xs.length:Int)):∃ x∈xs,atI (xs.map g) v=some (g x):=by
 obtain⟨n,rfl⟩:∃ n:Nat,v=(n:Int):=⟨v.toNat,by omega⟩
 have hn:n<xs.length:=by omega
 exact⟨xs[n],da hn,atI_map (gxA hn)⟩
end L2
namespace L2
open PySem PySem.Spec PyProof.Rows PyProof
def TV (c:Dt)(ρ:DE)(μ:MS)(b:Bool):Prop:=∀ K:Bool->MS->Prop,K b μ->c ρ μ K
section
variable {a c:Dt}{t u:Ds}{N:DN}{ρ:DE}{μ:MS}{x y b:Bool}{e:De}
theorem TV.tst (h:∀ K:DK,K (.bl b) μ->e ρ μ K):TV (dTst e) ρ μ b:=fun K k=>h _ k
theorem TV.and (h1:TV a ρ μ x)(h2:x=true->TV c ρ μ y):TV (dtAnd a c) ρ μ (x&&y):=fun K k=>h1 _ (by
 cases x with
 | true=>rw[aE rfl];exact h2 rfl K k
 | false=>rw[ai (by decide)];exact k)
theorem TV.or (h1:TV a ρ μ x)(h2:x=false->TV c ρ μ y):TV (dtOr a c) ρ μ (x||y):=fun K k=>h1 _ (by
 cases x with
 | true=>rw[aE rfl];exact k
 | false=>rw[ai (by decide)];exact h2 rfl K k)
theorem TV.not (h1:TV a ρ μ x):TV (dtNot a) ρ μ (!x):=fun K k=>h1 _ k
theorem dIf_of (b:Bool)(h:TV c ρ μ b)(ht:b=true->t N ρ μ)(hu:b=false->u N ρ μ):dIfS c t u N ρ μ:=h _ (by
 cases b with
 | true=>rw[aE rfl];exact ht rfl
 | false=>rw[ai (by decide)];exact hu rfl)
end
theorem dNx_of {N:DN}{ρ:DE}{μ:MS}(h:N.nx ρ μ):dNx N ρ μ:=h
section
variable {α β:Type}[DecidableEq α]{κ:α->Key}(hi:∀ a b,κ a=κ b->a=b){f:β->D}{μ:MS}{j:Nat}{l:List (α×β)}
include hi
end
end L2
namespace L2
open PySem PySem.W PyProof.Rows
noncomputable abbrev twStepT:=Fast.tw10156331382660048174
noncomputable abbrev twDen:=Fast.tw11892475500146522536
noncomputable def runT (p:Program)(w:World)(n₀:Nat)(ann:Option Value):Nat->SharedT->Thread->Option SharedT
 | 0,_,_=>none
 | n+1,s,t=>match through t with
  | true=>some s
  | false=>match stepOk n₀ ann t with
   | false=>none
   | true=>match twStepT (twDen twTab) p w s t with
    | some (s',t')=>runT p w n₀ ann n s' t'
    | none=>none
theorem runT_of {p:Program}{w:World}{n₀:Nat}{ann:Option Value}:∀ {n:Nat} {s s':SharedT} {t:Thread},runT p w n₀ ann n s t=some s'->topRun treeTable p w n₀ ann n s.abs t=some s'.abs
 | 0,_,_,_,h=>by cases h
 | n+1,s,s',t,h=>by
  unfold runT at h
  unfold topRun
  cases he:through t with
  | true=>rw[he]at h;cases h;rfl
  | false =>
   rw[he]at h
   cases hk:stepOk n₀ ann t with
   | false=>rw[hk]at h;cases h
   | true =>
    rw[hk]at h
    cases hs:twStepT (twDen twTab) p w s t with
    | none=>rw[hs]at h;cases h
    | some r =>
     obtain⟨s2,t2⟩:=r
     rw[hs]at h
     have hs':stepT (denote treeTable) p w s t=some (s2,t2):=by
      rw[show stepT=twStepT from Fast.te10156331382660048174,show denote=twDen from Fast.te11892475500146522536,show treeTable=twTab from Fast.te14364793385576792824];exact hs
     rw[stepT_spec hs'];exact runT_of h
noncomputable def boT (P:Params):BT:=(.node (boot_o_0 P) (.node (boot_o_1 P) (.node (boot_o_3 P) (.node (boot_o_7 P) .nil .nil) .nil) (.node (boot_o_5 P) (.node (boot_o_9 P) .nil .nil) .nil)) (.node (boot_o_2 P) (.node (boot_o_4 P) (.node (boot_o_8 P) .nil .nil) .nil) (.node (boot_o_6 P) (.node (boot_o_10 P) .nil .nil) .nil)))
noncomputable abbrev ST0 (w:World)(os:OsState):SharedT:=⟨boT w.params,11,(boot_heap w.params).life,#[],boot_drawn,boot_toks,os⟩
theorem boT_abs (w:World)(os:OsState):(ST0 w os).abs=S00 w os:=by kernel_rfl
end L2
namespace L2
open PySem PySem.Spec PyProof.Rows PyProof PySem.W
end L2
namespace L2
open PySem PySem.Spec PyProof.Rows PyProof
end L2
namespace L2
open PySem PySem.Spec PyProof.Rows PyProof
end L2
namespace L2
open PySem PySem.Spec PyProof.Rows PyProof
end L2
namespace L2
open PySem PySem.Spec PyProof.Rows PyProof
end L2
namespace L2
open PySem PySem.Spec PyProof.Rows PyProof
section
variable {kept:List (Str×Pt)}{z:Str}{b b':List Nat}{a:Int}(h:aget kept z=some (.fst b a))
include h
end
end L2
namespace L2
open PySem PySem.Spec PyProof.Rows PyProof
theorem zs {n:Nat}(h:Nat.ble n 100=true:=by rfl):n<=sizeLine:=aD (Nat.le_of_ble_eq_true h) (sz (by decide))
section
variable {X:Cx}{a b e e1 e2 e3:Expr}{wa wb w w1 w2 w3:De}{pos p:Pos}
theorem a1 (h:PD X e w)(s:starEach [e] X.env=(false,eval e X.env)::starEach [] X.env:=by rfl):PDA X [e] (dCons w dNil):=da_cons h da_nil s
theorem a2 (h:PD X e w)(h1:PD X e1 w1)(s:starEach [e,e1] X.env=(false,eval e X.env)::starEach [e1] X.env:=by rfl)(s1:starEach [e1] X.env=(false,eval e1 X.env)::starEach [] X.env:=by rfl):PDA X [e,e1] (dCons w (dCons w1 dNil)):=da_cons h (a1 h1 s1) s
theorem a3 (h:PD X e w)(h1:PD X e1 w1)(h2:PD X e2 w2)(s:starEach [e,e1,e2] X.env=(false,eval e X.env)::starEach [e1,e2] X.env:=by rfl)(s1:starEach [e1,e2] X.env=(false,eval e1 X.env)::starEach [e2] X.env:=by rfl)(s2:starEach [e2] X.env=(false,eval e2 X.env)::starEach [] X.env:=by rfl):PDA X [e,e1,e2] (dCons w (dCons w1 (dCons w2 dNil))):=da_cons h (a2 h1 h2 s1 s2) s
theorem dIX (ha:PD X a wa)(hb:PD X b wb)(hs:PlainIx b:=by exact fun _ _=>rfl):PD X (.Subscript a b pos) (dOp dIx wa wb):=d_ix ixC so_ix ha hb hs
theorem dPl (ha:PD X a wa)(hb:PD X b wb):PD X (.BinOp a .Add b pos) (dOp (dAdd false) wa wb):=d_op addC so_add ha hb
theorem dMi (ha:PD X a wa)(hb:PD X b wb):PD X (.BinOp a .Sub b pos) (dOp (dI2' fun i j=>.int (i - j)) wa wb):=d_op subC so_i2' ha hb
theorem qLt (ha:PD X a wa)(hb:PD X b wb):PT X (.Compare a [.Lt] [b] pos) (tDT (dTst (dOp (dI2' fun i j=>.bl (decide (i<j))) wa wb))):=d_testC ltC so_b2' ha hb (nomark _)
theorem qGt (ha:PD X a wa)(hb:PD X b wb):PT X (.Compare a [.Gt] [b] pos) (tDT (dTst (dOp (dI2' fun i j=>.bl (decide (j<i))) wa wb))):=d_testC gtC so_b2' ha hb (nomark _)
theorem qEq (ha:PD X a wa)(hb:PD X b wb):PT X (.Compare a [.Eq] [b] pos) (tDT (dTst (dOp (dEqS false) wa wb))):=d_testC eqC so_eqS ha hb (nomark _)
theorem qNe (ha:PD X a wa)(hb:PD X b wb):PT X (.Compare a [.NotEq] [b] pos) (tDT (dTst (dOp (dEqS true) wa wb))):=d_testC neC so_eqS ha hb (nomark _)
theorem dLn (T:Bi2 X.mg)(h:PD X e w)(hg:Gl X "len":=by rfl)(he:starEach [e] X.env=(false,eval e X.env)::starEach [] X.env:=by rfl)(hpl:(backTo pos (starEach [] X.env)).any (·.1)=false:=by rfl):PD X (.Call (.Name "len" p) [e] [] pos) (dCall fLen (dCons w dNil)):=d_blt lenC so_len hg T.len PySem.boot_len (a1 h he) (by decide) (by decide) he hpl
section
variable {es:List Expr}{x:Str}{k k0:Nat}{ps:List Str}{f:DSp}{fx:DSpX}{u:DA}
theorem qC (C:Cal X.prog X.w X.K X.mg X.base x k ps (spD f))(hr:Room k0 X.A)(ha:PDA X (e::es) u)(hk:k<=k0:=by first | decide | exact aa _ | omega)(hg:Gl X x:=by rfl)(hdb:(x==("__debug__" : Str))=false:=by decide)(he:starEach (e::es) X.env=(false,eval e X.env)::starEach es X.env:=by rfl)(hpl:(backTo pos (starEach es X.env)).any (·.1)=false:=by rfl) :
 PD X (.Call (.Name x p) (e::es) [] pos) (dCall f u):=d_call C (hr.mono hk) hg ha hdb he hpl
end
theorem qS (i:Nat){x:Str}{pos':Pos}(hN:X.N.Nodup)(he:PD X e w)(hi:X.N[i]?=some x:=by rfl)(hx:Loc X.env.scope x:=by first | exact Or.inl rfl | exact Or.inr rfl)(hf:X.fn x=true\/X.env.scope.names.lookup x=some .local:=by first | exact .inl rfl | exact .inr rfl | assumption)
 (hsw:swapsWith e (some (.Name x pos')) pos.line X.env=pure false:=by rfl):PDS X (.Assign [.Name x pos'] e pos) (dSet i w):=s_set hN hi hx he hf hsw
theorem qN (i:Nat){x:Str}(hN:X.N.Nodup)(hi:X.N[i]?=some x:=by rfl)(hx:Loc X.env.scope x:=by first | exact Or.inl rfl | exact Or.inr rfl)(hf:X.fn x=true\/X.env.scope.names.lookup x=some .local:=by first | exact .inl rfl | exact .inr rfl | assumption):PG X (.Name x pos) (gName i):=pg_name hN hi hx hf
theorem qT (i:Nat){x:Str}(hN:X.N.Nodup)(hi:X.N[i]?=some x:=by rfl)(hx:Loc X.env.scope x:=by first | exact Or.inl rfl | exact Or.inr rfl)(hf:X.fn x=true\/X.env.scope.names.lookup x=some .local:=by first | exact .inl rfl | exact .inr rfl | assumption):Tg X (.Name x pos) (gName i) (dgName i) [i]:=⟨pg_name hN hi hx hf,so_name i,mo_name i⟩
theorem cOk {N0 ps N:List Str}{js:List (Option Nat)}{sc sc0:Scope}(S:FnScope N0 ps sc0)(h:compChk N0 sc0 N js sc=true)(hN:X.N=N0:=by rfl)(hs:X.env.scope=sc0:=by rfl):CompOk X N js sc:=compOk h hN hs
section
variable {tg iter elt:Expr}{ifs:List Expr}{sc:Scope}{N:List Str}{js:List (Option Nat)}{g:TG}{y:DG}{S:List Nat}{t:Dt}{wi:DI}
theorem dCp (m:Bool)(hc:CompOk X N js sc)(so:SoG g y S)(mo:MonoG g)(hi:PDI X tg iter wi)(hg:∀ fp s H,N.Nodup->PG (cxC X N sc fp s H) tg g)(ht:∀ fp s H,PDTs (cxC X N sc fp s H) ifs t)(he:∀ fp s H,PD (cxC X N sc fp s H) elt w)(ho:ownJs S js=true:=by rfl)(calm:X.calm=true:=by rfl)
 (hs:∀ x,foldedSetIterable iter X.env x=pure x:=by intro _;rfl):PD X (.ListComp elt [⟨tg,iter,ifs,0⟩] sc pos) (dComp m wi js y t w):=d_comp m hc calm so mo ho hi (fun fp s H=>hg fp s H hc.nd) ht he hs
theorem dC1 (m:Bool)(hc:CompOk X N js sc)(hi:PDI X tg iter wi)(hg:∀ fp s H,N.Nodup->PG (cxC X N sc fp s H) tg (gName 0))(ht:∀ fp s H,PDTs (cxC X N sc fp s H) ifs t)(he:∀ fp s H,PD (cxC X N sc fp s H) elt w)(ho:ownJs [0] js=true:=by rfl)(calm:X.calm=true:=by rfl)
 (hs:∀ x,foldedSetIterable iter X.env x=pure x:=by intro _;rfl):PD X (.ListComp elt [⟨tg,iter,ifs,0⟩] sc pos) (dComp m wi js (dgName 0) t w):=dCp m hc (so_name 0) (mo_name 0) hi hg ht he ho calm hs
end
end
end L2
namespace L2
open PySem PySem.Spec PyProof.Rows PyProof PySem.W
abbrev pA (s:Stmt):List Str:=(defArgs s).args.map (·.arg)
theorem mkSc {N P:List Str}{sc:Scope}(h1:sc.kind=.function:=by rfl)(h2:sc.isCoroutine=false:=by rfl)(h3:sc.isGenerator=false:=by rfl)(h4:N.Nodup:=by decide +kernel)(h5:N.take P.length=P:=by rfl)
 (h6:∀ x∈P,sc.names.lookup x=some .local\/sc.names.lookup x=some .cell:=by decide +kernel) (h7:∀ y∈sc.names,y.2≠.free:=by decide +kernel):FnScope N P sc:=⟨h1,h2,h3,h4,h5,h6,h7⟩
def kf (f c:Addr)(x q:Str)(s:Stmt)(pm:Value)(t l a r1 r2:Nat)(v1 v2:Value)(r3 t2:Nat):List (Addr×Obj):=[ko f (fnQ x q s pm c),ko c (coQ x q t l a r1 r2 v1 v2 r3 t2)]
def kf1 (f c:Addr)(x:Str)(s:Stmt)(pm:Value)(t l a r1 r2:Nat)(v1 v2:Value)(r3 t2:Nat):List (Addr×Obj):=kf f c x x s pm t l a r1 r2 v1 v2 r3 t2
def kx (P:Params)(a n h:Addr)(x:Str)(sl:Option Value)(t u:Nat)(m:Value)(i l:Nat)(st:Addr)(sub:List Value:=[])(bs:List Value:=[.ref h])(mro:List Value:=[.ref a,.ref h,.type "ValueError",.type "Exception",.type "BaseException",.type "object"]):List (Addr×Obj) :=
 [ko a ⟨.type "type",none,.cls ⟨x,bs,mro,n,x,true,[],sub,false,none,false⟩,#[sl,none,some (.str x t),some (.str x u),some (.builtin "ValueError.__new__"),some (.bool true)]⟩,
  ko n ⟨.type "dict",none,.dict #[enP P "__module__" i m,enP P "__firstlineno__" (i+4) (.int l (i+3)),enP P "__static_attributes__" (i+5) (.ref st),enP P "__doc__" (i+6) .none] 2,#[]⟩]
section
variable {K:Frag}{x q:Str}{s:Stmt}{f:Addr}{fd:FuncData}{ps:List Str}(F:Fun K x q s f fd)
include F
theorem bd1 (hl:ps.length=1:=by rfl)(h:∀(kV doc pm:Value) (an:Option Addr) (cdv ct a:Value),bindArgs (fnOf x q (defArgs s) (defBody s) (defScope s) .none kV doc pm an cdv ct) ⟨[a],[]⟩=pure (ps.zip [a]):=by intros;rfl):Binds K fd ps []:=F.binds fun k d p n c t=>by rw[hl];exact bn1 fun a=>h k d p n c t a
theorem bd2 (hl:ps.length=2:=by rfl)(h:∀(kV doc pm:Value) (an:Option Addr) (cdv ct a b:Value),bindArgs (fnOf x q (defArgs s) (defBody s) (defScope s) .none kV doc pm an cdv ct) ⟨[a,b],[]⟩=pure (ps.zip [a,b]):=by intros;rfl):Binds K fd ps []:=F.binds fun k d p n c t=>by rw[hl];exact bnS fun a=>bn1 fun b=>h k d p n c t a b
theorem bd4 (hl:ps.length=4:=by rfl)(h:∀(kV doc pm:Value) (an:Option Addr) (cdv ct a b e g:Value),bindArgs (fnOf x q (defArgs s) (defBody s) (defScope s) .none kV doc pm an cdv ct) ⟨[a,b,e,g],[]⟩=pure (ps.zip [a,b,e,g]):=by intros;rfl):Binds K fd ps []:=F.binds fun k d p n c t=>by rw[hl];exact bnS fun a=>bnS fun b=>bnS fun e=>bn1 fun g=>h k d p n c t a b e g
end
end L2
namespace L2
open PySem PySem.Spec PyProof.Rows PyProof
section
variable {X:Cx}
def rStrC:List V->Hp->VK->Prop:=fun vs H Q=>match vs with
 | [.str z]=>Q (.str z) H
 | [.int i]=>i.natAbs<100000000/\Q (.str (toString i)) H
 | _=>False
theorem strC:CallR X (.type "str") rStrC:=by
 intro pins s σ H xs us Q I r h
 unfold rStrC at h
 split at h
 ·obtain⟨u,rfl,t,rfl⟩:=vals1 r
  exact PySem.P.str_of_str ⟨.str _,H,I,⟨_,rfl⟩,h⟩
 ·rename_i i
  obtain⟨u,rfl,t,rfl⟩:=vals1 r
  have hz:i.natAbs.log2<1920:=by
   refine bA (m:=(100000000:Nat).log2) ?_ (by decide +kernel)
   by_cases e:i.natAbs=0
   ·rw[e];decide +kernel
   ·rw[Nat.le_log2 (by decide)]
    exact aD (Nat.log2_self_le e) (Nat.le_of_lt h.1)
  exact PySem.P.str_of_int hz ⟨.str _,H,I.tok _,⟨_,rfl⟩,h.2⟩
 ·exact h.elim
end
def fStr:DSp:=fun ds μ K=>match ds with
 | [.str z]=>K (.str z) μ
 | [.int i]=>i.natAbs<100000000/\K (.str (toString i)) μ
 | _=>False
theorem so_str:SoCall rStrC fStr:=fun φ H vs ds μ K Q M h k L=>by
 unfold fStr at k
 split at k
 ·obtain⟨v,r,rfl,h1,h2⟩:=h;cases(show r=[]from h2);cases(show v=_ from h1)
  exact L.val M k rfl
 ·obtain⟨v,r,rfl,h1,h2⟩:=h;cases(show r=[]from h2);cases(show v=_ from h1)
  exact⟨k.1,L.val M k.2 rfl⟩
 ·exact k.elim
end L2
namespace L2
open PySem PySem.Spec PyProof.Rows PyProof
end L2
namespace L2
open PySem PySem.Spec PyProof.Rows PyProof
def fKindsJ (K:PySem.W.Frag)(cs:List Addr)(cH:Addr):DSp:=fun ds μ Kd=>match ds with
 | [.mr k]=>(∃ m,μ[0]?=some m)/\k≠0/\∃ j,j<17/\μ[k]?=some (.exc (.ref (cs.getD j 0)))/\KinB K cs cH j/\Kd (.lst [.str (kWord j)]) μ
 | _=>False
theorem fKindsJ_len {K:PySem.W.Frag}{cs:List Addr}{cH:Addr}{ds:List D}{μ:MS}{Kd:DK}(h:fKindsJ K cs cH ds μ Kd):ds.length=1/\∃ m,μ[0]?=some m:=by
 unfold fKindsJ at h
 split at h
 ·exact⟨rfl,h.1⟩
 ·exact h.elim
def kWords:List Str:=["BadBars", "BadMake", "BadNumber", "BadText", "BadName", "BadAge", "BadBar", "BadPlace", "BadSize", "Taken", "Full", "NoTake", "Shut", "Joined", "Needed", "NothingLeft", "NoWay", "no ValueError"]
def kBits (j:Nat):List D:=(List.range 17).map (fun i=>D.bl (decide (i=j)))++[.bl false]
theorem kBits_at {j i:Nat}(hj:j<17)(hi:i<18):(kBits j)[i]?=some (.bl (decide (i=j))):=by
 unfold kBits
 by_cases h:i<17
 ·rw[gxF (by rw[gxC,gxJ];exact h),gxH,List.getElem?_range h];rfl
 ·rw[gxG (by rw[gxC,gxJ];omega),gxC,gxJ,show i - 17=0 by omega,ak (by omega)];rfl
theorem kOne:∀ j:Nat,j<17->((List.range 18).filterMap fun i=>if i=j then some (kWords.getD i "")else none)=[kWord j]:=by
 decide +kernel
theorem kWords_at {i:Nat}(hi:i<18):kWords[i]?=some (kWords.getD i ""):=by
 rw[bP]
 cases e:kWords[i]? with
 | none=>exact absurd (List.getElem?_eq_none_iff.mp e) (by show ¬ 18<=i;omega)
 | some x=>rfl
theorem compW_kinds {it:D->MS->(Option D->MS->Prop)->Prop}{c:MS->Prop}{μ:MS}{j:Nat}(hj:j<17)(hc:c μ){K:List D->MS->Prop}(h:∀(i:Nat) (K':Option D->MS->Prop),i<18->(kBits j)[i]?=some (.bl (decide (i=j)))->kWords[i]?=some (kWords.getD i "")->(i=j->K' (some (.str (kWords.getD i ""))) μ)->(i≠j->K' none μ)->it (.int (0+(i:Int))) μ K')(k:K [.str (kWord j)] μ):compW it c (rngD 0 18) μ K:=by
 refine compW_gen hc (fun i:Nat=>D.int (0+(i:Int))) (fun i=>if i=j then some (D.str (kWords.getD i ""))else none) (fun i hi K' k'=>?_) ?_
 ·have hi:=List.mem_range.mp hi
  refine h i K' hi (kBits_at hj hi) (kWords_at hi) (fun e=>?_) (fun e=>?_)
  ·rw[aE e]at k';exact k'
  ·rw[ai e]at k';exact k'
 ·have e:((List.range 18).filterMap fun i=>if i=j then some (D.str (kWords.getD i ""))else none)=[.str (kWord j)]:=by
   have t:=bg (List.map D.str) (kOne j hj)
   rw[List.map_filterMap]at t
   refine Eq.trans ?_ t
   congr 1
   funext i
   split <;> rfl
  rw[e]
  exact k
def w0 (n:Nat):Bool:=n==0
def w1 (n:Nat):Bool:=n==1
theorem dIfe_of {c:Dt}{wa wb:De}{ρ:DE}{μ:MS}{K:DK}(b:Bool)(h:TV c ρ μ b)(ht:b=true->wa ρ μ K)(hu:b=false->wb ρ μ K):dIf c wa wb ρ μ K:=h _ (by
 cases b with
 | true=>rw[aE rfl];exact ht rfl
 | false=>rw[ai (by decide)];exact hu rfl)
theorem dIf_gen {c:Dt}{t u:Ds}{N:DN}{ρ:DE}{μ:MS}(B:Bool->MS->Prop)(h:∀ K:Bool->MS->Prop,(∀ b μ',B b μ'->K b μ')->c ρ μ K)(ht:∀ μ',B true μ'->t N ρ μ')(hu:∀ μ',B false μ'->u N ρ μ'):dIfS c t u N ρ μ:=h _ fun b μ' hb=>by
 cases b with
 | true=>rw[aE rfl];exact ht μ' hb
 | false=>rw[ai (by decide)];exact hu μ' hb
theorem k16 {K:PySem.W.Frag}{cs:List Addr}{cH:Addr}(h0:KinB K cs cH 0)(h1:KinB K cs cH 1)(h2:KinB K cs cH 2)(h3:KinB K cs cH 3)(h4:KinB K cs cH 4)(h5:KinB K cs cH 5)(h6:KinB K cs cH 6)(h7:KinB K cs cH 7)(h8:KinB K cs cH 8)(h9:KinB K cs cH 9)(ha:KinB K cs cH 10)(hb:KinB K cs cH 11)(hc:KinB K cs cH 12)(hd:KinB K cs cH 13)(he:KinB K cs cH 14)(hf:KinB K cs cH 15):∀ j,j<16->KinB K cs cH j
 | 0,_=>h0 | 1,_=>h1 | 2,_=>h2 | 3,_=>h3 | 4,_=>h4 | 5,_=>h5 | 6,_=>h6 | 7,_=>h7 | 8,_=>h8 | 9,_=>h9 | 10,_=>ha | 11,_=>hb | 12,_=>hc | 13,_=>hd | 14,_=>he | 15,_=>hf
 | n+16,h=>absurd h (by omega)
theorem kB {K:PySem.W.Frag}{cs:List Addr}{cH:Addr}{j:Nat}(e1:(PySem.W.clsIn K (cs.getD j 0)).isSome=true:=by kernel_rfl)(e2:PySem.W.findIn K (.ref (cs.getD j 0)) "__getattribute__"=some (some (.builtin "BaseException.__getattribute__")):=by kernel_rfl)(e3:PySem.W.findIn K (.ref (cs.getD j 0)) "__getattr__"=some none:=by kernel_rfl)
 (e4:PySem.W.findIn K (.ref (cs.getD j 0)) "__class__"=some (some (.builtin "object.__class__")):=by kernel_rfl) (e5:PySem.W.specialIn K (.builtin "object.__class__") "__get__"=some (some (.builtin "getset_descriptor.__get__")):=by kernel_rfl) (e6:PySem.W.takesIn K (.builtin "object.__class__")=some true:=by kernel_rfl) (e7:PySem.W.mroIn K (cs.getD j 0) (.type "object")=some true:=by kernel_rfl) (e8:PySem.W.mroIn K (cs.getD j 0) (.type "BaseException")=some true:=by kernel_rfl)
 (k:kitB K cs j=true:=by kernel_rfl) (v:PySem.W.kitOne K (.ref (cs.getD j 0)) (.type "ValueError")=some true:=by kernel_rfl) (q1:PySem.W.excIn K cH veB "ValueError.__new__"=true:=by kernel_rfl) (q2:PySem.W.excIn K (cs.getD j 0) veB "ValueError.__new__"=true:=by kernel_rfl) (q3:subIn K (cs.getD j 0) cH=true:=by kernel_rfl):KinB K cs cH j:=⟨⟨e1,e2,e3,e4,e5,e6,e7,e8⟩,k,v,sub_of q1 q2 q3⟩
end L2
namespace L2
open PySem PySem.Spec PyProof.Rows PyProof
end L2
namespace L2
open PySem PySem.Spec PyProof.Rows PyProof
section
variable {X:Cx}{e st:Expr}{te:TE}{ts:TO}{p2 pos:Pos}
theorem pe_rev (he:PE X e te)(hst:PO X (some st) ts):PE X (.Subscript e (.Slice none none (some st) p2) pos) (fun σ H Q=>te σ H fun x H1=>ts σ H1 fun o H2=>o=some (-1)/\∃ a xs,x=.ref a/\SqL X.K H2 a xs/\∀ p,H2 p=none->Q (.ref p) (upd H2 p (.lst xs.reverse))):=by
 intro pins s σ H Q I h
 refine Subscript_ (thn (he pins s σ H _ I h) fun v s1 hq6=>?_)
 obtain⟨x,H1,I1,r1,q1⟩:=hq6
 refine wpAny_Slice ?_
 rw[evalPart_none]
 refine ao (ao (thn (hst pins s1 σ H1 _ I1 q1) fun vs s3 hq0=>?_))
 obtain⟨o,H3,I3,ps,q3⟩:=hq0
 obtain⟨rfl,a,xs,rfl,hx,q⟩:=q3
 cases r1
 have I4:Inv X pins σ H3 { s3 with heap:=s3.heap.push { cls:=.type "slice",data:=.fields #[.none,.none,vs]}}:=I3.kept (t':=s3.toks) fun b ob q=>gxL _ q
 obtain⟨its,r,ht,hz⟩:=I4.list hx
 have hlen:=r.length
 show wpAny (model X.prog X.w) X.A (subscriptTail e (.Slice none none (some st) p2) (.ref a) (.ref s3.heap.objs.size)) (EP X pins σ Q) X.xe { s3 with heap:=s3.heap.push { cls:=.type "slice",data:=.fields #[.none,.none,vs]}}
 refine tail_any (ops:=[.ref a,.ref s3.heap.objs.size]) ht.isList.typeIs slot_list_getitem.lookup ?_ (by with_unfolding_all rfl)
 refine wpAny_getItem_list_slice ht.isList (Heap.IsSliceOf.new ..) .none .none ps (by decide) ?_ (by rw[af]<;> omega)
 rw[PySem.W.krv_pick]
 refine⟨.ref _,_,I4.laid (t':=s3.toks) (o:=.lst xs.reverse) (fun b ob q=>gxL _ q) (aa _) ?_,rfl,q _ (I4.hok.fresh (aa _))⟩
 exact⟨by rw[ar];exact hz,_,0,r.reverse,aj _ rfl⟩
def dRev (w:De)(st:DO):De:=fun ρ μ K=>w ρ μ fun x μ1=>st ρ μ1 fun o μ2=>o=some (-1)/\opt (lv μ2 x) fun ds=>K (.lst ds.reverse) μ2
theorem d_rev {w:De}{l:DO}(ha:PD X e w)(hl:PO X (some st) (tDO l)):PD X (.Subscript e (.Slice none none (some st) p2) pos) (dRev w l):=(pe_rev ha hl).imp fun σ H Q hq=>by
 obtain⟨φ,ρ,μ,K,A,M,k,L⟩:=hq
 refine⟨φ,ρ,μ,_,A,M,k,fun d μ1 φ1 v1 H1 k1 f1 M1 i1=>?_⟩
 refine⟨φ1,ρ,μ1,_,A.mono f1,M1,k1,fun lo μ2 φ2 H2 k2 f2 M2=>?_⟩
 have i3:=i1.mono f2
 have L3:=L.mono (f1.trans f2)
 obtain⟨e0,k2⟩:=k2
 obtain⟨ds,ed,k2⟩:=opt_ex k2
 obtain⟨p,vs,rfl,hp,ha⟩:=lv_is M2 i3 ed
 exact⟨e0,p,vs,rfl,SqL.of hp,fun l hl=>al_lst L3 M2 ha.rev k2 hl⟩
end
end L2
namespace L2
open PySem PySem.Spec PyProof.Rows
end L2
namespace L2
open PySem PySem.Spec PyProof.Rows PyProof
end L2
namespace L2
open PySem PySem.Spec PyProof.Rows PyProof
end L2
namespace L2
open PySem PySem.Spec PyProof.Rows PyProof
end L2
namespace L2
open PySem PySem.Spec PyProof.Rows PyProof
end L2
namespace L2
open PySem PySem.Spec PyProof.Rows PyProof
end L2
namespace L2
open PySem PySem.Spec PyProof.Rows PyProof
end L2
namespace L2
open PySem PySem.Spec PyProof.Rows PyProof
end L2
namespace L2
open PySem PySem.Spec PyProof.Rows PyProof
end L2
namespace L2
open PySem PySem.Spec PyProof.Rows PyProof
section
variable {es:List Int}{ts:List Tk}(hu:es.Pairwise (·<·))(hL:es.length<=100)(ht:ts.length<=100)
include hu hL ht
end
section
variable {es:List Int}{ts:List Tk}(hL:es.length<=100)(ht:ts.length<=100)
include hL ht
end
section
variable {es:List Int}{ts:List Tk}(hu:es.Pairwise (·<·))
include hu
end
end L2
namespace L2
open PySem PySem.Spec PyProof.Rows PyProof
section
variable {n:Int}{cs:List Int}{ts:List Tk}(S:Shelf n cs ts)
include S
end
end L2
namespace L2
open PySem PySem.Spec PyProof.Rows PyProof
section
variable {es:List Int}{ts:List Tk}(hu:es.Pairwise (·<·))(hL:es.length<=100)(ht:ts.length<=100)
include hu hL ht
end
end L2
namespace L2
open PySem PySem.Spec PyProof.Rows PyProof
end L2
namespace L2
open PySem PySem.Spec PyProof.Rows PyProof
theorem sm_mk:∀(t:Mak) {n:Nat},t.dep<=n->smD n (mkD t)
 | .num _,n,_=>sm_int
 | .tri p l r,n,h=>by
  have h:max l.dep r.dep+1<=n:=h
  obtain⟨n,rfl⟩:∃ n',n=n'+1:=⟨n - 1,by omega⟩
  refine sm_tup (by simp only[ah,cL];omega) fun d hd=>?_
  simp only[bw,bb,cG]at hd
  rcases hd with rfl | rfl | rfl
  ·exact sm_int
  ·exact sm_mk l (by omega)
  ·exact sm_mk r (by omega)
end L2
namespace L2
open PySem PySem.Spec PyProof.Rows PyProof
section
variable {n:Int}{cs:List Int}{ts:List Tk}(S:Shelf n cs ts)
include S
end
end L2
namespace L2
open PySem PySem.Spec PyProof.Rows PyProof
def fSameN (n:Nat):DSp:=fun ds μ K=>match ds with
 | [x,y]=>∃ d,frzD μ x=some d/\frzD μ y=some d/\smD n d/\K (.bl true) μ
 | _=>False
theorem same_impN {n:Nat}{vs:List V}{H:Hp}{Q:VK}{E:XK}(h:spD (fSameN n) vs H Q E):spSame n vs H Q E:=by
 obtain⟨φ,ds,μ,K,ha,M,k,L⟩:=h
 unfold fSameN at k
 split at k
 ·obtain⟨v,r,rfl,h1,u,r',rfl,h2,h3⟩:=ha
  cases(show r'=[]from h3)
  obtain⟨d,e1,e2,hs,k⟩:=k
  obtain⟨a,b,c⟩:=sm_dv (φ:=φ) (H:=H) hs
  exact⟨toDV d,b,bA c (by decide),frzD_is M e1 hs h1,frzD_is M e2 hs h2,fun H' S=>L _ μ φ _ H' k (.same S) (M.same S) rfl⟩
 ·exact k.elim
end L2
namespace L2
open PySem PySem.Spec PyProof.Rows PyProof PySem.W
def LeftN (p q:Program)(loose:List Str)(Xt:Shared->Bool){α:Type}(Yf:Shared->α)(Ya:World->α)(M:Nat):Prop:=∀(w:World) (os:OsState),(runT p w 11 (some (.ref 6)) M (ST0 w os) (topStub p)).map (fun s =>
 (W.staticsOk (importedModules p.main.body) (W.boot_heap w.params) s.abs.heap&&W.namesBound p s.abs.heap&&W.gensDone s.abs&&W.laidKept (W.boot_heap w.params) s.abs.heap,twSeen q loose (importedModules p.main.body) Xt true s.abs,Yf s.abs))=some (true,W.openGood q loose,Ya w)
theorem left_ofN {p q:Program}{loose:List Str}{Xt:Shared->Bool}{α:Type}{Yf:Shared->α}{Ya:World->α}{N M:Nat}
 (e:W.opening p=W.plainProg p.main.scope.names) (hN:Nat.ble 600 N=true) (f:∀ s,fenceModules? p s=some s) (le:Nat.ble M N=true) (h:LeftN p q loose Xt Yf Ya M):W.LeftO p q loose Xt Yf Ya N:=left_of e hN f le fun w os=>by
 obtain⟨sT,r,e⟩:=Option.map_eq_some_iff.mp (h w os)
 have r2:=runT_of r
 rw[boT_abs,show topRun=twRun from Fast.te14082659384304107361,show treeTable=twTab from Fast.te14364793385576792824]at r2
 rw[r2]
 exact bg some e
end L2
namespace L2
open PySem PySem.Spec PyProof.Rows PyProof
section
variable {n:Int}{cs:List Int}{ts:List Tk}(S:Shelf n cs ts)(hcl:cs.length<=60)
include S hcl
end
section
variable {n:Int}{cs:List Int}{ts:List Tk}(S:Shelf n cs ts)(hcl:cs.length<=60)
include S hcl
end
end L2
namespace L2
open PySem PySem.Spec PyProof.Rows
end L2
namespace L2
open PySem PySem.Spec PyProof.Rows PyProof
theorem runs_toks {M:Model}{Γ:PySem.Ctx}{p:Pos}{t:Sem PySem.Fin}{fs:List Frame}{s s':Shared}{e:End}(h:Runs M Γ p t fs s e s'):s.toks<=s'.toks:=by
 induction h with
 | done | raise | yield=>exact aa _
 | again _ _ ih=>exact ih
 | rule _ ih | «at» _ ih | load _ _ ih | update _ _ ih | loadIfAlive _ ih | point _ ih | alloc _ ih | ask _ ih | choose _ _ ih | os _ ih | handled _ ih | genState _ _ ih | stack _ ih | thread _ ih | newGen _ ih | callSusp _ ih | resumeJustStarted _ _ _ ih | resumeRunning _ _ ih | resumeFinished _ _ ih=>exact ih
 | fresh _ ih=>exact aD (Nat.le_succ _) ih
 | call _ _ ih1 ih2=>exact aD ih1 ih2
 | resumeFresh _ _ _ _ ih1 ih2=>exact aD ih1 ih2
 | resumeSuspended _ _ _ _ ih1 ih2=>exact aD ih1 ih2
 | resumeThrowFresh _ _ ih=>exact ih
 | segRet _ _ ih1 ih2=>exact aD ih1 ih2
 | segGen _ _ ih1 ih2=>exact aD ih1 ih2
 | segSuspOut _ _ ih=>exact ih
 | segSuspGen _ _ _ _ ih1 ih2=>exact aD ih1 ih2
theorem wakes_toks {M:Model}{Γ:PySem.Ctx}{p:Pos}{g:Nat}{r:Resume}{s s':Shared}{res:GenResult}(h:Wakes M Γ p g r s res s'):s.toks<=s'.toks:=by
 unfold Wakes at h
 split at h
 ·exact h.elim
 ·split at h
  ·obtain⟨e,s1,hr,_,_,rfl⟩:=h;have:=runs_toks hr;exact this
  ·obtain⟨_,rfl⟩:=h;exact aa _
  ·obtain⟨_,rfl⟩:=h;exact aa _
 ·obtain⟨e,s1,hr,_,_,rfl⟩:=h;have:=runs_toks hr;exact this
 ·obtain⟨_,rfl⟩:=h;exact aa _
 ·obtain⟨_,rfl⟩:=h;exact aa _
theorem wp_toks {α:Type}{M:Model}{Γ:PySem.Ctx}(n:Nat):∀(t:Sem α) {Q:α->Pos->Shared->Prop} {E:Value->Pos->Shared->Prop} {p:Pos} {s:Shared},n<=s.toks->Sem.wp M Γ t Q E p s->Sem.wp M Γ t (fun a p' s'=>Q a p' s'/\n<=s'.toks) (fun e p' s'=>E e p' s'/\n<=s'.toks) p s:=by
 intro t
 induction t with
 | pure a=>intro Q E p s hn h;exact⟨h,hn⟩
 | «raise» e=>intro Q E p s hn h;exact⟨h,hn⟩
 | unsupported=>intro Q E p s hn h;exact h.elim
 | finish=>intro Q E p s hn h;exact h.elim
 | register=>intro Q E p s hn h;exact h.elim
 | yield=>intro Q E p s hn h;exact h.elim
 | fork=>intro Q E p s hn h;exact h.elim
 | await=>intro Q E p s hn h;exact h.elim
 | load a part k ih=>intro Q E p s hn h;obtain⟨o,ho,h⟩:=h;exact⟨o,ho,ih o hn h⟩
 | update a part f k ih=>intro Q E p s hn h;exact⟨h.1,ih () (s:={ s with heap:=s.heap.update a f}) hn h.2⟩
 | fresh k ih=>intro Q E p s hn h;exact ih _ (s:={ s with toks:=s.toks+1}) (Nat.le_succ_of_le hn) h
 | choose src m k ih=>intro Q E p s hn h;exact⟨h.1,ih _ (s:={ s with drawn:=s.drawn.bump src}) hn h.2⟩
 | genState g k ih=>intro Q E p s hn h;obtain⟨st,hs,h⟩:=h;exact⟨st,hs,ih _ hn h⟩
 | call c hh g l k ih=>intro Q E p s hn h;obtain⟨r,s1,hr,h⟩:=h;exact⟨r,s1,hr,ih _ (aD hn (runs_toks hr)) h⟩
 | resume g r l k ih=>intro Q E p s hn h;obtain⟨res,s1,hr,h⟩:=h;exact⟨res,s1,hr,ih _ (aD hn (wakes_toks hr)) h⟩
 | alloc o k ih=>intro Q E p s hn h;exact ih _ (s:={ s with heap:=s.heap.push o}) hn h
 | os q l k ih=>intro Q E p s hn h;exact ih _ (s:={ s with os:=(Os.step s.os q).1}) hn h
 | newGen c k ih=>intro Q E p s hn h;exact ih _ (s:={ s with gens:=s.gens.push (.fresh c)}) hn h
 | _=>rename_i ih;intro Q E p s hn h;exact ih _ hn h
theorem any_toks {α:Type}{M:Model}{A:Around}{t:Sem α}{Q:α->Shared->Prop}{E:Value->Shared->Prop}{s:Shared}(n:Nat)(hn:n<=s.toks)(h:wpAny M A t Q E s):wpAny M A t (fun a s'=>Q a s'/\n<=s'.toks) (fun e s'=>E e s'/\n<=s'.toks) s:=fun Γ p hΓ=>wp_toks n t hn (h Γ p hΓ)
end L2
namespace L2
open PySem PySem.Spec PyProof.Rows PyProof
section
variable {X:Cx}
def rCountS:V->List V->Hp->VK->Prop:=fun x vs H Q=>match x,vs with
 | .str z,[.str y]=>Q (.int (Txt.count z y)) H
 | _,_=>False
def rDecS:V->List V->Hp->VK->Prop:=fun x vs H Q=>match x,vs with
 | .str z,[]=>Q (.bl (Txt.isdecimal z)) H
 | _,_=>False
theorem decS:MtR X "str.isdecimal" rDecS:=by
 intro pins s σ H x vs v us Q I rx rv h
 unfold rDecS at h
 split at h
 ·obtain⟨t,rfl⟩:=rx
  cases rv
  exact PySem.W.KXw.isdecimal rfl ⟨.bl _,H,I,rfl,h⟩
 ·exact h.elim
def rIntT:List V->Hp->VK->Prop:=fun vs H Q=>match vs with
 | [.str z]=>∃ n:Int,PySem.intText? z=some n/\z.length<=640/\Q (.int n) H
 | _=>False
theorem intT_call:CallR X (.type "int") rIntT:=by
 intro pins s σ H xs us Q I r h
 unfold rIntT at h
 split at h
 ·obtain⟨u,rfl,t,rfl⟩:=vals1 r
  obtain⟨n,h1,h2,h3⟩:=h
  exact PySem.W.KIN.call_text h1 h2 ⟨.int _,H,I.tok _,⟨_,rfl⟩,h3⟩
 ·exact h.elim
end
def fCountS:DMt:=fun d ds μ K=>match d,ds with
 | .str z,[.str y]=>K (.int (Txt.count z y)) μ
 | _,_=>False
def fDecS:DMt:=fun d ds μ K=>match d,ds with
 | .str z,[]=>K (.bl (Txt.isdecimal z)) μ
 | _,_=>False
theorem so_decS {Kf:PySem.W.Frag}:SoMt Kf "str" rDecS fDecS:=fun φ H x vs d ds μ K Q M hx h k L=>by
 unfold fDecS at k
 split at k
 ·cases(show x=_ from hx)
  cases(show vs=[]from h)
  exact L.val M k rfl
 ·exact k.elim
def fIntT:DSp:=fun ds μ K=>match ds with
 | [.str z]=>∃ n:Int,PySem.intText? z=some n/\z.length<=640/\K (.int n) μ
 | _=>False
theorem so_intT:SoCall rIntT fIntT:=fun φ H vs ds μ K Q M h k L=>by
 unfold fIntT at k
 split at k
 ·obtain⟨v,r,rfl,h1,h2⟩:=h;cases(show r=[]from h2);cases(show v=_ from h1)
  obtain⟨n,k1,k2,k3⟩:=k
  exact⟨n,k1,k2,L.val M k3 rfl⟩
 ·exact k.elim
end L2
namespace L2
open PySem PySem.Spec PyProof.Rows PyProof Builtin Builtin.Str
theorem strs_vals:∀ l:List (Str×Tok),Vals ((l.map (·.1)).map V.str) (strValues l)
 | []=>.nil
 | (x,t)::l=>.cons ⟨t,rfl⟩ (strs_vals l)
section
variable {X:Cx}
def rSplit0:V->List V->Hp->VK->Prop:=fun x vs H Q=>match x,vs with
 | .str z,[]=>z.length+2<=sizeLine/\∀ l,H l=none->Q (.ref l) (upd H l (.lst ((Txt.words z).map V.str)))
 | _,_=>False
theorem split0S:MtR X "str.split" rSplit0:=by
 intro pins s σ H x vs v us Q I rx rv h
 unfold rSplit0 at h
 split at h
 ·rename_i z
  obtain⟨t,rfl⟩:=rx
  cases rv
  obtain⟨hz,q⟩:=h
  have hw:=(StrLaws.sw_weight z).1
  have hn:=aD (StrLaws.len_le_wsum (spaceWords z (z.length+1))) hw
  have key:∀(l:List (Str×Tok)) (k:Nat),l.map (·.1)=Txt.words z->l.length<=sizeLine->EP X pins σ Q (.ref s.heap.objs.size) { s with heap:=s.heap.push { cls:=.type "list",data:=.seq (strValues l).toArray},toks:=k}:=fun l k e hl=>by
   have hv:=strs_vals l
   rw[e]at hv
   exact⟨.ref _,_,I.lnew (t':=k) hv (by rw[<- e,gxC,gxC];exact hl),rfl,q _ I.fresh⟩
  refine cN dc (cu _ _ _) cZ (F.args_str_split_1 _) (meets_str_split_space z t (by omega) (by omega)) ?_
  by_cases e:(spaceWords z (z.length+1)==[(0,z.length)])=true
  ·rw[aE e]
   exact key [(z,t)] s.toks (by unfold Txt.words;rw[aE e];rfl) (by show 1<=sizeLine;decide)
  ·rw[ai e,strsFrom_eq]
   refine key (numbered s.toks (wordsOf z)) _ (by unfold Txt.words;rw[ai e,numbered_texts]) ?_
   have:=bg List.length (numbered_texts s.toks (wordsOf z))
   rw[gxC]at this
   rw[this]
   unfold wordsOf
   rw[gxC];omega
 ·exact h.elim
end
def fSplit0 (m:Bool):DMt:=fun d ds μ K=>match d,ds with
 | .str z,[]=>z.length+2<=sizeLine/\nL m ((Txt.words z).map D.str) μ K
 | _,_=>False
theorem dall_strs {φ:List Addr}{H:Hp}:∀ ys:List Str,DAll φ H (ys.map D.str) (ys.map V.str)
 | []=>rfl
 | y::ys=>⟨_,_,rfl,rfl,dall_strs ys⟩
theorem so_split0 {Kf:PySem.W.Frag}{m:Bool}:SoMt Kf "str" rSplit0 (fSplit0 m):=fun φ H x vs d ds μ K Q M hx h k L=>by
 unfold fSplit0 at k
 split at k
 ·cases(show x=_ from hx)
  cases(show vs=[]from h)
  exact⟨k.1,fun l hl=>al_n L M (dall_strs _) k.2 hl⟩
 ·exact k.elim
end L2
namespace L2
open PySem PySem.Spec PyProof.Rows PyProof Builtin Builtin.Str
def PEp (X:Cx)(e:Expr)(t:TE):Prop :=
 ∀(pins:List (Addr×Obj)) (s:Shared) (σ:St) (H:Hp) (Q:VK),0<s.toks->Inv X pins σ H s->t σ H Q->wpAny (model X.prog X.w) X.A (eval e X.env) (EP X pins σ Q) X.xe s
theorem PE.pep {X:Cx}{e:Expr}{t:TE}(h:PE X e t):PEp X e t:=fun pins s σ H Q _ I q=>h pins s σ H Q I q
theorem thnp {α:Type}{t:Sem α}{Q Q':α->Shared->Prop}{M:Model}{A:Around}{E:Value->Shared->Prop}{s:Shared}(hn:0<s.toks)(h:wpAny M A t Q E s)(hQ:∀ a s,0<s.toks->Q a s->Q' a s):wpAny M A t Q' E s:=bz (any_toks 1 hn h) (fun a s h=>hQ a s h.2 h.1) fun _ _ x=>x.1
section
variable {X:Cx}
def tRepl (y z:Str)(to:TE):TE:=fun σ H Q=>to σ H fun v H1=>∃ x:Str,v=.str x/\x.length+(x.length+1)*z.length<=16777216/\Q (.str (Txt.replace x y z)) H1
theorem pep_replace {o:Expr}{to:TE}{y z:Str}{j1 j2:Nat}{p1 p2 apos cpos:Pos}(ho:PEp X o to)(hyz:(y==z)=false)
 (hbase:attributeBase o "replace" X.env (eval o X.env)=eval o X.env:=by rfl) (hline:(apos.endLine==cpos.line)=true:=by rfl)
 (hfew:((backTo cpos (starEach [.Constant (.str y) j1 p1,.Constant (.str z) j2 p2] X.env)).all (fun x=>!x.1)&&(backToKw cpos (keywordEach [] X.env)).all (fun x=>x.1.isSome)
   && decide (2+([]:List Keyword).length+(if([]:List Keyword).isEmpty then 0 else 1)<30))=true:=by rfl) :
 PEp X (.Call (.Attribute o "replace" apos) [.Constant (.str y) j1 p1,.Constant (.str z) j2 p2] [] cpos) (tRepl y z to):=by
 intro pins s σ H Q hn I h
 refine cX hbase hfew hline rfl (thnp hn (ho pins s σ H _ hn I h) fun v s1 hn1 hq1=>?_)
 obtain⟨x0,H1,I1,r1,x,e0,hb,q⟩:=hq1
 subst e0
 obtain⟨t,rfl⟩:=r1
 refine⟨"str", "str.replace",F.plainAttrs_str,F.slot_str_replace,F.type_str_replace,cu _ _ _,(fun a e=>by cases e),?_⟩
 refine bN rfl (cx ?_)
 show wpAny _ _ (spliced [(false,eval (.Constant (.str y) j1 p1) X.env),(false,eval (.Constant (.str z) j2 p2) X.env)]) _ _ _
 refine cm (cQ ?_)
 refine cm (cQ ?_)
 refine c4 ?_
 refine SC.replace (by show s1.toks≠0;omega) (by show s1.toks+1≠0;omega) (by show s1.toks≠s1.toks+1;omega) hyz hb fun t' k=>?_
 exact⟨.str _,H1,I1.tok _,⟨_,rfl⟩,q⟩
end
end L2
namespace L2
open PySem PySem.Spec PyProof.Rows PyProof Builtin Builtin.Str
section
variable {X:Cx}{a b:Expr}{ta tb:TE}{pos:Pos}{st:Stmt}{rest:List Stmt}{t u:TS}
def PEb (X:Cx)(e:Expr)(t:TE):Prop :=
 ∀(pins:List (Addr×Obj)) (s:Shared) (σ:St) (H:Hp) (Q:VK),Inv X pins σ H s->t σ H Q->wpAny (model X.prog X.w) X.A (eval e X.env) (fun v s'=>EP X pins σ Q v s'/\0<s'.toks) X.xe s
def PTb (X:Cx)(e:Expr)(t:TT):Prop :=
 ∀(pins:List (Addr×Obj)) (s:Shared) (σ:St) (H:Hp) (Q:Bool->Hp->Prop),Inv X pins σ H s->t σ H Q->wpAny (model X.prog X.w) X.A (isTrue e X.env (eval e X.env)) (fun v s'=>TP X pins σ Q v s'/\0<s'.toks) X.xe s
def PSb (X:Cx)(st:Stmt)(t:TS):Prop :=
 ∀(pins:List (Addr×Obj)) (s:Shared) (σ:St) (H:Hp) (D:Ends),Inv X pins σ H s->t D σ H->wpAny (model X.prog X.w) X.A (exec st X.env) (fun f s'=>SP X pins D f s'/\0<s'.toks) X.xe s
def PSp (X:Cx)(st:Stmt)(t:TS):Prop :=
 ∀(pins:List (Addr×Obj)) (s:Shared) (σ:St) (H:Hp) (D:Ends),0<s.toks->Inv X pins σ H s->t D σ H->wpAny (model X.prog X.w) X.A (exec st X.env) (SP X pins D) X.xe s
def PSsp (X:Cx)(st:List Stmt)(t:TS):Prop :=
 ∀(pins:List (Addr×Obj)) (s:Shared) (σ:St) (H:Hp) (D:Ends),0<s.toks->Inv X pins σ H s->t D σ H->wpAny (model X.prog X.w) X.A (execs st X.env) (SP X pins D) X.xe s
theorem peb_count {o:Expr}{to:TE}{y:Str}{j1:Nat}{p1 apos cpos:Pos}(ho:PE X o to)
 (hbase:attributeBase o "count" X.env (eval o X.env)=eval o X.env:=by rfl) (hline:(apos.endLine==cpos.line)=true:=by rfl)
 (hfew:((backTo cpos (starEach [.Constant (.str y) j1 p1] X.env)).all (fun x=>!x.1)&&(backToKw cpos (keywordEach [] X.env)).all (fun x=>x.1.isSome)
   && decide (1+([]:List Keyword).length+(if([]:List Keyword).isEmpty then 0 else 1)<30))=true:=by rfl) :
 PEb X (.Call (.Attribute o "count" apos) [.Constant (.str y) j1 p1] [] cpos) (fun σ H Q=>to σ H fun v H1=>∃ x:Str,v=.str x/\Q (.int (Txt.count x y)) H1):=by
 intro pins s σ H Q I h
 refine cX hbase hfew hline rfl (thn (ho pins s σ H _ I h) fun v s1 hq2=>?_)
 obtain⟨x0,H1,I1,r1,x,e0,q⟩:=hq2
 subst e0
 obtain⟨t,rfl⟩:=r1
 refine⟨"str", "str.count",F.plainAttrs_str,F.slot_str_count,F.type_str_count,cu _ _ _,(fun a e=>by cases e),?_⟩
 refine bN rfl (cx ?_)
 show wpAny _ _ (spliced [(false,eval (.Constant (.str y) j1 p1) X.env)]) _ _ _
 refine cm (cQ ?_)
 refine c4 ?_
 exact SC.count ⟨⟨.int _,H1,I1.tok _,⟨_,rfl⟩,q⟩,Nat.succ_pos _⟩
theorem ptb_cmp {op:CmpOp}{r:R2}(ho:OpR X (compareOp op) r)(ha:PEb X a ta)(hb:PE X b tb)(hm:behindInMarks op b=false):PTb X (.Compare a [op] [b] pos) (tTest (tOp r ta tb)):=by
 intro pins s σ H Q I h
 refine c7 (thn (ha pins s σ H _ I h) fun v s1 ⟨⟨x,H1,I1,r1,q1⟩,n1⟩=>thnp n1 (hb pins s1 σ H1 _ I1 q1) fun u s2 n2 ⟨y,H2,I2,r2,q2⟩ =>
  thnp n2 (ho pins s2 σ H2 x y v u _ I2 r1 r2 q2) fun c s3 n3 ⟨z,H3,I3,r3,k,e,q3⟩=>?_) hm
 subst e
 cases r3
 exact bx ⟨⟨H3,I3,q3⟩,n3⟩
theorem psb_if {c:Expr}{xs ys:List Stmt}{tc:TT}(hc:PTb X c tc)(ha:PSs X xs t)(hb:PSs X ys u):PSb X (.If c xs ys pos) (tIfS tc t u):=by
 intro pins s σ H D I h
 refine wpAny_If (thn (hc pins s σ H _ I h) fun d s1 ⟨⟨H1,I1,q1⟩,n1⟩=>?_)
 cases d with
 | true=>exact thnp n1 (ha pins s1 σ H1 D I1 q1) fun f s2 n2 q=>⟨q,n2⟩
 | false=>exact thnp n1 (hb pins s1 σ H1 D I1 q1) fun f s2 n2 q=>⟨q,n2⟩
theorem pss_consb (h1:PSb X st t)(h2:PSsp X rest u):PSs X (st::rest) (tSeq t u):=by
 intro pins s σ H D I h
 refine cz (thn (h1 pins s σ H { D with nx:=u D} I h) fun f s1 hq4=>?_)
 obtain⟨q,n1⟩:=hq4
 cases f with
 | next=>obtain⟨σ',H',I',q⟩:=q;exact h2 pins s1 σ' H' D n1 I' q
 | ret v=>exact q
 | brk=>exact q
 | cont=>exact q
theorem pssp_cons (h1:PSp X st t)(h2:PSs X rest u):PSsp X (st::rest) (tSeq t u):=by
 intro pins s σ H D hn I h
 refine cz (thn (h1 pins s σ H { D with nx:=u D} hn I h) fun f s1 q=>?_)
 cases f with
 | next=>obtain⟨σ',H',I',q⟩:=q;exact h2 pins s1 σ' H' D I' q
 | ret v=>exact q
 | brk=>exact q
 | cont=>exact q
theorem pep_bm0 {o:Expr}{to:TE}{name:Str}{apos cpos:Pos}{T id:String}{r:V->List V->Hp->VK->Prop}(pa:PlainAttrs T)(slot:Slot T name id)(hty:typeOf (.builtin id)=pure (.type "method_descriptor"))(hm:MtR X id r)(ho:PEp X o to)
 (hbase:attributeBase o name X.env (eval o X.env)=eval o X.env:=by rfl) (hline:(apos.endLine==cpos.line)=true:=by rfl):PEp X (.Call (.Attribute o name apos) [] [] cpos) (tBM0 X.K T r to):=by
 intro pins s σ H Q hn I h
 refine wpAny_Call_method0_late hbase hline (thn (ho pins s σ H _ hn I h) fun v s1 hq5=>?_)
 obtain⟨x,H1,I1,r1,ty,q1⟩:=hq5
 obtain⟨h1,h2⟩:=tyV_is I1 r1 ty
 exact⟨T,id,pa,slot,hty,h1,h2,bN rfl (PySem.evalArgs_none (hm pins s1 σ H1 x [] v [] Q I1 r1 .nil q1))⟩
end
end L2
namespace L2
open PySem PySem.Spec PyProof.Rows PyProof Builtin Builtin.Str
section
variable {X:Cx}{e:Expr}{es:List Expr}{pos:Pos}
def dFmt (w:De):De:=fun ρ μ K=>w ρ μ fun d μ1=>match d with
 | .str y=>y.length<=sizeLine/\K (.str y) μ1
 | .int i=>i.natAbs<100000000/\K (.str (toString i)) μ1
 | _=>False
theorem d_fmt {w:De}(h:PD X e w):PD X (.FormattedValue e (-1) none pos) (dFmt w):=by
 intro pins s σ H Q I q
 obtain⟨φ,ρ,μ,K,E,M,k,L⟩:=q
 refine FormattedValue_plain (thn (h pins s σ H (fun v H1=>match v with | .str y=>y.length<=sizeLine/\Q (.str y) H1 | .int i=>i.natAbs<100000000/\Q (.str (toString i)) H1 | _=>False) I ⟨φ,ρ,μ,_,E,M,k,fun d μ1 φ1 v H1 k1 f1 M1 i1=>?_⟩) fun u s1 ⟨v,H1,I1,r1,q1⟩=>?_)
 ·cases d with
  | str y=>cases(show v=_ from i1);exact⟨k1.1,L _ μ1 φ1 _ H1 k1.2 f1 M1 rfl⟩
  | int y=>cases(show v=_ from i1);exact⟨k1.1,L _ μ1 φ1 _ H1 k1.2 f1 M1 rfl⟩
  | _=>exact k1.elim
 ·cases v with
  | str y =>
   obtain⟨t,rfl⟩:=r1
   exact formatField_str (fun t' tk=>⟨.str y,H1,I1.tok _,⟨_,rfl⟩,q1.2⟩) q1.1
  | int i =>
   obtain⟨t,rfl⟩:=r1
   have hz:i.natAbs.log2<1920:=by
    refine bA (m:=(100000000:Nat).log2) ?_ (by decide +kernel)
    by_cases e:i.natAbs=0
    ·rw[e];decide +kernel
    ·rw[Nat.le_log2 (by decide)]
     exact aD (Nat.log2_self_le e) (Nat.le_of_lt q1.1)
   exact formatField_int_small hz ⟨.str _,H1,I1.tok _,⟨_,rfl⟩,q1.2⟩
  | _=>exact q1.elim
def PDJ (X:Cx)(es:List Expr)(w:Str->De):Prop :=
 ∀(out:Str) (pins:List (Addr×Obj)) (s:Shared) (σ:St) (H:Hp) (Q:VK),Inv X pins σ H s->tD (w out) σ H Q->wpAny (model X.prog X.w) X.A (joinParts out (evalEach es X.env)) (EP X pins σ Q) X.xe s
def dJnil:Str->De:=fun out ρ μ K=>out.length<=sizeLine/\K (.str out) μ
def dJcons (w:De)(r:Str->De):Str->De:=fun out ρ μ K=>w ρ μ fun d μ1=>match d with
 | .str y=>(out++y).length<=sizeLine/\r (out++y) ρ μ1 K
 | _=>False
theorem dj_nil:PDJ X [] dJnil:=fun out pins s σ H Q I hq0=>by obtain⟨φ,ρ,μ,K,E,M,k,L⟩:=hq0;exact joinParts_nil ⟨.str _,H,I.tok _,⟨_,rfl⟩,L _ μ φ _ H k.2 (.refl _ _) M rfl⟩ k.1
theorem dj_cons {w:De}{r:Str->De}(h:PD X e w)(hr:PDJ X es r):PDJ X (e::es) (dJcons w r):=by
 intro out pins s σ H Q I q
 obtain⟨φ,ρ,μ,K,E,M,k,L⟩:=q
 refine joinParts_cons (rest:=evalEach es X.env) (thn (h pins s σ H (fun v H1=>∃ y:Str,v=.str y/\(out++y).length<=sizeLine/\tD (r (out++y)) σ H1 Q) I ⟨φ,ρ,μ,_,E,M,k,fun d μ1 φ1 v H1 k1 f1 M1 i1=>?_⟩) fun u s1 ⟨v,H1,I1,r1,y,e,hz,q1⟩=>?_)
 ·cases d with
  | str y=>cases(show v=_ from i1);exact⟨y,rfl,k1.1,φ1,ρ,μ1,K,E.mono f1,M1,k1.2,L.mono f1⟩
  | _=>exact k1.elim
 ·subst e
  obtain⟨t,rfl⟩:=r1
  exact⟨hz,hr _ pins s1 σ H1 Q I1 q1⟩
def dJoin (w:Str->De):De:=w Str.empty
theorem d_joined {e2:Expr}{w:Str->De}(h:PDJ X (e::e2::es) w):PD X (.JoinedStr (e::e2::es) pos) (dJoin w):=fun pins s σ H Q I q=>JoinedStr_many (h _ pins s σ H Q I q)
end
end L2
namespace L2
open PySem PySem.Spec PyProof.Rows PyProof
theorem bounds_neg {k n:Nat}(h0:0<k)(hk:k<=n):sliceBounds (some (-(k:Int))) none none n=((n:Int) - k,(n:Int),1):=by
 simp only[sliceBounds,Option.getD_none]
 have h1:(-(k:Int))<0:=by omega
 simp only[h1,if_true,show(1:Int)>0 by decide]
 congr 1
 ·omega
theorem cut_tl {α:Type}{f:α×Nat->Option α}{m n:Nat}(hf:∀ p:α×Nat,p.2<n->f p=if m<=p.2 then none else some p.1):∀(xs:List α) (i:Nat),i+xs.length=n->(xs.zipIdx i).filterMap f=xs.take (m - i)
 | [],i,_=>by simp
 | x::xs,i,h=>by
  have hl:i+(xs.length+1)=n:=h
  have ih:=cut_tl hf xs (i+1) (by omega)
  rw[List.zipIdx_cons,cF,hf (x,i) (by show i<n;omega)]
  show(match (if m<=i then none else some x)with | none=>_ | some b=>_)=_
  by_cases q:m<=i
  ·rw[aE q]
   show List.filterMap f _=_
   rw[ih,show m - (i+1)=0 by omega,show m - i=0 by omega];rfl
  ·rw[ai q]
   show x::List.filterMap f _=_
   rw[ih,show m - i=(m - (i+1))+1 by omega];rfl
section
variable {prog:Program}{w:World}{A:Around}{E:Value->Shared->Prop}{s:Shared}
theorem delItem_tail {l sl:Addr}{its:List Value}{n k:Nat}{vl:Value}{Q:Unit->Shared->Prop}
 (e:s.heap.get? l=some { cls:=.type "list",data:=.seq its.toArray n}) (hs:s.heap.IsSliceOf sl vl .none .none) (pl:IsPart vl (some (-(k:Int)))) (h0:0<k) (hk:k<=its.length) (hsz:its.length<=sizeLine)
 (h:∀ f:Array Value->Array Value,f its.toArray=(its.take (its.length - k)).toArray->Q () { s with heap:=s.heap.update l (Obj.mapSeq f)}) :
 wpAny (model prog w) A (delItem (.ref l) (.ref sl)) Q E s:=by
 have hl:s.heap.IsList l its.toArray:=PySem.IsL.isList e
 obtain⟨os,hos,hcs,hds⟩:=id hs
 have hTs:s.TypeIs (.ref sl) "slice":=⟨os,hos,hcs⟩
 have hstep:¬ ((rawPart none==rawInt 0)=true):=ag
 refine wpAny_delItem_slot hl.typeIs (by decide) F.slot_list_delitem (bZ F.slot_list_delitem hl.typeIs F.entry_list_delitem ?_ (F.args_list_delitem_2 _ _))
 show wpAny _ _ (Builtin.List.listSubscript? (.ref sl) >>= _) _ _ s
 refine gxM ?_
 unfold Builtin.List.listSubscript?
 refine gxM (wpAny_specialOf hTs slice_no_index ?_)
 simp only[Option.isNone_none,if_true]
 refine ao ?_
 show wpAny _ _ (typeOf (.ref sl) >>= _) _ _ s
 refine gxM (wpAny_typeOf hTs ?_)
 refine PySem.W.KFB.if_not (by decide) ?_
 rw[listSliceParts_eq]
 refine gxM (gxM (aU hos hds (x:=.none) rfl (gxM (wpAny_listPart .none ?_))))
 rw[ai hstep]
 refine gxM (aU hos hds (x:=vl) rfl (gxM (wpAny_listPart pl ?_)))
 refine gxM (aU hos hds (x:=.none) rfl (gxM (wpAny_listPart .none (ao ?_))))
 unfold Builtin.List.listItems
 refine gxM (gxM (bO e rfl (ao ?_)))
 have sz:its.toArray.size=its.length:=af
 have bn:=bounds_neg (n:=its.toArray.size) h0 (by omega)
 refine gxM (wpAny_of_eq ((sliceIndices_raw (some (-(k:Int))) none none its.toArray.size (by simp)).trans (bg (pure:Int×Int×Int->Sem (Int×Int×Int)) bn)) ?_)
 refine gxM (wpAny_rule ?_)
 have key:∀ g:Value×Nat->Option Value,(∀ p:Value×Nat,p.2<its.length->g p=if its.length - k<=p.2 then none else some p.1)->(its.toArray.toList.zipIdx.filterMap g).toArray=(its.take (its.length - k)).toArray:=fun g hg=>by
  rw[show its.toArray.toList=its from rfl,cut_tl hg its 0 (by omega),Nat.sub_zero]
 obtain⟨f,hf⟩:∃ f:Array Value->Array Value,f=fun xs=>(xs.toList.zipIdx.filterMap fun(x,j)=>if((decide ((its.toArray.size:Int) - k<=j)&&decide ((j:Int)<its.toArray.size)&&(((j:Int) - ((its.toArray.size:Int) - k))%1==0))=true)then none else some x).toArray:=⟨_,rfl⟩
 have fv:f its.toArray=(its.take (its.length - k)).toArray:=by
  rw[hf]
  refine key _ fun p hp=>?_
  dsimp only
  have e1:((p.2:Int) - ((its.toArray.size:Int) - k))%1=0:=by omega
  rw[e1,au (show(p.2:Int)<its.toArray.size by omega)]
  by_cases q:its.length - k<=p.2
  ·rw[aE q,au (by omega)];rfl
  ·rw[ai q,ak (by omega)];rfl
 show wpAny _ _ (updateSeq l (fun xs=>(xs.toList.zipIdx.filterMap fun(x,j)=>if((decide ((its.toArray.size:Int) - k<=j)&&decide ((j:Int)<its.toArray.size)&&(((j:Int) - ((its.toArray.size:Int) - k))%1==0))=true)then none else some x).toArray) >>= _) _ _ s
 rw[<- hf]
 refine gxM (wpAny_updateSeq (hz:=by omega) (_hz':=by rw[fv,af,a9];omega) e rfl ?_)
 refine gxM (wpAny_letGo ?_)
 exact ao ⟨.none,rfl,h f fv⟩
end
section
variable {X:Cx}{o lo:Expr}{pos:Pos}
def sDelE (to tl:TE):TS:=fun D σ H=>to σ H fun x H2=>tl σ H2 fun i H3=>∃(l:Addr) (xs:List V) (k:Nat),x=.ref l/\i=.int (-(k:Int))/\H3 l=some (.lst xs)/\0<k/\k<=xs.length/\D.nx σ (upd H3 l (.lst (xs.take (xs.length - k))))
theorem ps_delE {to tl:TE}{p pos':Pos}(ho:PE X o to)(hl:PE X lo tl):PS X (.Delete [.Subscript o (.Slice (some lo) none none p) pos'] pos) (sDelE to tl):=by
 intro pins s σ H D I h
 refine wpAny_Delete (wpAny_deleteEach_cons (wpAny_delete_Subscript (thn (ho pins s σ H _ I h) fun u s2 hq2=>?_)))
 obtain⟨x,H2,I2,rx,q2⟩:=hq2
 refine wpAny_Slice (thn (hl pins s2 σ H2 _ I2 q2) fun iv s3 hq3=>?_)
 obtain⟨i,H3,I3,ri,l,xs,k,ex,ei,hH,h0,hk,q⟩:=hq3
 subst ex ei
 cases rx
 obtain⟨t,rfl⟩:=ri
 refine ao (ao ?_)
 have I4:Inv X pins σ H3 { s3 with heap:=s3.heap.push { cls:=.type "slice",data:=.fields #[.int (-(k:Int)) t,.none,.none]}}:=I3.kept (t':=s3.toks) fun b o e=>gxL _ e
 obtain⟨z,its,n,r,hl,e⟩:=I4.lstM hH
 refine delItem_tail (sl:=s3.heap.objs.size) (vl:=.int (-(k:Int)) t) e ⟨_,aj _ rfl,rfl,rfl⟩ (.int _ _) h0 (by omega) (by omega) fun f hf=>?_
 have I5:=I4.lset (its':=its.take (its.length - k)) (ys:=xs.take (xs.length - k)) (t':=s3.toks) hH e (f:=f) hf (by rw[hl];exact r.take _) (by rw[a9];omega)
 exact wpAny_deleteEach_nil ⟨σ,_,I5,q⟩
def dDelE (wo wl:De):Ds:=fun N ρ μ=>wo ρ μ fun x μ2=>wl ρ μ2 fun i μ3=>match x,i with
 | .mr j,.int z=>∃(xs:List D) (k:Nat),lvM μ3 j=some xs/\z = -(k:Int)/\0<k/\k<=xs.length/\N.nx ρ (μ3.set j (.lst (xs.take (xs.length - k))))
 | _,_=>False
theorem s_delE {wo wl:De}{p pos':Pos}(ho:PD X o wo)(hl:PD X lo wl):PDS X (.Delete [.Subscript o (.Slice (some lo) none none p) pos'] pos) (dDelE wo wl):=(ps_delE ho hl).imp fun E σ H hq=>by
 obtain⟨φ,ρ,μ,N,A,M,w,L⟩:=hq
 refine⟨φ,ρ,μ,_,A,M,w,fun d2 μ2 φ2 v2 H2 k2 f2 M2 i2=>?_⟩
 refine⟨φ2,ρ,μ2,_,A.mono f2,M2,k2,fun d3 μ3 φ3 v3 H3 k3 f3 M3 i3=>?_⟩
 split at k3
 ·rename_i j z
  obtain⟨xs,k,ex,ez,h0,hk,k3⟩:=k3
  cases(show v3=_ from i3)
  obtain⟨p,hp,rfl⟩:=i2.mono f3
  obtain⟨p',e1,vs,hv,ha⟩:=M3.at_ j _ (lvM_eq ex)
  rw[hp]at e1;cases e1
  have f4:Fr φ3 H3 φ3 (upd H3 p (.lst (vs.take (vs.length - k)))):=.put (gxD hp)
  have M4:=M3.put (k:=j) (p:=p) (o:=.lst (vs.take (vs.length - k))) (m:=.lst (xs.take (xs.length - k))) hp ⟨_,upd_same,(by rw[show xs.length - k=vs.length - k by rw[ha.len]];exact(ha.take _).mono f4)⟩
  exact⟨p,vs,k,rfl,by rw[ez],hv,h0,by rw[ha.len];exact hk,L.nx ρ _ φ3 σ _ k3 ((f2.trans f3).trans f4) (A.mono ((f2.trans f3).trans f4)) M4⟩
 ·exact k3.elim
end
end L2
namespace L2
open PySem PySem.Spec PyProof.Rows PyProof
section
variable {prog:Program}{w:World}{A:Around}{E:Value->Shared->Prop}
theorem draw_lst {it l:Addr}{its:List Value}(ne:l≠it):∀(m i:Nat) (s:Shared) (Q:List Value->Shared->Prop),s.heap.IsListIter it l i->s.heap.IsList l its.toArray->i+m=its.length ->
 (∀ h',h'.IsListIter it l its.length->h'.IsList l its.toArray->(∀ b o,b≠it->s.heap.get? b=some o->h'.get? b=some o)->Q (its.drop i) { s with heap:=h'})->wpAny (model prog w) A (draw (.ref it) m) Q E s:=by
 intro m
 induction m with
 | zero =>
  intro i s Q hi hl he hQ
  have:i=its.length:=by omega
  subst this
  refine ao ?_
  have:=hQ s.heap hi hl fun _ _ _ e=>e
  rwa [List.drop_length]at this
 | succ m ih =>
  intro i s Q hi hl he hQ
  have hlt:i<its.length:=by omega
  refine gxM (wpAny_pyNext_list_item hi hl (x:=its[i]) (by simp[hlt]) fun h1 hi1 sb=>?_)
  have hl1:h1.IsList l its.toArray:=by
   obtain⟨o,ho,r⟩:=hl
   exact⟨o,sb.extBut l o ne ho,r⟩
  refine gxM (bh (ih (i+1) { s with heap:=h1} _ hi1 hl1 (by omega) fun h2 hi2 hl2 k2=>ao ?_))
  have:=hQ h2 hi2 hl2 fun b o hb e=>k2 b o hb (sb.extBut b o hb e)
  rwa [cD hlt]at this
theorem unpack_lst {l:Addr}{its:List Value}{targets:List (Bool×(Value->Sem Unit))}{Q:Unit->Shared->Prop}{s:Shared}(hh:A.handled=none)(hl:s.heap.IsList l its.toArray)
 (hn:targets.length=its.length) (hstar:targets.findIdx? (·.1)=none)
 (h:∀ h',(∀ b o,s.heap.get? b=some o->h'.get? b=some o)->wpAny (model prog w) A (assignInOrder (targets.map (·.2)) its) Q E { s with heap:=h'}) :
 wpAny (model prog w) A (unpack (.ref l) targets) Q E s:=by
 have hlt:l<s.heap.objs.size:=by obtain⟨o,ho,_⟩:=hl;exact gxN ho
 have ne:l≠s.heap.objs.size:=aF hlt
 unfold unpack
 rw[hn,hstar]
 refine gxM (bh ?_)
 unfold unpackItems
 refine gxM ?_
 unfold notIterableAtAll
 refine gxM (wpAny_specialOf hl.typeIs slot_list_iter.lookup (ao ?_))
 refine PySem.W.KFB.if_not (by decide) ?_
 refine gxM (bh (wpAny_pyIter_list hl ?_))
 have hl1:(s.heap.push { cls:=.type "list_iterator",data:=.fields #[.ref l,.int 0 0]}).IsList l its.toArray:=by
  obtain⟨o,ho,r⟩:=hl
  exact⟨o,gxL _ ho,r⟩
 refine gxM (bh (draw_lst ne its.length 0 _ _ ⟨_,aj _ rfl,rfl,rfl⟩ hl1 (by omega) fun h1 hi1 hl2 k1=>?_))
 rw[List.drop_zero,ai (bo _)]
 refine gxM (bh (wpAny_pyNext_list_end hh hi1 hl2 (by simp) fun h2 x2=>?_))
 refine PySem.W.KFB.if_not (by simp) ?_
 refine ao ?_
 exact h h2 fun b o e=>x2 b o (aF (gxN e)) (k1 b o (aF (gxN e)) (gxL _ e))
end
section
variable {X:Cx}{pos:Pos}
def cLst (n:Nat)(t:TGs):TG:=fun v σ H Q=>∃(a:Addr) (xs:List V),v=.ref a/\H a=some (.lst xs)/\xs.length=n/\t xs σ H Q
theorem pg_lst {es:List Expr}{k:Nat}{t:TGs}{n:Nat}(hc:X.calm=true)(h:PGs X es t)
 (hn:(assignEach es X.env).length=n:=by rfl) (hst:(assignEach es X.env).findIdx? (·.1)=none:=by rfl):PG X (.Tuple es k pos) (cLst n t):=by
 intro pins s σ H v u Q I r hw
 obtain⟨a,xs,e1,hq,hl,hw⟩:=hw
 subst e1
 cases r
 obtain⟨z,its,n',rv,ln,e⟩:=I.lstM hq
 rw[assign_Tuple]
 refine gxM (wpAny_standAt (unpack_lst (I.ok.hd hc) (PySem.IsL.isList e) (by omega) hst fun h' hx=>?_))
 exact h pins _ σ H xs _ Q (I.kept (t':=s.toks) hx) rv hw
theorem mo_lst {n:Nat}{u:TGs}(h2:MonoGs u):MonoG (cLst n u):=fun v σ H Q Q' h hq4=>by obtain⟨a,xs,e1,e2,l,q⟩:=hq4;exact⟨a,xs,e1,e2,l,h2 _ _ _ _ _ h q⟩
def dgLst (n:Nat)(t:DGs):DG:=fun d ρ μ K=>match d with | .lst ds=>ds.length=n/\t ds ρ μ K | _=>False
theorem so_lst {n:Nat}{u:TGs}{y:DGs}{S:List Nat}(h2:SoGs u y S):SoG (cLst n u) (dgLst n y) S:=fun φ H ρ σ μ d v K E M h k=>by
 cases d with
 | lst ds =>
  obtain⟨p,vs,rfl,hn,hp,ha⟩:=h
  exact⟨p,vs,rfl,hp,by rw[ha.len];exact k.1,h2 φ H ρ σ μ ds vs K E M ha k.2⟩
 | _=>exact k.elim
end
end L2
namespace L2
open PySem PySem.Spec PyProof.Rows PyProof Builtin Builtin.Str
section
variable {X:Cx}{e:Expr}{pos:Pos}{st:Stmt}{rest:List Stmt}
theorem PEp.imp {t t':TE}(h:PEp X e t)(hi:∀ σ H Q,t' σ H Q->t σ H Q):PEp X e t':=fun pins s σ H Q hn I q=>h pins s σ H Q hn I (hi σ H Q q)
theorem PEb.imp {t t':TE}(h:PEb X e t)(hi:∀ σ H Q,t' σ H Q->t σ H Q):PEb X e t':=fun pins s σ H Q I q=>h pins s σ H Q I (hi σ H Q q)
theorem PTb.imp {t t':TT}(h:PTb X e t)(hi:∀ σ H Q,t' σ H Q->t σ H Q):PTb X e t':=fun pins s σ H Q I q=>h pins s σ H Q I (hi σ H Q q)
theorem PSb.imp {t t':TS}(h:PSb X st t)(hi:∀ D σ H,t' D σ H->t D σ H):PSb X st t':=fun pins s σ H D I q=>h pins s σ H D I (hi D σ H q)
def dRepl (y z:Str)(w:De):De:=fun ρ μ K=>w ρ μ fun d μ1=>match d with
 | .str x=>x.length+(x.length+1)*z.length<=16777216/\K (.str (Txt.replace x y z)) μ1
 | _=>False
theorem dp_replace {o:Expr}{w:De}{y z:Str}{j1 j2:Nat}{p1 p2 apos cpos:Pos}(ho:PEp X o (tD w))(hyz:(y==z)=false)
 (hbase:attributeBase o "replace" X.env (eval o X.env)=eval o X.env:=by rfl) (hline:(apos.endLine==cpos.line)=true:=by rfl)
 (hfew:((backTo cpos (starEach [.Constant (.str y) j1 p1,.Constant (.str z) j2 p2] X.env)).all (fun x=>!x.1)&&(backToKw cpos (keywordEach [] X.env)).all (fun x=>x.1.isSome)
   && decide (2+([]:List Keyword).length+(if([]:List Keyword).isEmpty then 0 else 1)<30))=true:=by rfl) :
 PEp X (.Call (.Attribute o "replace" apos) [.Constant (.str y) j1 p1,.Constant (.str z) j2 p2] [] cpos) (tD (dRepl y z w)):=(pep_replace ho hyz hbase hline hfew).imp fun σ H Q ⟨φ,ρ,μ,K,E,M,k,L⟩ =>
 ⟨φ,ρ,μ,_,E,M,k,fun d μ1 φ1 v H1 k1 f1 M1 i1=>by
  cases d with
  | str x=>cases(show v=_ from i1);exact⟨x,rfl,k1.1,L _ μ1 φ1 _ H1 k1.2 f1 M1 rfl⟩
  | _=>exact k1.elim⟩
theorem dp_mt0 {o:Expr}{name:Str}{apos cpos:Pos}{T id:String}{r:V->List V->Hp->VK->Prop}{f:DMt}{wo:De}(pa:PlainAttrs T)(slot:Slot T name id)(hty:typeOf (.builtin id)=pure (.type "method_descriptor"))(hm:MtR X id r)(so:SoMt X.K T r f)(ho:PEp X o (tD wo))
 (hbase:attributeBase o name X.env (eval o X.env)=eval o X.env:=by rfl) (hline:(apos.endLine==cpos.line)=true:=by rfl):PEp X (.Call (.Attribute o name apos) [] [] cpos) (tD (dMt T f wo dNil)):=(pep_bm0 pa slot hty hm ho hbase hline).imp fun σ H Q q=>by
 obtain⟨φ,ρ,μ,K,E,M,w,L⟩:=q
 exact⟨φ,ρ,μ,_,E,M,w,fun d1 μ1 φ1 v1 H1 k1 f1 M1 i1=>⟨TyD.is M1 i1 k1.1,so φ1 H1 v1 [] d1 [] μ1 K Q M1 i1 rfl k1.2 (L.mono f1)⟩⟩
theorem sp_set {i:Nat}{x:Str}{w:De}{pos':Pos}(hN:X.N.Nodup)(hi:X.N[i]?=some x)(hx:Loc X.env.scope x)(he:PEp X e (tD w))(hf:X.fn x=true\/X.env.scope.names.lookup x=some .local)
 (hsw:swapsWith e (some (.Name x pos')) pos.line X.env=pure false:=by rfl):PSp X (.Assign [.Name x pos'] e pos) (tDS (dSet i w)):=by
 intro pins s σ H D hn I h
 obtain⟨φ,ρ,μ,N,A,M,k1,L⟩:=h
 refine wpAny_Assign_Name (thn (he pins s σ H (fun v H1=>D.nx (σ.set i (some v)) H1) hn I ⟨φ,ρ,μ,_,A,M,k1,fun d μ1 φ1 v1 H1 k2 f1 M1 i1=>L.nx _ μ1 φ1 _ H1 k2 f1 ((A.mono f1).set i1 i) M1⟩) fun v s1 hq5=>?_) hsw
 obtain⟨y,H1,I1,r1,q1⟩:=hq5
 exact store_ok I1 hN hi hx r1 (fun s2 I2=>⟨_,H1,I2,q1⟩) hf
def dCnt (y:Str)(w:De):De:=fun ρ μ K=>w ρ μ fun d μ1=>match d with
 | .str x=>K (.int (Txt.count x y)) μ1
 | _=>False
theorem db_count {o:Expr}{w:De}{y:Str}{j1:Nat}{p1 apos cpos:Pos}(ho:PD X o w)
 (hbase:attributeBase o "count" X.env (eval o X.env)=eval o X.env:=by rfl) (hline:(apos.endLine==cpos.line)=true:=by rfl)
 (hfew:((backTo cpos (starEach [.Constant (.str y) j1 p1] X.env)).all (fun x=>!x.1)&&(backToKw cpos (keywordEach [] X.env)).all (fun x=>x.1.isSome)
   && decide (1+([]:List Keyword).length+(if([]:List Keyword).isEmpty then 0 else 1)<30))=true:=by rfl) :
 PEb X (.Call (.Attribute o "count" apos) [.Constant (.str y) j1 p1] [] cpos) (tD (dCnt y w)):=(peb_count ho hbase hline hfew).imp fun σ H Q ⟨φ,ρ,μ,K,E,M,k,L⟩ =>
 ⟨φ,ρ,μ,_,E,M,k,fun d μ1 φ1 v H1 k1 f1 M1 i1=>by
  cases d with
  | str x=>cases(show v=_ from i1);exact⟨x,rfl,L _ μ1 φ1 _ H1 k1 f1 M1 rfl⟩
  | _=>exact k1.elim⟩
theorem tb_cmp {a b:Expr}{op:CmpOp}{r:R2}{ro:DOp}{wa wb:De}(h:OpR X (compareOp op) r)(so:SoOp r ro)(ha:PEb X a (tD wa))(hb:PD X b wb)(hm:behindInMarks op b=false):PTb X (.Compare a [op] [b] pos) (tDT (dTst (dOp ro wa wb))):=(ptb_cmp h ha hb hm).imp fun σ H Q q=>by
 obtain⟨φ,ρ,μ,K,E,M,k,L⟩:=q
 refine tD_op so ⟨φ,ρ,μ,_,E,M,k,fun d μ' φ' v H' k' f M' i=>?_⟩
 cases d with
 | bl c=>exact⟨c,i,L c μ' φ' H' k' f M'⟩
 | _=>exact k'.elim
theorem sb_if {c:Expr}{body orelse:List Stmt}{t:Dt}{u v:Ds}(hc:PTb X c (tDT t))(h1:PDB X body u)(h2:PDB X orelse v):PSb X (.If c body orelse pos) (tDS (dIfS t u v)):=(psb_if hc h1 h2).imp fun E σ H ⟨φ,ρ,μ,N,A,M,w,L⟩ =>
 ⟨φ,ρ,μ,_,A,M,w,fun b μ1 φ1 H1 k1 f1 M1=>by
  cases b with
  | true=>exact⟨φ1,ρ,μ1,N,A.mono f1,M1,k1,L.mono f1⟩
  | false=>exact⟨φ1,ρ,μ1,N,A.mono f1,M1,k1,L.mono f1⟩⟩
theorem bp_cons {t u:Ds}(h1:PSp X st (tDS t))(h2:PDB X rest u):PSsp X (st::rest) (tDS (dSeq t u)):=fun pins s σ H D hn I ⟨φ,ρ,μ,N,A,M,w,L⟩ =>
 pssp_cons h1 h2 pins s σ H D hn I ⟨φ,ρ,μ,_,A,M,w,⟨fun ρ' μ' φ' σ' H' k f A' M'=>⟨φ',ρ',μ',N,A',M',k,L.mono f⟩,L.rt,L.bk,L.ct⟩⟩
theorem bb_cons {t u:Ds}(h1:PSb X st (tDS t))(h2:PSsp X rest (tDS u)):PDB X (st::rest) (dSeq t u):=(pss_consb h1 h2).imp fun E σ H ⟨φ,ρ,μ,N,A,M,w,L⟩ =>
 ⟨φ,ρ,μ,_,A,M,w,⟨fun ρ' μ' φ' σ' H' k f A' M'=>⟨φ',ρ',μ',N,A',M',k,L.mono f⟩,L.rt,L.bk,L.ct⟩⟩
end
end L2
namespace L2
open PySem PySem.Spec PyProof.Rows PyProof
section
variable {X:Cx}
def rEqT (neg:Bool):R2:=fun x y H Q=>∃ z:Str,y=.str z/\((∃ a:Str,x=.str a/\Q (.bl (neg != decide (a=z))) H)\/(∃ i:Int,x=.int i/\Q (.bl neg) H)\/∃(p:Addr) (vs:List V),x=.ref p/\H p=some (.tup vs)/\Q (.bl neg) H)
theorem beq_dec (a z:Str):(a==z)=decide (a=z):=by
 by_cases h:a=z
 ·rw[au h,h];exact beq_self_eq_true z
 ·rw[ak h];exact beq_eq_false_iff_ne.mpr h
theorem eqTx (hu0:X.A.units+1<cLine):OpR X (compareOp .Eq) (rEqT false):=by
 intro pins s σ H x y u v Q I rx ry h
 have hu:X.A.units<cLine:=by omega
 obtain⟨z,rfl,h⟩:=h
 obtain⟨tz,rfl⟩:=ry
 rcases h with⟨a,rfl,q⟩ | ⟨i,rfl,q⟩ | ⟨p,vs,rfl,hp,q⟩
 ·obtain⟨t,rfl⟩:=rx
  refine SeqAt.RcAt.str_str a t z tz X.prog X.w X.xe _ ?_
  rw[beq_dec]
  exact⟨.bl _,H,I,rfl,by simpa using q⟩
 ·obtain⟨t,rfl⟩:=rx
  exact SeqAt.RcAt.int_str i t z tz X.prog X.w X.xe _ ⟨.bl _,H,I,rfl,q⟩
 ·cases rx
  obtain⟨its,rv,ht,hz⟩:=I.tuple (SqT.of hp)
  exact SeqAt.RcAt.tuple_str z tz ht hu X.prog X.w X.xe _ ⟨.bl _,H,I,rfl,q⟩
theorem neTx (hu0:X.A.units+1<cLine):OpR X (compareOp .NotEq) (rEqT true):=by
 intro pins s σ H x y u v Q I rx ry h
 have hu:X.A.units<cLine:=by omega
 obtain⟨z,rfl,h⟩:=h
 obtain⟨tz,rfl⟩:=ry
 rcases h with⟨a,rfl,q⟩ | ⟨i,rfl,q⟩ | ⟨p,vs,rfl,hp,q⟩
 ·obtain⟨t,rfl⟩:=rx
  refine SeqAt.RcNeAt.str_str a t z tz X.prog X.w X.xe _ ?_
  exact⟨.bl _,H,I,rfl,by rw[<- beq_dec]at q;simpa using q⟩
 ·obtain⟨t,rfl⟩:=rx
  exact SeqAt.RcNeAt.int_str i t z tz X.prog X.w X.xe _ ⟨.bl _,H,I,rfl,q⟩
 ·cases rx
  obtain⟨its,rv,ht,hz⟩:=I.tuple (SqT.of hp)
  exact SeqAt.RcNeAt.tuple_str z tz ht hu X.prog X.w X.xe _ ⟨.bl _,H,I,rfl,q⟩
end
def dEqT (neg:Bool):DOp:=fun d e μ K=>match d,e with
 | .str a,.str z=>K (.bl (neg != decide (a=z))) μ
 | .int _,.str _=>K (.bl neg) μ
 | .tup _,.str _=>K (.bl neg) μ
 | _,_=>False
theorem so_eqT {neg:Bool}:SoOp (rEqT neg) (dEqT neg):=fun φ H x y d e μ K Q M hx hy k L=>by
 unfold dEqT at k
 split at k
 ·cases(show x=_ from hx);cases(show y=_ from hy);exact⟨_,rfl,.inl ⟨_,rfl,L.val M k rfl⟩⟩
 ·cases(show x=_ from hx);cases(show y=_ from hy);exact⟨_,rfl,.inr (.inl ⟨_,rfl,L.val M k rfl⟩)⟩
 ·obtain⟨p,vs,rfl,hn,hp,ha⟩:=hx;cases(show y=_ from hy);exact⟨_,rfl,.inr (.inr ⟨p,vs,rfl,hp,L.val M k rfl⟩)⟩
 ·exact k.elim
end L2
namespace L2
open PySem PySem.Spec PyProof.Rows PyProof
def mkT:Mak->Str
 | .num n=>toString n
 | .tri p l r=>(((("(" : Str)++mkT l)++(" " : Str))++(toString p:Str))++(" " : Str)++mkT r++(")" : Str)
def mkW:Mak->List Str
 | .num n=>[(toString n:Str)]
 | .tri p l r=>[("(" : Str)]++mkW l++[(toString p:Str)]++mkW r++[(")" : Str)]
def Mak.sm:Mak->Prop
 | .num n=>0<=n/\n<10000
 | .tri p l r=>0<=p/\p<10000/\l.sm/\r.sm
def fMakeText:DSp:=fun ds μ K=>match ds with
 | [d]=>∃ t:Mak,d=mkD t/\t.cnt<=1000/\t.sm/\K (.str (mkT t)) μ
 | _=>False
def fTextL (n:Nat):DSp:=fun ds μ K=>match ds with
 | [d]=>∃ t:Mak,d=mkD t/\t.dep<=n/\t.cnt<=100/\t.sm/\K (.str (mkT t)) μ
 | _=>False
def fClose:DSp:=fun ds μ K=>match ds with
 | [.mr j]=>∃(xs:List D) (p:Int) (l r:Mak),lvM μ j=some (xs++[.str "(",mkD l,.int p,mkD r])/\xs.length<=10000/\K .non (μ.set j (.lst (xs++[mkD (.tri p l r)])))
 | _=>False
def fNumd (n:Nat):DSp:=fun ds μ K=>match ds with
 | [.mr k,d]=>μ[k]?=some .box/\∃ t:Mak,d=mkD t/\t.dep<=n/\∀ t':Mak,t'.dep=t.dep->t'.cnt=t.cnt->t'.sm->K (mkD t') μ
 | _=>False
theorem cut_lst {xs ys:List D}{k:Nat}(h:ys.length=k)(h0:0<k):cutD (xs++ys) (some (-(k:Int))) none=ys:=by
 have ln:(xs++ys).length=xs.length+k:=by rw[gxE,h]
 have e1:HT.sIx (xs++ys).length 0 (some (-(k:Int)))=xs.length:=by
  unfold HT.sIx
  dsimp only
  rw[ln]
  split <;> omega
 have e2:HT.sIx (xs++ys).length (xs++ys).length none=xs.length+k:=by rw[ln];rfl
 unfold cutD
 rw[e1,e2,List.drop_left,cV]
 exact ck (by omega)
end L2
namespace L2
open PySem PySem.Spec PyProof.Rows PyProof PySem.W.KIN
theorem dec_fig:∀ c:Nat,c<58->48<=c->Unicode.isDecimal c=true:=by decide +kernel
theorem fig_ok {n:Int}(h0:0<=n)(h1:n<10000):Txt.isdecimal (toString n:Str)=true/\(toString n:Str).length<=4/\PySem.intText? (toString n:Str)=some n:=by
 have z3:=num_reads h0 (by omega)
 obtain⟨m,rfl⟩:=cW h0
 have lt:m<10 ^ 4:=by omega
 have ll:(Nat.repr m).length<=4:=(Nat.length_repr_le_iff (by decide)).mpr lt
 have le:(Str.ofString (toString (m:Int))).length=(Nat.repr m).length:=PySem.ofString_length _
 have sg:=signs_num m
 have sl:(Str.ofString (toString (m:Int))).cps.toList.length=(Str.ofString (toString (m:Int))).length:=rfl
 have pos:0<(Str.ofString (toString (m:Int))).length:=by
  rw[<- sl,sg,gxC]
  exact List.length_pos_iff.mpr (Nat.toDigits_ne_nil)
 refine⟨?_,by rw[le];exact ll,z3⟩
 show(decide ((Str.ofString (toString (m:Int))).length>0)&&(Str.ofString (toString (m:Int))).cps.all Unicode.isDecimal)=true
 rw[au pos,Bool.true_and,<- Array.all_toList,sg,b7]
 intro c hc
 obtain⟨ch,hch,e⟩:=List.mem_map.mp hc
 have r:=digit_range (Nat.isDigit_of_mem_toDigits (by decide) (by decide) hch)
 rw[<- e]
 exact dec_fig _ (by omega) r.1
theorem strl (a b:Str):(a++b).length=a.length+b.length:=strLen_append a b
theorem mkT_len:∀ {t:Mak},t.sm->(mkT t).length+8<=12*t.cnt
 | .num n,h=>by
  have:=(fig_ok h.1 h.2).2.1
  show(toString n:Str).length+8<=12*1
  omega
 | .tri p l r,h=>by
  have a:=mkT_len h.2.2.1
  have b:=mkT_len h.2.2.2
  have c:=(fig_ok h.1 h.2.1).2.1
  show(((((("(" : Str)++mkT l)++(" " : Str))++(toString p:Str))++(" " : Str)++mkT r++(")" : Str)):Str).length+8<=12*(l.cnt+r.cnt)
  rw[strl,strl,strl,strl,strl,strl]
  have e1:("(" : Str).length=1:=by decide
  have e2:(" " : Str).length=1:=by decide
  have e3:(")" : Str).length=1:=by decide
  omega
end L2
namespace L2
open PySem PySem.Spec PyProof.Rows PyProof PySem.W.KIN
def repF (c:Nat)(z:List Nat)(k:Nat):List Nat:=if k=c then z else[k]
theorem rep_free {c:Nat}{z:List Nat}:∀ {l:List Nat},c∉l->l.flatMap (repF c z)=l
 | [],_=>rfl
 | k::r,h=>by
  have h1:¬ k=c:=fun e=>h (e▸ae)
  rw[aO,rep_free fun m=>h (gxI _ m)]
  unfold repF
  rw[ai h1];rfl
theorem rep_join (c:Nat)(z:Str):∀ parts:List Str,(∀ p∈parts,c∉p.cps.toList)->(Str.join ⟨#[c]⟩ parts).cps.toList.flatMap (repF c z.cps.toList)=(Str.join z parts).cps.toList
 | [],_=>rfl
 | [p],h=>rep_free (h p (List.mem_singleton.mpr rfl))
 | p::q::r,h=>by
  have ih:=rep_join c z (q::r) fun a ha=>h a (gxI _ ha)
  show(p++⟨#[c]⟩++Str.join ⟨#[c]⟩ (q::r)).cps.toList.flatMap _=(p++z++Str.join z (q::r)).cps.toList
  simp only[cw,bJ,List.flatMap_append]
  rw[ih,rep_free (h p ae)]
  simp[repF]
theorem rep_flat (x z:Str)(c:Nat):(Txt.replace x ⟨#[c]⟩ z).cps.toList=x.cps.toList.flatMap (repF c z.cps.toList):=by
 rw[StrLaws.replace_one,<- rep_join c z _ (StrLaws.split_free x c),StrLaws.join_split]
theorem fig_cps {n:Int}(h0:0<=n):∀ c∈(toString n:Str).cps.toList,48<=c/\c<58:=by
 obtain⟨m,rfl⟩:=cW h0
 intro c hc
 rw[show(Str.ofString (toString (m:Int))).cps.toList=_ from signs_num m]at hc
 obtain⟨ch,hch,e⟩:=List.mem_map.mp hc
 have r:=digit_range (Nat.isDigit_of_mem_toDigits (by decide) (by decide) hch)
 rw[<- e];omega
def mkC:Mak->List Nat
 | .num n=>(toString n:Str).cps.toList
 | .tri p l r=>40::(mkC l++32::((toString p:Str).cps.toList++32::(mkC r++[41])))
def mkG:Mak->List Nat
 | .num n=>(toString n:Str).cps.toList
 | .tri p l r=>40::32::(mkG l++32::((toString p:Str).cps.toList++32::(mkG r++[32,41])))
theorem mkT_cps:∀ t:Mak,(mkT t).cps.toList=mkC t
 | .num n=>rfl
 | .tri p l r=>by
  have a:=mkT_cps l
  have b:=mkT_cps r
  show((((((("(" : Str)++mkT l)++(" " : Str))++(toString p:Str))++(" " : Str)++mkT r++(")" : Str)):Str)).cps.toList=_
  simp only[cw,bJ]
  rw[a,b,show(("(" : Str)).cps.toList=[40]from rfl,show((" " : Str)).cps.toList=[32]from rfl,show((")" : Str)).cps.toList=[41]from rfl]
  rw[show mkC (.tri p l r)=40::(mkC l++32::((toString p:Str).cps.toList++32::(mkC r++[41])))from rfl]
  simp
theorem mkG_of:∀ {t:Mak},t.sm->((mkC t).flatMap (repF 40 [40,32])).flatMap (repF 41 [32,41])=mkG t
 | .num n,h=>by
  have f:=fig_cps h.1
  show(((toString n:Str).cps.toList).flatMap _).flatMap _=_
  rw[rep_free (c:=40) (l:=(toString n:Str).cps.toList) fun m=>by have:=f _ m;omega,rep_free fun m=>by have:=f _ m;omega];rfl
 | .tri p l r,h=>by
  have a:=mkG_of h.2.2.1
  have b:=mkG_of h.2.2.2
  have f:=fig_cps h.1
  have g:(((toString p:Str).cps.toList).flatMap (repF 40 [40,32])).flatMap (repF 41 [32,41])=(toString p:Str).cps.toList:=by
   rw[rep_free (c:=40) (l:=(toString p:Str).cps.toList) fun m=>by have:=f _ m;omega,rep_free fun m=>by have:=f _ m;omega]
  rw[show mkC (.tri p l r)=40::(mkC l++32::((toString p:Str).cps.toList++32::(mkC r++[41])))from rfl,show mkG (.tri p l r)=40::32::(mkG l++32::((toString p:Str).cps.toList++32::(mkG r++[32,41])))from rfl]
  simp only[aO,List.flatMap_append,List.flatMap_nil]
  rw[a,b,g]
  simp[repF]
theorem sp_dig:∀ c:Nat,c<58->48<=c->Unicode.isSpace c=false:=by decide +kernel
theorem scan_figs {ws:List Str}:∀(l:List Nat) (r:Str),(∀ c∈l,48<=c/\c<58)->l.foldl KWd.step (ws,r)=(ws,⟨(r.cps.toList++l).toArray⟩)
 | [],r,_=>by rw[aR];rfl
 | c::l,r,h=>by
  have hc:=h c ae
  rw[List.foldl_cons]
  have e:KWd.step (ws,r) c=(ws,r++⟨#[c]⟩):=by
   unfold KWd.step
   rw[ai (by rw[sp_dig c hc.2 hc.1];exact ag)]
  rw[e,scan_figs l _ fun x hx=>h x (gxI _ hx),cw,bJ,aJ];rfl
theorem fig_pos {n:Int}(h0:0<=n)(h1:n<10000):(toString n:Str).length≠0:=by
 have:=(fig_ok h0 h1).1
 unfold Txt.isdecimal at this
 intro q
 rw[q]at this
 cases this
theorem scan_num {ws:List Str}{n:Int}(h0:0<=n):(toString n:Str).cps.toList.foldl KWd.step (ws,Str.empty)=(ws,(toString n:Str)):=by
 rw[scan_figs _ _ (fig_cps h0)];rfl
theorem scan_sp {ws:List Str}{r:Str}(h:r.length≠0):KWd.step (ws,r) 32=(ws++[r],Str.empty):=by
 unfold KWd.step
 rw[aE (by decide +kernel),ai h]
theorem scan_mk:∀ {t:Mak} {ws:List Str},t.sm->∃ W r,(mkG t).foldl KWd.step (ws,Str.empty)=(ws++W,r)/\r.length≠0/\W++[r]=mkW t
 | .num n,ws,h=>⟨[],_,by rw[aR];exact scan_num h.1,fig_pos h.1 h.2,rfl⟩
 | .tri p l r,ws,h=>by
  obtain⟨W1,r1,a1,a2,a3⟩:=scan_mk (ws:=ws++[("(" : Str)]) h.2.2.1
  obtain⟨W2,r2,b1,b2,b3⟩:=scan_mk (ws:=ws++[("(" : Str)]++W1++[r1]++[(toString p:Str)]) h.2.2.2
  refine⟨[("(" : Str)]++mkW l++[(toString p:Str)]++mkW r,(")" : Str),?_,by decide,rfl⟩
  unfold mkG
  rw[List.foldl_cons,List.foldl_cons,show KWd.step (ws,Str.empty) 40=(ws,("(" : Str)) by rfl,scan_sp (by decide),cp,a1,List.foldl_cons,scan_sp a2,cp,scan_num h.1,List.foldl_cons,scan_sp (fig_pos h.1 h.2.1),cp,b1,List.foldl_cons,scan_sp b2,<- a3,<- b3]
  show(_,("" : Str)++_)=_
  simp only[aJ]
  rfl
theorem words_mk {t:Mak}(h:t.sm):Txt.words (Txt.replace (Txt.replace (mkT t) "(" "( ") ")" " )")=mkW t:=by
 obtain⟨W,r,a1,a2,a3⟩:=scan_mk (ws:=[]) h
 have e:(Txt.replace (Txt.replace (mkT t) "(" "( ") ")" " )").cps.toList=mkG t:=by
  rw[show(")" : Str)=⟨#[41]⟩from rfl,rep_flat,show("(" : Str)=⟨#[40]⟩from rfl,rep_flat,mkT_cps]
  exact mkG_of h
 rw[KWd.words_scan]
 unfold KWd.scan
 rw[e,a1]
 unfold KWd.fin
 rw[ai a2,List.nil_append]
 exact a3
theorem cnt_mk:∀ {t:Mak},t.sm->cnt 40 (mkC t)+1=t.cnt
 | .num n,h=>by
  have f:=fig_cps h.1
  show cnt 40 (toString n:Str).cps.toList+1=1
  rw[cnt_none _ _ fun m=>by have:=f _ m;omega];rfl
 | .tri p l r,h=>by
  have a:=cnt_mk h.2.2.1
  have b:=cnt_mk h.2.2.2
  have f:=fig_cps h.1
  unfold mkC
  rw[cnt_cons,cnt_append,cnt_cons,cnt_append,cnt_cons,cnt_append,cnt_none _ (toString p:Str).cps.toList fun m=>by have:=f _ m;omega,cnt_cons,cnt_nil,aE rfl,ai (by decide),ai (by decide)]
  show _=((l.cnt+r.cnt:Nat):Int)
  omega
theorem count_mk {t:Mak}(h:t.sm):Txt.count (mkT t) "("+1=t.cnt:=by
 rw[show("(" : Str)=⟨#[40]⟩from rfl,count_cnt,mkT_cps]
 exact cnt_mk h
theorem Mak.pre_sm:∀ {t:Mak},t.sm->∀ x∈t.pre,x.sm/\x.cnt<=t.cnt
 | .num n,h,x,hx=>by rw[List.mem_singleton.mp hx];exact⟨h,aa _⟩
 | .tri p l r,h,x,hx=>by
  rcases List.mem_cons.mp hx with q | q
  ·rw[q];exact⟨h,aa _⟩
  ·have e:(Mak.tri p l r).cnt=l.cnt+r.cnt:=rfl
   rcases List.mem_append.mp q with q | q
   ·have:=pre_sm h.2.2.1 x q;exact⟨this.1,by omega⟩
   ·have:=pre_sm h.2.2.2 x q;exact⟨this.1,by omega⟩
theorem repz_len {c:Nat}{z:List Nat}(hz:z.length=2):∀ l:List Nat,(l.flatMap (repF c z)).length<=2*l.length
 | []=>aa _
 | k::r=>by
  have:=repz_len (c:=c) hz r
  rw[aO,gxE,ah]
  have e:(repF c z k).length<=2:=by
   unfold repF
   by_cases h:k=c
   ·rw[aE h];omega
   ·rw[ai h];exact Nat.le_succ 1
  omega
theorem repl_len (x z:Str)(c:Nat)(hz:z.cps.toList.length=2):(Txt.replace x ⟨#[c]⟩ z).length<=2*x.length:=by
 have e1:(Txt.replace x ⟨#[c]⟩ z).length=(Txt.replace x ⟨#[c]⟩ z).cps.toList.length:=rfl
 have e2:x.length=x.cps.toList.length:=rfl
 rw[e1,rep_flat,e2]
 exact repz_len hz _
theorem fig_ne {n:Int}(h:0<=n):(toString n:Str) ≠ ")"/\(toString n:Str) ≠ "(":=by
 have f:=fig_cps h
 refine⟨fun e=>?_,fun e=>?_⟩
 ·have:=f 41 (by rw[e];exact ae);omega
 ·have:=f 40 (by rw[e];exact ae);omega
end L2
namespace L2
open PySem PySem.Spec PyProof.Rows PyProof Builtin Builtin.Str
section
variable {X:Cx}{e:Expr}{pos:Pos}{φ0:List Addr}{H0:Hp}{Kx:DX}
def rSplit1:V->List V->Hp->VK->Prop:=fun x vs H Q=>match x,vs with
 | .str z,[.str y]=>(∃ c:Nat,y=⟨#[c]⟩)/\z.length+2<=sizeLine/\∀ l,H l=none->Q (.ref l) (upd H l (.lst ((Txt.split z y).map V.str)))
 | _,_=>False
theorem split_len (z:Str)(c:Nat):(Txt.split z ⟨#[c]⟩).length<=z.length+2:=by
 unfold Txt.split
 split
 ·show 1<=z.length+2;omega
 ·split
  ·show 1<=z.length+2;omega
  ·have:=StrLaws.occ_length_le z ⟨#[c]⟩ 0 z.length (z.length+1)
   unfold partsBetween
   simp only[gxC,List.length_zip,ah,gxE,cL]
   omega
theorem split1S:MtR X "str.split" rSplit1:=by
 intro pins s σ H x vs v us Q I rx rv h
 unfold rSplit1 at h
 split at h
 ·rename_i z y
  obtain⟨t,rfl⟩:=rx
  obtain⟨u,rfl,ru⟩:=rv.one
  obtain⟨t',rfl⟩:=ru
  obtain⟨⟨c,rfl⟩,hz,q⟩:=h
  have hn:=split_len z c
  have key:∀(l:List (Str×Tok)) (k:Nat),l.map (·.1)=Txt.split z ⟨#[c]⟩->EP X pins σ Q (.ref s.heap.objs.size) { s with heap:=s.heap.push { cls:=.type "list",data:=.seq (strValues l).toArray},toks:=k}:=fun l k e=>by
   have hv:=strs_vals l
   rw[e]at hv
   exact⟨.ref _,_,I.lnew (t':=k) hv (by rw[gxC];omega),rfl,q _ I.fresh⟩
  by_cases h1:(decide (z.length<(⟨#[c]⟩:Str).length)||decide (strKind z<strKind ⟨#[c]⟩))=true
  ·refine cN dc (cu _ _ _) cZ (F.args_str_split_2 _ _) (meets_str_split_cannot_occur z _ t t' h1) ?_
   exact key [(z,t)] s.toks (by unfold Txt.split;rw[aE h1];rfl)
  ·have h1':=Bool.eq_false_iff.mpr h1
   by_cases hf:(occurrences z ⟨#[c]⟩ 0 z.length (z.length+1)).isEmpty=true
   ·refine cN dc (cu _ _ _) cZ (F.args_str_split_2 _ _) (meets_str_split_not_found z _ t t' h1' rfl hf) ?_
    exact key [(z,t)] s.toks (by unfold Txt.split;rw[ai h1,aE hf];rfl)
   ·have es:Txt.split z ⟨#[c]⟩=partsBetween z (occurrences z ⟨#[c]⟩ 0 z.length (z.length+1)) (⟨#[c]⟩:Str).length:=by unfold Txt.split;rw[ai h1,ai hf]
    refine cN dc (cu _ _ _) cZ (F.args_str_split_2 _ _) (meets_str_split_sep z _ t t' h1' rfl (Bool.eq_false_iff.mpr hf) (by omega) (by rw[<- es];omega)) ?_
    rw[<- es,strsFrom_eq]
    exact key (numbered s.toks (Txt.split z ⟨#[c]⟩)) _ (numbered_texts _ _)
 ·exact h.elim
end
def fSplit1 (m:Bool):DMt:=fun d ds μ K=>match d,ds with
 | .str z,[.str y]=>(∃ c:Nat,y=⟨#[c]⟩)/\z.length+2<=sizeLine/\nL m ((Txt.split z y).map D.str) μ K
 | _,_=>False
theorem so_split1 {Kf:PySem.W.Frag}{m:Bool}:SoMt Kf "str" rSplit1 (fSplit1 m):=fun φ H x vs d ds μ K Q M hx h k L=>by
 unfold fSplit1 at k
 split at k
 ·cases(show x=_ from hx)
  obtain⟨v,r,rfl,h1,h2⟩:=h;cases(show r=[]from h2);cases(show v=_ from h1)
  exact⟨k.1,k.2.1,fun l hl=>al_n L M (dall_strs _) k.2.2 hl⟩
 ·exact k.elim
def rMulT:R2:=fun x y H Q=>match x,y with
 | .str z,.int n=>z.length<=100 /\ -1000000<=n/\n<=100000/\Q (.str (Txt.mul z n)) H
 | _,_=>False
theorem mulT {X:Cx}:OpR X (binaryOp .Mult) rMulT:=by
 intro pins s σ H x y v u Q I rx ry h
 unfold rMulT at h
 split at h
 ·rename_i z n
  obtain⟨hz,h1,h2,q⟩:=h
  obtain⟨t,rfl⟩:=rx
  obtain⟨t',rfl⟩:=ry
  refine SB.mul ⟨?_,fun hn _=>?_,fun hn _=>?_⟩ fun t' k=>⟨.str _,H,I.tok _,⟨_,rfl⟩,q⟩
  ·rw[ak (by omega),ak (by omega)];rfl
  ·have:(100:Int)<=(2 ^ 63 - 1) / n:=(Int.le_ediv_iff_mul_le (by omega)).mpr (by omega)
   omega
  ·unfold tooLong sizeLine
   have:z.length*n.toNat<=100*100000:=Nat.mul_le_mul hz (by omega)
   rw[ak (by omega)]
 ·exact h.elim
def dMulT:DOp:=fun x y μ K=>match x,y with
 | .str z,.int n=>z.length<=100 /\ -1000000<=n/\n<=100000/\K (.str (Txt.mul z n)) μ
 | _,_=>False
theorem so_mulT:SoOp rMulT dMulT:=fun φ H x y dx dy μ K Q M hx hy k L=>by
 unfold dMulT at k
 split at k
 ·cases(show x=_ from hx);cases(show y=_ from hy)
  exact⟨k.1,k.2.1,k.2.2.1,L.val M k.2.2.2 rfl⟩
 ·exact k.elim
theorem foldl_app (l:List (Array Nat)):∀ acc:Array Nat,(l.foldl (·++·) acc).toList=acc.toList++(l.map Array.toList).flatten:=by
 induction l with
 | nil=>intro acc;simp
 | cons a l ih=>intro acc;rw[List.foldl_cons,ih];simp
theorem mul_cps (z:Str)(n:Int):(Txt.mul z n).cps.toList=(List.replicate n.toNat z.cps.toList).flatten:=by
 unfold Txt.mul
 by_cases h1:n<1
 ·rw[aE h1,show n.toNat=0 by omega];rfl
 ·rw[ai h1]
  by_cases h2:(n==1||z.length==0)=true
  ·rw[aE h2]
   rw[Bool.or_eq_true,beq_iff_eq,beq_iff_eq]at h2
   rcases h2 with rfl | h2
   ·simp
   ·have:z.cps.toList=[]:=List.length_eq_zero_iff.mp h2
    rw[this];simp
  ·rw[ai h2]
   show((List.replicate n.toNat z.cps).foldl (·++·) #[]).toList=_
   rw[foldl_app,cP];simp
section
variable {X:Cx}{e:Expr}{pos:Pos}{φ0:List Addr}{H0:Hp}{Kx:DX}
theorem dp_callX1 {f:DSpX}{w:De}{x:Str}{p:Pos}{k:Nat}{ps:List Str}(Z:Rz X φ0 H0 Kx)(C:CalX X.prog X.w X.K X.mg X.base x k ps (spX f))(hr:Room k X.A)(hg:Gl X x)(ha:PEp X e (tD w))(hdb:(x==("__debug__" : Str))=false:=by decide)
 (he:starEach [e] X.env=[(false,eval e X.env)]:=by rfl):PEp X (.Call (.Name x p) [e] [] pos) (tD (dCallX φ0 H0 Kx f (dCons w dNil))):=by
 intro pins s σ H Q hn I h
 obtain⟨E,LX,hp⟩:=Z.ex
 obtain⟨g,fd,F,hm,hk,hb⟩:=C.ex
 obtain⟨φ,ρ,μ,K,Ee,M,k1,L⟩:=h
 refine b9 (ld_glob I hg hm ?_ hdb)
 refine PySem.W.callWith_K (h₀:=X.base) I.ok.mod.kin hk (Q:=_) ?_ he rfl
 rw[he]
 refine cm (thn (ha pins s σ H (fun v H1=>spX f [v] H1 Q E) hn I ⟨φ,ρ,μ,_,Ee,M,k1,fun d μ1 φ1 v H1 k2 f1 M1 i1=>⟨φ1,[d],μ1,K,Kx,⟨v,[],rfl,i1,rfl⟩,M1,k2.2,L.mono f1,LX.mono (M1.hist k2.1)⟩⟩) fun u s1 hq6=>?_)
 obtain⟨v,H1,I1,r1,q1⟩:=hq6
 exact c4 ⟨I1.kIn,run_fn F hr hb .nil hp I1 (.cons r1 .nil) q1⟩
end
end L2
namespace L2
open PySem PySem.Spec PyProof.Rows PyProof PySem.W.KIN PySem.NumText
def asc (l:List Nat):Prop:=∀ c∈l,c<128
def digB (l:List Nat):Bool:=l.all fun c=>decide (48<=c)&&decide (c<58)
theorem dig_all {l:List Nat}(h:digB l=true):∀ c∈l,48<=c/\c<58:=fun c hc=>by
 have:=List.all_eq_true.mp h c hc
 simpa using this
theorem dig_of {l:List Nat}(h:∀ c∈l,48<=c/\c<58):digB l=true:=List.all_eq_true.mpr fun c hc=>by simpa using h c hc
theorem dec_asc:∀ c:Nat,c<128->Unicode.isDecimal c=(decide (48<=c)&&decide (c<58)):=by decide +kernel
theorem isdec_asc {z:Str}(h:asc z.cps.toList):Txt.isdecimal z=(decide (0<z.length)&&digB z.cps.toList):=by
 unfold Txt.isdecimal digB
 congr 1
 rw[<- Array.all_toList]
 have:∀ l:List Nat,asc l->l.all Unicode.isDecimal=l.all fun c=>decide (48<=c)&&decide (c<58):=fun l=>by
  induction l with
  | nil=>intro _;rfl
  | cons c l ih=>intro h;rw[cI,cI,ih fun x hx=>h x (gxI _ hx),dec_asc c (h c ae)]
 exact this _ h
def numF (z:Str):Option Int:=if 0<z.length/\z.length<=4/\digB z.cps.toList=true then some ((digitsVal z.cps.toList:Nat):Int)else none
theorem val_go:∀(l:List Nat) (a:Nat),digB l=true->l.foldl (fun acc c=>acc*10+(c - 48)) a<(a+1)*10 ^ l.length
 | [],a,_=>by show a<(a+1)*1;omega
 | c::l,a,h=>by
  have hc:=dig_all h c ae
  have ih:=val_go l (a*10+(c - 48)) (dig_of fun x hx=>dig_all h x (gxI _ hx))
  rw[List.foldl_cons,ah,Nat.pow_succ]
  refine aw ih ?_
  rw[show(a+1)*(10 ^ l.length*10)=((a+1)*10)*10 ^ l.length by rw[Nat.mul_assoc,Nat.mul_comm 10]]
  exact Nat.mul_le_mul_right _ (by omega)
theorem val_lt (l:List Nat)(h:digB l=true):digitsVal l<10 ^ l.length:=by
 have:=val_go l 0 h
 rwa [Nat.zero_add,Nat.one_mul]at this
theorem numF_read {z:Str}{n:Int}(h:numF z=some n):PySem.intText? z=some n/\0<=n/\n<10000:=by
 unfold numF at h
 split at h
 ·rename_i q
  obtain⟨h0,h4,hd⟩:=q
  cases h
  have lt:=val_lt _ hd
  have:10 ^ z.cps.toList.length<=10 ^ 4:=Nat.pow_le_pow_right (by decide) h4
  refine⟨intText_digits (fun c hc=>?_) (fun e=>?_) (by omega),by omega,by omega⟩
  ·have:=dig_all hd c hc;exact⟨this.1,by omega⟩
  ·have:z.length=z.cps.toList.length:=rfl
   rw[e]at this;exact absurd h0 (by rw[this];decide)
 ·cases h
theorem numF_fig {n:Int}(h0:0<=n)(h1:n<10000):numF (toString n:Str)=some n:=by
 have f:=fig_ok h0 h1
 have p:=fig_pos h0 h1
 have e:numF (toString n:Str)=some ((digitsVal (toString n:Str).cps.toList:Nat):Int):=aE ⟨by omega,f.2.1,dig_of (fig_cps h0)⟩
 have r:=(numF_read e).1
 rw[f.2.2]at r
 rw[e];exact r.symm
def siD:Option Mak->D
 | none=>.str "("
 | some t=>mkD t
def closeF:List (Option Mak)->Option (List (Option Mak))
 | some r::some (.num p)::some l::none::st=>some (some (.tri p l r)::st)
 | _=>none
def finF:List (Option Mak)->Option Mak
 | [some t]=>some t
 | _=>none
def looseF:List (Option Mak)->List Str->Option Mak
 | st,[]=>finF st
 | st,w::ws=>if w = ")" then(match closeF st with | some st'=>looseF st' ws | none=>none)else if w = "(" then looseF (none::st) ws else match numF w with | some n=>looseF (some (.num n)::st) ws | none=>none
def stOk (st:List (Option Mak)):Prop:=∀ t,some t∈st->t.sm
def stC:List (Option Mak)->Nat
 | []=>0
 | none::st=>stC st
 | some t::st=>t.cnt+stC st
theorem close_ok {st st':List (Option Mak)}(h:closeF st=some st')(ok:stOk st):∃(p:Int) (l r:Mak) (s0:List (Option Mak)),st=some r::some (.num p)::some l::none::s0/\st'=some (.tri p l r)::s0/\stOk st'/\stC st'<=stC st:=by
 unfold closeF at h
 split at h
 ·rename_i r p l s0
  cases h
  refine⟨p,l,r,s0,rfl,rfl,fun t ht=>?_,?_⟩
  ·rcases List.mem_cons.mp ht with e | e
   ·cases e
    have a:=ok (.num p) (by simp)
    exact⟨a.1,a.2,ok l (by simp),ok r (by simp)⟩
   ·exact ok t (by simp[e])
  ·show l.cnt+r.cnt+stC s0<=r.cnt+(1+(l.cnt+stC s0));omega
 ·cases h
theorem fin_ok {st:List (Option Mak)}{t:Mak}(h:finF st=some t):st=[some t]:=by
 unfold finF at h
 split at h
 ·cases h;rfl
 ·cases h
theorem loose_ok:∀ {ws:List Str} {st:List (Option Mak)} {t:Mak},looseF st ws=some t->stOk st->t.sm/\t.cnt<=stC st+ws.length
 | [],st,t,h,ok=>by
  rw[fin_ok h]at ok ⊢
  exact⟨ok t (by simp),by show t.cnt<=t.cnt+0+0;omega⟩
 | w::ws,st,t,h,ok=>by
  have h:(if w = ")" then(match closeF st with | some st'=>looseF st' ws | none=>none)else if w = "(" then looseF (none::st) ws else match numF w with | some n=>looseF (some (.num n)::st) ws | none=>none)=some t:=h
  rw[ah]
  split at h
  ·cases e:closeF st with
   | none=>rw[e]at h;cases h
   | some st' =>
    rw[e]at h
    obtain⟨p,l,r,s0,_,_,ok',le⟩:=close_ok e ok
    have:=loose_ok h ok'
    exact⟨this.1,by omega⟩
  ·split at h
   ·have:=loose_ok h (fun t ht=>ok t (by rcases List.mem_cons.mp ht with e | e;cases e;exact e))
    exact⟨this.1,by have e:stC (none::st)=stC st:=rfl;omega⟩
   ·cases e:numF w with
    | none=>rw[e]at h;cases h
    | some n =>
     rw[e]at h
     have r:=numF_read e
     have:=loose_ok h (fun t ht=>by rcases List.mem_cons.mp ht with e | e;cases e;exact r.2;exact ok t e)
     exact⟨this.1,by have e:stC (some (.num n)::st)=1+stC st:=rfl;omega⟩
theorem loose_mk:∀ {t:Mak} {st:List (Option Mak)} {ws:List Str},t.sm->looseF st (mkW t++ws)=looseF (some t::st) ws
 | .num n,st,ws,h=>by
  have q:=fig_ne h.1
  show looseF st ((toString n:Str)::ws)=_
  rw[looseF,ai q.1,ai q.2,numF_fig h.1 h.2]
 | .tri p l r,st,ws,h=>by
  have q:=fig_ne h.1
  show looseF st (([("(" : Str)]++mkW l++[(toString p:Str)]++mkW r++[(")" : Str)])++ws)=_
  simp only[aJ]
  show looseF st (("(" : Str)::(mkW l++((toString p:Str)::(mkW r++((")" : Str)::ws)))))=_
  rw[looseF,ai (by decide),aE rfl,loose_mk h.2.2.1,looseF,ai q.1,ai q.2,numF_fig h.1 h.2.1]
  show looseF (some (.num p)::some l::none::st) (mkW r++_)=_
  rw[loose_mk h.2.2.2,looseF,aE rfl];rfl
def IsMk (z:Str)(t:Mak):Prop:=z=mkT t/\t.sm/\t.cnt<=40
end L2
namespace L2
open PySem PySem.Spec PyProof.Rows PyProof PySem.W.KIN PySem.NumText
def figB (l:List Nat):Bool:=decide (1<=l.length)&&decide (l.length<=4)&&!(decide (l.head?=some 48)&&decide (1<l.length))&&digB l
theorem td_head (m:Nat):0<m->((Nat.toDigits 10 m).map Char.toNat).head?≠some 48:=by
 induction m using Nat.strongRecOn with
 | _ m ih =>
  intro h0
  by_cases h:m<10
  ·rw[cU h]
   have:∀ m:Nat,m<10->0<m->(([Nat.digitChar m].map Char.toNat).head?≠some 48):=by decide
   exact this m h h0
  ·have hm:m%10<10:=Nat.mod_lt m (by decide)
   have t:Nat.toDigits 10 (m / 10)++Nat.toDigits 10 (m%10)=Nat.toDigits 10 (10*(m / 10)+m%10):=Nat.toDigits_append_toDigits (by decide) (by omega) hm
   rw[Nat.div_add_mod]at t
   rw[<- t,az,List.head?_append]
   have a:=ih (m / 10) (by omega) (by omega)
   have ne:((Nat.toDigits 10 (m / 10)).map Char.toNat)≠[]:=fun e=>Nat.toDigits_ne_nil (List.map_eq_nil_iff.mp e)
   cases e:((Nat.toDigits 10 (m / 10)).map Char.toNat).head? with
   | none=>exact absurd (List.head?_eq_none_iff.mp e) ne
   | some x=>rw[e]at a;exact a
theorem go_ge:∀(l:List Nat) (a:Nat),a<=l.foldl (fun acc c=>acc*10+(c - 48)) a
 | [],a=>aa _
 | c::l,a=>by
  have:=go_ge l (a*10+(c - 48))
  rw[List.foldl_cons];omega
theorem td_val:∀(n:Nat) (l:List Nat),l.length=n+1->digB l=true->(l.head?≠some 48\/n=0)->(Nat.toDigits 10 (digitsVal l)).map Char.toNat=l
 | 0,l,hl,hd,_=>by
  obtain⟨c,rfl⟩:∃ c,l=[c]:=List.length_eq_one_iff.mp hl
  have hc:=dig_all hd c ae
  have e:digitsVal [c]=c - 48:=by show 0*10+(c - 48)=_;omega
  rw[e,cU (by omega)]
  have:∀ c:Nat,c<58->48<=c->[Nat.digitChar (c - 48)].map Char.toNat=[c]:=by decide
  exact this c hc.2 hc.1
 | n+1,l,hl,hd,hh=>by
  rcases List.eq_nil_or_concat l with rfl | ⟨l',c,e⟩
  ·cases hl
  ·rw[List.concat_eq_append]at e
   subst e
   rw[gxE,bf]at hl
   have hc:=dig_all hd c (aN _ ae)
   have hd':digB l'=true:=dig_of fun x hx=>dig_all hd x (bu _ hx)
   obtain⟨h,r,rfl⟩:∃ h r,l'=h::r:=by
    cases l' with
    | nil=>simp at hl
    | cons h r=>exact⟨h,r,rfl⟩
   have hne:h≠48:=fun q=>by
    rcases hh with q' | q'
    ·exact q' (by rw[q];rfl)
    ·omega
   have h8:=dig_all hd' h ae
   have pos:0<digitsVal (h::r):=by
    have:=go_ge r (0*10+(h - 48))
    show 0<List.foldl _ (0*10+(h - 48)) r
    omega
   have ih:=td_val n (h::r) (by omega) hd' (.inl (by simpa using hne))
   rw[digitsVal_snoc,Nat.mul_comm,<- Nat.toDigits_append_toDigits (by decide) pos (by omega),az,ih,cU (by omega)]
   have:∀ c:Nat,c<58->48<=c->[Nat.digitChar (c - 48)].map Char.toNat=[c]:=by decide
   rw[this c hc.2 hc.1]
theorem fig_is {l:List Nat}(h:figB l=true):0<=((digitsVal l:Nat):Int)/\((digitsVal l:Nat):Int)<10000/\(toString ((digitsVal l:Nat):Int):Str).cps.toList=l/\¬ 35∈l/\¬ 32∈l/\digB l=true:=by
 unfold figB at h
 simp only[aQ,aX,c6]at h
 obtain⟨⟨⟨h1,h2⟩,h3⟩,h4⟩:=h
 have lt:=val_lt l h4
 have:10 ^ l.length<=10 ^ 4:=Nat.pow_le_pow_right (by decide) h2
 refine⟨by omega,by omega,?_,fun m=>by have:=dig_all h4 _ m;omega,fun m=>by have:=dig_all h4 _ m;omega,h4⟩
 rw[show(Str.ofString (toString ((digitsVal l:Nat):Int))).cps.toList=_ from signs_num _]
 refine td_val (l.length - 1) l (by omega) h4 ?_
 by_cases q:l.head?=some 48
 ·right
  rw[au q]at h3
  simp at h3;omega
 ·exact .inl q
theorem fig_of {n:Int}(h0:0<=n)(h1:n<10000):figB (toString n:Str).cps.toList=true/\((digitsVal (toString n:Str).cps.toList:Nat):Int)=n:=by
 have f:=fig_ok h0 h1
 have p:=fig_pos h0 h1
 have d:=dig_of (fig_cps h0)
 have nv:=numF_fig h0 h1
 have e:numF (toString n:Str)=some ((digitsVal (toString n:Str).cps.toList:Nat):Int):=aE ⟨by omega,f.2.1,d⟩
 rw[e]at nv
 refine⟨?_,aV nv⟩
 unfold figB
 have l1:(toString n:Str).cps.toList.length=(toString n:Str).length:=rfl
 rw[d,au (by omega:1<=(toString n:Str).cps.toList.length),au (by have:=f.2.1;omega:(toString n:Str).cps.toList.length<=4)]
 obtain⟨m,rfl⟩:=cW h0
 by_cases q:m=0
 ·subst q;decide +kernel
 ·have:=td_head m (by omega)
  rw[<- signs_num]at this
  rw[ak this];rfl
def spl (c:Nat):List Nat->List (List Nat)
 | []=>[[]]
 | k::r=>if k=c then[]::spl c r else match spl c r with
  | []=>[[k]]
  | w::ws=>(k::w)::ws
theorem spl_cons {c k:Nat}{r:List Nat}:spl c (k::r)=if k=c then[]::spl c r else match spl c r with | []=>[[k]] | w::ws=>(k::w)::ws:=rfl
theorem spl_free {c:Nat}:∀ {l:List Nat},c∉l->spl c l=[l]
 | [],_=>rfl
 | k::r,h=>by
  have h1:¬ k=c:=fun e=>h (e▸ae)
  rw[spl_cons,ai h1,spl_free fun m=>h (gxI _ m)]
theorem spl_app {c:Nat}{v:List Nat}:∀ {l:List Nat},c∉l->spl c (l++c::v)=l::spl c v
 | [],_=>by show spl c (c::v)=_;rw[spl_cons,aE rfl]
 | k::r,h=>by
  have h1:¬ k=c:=fun e=>h (e▸ae)
  rw[bB,spl_cons,ai h1,spl_app fun m=>h (gxI _ m)]
theorem spl_join {c:Nat}:∀ parts:List Str,parts≠[]->(∀ p∈parts,c∉p.cps.toList)->spl c (Str.join ⟨#[c]⟩ parts).cps.toList=parts.map (·.cps.toList)
 | [],h,_=>absurd rfl h
 | [p],_,h=>spl_free (h p (List.mem_singleton.mpr rfl))
 | p::q::r,_,h=>by
  have ih:=spl_join (c:=c) (q::r) (by simp) fun a ha=>h a (gxI _ ha)
  show spl c (p++⟨#[c]⟩++Str.join ⟨#[c]⟩ (q::r)).cps.toList=_
  simp only[cw,bJ,aJ]
  show spl c (p.cps.toList++c::(Str.join ⟨#[c]⟩ (q::r)).cps.toList)=_
  rw[spl_app (h p ae),ih];rfl
theorem split_spl (z:Str)(c:Nat):(Txt.split z ⟨#[c]⟩).map (·.cps.toList)=spl c z.cps.toList:=by
 have hp:=split_pos z ⟨#[c]⟩
 rw[<- spl_join (c:=c) _ (fun e=>by rw[e]at hp;exact absurd hp (by decide)) (StrLaws.split_free z c),StrLaws.join_split]
theorem spl_three {c:Nat}{l a b d:List Nat}(h:spl c l=[a,b,d]):l=a++c::(b++c::d):=by
 have jn:∀ l:List Nat,∃ w ws,spl c l=w::ws/\w++(ws.map fun x=>c::x).flatten=l:=fun l=>by
  induction l with
  | nil=>exact⟨[],[],rfl,rfl⟩
  | cons k r ih =>
   obtain⟨w,ws,e1,e2⟩:=ih
   rw[spl_cons]
   by_cases q:k=c
   ·rw[aE q,e1]
    exact⟨[],w::ws,rfl,by rw[q,<- e2];simp⟩
   ·rw[ai q,e1]
    exact⟨k::w,ws,rfl,by rw[<- e2];rfl⟩
 obtain⟨w,ws,e1,e2⟩:=jn l
 rw[h]at e1
 cases e1
 rw[<- e2];simp
def partF (w:List Nat)(rs:List Mak):Option (Mak×List Mak) :=
 if w=[35]then(match rs with | t::r=>some (t,r) | []=>none)else if figB w=true then some (.num (digitsVal w:Nat),rs)else none
def innerF (rs:List Mak)(l:List Nat):Option (List Mak):=match spl 32 l with
 | [a,b,c]=>if figB b=true then(match partF a rs with
  | none=>none
  | some (x,r1)=>match partF c r1 with
   | none=>none
   | some (y,r2)=>some ((if a=[35]/\c=[35]then Mak.tri (digitsVal b:Nat) y x else Mak.tri (digitsVal b:Nat) x y)::r2))else none
 | _=>none
def closeR (rs:List Mak)(w:List Nat):List (List Nat)->Option (List Mak×List (List Nat))
 | []=>none
 | w2::op=>match innerF rs w with | some r=>some (r,(w2++[35])::op) | none=>none
def stepR (c:Nat):List Mak×List (List Nat)->Option (List Mak×List (List Nat))
 | (_,[])=>none
 | (rs,w::op)=>if c=40 then some (rs,[]::w::op)else if c=41 then closeR rs w op else some (rs,(w++[c])::op)
def runR:List Nat->List Mak×List (List Nat)->Option (List Mak×List (List Nat))
 | [],s=>some s
 | c::l,s=>match stepR c s with | some s'=>runR l s' | none=>none
def endR:List Mak×List (List Nat)->Option Mak
 | (rs,[w])=>if w=[35]then rs.head? else if figB w=true then some (.num (digitsVal w:Nat))else none
 | _=>none
def resR (l:List Nat)(s:List Mak×List (List Nat)):Option Mak:=match runR l s with | some s'=>endR s' | none=>none
def readF (l:List Nat):Option Mak:=if 35∈l\/39<cnt 40 l then none else resR l ([],[[]])
def expW:List Nat->List Mak->List Nat
 | [],_=>[]
 | k::w,ts=>if k=35 then(match ts with | t::r=>mkC t++expW w r | []=>expW w [])else k::expW w ts
theorem exp_cons {k:Nat}{w:List Nat}{ts:List Mak}:expW (k::w) ts=if k=35 then(match ts with | t::r=>mkC t++expW w r | []=>expW w [])else k::expW w ts:=rfl
theorem exp_app:∀(w:List Nat) {v:List Nat} {ts us:List Mak},w.count 35=ts.length->expW (w++v) (ts++us)=expW w ts++expW v us
 | [],v,ts,us,h=>by
  obtain rfl:=List.length_eq_zero_iff.mp h.symm
  rfl
 | k::w,v,ts,us,h=>by
  rw[bB,exp_cons,exp_cons]
  by_cases q:k=35
  ·rw[aE q,aE q]
   subst q
   rw[List.count_cons_self]at h
   cases ts with
   | nil=>cases h
   | cons t ts =>
    rw[ah]at h
    show mkC t++expW (w++v) (ts++us)=mkC t++expW w ts++expW v us
    rw[exp_app w (by omega),aJ]
  ·rw[ai q,ai q]
   rw[List.count_cons_of_ne q]at h
   rw[exp_app w h,bB]
theorem exp_free:∀ {w:List Nat} {ts:List Mak},35∉w->expW w ts=w
 | [],_,_=>rfl
 | k::w,ts,h=>by
  have h1:¬ k=35:=fun e=>h (e▸ae)
  rw[exp_cons,ai h1,exp_free fun m=>h (gxI _ m)]
def JR:List (List Nat)->List Mak->List Nat->Prop
 | [],_,_=>False
 | [w],rs,p=>w.count 35=rs.length/\p=expW w rs.reverse
 | w::w2::op,rs,p=>∃ rs1 rs2 p',rs=rs1++rs2/\w.count 35=rs1.length/\JR (w2::op) rs2 p'/\p=p'++40::expW w rs1.reverse
theorem JR.ext {w v:List Nat}{op:List (List Nat)}{rs us:List Mak}{p:List Nat}(h:JR (w::op) rs p)(hv:v.count 35=us.length):JR ((w++v)::op) (us.reverse++rs) (p++expW v us):=by
 cases op with
 | nil =>
  obtain⟨h1,h2⟩:w.count 35=rs.length/\p=expW w rs.reverse:=h
  refine⟨by rw[List.count_append,gxE,ar];omega,?_⟩
  rw[List.reverse_append,List.reverse_reverse,exp_app w (by rw[ar];exact h1),h2]
 | cons w2 op =>
  obtain⟨rs1,rs2,p',rfl,h1,h2,rfl⟩:=h
  refine⟨us.reverse++rs1,rs2,p',by rw[aJ],by rw[List.count_append,gxE,ar];omega,h2,?_⟩
  rw[List.reverse_append,List.reverse_reverse,exp_app w (by rw[ar];exact h1),aJ,bB]
def smA (rs:List Mak):Prop:=∀ t∈rs,t.sm
theorem part_ok {w:List Nat}{rs r:List Mak}{x:Mak}(h:partF w rs=some (x,r))(hs:smA rs):x.sm/\smA r/\((w=[35]/\rs=x::r)\/(w≠[35]/\rs=r/\w.count 35=0/\mkC x=w/\35∉w)):=by
 unfold partF at h
 split at h
 ·rename_i q
  split at h
  ·cases h
   exact⟨hs _ ae,fun t ht=>hs t (gxI _ ht),.inl ⟨q,rfl⟩⟩
  ·cases h
 ·rename_i q
  split at h
  ·rename_i f
   cases h
   obtain⟨a,b,c,d,_,_⟩:=fig_is f
   exact⟨⟨a,b⟩,hs,.inr ⟨q,rfl,List.count_eq_zero.mpr d,c,d⟩⟩
  ·cases h
theorem inner_ok {rs1 rs2 r:List Mak}{w:List Nat}(h:innerF (rs1++rs2) w=some r)(hc:w.count 35=rs1.length)(hs:smA (rs1++rs2)):∃ t,r=t::rs2/\t.sm/\40::(expW w rs1.reverse++[41])=mkC t:=by
 unfold innerF at h
 split at h
 ·rename_i a b c e
  split at h
  ·rename_i fb
   obtain⟨b0,b1,b2,b3,_,_⟩:=fig_is fb
   have ew:=spl_three e
   cases ea:partF a (rs1++rs2)with
   | none=>rw[ea]at h;cases h
   | some xr =>
    obtain⟨x,r1⟩:=xr
    rw[ea]at h
    have h:(match partF c r1 with | none=>none | some (y,r2)=>some ((if a=[35]/\c=[35]then Mak.tri (digitsVal b:Nat) y x else Mak.tri (digitsVal b:Nat) x y)::r2))=some r:=h
    obtain⟨xs,s1,ha⟩:=part_ok ea hs
    cases ec:partF c r1 with
    | none=>rw[ec]at h;cases h
    | some yr =>
     obtain⟨y,r2⟩:=yr
     rw[ec]at h
     obtain⟨ys,s2,hcc⟩:=part_ok ec s1
     cases h
     have hb:b.count 35=0:=List.count_eq_zero.mpr b3
     rw[ew]at hc ⊢
     simp only[List.count_append,List.count_cons,hb]at hc
     rcases ha with⟨rfl,ea2⟩ | ⟨na,ea2,ca,ma,fa⟩
     ·rcases hcc with⟨rfl,ec2⟩ | ⟨nc,ec2,cc,mc,fc⟩
      ·have l2:rs1.length=2:=by simpa using hc.symm
       obtain⟨u,v,rfl⟩:∃ u v,rs1=[u,v]:=by
        match rs1,l2 with
        | [u,v],_=>exact⟨u,v,rfl⟩
       cases ea2
       cases ec2
       refine⟨.tri (digitsVal b:Nat) y x,by rw[aE ⟨rfl,rfl⟩];rfl,⟨b0,b1,ys,xs⟩,?_⟩
       show 40::(mkC y++(32::expW (b++32::[35]) [x]))++[41]=_
       rw[show([x]:List Mak)=[]++[x]from rfl,exp_app b (by rw[hb];rfl),exp_free b3]
       show _=40::(mkC y++32::((toString ((digitsVal b:Nat):Int):Str).cps.toList++32::(mkC x++[41])))
       rw[b2]
       simp[expW]
      ·have l1:rs1.length=1:=by rw[cc]at hc;simpa using hc.symm
       obtain⟨u,rfl⟩:=List.length_eq_one_iff.mp l1
       cases ea2
       subst ec2
       refine⟨.tri (digitsVal b:Nat) x y,by rw[ai fun q=>nc q.2];rfl,⟨b0,b1,xs,ys⟩,?_⟩
       show 40::(mkC x++(32::expW (b++32::c) []))++[41]=40::(mkC x++32::((toString ((digitsVal b:Nat):Int):Str).cps.toList++32::(mkC y++[41])))
       rw[b2,mc,exp_free (by simp[b3,fc])]
       simp
     ·rcases hcc with⟨rfl,ec2⟩ | ⟨nc,ec2,cc,mc,fc⟩
      ·have l1:rs1.length=1:=by rw[ca]at hc;simpa using hc.symm
       obtain⟨u,rfl⟩:=List.length_eq_one_iff.mp l1
       subst ea2
       cases ec2
       refine⟨.tri (digitsVal b:Nat) x y,by rw[ai fun q=>na q.1];rfl,⟨b0,b1,xs,ys⟩,?_⟩
       rw[show a++32::(b++32::[35])=(a++32::(b++[32]))++[35] by simp,show([y]:List Mak).reverse=[]++[y]from rfl,exp_app _ (by simp[ca,hb]),exp_free (by simp[fa,b3])]
       show _=40::(mkC x++32::((toString ((digitsVal b:Nat):Int):Str).cps.toList++32::(mkC y++[41])))
       rw[b2,ma]
       simp[expW]
      ·have l0:rs1.length=0:=by rw[ca,cc]at hc;simpa using hc.symm
       obtain rfl:=List.length_eq_zero_iff.mp l0
       subst ea2
       subst ec2
       refine⟨.tri (digitsVal b:Nat) x y,by rw[ai fun q=>na q.1];rfl,⟨b0,b1,xs,ys⟩,?_⟩
       show _=40::(mkC x++32::((toString ((digitsVal b:Nat):Int):Str).cps.toList++32::(mkC y++[41])))
       rw[b2,ma,mc,exp_free (by simp[fa,b3,fc])]
       simp
  ·cases h
 ·cases h
theorem step_ok {c:Nat}{rs rs':List Mak}{op op':List (List Nat)}{p:List Nat}(h:stepR c (rs,op)=some (rs',op'))(hj:JR op rs p)(hs:smA rs)(h35:c≠35):JR op' rs' (p++[c])/\smA rs':=by
 cases op with
 | nil=>exact hj.elim
 | cons w op =>
  have h:(if c=40 then some (rs,[]::w::op)else if c=41 then closeR rs w op else some (rs,(w++[c])::op))=some (rs',op'):=h
  split at h
  ·rename_i q
   cases h
   exact⟨⟨[],_,p,rfl,rfl,hj,by rw[q];rfl⟩,hs⟩
  ·split at h
   ·rename_i q
    cases op with
    | nil=>cases h
    | cons w2 op =>
     obtain⟨rs1,rs2,p',rfl,h1,h2,rfl⟩:=hj
     unfold closeR at h
     cases e:innerF (rs1++rs2) w with
     | none=>rw[e]at h;cases h
     | some r =>
      rw[e]at h;cases h
      obtain⟨t,rfl,ts,et⟩:=inner_ok e h1 hs
      have:=h2.ext (v:=[35]) (us:=[t]) rfl
      rw[show expW [35] [t]=mkC t by show mkC t++[]=_;simp,<- et]at this
      refine⟨?_,fun x hx=>?_⟩
      ·rw[q]
       simpa using this
      ·rcases List.mem_cons.mp hx with rfl | hx
       ·exact ts
       ·exact hs x (aN _ hx)
   ·cases h
    have:=hj.ext (v:=[c]) (us:=[]) (List.count_eq_zero.mpr (by simpa using fun e=>h35 e.symm))
    rw[exp_free (by simpa using fun e=>h35 e.symm)]at this
    exact⟨this,hs⟩
theorem end_ok {rs:List Mak}{op:List (List Nat)}{p:List Nat}{t:Mak}(h:endR (rs,op)=some t)(hj:JR op rs p)(hs:smA rs):p=mkC t/\t.sm:=by
 unfold endR at h
 split at h
 ·rename_i rs' w e
  cases e
  obtain⟨h1,h2⟩:w.count 35=rs.length/\p=expW w rs.reverse:=hj
  split at h
  ·rename_i q
   subst q
   obtain⟨u,rfl⟩:=List.length_eq_one_iff.mp h1.symm
   cases h
   rw[h2]
   exact⟨by show mkC t++[]=_;simp,hs t ae⟩
  ·split at h
   ·rename_i f
    cases h
    obtain⟨a,b,c,d,_,_⟩:=fig_is f
    rw[h2,exp_free d]
    exact⟨c.symm,a,b⟩
   ·cases h
 ·cases h
theorem res_ok:∀ {l:List Nat} {rs:List Mak} {op:List (List Nat)} {p:List Nat} {t:Mak},resR l (rs,op)=some t->JR op rs p->smA rs->35∉l->p++l=mkC t/\t.sm
 | [],rs,op,p,t,h,hj,hs,_=>by rw[aR];exact end_ok h hj hs
 | c::l,rs,op,p,t,h,hj,hs,hn=>by
  unfold resR runR at h
  cases e:stepR c (rs,op)with
  | none=>rw[e]at h;cases h
  | some s =>
   obtain⟨rs',op'⟩:=s
   rw[e]at h
   have a:=step_ok e hj hs (fun q=>hn (q▸ae))
   have:=res_ok (l:=l) h a.1 a.2 fun m=>hn (gxI _ m)
   rwa [aJ]at this
end L2
namespace L2
open PySem PySem.Spec PyProof.Rows PyProof PySem.W.KIN PySem.NumText
def markF:Mak->List Nat
 | .num n=>(toString n:Str).cps.toList
 | .tri _ _ _=>[35]
def pushF:Mak->List Mak->List Mak
 | .num _,rs=>rs
 | .tri p l r,rs=>.tri p l r::rs
theorem run_cons {c:Nat}{l:List Nat}{s:List Mak×List (List Nat)}:runR (c::l) s=match stepR c s with | some s'=>runR l s' | none=>none:=rfl
theorem run_sign {c:Nat}{l w:List Nat}{rs:List Mak}{op:List (List Nat)}(h1:c≠40)(h2:c≠41):runR (c::l) (rs,w::op)=runR l (rs,(w++[c])::op):=by
 rw[run_cons]
 have:stepR c (rs,w::op)=some (rs,(w++[c])::op):=by unfold stepR;dsimp only;rw[ai h1,ai h2]
 rw[this]
theorem run_figs {rs:List Mak}{op:List (List Nat)}{l:List Nat}:∀ {ds w:List Nat},(∀ c∈ds,48<=c/\c<58)->runR (ds++l) (rs,w::op)=runR l (rs,(w++ds)::op)
 | [],w,_=>by rw[aR];rfl
 | c::ds,w,h=>by
  have:=h c ae
  rw[bB,run_sign (by omega) (by omega),run_figs fun x hx=>h x (gxI _ hx),aJ];rfl
theorem mark_free {t:Mak}(h:t.sm):32∉markF t:=by
 cases t with
 | num n=>intro m;have:=fig_cps h.1 _ m;omega
 | tri p l r=>show 32∉[35];decide
theorem fig_mark {n:Int}(h:0<=n):(toString n:Str).cps.toList≠[35]:=fun e=>by
 have:=fig_cps h 35 (by rw[e];exact ae)
 omega
theorem part_num {n:Int}{rs:List Mak}(h0:0<=n)(h1:n<10000):partF (toString n:Str).cps.toList rs=some (.num n,rs):=by
 obtain⟨a,b⟩:=fig_of h0 h1
 unfold partF
 rw[ai (fig_mark h0),aE a,b]
theorem inner_mk {p:Int}{l r:Mak}{rs:List Mak}(h:(Mak.tri p l r).sm):innerF (pushF r (pushF l rs)) (markF l++32::((toString p:Str).cps.toList++32::markF r))=some (.tri p l r::rs):=by
 obtain⟨p0,p1,hl,hr⟩:=h
 obtain⟨a,b⟩:=fig_of p0 p1
 unfold innerF
 rw[spl_app (mark_free hl),spl_app (fun m=>by have:=fig_cps p0 _ m;omega),spl_free (mark_free hr)]
 dsimp only
 rw[aE a,b]
 cases l with
 | num n =>
  have q1:(markF (.num n):List Nat)=(toString n:Str).cps.toList:=rfl
  rw[q1,part_num hl.1 hl.2]
  dsimp only
  cases r with
  | num k =>
   have q2:(markF (.num k):List Nat)=(toString k:Str).cps.toList:=rfl
   rw[q2,part_num hr.1 hr.2]
   dsimp only
   rw[ai fun q=>fig_mark hl.1 q.1];rfl
  | tri p2 l2 r2 =>
   show(match partF [35] (.tri p2 l2 r2::rs)with | none=>none | some (y,r2)=>_)=_
   dsimp only [partF]
   rw[aE rfl]
   dsimp only
   rw[ai fun q=>fig_mark hl.1 q.1];rfl
 | tri p2 l2 r2 =>
  cases r with
  | num k =>
   show(match partF [35] (.tri p2 l2 r2::rs)with | none=>none | some (x,r1)=>_)=_
   dsimp only [partF]
   rw[aE rfl]
   dsimp only
   have q2:(markF (.num k):List Nat)=(toString k:Str).cps.toList:=rfl
   have q3:=part_num (rs:=rs) hr.1 hr.2
   unfold partF at q3
   rw[q2,q3]
   dsimp only
   rw[ai fun q=>fig_mark hr.1 q.2]
  | tri p3 l3 r3=>rfl
theorem run_mkC:∀ {t:Mak} {rs:List Mak} {w:List Nat} {op:List (List Nat)} {l:List Nat},t.sm->runR (mkC t++l) (rs,w::op)=runR l (pushF t rs,(w++markF t)::op)
 | .num n,rs,w,op,l,h=>run_figs (fig_cps h.1)
 | .tri p a b,rs,w,op,l,h=>by
  rw[show mkC (.tri p a b)=40::(mkC a++32::((toString p:Str).cps.toList++32::(mkC b++[41])))from rfl]
  simp only[bB,aJ]
  rw[run_cons]
  show runR _ (rs,[]::w::op)=_
  rw[run_mkC h.2.2.1,run_sign (by decide) (by decide),run_figs (fig_cps h.1),run_sign (by decide) (by decide),run_mkC h.2.2.2,run_cons]
  have e:((([]++markF a++[32])++(toString p:Str).cps.toList++[32])++markF b)=markF a++32::((toString p:Str).cps.toList++32::markF b):=by simp
  rw[e]
  have:stepR 41 (pushF b (pushF a rs),(markF a++32::((toString p:Str).cps.toList++32::markF b))::w::op)=some (.tri p a b::rs,(w++[35])::op):=by
   show closeR _ _ (w::op)=_
   unfold closeR
   rw[inner_mk h]
  rw[this];rfl
theorem mk_free:∀ {t:Mak},t.sm->35∉mkC t
 | .num n,h=>fun m=>by have:=fig_cps h.1 _ m;omega
 | .tri p l r,h=>by
  have a:=mk_free h.2.2.1
  have b:=mk_free h.2.2.2
  have c:35∉(toString p:Str).cps.toList:=fun m=>by have:=fig_cps h.1 _ m;omega
  rw[show mkC (.tri p l r)=40::(mkC l++32::((toString p:Str).cps.toList++32::(mkC r++[41])))from rfl]
  simp only[bw,List.mem_append,bb,cG]
  rintro(q | q | q | q | q | q | q)
  ·cases q
  ·exact a q
  ·cases q
  ·exact c q
  ·cases q
  ·exact b q
  ·cases q
theorem read_iff {z:Str}{t:Mak}:readF z.cps.toList=some t↔IsMk z t:=by
 constructor
 ·intro h
  unfold readF at h
  split at h
  ·cases h
  ·rename_i q
   obtain⟨a,b⟩:=res_ok (p:=[]) h ⟨rfl,rfl⟩ (fun _ h=>nomatch h) (fun m=>q (.inl m))
   rw[List.nil_append]at a
   have c:=cnt_mk b
   rw[<- a]at c
   refine⟨?_,b,by have:¬ 39<cnt 40 z.cps.toList:=fun m=>q (.inr m);omega⟩
   rw[<- mkT_cps]at a
   exact Str.ext' (Array.toList_inj.mp a)
 ·rintro⟨rfl,b,c⟩
  have d:=cnt_mk b
  rw[mkT_cps]
  unfold readF
  rw[ai fun q=>by
   rcases q with q | q
   ·exact mk_free b q
   ·omega]
  unfold resR
  have:=run_mkC (rs:=[]) (w:=[]) (op:=[]) (l:=[]) b
  rw[aR]at this
  rw[this]
  cases t with
  | num n =>
   obtain⟨e,f⟩:=fig_of b.1 b.2
   show(if(toString n:Str).cps.toList=[35]then _ else if figB (toString n:Str).cps.toList=true then some (Mak.num (digitsVal (toString n:Str).cps.toList:Nat))else none)=_
   rw[ai (fig_mark b.1),aE e,f]
  | tri p l r=>rfl
theorem step_asc {n:Nat}{st:List Str×Str}{c:Nat}(hc:c<n)(h1:∀ w∈st.1,∀ k∈w.cps.toList,k<n)(h2:∀ k∈st.2.cps.toList,k<n):(∀ w∈(KWd.step st c).1,∀ k∈w.cps.toList,k<n)/\∀ k∈(KWd.step st c).2.cps.toList,k<n:=by
 unfold KWd.step
 split
 ·split
  ·exact⟨h1,h2⟩
  ·refine⟨fun w hw=>?_,fun k hk=>nomatch hk⟩
   rcases List.mem_append.mp hw with q | q
   ·exact h1 w q
   ·rw[List.mem_singleton.mp q];exact h2
 ·refine⟨h1,fun k hk=>?_⟩
  rw[cw,bJ]at hk
  rcases List.mem_append.mp hk with q | q
  ·exact h2 k q
  ·rw[List.mem_singleton.mp q];exact hc
theorem fold_asc {n:Nat}:∀ {l:List Nat} {st:List Str×Str},(∀ c∈l,c<n)->(∀ w∈st.1,∀ k∈w.cps.toList,k<n)->(∀ k∈st.2.cps.toList,k<n)->(∀ w∈(l.foldl KWd.step st).1,∀ k∈w.cps.toList,k<n)/\∀ k∈(l.foldl KWd.step st).2.cps.toList,k<n
 | [],st,_,h1,h2=>⟨h1,h2⟩
 | c::l,st,h,h1,h2=>by
  obtain⟨a,b⟩:=step_asc (h c ae) h1 h2
  exact fold_asc (l:=l) (fun x hx=>h x (gxI _ hx)) a b
theorem words_asc {z:Str}(h:asc z.cps.toList):∀ w∈Txt.words z,asc w.cps.toList:=by
 rw[KWd.words_scan]
 obtain⟨a,b⟩:=fold_asc (st:=([],Str.empty)) h (fun _ h=>nomatch h) (fun _ h=>nomatch h)
 unfold KWd.fin
 split
 ·exact a
 ·intro w hw
  rcases List.mem_append.mp hw with q | q
  ·exact a w q
  ·rw[List.mem_singleton.mp q];exact b
theorem rep_asc {z y:Str}{c:Nat}(h:asc z.cps.toList)(hy:asc y.cps.toList):asc (Txt.replace z ⟨#[c]⟩ y).cps.toList:=by
 rw[rep_flat]
 intro k hk
 obtain⟨x,hx,q⟩:=List.mem_flatMap.mp hk
 unfold repF at q
 split at q
 ·exact hy k q
 ·rw[List.mem_singleton.mp q];exact h x hx
def fFigX (cB:Addr):DSpX:=fun ds μ K Kx=>match ds with
 | [.str z]=>(∃ m,μ[0]?=some m)/\asc z.cps.toList/\z.length<=10000/\(match numF z with | some n=>K (.int n) μ | none=>Kx (.ref cB) μ)
 | _=>False
theorem fFigX_len {cB:Addr}{ds:List D}{μ:MS}{K:DK}{Kx:DX}(h:fFigX cB ds μ K Kx):ds.length=1/\∃ m,μ[0]?=some m:=by
 unfold fFigX at h;split at h
 ·exact⟨rfl,h.1⟩
 ·exact h.elim
def fCloseX (cB:Addr):DSpX:=fun ds μ K Kx=>match ds with
 | [.mr j]=>(∃ m,μ[0]?=some m)/\j≠0/\∃ st:List (Option Mak),lvM μ j=some (st.reverse.map siD)/\st.length<=10000/\(match closeF st with | some s'=>K .non (μ.set j (.lst (s'.reverse.map siD))) | none=>Kx (.ref cB) μ)
 | _=>False
theorem fCloseX_len {cB:Addr}{ds:List D}{μ:MS}{K:DK}{Kx:DX}(h:fCloseX cB ds μ K Kx):ds.length=1/\∃ m,μ[0]?=some m:=by
 unfold fCloseX at h;split at h
 ·exact⟨rfl,h.1⟩
 ·exact h.elim
def fLooseX (cB:Addr):DSpX:=fun ds μ K Kx=>match ds with
 | [.lst y]=>(∃ m,μ[0]?=some m)/\∃ ws:List Str,y=ws.map D.str/\ws.length<=5000/\(∀ w∈ws,asc w.cps.toList/\w.length<=10000)/\(match looseF [] ws with | some t=>K (mkD t) μ | none=>Kx (.ref cB) μ)
 | _=>False
theorem fLooseX_len {cB:Addr}{ds:List D}{μ:MS}{K:DK}{Kx:DX}(h:fLooseX cB ds μ K Kx):ds.length=1/\∃ m,μ[0]?=some m:=by
 unfold fLooseX at h;split at h
 ·exact⟨rfl,h.1⟩
 ·exact h.elim
def fMakeOfX (cB:Addr):DSpX:=fun ds μ K Kx=>match ds with
 | [.str z]=>(∃ m,μ[0]?=some m)/\z.length<=900/\asc z.cps.toList/\(∀ t,IsMk z t->K (mkD t) μ)/\((∀ t,¬ IsMk z t)->Kx (.ref cB) μ)
 | _=>False
theorem fMakeOfX_len {cB:Addr}{ds:List D}{μ:MS}{K:DK}{Kx:DX}(h:fMakeOfX cB ds μ K Kx):ds.length=1/\∃ m,μ[0]?=some m:=by
 unfold fMakeOfX at h;split at h
 ·exact⟨rfl,h.1⟩
 ·exact h.elim
def fSignA:DSp:=fun ds μ K=>match ds with
 | [.mr k]=>μ[k]?=some .box/\∀ c:Nat,c<128->K (.str ⟨#[c]⟩) μ
 | _=>False
def fSpoiltA:DSp:=fun ds μ K=>match ds with
 | [.mr k,.str z]=>μ[k]?=some .box/\z.length<=900/\asc z.cps.toList/\∀ y:Str,y.length<=z.length+1->asc y.cps.toList->K (.str y) μ
 | _=>False
def fFigL:DSp:=fun ds μ K=>match ds with
 | [.str z]=>z.length<=1000/\K (.bl (figB z.cps.toList)) μ
 | _=>False
def fInnerL:DSp:=fun ds μ K=>match ds with
 | [.mr j,.str z]=>∃ rs:List Mak,lvM μ j=some (rs.reverse.map mkD)/\rs.length<=1000/\z.length<=1000/\(match innerF rs z.cps.toList with | some r=>K (.bl true) (μ.set j (.lst (r.reverse.map mkD))) | none=>∀ rs':List Mak,K (.bl false) (μ.set j (.lst (rs'.reverse.map mkD))))
 | _=>False
def omD (o:Option Mak):D:=match o with
 | some t=>mkD t
 | none=>.non
def fReadL:DSp:=fun ds μ K=>match ds with
 | [.str z]=>z.length<=900/\K (omD (readF z.cps.toList)) μ
 | _=>False
def toldT (o:Option Mak):D:=match o with
 | some t=>.tup [.str "make",mkD t]
 | none=>.tup [.str "refused",.lst [.str (kWord 3)]]
def fToldT (K:PySem.W.Frag)(cs:List Addr)(cH:Addr):DSp:=fun ds μ Kd=>match ds with
 | [.str z]=>(∃ m,μ[0]?=some m)/\KinB K cs cH 3/\z.length<=900/\asc z.cps.toList/\Kd (toldT (readF z.cps.toList)) μ
 | _=>False
def fUnfW:DSp:=fun ds μ K=>match ds with
 | [d]=>∃ t:Mak,d=mkD t/\t.cnt<=5000/\K (.lst (t.pre.map mkD)) μ
 | _=>False
def fMakeTextW:DSp:=fun ds μ K=>match ds with
 | [d]=>∃ t:Mak,d=mkD t/\t.cnt<=5000/\t.sm/\K (.str (mkT t)) μ
 | _=>False
def isN:Option Mak->Bool
 | some (.num _)=>true
 | _=>false
theorem ne_si {o:Option Mak}{μ:MS}{K:DK}(k:K (.bl o.isSome) μ):dEqT true (siD o) (.str "(") μ K:=by
 cases o with
 | none=>show K (.bl (true != decide (("(" : Str) = "("))) μ;rw[au rfl];exact k
 | some t=>cases t <;> exact k
theorem eq_si {o:Option Mak}{μ:MS}{K:DK}(k:K (.bl o.isNone) μ):dEqT false (siD o) (.str "(") μ K:=by
 cases o with
 | none=>show K (.bl (false != decide (("(" : Str) = "("))) μ;rw[au rfl];exact k
 | some t=>cases t <;> exact k
theorem ty_si {o:Option Mak}{μ:MS}{K:DK}(k:K (.bl (isN o)) μ):opt (tyN (siD o) μ) fun t=>K (.bl (isiT t "int")) μ:=by
 cases o with
 | none=>exact k
 | some t=>cases t <;> exact k
theorem close_at {a b c d:Option Mak}{s0:List (Option Mak)}(h:closeF (a::b::c::d::s0)=none):(d.isSome||(c.isNone||(a.isNone||!isN b)))=true:=by
 rcases d with _ | d
 ·rcases c with _ | c
  ·rfl
  ·rcases a with _ | a
   ·rfl
   ·rcases b with _ | b
    ·rfl
    ·cases b with
     | num p=>cases h
     | tri p l r=>rfl
 ·rfl
end L2
namespace L2
open PySem PySem.Spec PyProof.Rows PyProof PySem.W.KIN PySem.NumText
theorem sm_toldT (o:Option Mak)(h:∀ t,o=some t->t.dep<=40):smD 63 (toldT o):=by
 cases o with
 | some t=>exact sm_tup (by simp only[ah,cL];omega) (fun d hd=>by simp only[bw,bb,cG]at hd;rcases hd with rfl | rfl;exact sm_str;exact sm_mk t (by have:=h t rfl;omega))
 | none=>exact sm_tup (by simp only[ah,cL];omega) (fun d hd=>by simp only[bw,bb,cG]at hd;rcases hd with rfl | rfl;exact sm_str;exact sm_lst (by simp only[ah,cL];omega) fun d hd=>by rw[List.mem_singleton.mp hd];exact sm_str)
theorem fig_mem (c:Nat):decide (c∈(Str.ofString "0123456789").cps.toList)=(decide (48<=c)&&decide (c<58)):=by
 have e:(Str.ofString "0123456789").cps.toList=(List.range 10).map (48+·):=by decide +kernel
 rw[e]
 have:c∈(List.range 10).map (48+·)↔48<=c/\c<58:=by
  rw[List.mem_map]
  constructor
  ·rintro⟨a,ha,rfl⟩;have:=List.mem_range.mp ha;omega
  ·intro h;exact⟨c - 48,List.mem_range.mpr (by omega),by omega⟩
 rw[<- Bool.decide_and]
 exact decide_eq_decide.mpr this
theorem cut_asc {l:List Nat}{lo hi:Option Int}(h:asc l):asc (cutL l lo hi):=fun c hc=>h c (List.mem_of_mem_drop (aP hc))
theorem asc_app {a b:List Nat}(h1:asc a)(h2:asc b):asc (a++b):=fun c hc=>by
 rcases List.mem_append.mp hc with q | q
 ·exact h1 c q
 ·exact h2 c q
theorem cut_one {l:List Nat}{p:Int}(h:0<=p):(cutL l (some p) (some (p+1))).length<=1:=by
 unfold cutL HT.sIx
 rw[a9]
 dsimp only
 rw[ai (by omega),ai (by omega)]
 omega
def stpM (s:Option (List Mak×List Mak))(w:List Nat):Option (List Mak×List Mak):=match s with
 | none=>none
 | some (ps,r)=>match partF w r with
  | none=>none
  | some (x,r')=>some (ps++[x],r')
theorem parts_none:∀ ws:List (List Nat),ws.foldl stpM none=none
 | []=>rfl
 | w::ws=>parts_none ws
theorem inner_parts {rs:List Mak}{l a b c:List Nat}(e:spl 32 l=[a,b,c])(hb:figB b=true):innerF rs l=match [a,c].foldl stpM (some ([],rs))with | some ([x,y],r)=>some ((if a=[35]/\c=[35]then Mak.tri (digitsVal b:Nat) y x else Mak.tri (digitsVal b:Nat) x y)::r) | _=>none:=by
 unfold innerF
 rw[e]
 dsimp only [List.foldl_cons,List.foldl_nil,stpM]
 rw[aE hb]
 cases partF a rs with
 | none=>rfl
 | some xr =>
  obtain⟨x,r1⟩:=xr
  dsimp only
  cases partF c r1 with
  | none=>rfl
  | some yr=>rfl
theorem fig_num {z:Str}(h:figB z.cps.toList=true):numF z=some ((digitsVal z.cps.toList:Nat):Int):=by
 unfold figB at h
 simp only[aQ,aX]at h
 obtain⟨⟨⟨h1,h2⟩,h3⟩,h4⟩:=h
 exact aE ⟨h1,h2,h4⟩
theorem mk_all {n:Nat}(l:List Mak):mrL n (l.map mkD):=mr_all fun d hd=>by obtain⟨x,_,rfl⟩:=List.mem_map.mp hd;exact mrB_mk x
theorem drop_two {μ:MS}{j:Nat}{l:List Mak}{g:MS}{K:DK}{d:D}(hm:∀(i:Nat) (m:MO),μ[i]?=some m->moB μ.length m)(hd:mrB μ.length d)(k:K d (μ.set j (.lst (l.map mkD)))):Fz μ.length K d (μ.set j (.lst (l.map mkD))++g):=by
 have ln:(μ.set j (.lst (l.map mkD))).length=μ.length:=aW ..
 refine .drop hd (fun i m hi e=>?_) (by rw[<- ln,bp];exact k)
 rw[gxF (by rw[ln];exact hi)]at e
 by_cases q:j=i
 ·subst q
  rw[aI hi]at e
  cases e
  exact mk_all l
 ·rw[aM q]at e
  exact hm i m e
theorem at_two {μ:MS}{j:Nat}{l:List D}{g:MS}(jl:j<μ.length):lvM (μ.set j (.lst l)++g) j=some l:=lvM_app (lvM_set jl)
theorem set_tw {μ:MS}{j:Nat}{x y:MO}{g:MS}(jl:j<μ.length):(μ.set j x++g).set j y=μ.set j y++g:=by rw[List.set_append_left _ _ (by rw[aW];exact jl),List.set_set]
theorem at_own {μ:MS}{j:Nat}{x:MO}{l:List D}:lvM (μ.set j x++[.lst l]) μ.length=some l:=by
 have:lvM (μ.set j x++[.lst l]) (μ.set j x).length=some l:=lvM_new
 rwa [aW]at this
theorem set_own {μ:MS}{j:Nat}{x y z:MO}:(μ.set j x++[y]).set μ.length z=μ.set j x++[z]:=by
 have:(μ.set j x++[y]).set (μ.set j x).length z=μ.set j x++[z]:=set_end
 rwa [aW]at this
theorem ix_m1 {xs:List D}{x:D}:ixN (xs++[x]).length (-1)=some xs.length:=by
 unfold ixN
 rw[gxE,bf,ai (by decide),aE (by omega)]
 congr 1
 omega
theorem at_m1 {xs:List D}{x:D}:atI (xs++[x]) (-1)=some x:=by
 unfold atI
 rw[ix_m1]
 show(xs++[x])[xs.length]?=_
 rw[gxG (aa _),br];rfl
theorem set_m1 {xs:List D}{x y:D}:(xs++[x]).set xs.length y=xs++[y]:=by rw[c9 _ _ (aa _),br];rfl
theorem dtOr_no {a c:Dt}{ρ:DE}{μ:MS}{K:Bool->MS->Prop}(h:TV a ρ μ false)(k:c ρ μ K):dtOr a c ρ μ K:=h _ (by rw[ai ag];exact k)
theorem mul_len (z:Str)(n:Int):(Txt.mul z n).length=n.toNat*z.length:=by
 have e:(Txt.mul z n).length=(Txt.mul z n).cps.toList.length:=rfl
 rw[e,mul_cps,List.length_flatten,cP,List.sum_replicate_nat]
 rfl
theorem mul_asc {z:Str}{n:Int}(h:asc z.cps.toList):asc (Txt.mul z n).cps.toList:=by
 rw[mul_cps]
 intro c hc
 obtain⟨l,hl,hc⟩:=List.mem_flatten.mp hc
 rw[(List.mem_replicate.mp hl).2]at hc
 exact h c hc
theorem str_asc {a b:Str}(h1:asc a.cps.toList)(h2:asc b.cps.toList):asc (a++b).cps.toList:=by
 rw[cw,bJ];exact asc_app h1 h2
theorem mk_asc:∀ {t:Mak},t.sm->asc (mkC t)
 | .num n,h=>fun c hc=>by have:=fig_cps h.1 c hc;omega
 | .tri p l r,h=>by
  have a:=mk_asc h.2.2.1
  have b:=mk_asc h.2.2.2
  have f:asc (toString p:Str).cps.toList:=fun c hc=>by have:=fig_cps h.1 c hc;omega
  have one:∀ k:Nat,k<128->asc [k]:=fun k hk c hc=>by rw[List.mem_singleton.mp hc];exact hk
  exact asc_app (one 40 (by decide)) (asc_app a (asc_app (one 32 (by decide)) (asc_app f (asc_app (one 32 (by decide)) (asc_app b (one 41 (by decide)))))))
theorem dep_cnt:∀ t:Mak,t.dep+1<=t.cnt
 | .num _=>aa _
 | .tri p l r=>by
  have a:=dep_cnt l
  have b:=dep_cnt r
  show max l.dep r.dep+1+1<=l.cnt+r.cnt
  omega
end L2
namespace Pf
open PySem L2 PyProof.Rows
def top (i:Nat):Stmt:=PySem.Challenge.pw_hissroom_k16_texts_of_no_make.main.body.getD i (.Pass ⟨0,0,0,0⟩)
abbrev s_box:Stmt:=top 29
abbrev s_take:Stmt:=top 30
abbrev s_same:Stmt:=top 37
abbrev s_unfolded:Stmt:=top 22
abbrev s_make:Stmt:=top 31
abbrev s_make_text:Stmt:=top 23
abbrev s_number_of_figures:Stmt:=top 27
abbrev s_close_bracket:Stmt:=top 26
abbrev s_loose_make:Stmt:=top 25
abbrev s_make_of:Stmt:=top 24
abbrev s_text:Stmt:=top 34
abbrev s_numbered:Stmt:=top 39
abbrev s_sign:Stmt:=top 35
abbrev s_spoilt:Stmt:=top 36
abbrev s_kinds:Stmt:=top 38
abbrev s_figures:Stmt:=top 40
abbrev s_inner:Stmt:=top 41
abbrev s_read:Stmt:=top 42
abbrev s_told:Stmt:=top 43
abbrev s_law:Stmt:=top 44
theorem sc_box:FnScope ["_law_script"] (pA s_box) (defScope s_box):=mkSc
theorem sc_take:FnScope ["_law_box_here", "_law_many", "_law_rest", "_law_cell", "_law_one", "_law_two"] (pA s_take) (defScope s_take):=mkSc
theorem sc_same:FnScope ["_law_found", "_law_due"] (pA s_same) (defScope s_same):=mkSc
theorem sc_unfolded:FnScope ["make", "told", "coming", "part", "place", "left", "right"] (pA s_unfolded) (defScope s_unfolded):=mkSc
theorem sc_make:FnScope ["_law_box_here", "_law_many", "_law_places", "_law_deep", "_law_place", "_law_left"] (pA s_make) (defScope s_make):=mkSc
theorem sc_make_text:FnScope ["make", "ready", "part", "left", "right"] (pA s_make_text) (defScope s_make_text):=mkSc
theorem sc_number_of_figures:FnScope ["word"] (pA s_number_of_figures) (defScope s_number_of_figures):=mkSc
theorem sc_close_bracket:FnScope ["ready", "bracket", "left", "place", "right"] (pA s_close_bracket) (defScope s_close_bracket):=mkSc
theorem sc_loose_make:FnScope ["words", "ready", "word"] (pA s_loose_make) (defScope s_loose_make):=mkSc
theorem sc_make_of:FnScope ["text", "make"] (pA s_make_of) (defScope s_make_of):=mkSc
theorem sc_text:FnScope ["_law_make_here"] (pA s_text) (defScope s_text):=mkSc
theorem sc_numbered:FnScope ["_law_box_here", "_law_make_here", "_law_number"] (pA s_numbered) (defScope s_numbered):=mkSc
theorem sc_sign:FnScope ["_law_box_here", "_law_some"] (pA s_sign) (defScope s_sign):=mkSc
theorem sc_spoilt:FnScope ["_law_box_here", "_law_text_here", "_law_at", "_law_way"] (pA s_spoilt) (defScope s_spoilt):=mkSc
theorem sc_kinds:FnScope ["_law_e", "_law_found", "_law_words"] (pA s_kinds) (defScope s_kinds):=mkSc
theorem sc_figures:FnScope ["_law_word"] (pA s_figures) (defScope s_figures):=mkSc
theorem sc_inner:FnScope ["_law_stack", "_law_word", "_law_words", "_law_parts", "_law_one"] (pA s_inner) (defScope s_inner):=mkSc
theorem sc_read:FnScope ["_law_text_here", "_law_stack", "_law_opened", "_law_sign_here"] (pA s_read) (defScope s_read):=mkSc
theorem sc_told:FnScope ["_law_text_here", "_law_found", "_law_e"] (pA s_told) (defScope s_told):=mkSc
theorem sc_law:FnScope ["_law_script", "_law_box_here", "_law_text_here", "_law_way", "_law_odd", "_law_deep", "_law_due"] (pA s_law) (defScope s_law):=mkSc
def cBadText:Addr:=73
def cBadBars:Addr:=37
def cBadMake:Addr:=49
def cBadNumber:Addr:=61
def cBadName:Addr:=85
def cBadAge:Addr:=97
def cBadBar:Addr:=109
def cBadPlace:Addr:=121
def cBadSize:Addr:=217
def cTaken:Addr:=133
def cFull:Addr:=145
def cNoTake:Addr:=157
def cShut:Addr:=169
def cJoined:Addr:=181
def cNeeded:Addr:=193
def cNothingLeft:Addr:=205
def cNoWay:Addr:=236
def cHissError:Addr:=24
abbrev rcs:List Addr:=[cBadBars,cBadMake,cBadNumber,cBadText,cBadName,cBadAge,cBadBar,cBadPlace,cBadSize,cTaken,cFull,cNoTake,cShut,cJoined,cNeeded,cNothingLeft,cNoWay]
section
variable (P:Program)(w:World)(K:PySem.W.Frag)(mg:Str->Option Value)(base:Heap)
abbrev c_box:Prop:=Cal P w K mg base "_law_box" 1 (pA s_box) (spBoxQ K)
abbrev c_take:Prop:=Cal P w K mg base "_law_take" 1 (pA s_take) (spD fTake)
abbrev c_same:Prop:=Cal P w K mg base "_law_same" 64 (pA s_same) (spD (fSameN 63))
abbrev c_unfolded:Prop:=Cal P w K mg base "unfolded" 1 (pA s_unfolded) (spD fUnfW)
abbrev c_make:Prop:=Cal P w K mg base "_law_make" 8 (pA s_make) (spD (fMakeL 6))
abbrev c_make_text:Prop:=Cal P w K mg base "make_text" 3 (pA s_make_text) (spD fMakeTextW)
abbrev c_number_of_figures:Prop:=CalX P w K mg base "number_of_figures" 1 (pA s_number_of_figures) (spX (fFigX cBadText))
abbrev c_close_bracket:Prop:=CalX P w K mg base "close_bracket" 1 (pA s_close_bracket) (spX (fCloseX cBadText))
abbrev c_loose_make:Prop:=CalX P w K mg base "loose_make" 2 (pA s_loose_make) (spX (fLooseX cBadText))
abbrev c_make_of:Prop:=CalX P w K mg base "make_of" 5 (pA s_make_of) (spX (fMakeOfX cBadText))
abbrev c_text:Prop:=Cal P w K mg base "_law_text" 41 (pA s_text) (spD (fTextL 40))
abbrev c_numbered:Prop:=Cal P w K mg base "_law_numbered" 42 (pA s_numbered) (spD (fNumd 40))
abbrev c_sign:Prop:=Cal P w K mg base "_law_sign" 2 (pA s_sign) (spD fSignA)
abbrev c_spoilt:Prop:=Cal P w K mg base "_law_spoilt" 3 (pA s_spoilt) (spD fSpoiltA)
abbrev c_kinds:Prop:=CalH P w K mg base "_law_kinds" 1 (pA s_kinds) (fKindsJ K rcs cHissError)
abbrev c_figures:Prop:=Cal P w K mg base "_law_figures" 1 (pA s_figures) (spD fFigL)
abbrev c_inner:Prop:=Cal P w K mg base "_law_inner" 2 (pA s_inner) (spD fInnerL)
abbrev c_read:Prop:=Cal P w K mg base "_law_read" 3 (pA s_read) (spD fReadL)
abbrev c_told:Prop:=Cal P w K mg base "_law_told" 7 (pA s_told) (spD (fToldT K rcs cHissError))
end
section
variable {P:Program}{w:World}{K:PySem.W.Frag}{mg:Str->Option Value}{base:Heap}{f:Addr}{fd:FuncData}
theorem ok_box (F:Fun K "_law_box" "_law_box" s_box f fd)(T:Bi2 mg)  : FnOk P w K mg base CX0 1 f fd (pA s_box) (spBoxQ K):=by
 refine F.ok sc_box (fun vs H Q E h=>?_) (fun cdv A outer s H vs Q E hr h=>?_)
 ·unfold spBoxQ at h;split at h
  ·rfl
  ·exact h.elim
 ·unfold spBoxQ at h;split at h
  ·rename_i a
   obtain⟨ns,hs,k⟩:=h
   refine⟨_,(pss_one (ps_ret (pe_lst (pa_cons (pe_callTy listC (by rfl) T.list cf (pa_cons (pvC 0) pa_nil)) (pa_cons pe_int (pa_cons pe_int (pa_cons pe_int pa_nil))))))),?_⟩
   refine⟨_,hs,fun l hl=>?_⟩
   refine⟨(zs),fun b hb=>?_⟩
   have hlb:l≠b:=ne_of_none (o:=.lst (ns.map V.int)) upd_same hb
   have hb0:H b=none:=by rw[upd_ne hlb.symm]at hb;exact hb
   refine k b l _ ⟨ns,0,0,1,upd_same,by rw[upd_ne hlb];exact upd_same,hlb,by decide,by decide,by decide⟩ hb0 hl fun c o e=>?_
   rw[upd_ne (ne_of_none e hb0),upd_ne (ne_of_none e hl)]
   exact e
  ·exact h.elim
theorem ok_take (F:Fun K "_law_take" "_law_take" s_take f fd)(T:Bi2 mg)  : FnOk P w K mg base CX0 1 f fd (pA s_take) (spD fTake):=by
 refine FnOk.imp (sp:=spTakeQ) ?_ fun vs H Q E h=>take_imp h
 refine F.ok sc_take (fun vs H Q E h=>?_) (fun cdv A outer s H vs Q E hr h=>?_)
 ·obtain⟨b,n,q,rfl,_⟩:=spTakeQ_inv h;rfl
 ·obtain⟨b,n,q,rfl,⟨ns,i,r,z,hb,hq,nqb,hi,hz,hz2⟩,hn,hn2,k⟩:=spTakeQ_inv h
  refine⟨_,(pss_cons (ps_if (pt_cmpC gtC (pe_ix ixC (pvC 0) pe_int (fun _ _=>rfl)) pe_int (nomark _))
   (pss_cons (ps_set (i:=2) sc_take.nd rfl (by first | exact Or.inl rfl | exact Or.inr rfl) (pe_ix ixC (pvC 0) pe_int (fun _ _=>rfl)))
   (pss_cons (ps_asg (pe_op divC (pvC 2) (pvC 1)) (pg_sub (pvC 0) pe_int setC))
   (pss_one (ps_ret (pe_op modC (pvC 2) (pvC 1))))))
   pss_nil)
   (pss_cons (ps_asg (pe_op modC (pe_op addC (pe_op mulC (pe_ix ixC (pvC 0) pe_int (fun _ _=>rfl)) pe_int) pe_int) pe_int) (pg_sub (pvC 0) pe_int setC))
   (pss_cut (ps_if (pt_cmpC ltC (pe_ix ixC (pvC 0) pe_int (fun _ _=>rfl)) (pe_callB lenC (by rfl) T.len PySem.boot_len (pa_cons (pe_ix ixC (pvC 0) pe_int (fun _ _=>rfl)) pa_nil)) (nomark _))
   (pss_cons (ps_set (i:=3) sc_take.nd rfl (by first | exact Or.inl rfl | exact Or.inr rfl) (pe_ix ixC (pe_ix ixC (pvC 0) pe_int (fun _ _=>rfl)) (pe_ix ixC (pvC 0) pe_int (fun _ _=>rfl)) (fun _ _=>rfl)))
   (pss_cons (ps_augS (pvC 0) pe_int getC pe_int ip_addC setC)
   (pss_cons (ps_if (pt_cmpC geC (pvC 3) (pe_op powC pe_int pe_int) (nomark _))
   (pss_cons (ps_asg (pe_op divC (pvC 3) (pvC 1)) (pg_sub (pvC 0) pe_int setC))
   (pss_one (ps_ret (pe_op modC (pvC 3) (pvC 1)))))
   pss_nil)
   (pss_one (ps_asg (pe_op modC (pe_op addC (pe_ix ixC (pvC 0) pe_int (fun _ _=>rfl)) (pe_op mulC (pvC 3) pe_int)) pe_int) (pg_sub (pvC 0) pe_int setC))))))
   pss_nil)
   (pss_cons (ps_set (i:=4) sc_take.nd rfl (by first | exact Or.inl rfl | exact Or.inr rfl) (pe_ix ixC (pvC 0) pe_int (fun _ _=>rfl)))
   (pss_cons (ps_set (i:=5) sc_take.nd rfl (by first | exact Or.inl rfl | exact Or.inr rfl) (pe_op modC (pe_op addC (pe_op mulC (pvC 4) (pvC 4)) (pe_op divC (pvC 4) pe_int)) pe_int))
   (pss_one (ps_ret (pe_op modC (pe_op modC (pe_op addC (pe_op mulC (pvC 5) pe_int) (pvC 4)) pe_int) (pvC 1))))))))),?_⟩
  have fin:∀(v:Int) (H':Hp) (i' r' z':Int),OB b H H'->H' b=some (.lst [.ref q,.int i',.int r',.int z'])->0<=i'->0<=z'->z'<2147483647->Q (.int (v%n)) H':=fun v H' i' r' z' ob hb' h1 h2 h3 =>
   k _ _ (Int.emod_nonneg _ (by omega)) (Int.emod_lt_of_pos _ hn) ⟨ns,i',r',z',hb',(ob q nqb).trans hq,nqb,h1,h2,h3⟩ ob
  have md:∀ x:Int,0<=x%2147483647/\x%2147483647<2147483647:=fun x=>⟨Int.emod_nonneg _ (by decide),Int.emod_lt_of_pos _ (by decide)⟩
  refine⟨_,.inl hb,?_⟩
  refine iteD (fun h1=>?_) (fun h1=>?_)
  ·refine⟨_,.inl hb,⟨hn,hn2⟩,_,hb,hn,?_⟩
   exact fin _ _ _ _ _ OB.refl.upd upd_same hi hz hz2
  ·refine⟨_,.inl hb,.inr ⟨by decide,by decide⟩,pM,_,hb,?_⟩
   have ob1:∀ o,OB b H (upd H b o):=fun o=>OB.refl.upd
   refine⟨fun σ' H'=>∃(c:Option V) (i' r' z':Int),σ'=[some (.ref b),some (.int n),none,c,none,none]/\OB b H H'/\H' b=some (.lst [.ref q,.int i',.int r',.int z'])/\0<=i'/\0<=z'/\z'<2147483647,?_,?_⟩
   ·refine⟨_,.inl upd_same,_,.inl upd_same,_,.inl ((ob1 _ q nqb).trans hq),?_⟩
    refine iteD (fun h2=>?_) (fun h2=>?_)
    ·have h2':i<(ns.length:Int):=by simpa using h2
     obtain⟨c,hc⟩:∃ c,ns[i.toNat]?=some c:=⟨ns[i.toNat]'(by omega),gxA _⟩
     have e:atI (ns.map V.int) i=some (.int c):=by
      have q:=atI_nat (xs:=ns.map V.int) (j:=i.toNat) (v:=.int c) (by rw[gxH,hc];rfl)
      rwa [Int.toNat_of_nonneg hi]at q
     refine⟨_,.inl upd_same,_,.inl upd_same,_,.inl ((ob1 _ q nqb).trans hq),opt_of e ?_⟩
     refine⟨_,upd_same,by decide,_,upd_same,?_⟩
     refine⟨⟨by decide,by decide,by decide⟩,?_⟩
     refine iteD (fun h3=>?_) (fun h3=>?_)
     ·refine⟨⟨hn,hn2⟩,_,upd_same,hn,?_⟩
      exact fin _ _ (i+1) _ _ OB.refl.upd.upd.upd upd_same (by omega) (md _).1 (md _).2
     ·refine⟨_,.inl upd_same,.inr ⟨by decide,by decide⟩,pM,_,upd_same,?_⟩
      exact⟨_,i+1,_,_,rfl,OB.refl.upd.upd.upd,upd_same,by omega,(md _).1,(md _).2⟩
    ·exact⟨_,i,_,_,rfl,OB.refl.upd,upd_same,hi,(md _).1,(md _).2⟩
   ·rintro σ' H' ⟨c,i',r',z',rfl,ob,hb',h1,h2,h3⟩
    refine⟨_,.inl hb',.inl ⟨by omega,by omega⟩,⟨by decide,by decide⟩,pN,.inr ⟨by decide,by decide⟩,pM,hn,?_⟩
    exact fin _ _ i' _ _ ob hb' h1 h2 h3
theorem ok_same1 (n:Nat){f:Addr}{fd:FuncData}(F:Fun K "_law_same" "_law_same" s_same f fd)(T:Bi2 mg)(C_same:Cal P w K mg base "_law_same" n ["_law_found", "_law_due"] (spS n)):FnOk P w K mg base CX0 (n+1) f fd ["_law_found", "_law_due"] (spSame n):=by
 refine F.ok sc_same (fun vs H Q E h=>?_) (fun cdv A outer s H vs Q E hr h=>?_)
 ·unfold spSame at h;split at h
  ·rfl
  ·exact h.elim
 ·unfold spSame at h;split at h
  ·rename_i x y
   obtain⟨d,hd,hw,hx,hy,k⟩:=h
   refine⟨_,(pss_cons (ps_if (PW.pt (pw_or (pt_valC (pe_callB isiC (by rfl) T.isinstance aq (pa_cons (pvC 1) (pa_cons (pe_bltn (v:=.ty "bool") rfl T.bool cj rfl) pa_nil)))) (pw_or1 (pt_valC (pe_callB isiC (by rfl) T.isinstance aq (pa_cons (pvC 0) (pa_cons (pe_bltn (v:=.ty "bool") rfl T.bool cj rfl) pa_nil)))))))
   (pss_one (ps_ret (pe_andC (pe_callB isiC (by rfl) T.isinstance aq (pa_cons (pvC 1) (pa_cons (pe_bltn (v:=.ty "bool") rfl T.bool cj rfl) pa_nil))) (pe_andC (pe_callB isiC (by rfl) T.isinstance aq (pa_cons (pvC 0) (pa_cons (pe_bltn (v:=.ty "bool") rfl T.bool cj rfl) pa_nil))) (pe_one (pe_cmpR eqN (pvC 0) (pvC 1) (nomark _)))))))
   pss_nil)
   (pss_cons (ps_if (PW.pt (pw_or (pt_valC (pe_callB isiC (by rfl) T.isinstance aq (pa_cons (pvC 1) (pa_cons (pe_bltn (v:=.ty "list") rfl T.list cf rfl) pa_nil)))) (pw_or1 (pt_valC (pe_callB isiC (by rfl) T.isinstance aq (pa_cons (pvC 1) (pa_cons (pe_bltn (v:=.ty "tuple") rfl T.tuple bG rfl) pa_nil)))))))
   (pss_cons (ps_if (PW.pt (pw_or (pt_cmpC neC (pe_callB isiC (by rfl) T.isinstance aq (pa_cons (pvC 1) (pa_cons (pe_bltn (v:=.ty "list") rfl T.list cf rfl) pa_nil))) (pe_callB isiC (by rfl) T.isinstance aq (pa_cons (pvC 0) (pa_cons (pe_bltn (v:=.ty "list") rfl T.list cf rfl) pa_nil))) (nomark _)) (pw_or1 (pt_cmpC neC (pe_callB isiC (by rfl) T.isinstance aq (pa_cons (pvC 1) (pa_cons (pe_bltn (v:=.ty "tuple") rfl T.tuple bG rfl) pa_nil))) (pe_callB isiC (by rfl) T.isinstance aq (pa_cons (pvC 0) (pa_cons (pe_bltn (v:=.ty "tuple") rfl T.tuple bG rfl) pa_nil))) (nomark _)))))
   (pss_one (ps_ret pe_bl))
   pss_nil)
   (pss_one (ps_ret (pe_andC (pe_cmpR eqC (pe_callB lenC (by rfl) T.len PySem.boot_len (pa_cons (pvC 0) pa_nil)) (pe_callB lenC (by rfl) T.len PySem.boot_len (pa_cons (pvC 1) pa_nil)) (nomark _)) (pe_one (pe_callB (allC rfl) (by rfl) T.all PyProof.Rows.boot_all (pa_cons (pe_comp (compOk (XN:=["_law_found", "_law_due"]) (xsc:=(defScope s_same)) (N:=["_law_one", "_law_other"]) (js:=[none,none]) (by decide +kernel)) rfl (pi_zip rfl T.zip (pa_cons (pvC 0) (pa_cons (pvC 1) pa_nil))) (fun _ _ _=>(pg_tupC (n:=2) rfl (pgs_consC (pg_name (i:=0) (show List.Nodup (["_law_one", "_law_other"]:List Str) by decide +kernel) rfl (by first | exact Or.inl rfl | exact Or.inr rfl)) (pgs_consC (pg_name (i:=1) (show List.Nodup (["_law_one", "_law_other"]:List Str) by decide +kernel) rfl (by first | exact Or.inl rfl | exact Or.inr rfl)) pgs_nilC)))) (fun _ _ _=>pts_nil) (fun _ _ _=>(pe_callC C_same (hr.mono (by first | decide | exact aa _ | omega)) rfl (pa_cons (pvC 0) (pa_cons (pvC 1) pa_nil))))) pa_nil)))))))
   pss_nil)
   (pss_cons (ps_if (PW.pt (pw_or (pt_cmpC neC (pe_callB isiC (by rfl) T.isinstance aq (pa_cons (pvC 1) (pa_cons (pe_bltn (v:=.ty "str") rfl T.str bT rfl) pa_nil))) (pe_callB isiC (by rfl) T.isinstance aq (pa_cons (pvC 0) (pa_cons (pe_bltn (v:=.ty "str") rfl T.str bT rfl) pa_nil))) (nomark _)) (pw_or1 (pt_cmpC neC (pe_callB isiC (by rfl) T.isinstance aq (pa_cons (pvC 1) (pa_cons (pe_bltn (v:=.ty "int") rfl T.int aZ rfl) pa_nil))) (pe_callB isiC (by rfl) T.isinstance aq (pa_cons (pvC 0) (pa_cons (pe_bltn (v:=.ty "int") rfl T.int aZ rfl) pa_nil))) (nomark _)))))
   (pss_one (ps_ret pe_bl))
   pss_nil)
   (pss_one (ps_ret (pe_cmpR eqN (pvC 0) (pvC 1) (nomark _))))))),?_⟩
   cases d with
   | bl b =>
    obtain rfl:x=.bl b:=hx
    obtain rfl:y=.bl b:=hy
    refine⟨_,true,TyOf.bl b,kit_same K _,_,true,TyOf.bl b,kit_same K _,_,true,TyOf.bl b,kit_same K _,?_⟩
    show Q (.bl (decide (b=b))) H
    rw[au rfl]
    exact k H (Same.refl H)
   | int i =>
    obtain rfl:x=.int i:=hx
    obtain rfl:y=.int i:=hy
    refine⟨_,false,.int i,rfl,_,false,.int i,rfl,_,false,.int i,rfl,_,false,.int i,rfl,_,false,.int i,rfl,_,false,.int i,rfl,_,true,.int i,kit_same K _,_,true,.int i,kit_same K _,?_⟩
    show Q (.bl (decide (i=i))) H
    rw[au rfl]
    exact k H (Same.refl H)
   | str z =>
    obtain rfl:x=.str z:=hx
    obtain rfl:y=.str z:=hy
    refine⟨_,false,.str z,rfl,_,false,.str z,rfl,_,false,.str z,rfl,_,false,.str z,rfl,_,true,.str z,kit_same K _,_,true,.str z,kit_same K _,_,false,.str z,rfl,_,false,.str z,rfl,?_⟩
    show Q (.bl (decide (z=z))) H
    rw[au rfl]
    exact k H (Same.refl H)
   | non =>
    obtain rfl:x=.non:=hx
    obtain rfl:y=.non:=hy
    refine⟨_,false,.non,rfl,_,false,.non,rfl,_,false,.non,rfl,_,false,.non,rfl,_,false,.non,rfl,_,false,.non,rfl,_,false,.non,rfl,_,false,.non,rfl,?_⟩
    exact k H (Same.refl H)
   | lst ds =>
    obtain⟨p,vs,rfl,hp,qp⟩:=hx
    obtain⟨q,ws,rfl,hq,qq⟩:=hy
    obtain⟨m,rfl⟩:∃ m,n=m+1:=⟨n - 1,by unfold dep at hd;omega⟩
    have hd':depL ds<=m:=by unfold dep at hd;omega
    have hw1:ds.length<sizeLine:=by unfold wid at hw;omega
    have hw2:widL ds<sizeLine:=by unfold wid at hw;omega
    have len:vs.length=ws.length:=by rw[qp.len,qq.len]
    refine⟨_,false,TyOf.lst hq,rfl,_,false,TyOf.lst hp,rfl,_,true,TyOf.lst hq,kit_same K _,_,true,TyOf.lst hq,kit_same K _,_,true,TyOf.lst hp,kit_same K _,_,false,TyOf.lst hq,rfl,_,false,TyOf.lst hp,rfl,?_⟩
    refine⟨_,.inl hp,_,.inl hq,?_⟩
    refine iteDf (fun _=>?_) (fun h=>(h (by rw[len])).elim)
    refine⟨false,_,_,hp,hq,?_⟩
    refine compZip len (fun i ys H'=>ys=List.replicate i (V.bl true)/\Same H H') ⟨rfl,Same.refl H⟩ (fun i ys H' h=>⟨h.2 _ _ hp,h.2 _ _ hq⟩) ?_ ?_
    ·rintro i x' y' ys H' T' hi ex ey ⟨rfl,S⟩ hT
     refine⟨_,upd_same,rfl,Ext.own2,?_⟩
     obtain⟨d1,e1,i1⟩:=qp.get ex
     obtain⟨d2,e2,i2⟩:=qq.get ey
     rw[e1]at e2;cases e2
     have S2:Same H (upd H' T' (.tup [x',y'])):=S.trans (Same.upd hT)
     refine⟨d1,aD (depL_get e1) hd',bA (widL_get e1) hw2,i1.mono S2 _ _,i2.mono S2 _ _,fun H3 S3=>?_⟩
     exact cnx hi (by rw[bU];have:=qp.len;omega) ⟨by rw[List.replicate_succ'],S2.trans S3⟩
    ·rintro ys H' ⟨rfl,S⟩ D hD
     refine⟨List.replicate vs.length true,by rw[upd_same,cP],?_⟩
     have e:(List.replicate vs.length true).all id=true:=by rw[b7];intro b hb;rw[(List.mem_replicate.mp hb).2];rfl
     show Q (.bl ((List.replicate vs.length true).all id)) (upd H' D (.lst (List.replicate vs.length (V.bl true))))
     rw[e]
     exact k _ (S.trans (Same.upd hD))
   | tup ds =>
    obtain⟨p,vs,rfl,hp,qp⟩:=hx
    obtain⟨q,ws,rfl,hq,qq⟩:=hy
    obtain⟨m,rfl⟩:∃ m,n=m+1:=⟨n - 1,by unfold dep at hd;omega⟩
    have hd':depL ds<=m:=by unfold dep at hd;omega
    have hw1:ds.length<sizeLine:=by unfold wid at hw;omega
    have hw2:widL ds<sizeLine:=by unfold wid at hw;omega
    have len:vs.length=ws.length:=by rw[qp.len,qq.len]
    refine⟨_,false,TyOf.tup hq,rfl,_,false,TyOf.tup hp,rfl,_,false,TyOf.tup hq,rfl,_,true,TyOf.tup hq,kit_same K _,_,false,TyOf.tup hq,rfl,_,false,TyOf.tup hp,rfl,_,true,TyOf.tup hq,kit_same K _,_,true,TyOf.tup hp,kit_same K _,?_⟩
    refine⟨_,.inr hp,_,.inr hq,?_⟩
    refine iteDf (fun _=>?_) (fun h=>(h (by rw[len])).elim)
    refine⟨true,_,_,hp,hq,?_⟩
    refine compZip len (fun i ys H'=>ys=List.replicate i (V.bl true)/\Same H H') ⟨rfl,Same.refl H⟩ (fun i ys H' h=>⟨h.2 _ _ hp,h.2 _ _ hq⟩) ?_ ?_
    ·rintro i x' y' ys H' T' hi ex ey ⟨rfl,S⟩ hT
     refine⟨_,upd_same,rfl,Ext.own2,?_⟩
     obtain⟨d1,e1,i1⟩:=qp.get ex
     obtain⟨d2,e2,i2⟩:=qq.get ey
     rw[e1]at e2;cases e2
     have S2:Same H (upd H' T' (.tup [x',y'])):=S.trans (Same.upd hT)
     refine⟨d1,aD (depL_get e1) hd',bA (widL_get e1) hw2,i1.mono S2 _ _,i2.mono S2 _ _,fun H3 S3=>?_⟩
     exact cnx hi (by rw[bU];have:=qp.len;omega) ⟨by rw[List.replicate_succ'],S2.trans S3⟩
    ·rintro ys H' ⟨rfl,S⟩ D hD
     refine⟨List.replicate vs.length true,by rw[upd_same,cP],?_⟩
     have e:(List.replicate vs.length true).all id=true:=by rw[b7];intro b hb;rw[(List.mem_replicate.mp hb).2];rfl
     show Q (.bl ((List.replicate vs.length true).all id)) (upd H' D (.lst (List.replicate vs.length (V.bl true))))
     rw[e]
     exact k _ (S.trans (Same.upd hD))
  ·exact h.elim
theorem ok_same {f:Addr}{fd:FuncData}(F:Fun K "_law_same" "_law_same" s_same f fd)(T:Bi2 mg)(hm:mg "_law_same"=some (.ref f))(hk:PySem.W.keepIn K (.ref f)=true)(hb:Binds K fd ["_law_found", "_law_due"] []):∀ n,FnOk P w K mg base CX0 (n+1) f fd ["_law_found", "_law_due"] (spSame n)
 | 0=>ok_same1 0 F T ⟨f,fd,⟨fun _ _ _ _ h=>h.elim,fun _ _ _ _ _ _ _ _ _ _ _ _ _ h=>h.elim⟩,hm,hk,hb⟩
 | n+1=>ok_same1 (n+1) F T ⟨f,fd,ok_same F T hm hk hb n,hm,hk,hb⟩
theorem ok_unfolded (F:Fun K "unfolded" "unfolded" s_unfolded f fd)(T:Bi2 mg)  : FnOk P w K mg base CX0 1 f fd (pA s_unfolded) (spD fUnfW):=by
 refine F.okD sc_unfolded (fun ds μ Kd h=>by unfold fUnfW at h;split at h <;> first | rfl | exact h.elim) (fun cdv A outer s H E hr=>⟨_,(b_cons (qS 1 sc_unfolded.nd (d_lst true da_nil))
  (b_cons (qS 2 sc_unfolded.nd (d_lst true (a1 (dv 0))))
  (b_cons (s_while df (t_truth (dv 2))
  (b_cons (qS 3 sc_unfolded.nd (d_mt0 av bS bR popL so_pop (dv 2)))
  (b_cons (s_expr (d_mt av aT aS appendC so_append (dv 1) (a1 (dv 3))))
  (b_one (s_if (d_testV (d_isi (T := "tuple") (by simp) (by rfl) T.isinstance (by rfl) T.tuple bG (dv 3)))
  (b_cons (s_asg (dv 3) ⟨(pg_tupC (n:=3) rfl (pgs_consC (qN 4 sc_unfolded.nd) (pgs_consC (qN 5 sc_unfolded.nd) (pgs_consC (qN 6 sc_unfolded.nd) pgs_nilC)))),(so_tup (so_cons (so_name 4) (mo_name 4) (so_cons (so_name 5) (mo_name 5) (so_cons (so_name 6) (mo_name 6) so_nil mo_nil) (mo_cons (mo_name 6) mo_nil)) (mo_cons (mo_name 5) (mo_cons (mo_name 6) mo_nil)))),(mo_tup (mo_cons (mo_name 4) (mo_cons (mo_name 5) (mo_cons (mo_name 6) mo_nil))))⟩)
  (b_one (s_expr (d_mt av PySem.F.slot_list_extend PySem.F.type_list_extend extendC so_extend (dv 2) (a1 (d_lst false (a2 (dv 6) (dv 5))))))))
  b_nil)))))
  (b_one (s_ret (dv 1)))))),fun ds μ Kd hm hl h=>?_⟩)
 unfold fUnfW at h
 split at h
 ·rename_i d
  obtain⟨t,rfl,hc,kk⟩:=h
  have hpl:=t.pre_len
  have e1:(μ++[MO.lst []]).length=μ.length+1:=by rw[gxE];rfl
  refine⟨zs,zs,?_⟩
  refine⟨fun m ρ μ'=>∃(Td St:List Mak) (v3 v4 v5 v6:Option D),m=(St.flatMap Mak.pre).length/\Td++St.flatMap Mak.pre=t.pre/\ρ=[some (mkD t),some (.mr μ.length),some (.mr (μ.length+1)),v3,v4,v5,v6]/\μ'=μ++[.lst (Td.map mkD),.lst (St.reverse.map mkD)],⟨_,[],[t],none,none,none,none,rfl,by simp,by rw[e1];rfl,by rw[aJ];rfl⟩,?_⟩
  rintro m ρ μ' ⟨Td,St,v3,v4,v5,v6,rfl,hpre,rfl,rfl⟩
  have hlen:=bg List.length hpre
  rw[gxE]at hlen
  refine opt_of at1 ?_
  cases St with
  | nil =>
   rw[List.flatMap_nil,aR]at hpre
   refine iteB (b:=false) (fun z=>by cases z) (fun _=>?_)
   refine .lst (aa _) (lvM_eq at0) (mr_all fun d hd=>?_) (old_app hm) ?_
   ·obtain⟨x,_,rfl⟩:=List.mem_map.mp hd;exact mrB_mk x
   ·rw[bp,hpre];exact kk
  | cons s St =>
   have er:(s::St).reverse.map mkD=St.reverse.map mkD++[mkD s]:=by rw[aH,az];rfl
   rw[er]
   have ne:(!(St.reverse.map mkD++[mkD s]).isEmpty)=true:=by cases St.reverse.map mkD <;> rfl
   rw[ne]
   refine iteB (b:=true) (fun _=>?_) (fun z=>by cases z)
   rw[aO,gxE]at hlen ⊢
   refine⟨lvM_ty at1,opt_of at1 (opt_of (last_snoc _ _) ?_)⟩
   rw[bX,set1]
   refine⟨lvM_ty at0,opt_of at0 ⟨szS (by rw[gxC];omega),?_⟩⟩
   rw[set0]
   refine opt_of (ty_mk s _) ?_
   have et:Td.map mkD++[mkD s]=(Td++[s]).map mkD:=by rw[az];rfl
   rw[et]
   cases s with
   | num n =>
    exact⟨_,by show _<1+_;omega,Td++[.num n],St,_,_,_,_,rfl,by rw[<- hpre,aJ,aO];rfl,rfl,rfl⟩
   | tri p l r =>
    refine⟨rfl,lvM_ty at1,zs,opt_of at1 ⟨sz (by rw[gxC,ar];have:St.length<=(St.flatMap Mak.pre).length:=forest_len St;show _+2<=_;omega),?_⟩⟩
    rw[set1]
    refine⟨_,?_,Td++[.tri p l r],l::r::St,_,_,_,_,rfl,?_,rfl,?_⟩
    ·rw[aO,aO,gxE,gxE]
     show _<((l.pre++r.pre).length+1)+_
     rw[gxE];omega
    ·rw[<- hpre,aJ,aO,aO,aO]
     show Td++(Mak.tri p l r::(l.pre++(r.pre++_)))=Td++(Mak.tri p l r::(l.pre++r.pre)++_)
     simp
    ·have e2:(l::r::St).reverse.map mkD=St.reverse.map mkD++[mkD r,mkD l]:=by simp
     rw[e2]
 ·exact h.elim
theorem ok_make1 (n:Nat){f:Addr}{fd:FuncData}(F:Fun K "_law_make" "_law_make" s_make f fd)(T:Bi2 mg)(C_take:c_take P w K mg base)(C_make:Cal P w K mg base "_law_make" (n+1) ["_law_box_here", "_law_many", "_law_places", "_law_deep"] (spD (fRec fMakeL n))):FnOk P w K mg base CX0 (n+2) f fd ["_law_box_here", "_law_many", "_law_places", "_law_deep"] (spD (fMakeL n)):=by
 refine F.okD sc_make (fun ds μ Kd h=>by unfold fMakeL at h;split at h <;> first | rfl | exact h.elim) (fun cdv A outer s H E hr=>⟨_,(b_cons (s_if (PW.pt (t_or (qEq (dv 3) d_int) (t_or (qEq (dLn T (dv 2)) d_int) (t_or1 (qEq (qC C_take hr (a2 (dv 0) d_int)) d_int)))))
  (b_one (s_ret (qC C_take hr (a2 (dv 0) (dv 1)))))
  b_nil)
  (b_cons (qS 4 sc_make.nd (dIX (dv 2) (qC C_take hr (a2 (dv 0) (dLn T (dv 2))))))
  (b_cons (qS 5 sc_make.nd (qC C_make hr (da_cons (dv 0) (da_cons (dv 1) (da_cons (dv 2) (da_cons (dMi (dv 3) d_int) da_nil))))))
  (b_one (s_ret (d_tup (a3 (dv 4) (dv 5) (qC C_make hr (da_cons (dv 0) (da_cons (dv 1) (da_cons (dv 2) (da_cons (dMi (dv 3) d_int) da_nil)))))))))))),fun ds μ Kd hm hl h=>?_⟩)
 unfold fMakeL at h
 split at h
 ·rename_i k m c d
  obtain⟨hb,hm0,hm1,cs,rfl,hcl,hd0,hd1,kk⟩:=h
  obtain⟨d,rfl⟩:∃ d':Nat,d=(d':Int):=⟨d.toNat,by omega⟩
  rw[gxK]at kk
  have num:∀ v:Int,0<=v->v<m->Fz μ.length Kd (.int v) μ:=fun v v0 v1=>.keep (kk (.num v) ⟨v0,by omega⟩ (a6 _) (Nat.one_le_two_pow))
  refine iteDf (c:=(d:Int)=0) (fun _=>⟨hb,hm0,by omega,num⟩) (fun hd=>?_)
  refine iteDf (c:=((cs.map D.int).length:Int)=0) (fun _=>⟨hb,hm0,by omega,num⟩) (fun hc=>?_)
  rw[gxC]at hc
  refine⟨hb,by decide,by decide,fun u u0 u1=>?_⟩
  refine iteDf (c:=u=0) (fun _=>⟨hb,hm0,by omega,num⟩) (fun _=>?_)
  refine⟨hb,by rw[gxC];omega,by rw[gxC];omega,fun w w0 w1=>?_⟩
  rw[gxC]at w1
  obtain⟨p,hp⟩:∃ x,cs[w.toNat]?=some x:=⟨_,gxA (by omega)⟩
  have ap:atI (cs.map D.int) w=some (.int p):=by have:=atI_maps (g:=D.int) hp;rwa [Int.toNat_of_nonneg w0]at this
  obtain⟨d,rfl⟩:∃ d',d=d'+1:=⟨d - 1,by omega⟩
  obtain⟨n,rfl⟩:∃ n',n=n'+1:=⟨n - 1,by omega⟩
  have ed:((d+1:Nat):Int) - 1=(d:Int):=by omega
  refine opt_of ap ?_
  refine⟨hb,hm0,hm1,cs,rfl,hcl,by omega,by omega,fun l l1 l2 l3=>?_⟩
  rw[ed,gxK]at l2 l3
  refine⟨hb,hm0,hm1,cs,rfl,hcl,by omega,by omega,fun r r1 r2 r3=>?_⟩
  rw[ed,gxK]at r2 r3
  refine⟨zs,.keep (kk (.tri p l r) ⟨gxD hp,l1,r1⟩ ?_ (two_pow l3 r3))⟩
  show max l.dep r.dep+1<=d+1
  omega
 ·exact h.elim
theorem ok_make {f:Addr}{fd:FuncData}(F:Fun K "_law_make" "_law_make" s_make f fd)(T:Bi2 mg)(hm:mg "_law_make"=some (.ref f))(hk:PySem.W.keepIn K (.ref f)=true)(hb:Binds K fd ["_law_box_here", "_law_many", "_law_places", "_law_deep"] [])(C_take:c_take P w K mg base):∀ n,FnOk P w K mg base CX0 (n+2) f fd ["_law_box_here", "_law_many", "_law_places", "_law_deep"] (spD (fMakeL n))
 | 0=>ok_make1 0 F T C_take ⟨f,fd,⟨fun _ _ _ _ hq0=>by obtain⟨_,_,_,_,_,_,h,_⟩:=hq0;exact h.elim,fun _ _ _ _ _ _ _ _ _ _ _ _ _ hq1=>by obtain⟨_,_,_,_,_,_,h,_⟩:=hq1;exact h.elim⟩,hm,hk,hb⟩
 | n+1=>ok_make1 (n+1) F T C_take ⟨f,fd,ok_make F T hm hk hb C_take n,hm,hk,hb⟩
theorem ok_kinds (F:Fun K "_law_kinds" "_law_kinds" s_kinds f fd)(T:Bi2 mg)(TV:mg "ValueError"=none)(O_BadBars:OwnCls "BadBars" cBadBars veB "ValueError.__new__" mg base)(O_BadMake:OwnCls "BadMake" cBadMake veB "ValueError.__new__" mg base)(O_BadNumber:OwnCls "BadNumber" cBadNumber veB "ValueError.__new__" mg base)(O_BadText:OwnCls "BadText" cBadText veB "ValueError.__new__" mg base)(O_BadName:OwnCls "BadName" cBadName veB "ValueError.__new__" mg base)(O_BadAge:OwnCls "BadAge" cBadAge veB "ValueError.__new__" mg base)(O_BadBar:OwnCls "BadBar" cBadBar veB "ValueError.__new__" mg base)(O_BadPlace:OwnCls "BadPlace" cBadPlace veB "ValueError.__new__" mg base)(O_BadSize:OwnCls "BadSize" cBadSize veB "ValueError.__new__" mg base)(O_Taken:OwnCls "Taken" cTaken veB "ValueError.__new__" mg base)(O_Full:OwnCls "Full" cFull veB "ValueError.__new__" mg base)(O_NoTake:OwnCls "NoTake" cNoTake veB "ValueError.__new__" mg base)(O_Shut:OwnCls "Shut" cShut veB "ValueError.__new__" mg base)(O_Joined:OwnCls "Joined" cJoined veB "ValueError.__new__" mg base)(O_Needed:OwnCls "Needed" cNeeded veB "ValueError.__new__" mg base)(O_NothingLeft:OwnCls "NothingLeft" cNothingLeft veB "ValueError.__new__" mg base)(O_NoWay:OwnB "NoWay" cNoWay mg):FnOkH P w K mg base 1 f fd (pA s_kinds) (fKindsJ K rcs cHissError):=by
 refine F.okH sc_kinds (fun ds μ Kd h=>fKindsJ_len h) (fun cdv A outer s H hr φ0 kx e hk hh=>⟨_,(b_cons (qS 1 sc_kinds.nd (d_lst false (da_cons (d_isiC (by rfl) T.isinstance (by rfl) O_BadBars.bound (dv 0)) (da_cons (d_isiC (by rfl) T.isinstance (by rfl) O_BadMake.bound (dv 0)) (da_cons (d_isiC (by rfl) T.isinstance (by rfl) O_BadNumber.bound (dv 0)) (da_cons (d_isiC (by rfl) T.isinstance (by rfl) O_BadText.bound (dv 0)) da_nil))))))
  (b_cons (qS 1 sc_kinds.nd (dPl (dv 1) (d_lst false (da_cons (d_isiC (by rfl) T.isinstance (by rfl) O_BadName.bound (dv 0)) (da_cons (d_isiC (by rfl) T.isinstance (by rfl) O_BadAge.bound (dv 0)) (da_cons (d_isiC (by rfl) T.isinstance (by rfl) O_BadBar.bound (dv 0)) (da_cons (d_isiC (by rfl) T.isinstance (by rfl) O_BadPlace.bound (dv 0)) da_nil)))))))
  (b_cons (qS 1 sc_kinds.nd (dPl (dv 1) (d_lst false (da_cons (d_isiC (by rfl) T.isinstance (by rfl) O_BadSize.bound (dv 0)) (da_cons (d_isiC (by rfl) T.isinstance (by rfl) O_Taken.bound (dv 0)) (da_cons (d_isiC (by rfl) T.isinstance (by rfl) O_Full.bound (dv 0)) (da_cons (d_isiC (by rfl) T.isinstance (by rfl) O_NoTake.bound (dv 0)) da_nil)))))))
  (b_cons (qS 1 sc_kinds.nd (dPl (dv 1) (d_lst false (da_cons (d_isiC (by rfl) T.isinstance (by rfl) O_Shut.bound (dv 0)) (da_cons (d_isiC (by rfl) T.isinstance (by rfl) O_Joined.bound (dv 0)) (da_cons (d_isiC (by rfl) T.isinstance (by rfl) O_Needed.bound (dv 0)) (da_cons (d_isiC (by rfl) T.isinstance (by rfl) O_NothingLeft.bound (dv 0)) da_nil)))))))
  (b_cons (qS 1 sc_kinds.nd (dPl (dv 1) (d_lst false (a2 (d_isiC (by rfl) T.isinstance (by rfl) O_NoWay.bound (dv 0)) (d_not (d_isiV (by rfl) T.isinstance (by rfl) TV PyProof.Rows.Boot.«ValueError» (dv 0)))))))
  (b_cons (qS 2 sc_kinds.nd (d_lst false (da_cons d_str (da_cons d_str (da_cons d_str (da_cons d_str (da_cons d_str (da_cons d_str (da_cons d_str (da_cons d_str (da_cons d_str da_nil)))))))))))
  (b_cons (qS 2 sc_kinds.nd (dPl (dv 2) (d_lst false (da_cons d_str (da_cons d_str (da_cons d_str (da_cons d_str (da_cons d_str (da_cons d_str (da_cons d_str (da_cons d_str (da_cons d_str da_nil))))))))))))
  (b_one (s_ret (d_compH false (cOk (N:=["_law_k", "_law_words", "_law_found"]) (js:=[none,some 2,some 1]) sc_kinds (by decide +kernel)) hh (so_name 0) (mo_name 0) rfl (i_rangeH (H0:=H) hk rfl T.range (a1 d_int)) (fun _ _ _=>(qN 0 (show List.Nodup (["_law_k", "_law_words", "_law_found"]:List Str) by decide +kernel))) (fun _ _ _=>(ts_one (d_testV (dIX (dv 2) (dv 0))))) (fun _ _ _=>(dIX (dv 1) (dv 0))))))))))))),fun ds μ m Kd hm hl em hc h=>?_⟩)
 unfold fKindsJ at h
 split at h
 ·rename_i k
  obtain⟨_,hk1,j,hj,hx,KB,kk⟩:=h
  have hx2:(μ.set 0 (MO.gx φ0 H))[k]?=some (.exc (.ref (rcs.getD j 0))):=by rw[aM (bM hk1)];exact hx
  refine⟨_,_,hx2,KB.ef,KB.at_ 0 (by decide),_,_,hx2,KB.ef,KB.at_ 1 (by decide),_,_,hx2,KB.ef,KB.at_ 2 (by decide),_,_,hx2,KB.ef,KB.at_ 3 (by decide),zs,?_⟩
  refine⟨_,_,hx2,KB.ef,KB.at_ 4 (by decide),_,_,hx2,KB.ef,KB.at_ 5 (by decide),_,_,hx2,KB.ef,KB.at_ 6 (by decide),_,_,hx2,KB.ef,KB.at_ 7 (by decide),zs,opt_of rfl (opt_of rfl ⟨zs,?_⟩)⟩
  refine⟨_,_,hx2,KB.ef,KB.at_ 8 (by decide),_,_,hx2,KB.ef,KB.at_ 9 (by decide),_,_,hx2,KB.ef,KB.at_ 10 (by decide),_,_,hx2,KB.ef,KB.at_ 11 (by decide),zs,opt_of rfl (opt_of rfl ⟨zs,?_⟩)⟩
  refine⟨_,_,hx2,KB.ef,KB.at_ 12 (by decide),_,_,hx2,KB.ef,KB.at_ 13 (by decide),_,_,hx2,KB.ef,KB.at_ 14 (by decide),_,_,hx2,KB.ef,KB.at_ 15 (by decide),zs,opt_of rfl (opt_of rfl ⟨zs,?_⟩)⟩
  refine⟨_,_,hx2,KB.ef,KB.at_ 16 (by decide),_,_,hx2,KB.ef,KB.kv,zs,opt_of rfl (opt_of rfl ⟨zs,?_⟩)⟩
  refine⟨zs,zs,opt_of rfl (opt_of rfl ⟨zs,?_⟩)⟩
  refine⟨by decide,by decide,zs,?_⟩
  refine compW_kinds hj hc (fun i K' hi h1 h2 k1 k2=>?_) (.keep (gK_of em kk))
  rw[Int.zero_add]
  refine opt_of (v:=D.bl (decide (i=j))) (atI_nat h1) ?_
  show(if decide (i=j)=true then _ else _)
  by_cases q:i=j
  ·rw[aE (au q)]
   refine opt_of (v:=D.str (kWords.getD i "")) (atI_nat ?_) (k1 q)
   have:=bg (Option.map D.str) h2
   rw[<- gxH]at this
   exact this
  ·rw[ai (by simpa using q)]
   exact k2 q
 ·exact h.elim
theorem ok_make_text (F:Fun K "make_text" "make_text" s_make_text f fd)(T:Bi2 mg)(C_unfolded:c_unfolded P w K mg base):FnOk P w K mg base CX0 3 f fd (pA s_make_text) (spD fMakeTextW):=by
 refine F.okD sc_make_text (fun ds μ Kd h=>by unfold fMakeTextW at h;split at h <;> first | rfl | exact h.elim) (fun cdv A outer s H E hr=>⟨_,(b_cons (qS 1 sc_make_text.nd (d_lst true da_nil))
  (b_cons (s_for df rfl (i_rev rfl T.reversed (a1 (qC C_unfolded hr (a1 (dv 0))))) (qT 2 sc_make_text.nd)
  (b_one (s_if (d_testV (d_isi (T := "tuple") (by simp) (by rfl) T.isinstance (by rfl) T.tuple bG (dv 2)))
  (b_cons (qS 3 sc_make_text.nd (d_mt0 av bS bR popL so_pop (dv 1)))
  (b_cons (qS 4 sc_make_text.nd (d_mt0 av bS bR popL so_pop (dv 1)))
  (b_one (s_expr (d_mt av aT aS appendC so_append (dv 1) (a1 (d_joined (dj_cons d_str (dj_cons (d_fmt (dv 3)) (dj_cons d_str (dj_cons (d_fmt (dIX (dv 2) d_int)) (dj_cons d_str (dj_cons (d_fmt (dv 4)) (dj_cons d_str dj_nil))))))))))))))
  (b_one (s_expr (d_mt av aT aS appendC so_append (dv 1) (a1 (d_ty strC so_str (by rfl) T.str bT (a1 (dv 2))))))))))
  (b_one (s_ret (dIX (dv 1) d_int))))),fun ds μ Kd hm hl h=>?_⟩)
 unfold fMakeTextW at h
 split at h
 ·rename_i d
  obtain⟨t,rfl,hc,hs,kk⟩:=h
  have hpl:=t.pre_len
  refine⟨zs,t,rfl,by omega,?_⟩
  refine forW_inv (fun ds ρ μ'=>∃(A F:List Mak) (v5 v6 v7:Option D),ds=A.reverse.map mkD/\t.pre=A++F.flatMap Mak.pre/\ρ=[some (mkD t),some (.mr μ.length),v5,v6,v7]/\μ'=μ++[.lst (F.reverse.map fun x=>D.str (mkT x))]) ⟨t.pre,[],none,none,none,by rw[List.map_reverse],by simp,rfl,rfl⟩ ?_ ?_
  ·rintro d ds' ρ μ' ⟨A,F,v5,v6,v7,e,hpre,rfl,rfl⟩
   refine⟨trivial,fun nx hnx=>?_⟩
   have hflen:F.length<=(F.flatMap Mak.pre).length:=forest_len F
   have hlen:=bg List.length hpre
   rw[gxE]at hlen
   rcases List.eq_nil_or_concat A with rfl | ⟨A',s,rfl⟩
   ·cases e
   ·rw[List.concat_eq_append]at hpre e hlen
    rw[List.reverse_append,az]at e
    cases e
    have sin:s∈t.pre:=by rw[hpre];simp
    obtain⟨ssm,scn⟩:=Mak.pre_sm hs s sin
    refine opt_of (ty_mk s _) ?_
    cases s with
    | num k =>
     have h1:0<=k/\k<10000:=ssm
     refine⟨lvM_ty lvM_new,by omega,opt_of lvM_new ⟨szS (by rw[gxC,ar];omega),?_⟩⟩
     refine hnx _ _ ⟨A',.num k::F,_,_,_,rfl,by rw[hpre,aO,aJ];rfl,rfl,?_⟩
     rw[set_end,aH,az];rfl
    | tri p l r =>
     obtain⟨C,hC⟩:=Mak.pre_parts (by rw[hpre,aJ];rfl:t.pre=A'++.tri p l r::F.flatMap Mak.pre)
     rw[aJ]at hC
     obtain⟨F1,rfl,h1⟩:=forest_head hC
     obtain⟨F2,rfl,h2⟩:=forest_head h1
     have er:((l::r::F2).reverse.map fun x=>D.str (mkT x))=(F2.reverse.map fun x=>D.str (mkT x))++[.str (mkT r)]++[.str (mkT l)]:=by rw[aH,aH,az,az];rfl
     rw[er]
     refine⟨lvM_ty lvM_new,opt_of lvM_new (opt_of (last_snoc _ _) ?_)⟩
     rw[set_end,bX]
     refine⟨lvM_ty lvM_new,opt_of lvM_new (opt_of (last_snoc _ _) ?_)⟩
     rw[set_end,bX]
     have s1:=mkT_len ssm.2.2.1
     have s2:=mkT_len ssm.2.2.2
     have s3:=(fig_ok ssm.1 ssm.2.1).2.1
     have p0:0<=p/\p<10000:=⟨ssm.1,ssm.2.1⟩
     have hcn:l.cnt+r.cnt<=t.cnt:=scn
     have e0:Str.empty.length=0:=rfl
     have e1:("(" : Str).length=1:=by decide
     have e2:(" " : Str).length=1:=by decide
     have e3:(")" : Str).length=1:=by decide
     refine⟨lvM_ty lvM_new,sz (by simp only[strl];omega),sz (by omega),sz (by simp only[strl];omega),sz (by simp only[strl];omega),by omega,sz (by simp only[strl];omega),sz (by simp only[strl];omega),sz (by omega),sz (by simp only[strl];omega),sz (by simp only[strl];omega),sz (by simp only[strl];omega),opt_of lvM_new ⟨szS (by rw[gxC,ar];rw[ah,ah]at hflen;omega),?_⟩⟩
     refine hnx _ _ ⟨A',.tri p l r::F2,_,_,_,rfl,?_,rfl,?_⟩
     ·rw[hpre,hC,aO,h2,aJ]
      show A'++(Mak.tri p l r::(l.pre++(r.pre++C)))=A'++(Mak.tri p l r::(l.pre++r.pre)++C)
      simp
     ·rw[set_end,aH,az];rfl
  ·rintro ρ μ' ⟨A,F,v5,v6,v7,e,hpre,rfl,rfl⟩
   have hA:A=[]:=by
    have:=bg List.length e
    rw[gxC,ar]at this
    exact List.length_eq_zero_iff.mp this.symm
   subst hA
   obtain⟨F',rfl,h1⟩:=forest_head (t:=t) (C:=[]) (by rw[aR];exact hpre.symm)
   obtain rfl:=forest_nil h1
   have a0:atI ([t].reverse.map fun x=>D.str (mkT x)) 0=some (.str (mkT t)):=rfl
   refine⟨trivial,opt_of lvM_new (opt_of a0 (.drop trivial (old_app hm) ?_))⟩
   rw[bp]
   exact kk
 ·exact h.elim
theorem ok_text1 (n:Nat){f:Addr}{fd:FuncData}(F:Fun K "_law_text" "_law_text" s_text f fd)(T:Bi2 mg)(C_text:Cal P w K mg base "_law_text" n ["_law_make_here"] (spD (fRec fTextL n))):FnOk P w K mg base CX0 (n+1) f fd ["_law_make_here"] (spD (fTextL n)):=by
 refine F.okD sc_text (fun ds μ Kd h=>by unfold fTextL at h;split at h <;> first | rfl | exact h.elim) (fun cdv A outer s H E hr=>⟨_,(b_cons (s_if (d_testV (d_isi (T := "int") (by simp) (by rfl) T.isinstance (by rfl) T.int aZ (dv 0)))
  (b_one (s_ret (d_ty strC so_str (by rfl) T.str bT (a1 (dv 0)))))
  b_nil)
  (b_one (s_ret (dPl (dPl (dPl (dPl (dPl (dPl d_str (qC C_text hr (a1 (dIX (dv 0) d_int)))) d_str) (d_ty strC so_str (by rfl) T.str bT (a1 (dIX (dv 0) d_int)))) d_str) (qC C_text hr (a1 (dIX (dv 0) d_int)))) d_str)))),fun ds μ Kd hm hl h=>?_⟩)
 unfold fTextL at h
 split at h
 ·rename_i d
  obtain⟨t,rfl,hd,hc,hs,kk⟩:=h
  refine opt_of (ty_mk t _) ?_
  cases t with
  | num k =>
   have h1:0<=k/\k<10000:=hs
   exact⟨by omega,.keep kk⟩
  | tri p l r =>
   have hd':max l.dep r.dep+1<=n:=hd
   have hc':l.cnt+r.cnt<=100:=hc
   have cl:=l.cnt_pos
   have cr:=r.cnt_pos
   obtain⟨n,rfl⟩:∃ n',n=n'+1:=⟨n - 1,by omega⟩
   have s1:=mkT_len hs.2.2.1
   have s2:=mkT_len hs.2.2.2
   have s3:=(fig_ok hs.1 hs.2.1).2.1
   have p0:0<=p/\p<10000:=⟨hs.1,hs.2.1⟩
   have e1:("(" : Str).length=1:=by decide
   have e2:(" " : Str).length=1:=by decide
   have e3:(")" : Str).length=1:=by decide
   refine⟨l,rfl,by omega,by omega,hs.2.2.1,?_⟩
   refine⟨sz (by omega),sz (by simp only[strl];omega),by omega,sz (by simp only[strl];omega),sz (by simp only[strl];omega),?_⟩
   refine⟨r,rfl,by omega,by omega,hs.2.2.2,sz (by simp only[strl];omega),sz (by simp only[strl];omega),.keep kk⟩
 ·exact h.elim
theorem ok_text {f:Addr}{fd:FuncData}(F:Fun K "_law_text" "_law_text" s_text f fd)(T:Bi2 mg)(hm:mg "_law_text"=some (.ref f))(hk:PySem.W.keepIn K (.ref f)=true)(hb:Binds K fd ["_law_make_here"] []):∀ n,FnOk P w K mg base CX0 (n+1) f fd ["_law_make_here"] (spD (fTextL n))
 | 0=>ok_text1 0 F T ⟨f,fd,⟨fun _ _ _ _ hq2=>by obtain⟨_,_,_,_,_,_,h,_⟩:=hq2;exact h.elim,fun _ _ _ _ _ _ _ _ _ _ _ _ _ hq3=>by obtain⟨_,_,_,_,_,_,h,_⟩:=hq3;exact h.elim⟩,hm,hk,hb⟩
 | n+1=>ok_text1 (n+1) F T ⟨f,fd,ok_text F T hm hk hb n,hm,hk,hb⟩
theorem ok_numbered1 (n:Nat){f:Addr}{fd:FuncData}(F:Fun K "_law_numbered" "_law_numbered" s_numbered f fd)(T:Bi2 mg)(C_take:c_take P w K mg base)(C_numbered:Cal P w K mg base "_law_numbered" (n+1) ["_law_box_here", "_law_make_here"] (spD (fRec fNumd n))):FnOk P w K mg base CX0 (n+2) f fd ["_law_box_here", "_law_make_here"] (spD (fNumd n)):=by
 refine F.okD sc_numbered (fun ds μ Kd h=>by unfold fNumd at h;split at h <;> first | rfl | exact h.elim) (fun cdv A outer s H E hr=>⟨_,(b_cons (qS 2 sc_numbered.nd (qC C_take hr (a2 (dv 0) (dIX (d_lst false (da_cons d_int (da_cons d_int (da_cons d_int (da_cons d_int da_nil))))) (qC C_take hr (a2 (dv 0) d_int))))))
  (b_cons (s_if (d_testV (d_isi (T := "int") (by simp) (by rfl) T.isinstance (by rfl) T.int aZ (dv 1)))
  (b_one (s_ret (dv 2)))
  b_nil)
  (b_one (s_ret (d_tup (a3 (dv 2) (qC C_numbered hr (a2 (dv 0) (dIX (dv 1) d_int))) (qC C_numbered hr (a2 (dv 0) (dIX (dv 1) d_int))))))))),fun ds μ Kd hm hl h=>?_⟩)
 unfold fNumd at h
 split at h
 ·rename_i k d
  obtain⟨hb,t,rfl,hd,kk⟩:=h
  refine⟨zs,hb,by decide,by decide,fun v v0 v1=>?_⟩
  obtain⟨mm,em,m1,m2⟩:∃ mm,atI [D.int 10,D.int 100,D.int 1000,D.int 10000] v=some (.int mm)/\1<=mm/\mm<=10000:=by
   obtain rfl | rfl | rfl | rfl:v=0\/v=1\/v=2\/v=3:=by omega
   all_goals first | exact⟨10,rfl,by decide,by decide⟩ | exact⟨100,rfl,by decide,by decide⟩ | exact⟨1000,rfl,by decide,by decide⟩ | exact⟨10000,rfl,by decide,by decide⟩
  refine opt_of em ⟨hb,by omega,by omega,fun q q0 q1=>?_⟩
  refine opt_of (ty_mk t _) ?_
  cases t with
  | num _=>exact .keep (kk (.num q) rfl rfl ⟨q0,by omega⟩)
  | tri p l r =>
   have hd':max l.dep r.dep+1<=n:=hd
   obtain⟨n,rfl⟩:∃ n',n=n'+1:=⟨n - 1,by omega⟩
   refine⟨hb,l,rfl,by omega,fun l' a1 a2 a3=>?_⟩
   refine⟨hb,r,rfl,by omega,fun r' b1 b2 b3=>?_⟩
   exact⟨zs,.keep (kk (.tri q l' r') (by show max l'.dep r'.dep+1=max l.dep r.dep+1;rw[a1,b1]) (by show l'.cnt+r'.cnt=l.cnt+r.cnt;rw[a2,b2]) ⟨q0,by omega,a3,b3⟩)⟩
 ·exact h.elim
theorem ok_numbered {f:Addr}{fd:FuncData}(F:Fun K "_law_numbered" "_law_numbered" s_numbered f fd)(T:Bi2 mg)(hm:mg "_law_numbered"=some (.ref f))(hk:PySem.W.keepIn K (.ref f)=true)(hb:Binds K fd ["_law_box_here", "_law_make_here"] [])(C_take:c_take P w K mg base):∀ n,FnOk P w K mg base CX0 (n+2) f fd ["_law_box_here", "_law_make_here"] (spD (fNumd n))
 | 0=>ok_numbered1 0 F T C_take ⟨f,fd,⟨fun _ _ _ _ hq4=>by obtain⟨_,_,_,_,_,_,h,_⟩:=hq4;exact h.elim,fun _ _ _ _ _ _ _ _ _ _ _ _ _ hq5=>by obtain⟨_,_,_,_,_,_,h,_⟩:=hq5;exact h.elim⟩,hm,hk,hb⟩
 | n+1=>ok_numbered1 (n+1) F T C_take ⟨f,fd,ok_numbered F T hm hk hb C_take n,hm,hk,hb⟩
theorem ok_number_of_figures (F:Fun K "number_of_figures" "number_of_figures" s_number_of_figures f fd)(T:Bi2 mg)(O_BadText:OwnCls "BadText" cBadText veB "ValueError.__new__" mg base)(G_MOST_FIGURES:GInt mg "MOST_FIGURES" 4):FnOk P w K mg base (CX1 P w) 1 f fd (pA s_number_of_figures) (spX (fFigX cBadText)):=by
 refine F.okX sc_number_of_figures (fun ds μ Kd Kx h=>fFigX_len h) (fun cdv A outer s H E hr φ0 Kb Z=>⟨_,(b_cons (s_if (PW.pt (t_or (t_not (d_testV (d_mt0 cb PySem.F.slot_str_isdecimal PySem.F.type_str_isdecimal decS so_decS (dv 0)))) (t_or1 (qGt (dLn T (dv 0)) (d_gint rfl G_MOST_FIGURES)))))
  (b_one (s_raise Z rfl O_BadText aL (by decide) aL rfl (a1 d_str)))
  b_nil)
  (b_one (s_ret (d_ty intT_call so_intT (by rfl) T.int aZ (a1 (dv 0)))))),fun ds μ m Kd Kx hm hl em h hK=>?_⟩)
 unfold fFigX at h
 split at h
 ·rename_i z
  obtain⟨_,ha,hz,kk⟩:=h
  have ed:=isdec_asc ha
  refine dIf_of (!(decide (0<z.length)&&digB z.cps.toList)||decide ((4:Int)<(z.length:Int))) (.or (.not (.tst fun K k=>⟨rfl,(show K (.bl (Txt.isdecimal z)) _ by rw[ed];exact k)⟩)) fun _=>.tst fun K k=>⟨sz (by omega),k⟩) (fun q=>?_) (fun q=>dNx_of ?_)
  ·rw[show numF z=none from ai fun w=>by rw[au w.1,w.2.2,ak (by have:=w.2.1;omega)]at q;cases q]at kk
   exact⟨zs,gX_of hK em kk⟩
  ·cases e:numF z with
   | none =>
    unfold numF at e
    split at e
    ·cases e
    ·rename_i w
     rw[bD,Bool.not_eq_false',aQ,aX,a8]at q
     exact absurd ⟨q.1.1,by have:=q.2;omega,q.1.2⟩ w
   | some n =>
    rw[e]at kk
    obtain⟨r1,r2,r3⟩:=numF_read e
    have l4:z.length<=4:=by
     rw[bD,a8]at q
     have:=q.2;omega
    exact⟨n,r1,by omega,.keep (gK_of em kk)⟩
 ·exact h.elim
theorem ok_close_bracket (F:Fun K "close_bracket" "close_bracket" s_close_bracket f fd)(T:Bi2 mg)(O_BadText:OwnCls "BadText" cBadText veB "ValueError.__new__" mg base):FnOk P w K mg base (CX1 P w) 1 f fd (pA s_close_bracket) (spX (fCloseX cBadText)):=by
 refine F.okX sc_close_bracket (fun ds μ Kd Kx h=>fCloseX_len h) (fun cdv A outer s H E hr φ0 Kb Z=>⟨_,(b_cons (s_if (qLt (dLn T (dv 0)) d_int)
  (b_one (s_raise Z rfl O_BadText aL (by decide) aL rfl (a1 d_str)))
  b_nil)
  (b_cons (s_asg (d_slice false (dv 0) (o_some (d_neg d_int)) o_no) ⟨(pg_lst (n:=4) rfl (pgs_consC (qN 1 sc_close_bracket.nd) (pgs_consC (qN 2 sc_close_bracket.nd) (pgs_consC (qN 3 sc_close_bracket.nd) (pgs_consC (qN 4 sc_close_bracket.nd) pgs_nilC))))),(so_lst (so_cons (so_name 1) (mo_name 1) (so_cons (so_name 2) (mo_name 2) (so_cons (so_name 3) (mo_name 3) (so_cons (so_name 4) (mo_name 4) so_nil mo_nil) (mo_cons (mo_name 4) mo_nil)) (mo_cons (mo_name 3) (mo_cons (mo_name 4) mo_nil))) (mo_cons (mo_name 2) (mo_cons (mo_name 3) (mo_cons (mo_name 4) mo_nil))))),(mo_lst (mo_cons (mo_name 1) (mo_cons (mo_name 2) (mo_cons (mo_name 3) (mo_cons (mo_name 4) mo_nil)))))⟩)
  (b_cons (s_if (PW.pt (t_or (d_testC (neTx (hu_of hr)) so_eqT (dv 1) d_str (nomark _)) (t_or (d_testC (eqTx (hu_of hr)) so_eqT (dv 2) d_str (nomark _)) (t_or (d_testC (eqTx (hu_of hr)) so_eqT (dv 4) d_str (nomark _)) (t_or1 (t_not (d_testV (d_isi (T := "int") (by simp) (by rfl) T.isinstance (by rfl) T.int aZ (dv 3)))))))))
  (b_one (s_raise Z rfl O_BadText aL (by decide) aL rfl (a1 d_str)))
  b_nil)
  (b_cons (s_delE (dv 0) (d_neg d_int))
  (b_one (s_expr (d_mt av aT aS appendC so_append (dv 0) (a1 (d_tup (a3 (dv 3) (dv 2) (dv 4))))))))))),fun ds μ m Kd Kx hm hl em h hK=>?_⟩)
 unfold fCloseX at h
 split at h
 ·rename_i j
  obtain⟨_,j0,st,e,hz,kk⟩:=h
  obtain⟨ν,hν⟩:∃ ν,ν=μ.set 0 (.gx φ0 H):=⟨_,rfl⟩
  have e':lvM ν j=some (st.reverse.map siD):=by rw[hν,lvM_ne (bM j0)];exact e
  have ln:(st.reverse.map siD).length=st.length:=by rw[gxC,ar]
  rw[<- hν]
  refine opt_of e' ?_
  refine iteD (c:=((st.reverse.map siD).length:Int)<4) (fun q=>?_) (fun q=>?_)
  ·have:closeF st=none:=by
    unfold closeF
    split
    ·simp at q;omega
    ·rfl
   rw[this]at kk
   rw[hν]
   exact⟨zs,gX_of hK em kk⟩
  ·rw[ln]at q
   obtain⟨a,b,c,d,s0,rfl⟩:∃ a b c d s0,st=a::b::c::d::s0:=by
    match st,q with
    | [],q=>simp at q
    | [_],q=>simp at q
    | [_,_],q=>simp at q
    | [_,_,_],q=>simp at q
    | a::b::c::d::s0,_=>exact⟨a,b,c,d,s0,rfl⟩
   have er:((a::b::c::d::s0).reverse.map siD)=s0.reverse.map siD++[siD d,siD c,siD b,siD a]:=by simp
   rw[er]at e'
   refine opt_of e' ?_
   rw[show(-4:Int) = -((4:Nat):Int)from rfl,cut_lst (k:=4) rfl (by decide)]
   refine⟨rfl,?_⟩
   have jl:=(gxB (lvM_eq e')).1
   unfold dgCons dgName dgNil
   dsimp only
   refine dIf_of (d.isSome||(c.isNone||(a.isNone||!isN b))) (.or (.tst fun K k=>ne_si k) fun _=>.or (.tst fun K k=>eq_si k) fun _=>.or (.tst fun K k=>eq_si k) fun _=>.not (.tst fun K k=>ty_si k)) (fun q=>?_) (fun q=>dNx_of ?_)
   ·have:closeF (a::b::c::d::s0)=none:=by
     unfold closeF
     split
     ·rename_i e;cases e;cases q
     ·rfl
    rw[this]at kk
    rw[hν]
    exact⟨zs,gX_of hK em kk⟩
   ·cases ec:closeF (a::b::c::d::s0)with
    | none=>rw[close_at ec]at q;cases q
    | some s' =>
     rw[ec]at kk
     unfold closeF at ec
     split at ec
     ·rename_i r p l s1 e1
      cases e1
      cases ec
      have l4:(s0.reverse.map siD++[siD none,siD (some l),siD (some (.num p)),siD (some r)]).length=(s0.reverse.map siD).length+4:=by rw[gxE];rfl
      have lz:(s0.reverse.map siD).length=s0.length:=by rw[gxC,ar]
      simp only[ah]at hz
      refine⟨_,4,e',rfl,by decide,by rw[l4];omega,?_⟩
      rw[l4,Nat.add_sub_cancel,bp]
      have e2:lvM (ν.set j (.lst (s0.reverse.map siD))) j=some (s0.reverse.map siD):=lvM_set jl
      refine⟨lvM_ty e2,zs,opt_of e2 ⟨szS (by omega),?_⟩⟩
      rw[List.set_set]
      refine Fz.keep ⟨by rw[aM j0,hν];exact gx_at em,?_⟩
      rw[List.set_comm _ _ j0,hν,gx_back em]
      have kk:Kd D.non (μ.set j (.lst ((some (Mak.tri p l r)::s0).reverse.map siD))):=kk
      rw[aH,az]at kk
      exact kk
     ·cases ec
 ·exact h.elim
theorem ok_loose_make (F:Fun K "loose_make" "loose_make" s_loose_make f fd)(T:Bi2 mg)(O_BadText:OwnCls "BadText" cBadText veB "ValueError.__new__" mg base)(C_number_of_figures:c_number_of_figures P w K mg base)(C_close_bracket:c_close_bracket P w K mg base):FnOk P w K mg base (CX1 P w) 2 f fd (pA s_loose_make) (spX (fLooseX cBadText)):=by
 refine F.okX sc_loose_make (fun ds μ Kd Kx h=>fLooseX_len h) (fun cdv A outer s H E hr φ0 Kb Z=>⟨_,(b_cons (qS 1 sc_loose_make.nd (d_lst true da_nil))
  (b_cons (s_for PassesOwn.leaving rfl (i_list (dv 0)) (qT 2 sc_loose_make.nd)
  (b_one (s_if (qEq (dv 2) d_str)
  (b_one (s_expr (d_callX Z.z C_close_bracket hr.le rfl (a1 (dv 1)))))
  (b_one (s_if (qEq (dv 2) d_str)
  (b_one (s_expr (d_mt av aT aS appendC so_append (dv 1) (a1 (dv 2)))))
  (b_one (s_expr (d_mt av aT aS appendC so_append (dv 1) (a1 (d_callX Z.z C_number_of_figures hr.le rfl (a1 (dv 2))))))))))))
  (b_cons (s_if (PW.pt (t_or (qNe (dLn T (dv 1)) d_int) (t_or1 (d_testC (eqTx (hu_of hr)) so_eqT (dIX (dv 1) d_int) d_str (nomark _)))))
  (b_one (s_raise Z rfl O_BadText aL (by decide) aL rfl (a1 d_str)))
  b_nil)
  (b_one (s_ret (dIX (dv 1) d_int)))))),fun ds μ m Kd Kx hm hl em h hK=>?_⟩)
 unfold fLooseX at h
 split at h
 ·rename_i y
  obtain⟨_,ws0,rfl,hl',hw,kk⟩:=h
  obtain⟨ν,hν⟩:∃ ν,ν=μ.set 0 (.gx φ0 H):=⟨_,rfl⟩
  have g0:ν[0]?=some (.gx φ0 H):=by rw[hν];exact gx_at em
  have l0:0<ν.length:=(gxB g0).1
  have g1:∀ g:MS,(ν++g)[0]?=some (.gx φ0 H):=fun g=>by rw[gxF l0];exact g0
  have bad:∀ {g:MS},looseF [] ws0=none->Kb (.ref cBadText) (ν++g):=fun no=>by
   rw[no]at kk
   rw[hK,hν]
   refine .inr ⟨old_app hm,?_⟩
   rw[bp]
   exact⟨gx_at em,by rw[gx_back em];exact kk⟩
  rw[<- hν]
  refine⟨zs,?_⟩
  refine forW_inv (fun ds ρ μ'=>∃(st:List (Option Mak)) (ws:List Str) (u:Option D),ds=ws.map D.str/\looseF [] ws0=looseF st ws/\(∀ w∈ws,asc w.cps.toList/\w.length<=10000)/\st.length+ws.length<=5000/\ρ=[some (.lst (ws0.map D.str)),some (.mr ν.length),u]/\μ'=ν++[.lst (st.reverse.map siD)]) ⟨[],ws0,none,rfl,rfl,hw,by show 0+_<=_;omega,rfl,rfl⟩ ?_ ?_
  ·rintro d ds' ρ μ' ⟨st,ws,u,e,er,ha,hn,rfl,rfl⟩
   refine⟨trivial,fun nx hnx=>?_⟩
   cases ws with
   | nil=>cases e
   | cons w ws =>
    cases e
    rw[ah]at hn
    have hA:=ha w ae
    have ha':∀ w∈ws,asc w.cps.toList/\w.length<=10000:=fun x hx=>ha x (gxI _ hx)
    have er':looseF [] ws0=if w = ")" then(match closeF st with | some s'=>looseF s' ws | none=>none)else if w = "(" then looseF (none::st) ws else match numF w with | some n=>looseF (some (.num n)::st) ws | none=>none:=er
    unfold dgName
    dsimp only
    refine iteDf (c:=w = ")") (fun q=>?_) (fun q=>?_)
    ·rw[aE q]at er'
     refine⟨g1 _,⟨_,g1 _⟩,by omega,st,lvM_new,by omega,?_⟩
     cases ec:closeF st with
     | none=>rw[ec]at er';exact bad er'
     | some s' =>
      rw[ec]at er'
      have sl:s'.length<=st.length:=by
       unfold closeF at ec
       split at ec
       ·cases ec;simp
       ·cases ec
      exact hnx _ _ ⟨s',ws,_,rfl,er',ha',by omega,rfl,by rw[set_end]⟩
    ·rw[ai q]at er'
     refine iteDf (c:=w = "(") (fun q=>?_) (fun q=>?_)
     ·rw[aE q]at er'
      subst q
      refine⟨lvM_ty lvM_new,opt_of lvM_new ⟨szS (by rw[gxC,ar];omega),hnx _ _ ⟨none::st,ws,_,rfl,er',ha',by rw[ah];omega,rfl,?_⟩⟩⟩
      rw[set_end,aH,az];rfl
     ·rw[ai q]at er'
      refine⟨lvM_ty lvM_new,g1 _,⟨_,g1 _⟩,hA.1,hA.2,?_⟩
      cases ec:numF w with
      | none=>rw[ec]at er';exact bad er'
      | some n =>
       rw[ec]at er'
       refine opt_of lvM_new ⟨szS (by rw[gxC,ar];omega),hnx _ _ ⟨some (.num n)::st,ws,_,rfl,er',ha',by rw[ah];omega,rfl,?_⟩⟩
       rw[set_end,aH,az];rfl
  ·rintro ρ μ' ⟨st,ws,u,e,er,ha,hn,rfl,rfl⟩
   cases ws with
   | cons w ws=>cases e
   | nil =>
    have er:looseF [] ws0=finF st:=er
    refine⟨trivial,?_⟩
    dsimp only
    have ln:(st.reverse.map siD).length=st.length:=by rw[gxC,ar]
    by_cases h1:st.length=1
    ·obtain⟨o,rfl⟩:=List.length_eq_one_iff.mp h1
     have a0:atI ([o].reverse.map siD) 0=some (siD o):=rfl
     refine dIf_of (false||o.isNone) (.or (.tst fun K k=>opt_of lvM_new k) fun _=>.tst fun K k=>opt_of lvM_new (opt_of a0 (eq_si k))) (fun q=>?_) (fun q=>dNx_of ?_)
     ·cases o with
      | none=>exact⟨zs,g1 _,bad er⟩
      | some t=>cases q
     ·cases o with
      | none=>cases q
      | some t =>
       rw[er]at kk
       have kk:Kd (mkD t) μ:=kk
       refine opt_of lvM_new (opt_of a0 (.drop (mrB_mk t) (old_app (by rw[hν];exact hm)) ?_))
       rw[bp,hν]
       exact gK_of em kk
    ·have no:finF st=none:=by
      unfold finF
      split
      ·exact absurd rfl h1
      ·rfl
     refine dIf_of (true||false) (.or (.tst fun K k=>opt_of lvM_new (by
      show K (.bl (true != decide (((st.reverse.map siD).length:Int)=1))) _
      rw[ln,ak (by omega)];exact k)) fun q=>by cases q) (fun q=>⟨zs,g1 _,bad (er.trans no)⟩) (fun q=>by cases q)
 ·exact h.elim
theorem ok_make_of (F:Fun K "make_of" "make_of" s_make_of f fd)(T:Bi2 mg)(O_BadText:OwnCls "BadText" cBadText veB "ValueError.__new__" mg base)(G_MOST_TAKES:GInt mg "MOST_TAKES" 40)(C_loose_make:c_loose_make P w K mg base)(C_make_text:c_make_text P w K mg base):FnOk P w K mg base (CX1 P w) 5 f fd (pA s_make_of) (spX (fMakeOfX cBadText)):=by
 refine F.okX sc_make_of (fun ds μ Kd Kx h=>fMakeOfX_len h) (fun cdv A outer s H E hr φ0 Kb Z=>⟨_,(bb_cons (sb_if (tb_cmp geC so_b2' (db_count (dv 0)) (d_gint rfl G_MOST_TAKES) (nomark _))
  (b_one (s_raise Z rfl O_BadText aL (by decide) aL rfl (a1 d_str)))
  b_nil)
  (bp_cons (sp_set (i:=1) sc_make_of.nd rfl lo (dp_callX1 Z.z C_loose_make hr.le rfl (dp_mt0 cb PySem.F.slot_str_split PySem.F.type_str_split split0S (so_split0 (m:=false)) (dp_replace (dp_replace (PE.pep (dv 0)) (by decide)) (by decide)))) (.inr rfl))
  (b_cons (s_if (qNe (qC C_make_text hr (a1 (dv 1))) (dv 0))
  (b_one (s_raise Z rfl O_BadText aL (by decide) aL rfl (a1 d_str)))
  b_nil)
  (b_one (s_ret (dv 1)))))),fun ds μ m Kd Kx hm hl em h hK=>?_⟩)
 unfold fMakeOfX at h
 split at h
 ·rename_i z
  obtain⟨_,hz,ha,k1,k2⟩:=h
  have r1:(Txt.replace z "(" "( ").length<=2*z.length:=repl_len z "( " 40 rfl
  have r2:(Txt.replace (Txt.replace z "(" "( ") ")" " )").length<=2*(Txt.replace z "(" "( ").length:=repl_len (Txt.replace z "(" "( ") " )" 41 rfl
  have e1:("( " : Str).length=2:=by decide
  have e2:(" )" : Str).length=2:=by decide
  have A1:asc (Txt.replace z "(" "( ").cps.toList:=rep_asc (c:=40) ha (show asc [40,32] by unfold asc;decide)
  have A2:asc (Txt.replace (Txt.replace z "(" "( ") ")" " )").cps.toList:=rep_asc (c:=41) A1 (show asc [32,41] by unfold asc;decide)
  have A3:=words_asc A2
  have A4:=StrLaws.words_weight (Txt.replace (Txt.replace z "(" "( ") ")" " )")
  refine dIf_of (decide ((40:Int)<=Txt.count z "(")) (.tst fun K k=>k) (fun q=>?_) (fun q=>dNx_of ?_)
  ·refine⟨zs,gX_of hK em (k2 fun t hq6=>?_)⟩
   obtain⟨b1,b2,b3⟩:=hq6
   have:=count_mk b2
   rw[<- b1]at this
   have:=cn q
   omega
  ·have q':¬ (40:Int)<=Txt.count z "(":=of_decide_eq_false q
   refine⟨by rw[e1];omega,by rw[e2];omega,rfl,sz (by omega),gx_at em,⟨_,gx_at em⟩,_,rfl,by omega,fun w hw=>⟨A3 w hw,by have:=word_short hw;omega⟩,?_⟩
   cases el:looseF [] (Txt.words (Txt.replace (Txt.replace z "(" "( ") ")" " )"))with
   | none =>
    refine(gX_of hK em (k2 fun t hq0=>?_)).2
    obtain⟨b1,b2,b3⟩:=hq0
    rw[b1,words_mk b2]at el
    have:=loose_mk (st:=[]) (ws:=[]) b2
    rw[aR,el]at this
    cases this
   | some t =>
    obtain⟨t1,t2⟩:=loose_ok el (fun _ h=>nomatch h)
    have t2:t.cnt<=0+(Txt.words (Txt.replace (Txt.replace z "(" "( ") ")" " )")).length:=t2
    refine⟨t,rfl,by omega,t1,?_⟩
    refine iteDn (c:=mkT t=z) (fun q2=>?_) (fun q2=>?_)
    ·refine⟨zs,gX_of hK em (k2 fun t' hq1=>?_)⟩
     obtain⟨b1,b2,b3⟩:=hq1
     refine q2 ?_
     rw[b1,words_mk b2]at el
     have:=loose_mk (st:=[]) (ws:=[]) b2
     rw[aR,el]at this
     cases this
     exact b1.symm
    ·have c:=count_mk t1
     rw[q2]at c
     exact .keep (gK_of em (k1 t ⟨q2.symm,t1,by omega⟩))
 ·exact h.elim
theorem ok_sign (F:Fun K "_law_sign" "_law_sign" s_sign f fd)(T:Bi2 mg)(C_take:c_take P w K mg base):FnOk P w K mg base CX0 2 f fd (pA s_sign) (spD fSignA):=by
 refine F.okD sc_sign (fun ds μ Kd h=>by unfold fSignA at h;split at h <;> first | rfl | exact h.elim) (fun cdv A outer s H E hr=>⟨_,(b_cons (qS 1 sc_sign.nd d_str)
  (b_cons (qS 1 sc_sign.nd (dPl (dv 1) d_str))
  (b_one (s_ret (dIX (dv 1) (qC C_take hr (a2 (dv 0) (dLn T (dv 1))))))))),fun ds μ Kd hm hl h=>?_⟩)
 unfold fSignA at h
 split at h
 ·rename_i k
  obtain⟨hb,kk⟩:=h
  refine⟨by decide,by decide,hb,by decide,by decide,fun v v0 v1=>⟨by decide,?_⟩⟩
  obtain⟨c,e,hc⟩:=atI_in (l:=(Str.ofString " !\"#$&'()*+,-./0123456789:;<=>?@ABCDEFGHIJKLMNOPQRSTUVWXYZ[\\]^_`"++Str.ofString "abcdefghijklmnopqrstuvwxyz{|}~\n").cps.toList) v0 v1
  exact opt_of e (.keep (kk c ((show ∀ c∈(Str.ofString " !\"#$&'()*+,-./0123456789:;<=>?@ABCDEFGHIJKLMNOPQRSTUVWXYZ[\\]^_`"++Str.ofString "abcdefghijklmnopqrstuvwxyz{|}~\n").cps.toList,c<128 by decide +kernel) c hc)))
 ·exact h.elim
theorem ok_spoilt (F:Fun K "_law_spoilt" "_law_spoilt" s_spoilt f fd)(T:Bi2 mg)(C_take:c_take P w K mg base)(C_sign:c_sign P w K mg base):FnOk P w K mg base CX0 3 f fd (pA s_spoilt) (spD fSpoiltA):=by
 refine F.okD sc_spoilt (fun ds μ Kd h=>by unfold fSpoiltA at h;split at h <;> first | rfl | exact h.elim) (fun cdv A outer s H E hr=>⟨_,(b_cons (qS 2 sc_spoilt.nd (qC C_take hr (a2 (dv 0) (dPl (dLn T (dv 1)) d_int))))
  (b_cons (qS 3 sc_spoilt.nd (qC C_take hr (a2 (dv 0) d_int)))
  (b_cons (s_if (qEq (dv 3) d_int)
  (b_one (s_ret (dPl (dPl (d_slice false (dv 1) o_no (o_some (dv 2))) (qC C_sign hr (a1 (dv 0)))) (d_slice false (dv 1) (o_some (dv 2)) o_no))))
  b_nil)
  (b_cons (s_if (qEq (dv 3) d_int)
  (b_one (s_ret (dPl (d_slice false (dv 1) o_no (o_some (dv 2))) (d_slice false (dv 1) (o_some (dPl (dv 2) d_int)) o_no))))
  b_nil)
  (b_cons (s_if (qEq (dv 3) d_int)
  (b_one (s_ret (dPl (dPl (d_slice false (dv 1) o_no (o_some (dv 2))) (qC C_sign hr (a1 (dv 0)))) (d_slice false (dv 1) (o_some (dPl (dv 2) d_int)) o_no))))
  b_nil)
  (b_one (s_ret (dPl (dPl (d_slice false (dv 1) o_no (o_some (dv 2))) (d_slice false (dv 1) (o_some (dv 2)) (o_some (dPl (dv 2) d_int)))) (d_slice false (dv 1) (o_some (dv 2)) o_no))))))))),fun ds μ Kd hm hl h=>?_⟩)
 unfold fSpoiltA at h
 split at h
 ·rename_i k z
  obtain⟨hb,hz,ha,kk⟩:=h
  have sl:z.length<=sizeLine:=sz (by omega)
  have l0:z.cps.toList.length=z.length:=rfl
  refine⟨sl,hb,by omega,by omega,fun p p0 p1=>?_⟩
  refine⟨hb,by decide,by decide,fun w w0 w1=>?_⟩
  obtain⟨A,hA⟩:∃ A,A=cutL z.cps.toList none (some p):=⟨_,rfl⟩
  obtain⟨B,hB⟩:∃ B,B=cutL z.cps.toList (some p) none:=⟨_,rfl⟩
  obtain⟨C,hC⟩:∃ C,C=cutL z.cps.toList (some (p+1)) none:=⟨_,rfl⟩
  obtain⟨G,hG⟩:∃ G,G=cutL z.cps.toList (some p) (some (p+1)):=⟨_,rfl⟩
  have aA:asc A:=by rw[hA];exact cut_asc ha
  have aB:asc B:=by rw[hB];exact cut_asc ha
  have aC:asc C:=by rw[hC];exact cut_asc ha
  have aG:asc G:=by rw[hG];exact cut_asc ha
  have lA:A.length<=p.toNat:=by rw[hA,cutL_to p0,a9];omega
  have lB:B.length+p.toNat<=z.length:=by rw[hB,cutL_from p0,cA];omega
  have lC:C.length+p.toNat<=z.length:=by rw[hC,cutL_from (by omega),cA];omega
  have lG:G.length<=1:=by rw[hG];exact cut_one p0
  have ok:∀ l:List Nat,l.length<=z.length+1->asc l->Kd (.str ⟨l.toArray⟩) μ:=fun l h1 h2=>kk _ (by rw[lenS];exact h1) h2
  refine iteDf (c:=w=0) (fun _=>?_) (fun _=>?_)
  ·refine⟨sl,hb,fun c hc=>?_⟩
   show((⟨(cutL z.cps.toList none (some p)).toArray⟩:Str)).length+((⟨[c].toArray⟩:Str)).length<=sizeLine/\_
   refine⟨by rw[<- hA,lenS,lenS];exact sz (by show _+1<=_;omega),sl,?_,.keep ?_⟩
   ·rw[<- hA,<- hB,app_str,lenS,lenS,gxE];exact sz (by show _+1+_<=_;omega)
   ·rw[<- hA,<- hB,app_str,app_str]
    exact ok _ (by rw[gxE,gxE];show _+1+_<=_;omega) (asc_app (asc_app aA fun x hx=>by rw[List.mem_singleton.mp hx];exact hc) aB)
  refine iteDf (c:=w=1) (fun _=>?_) (fun _=>?_)
  ·refine⟨sl,sl,?_,.keep ?_⟩
   ·rw[<- hA,<- hC,lenS,lenS];exact sz (by omega)
   ·rw[<- hA,<- hC,app_str]
    exact ok _ (by rw[gxE];omega) (asc_app aA aC)
  refine iteDf (c:=w=2) (fun _=>?_) (fun _=>?_)
  ·refine⟨sl,hb,fun c hc=>?_⟩
   show((⟨(cutL z.cps.toList none (some p)).toArray⟩:Str)).length+((⟨[c].toArray⟩:Str)).length<=sizeLine/\_
   refine⟨by rw[<- hA,lenS,lenS];exact sz (by show _+1<=_;omega),sl,?_,.keep ?_⟩
   ·rw[<- hA,<- hC,app_str,lenS,lenS,gxE];exact sz (by show _+1+_<=_;omega)
   ·rw[<- hA,<- hC,app_str,app_str]
    exact ok _ (by rw[gxE,gxE];show _+1+_<=_;omega) (asc_app (asc_app aA fun x hx=>by rw[List.mem_singleton.mp hx];exact hc) aC)
  ·refine⟨sl,sl,?_,sl,?_,.keep ?_⟩
   ·rw[<- hA,<- hG,lenS,lenS];exact sz (by omega)
   ·rw[<- hA,<- hG,<- hB,app_str,lenS,lenS,gxE];exact sz (by omega)
   ·rw[<- hA,<- hG,<- hB,app_str,app_str]
    exact ok _ (by rw[gxE,gxE];omega) (asc_app (asc_app aA aG) aB)
 ·exact h.elim
theorem ok_figures (F:Fun K "_law_figures" "_law_figures" s_figures f fd)(T:Bi2 mg)  : FnOk P w K mg base CX0 1 f fd (pA s_figures) (spD fFigL):=by
 refine F.okD sc_figures (fun ds μ Kd h=>by unfold fFigL at h;split at h <;> first | rfl | exact h.elim) (fun cdv A outer s H E hr=>⟨_,(b_cons (s_if (PW.pt (t_or (qLt (dLn T (dv 0)) d_int) (t_or (qGt (dLn T (dv 0)) d_int) (t_or1 (PW.pt (t_and (qEq (dIX (dv 0) d_int) d_str) (t_and1 (qGt (dLn T (dv 0)) d_int))))))))
  (b_one (s_ret d_bl))
  b_nil)
  (b_one (s_ret (d_blt (allC rfl) so_all (by rfl) T.all PyProof.Rows.boot_all (a1 (dC1 false (cOk (N:=["_law_sign_here"]) (js:=[none]) sc_figures (by decide +kernel)) (i_str (dv 0)) (fun _ _ _ nd=>(qN 0 nd)) (fun _ _ _=>ts_nil) (fun _ _ _=>(d_cmp inC so_in (dv 0) d_str (by with_unfolding_all rfl))))))))),fun ds μ Kd hm hl h=>?_⟩)
 unfold fFigL at h
 split at h
 ·rename_i z
  obtain⟨hz,kk⟩:=h
  have sl:z.length<=sizeLine:=sz (by omega)
  have l0:z.cps.toList.length=z.length:=rfl
  refine dIf_of (decide (((z.length:Nat):Int)<1)||(decide ((4:Int)<((z.length:Nat):Int))||(decide (z.cps.toList.head?=some 48)&&decide ((1:Int)<((z.length:Nat):Int))))) (.or (.tst fun K k=>⟨sl,k⟩) fun q1=>.or (.tst fun K k=>⟨sl,k⟩) fun q2=>.and (.tst fun K k=>⟨sl,?_⟩) fun _=>.tst fun K k=>⟨sl,k⟩) (fun q=>?_) (fun q=>dNx_of ?_)
  ·have q1:=of_decide_eq_false q1
   cases e:z.cps.toList with
   | nil=>rw[e]at l0;simp at l0;omega
   | cons c l =>
    rw[e]at k
    refine opt_of (show atI (c::l) 0=some c from atI_nat (j:=0) rfl) ?_
    show K (.bl (false != decide ((⟨#[c]⟩:Str) = "0"))) μ
    rw[cy,show decide ((⟨#[c]⟩:Str) = "0")=decide ((c::l).head?=some 48)from decide_eq_decide.mpr ⟨fun h=>by injection h with h;injection h with h;cases h;rfl,fun h=>by cases h;rfl⟩]
    exact k
  ·have:figB z.cps.toList=false:=by
    unfold figB
    rw[l0]
    cases e1:decide (1<=z.length)with
    | false=>rfl
    | true =>
     cases e2:decide (z.length<=4)with
     | false=>rfl
     | true =>
      have e1:=cn e1
      have e2:=cn e2
      rw[ak (by omega),ak (by omega),Bool.false_or,Bool.false_or,aQ]at q
      have q2:=cn q.2
      rw[q.1,au (by omega)];rfl
   rw[this]at kk
   exact .keep kk
  ·refine⟨by rw[gxC];exact sl,?_⟩
   refine compW_all trivial (fun c:Nat=>D.str ⟨#[c]⟩) (fun c=>D.bl (decide (48<=c)&&decide (c<58))) (fun c _ K' k'=>⟨c,rfl,?_⟩) ?_
   ·show K' (some (D.bl (false != decide (c∈(Str.ofString "0123456789").cps.toList)))) μ
    rw[fig_mem,cy];exact k'
   ·refine⟨z.cps.toList.map fun c=>decide (48<=c)&&decide (c<58),by rw[List.map_map];rfl,?_⟩
    have eb:((z.cps.toList.map fun c=>decide (48<=c)&&decide (c<58)).all id)=figB z.cps.toList:=by
     rw[List.all_map]
     unfold figB
     rw[bD,bD,a8,a8]at q
     have q3:=q.2.2
     rw[l0,au (show 1<=z.length by omega),au (show z.length<=4 by omega),show decide (1<z.length)=decide ((1:Int)<((z.length:Nat):Int))from decide_eq_decide.mpr (by omega),q3]
     rfl
    show Fz _ Kd (.bl (List.all _ id)) μ
    rw[eb]
    exact .keep kk
 ·exact h.elim
theorem ok_inner (F:Fun K "_law_inner" "_law_inner" s_inner f fd)(T:Bi2 mg)(C_figures:c_figures P w K mg base):FnOk P w K mg base CX0 2 f fd (pA s_inner) (spD fInnerL):=by
 refine F.okD sc_inner (fun ds μ Kd h=>by unfold fInnerL at h;split at h <;> first | rfl | exact h.elim) (fun cdv A outer s H E hr=>⟨_,(b_cons (qS 2 sc_inner.nd (d_mt cb PySem.F.slot_str_split PySem.F.type_str_split split1S (so_split1 (m:=false)) (dv 1) (a1 d_str)))
  (b_cons (s_if (PW.pt (t_or (qNe (dLn T (dv 2)) d_int) (t_or1 (t_not (d_testV (qC C_figures hr (a1 (dIX (dv 2) d_int))))))))
  (b_one (s_ret d_bl))
  b_nil)
  (b_cons (qS 3 sc_inner.nd (d_lst true da_nil))
  (b_cons (s_for df rfl (i_list (d_lst false (a2 (dIX (dv 2) d_int) (dIX (dv 2) d_int)))) (qT 4 sc_inner.nd)
  (b_one (s_if (qEq (dv 4) d_str)
  (b_cons (s_if (qEq (dLn T (dv 0)) d_int)
  (b_one (s_ret d_bl))
  b_nil)
  (b_one (s_expr (d_mt av aT aS appendC so_append (dv 3) (a1 (d_mt0 av bS bR popL so_pop (dv 0)))))))
  (b_one (s_if (d_testV (qC C_figures hr (a1 (dv 4))))
  (b_one (s_expr (d_mt av aT aS appendC so_append (dv 3) (a1 (d_ty intT_call so_intT (by rfl) T.int aZ (a1 (dv 4)))))))
  (b_one (s_ret d_bl)))))))
  (b_cut (s_if (PW.pt (t_and (qEq (dIX (dv 2) d_int) d_str) (t_and1 (qEq (dIX (dv 2) d_int) d_str))))
  (b_one (qS 3 sc_inner.nd (d_rev (dv 3) (o_some (d_neg d_int)))))
  b_nil)
  (b_cons (s_expr (d_mt av aT aS appendC so_append (dv 0) (a1 (d_tup (a3 (d_ty intT_call so_intT (by rfl) T.int aZ (a1 (dIX (dv 2) d_int))) (dIX (dv 3) d_int) (dIX (dv 3) d_int))))))
  (b_one (s_ret d_bl)))))))),fun ds μ Kd hm hl h=>?_⟩)
 unfold fInnerL at h
 split at h
 ·rename_i j z
  obtain⟨rs,e,hr',hz,kk⟩:=h
  have sp:=split_spl z 32
  have jl:=(gxB (lvM_eq e)).1
  refine⟨rfl,⟨32,rfl⟩,sz (by omega),?_⟩
  obtain⟨ws,hws⟩:∃ ws,ws=Txt.split z ⟨#[32]⟩:=⟨_,rfl⟩
  have sh:∀ w∈ws,w.length<=1000:=fun w hw=>by rw[hws]at hw;have:=part_short hw;omega
  have no:innerF rs z.cps.toList=none->Kd (.bl false) μ:=fun h=>by
   rw[h]at kk
   have:=kk rs
   rwa [set_same (lvM_eq e)]at this
  rw[<- hws]at sp
  rw[show Txt.split z (Str.ofString " ")=ws from hws.symm]
  refine nLf ?_
  dsimp only
  by_cases l3:ws.length=3
  ·obtain⟨a,b,c,rfl⟩:∃ a b c,ws=[a,b,c]:=by
    match ws,l3 with
    | [a,b,c],_=>exact⟨a,b,c,rfl⟩
   have ha:=sh a (by simp)
   have hb:=sh b (by simp)
   have hc:=sh c (by simp)
   have sp:spl 32 z.cps.toList=[a.cps.toList,b.cps.toList,c.cps.toList]:=sp.symm
   have i0:atI [D.str a,D.str b,D.str c] 0=some (.str a):=rfl
   have i1:atI [D.str a,D.str b,D.str c] 1=some (.str b):=rfl
   have i2:atI [D.str a,D.str b,D.str c] 2=some (.str c):=rfl
   refine dIf_of (false||!figB b.cps.toList) (.or (.tst fun K k=>k) fun _=>.not (.tst fun K k=>⟨hb,k⟩)) (fun q=>?_) (fun q=>dNx_of ?_)
   ·refine .keep (no ?_)
    unfold innerF
    rw[sp]
    dsimp only
    rw[ai (by rw[Bool.false_or,c6]at q;rw[q];exact ag)]
   have fb:figB b.cps.toList=true:=by rw[Bool.false_or,Bool.not_eq_false']at q;exact q
   rw[inner_parts sp fb]at kk
   refine⟨zs,?_⟩
   refine⟨zs,?_⟩
   refine forW_inv (fun ds ρ μ'=>∃(dn td:List Str) (ps r:List Mak) (v4:Option D),[a,c]=dn++td/\ds=td.map D.str/\(dn.map (·.cps.toList)).foldl stpM (some ([],rs))=some (ps,r)/\r.length<=1000/\ps.length<=dn.length/\ρ=[some (.mr j),some (.str z),some (.lst [.str a,.str b,.str c]),some (.mr μ.length),v4]/\μ'=μ.set j (.lst (r.reverse.map mkD))++[.lst (ps.map mkD)]) ⟨[],[a,c],[],rs,none,rfl,rfl,rfl,hr',aa _,rfl,by rw[set_same (lvM_eq e)];rfl⟩ ?_ ?_
   ·rintro d ds' ρ μ' ⟨dn,td,ps,r,v4,ed,es,ef,hr2,hp2,rfl,rfl⟩
    refine⟨trivial,fun nx hnx=>?_⟩
    cases td with
    | nil=>cases es
    | cons w td =>
     cases es
     have hw:w.length<=1000:=by
      have:w∈[a,c]:=by rw[ed];simp
      rcases List.mem_cons.mp this with rfl | h
      ·exact ha
      ·rw[List.mem_singleton.mp h];exact hc
     have dl:dn.length<=2:=by have:=bg List.length ed;rw[gxE]at this;show _<=[a,c].length;omega
     have bad:∀ r':List Mak,partF w.cps.toList r=none->Kd (.bl false) (μ.set j (.lst (r'.reverse.map mkD))):=fun r' h=>by
      have:([a.cps.toList,c.cps.toList]:List (List Nat)).foldl stpM (some ([],rs))=none:=by
       have e2:([a.cps.toList,c.cps.toList]:List (List Nat))=dn.map (·.cps.toList)++w.cps.toList::td.map (·.cps.toList):=by
        have:=bg (List.map fun x:Str=>x.cps.toList) ed
        rw[az]at this
        exact this
       rw[e2,cp,ef,List.foldl_cons]
       have:stpM (some (ps,r)) w.cps.toList=none:=by unfold stpM;dsimp only;rw[h]
       rw[this,parts_none]
      rw[this]at kk
      exact kk r'
     have good:∀ x r',partF w.cps.toList r=some (x,r')->((dn++[w]).map (·.cps.toList)).foldl stpM (some ([],rs))=some (ps++[x],r'):=fun x r' h=>by
      rw[az,cp,ef]
      show stpM (some (ps,r)) w.cps.toList=_
      unfold stpM;dsimp only;rw[h]
     have dd:∀ d:List Mak,(MO.lst (d.map mkD))=.lst (d.map mkD):=fun _=>rfl
     unfold dgName
     dsimp only
     refine iteDf (c:=w = "#") (fun q=>?_) (fun q=>?_)
     ·have w35:w.cps.toList=[35]:=by rw[q];rfl
      cases r with
      | nil =>
       refine dIf_of (true) (.tst fun K k=>opt_of (at_two jl) k) (fun _=>?_) (fun q=>by cases q)
       exact drop_two (l:=([]:List Mak).reverse) hm trivial (bad [] (by unfold partF;rw[aE w35]))
      | cons x r =>
       have pf:partF w.cps.toList (x::r)=some (x,r):=by unfold partF;rw[aE w35]
       have er:(x::r).reverse.map mkD=r.reverse.map mkD++[mkD x]:=by rw[aH,az];rfl
       rw[ah]at hr2
       refine dIf_of (false) (.tst fun K k=>opt_of (at_two jl) (by
        show K (.bl (false != decide ((((x::r).reverse.map mkD).length:Int)=0))) _
        rw[ak (by rw[er,gxE];show ¬ ((_+1:Nat):Int)=0;omega)];exact k)) (fun q=>by cases q) (fun _=>dNx_of ?_)
       rw[er]
       refine⟨lvM_ty at_own,lvM_ty (at_two jl),opt_of (at_two jl) (opt_of (last_snoc _ _) ?_)⟩
       rw[bX,set_tw jl]
       refine opt_of at_own ⟨szS (by rw[gxC];omega),?_⟩
       rw[set_own]
       exact hnx _ _ ⟨dn++[w],td,ps++[x],r,_,by rw[ed];simp,rfl,good x r pf,by omega,by rw[gxE,gxE];show _+1<=_+1;omega,rfl,by rw[az];rfl⟩
     ·have w35:¬ w.cps.toList=[35]:=fun h=>q (Str.ext' (Array.toList_inj.mp (h.trans rfl)))
      refine dIf_of (figB w.cps.toList) (.tst fun K k=>⟨hw,k⟩) (fun f=>?_) (fun f=>?_)
      ·obtain⟨n1,n2,n3⟩:=numF_read (fig_num f)
       have pf:partF w.cps.toList r=some (.num (PySem.NumText.digitsVal w.cps.toList:Nat),r):=by unfold partF;rw[ai w35,aE f]
       have w4:w.length<=4:=by
        unfold figB at f
        simp only[aQ,aX]at f
        exact f.1.1.2
       refine⟨lvM_ty at_own,_,n1,by omega,opt_of at_own ⟨szS (by rw[gxC];omega),?_⟩⟩
       rw[set_own]
       exact hnx _ _ ⟨dn++[w],td,ps++[.num (PySem.NumText.digitsVal w.cps.toList:Nat)],r,_,by rw[ed];simp,rfl,good _ r pf,by omega,by rw[gxE,gxE];show _+1<=_+1;omega,rfl,by rw[az];rfl⟩
      ·exact drop_two (l:=r.reverse) hm trivial (bad r (by unfold partF;rw[ai w35,ai (by rw[f];exact ag)]))
   ·rintro ρ μ' ⟨dn,td,ps,r,v4,ed,es,ef,hr2,hp2,rfl,rfl⟩
    obtain rfl:td=[]:=by cases td with | nil=>rfl | cons _ _=>cases es
    rw[aR]at ed
    subst ed
    refine⟨trivial,?_⟩
    have ef:([a.cps.toList,c.cps.toList]:List (List Nat)).foldl stpM (some ([],rs))=some (ps,r):=ef
    obtain⟨x,y,rfl⟩:∃ x y,ps=[x,y]:=by
     dsimp only [List.foldl_cons,List.foldl_nil,stpM]at ef
     cases e1:partF a.cps.toList rs with
     | none=>rw[e1]at ef;cases ef
     | some xr =>
      obtain⟨x,r1⟩:=xr
      rw[e1]at ef
      dsimp only at ef
      cases e2:partF c.cps.toList r1 with
      | none=>rw[e2]at ef;cases ef
      | some yr=>rw[e2]at ef;cases ef;exact⟨_,_,rfl⟩
    rw[ef]at kk
    obtain⟨n1,n2,n3⟩:=numF_read (fig_num fb)
    have b4:b.length<=4:=by
     unfold figB at fb
     simp only[aQ,aX]at fb
     exact fb.1.1.2
    have e35:∀ s:Str,s = "#"↔s.cps.toList=[35]:=fun s=>⟨fun h=>by rw[h];rfl,fun h=>Str.ext' (Array.toList_inj.mp (h.trans rfl))⟩
    have kk:Kd (.bl true) (μ.set j (.lst (((if a.cps.toList=[35]/\c.cps.toList=[35]then Mak.tri (PySem.NumText.digitsVal b.cps.toList:Nat) y x else Mak.tri (PySem.NumText.digitsVal b.cps.toList:Nat) x y)::r).reverse.map mkD))):=kk
    rw[aH]at kk
    have rl:(r.reverse.map mkD).length=r.length:=by rw[gxC,ar]
    dsimp only
    refine⟨fun ρ' μ'=>μ'=μ.set j (.lst (r.reverse.map mkD))++[.lst ([x,y].map mkD)]/\(((a.cps.toList=[35]/\c.cps.toList=[35])/\ρ'=[some (.mr j),some (.str z),some (.lst [.str a,.str b,.str c]),some (.lst [mkD y,mkD x]),v4])\/(¬ (a.cps.toList=[35]/\c.cps.toList=[35])/\ρ'=[some (.mr j),some (.str z),some (.lst [.str a,.str b,.str c]),some (.mr μ.length),v4])),?_,?_⟩
    ·refine dIf_of (decide (c = "#")&&decide (a = "#")) (.and (.tst fun K k=>by show K (.bl (false != decide (c = "#"))) _;rw[cy];exact k) fun _=>.tst fun K k=>by show K (.bl (false != decide (a = "#"))) _;rw[cy];exact k) (fun q=>?_) (fun q=>dNx_of ?_)
     ·rw[aQ,aX,aX]at q
      exact⟨rfl,opt_of at_own ⟨rfl,.inl ⟨⟨(e35 a).mp q.2,(e35 c).mp q.1⟩,rfl⟩⟩⟩
     ·refine⟨rfl,.inr ⟨fun h=>?_,rfl⟩⟩
      rw[au ((e35 a).mpr h.1),au ((e35 c).mpr h.2)]at q
      cases q
    ·rintro ρ' μ' ⟨rfl,⟨qc,rfl⟩ | ⟨qc,rfl⟩⟩
     ·rw[aE qc]at kk
      refine⟨lvM_ty (at_two jl),_,n1,by omega,zs,opt_of (at_two jl) ⟨szS (by omega),?_⟩⟩
      rw[set_tw jl]
      have:=drop_two (j:=j) (l:=r.reverse++[Mak.tri (PySem.NumText.digitsVal b.cps.toList:Nat) y x]) (g:=[.lst ([x,y].map mkD)]) hm (d:=.bl true) trivial kk
      rw[az]at this
      exact this
     ·rw[ai qc]at kk
      have a0:atI ([x,y].map mkD) 0=some (mkD x):=rfl
      have a1:atI ([x,y].map mkD) 1=some (mkD y):=rfl
      refine⟨lvM_ty (at_two jl),_,n1,by omega,opt_of at_own (opt_of a0 (opt_of at_own (opt_of a1 ⟨zs,opt_of (at_two jl) ⟨szS (by omega),?_⟩⟩)))⟩
      rw[set_tw jl]
      have:=drop_two (j:=j) (l:=r.reverse++[Mak.tri (PySem.NumText.digitsVal b.cps.toList:Nat) x y]) (g:=[.lst ([x,y].map mkD)]) hm (d:=.bl true) trivial kk
      rw[az]at this
      exact this
  ·have hn:innerF rs z.cps.toList=none:=by
    unfold innerF
    split
    ·rename_i e;rw[<- sp]at e;have:=bg List.length e;rw[gxC]at this;exact absurd this l3
    ·rfl
   have ll:(ws.map D.str).length=ws.length:=gxC _
   refine dIf_of (true||false) (.or (.tst fun K k=>(by
    show K (.bl (true != decide (((ws.map D.str).length:Int)=3))) _
    rw[ak (by rw[ll];omega)];exact k)) fun q=>by cases q) (fun _=>.keep (no hn)) (fun q=>by cases q)
 ·exact h.elim
theorem ok_read (F:Fun K "_law_read" "_law_read" s_read f fd)(T:Bi2 mg)(C_inner:c_inner P w K mg base)(C_figures:c_figures P w K mg base):FnOk P w K mg base CX0 3 f fd (pA s_read) (spD fReadL):=by
 refine F.okD sc_read (fun ds μ Kd h=>by unfold fReadL at h;split at h <;> first | rfl | exact h.elim) (fun cdv A outer s H E hr=>⟨_,(b_cons (s_if (PW.pt (t_or (d_testC inC so_in d_str (dv 0) (by with_unfolding_all rfl)) (t_or1 (qGt (d_mt cb PySem.F.slot_str_count PySem.F.type_str_count countC so_count (dv 0) (a1 d_str)) d_int))))
  (b_one (s_ret d_non))
  b_nil)
  (b_cons (qS 1 sc_read.nd (d_lst true da_nil))
  (b_cons (qS 2 sc_read.nd (d_lst true (a1 d_str)))
  (b_cons (s_for df rfl (i_str (dv 0)) (qT 3 sc_read.nd)
  (b_one (s_if (qEq (dv 3) d_str)
  (b_one (s_expr (d_mt av aT aS appendC so_append (dv 2) (a1 d_str))))
  (b_one (s_if (qEq (dv 3) d_str)
  (b_cons (s_if (PW.pt (t_or (qEq (dLn T (dv 2)) d_int) (t_or1 (t_not (d_testV (qC C_inner hr (a2 (dv 1) (d_mt0 av bS bR popL so_pop (dv 2)))))))))
  (b_one (s_ret d_non))
  b_nil)
  (b_one (s_asgS (dPl (dIX (dv 2) (d_neg d_int)) d_str) (dv 2) (d_neg d_int))))
  (b_one (s_asgS (dPl (dIX (dv 2) (d_neg d_int)) (dv 3)) (dv 2) (d_neg d_int))))))))
  (b_cons (s_if (qNe (dLn T (dv 2)) d_int)
  (b_one (s_ret d_non))
  b_nil)
  (b_cons (s_if (qEq (dIX (dv 2) d_int) d_str)
  (b_one (s_ret (dIX (dv 1) (d_neg d_int))))
  b_nil)
  (b_one (s_ret (d_if (d_testV (qC C_figures hr (a1 (dIX (dv 2) d_int)))) (d_ty intT_call so_intT (by rfl) T.int aZ (a1 (dIX (dv 2) d_int))) d_non))))))))),fun ds μ Kd hm hl h=>?_⟩)
 unfold fReadL at h
 split at h
 ·rename_i z
  obtain⟨hz,kk⟩:=h
  have cc:cnt 40 z.cps.toList=((z.cps.toList.count 40:Nat):Int):=cnt_count 40 _
  unfold readF at kk
  rw[cc]at kk
  refine dIf_of (decide (35∈z.cps.toList)||decide ((39:Int)<((z.cps.toList.count 40:Nat):Int))) (.or (.tst fun K k=>⟨35,rfl,by rw[cy];exact k⟩) fun _=>.tst fun K k=>⟨rfl,40,rfl,k⟩) (fun q=>?_) (fun q=>dNx_of ?_)
  ·rw[aE (by rw[Bool.or_eq_true,aX,aX]at q;exact q)]at kk
   exact .keep kk
  rw[ai (by rw[bD,a8,a8]at q;intro h;rcases h with h | h;exact q.1 h;exact q.2 h)]at kk
  have n35:35∉z.cps.toList:=by rw[bD,a8]at q;exact q.1
  have e1:(μ++[MO.lst []]).length=μ.length+1:=by rw[gxE];rfl
  refine⟨zs,zs,?_⟩
  refine forW_inv (fun ds ρ μ'=>∃(p l:List Nat) (rs:List Mak) (op:List (List Nat)) (u:Option D),z.cps.toList=p++l/\ds=l.map (fun c=>D.str ⟨#[c]⟩)/\resR z.cps.toList ([],[[]])=resR l (rs,op)/\JR op rs p/\smA rs/\rs.length<=p.length/\op.length<=p.length+1/\(∀ w∈op,w.length<=p.length)/\ρ=[some (.str z),some (.mr μ.length),some (.mr (μ.length+1)),u]/\μ'=μ++[.lst (rs.reverse.map mkD),.lst (op.reverse.map fun w=>D.str ⟨w.toArray⟩)]) ⟨[],z.cps.toList,[],[[]],none,rfl,rfl,rfl,⟨rfl,rfl⟩,fun _ h=>(nomatch h),aa _,aa _,fun w hw=>by rw[List.mem_singleton.mp hw];exact aa _,by rw[e1];rfl,by rw[aJ];rfl⟩ ?_ ?_
  ·rintro d ds' ρ μ' ⟨p,l,rs,op,u,ez,ed,er,hj,hs,b1,b2,b3,rfl,rfl⟩
   refine⟨trivial,fun nx hnx=>?_⟩
   cases l with
   | nil=>cases ed
   | cons c l =>
    cases ed
    have c35:c≠35:=fun h=>n35 (by rw[ez,h];simp)
    have pl:p.length+(l.length+1)=z.length:=by have:=bg List.length ez;rw[gxE]at this;exact this.symm
    have p1:(p++[c]).length=p.length+1:=by rw[gxE];rfl
    obtain⟨w,op,rfl⟩:∃ w op',op=w::op':=by
     cases op with
     | nil=>exact hj.elim
     | cons w op=>exact⟨w,op,rfl⟩
    have hw:=b3 w ae
    rw[ah]at b2
    have eo:(w::op).reverse.map (fun w=>D.str ⟨w.toArray⟩)=op.reverse.map (fun w=>D.str ⟨w.toArray⟩)++[.str ⟨w.toArray⟩]:=by rw[aH,az];rfl
    have ol:(op.reverse.map (fun w=>D.str ⟨w.toArray⟩)).length=op.length:=by rw[gxC,ar]
    unfold dgName
    dsimp only
    refine iteDf (c:=(⟨#[c]⟩:Str) = "(") (fun q=>?_) (fun q=>?_)
    ·have q:c=40:=by injection q with q;injection q with q;cases q;rfl
     have st:stepR c (rs,w::op)=some (rs,[]::w::op):=aE q
     have er':resR (c::l) (rs,w::op)=resR l (rs,[]::w::op):=by unfold resR;rw[run_cons,st]
     obtain⟨j1,j2⟩:=step_ok st hj hs c35
     refine⟨lvM_ty at1,opt_of at1 ⟨szS (by rw[gxC,ar,ah];omega),?_⟩⟩
     rw[set1]
     refine hnx _ _ ⟨p++[c],l,rs,[]::w::op,_,by rw[ez];simp,rfl,er.trans er',j1,j2,by omega,by rw[ah,ah];omega,fun x hx=>?_,rfl,?_⟩
     ·rcases List.mem_cons.mp hx with rfl | hx
      ·exact a6 _
      ·have:=b3 x hx;omega
     ·rw[aH (a:=[]),az];rfl
    have q40:c≠40:=fun h=>q (by rw[h];rfl)
    refine iteDf (c:=(⟨#[c]⟩:Str) = ")") (fun q=>?_) (fun q=>?_)
    ·have q:c=41:=by injection q with q;injection q with q;cases q;rfl
     have st:stepR c (rs,w::op)=closeR rs w op:=by unfold stepR;dsimp only;rw[ai q40,aE q]
     have no:∀ {g:MS},closeR rs w op=none->Fz μ.length Kd .non (μ++g):=fun h=>by
      have:resR (c::l) (rs,w::op)=none:=by unfold resR;rw[run_cons,st,h]
      rw[er,this]at kk
      exact .drop trivial (old_app hm) (by rw[bp];exact kk)
     cases op with
     | nil=>exact dIf_of (true||false) (.or (.tst fun K k=>opt_of at1 k) fun q=>by cases q) (fun _=>no rfl) (fun q=>by cases q)
     | cons w2 op =>
      have ewo:(w::w2::op).reverse.map (fun w=>D.str ⟨w.toArray⟩)=(op.reverse.map (fun w=>D.str ⟨w.toArray⟩)++[.str ⟨w2.toArray⟩])++[.str ⟨w.toArray⟩]:=by rw[aH,aH,az,az];rfl
      have ol:(op.reverse.map (fun w=>D.str ⟨w.toArray⟩)).length=op.length:=by rw[gxC,ar]
      have hw2:=b3 w2 (by simp)
      rw[ah]at b2
      rw[ewo]
      refine dIf_gen (fun b μ'=>(b=true/\closeR rs w (w2::op)=none/\∃ g,μ'=μ++g)\/(b=false/\∃ r,innerF rs w=some r/\μ'=μ++[.lst (r.reverse.map mkD),.lst (op.reverse.map (fun w=>D.str ⟨w.toArray⟩)++[.str ⟨w2.toArray⟩])])) (fun K hK=>?_) (fun μ' hb=>?_) (fun μ' hb=>?_)
      ·refine dtOr_no (.tst fun K k=>opt_of at1 (by
        show K (.bl (false != decide (((((op.reverse.map (fun w=>D.str ⟨w.toArray⟩)++[D.str ⟨w2.toArray⟩])++[D.str ⟨w.toArray⟩]).length:Nat):Int)=1))) _
        rw[ak (by rw[gxE,gxE];show ¬ ((_+1+1:Nat):Int)=1;omega)];exact k)) ?_
       refine⟨lvM_ty at1,opt_of at1 (opt_of (last_snoc _ _) ?_)⟩
       rw[bX,set1]
       refine⟨rs,at0,by omega,by rw[lenS];omega,?_⟩
       cases e:innerF rs w with
       | none =>
        intro rs'
        exact hK _ _ (.inl ⟨rfl,by unfold closeR;rw[e],_,by rw[set0]⟩)
       | some r=>exact hK _ _ (.inr ⟨rfl,r,e,by rw[set0]⟩)
      ·rcases hb with⟨_,h1,g,rfl⟩ | ⟨h,_⟩
       ·exact no h1
       ·cases h
      ·rcases hb with⟨h,_⟩ | ⟨_,r,e,rfl⟩
       ·cases h
       ·have st':stepR c (rs,w::w2::op)=some (r,(w2++[35])::op):=by rw[st];unfold closeR;rw[e]
        have er':resR (c::l) (rs,w::w2::op)=resR l (r,(w2++[35])::op):=by unfold resR;rw[run_cons,st']
        obtain⟨j1,j2⟩:=step_ok st' hj hs c35
        have rl:r.length<=rs.length+1:=by
         obtain⟨rs1,rs2,p',e2,h1,_,_⟩:=hj
         rw[e2]at e hs ⊢
         obtain⟨t,rfl,_,_⟩:=inner_ok e h1 hs
         rw[ah,gxE];omega
        refine dNx_of ?_
        refine opt_of at1 (opt_of at_m1 ⟨by show((⟨w2.toArray⟩:Str)).length+((⟨[35].toArray⟩:Str)).length<=sizeLine;rw[lenS,lenS];exact sz (by show _+1<=_;omega),opt_of at1 (opt_of ix_m1 ?_)⟩)
        rw[set_m1,set1]
        refine hnx _ _ ⟨p++[c],l,r,(w2++[35])::op,_,by rw[ez];simp,rfl,er.trans er',j1,j2,by omega,by rw[ah];omega,fun x hx=>?_,rfl,?_⟩
        ·rcases List.mem_cons.mp hx with rfl | hx
         ·rw[gxE];show _+1<=_;omega
         ·have:=b3 x (by simp[hx]);omega
        ·rw[aH,az]
         show _=μ++[_,MO.lst (_++[D.str ⟨(w2++[35]).toArray⟩])]
         rw[<- app_str];try rfl
    ·have q41:c≠41:=fun h=>q (by rw[h];rfl)
     have st:stepR c (rs,w::op)=some (rs,(w++[c])::op):=by unfold stepR;dsimp only;rw[ai q40,ai q41]
     have er':resR (c::l) (rs,w::op)=resR l (rs,(w++[c])::op):=by unfold resR;rw[run_cons,st]
     obtain⟨j1,j2⟩:=step_ok st hj hs c35
     rw[eo]
     refine opt_of at1 (opt_of at_m1 ⟨by show((⟨w.toArray⟩:Str)).length+((⟨[c].toArray⟩:Str)).length<=sizeLine;rw[lenS,lenS];exact sz (by show _+1<=_;omega),opt_of at1 (opt_of ix_m1 ?_)⟩)
     rw[set_m1,set1]
     refine hnx _ _ ⟨p++[c],l,rs,(w++[c])::op,_,by rw[ez];simp,rfl,er.trans er',j1,j2,by omega,by rw[ah];omega,fun x hx=>?_,rfl,?_⟩
     ·rcases List.mem_cons.mp hx with rfl | hx
      ·rw[gxE];show _+1<=_;omega
      ·have:=b3 x (by simp[hx]);omega
     ·rw[aH,az]
      show _=μ++[_,MO.lst (_++[D.str ⟨(w++[c]).toArray⟩])]
      rw[<- app_str];try rfl
  ·rintro ρ μ' ⟨p,l,rs,op,u,ez,ed,er,hj,hs,b1,b2,b3,rfl,rfl⟩
   obtain rfl:l=[]:=by cases l with | nil=>rfl | cons _ _=>cases ed
   refine⟨trivial,?_⟩
   dsimp only
   rw[er]at kk
   have kk:Kd (omD (endR (rs,op))) μ:=kk
   have ol:(op.reverse.map (fun w=>D.str ⟨w.toArray⟩)).length=op.length:=by rw[gxC,ar]
   have fz:∀ {d:D},mrB μ.length d->Kd d μ->Fz μ.length Kd d (μ++[.lst (rs.reverse.map mkD),.lst (op.reverse.map fun w=>D.str ⟨w.toArray⟩)]):=fun h k=>.drop h (old_app hm) (by rw[bp];exact k)
   by_cases l1:op.length=1
   ·obtain⟨w,rfl⟩:=List.length_eq_one_iff.mp l1
    have hw:=b3 w ae
    have pz:p.length=z.length:=by have:=bg List.length ez;rw[aR]at this;exact this.symm
    have a0:atI ([w].reverse.map fun w=>D.str ⟨w.toArray⟩) 0=some (.str ⟨w.toArray⟩):=rfl
    have kk:Kd (omD (if w=[35]then rs.head? else if figB w=true then some (.num (PySem.NumText.digitsVal w:Nat))else none)) μ:=kk
    refine dIf_of false (.tst fun K k=>opt_of at1 k) (fun q=>by cases q) (fun _=>dNx_of ?_)
    dsimp only
    refine dIf_of (decide (w=[35])) (.tst fun K k=>opt_of at1 (opt_of a0 (by
     show K (.bl (false != decide ((⟨w.toArray⟩:Str) = "#"))) _
     rw[cy,show decide ((⟨w.toArray⟩:Str) = "#")=decide (w=[35])from decide_eq_decide.mpr ⟨fun h=>bg (fun s:Str=>s.cps.toList) h,fun h=>by rw[h];rfl⟩]
     exact k))) (fun q=>?_) (fun q=>dNx_of ?_)
    ·have q:=cn q
     subst q
     obtain⟨h1,_⟩:[35].count 35=rs.length/\_:=hj
     obtain⟨t,rfl⟩:=List.length_eq_one_iff.mp h1.symm
     have a1:atI ([t].reverse.map mkD) (-1)=some (mkD t):=at_m1 (xs:=[])
     exact opt_of at0 (opt_of a1 (fz (mrB_mk t) kk))
    ·have q:=of_decide_eq_false q
     rw[ai q]at kk
     dsimp only
     unfold dRet
     refine dIfe_of (figB w) (.tst fun K k=>opt_of at1 (opt_of a0 ⟨by rw[lenS];omega,k⟩)) (fun f=>?_) (fun f=>?_)
     ·rw[aE f]at kk
      obtain⟨n1,n2,n3⟩:=numF_read (z:=⟨w.toArray⟩) (fig_num f)
      exact opt_of at1 (opt_of a0 ⟨_,n1,by rw[lenS];unfold figB at f;simp only[aQ,aX]at f;have:=f.1.1.2;omega,fz trivial kk⟩)
     ·rw[ai (by rw[f];exact ag)]at kk
      exact fz trivial kk
   ·have:endR (rs,op)=none:=by
     unfold endR
     split
     ·rename_i e;cases e;exact absurd rfl l1
     ·rfl
    rw[this]at kk
    refine dIf_of true (.tst fun K k=>opt_of at1 (by
     show K (.bl (true != decide (((op.reverse.map (fun w=>D.str ⟨w.toArray⟩)).length:Int)=1))) _
     rw[ak (by rw[ol];omega)];exact k)) (fun _=>fz trivial kk) (fun q=>by cases q)
 ·exact h.elim
theorem ok_told (F:Fun K "_law_told" "_law_told" s_told f fd)(T:Bi2 mg)(O_HissError:OwnCls "HissError" cHissError veB "ValueError.__new__" mg base)(C_make_of:c_make_of P w K mg base)(C_kinds:c_kinds P w K mg base):FnOk P w K mg base CX0 7 f fd (pA s_told) (spD (fToldT K rcs cHissError)):=by
 refine F.okD sc_told (fun ds μ Kd h=>by unfold fToldT at h;split at h <;> first | rfl | exact h.elim) (fun cdv A outer s H E hr=>⟨_,(b_cons (s_try rfl rfl rfl sc_told.nd (i:=2) rfl rfl rfl O_HissError.bound (fun pn xe φ0 H0 Kx Zt=>(b_one (qS 1 sc_told.nd (d_callX Zt C_make_of hr.le rfl (a1 (dv 0))))))
  (fun pn e φ1 H1 kx hk hk0=>(b_one (s_ret (d_tup (a2 d_str (d_callH (H0:=H1) hk hk0 rfl C_kinds (roomM hr.le) rfl (a1 (dv 2)))))))))
  (b_one (s_ret (d_tup (a2 d_str (dv 1)))))),fun ds μ Kd hm hl h=>?_⟩)
 unfold fToldT at h
 split at h
 ·rename_i z
  obtain⟨⟨m,em⟩,KB,hz,ha,kk⟩:=h
  have h0:0<μ.length:=(gxB em).1
  refine⟨m,em,fun φ0 H0=>?_⟩
  refine⟨gx_at em,⟨_,gx_at em⟩,hz,ha,fun t ht=>?_,fun no=>?_⟩
  ·rw[read_iff.mpr ht]at kk
   refine⟨gx_at em,?_⟩
   rw[gx_back em]
   exact⟨zs,.keep kk⟩
  ·have e:readF z.cps.toList=none:=by
    cases e:readF z.cps.toList with
    | none=>rfl
    | some t=>exact absurd (read_iff.mp e) (no t)
   rw[e]at kk
   refine⟨gx_at em,?_⟩
   rw[gx_back em]
   refine⟨cBadText,rfl,KB.sub,fun φ1 H1=>?_⟩
   have em2:(μ++[MO.exc (.ref (cBadText))])[0]?=some m:=by rw[gxF h0];exact em
   have ex2:((μ++[MO.exc (.ref (cBadText))]).set 0 (.gx φ1 H1))[μ.length]?=some (.exc (.ref (cBadText))):=by
    rw[aM (by omega),gxG (aa _),br];rfl
   refine⟨⟨gx_at em2,_,ex2⟩,⟨_,gx_at em2⟩,by omega,3,by decide,ex2,KB,zs,gx_at em2,?_⟩
   rw[gx_back em2]
   refine .drop ?_ (old_app hm) ?_
   ·exact⟨trivial,⟨trivial,trivial⟩,trivial⟩
   ·rw[bp];exact kk
 ·exact h.elim
theorem ok_law (F:Fun K "law" "law" s_law f fd)(T:Bi2 mg)(KA:∀ j,j<16->KinB K rcs cHissError j)(C_box:c_box P w K mg base)(C_take:c_take P w K mg base)(C_make:c_make P w K mg base)(C_numbered:c_numbered P w K mg base)(C_text:c_text P w K mg base)(C_spoilt:c_spoilt P w K mg base)(C_read:c_read P w K mg base)(C_told:c_told P w K mg base)(C_same:c_same P w K mg base):FnOk P w K mg base CX0 70 f fd (pA s_law) (spLaw K):=by
 refine F.ok sc_law (fun vs H Q E h=>?_) (fun cdv A outer s H vs Q E hr h=>?_)
 ·obtain⟨a,ns,rfl,_⟩:=h;rfl
 ·obtain⟨a,ns,rfl,hs,hl,k⟩:=h
  refine⟨_,pss_cons (ps_set (i:=1) sc_law.nd rfl (by first | exact Or.inl rfl | exact Or.inr rfl) (pe_callC C_box (hr.mono (by first | decide | exact aa _ | omega)) rfl (pa_cons (pvC 0) pa_nil))) (b_cons (qS 2 sc_law.nd (qC C_text hr (a1 (qC C_numbered hr (a2 (dv 1) (qC C_make hr (da_cons (dv 1) (da_cons d_int (da_cons (d_lst false (a1 d_int)) (da_cons d_int da_nil))))))))))
   (b_cons (qS 3 sc_law.nd (qC C_take hr (a2 (dv 1) d_int)))
   (b_cut (s_if (qGt (dv 3) d_int)
   (b_one (qS 2 sc_law.nd (qC C_spoilt hr (a2 (dv 1) (dv 2)))))
   b_nil)
   (b_cut (s_if (qGt (dv 3) d_int)
   (b_one (qS 2 sc_law.nd (qC C_spoilt hr (a2 (dv 1) (dv 2)))))
   b_nil)
   (b_cut (s_if (qEq (qC C_take hr (a2 (dv 1) d_int)) d_int)
   (b_cons (qS 4 sc_law.nd (d_lst false (da_cons d_str (da_cons d_str (da_cons d_str (da_cons d_str (da_cons d_str (da_cons d_str (da_cons d_str (da_cons d_str (da_cons d_str (da_cons d_str da_nil))))))))))))
   (b_cons (qS 5 sc_law.nd (dPl d_int (qC C_take hr (a2 (dv 1) d_int))))
   (b_cons (qS 4 sc_law.nd (dPl (dv 4) (d_lst false (a2 (d_op mulT so_mulT d_str (qC C_take hr (a2 (dv 1) d_int))) (d_op mulT so_mulT d_str (qC C_take hr (a2 (dv 1) d_int)))))))
   (b_cons (qS 4 sc_law.nd (dPl (dv 4) (d_lst false (a2 (dPl (dPl (d_op mulT so_mulT d_str (dv 5)) d_str) (d_op mulT so_mulT d_str (dv 5))) (dPl (dPl (d_op mulT so_mulT d_str (dv 5)) d_str) (d_op mulT so_mulT d_str (dv 5)))))))
   (b_one (qS 2 sc_law.nd (dIX (dv 4) (qC C_take hr (a2 (dv 1) d_int)))))))))
   b_nil)
   (b_cons (qS 6 sc_law.nd (qC C_read hr (a1 (dv 2))))
   (b_cons (s_if (t_isN (dv 6))
   (b_one (s_ret (qC C_same hr (a2 (qC C_told hr (a1 (dv 2))) (d_tup (a2 d_str (d_lst false (a1 d_str))))))))
   b_nil)
   (b_one (s_ret (qC C_same hr (a2 (qC C_told hr (a1 (dv 2))) (d_tup (a2 d_str (dv 6)))))))))))))),?_⟩
  refine⟨ns,hs,fun b q H0 B0 hb0 hq0 S0=>?_⟩
  refine law_go (m:=5) B0 ?_ k
  refine⟨zs,?_⟩
  refine⟨rfl,by decide,by decide,[0],rfl,by decide,by decide,by decide,fun t t1 t2 t3=>?_⟩
  have t2:t.dep<=6:=t2
  have t3:t.cnt<=64:=t3
  refine⟨rfl,t,rfl,by omega,fun t' e1 e2 hsm=>?_⟩
  refine⟨t',rfl,by omega,by omega,hsm,?_⟩
  have ml:=mkT_len hsm
  have ma:asc (mkT t').cps.toList:=by rw[mkT_cps];exact mk_asc hsm
  refine⟨rfl,by decide,by decide,fun w w0 w1=>?_⟩
  refine⟨fun ρ' μ'=>∃ y:Str,y.length<=801/\asc y.cps.toList/\ρ'=[none,some (.mr 0),some (.str y),some (.int w),none,none,none]/\μ'=[.box],?_,?_⟩
  ·exact iteD (c:=1<w) (fun _=>⟨rfl,by omega,ma,fun y h1 h2=>⟨y,by omega,h2,rfl,rfl⟩⟩) (fun _=>⟨_,by omega,ma,rfl,rfl⟩)
  rintro ρ' μ' ⟨y,y1,y2,rfl,rfl⟩
  refine⟨fun ρ' μ'=>∃ y:Str,y.length<=802/\asc y.cps.toList/\ρ'=[none,some (.mr 0),some (.str y),some (.int w),none,none,none]/\μ'=[.box],?_,?_⟩
  ·exact iteD (c:=4<w) (fun _=>⟨rfl,by omega,y2,fun y h1 h2=>⟨y,by omega,h2,rfl,rfl⟩⟩) (fun _=>⟨_,by omega,y2,rfl,rfl⟩)
  clear ml ma y1 y2
  rintro ρ' μ' ⟨y,y1,y2,rfl,rfl⟩
  refine⟨fun ρ' μ'=>∃(y:Str) (v4 v5:Option D),y.length<=900/\asc y.cps.toList/\ρ'=[none,some (.mr 0),some (.str y),some (.int w),v4,v5,none]/\μ'=[.box],?_,?_⟩
  ·refine⟨rfl,by decide,by decide,fun u u0 u1=>?_⟩
   refine iteDf (c:=u=0) (fun _=>?_) (fun _=>⟨_,_,_,by omega,y2,rfl,rfl⟩)
   refine⟨zs,rfl,by decide,by decide,fun dp d0 d1=>?_⟩
   have l1:("(" : Str).length=1:=by decide
   have l2:(")" : Str).length=1:=by decide
   have l3:(" 1 2)" : Str).length=5:=by decide
   have l4:("(0 1 " : Str).length=5:=by decide
   have l5:("0" : Str).length=1:=by decide
   have l6:("2" : Str).length=1:=by decide
   have mlen:∀(z:Str) (n:Int),(Txt.mul z n).length=n.toNat*z.length:=mul_len
   have D0:(38+dp).toNat<=41:=by omega
   have q1:(Txt.mul "(" (38+dp)).length<=41:=by rw[mlen,l1];omega
   have q2:(Txt.mul " 1 2)" (38+dp)).length<=205:=by rw[mlen,l3];omega
   have q3:(Txt.mul "(0 1 " (38+dp)).length<=205:=by rw[mlen,l4];omega
   have q4:(Txt.mul ")" (38+dp)).length<=41:=by rw[mlen,l2];omega
   refine⟨rfl,by decide,by decide,fun m m0 m1=>⟨by decide,by omega,by omega,rfl,by decide,by decide,fun n n0 n1=>⟨by decide,by omega,by omega,zs,?_⟩⟩⟩
   have q5:(Txt.mul "(" m).length<=60:=by rw[mlen,l1];omega
   have q6:(Txt.mul ")" n).length<=300:=by rw[mlen,l2];omega
   refine⟨zs,nLf ?_⟩
   refine⟨by decide,by omega,by omega,sz (by omega),by decide,by omega,by omega,sz (by rw[strl];omega),by decide,by omega,by omega,sz (by omega),by decide,by omega,by omega,sz (by rw[strl];omega),zs,zs,nLf ?_⟩
   refine⟨rfl,by decide,by decide,fun v v0 v1=>?_⟩
   obtain⟨x,hx,e⟩:=atI_mapx (g:=D.str) (xs:=["", "()", "(0 1)", "(0 1 2 3)", "((0 1 2) 3)", "00", "(0  1 2)", "(0 1 2))", "12345", "(0 (1 2 3) 4)",Txt.mul "(" m,Txt.mul ")" n,Txt.mul "(" (38+dp) ++ "0"++Txt.mul " 1 2)" (38+dp),Txt.mul "(0 1 " (38+dp) ++ "2"++Txt.mul ")" (38+dp)]) v0 v1
   have hP:x.length<=900/\asc x.cps.toList:=by
    have A1:asc ("(" : Str).cps.toList:=by unfold asc;decide
    have A2:asc (")" : Str).cps.toList:=by unfold asc;decide
    have A3:asc (" 1 2)" : Str).cps.toList:=by unfold asc;decide
    have A4:asc ("(0 1 " : Str).cps.toList:=by unfold asc;decide
    have A5:asc ("0" : Str).cps.toList:=by unfold asc;decide
    have A6:asc ("2" : Str).cps.toList:=by unfold asc;decide
    simp only[bw,bb,cG]at hx
    rcases hx with rfl | rfl | rfl | rfl | rfl | rfl | rfl | rfl | rfl | rfl | rfl | rfl | rfl | rfl
    ·exact⟨by decide,by unfold asc;decide⟩
    ·exact⟨by decide,by unfold asc;decide⟩
    ·exact⟨by decide,by unfold asc;decide⟩
    ·exact⟨by decide,by unfold asc;decide⟩
    ·exact⟨by decide,by unfold asc;decide⟩
    ·exact⟨by decide,by unfold asc;decide⟩
    ·exact⟨by decide,by unfold asc;decide⟩
    ·exact⟨by decide,by unfold asc;decide⟩
    ·exact⟨by decide,by unfold asc;decide⟩
    ·exact⟨by decide,by unfold asc;decide⟩
    ·exact⟨by omega,mul_asc A1⟩
    ·exact⟨by omega,mul_asc A2⟩
    ·exact⟨by rw[strl,strl];omega,str_asc (str_asc (mul_asc A1) A5) (mul_asc A3)⟩
    ·exact⟨by rw[strl,strl];omega,str_asc (str_asc (mul_asc A4) A6) (mul_asc A2)⟩
   exact opt_of e ⟨x,_,_,hP.1,hP.2,rfl,rfl⟩
  rintro ρ' μ' ⟨y,v4,v5,y1,y2,rfl,rfl⟩
  refine⟨y1,?_⟩
  have K3:=KA 3 (by decide)
  cases er:readF y.cps.toList with
  | none=>exact⟨⟨_,rfl⟩,K3,y1,y2,by rw[er];exact⟨zs,zs,toldT none,rfl,rfl,sm_toldT none (fun _ h=>nomatch h),rfl⟩⟩
  | some t =>
   have td:t.dep<=40:=by have:=(read_iff.mp er).2.2;have:=dep_cnt t;omega
   have fin:fToldT K rcs cHissError [.str y] [.box] fun d μ'=>2<=sizeLine/\fSameN 63 [d,.tup [.str "make",mkD t]] μ' fun d _=>d=.bl true:=⟨⟨_,rfl⟩,K3,y1,y2,by rw[er];exact⟨by decide,toldT (some t),rfl,rfl,sm_toldT (some t) (fun x h=>by cases h;exact td),rfl⟩⟩
   cases t with
   | num n=>exact fin
   | tri p l r=>exact fin
end
def kM0:Value:=(.str "hissroom.errors" 187)
def kM1:Value:=(.str "law_hissroom_k16_texts_of_no_make" 555)
def kM2:Value:=(.str "hissroom.makes" 490)
def kk (P:Params):PySem.W.Frag:=List.flatten [[ko 3 (mainO P "law_hissroom_k16_texts_of_no_make" 555 [me "HissError" 206 (.ref 24),me "BadBars" 222 (.ref 37),me "BadMake" 238 (.ref 49),me "BadNumber" 254 (.ref 61),me "BadText" 270 (.ref 73),me "BadName" 286 (.ref 85),me "BadAge" 302 (.ref 97),me "BadBar" 318 (.ref 109),me "BadPlace" 334 (.ref 121),me "Taken" 350 (.ref 133),me "Full" 366 (.ref 145),me "NoTake" 382 (.ref 157),me "Shut" 398 (.ref 169),me "Joined" 414 (.ref 181),me "Needed" 430 (.ref 193),me "NothingLeft" 446 (.ref 205),me "BadSize" 462 (.ref 217),me "NoWay" 489 (.ref 236),me "MOST_TAKES" 493 (.int 40 492),me "MOST_FIGURES" 495 (.int 4 494),me "unfolded" 508 (.ref 245),me "make_text" 519 (.ref 252),me "make_of" 527 (.ref 259),me "loose_make" 536 (.ref 266),me "close_bracket" 547 (.ref 273),me "number_of_figures" 554 (.ref 280),me "_law_box" 563 (.ref 287),me "_law_take" 575 (.ref 294),me "_law_make" 587 (.ref 301),me "_law_count" 594 (.ref 308),me "_law_small" 601 (.ref 315),me "_law_text" 608 (.ref 322),me "_law_sign" 616 (.ref 329),me "_law_spoilt" 626 (.ref 336),me "_law_same" 632 (.ref 341),me "_law_kinds" 638 (.ref 346),me "_law_numbered" 647 (.ref 353),me "_law_figures" 653 (.ref 358),me "_law_inner" 664 (.ref 365),me "_law_read" 674 (.ref 372),me "_law_told" 683 (.ref 379),me "law" 696 (.ref 386)])],kx P 73 72 24 "BadText" (some (.ref 64)) 255 263 kM0 262 10 71,kx P 37 36 24 "BadBars" (some (.ref 28)) 207 215 kM0 214 4 35,kx P 49 48 24 "BadMake" (some (.ref 40)) 223 231 kM0 230 6 47,kx P 61 60 24 "BadNumber" (some (.ref 52)) 239 247 kM0 246 8 59,kx P 85 84 24 "BadName" (some (.ref 76)) 271 279 kM0 278 12 83,kx P 97 96 24 "BadAge" (some (.ref 88)) 287 295 kM0 294 14 95,kx P 109 108 24 "BadBar" (some (.ref 100)) 303 311 kM0 310 16 107,kx P 121 120 24 "BadPlace" (some (.ref 112)) 319 327 kM0 326 18 119,kx P 217 216 24 "BadSize" (some (.ref 208)) 447 455 kM0 454 34 215,kx P 133 132 24 "Taken" (some (.ref 124)) 335 343 kM0 342 20 131,kx P 145 144 24 "Full" (some (.ref 136)) 351 359 kM0 358 22 143,kx P 157 156 24 "NoTake" (some (.ref 148)) 367 375 kM0 374 24 155,kx P 169 168 24 "Shut" (some (.ref 160)) 383 391 kM0 390 26 167,kx P 181 180 24 "Joined" (some (.ref 172)) 399 407 kM0 406 28 179,kx P 193 192 24 "Needed" (some (.ref 184)) 415 423 kM0 422 30 191,kx P 205 204 24 "NothingLeft" (some (.ref 196)) 431 439 kM0 438 32 203,[ko 236 ⟨.type "type",none,(.cls ⟨"NoWay",[.ref 24],[.ref 236,.ref 24,.type "ValueError",.type "Exception",.type "BaseException",.type "object"],235, "NoWay",true,[],[],false,none,false⟩),#[(some (.ref 220)),none,(some (.str "NoWay" 463)),(some (.str "NoWay" 471)),(some (.builtin "ValueError.__new__")),(some (.bool true))]⟩,ko 235 ⟨.type "dict",none,(.dict #[enP P "__module__" 470 (.str "hissroom.errors" 187),enP P "__firstlineno__" 474 (.int 36 473),enP P "__init__" 483 (.ref 233),enP P "__static_attributes__" 486 (.ref 234),enP P "__doc__" 487 (.none)] 2),#[]⟩],[ko 24 ⟨.type "type",none,(.cls ⟨"HissError",[.type "ValueError"],[.ref 24,.type "ValueError",.type "Exception",.type "BaseException",.type "object"],23, "HissError",true,[],[.ref 37,.ref 49,.ref 61,.ref 73,.ref 85,.ref 97,.ref 109,.ref 121,.ref 133,.ref 145,.ref 157,.ref 169,.ref 181,.ref 193,.ref 205,.ref 217,.ref 236],false,none,false⟩),#[(some (.ref 15)),none,(some (.str "HissError" 189)),(some (.str "HissError" 197)),(some (.builtin "ValueError.__new__")),(some (.bool true))]⟩,ko 23 ⟨.type "dict",none,(.dict #[enP P "__module__" 196 (.str "hissroom.errors" 187),enP P "__firstlineno__" 200 (.int 2 199),enP P "__static_attributes__" 201 (.ref 22),enP P "__weakref__" 203 (.ref 25),enP P "__doc__" 204 (.none)] 3),#[]⟩],kf1 287 286 "_law_box" s_box kM1 557 96 1 281 282 (.ref 283) (.ref 284) 285 561,kf1 294 293 "_law_take" s_take kM1 564 98 2 288 289 (.ref 290) (.ref 291) 292 573,kf1 341 340 "_law_same" s_same kM1 627 146 2 337 338 .none .none 339 630,kf1 245 244 "unfolded" s_unfolded kM2 496 44 1 239 240 (.ref 241) (.ref 242) 243 506,kf1 301 300 "_law_make" s_make kM1 576 114 4 295 296 (.ref 297) (.ref 298) 299 585,kf1 252 251 "make_text" s_make_text kM2 509 54 1 246 247 (.ref 248) (.ref 249) 250 517,kf1 280 279 "number_of_figures" s_number_of_figures kM2 548 91 1 274 275 (.ref 276) (.ref 277) 278 552,kf1 273 272 "close_bracket" s_close_bracket kM2 537 83 1 267 268 (.ref 269) (.ref 270) 271 545,kf1 266 265 "loose_make" s_loose_make kM2 528 71 1 260 261 (.ref 262) (.ref 263) 264 534,kf1 259 258 "make_of" s_make_of kM2 520 64 1 253 254 (.ref 255) (.ref 256) 257 525,kf1 322 321 "_law_text" s_text kM1 602 128 1 316 317 (.ref 318) (.ref 319) 320 606,kf1 353 352 "_law_numbered" s_numbered kM1 639 165 2 347 348 (.ref 349) (.ref 350) 351 645,kf1 329 328 "_law_sign" s_sign kM1 609 132 1 323 324 (.ref 325) (.ref 326) 327 614,kf1 336 335 "_law_spoilt" s_spoilt kM1 617 136 2 330 331 (.ref 332) (.ref 333) 334 624,kf1 346 345 "_law_kinds" s_kinds kM1 633 156 1 342 343 .none .none 344 636,kf1 358 357 "_law_figures" s_figures kM1 648 170 1 354 355 .none .none 356 651,kf1 365 364 "_law_inner" s_inner kM1 654 174 2 359 360 (.ref 361) (.ref 362) 363 662,kf1 372 371 "_law_read" s_read kM1 665 192 1 366 367 (.ref 368) (.ref 369) 370 672,kf1 379 378 "_law_told" s_told kM1 675 211 1 373 374 (.ref 375) (.ref 376) 377 681,kf1 386 385 "law" s_law kM1 684 217 1 380 381 (.ref 382) (.ref 383) 384 694]
def hk:PySem.W.Hook:=PySem.W.kHook kk [3,73,72,37,36,49,48,61,60,85,84,97,96,109,108,121,120,217,216,133,132,145,144,157,156,169,168,181,180,193,192,205,204,236,235,24,23,287,286,294,293,341,340,245,244,301,300,252,251,280,279,273,272,266,265,259,258,322,321,353,352,329,328,336,335,346,345,358,357,365,364,372,371,379,378,386,385] (fun _=>by kernel_rfl)
def lw:PySem.W.OpenLaw:=PySem.Challenge.rw_hissroom_k16_texts_of_no_make
def qq:Program:={ lw.prog with main:={ lw.prog.main with body:=[s_law]}}
def ll:List Str:=[sS "HissError",sS "BadBars",sS "BadMake",sS "BadNumber",sS "BadText",sS "BadName",sS "BadAge",sS "BadBar",sS "BadPlace",sS "Taken",sS "Full",sS "NoTake",sS "Shut",sS "Joined",sS "Needed",sS "NothingLeft",sS "BadSize",sS "NoWay",sS "MOST_TAKES",sS "MOST_FIGURES",sS "unfolded",sS "make_text",sS "make_of",sS "loose_make",sS "close_bracket",sS "number_of_figures",sS "_law_box",sS "_law_take",sS "_law_make",sS "_law_count",sS "_law_small",sS "_law_text",sS "_law_sign",sS "_law_spoilt",sS "_law_same",sS "_law_kinds",sS "_law_numbered",sS "_law_figures",sS "_law_inner",sS "_law_read",sS "_law_told"]
def xt (s:Shared):Bool:=PySem.W.xlAt qq [] s&&PySem.W.recOk (PySem.W.RowW.records lw.row.toRowW) s
theorem left0:LeftN lw.prog qq ll xt hk.obs hk.val 4578:=fun w os=>by kernel_rfl
theorem left:PySem.W.LeftO lw.prog qq ll xt hk.obs hk.val 4578:=left_ofN (by kernel_rfl) rfl (fun s=>by kernel_rfl) rfl left0
theorem said:lw.wellSaid=true:=(congrFun PySem.W.Fast.te9446332074065402090 lw).trans (by kernel_rfl)
def dd:DefRec:=⟨"law",defArgs s_law,defBody s_law,defScope s_law,defPos s_law⟩
theorem holds (F:PySem.W.WalkO qq ll (PySem.W.XL qq []) hk.says lw.row.toRowW dd [] (fun f vs=>PySem.call f vs)):lw.Holds:=PySem.W.holds_law said fun k1=>PySem.W.holds_open (q:=qq) (loose:=ll) (Xt:=xt) (XP:=PySem.W.XL qq []) (d:=dd) (kwd:=[]) left hk.of hk.keeps (fun s e=>PySem.W.xl_of s (Bool.and_eq_true_iff.mp e).1) PySem.W.XL.keeps (by kernel_rfl) (by kernel_rfl) rfl (fun s e=>PySem.W.recFacts_of (Bool.and_eq_true_iff.mp e).2) rfl k1 (by kernel_rfl) ⟨rfl,rfl,rfl,rfl,rfl,by kernel_rfl⟩ ⟨[.list []],by kernel_rfl,by kernel_rfl⟩ F
abbrev lx (f:Program->World->PySem.W.Frag->(Str->Option Value)->Heap->Prop)(w:World)(mg:Str->Option Value)(base:Heap):Prop:=f lw.prog w (kk w.params) mg base
def fq (w:World)(x q:Str)(s:Stmt)(f:Addr)(pm:Value)(c:Addr)(l:(kk w.params).lookup f=some (fnQ x q s pm c):=by kernel_rfl)(c':PySem.W.codeIn (kk w.params) (.ref c) q=true:=by kernel_rfl)(k:PySem.W.keepIn (kk w.params) (.ref f)=true:=by kernel_rfl):=fun_of l c' k
def fq1 (w:World)(x:Str)(s:Stmt)(f:Addr)(pm:Value)(c:Addr)(l:(kk w.params).lookup f=some (fnQ x x s pm c):=by kernel_rfl)(c':PySem.W.codeIn (kk w.params) (.ref c) x=true:=by kernel_rfl)(k:PySem.W.keepIn (kk w.params) (.ref f)=true:=by kernel_rfl):=fun_of l c' k
set_option maxHeartbeats 40000000 in
theorem fin:PySem.W.WalkO qq ll (PySem.W.XL qq []) hk.says lw.row.toRowW dd [] (fun f vs=>PySem.call f vs):=by
 refine L2.walk_of (l:=lw) (d:=dd) (n:=63) (k:=70) (x := "_law_script") (K:=kk) (CX:=fun _=>CX0) (sp:=fun w=>spLaw (kk w.params)) rfl (by decide) rfl ⟨rfl,by decide,by decide⟩ (fun w h Y=>PySem.W.kIn_of Y) (fun w mg fa h X G hfa=>?_) (fun _ _ a ns hl _ hS=>⟨a,ns,rfl,hS,hl,fun _=>rfl⟩) fun _ _ _ _ _ z=>z
 have e:=hfa.symm.trans (bj X G (show PySem.W.nsIn (kk w.params) mainGlobals "law"=sr 386 by kernel_rfl))
 cases e
 have T:Bi2 mg:=⟨aK X G (by kernel_rfl),aK X G (by kernel_rfl),aK X G (by kernel_rfl),aK X G (by kernel_rfl),aK X G (by kernel_rfl),aK X G (by kernel_rfl),aK X G (by kernel_rfl),aK X G (by kernel_rfl),aK X G (by kernel_rfl),aK X G (by kernel_rfl),aK X G (by kernel_rfl),aK X G (by kernel_rfl),aK X G (by kernel_rfl),aK X G (by kernel_rfl),aK X G (by kernel_rfl),aK X G (by kernel_rfl),aK X G (by kernel_rfl)⟩
 have TV:mg "ValueError"=none:=aK X G (by kernel_rfl)
 have F0:=fq1 w "_law_box" s_box 287 kM1 286
 have F1:=fq1 w "_law_take" s_take 294 kM1 293
 have F2:=fq1 w "_law_same" s_same 341 kM1 340
 have F3:=fq1 w "unfolded" s_unfolded 245 kM2 244
 have F4:=fq1 w "_law_make" s_make 301 kM1 300
 have F5:=fq1 w "make_text" s_make_text 252 kM2 251
 have F6:=fq1 w "number_of_figures" s_number_of_figures 280 kM2 279
 have F7:=fq1 w "close_bracket" s_close_bracket 273 kM2 272
 have F8:=fq1 w "loose_make" s_loose_make 266 kM2 265
 have F9:=fq1 w "make_of" s_make_of 259 kM2 258
 have F10:=fq1 w "_law_text" s_text 322 kM1 321
 have F11:=fq1 w "_law_numbered" s_numbered 353 kM1 352
 have F12:=fq1 w "_law_sign" s_sign 329 kM1 328
 have F13:=fq1 w "_law_spoilt" s_spoilt 336 kM1 335
 have F14:=fq1 w "_law_kinds" s_kinds 346 kM1 345
 have F15:=fq1 w "_law_figures" s_figures 358 kM1 357
 have F16:=fq1 w "_law_inner" s_inner 365 kM1 364
 have F17:=fq1 w "_law_read" s_read 372 kM1 371
 have F18:=fq1 w "_law_told" s_told 379 kM1 378
 have F19:=fq1 w "law" s_law 386 kM1 385
 refine⟨PySem.W.fnOf "law" "law" (defArgs s_law) (defBody s_law) (defScope s_law) .none .none .none kM1 none (.ref 385) .none,fun s v=>.of_eq rfl,fun base X0 G0=>?_⟩
 have O_BadText:=own_of (x := "BadText") (C:=cBadText) (h:=base) X0 G0 (by kernel_rfl) (by kernel_rfl)
 have O_BadBars:=own_of (x := "BadBars") (C:=cBadBars) (h:=base) X0 G0 (by kernel_rfl) (by kernel_rfl)
 have O_BadMake:=own_of (x := "BadMake") (C:=cBadMake) (h:=base) X0 G0 (by kernel_rfl) (by kernel_rfl)
 have O_BadNumber:=own_of (x := "BadNumber") (C:=cBadNumber) (h:=base) X0 G0 (by kernel_rfl) (by kernel_rfl)
 have O_BadName:=own_of (x := "BadName") (C:=cBadName) (h:=base) X0 G0 (by kernel_rfl) (by kernel_rfl)
 have O_BadAge:=own_of (x := "BadAge") (C:=cBadAge) (h:=base) X0 G0 (by kernel_rfl) (by kernel_rfl)
 have O_BadBar:=own_of (x := "BadBar") (C:=cBadBar) (h:=base) X0 G0 (by kernel_rfl) (by kernel_rfl)
 have O_BadPlace:=own_of (x := "BadPlace") (C:=cBadPlace) (h:=base) X0 G0 (by kernel_rfl) (by kernel_rfl)
 have O_BadSize:=own_of (x := "BadSize") (C:=cBadSize) (h:=base) X0 G0 (by kernel_rfl) (by kernel_rfl)
 have O_Taken:=own_of (x := "Taken") (C:=cTaken) (h:=base) X0 G0 (by kernel_rfl) (by kernel_rfl)
 have O_Full:=own_of (x := "Full") (C:=cFull) (h:=base) X0 G0 (by kernel_rfl) (by kernel_rfl)
 have O_NoTake:=own_of (x := "NoTake") (C:=cNoTake) (h:=base) X0 G0 (by kernel_rfl) (by kernel_rfl)
 have O_Shut:=own_of (x := "Shut") (C:=cShut) (h:=base) X0 G0 (by kernel_rfl) (by kernel_rfl)
 have O_Joined:=own_of (x := "Joined") (C:=cJoined) (h:=base) X0 G0 (by kernel_rfl) (by kernel_rfl)
 have O_Needed:=own_of (x := "Needed") (C:=cNeeded) (h:=base) X0 G0 (by kernel_rfl) (by kernel_rfl)
 have O_NothingLeft:=own_of (x := "NothingLeft") (C:=cNothingLeft) (h:=base) X0 G0 (by kernel_rfl) (by kernel_rfl)
 have O_NoWay:OwnB "NoWay" cNoWay mg:=⟨bj X G (by kernel_rfl)⟩
 have O_HissError:=own_of (x := "HissError") (C:=cHissError) (h:=base) X0 G0 (by kernel_rfl) (by kernel_rfl)
 have G_MOST_FIGURES:GInt mg "MOST_FIGURES" 4:=⟨494,bj X G (by kernel_rfl)⟩
 have G_MOST_TAKES:GInt mg "MOST_TAKES" 40:=⟨492,bj X G (by kernel_rfl)⟩
 have KA:∀ j,j<16->KinB (kk w.params) rcs cHissError j:=k16 kB kB kB kB kB kB kB kB kB kB kB kB kB kB kB kB
 have C0:lx c_box w mg base:=cal_of X G F0 (ok_box F0 T ) (bd1 F0)
 have C1:lx c_take w mg base:=cal_of X G F1 (ok_take F1 T ) (bd2 F1)
 have C2:lx c_same w mg base:=cal_of X G F2 ((ok_same F2 T  (bj X G (by kernel_rfl)) F2.kp (bd2 F2)  63).imp fun vs H Q E h=>same_impN h) (bd2 F2)
 have C3:lx c_unfolded w mg base:=cal_of X G F3 (ok_unfolded F3 T ) (bd1 F3)
 have C4:lx c_make w mg base:=cal_of X G F4 (ok_make F4 T  (bj X G (by kernel_rfl)) F4.kp (bd4 F4) C1 6) (bd4 F4)
 have C5:lx c_make_text w mg base:=cal_of X G F5 (ok_make_text F5 T  C3) (bd1 F5)
 have C6:lx c_number_of_figures w mg base:=calx_of X G F6 (ok_number_of_figures F6 T O_BadText G_MOST_FIGURES) (bd1 F6)
 have C7:lx c_close_bracket w mg base:=calx_of X G F7 (ok_close_bracket F7 T O_BadText) (bd1 F7)
 have C8:lx c_loose_make w mg base:=calx_of X G F8 (ok_loose_make F8 T O_BadText C6 C7) (bd1 F8)
 have C9:lx c_make_of w mg base:=calx_of X G F9 (ok_make_of F9 T O_BadText G_MOST_TAKES C8 C5) (bd1 F9)
 have C10:lx c_text w mg base:=cal_of X G F10 (ok_text F10 T  (bj X G (by kernel_rfl)) F10.kp (bd1 F10)  40) (bd1 F10)
 have C11:lx c_numbered w mg base:=cal_of X G F11 (ok_numbered F11 T  (bj X G (by kernel_rfl)) F11.kp (bd2 F11) C1 40) (bd2 F11)
 have C12:lx c_sign w mg base:=cal_of X G F12 (ok_sign F12 T  C1) (bd1 F12)
 have C13:lx c_spoilt w mg base:=cal_of X G F13 (ok_spoilt F13 T  C1 C12) (bd2 F13)
 have C14:lx c_kinds w mg base:=calh_of X G F14 (ok_kinds F14 T TV O_BadBars O_BadMake O_BadNumber O_BadText O_BadName O_BadAge O_BadBar O_BadPlace O_BadSize O_Taken O_Full O_NoTake O_Shut O_Joined O_Needed O_NothingLeft O_NoWay) (bd1 F14)
 have C15:lx c_figures w mg base:=cal_of X G F15 (ok_figures F15 T ) (bd1 F15)
 have C16:lx c_inner w mg base:=cal_of X G F16 (ok_inner F16 T  C15) (bd2 F16)
 have C17:lx c_read w mg base:=cal_of X G F17 (ok_read F17 T  C16 C15) (bd1 F17)
 have C18:lx c_told w mg base:=cal_of X G F18 (ok_told F18 T O_HissError C9 C14) (bd1 F18)
 exact ok_law F19 T KA C0 C1 C4 C11 C10 C13 C17 C18 C2
end Pf
theorem PySem.Challenge.cw_hissroom_k16_texts_of_no_make_holds : PySem.Challenge.rw_hissroom_k16_texts_of_no_make.Holds :=
 Pf.holds Pf.fin