import PyProof.Rows.All
import Wide.All
import OpenK.AllK
import Wide.FinOn
import Lean
import PyProof.EqAt
import PyProof.EqKinds
import PyProof.TupleCall
import PyProof.NeKinds
import PyProof.ListRange
import PyProof.MaxThree
import PyProof.DictWalks
import PyProof.Rows.SortWalk
import PyProof.Rows.TopTwo
import PyProof.RangeIter
import PyProof.ExcArgsOwn
import PyProof.ExcBaseAll.ValueError
import PyProof.ExcAttrAll.ValueError
import KE.KIsAll
import OpenK.KOwn
import PyProof.StrBlock
import PyProof.DictItems
import PyProof.DictItemsLoops
import PyProof.DictValues
import PySem.Challenge.RW_hissroom_k31_rooms_of_a_size
set_option Elab.async false
set_option linter.all false
set_option maxRecDepth 100000
local macro_rules | `(tactic| omega) => `(tactic| lia)
set_option genSizeOf false
set_option maxHeartbeats 4000000
theorem gxA {α:Type _}{l:List α}{i:Nat}(h:i<l.length):l[i]?=some l[i]:=List.getElem?_eq_getElem h
theorem gxB {α:Type _}{l:List α}{i:Nat}{a:α}(h:l[i]?=some a):∃ h:i<l.length,l[i]=a:=List.getElem?_eq_some_iff.mp h
theorem gxC {α β:Type _}{as:List α}(f:α->β):(as.map f).length=as.length:=List.length_map f
theorem gxD {α:Type _}{l:List α}{i:Nat}{a:α}(e:l[i]?=some a):a∈l:=List.mem_of_getElem? e
theorem gxE {α:Type _}{as bs:List α}:(as++bs).length=as.length+bs.length:=List.length_append
theorem gxF {α:Type _}{l₁ l₂:List α}{i:Nat}(h:i<l₁.length):(l₁++l₂)[i]?=l₁[i]?:=List.getElem?_append_left h
theorem gxG {α:Type _}{l₁ l₂:List α}{i:Nat}(h:l₁.length<=i):(l₁++l₂)[i]?=l₂[i - l₁.length]?:=List.getElem?_append_right h
theorem gxI {α:Type _}{a:α}(b:α){l:List α}(h:a∈l):a∈b::l:=List.mem_cons_of_mem b h
theorem gxJ {n:Nat}:(List.range n).length=n:=List.length_range
theorem gxK (n:Nat):(n:Int).toNat=n:=Int.toNat_natCast n
theorem gxL {h:PySem.Heap}{a:PySem.Addr}{u:PySem.Obj}(v:PySem.Obj)(e:h.get? a=some u):(h.push v).get? a=some u:=PySem.Heap.get?_push_of_some v e
theorem gxM {α β:Type}{M:PySem.Model}{A:PySem.Around}{E:PySem.Value->PySem.Shared->Prop}{s:PySem.Shared}{m:PySem.Sem α}{f:α->PySem.Sem β}{Q:β->PySem.Shared->Prop}(h:PySem.wpAny M A m (fun a s=>PySem.wpAny M A (f a) Q E s) E s):PySem.wpAny M A (m >>= f) Q E s:=PySem.wpAny_bind h
theorem gxN {h:PySem.Heap}{a:PySem.Addr}{o:PySem.Obj}(e:h.get? a=some o):a<h.objs.size:=PySem.Heap.lt_size e
theorem gxH {α β:Type _}{f:α->β}{l:List α}{i:Nat}:(l.map f)[i]?=(l[i]?).map f:=List.getElem?_map ..
abbrev aa:=@Nat.le_refl
abbrev ae:=@PySem.wpAny_pure
abbrev af:=@PySem.F.excBase_ValueError
abbrev ag:=@List.size_toArray
abbrev ah:=@List.getElem?_set_ne
abbrev ai:=@decide_eq_false
abbrev aj:=@if_neg
abbrev ak:=@PySem.Heap.get?_push_size
abbrev ao:=@Nat.ne_of_lt
abbrev aq:=@List.map_cons
abbrev ar:=@if_pos
abbrev au:=@decide_eq_true
abbrev av:=@Bool.false_ne_true
abbrev aw:=@List.getElem?_set_self
abbrev aA:=@Nat.lt_of_lt_of_le
abbrev aB:=@Nat.le_trans
abbrev aC:=@List.mem_cons_self
abbrev aD:=@PyProof.Rows.boot_isinstance
abbrev aE:=@List.length_set
abbrev aF:=@List.mem_append_right
abbrev aG:=@PySem.wpAny_field
abbrev aH:=@PySem.W.mg_none_of
abbrev aI:=@Option.some.inj
abbrev aJ:=@List.length_cons
abbrev aK:=@List.map_map
abbrev aL:=@PySem.Heap.get?_update_other
abbrev aM:=@List.mem_of_mem_take
abbrev aN:=@List.length_singleton
abbrev aO:=@Ne.symm
abbrev aP:=@PySem.W.mg_of
abbrev aQ:=@Nat.sub_self
abbrev aR:=@Nat.ne_of_gt
abbrev aS:=@List.map_append
abbrev aT:=@List.not_mem_nil
abbrev aU:=@List.take_of_length_le
abbrev aV:=@Nat.zero_le
abbrev aW:=@PySem.wpAny_callSpecial?_slot
abbrev aX:=@Nat.le_add_right
abbrev aY:=@PySem.Heap.get?_update_self
abbrev aZ:=@List.append_nil
abbrev a6:=@PySem.Heap.size_push
abbrev a8:=@PySem.wpAny_newObj_type
abbrev a9:=@PySem.wpAny_mono
abbrev ba:=@PySem.wpAny_holding
abbrev bc:=@Nat.lt_succ_of_lt
abbrev bf:=@List.take_left
abbrev bg:=@List.mem_cons
abbrev bh:=@PyProof.Rows.callWith_type1
abbrev bj:=@List.find?_cons
abbrev bo:=@PySem.wpAny_seqItems
abbrev bp:=@List.length_take
abbrev bq:=@List.getD_eq_getElem?_getD
abbrev br:=@PySem.W.kia_one
abbrev bt:=@PySem.wpAny_call_entry
abbrev bu:=@Nat.lt_irrefl
abbrev bw:=@List.getElem?_take_of_lt
abbrev bx:=@List.append_assoc
abbrev bz:=@Bool.and_eq_true
abbrev bA:=@List.length_replicate
abbrev bB:=@List.idxOf_cons
abbrev bC:=@List.forIn_cons
abbrev bD:=@PySem.F.slot_zip_next
abbrev bE:=@PySem.wpAny_Call_Name_kw
abbrev bF:=@List.mem_append_left
abbrev bG:=@PySem.wpAny_truthy_bool
abbrev bH:=@PyProof.Rows.boot_list
abbrev bI:=@List.nodup_append
abbrev bJ:=@PySem.wpAny_setField_rec
abbrev bL:=@Nat.lt_succ_self
abbrev bM:=@List.filter_cons
abbrev bN:=@List.any_cons
abbrev bO:=@congrArg
abbrev bP:=@Nat.le_succ_of_le
abbrev bQ:=@Array.length_toList
abbrev bR:=@List.length_drop
abbrev bS:=@List.all_eq_true
abbrev bT:=@PySem.wpAny_setField
abbrev bU:=@or_false
abbrev bV:=@Nat.lt_of_le_of_lt
abbrev bW:=@PySem.F.slot_tuple_iterator_next
abbrev bX:=@PySem.wpAny_passesOwn
abbrev bY:=@Nat.min_eq_left
abbrev bZ:=@List.cons.injEq
abbrev b7:=@List.set_append_left
abbrev b8:=@PySem.wpAny_comprehension_free
abbrev b9:=@PySem.wpAny_attempt
abbrev cb:=@List.length_filterMap_le
abbrev cc:=@PySem.mem_of_lookup
abbrev cf:=@List.map_congr_left
abbrev cj:=@List.getElem_of_mem
abbrev ck:=@List.filterMap_cons
abbrev cm:=@PySem.W.callWith_K
abbrev cn:=@PyProof.Rows.boot_bool
abbrev cp:=@List.drop_of_length_le
abbrev cq:=@Bool.false_eq_true
abbrev cu:=@beq_false_of_ne
abbrev cw:=@Bool.eq_iff_iff
abbrev cx:=@PyProof.Rows.boot_all
abbrev cy:=@PySem.F.args_zip_next_1
abbrev cz:=@beq_self_eq_true
abbrev cA:=@List.lookup_cons
abbrev cC:=@PySem.F.entry_zip_next
abbrev cD:=@List.drop_eq_getElem_cons
abbrev cE:=@PySem.Heap.SameBut.update
abbrev cF:=@PySem.F.plain_extend_loop
abbrev cG:=@List.eq_of_mem_replicate
abbrev cI:=@List.all_cons
abbrev cJ:=@PySem.wpAny_updateSeq
abbrev cK:=@PySem.wpAny_execs_nil
abbrev cL:=@PySem.pushCells_keeps
abbrev cM:=@List.count_cons
abbrev cN:=@PySem.tupleKind_room_in1
abbrev cO:=@PySem.Obj.data_mapFields
abbrev cP:=@List.zip_cons_cons
abbrev cQ:=@List.lookup_append
abbrev cU:=@PyProof.Rows.boot_tuple
abbrev cV:=@of_decide_eq_true
abbrev cW:=@PySem.boot_len
abbrev cX:=@PySem.W.cellsFrom_some
abbrev cY:=@Nat.lt_trans
abbrev cZ:=@List.set_set
abbrev c4:=@List.idxOf_append
abbrev c6:=@PySem.Calls.callWith_builtin
abbrev c7:=@Bool.and_false
namespace L2
open PySem PySem.Spec PyProof.Rows
abbrev Key:=Sum Int Str
def keyIs:Key->Value->Bool
 | .inl k,v=>Value.isInt k v
 | .inr x,v=>Value.isStrOf x v
def keyH (w:World):Key->Int
 | .inl k=>hashInt k
 | .inr x=>hashStr w x
theorem keyIs_shape:∀ {k:Key} {v:Value},keyIs k v=true->(∃ i t,k=Sum.inl i/\v=Value.int i t)\/(∃ x t,k=Sum.inr x/\v=Value.str x t)
 | .inl i,v,h=>by
  obtain⟨t,e⟩:=Value.isInt_shape (k:=i) (v:=v) h
  exact .inl ⟨i,t,rfl,e⟩
 | .inr x,v,h=>by
  obtain⟨t,e⟩:=Value.isStrOf_shape (x:=x) (v:=v) h
  exact .inr ⟨x,t,rfl,e⟩
theorem keyIs_int (i:Int)(t:Tok):keyIs (.inl i) (.int i t)=true:=by simp[keyIs,Value.isInt]
theorem keyIs_str (x:Str)(t:Tok):keyIs (.inr x) (.str x t)=true:=by simp[keyIs,Value.isStrOf]
theorem key_ll (a b:Int):decide ((Sum.inl a:Key)=Sum.inl b)=(a==b):=by
 by_cases e:a=b
 ·subst e;simp
 ·have h:¬ (Sum.inl a:Key)=Sum.inl b:=fun q=>e (Sum.inl.inj q)
  rw[ai h]
  exact(beq_eq_false_iff_ne.mpr e).symm
theorem key_rr (a b:Str):decide ((Sum.inr a:Key)=Sum.inr b)=decide (a=b):=by
 by_cases e:a=b
 ·subst e;simp
 ·have h:¬ (Sum.inr a:Key)=Sum.inr b:=fun q=>e (Sum.inr.inj q)
  rw[ai h,ai e]
theorem key_lr (a:Int)(b:Str):decide ((Sum.inl a:Key)=Sum.inr b)=false:=ai (fun q=>nomatch q)
theorem key_rl (a:Str)(b:Int):decide ((Sum.inr a:Key)=Sum.inl b)=false:=ai (fun q=>nomatch q)
def mixKind (prog:Program)(w:World):PySem.KeyKind prog w Key where
 is:=keyIs
 hash:=keyH w
 inj:=fun v a b ha hb=>by
  rcases keyIs_shape ha with⟨i,t,rfl,rfl⟩ | ⟨x,t,rfl,rfl⟩
  ·rcases keyIs_shape hb with⟨j,u,rfl,e⟩ | ⟨y,u,rfl,e⟩
   ·injection e with e1 _;rw[e1]
   ·exact nomatch e
  ·rcases keyIs_shape hb with⟨j,u,rfl,e⟩ | ⟨y,u,rfl,e⟩
   ·exact nomatch e
   ·injection e with e1 _;rw[e1]
 byValue:=fun k v h=>by
  rcases keyIs_shape h with⟨i,t,rfl,rfl⟩ | ⟨x,t,rfl,rfl⟩<;> rfl
 pyHash:=fun hv h=>by
  rcases keyIs_shape hv with⟨i,t,rfl,rfl⟩ | ⟨x,t,rfl,rfl⟩
  ·exact wpAny_pyHash_int h
  ·exact wpAny_pyHash_str h
 eqBool:=fun hu hv h=>by
  rcases keyIs_shape hu with⟨i,t,rfl,rfl⟩ | ⟨x,t,rfl,rfl⟩
  ·rcases keyIs_shape hv with⟨j,u,rfl,rfl⟩ | ⟨y,u,rfl,rfl⟩
   ·rw[key_ll]at h;exact wpAny_eqBool_int h
   ·rw[key_lr]at h;exact SeqAt.EqAt.int_str i t y u _ _ _ _ h
  ·rcases keyIs_shape hv with⟨j,u,rfl,rfl⟩ | ⟨y,u,rfl,rfl⟩
   ·rw[key_rl]at h;exact SeqAt.EqAt.str_int x t j u _ _ _ _ h
   ·rw[key_rr]at h;exact wpAny_eqBool_str h
 «strs»:=fun k x t v h=>by
  rcases keyIs_shape h with⟨i,u,rfl,e⟩ | ⟨y,u,rfl,e⟩
  ·exact nomatch e
  ·injection e with e1 _
   subst e1
   cases v <;> rfl
theorem mixKind_int (prog:Program)(w:World)(i:Int)(t:Tok):(mixKind prog w).is (.inl i) (.int i t)=true:=keyIs_int i t
theorem mixKind_str (prog:Program)(w:World)(x:Str)(t:Tok):(mixKind prog w).is (.inr x) (.str x t)=true:=keyIs_str x t
inductive V where
 | non | bl (b:Bool) | int (i:Int) | str (x:Str) | byt (b:Array UInt8) | flt (b:UInt64) | ref (a:Addr) | ty (n:String)
 deriving DecidableEq
def RelV:V->Value->Prop
 | .non,u=>u=Value.none
 | .bl b,u=>u=Value.bool b
 | .int i,u=>∃ t,u=Value.int i t
 | .str x,u=>∃ t,u=Value.str x t
 | .byt b,u=>∃ t,u=Value.bytes b t
 | .flt b,u=>∃ t,u=Value.float b t
 | .ref a,u=>u=Value.ref a
 | .ty n,u=>u=Value.type n
abbrev Vals:List V->List Value->Prop:=Paired RelV
theorem Vals.length {xs:List V}{us:List Value}(r:Vals xs us):xs.length=us.length:=Paired.length r
theorem Vals.get:∀ {xs:List V} {us:List Value} {i:Nat} {x:V},Vals xs us->xs[i]?=some x->∃ u,us[i]?=some u/\RelV x u
 | _,_,_,_,.nil,e=>by simp at e
 | _,_,0,_,.cons r _,e=>by simp at e;subst e;exact⟨_,rfl,r⟩
 | _,_,i+1,x,.cons _ t,e=>by
  obtain⟨u,h1,h2⟩:=Vals.get (i:=i) (x:=x) t (by simpa using e)
  exact⟨u,by simpa using h1,h2⟩
theorem Vals.set {x:V}{u:Value}(r:RelV x u):∀ {xs:List V} {us:List Value} (i:Nat),Vals xs us->Vals (xs.set i x) (us.set i u)
 | _,_,_,.nil=>.nil
 | _,_,0,.cons _ t=>.cons r t
 | _,_,i+1,.cons q t=>.cons q (Vals.set r i t)
theorem Vals.append {xs ys:List V}{us ws:List Value}(h:Vals xs us)(s:Vals ys ws):Vals (xs++ys) (us++ws):=by
 induction h with
 | nil=>exact s
 | cons r t ih=>exact .cons r ih
theorem Vals.take:∀ {xs:List V} {us:List Value} (n:Nat),Vals xs us->Vals (xs.take n) (us.take n)
 | _,_,0,_=>.nil
 | _,_,_+1,.nil=>.nil
 | _,_,n+1,.cons r t=>.cons r (Vals.take n t)
theorem Vals.drop:∀ {xs:List V} {us:List Value} (n:Nat),Vals xs us->Vals (xs.drop n) (us.drop n)
 | _,_,0,r=>r
 | _,_,_+1,.nil=>.nil
 | _,_,n+1,.cons _ t=>Vals.drop n t
theorem Vals.none_of:∀ {xs:List V} {us:List Value} {i:Nat},Vals xs us->xs[i]?=none->us[i]?=none:=fun {xs us i} r e=>by
 have h1:=r.length
 have h2:xs.length<=i:=List.getElem?_eq_none_iff.mp e
 exact List.getElem?_eq_none_iff.mpr (by omega)
def RelO:Option V->Option Value->Prop
 | some v,some u=>RelV v u
 | none,none=>True
 | _,_=>False
def KV {κ:Type}:List (κ×V)->List (κ×Value)->Prop:=Paired fun(p:κ×V) (q:κ×Value)=>p.1=q.1/\RelV p.2 q.2
def kV:Key->V
 | .inl i=>.int i
 | .inr x=>.str x
inductive HO where
 | lst (xs:List V)
 | tup (xs:List V)
 | dK (kvs:List (Key×V)) | dT (kvs:List (List Key×V))
 | set (S:Int->Bool) (n:Nat)
 | ins (C dx:Addr) (fs:List (Str×V))
 | own (x:Addr)
 | xd (fs:List (Str×V))
 | met (f x:Addr)
 | rng (lo hi:Int)
 | frz (o:Obj) (u:HO)
 | tbl (ps:Array Value)
 | ext (φ:Heap->Prop)
abbrev Hp:=Addr->Option HO
def upd (H:Hp)(a:Addr)(o:HO):Hp:=fun b=>if b=a then some o else H b
theorem upd_same {H:Hp}{a:Addr}{o:HO}:upd H a o a=some o:=by unfold upd;rw[ar rfl]
theorem upd_ne {H:Hp}{a b:Addr}{o:HO}(h:b≠a):upd H a o b=H b:=by unfold upd;rw[aj h]
theorem ne_of {H:Hp}{a b:Addr}{o u:HO}(h:H a=some o)(h':H b=some u)(d:o≠u):a≠b:=by
 intro e;subst e;rw[h]at h';exact d (aI h')
theorem ne_of_none {H:Hp}{a b:Addr}{o:HO}(h:H a=some o)(h':H b=none):a≠b:=by
 intro e;subst e;rw[h]at h';cases h'
section
variable (P:Program)(w:World)
def ObjOk (H:Hp)(h:Heap)(a:Addr):HO->Prop
 | .lst xs=>xs.length<=sizeLine/\∃(its:List Value) (n:Nat),Vals xs its/\h.get? a=some { cls:=.type "list",data:=.seq its.toArray n}
 | .tup xs=>xs.length<=sizeLine/\∃ its:List Value,Vals xs its/\IsTup h a its.toArray
 | .dK kvs=>kvs.length<=sizeLine/\(a==sysModules)=false/\∃ vs,KV kvs vs/\h.DictOf (mixKind P w) a vs
 | .dT kvs=>kvs.length<=sizeLine/\(a==sysModules)=false/\∃ xs:List (List Key×Addr×Value),
  Paired (fun(p:List Key×V) (q:List Key×Addr×Value)=>p.1=q.1/\H q.2.1=some (.tup (p.1.map kV))/\RelV p.2 q.2.2) kvs xs /\
  ∃ o es ep,h.get? a=some o/\o.ExactDict/\o.data=.dict es ep/\es.toList=xs.map (entryOfKey (tupleKind (mixKind P w)))/\(xs.map (·.1)).Nodup
 | .set S n=>h.SetOf (intKind P w) a S n
 | .ins C dx fs=>H dx=some (.own a)/\fs.length<=1000/\dx≠a/\h.get? a=some (PySem.W.instObj C dx) /\
  ∃ mA,h.Ns1 dx mA/\(∀ f,RelO (fs.lookup f) (mA f))/\PySem.Within mA (fs.map (·.1))
 | .own _=>∃ o,h.get? a=some o
 | .xd fs=>∃ mA,h.Ns1 a mA/\∀ f,RelO (fs.lookup f) (mA f)
 | .rng lo hi=>∃ t u v,h.get? a=some { cls:=.type "range",data:=.fields #[.int lo t,.int hi u,.int 1 v]}
 | .frz o u=>h.get? a=some o/\ObjOk H h a u
 | .tbl ps=>h.get? a=some { cls:=.none,data:=.fields ps}
 | .met f x=>h.get? a=some (PySem.W.methodObj (.ref f) (.ref x))
 | .ext φ=>φ h/\(∃ o,h.get? a=some o)/\∀ h1 h2:Heap,φ h1->(∀ o,h1.get? a=some o->h2.get? a=some o)->φ h2
def HOk (H:Hp)(h:Heap):Prop:=∀ a o,H a=some o->ObjOk P w H h a o
end
section
variable {P:Program}{w:World}{H H':Hp}{h h':Heap}{a:Addr}{o:HO}
theorem ObjOk.lt (x:ObjOk P w H h a o):a<h.objs.size:=by
 cases o with
 | lst xs=>obtain⟨_,_,_,_,e⟩:=x;exact gxN e
 | tup xs=>obtain⟨_,_,_,p⟩:=x;exact p.lt
 | dK kvs=>obtain⟨_,_,_,_,o,_,_,e,_⟩:=x;exact gxN e
 | dT kvs=>obtain⟨_,_,_,_,o,_,_,e,_⟩:=x;exact gxN e
 | set S n=>obtain⟨o,_,_,_,e,_⟩:=x;exact gxN e
 | ins C dx fs=>obtain⟨_,_,_,e,_⟩:=x;exact gxN e
 | own y=>obtain⟨_,e⟩:=x;exact gxN e
 | xd fs=>obtain⟨_,⟨_,_,_,e,_⟩,_⟩:=x;exact gxN e
 | rng lo hi=>obtain⟨_,_,_,e⟩:=x;exact gxN e
 | frz ob u=>obtain⟨e,_⟩:=x;exact gxN e
 | tbl ps=>exact gxN (show h.get? a=some _ from x)
 | met f y=>exact gxN (show h.get? a=some _ from x)
 | ext φ=>obtain⟨_,⟨_,e⟩,_⟩:=x;exact gxN e
theorem Paired.mapP {α β:Type}{F G:α->β->Prop}{l₁:List α}{l₂:List β}(h:Paired F l₁ l₂)(f:∀ a b,F a b->G a b):Paired G l₁ l₂:=by
 induction h with
 | nil=>exact .nil
 | cons r t ih=>exact .cons (f _ _ r) ih
theorem ObjOk.stay (x:ObjOk P w H h a o)(k:∀ b u,(b=a\/H b=some (.own a))->h.get? b=some u->h'.get? b=some u)
 (ho:∀ b,H b=some (.own a)->H' b=some (.own a)) (ht:∀ b xs,H b=some (.tup xs)->H' b=some (.tup xs)):ObjOk P w H' h' a o:=by
 induction o with
 | lst xs=>obtain⟨z,its,n,r,e⟩:=x;exact⟨z,its,n,r,k _ _ (.inl rfl) e⟩
 | tup xs=>obtain⟨z,its,r,ob,e,c⟩:=x;exact⟨z,its,r,ob,k _ _ (.inl rfl) e,c⟩
 | dK kvs=>obtain⟨z,y,vs,r,ob,es,ep,e,c⟩:=x;exact⟨z,y,vs,r,ob,es,ep,k _ _ (.inl rfl) e,c⟩
 | dT kvs =>
  obtain⟨z,y,xs,r,ob,es,ep,e,c⟩:=x
  exact⟨z,y,xs,Paired.mapP r fun p q z=>⟨z.1,ht _ _ z.2.1,z.2.2⟩,ob,es,ep,k _ _ (.inl rfl) e,c⟩
 | set S n=>obtain⟨ob,es,ep,t,e,c⟩:=x;exact⟨ob,es,ep,t,k _ _ (.inl rfl) e,c⟩
 | ins C dx fs =>
  obtain⟨d,z,ne,e,mA,⟨od,es,ep,e2,c⟩,r⟩:=x
  exact⟨ho _ d,z,ne,k _ _ (.inl rfl) e,mA,⟨od,es,ep,k _ _ (.inr d) e2,c⟩,r⟩
 | own y=>obtain⟨ob,e⟩:=x;exact⟨ob,k _ _ (.inl rfl) e⟩
 | xd fs=>obtain⟨mA,⟨od,es,ep,e,c⟩,r⟩:=x;exact⟨mA,⟨od,es,ep,k _ _ (.inl rfl) e,c⟩,r⟩
 | rng lo hi=>obtain⟨t,u,v,e⟩:=x;exact⟨t,u,v,k _ _ (.inl rfl) e⟩
 | frz ob u ih=>obtain⟨e,q⟩:=x;exact⟨k _ _ (.inl rfl) e,ih q⟩
 | tbl ps =>
  have e:h.get? a=some { cls:=.none,data:=.fields ps}:=x
  show h'.get? a=some { cls:=.none,data:=.fields ps}
  exact k a _ (.inl rfl) e
 | met f y =>
  have e:h.get? a=some (PySem.W.methodObj (.ref f) (.ref y)):=x
  show h'.get? a=some (PySem.W.methodObj (.ref f) (.ref y))
  exact k a _ (.inl rfl) e
 | ext φ=>obtain⟨p,⟨o,e⟩,st⟩:=x;exact⟨st _ _ p fun o q=>k _ _ (.inl rfl) q,⟨o,k _ _ (.inl rfl) e⟩,st⟩
theorem HOk.lt (x:HOk P w H h)(e:H a=some o):a<h.objs.size:=(x a o e).lt
theorem HOk.fresh (x:HOk P w H h)(e:h.objs.size<=a):H a=none:=by
 cases q:H a with
 | none=>rfl
 | some u=>exact absurd (aA (x.lt q) e) (bu _)
theorem HOk.kept (x:HOk P w H h)(k:∀ b u,h.get? b=some u->h'.get? b=some u):HOk P w H h':=fun a o e =>
 (x a o e).stay (fun b u _ q=>k b u q) (fun _ q=>q) fun _ _ q=>q
theorem HOk.laid (x:HOk P w H h)(k:∀ b u,h.get? b=some u->h'.get? b=some u)(hp:h.objs.size<=a)(new:ObjOk P w (upd H a o) h' a o):HOk P w (upd H a o) h':=fun b u e=>by
 have hn:=x.fresh hp
 by_cases hb:b=a
 ·subst hb;rw[upd_same]at e;cases e;exact new
 ·rw[upd_ne hb]at e
  exact(x b u e).stay (fun c v _ q=>k c v q) (fun c q=>by rw[upd_ne (ne_of_none q hn)];exact q) fun c xs q=>by rw[upd_ne (ne_of_none q hn)];exact q
end
def Rd (H:Hp)(a:Addr)(u:HO):Prop:=H a=some u\/∃ o,H a=some (.frz o u)
theorem Rd.ok {P:Program}{w:World}{H:Hp}{h:Heap}{a:Addr}{u:HO}(r:Rd H a u)(x:HOk P w H h):ObjOk P w H h a u:=by
 rcases r with r | ⟨o,r⟩
 ·exact x a u r
 ·obtain⟨_,q⟩:=x a _ r
  exact q
def Mut:Option HO->Prop
 | some (.lst _)=>True
 | some (.dK _)=>True
 | some (.dT _)=>True
 | some (.set _ _)=>True
 | some (.ins _ _ _)=>True
 | some (.ext _)=>True
 | _=>False
section
variable {P:Program}{w:World}{H:Hp}{h h':Heap}{x e:Addr}{o':HO}
theorem HOk.write (ok:HOk P w H h)(mu:Mut (H x))(he:e=x\/H e=some (.own x))(k:∀ b u,b≠e->h.get? b=some u->h'.get? b=some u)(heo:∃ u,h'.get? e=some u)
 (new:ObjOk P w (upd H x o') h' x o'):HOk P w (upd H x o') h':=fun b u q=>by
 have nown:∀ c y,H c=some (.own y)->c≠x:=fun c y r z=>by subst z;rw[r]at mu;exact mu
 have ntup:∀ c xs,H c=some (.tup xs)->c≠x:=fun c xs r z=>by subst z;rw[r]at mu;exact mu
 by_cases hb:b=x
 ·subst hb;rw[upd_same]at q;cases q;exact new
 ·rw[upd_ne hb]at q
  by_cases hbe:b=e
  ·have q':H b=some (.own x):=by
    rcases he with z | z
    ·exact absurd (hbe.trans z) hb
    ·rw[hbe];exact z
   rw[q]at q';cases q'
   obtain⟨v,hv⟩:=heo
   exact⟨v,by rw[hbe];exact hv⟩
  ·refine(ok b u q).stay (fun c v hc r=>k c v ?_ r) (fun c r=>by rw[upd_ne (nown c b r)];exact r) fun c xs r=>by rw[upd_ne (ntup c xs r)];exact r
   rcases hc with rfl | hc
   ·exact hbe
   ·rintro rfl
    rcases he with z | z
    ·exact nown c b hc z
    ·rw[hc]at z;cases z;exact hb rfl
end
structure Un (fs ex:List Addr)(H H':Hp)(h h':Heap):Prop where
 keep:∀ b o,h.get? b=some o->H b=none->b∉fs->b∉ex->h'.get? b=some o
 slot:∀ b o,h.get? b=some o->H b=none->b∈fs->b∉ex->∃ sl,h'.get? b=some { o with slots:=sl}
 free:∀ b o,h.get? b=some o->H b=none->b∉ex->H' b=none
 there:∀ b o,h.get? b=some o->b∉ex->∃ o',h'.get? b=some o'
 tups:∀ b xs,H b=some (.tup xs)->H' b=some (.tup xs)
 frzs:∀ b o u,H b=some (.frz o u)->H' b=some (.frz o u)
 tbls:∀ b ps,H b=some (.tbl ps)->∃ more,H' b=some (.tbl (ps++more))
section
variable {fs fs' ex ex':List Addr}{H H1 H2:Hp}{h h1 h2 h':Heap}{a x e:Addr}{o:HO}
theorem Un.any (u:Un fs ex H H1 h h1){b:Addr}{ob:Obj}(q:h.get? b=some ob)(n:H b=none)(hx:b∉ex):∃ sl,h1.get? b=some { ob with slots:=sl}:=by
 by_cases hb:b∈fs
 ·exact u.slot b ob q n hb hx
 ·exact⟨ob.slots,u.keep b ob q n hb hx⟩
theorem Un.trans (a:Un fs ex H H1 h h1)(b:Un fs ex H1 H2 h1 h2):Un fs ex H H2 h h2 where
 keep:=fun c ob q n hc hx=>b.keep c ob (a.keep c ob q n hc hx) (a.free c ob q n hx) hc hx
 slot:=fun c ob q n hc hx=>by
  obtain⟨sl,e1⟩:=a.slot c ob q n hc hx
  obtain⟨sl',e2⟩:=b.slot c _ e1 (a.free c ob q n hx) hc hx
  exact⟨sl',e2⟩
 free:=fun c ob q n hx=>by
  obtain⟨o',e1⟩:=a.there c ob q hx
  exact b.free c o' e1 (a.free c ob q n hx) hx
 there:=fun c ob q hx=>by
  obtain⟨o',e1⟩:=a.there c ob q hx
  exact b.there c o' e1 hx
 tups:=fun c xs q=>b.tups c xs (a.tups c xs q)
 frzs:=fun c ob xs q=>b.frzs c ob xs (a.frzs c ob xs q)
 tbls:=fun c ps q=>by
  obtain⟨m1,e1⟩:=a.tbls c ps q
  obtain⟨m2,e2⟩:=b.tbls c _ e1
  exact⟨m1++m2,by rw[e2,Array.append_assoc]⟩
theorem Un.kept (k:∀ b u,h.get? b=some u->h'.get? b=some u):Un fs ex H H h h' :=
 ⟨fun b ob q _ _ _=>k b ob q,fun b ob q _ _ _=>⟨ob.slots,k b ob q⟩,fun _ _ _ n _=>n,fun b ob q _=>⟨ob,k b ob q⟩,fun _ _ q=>q,fun _ _ _ q=>q,fun _ ps q=>⟨#[],by rw[q];simp⟩⟩
theorem Un.refl:Un fs ex H H h h:=Un.kept fun _ _ q=>q
theorem Un.laid (k:∀ b u,h.get? b=some u->h'.get? b=some u)(hp:h.objs.size<=a)(hn:H a=none):Un fs ex H (upd H a o) h h' where
 keep:=fun b u q _ _ _=>k b u q
 slot:=fun b u q _ _ _=>⟨u.slots,k b u q⟩
 free:=fun b u q n _=>by rw[upd_ne (ao (aA (gxN q) hp))];exact n
 there:=fun b u q _=>⟨u,k b u q⟩
 tups:=fun b xs q=>by rw[upd_ne (ne_of_none q hn)];exact q
 frzs:=fun b u xs q=>by rw[upd_ne (ne_of_none q hn)];exact q
 tbls:=fun b ps q=>⟨#[],by rw[upd_ne (ne_of_none q hn),q];simp⟩
theorem Un.write (mu:Mut (H x))(he:e=x\/H e=some (.own x))(k:∀ b u,b≠e->h.get? b=some u->h'.get? b=some u)(heo:∃ u,h'.get? e=some u):Un fs ex H (upd H x o) h h':=by
 have hx:∀ b,H b=none->b≠x:=fun b n z=>by subst z;rw[n]at mu;exact mu
 have hb:∀ b,H b=none->b≠e:=fun b n z=>by
  subst z
  rcases he with r | r
  ·exact hx b n r
  ·rw[n]at r;cases r
 have hm:∀ b u,H b=some u->¬ Mut (some u)->b≠x:=fun b u q nm z=>by subst z;rw[q]at mu;exact nm mu
 refine⟨fun b u q n _ _=>k b u (hb b n) q,fun b u q n _ _=>⟨u.slots,k b u (hb b n) q⟩,fun b u q n _=>by rw[upd_ne (hx b n)];exact n,fun b u q _=>?_,
  fun b xs q=>by rw[upd_ne (hm b _ q fun z=>z)];exact q,fun b u xs q=>by rw[upd_ne (hm b _ q fun z=>z)];exact q,fun b ps q=>⟨#[],by rw[upd_ne (hm b _ q fun z=>z),q];simp⟩⟩
 by_cases hbe:b=e
 ·subst hbe;exact heo
 ·exact⟨u,k b u hbe q⟩
theorem Un.mono (u:Un fs ex H H1 h h1)(hs:∀ b∈fs,b∈fs')(hx:∀ b∈ex,b∈ex'):Un fs' ex' H H1 h h1 :=
 ⟨fun b ob q n hb he=>u.keep b ob q n (fun z=>hb (hs b z)) fun z=>he (hx b z),fun _ _ q n _ he=>u.any q n fun z=>he (hx _ z),fun b ob q n he=>u.free b ob q n fun z=>he (hx b z),fun b ob q he=>u.there b ob q fun z=>he (hx b z),u.tups,u.frzs,u.tbls⟩
end
def trk (h:Heap)(H:Hp):List Addr:=(List.range h.objs.size).filter fun a=>(H a).isSome
def hidT (h:Heap)(H:Hp):Heap:=PySem.W.hideAll h (trk h H)
theorem hidT_size (h:Heap)(H:Hp):(hidT h H).objs.size=h.objs.size:=PySem.W.hideAll_size _ _
theorem hidT_get {h:Heap}{H:Hp}{b:Addr}{o:Obj}(e:h.get? b=some o)(n:H b=none):(hidT h H).get? b=some o :=
 PySem.W.hideAll_get _ e fun hm=>by
  have q:(H b).isSome=true:=(List.mem_filter.mp hm).2
  rw[n]at q;simp at q
theorem of_hidT {h:Heap}{H:Hp}{b:Addr}{o:Obj}(e:(hidT h H).get? b=some o):h.get? b=some o/\H b=none:=by
 have e':h.get? b=some o:=PySem.W.of_hideAll (trk h H) e
 refine⟨e',?_⟩
 cases q:H b with
 | none=>rfl
 | some x =>
  have hm:b∈trk h H:=List.mem_filter.mpr ⟨List.mem_range.mpr (gxN e'),by simp[q]⟩
  have z:(hidT h H).get? b=none:=PySem.W.hideAll_none (trk h H) hm
  rw[z]at e;cases e
def allNews (g h:Heap)(L:Addr):List (Addr×Obj):=(List.range h.objs.size).filterMap fun a=>if a=L\/(g.get? a).isSome=true then none else(h.get? a).map fun o=>(a,o)
def rest (g h:Heap)(L d:Addr):List (Addr×Obj):=(allNews g h L).filter fun p=>decide (p.1≠d)
structure Mod (K:PySem.W.Frag)(mg:Str->Option Value)(base:Heap):Prop where
 kin:K.In base
 glob:base.Ns mainGlobals mg
 blt:∃ mb,base.Ns builtinsNs mb/\∀ x:Str,x ≠ "__name__"->mb x=bootBuiltins x
 nolimit:base.NoLimit
structure Cx where
 prog:Program
 w:World
 K:PySem.W.Frag
 mg:Str->Option Value
 base:Heap
 A:Around
 N:List Str
 s₀:Shared
 H₀:Hp
 env:Env
 outer:List Env
 stack:List Env
 ex:List Addr
 fn:Str->Bool
 calm:Bool
 pn:List (Addr×Obj)
 xe:Value->Shared->Prop
def frs (l:List Env):List Addr:=l.filterMap (·.frame)
abbrev Cx.fs (X:Cx):List Addr:=frs X.outer
def Vis (sc:Scope)(x:Str):Prop:=sc.names.lookup x=some .local\/sc.names.lookup x=some .cell\/sc.names.lookup x=some .free
def Loc (sc:Scope)(x:Str):Prop:=sc.names.lookup x=some .local\/sc.names.lookup x=some .cell
def Look (env:Env)(h:Heap)(m:Str->Option Value)(x:Str)(u:Value):Prop :=
 (env.kindOf x=some .local/\m x=some u)\/((env.kindOf x=some .cell\/env.kindOf x=some .free)/\∃ c,env.cells.lookup x=some c/\h.IsCell c (some u))
structure Cx.Ok (X:Cx):Prop where
 mod:Mod X.K X.mg X.base
 kind:X.env.scope.kind=.function
 glob:X.env.globals=mainGlobals
 blt:X.env.builtins=builtinsNs
 above:X.s₀.heap.objs.size<=X.env.locals
 inj:∀ x y c,X.env.cells.lookup x=some c->X.env.cells.lookup y=some c->x=y
 has:∀ x,(X.env.kindOf x=some .cell\/X.env.kindOf x=some .free)->∃ c,X.env.cells.lookup x=some c
 cab:∀ x c,X.fn x=true->X.env.cells.lookup x=some c->X.s₀.heap.objs.size<=c
 hd:X.calm=true->X.A.handled=none
 frames:X.A.frames=some X.stack
 stk:X.stack=X.outer\/(X.stack=X.env::X.outer/\X.env.frame=some X.env.locals)
 exf:∀ b∈X.ex,b≠X.env.locals/\∀ x c,X.env.cells.lookup x=some c->c≠b
 bs:∀ b o,X.base.get? b=some o->X.s₀.heap.get? b=some o/\X.H₀ b=none
 bsz:X.base.objs.size<=X.s₀.heap.objs.size
 noex:∀ b o,X.base.get? b=some o->b∉X.ex
 exfs:∀ b∈X.ex,b∉X.fs
 funs:X.s₀.heap.FunFrames X.base X.outer
 frf:∀ b∈X.fs,X.H₀ b=none
structure Inv (X:Cx)(pins:List (Addr×Obj))(σ:List (Option V))(H:Hp)(s:Shared):Prop where
 ok:X.Ok
 os:s.os=X.s₀.os
 bare:AllBare s.gens
 base:Un X.fs X.ex X.H₀ H X.s₀.heap s.heap
 loc:∃ m,s.heap.Ns X.env.locals m/\∀(i:Nat) (x:Str) (v:V),X.N[i]?=some x->σ[i]?=some (some v)->Vis X.env.scope x->∃ u,RelV v u/\Look X.env s.heap m x u
 cell:∀ x c,X.env.cells.lookup x=some c->∃ v,s.heap.IsCell c v
 free:H X.env.locals=none
 freeC:∀ x c,X.env.cells.lookup x=some c->H c=none
 pin:∀ p∈X.pn++pins,s.heap.get? p.1=some p.2/\H p.1=none/\p.1≠X.env.locals/\p.1∉X.fs/\∀ v,p.2.data≠.cell v
 hok:HOk X.prog X.w H s.heap
 len:σ.length=X.N.length
section
variable {X:Cx}{pins:List (Addr×Obj)}{σ:List (Option V)}{H H':Hp}{s:Shared}{h':Heap}
theorem Cx.Ok.nofr (ok:X.Ok){b:Addr}{o:Obj}(e:X.base.get? b=some o):b∉X.fs:=fun hb=>by
 have:=(ok.funs.mem hb).1
 rw[e]at this;cases this
theorem Inv.bs (I:Inv X pins σ H s):∀ b o,X.base.get? b=some o->s.heap.get? b=some o/\H b=none:=fun b o e =>
 ⟨I.base.keep b o (I.ok.bs b o e).1 (I.ok.bs b o e).2 (I.ok.nofr e) (I.ok.noex b o e),I.base.free b o (I.ok.bs b o e).1 (I.ok.bs b o e).2 (I.ok.noex b o e)⟩
theorem Inv.bk (I:Inv X pins σ H s):∀ b o,X.base.get? b=some o->s.heap.get? b=some o:=fun b o e=>(I.bs b o e).1
theorem Inv.mod (I:Inv X pins σ H s):Mod X.K X.mg X.base:=I.ok.mod
theorem Inv.kIn (I:Inv X pins σ H s):X.K.In s.heap:=I.ok.mod.kin.keeps I.bk
theorem Inv.fr (I:Inv X pins σ H s):∃ m,Fr X.base X.env.locals s.heap m :=
 let ⟨m,hn,_⟩:=I.loc
 ⟨m,hn,I.bk,aB I.ok.bsz I.ok.above⟩
theorem Inv.lt (I:Inv X pins σ H s):X.env.locals<s.heap.objs.size:=let ⟨_,hn,_⟩:=I.loc;hn.lt
theorem Inv.sz (I:Inv X pins σ H s):X.s₀.heap.objs.size<=s.heap.objs.size:=aB I.ok.above (Nat.le_of_lt I.lt)
theorem Inv.nofs (I:Inv X pins σ H s){a:Addr}(h:s.heap.objs.size<=a):a∉X.fs:=fun hb=>by
 obtain⟨_,o,ho,_⟩:=I.ok.funs.mem hb
 exact absurd (aA (gxN ho) (aB I.sz h)) (bu _)
theorem Inv.cne (I:Inv X pins σ H s):∀ x c,X.env.cells.lookup x=some c->c≠X.env.locals:=fun x c e z=>by
 obtain⟨v,o,ho,hd⟩:=I.cell x c e
 obtain⟨m,⟨o',es,ep,ho',hd',_⟩,_⟩:=I.loc
 rw[z,ho']at ho;cases ho;rw[hd']at hd;cases hd
theorem Inv.funs (I:Inv X pins σ H s):s.heap.FunFrames X.base X.outer:=by
 have all:∀(l:List Env),(∀ b∈frs l,b∈X.fs)->X.s₀.heap.FunFrames X.base l->s.heap.FunFrames X.base l:=by
  intro l
  induction l with
  | nil=>intro _ _;trivial
  | cons env r ih =>
   intro hs hl
   obtain⟨hk,⟨L,o,hf,hn,ho,hd⟩,hr⟩:=hl
   have hL:L∈X.fs:=hs L (by unfold frs;rw[ck,hf];exact aC)
   obtain⟨sl,e⟩:=I.base.slot L o ho (I.ok.frf L hL) hL fun z=>I.ok.exfs L z hL
   exact⟨hk,⟨L,_,hf,hn,e,hd⟩,ih (fun b hb=>hs b (by unfold frs;rw[ck,hf];exact gxI _ hb)) hr⟩
 exact all X.outer (fun _ hb=>hb) I.ok.funs
theorem Inv.stack (I:Inv X pins σ H s):s.heap.FunFrames X.base X.stack:=by
 rcases I.ok.stk with e | ⟨e,hf⟩
 ·rw[e];exact I.funs
 ·rw[e]
  obtain⟨m,hn,_⟩:=I.loc
  refine .cons (by rw[I.ok.kind];decide) hf hn ?_ I.funs
  exact Heap.get?_none_of_le (aB I.ok.bsz I.ok.above)
theorem Inv.stkSub (I:Inv X pins σ H s):∀ b∈frs X.stack,b∈X.env.locals::X.fs:=fun b hb=>by
 rcases I.ok.stk with e | ⟨e,hf⟩
 ·rw[e]at hb;exact gxI _ hb
 ·rw[e]at hb
  unfold frs at hb
  rw[ck,hf]at hb
  exact hb
theorem Inv.stkFree (I:Inv X pins σ H s):∀ b∈frs X.stack,H b=none:=fun b hb=>by
 rcases List.mem_cons.mp (I.stkSub b hb)with e | hb
 ·rw[e];exact I.free
 ·obtain⟨_,o,ho,_⟩:=I.ok.funs.mem hb
  exact I.base.free b o ho (I.ok.frf b hb) fun z=>I.ok.exfs b z hb
theorem Inv.step {g':Array GenState}{t':Nat}{d':Drawn}{ch:List Addr}(I:Inv X pins σ H s)
 (hch:∀ b∈ch,(b∈X.ex\/X.s₀.heap.objs.size<=b)/\b≠X.env.locals/\(∀ x c,X.env.cells.lookup x=some c->c≠b)/\∀ p∈X.pn++pins,p.1≠b)
 (keep:∀ b o,b≠X.env.locals->b∉X.fs->b∉ch->s.heap.get? b=some o->H b=none->h'.get? b=some o)
 (slot:∀ b o,b≠X.env.locals->b∈X.fs->b∉ch->s.heap.get? b=some o->H b=none->∃ sl,h'.get? b=some { o with slots:=sl}) (free:∀ b o,b∉ch->s.heap.get? b=some o->H b=none->H' b=none)
 (there:∀ b o,b∉ch->s.heap.get? b=some o->∃ o',h'.get? b=some o')
 (tups:∀ b xs,H b=some (.tup xs)->H' b=some (.tup xs)) (frzs:∀ b o u,H b=some (.frz o u)->H' b=some (.frz o u)) (tbls:∀ b ps,H b=some (.tbl ps)->∃ more,H' b=some (.tbl (ps++more)))
 (ns:∀ m,s.heap.Ns X.env.locals m->h'.Ns X.env.locals m) (hok:HOk X.prog X.w H' h') (hg:AllBare g') :
 Inv X pins σ H' { s with heap:=h',gens:=g',drawn:=d',toks:=t'}:=by
 have neL:∀ b o,X.s₀.heap.get? b=some o->b≠X.env.locals:=fun b o e=>ao (aA (gxN e) I.ok.above)
 have neC:∀ b o,X.s₀.heap.get? b=some o->b∉X.ex->b∉ch:=fun b o e hx hb=>by
  rcases(hch b hb).1 with z | z
  ·exact hx z
  ·exact absurd (aA (gxN e) z) (bu _)
 have cellK:∀ x c,X.env.cells.lookup x=some c->∀ v,s.heap.IsCell c v->h'.IsCell c v:=fun x c e v ⟨o,ho,hd⟩=>by
  have nch:c∉ch:=fun z=>(hch c z).2.2.1 x c e rfl
  by_cases hc:c∈X.fs
  ·obtain⟨sl,q⟩:=slot c o (I.cne x c e) hc nch ho (I.freeC x c e)
   exact⟨_,q,hd⟩
  ·exact⟨o,keep c o (I.cne x c e) hc nch ho (I.freeC x c e),hd⟩
 refine⟨I.ok,I.os,hg,⟨fun b o e n hb hx=>?_,fun b o e n hb hx=>?_,fun b o e n hx=>?_,fun b o e hx=>?_,fun b xs e=>tups b xs (I.base.tups b xs e),fun b o xs e=>frzs b o xs (I.base.frzs b o xs e),fun b ps e=>?_⟩,?_,fun x c e=>?_,?_,fun x c e=>?_,fun p hp=>?_,hok,I.len⟩
 ·exact keep b o (neL b o e) hb (neC b o e hx) (I.base.keep b o e n hb hx) (I.base.free b o e n hx)
 ·obtain⟨sl,e1⟩:=I.base.slot b o e n hb hx
  obtain⟨sl',e2⟩:=slot b _ (neL b o e) hb (neC b o e hx) e1 (I.base.free b o e n hx)
  exact⟨sl',e2⟩
 ·obtain⟨o',e1⟩:=I.base.there b o e hx
  exact free b o' (neC b o e hx) e1 (I.base.free b o e n hx)
 ·obtain⟨o',e1⟩:=I.base.there b o e hx
  exact there b o' (neC b o e hx) e1
 ·obtain⟨m1,e1⟩:=I.base.tbls b ps e
  obtain⟨m2,e2⟩:=tbls b _ e1
  exact⟨m1++m2,by rw[e2,Array.append_assoc]⟩
 ·obtain⟨m,hn,hl⟩:=I.loc
  refine⟨m,ns m hn,fun i x v e1 e2 e3=>?_⟩
  obtain⟨u,r,l⟩:=hl i x v e1 e2 e3
  refine⟨u,r,?_⟩
  rcases l with l | ⟨k,c,e,z⟩
  ·exact .inl l
  ·exact .inr ⟨k,c,e,cellK x c e _ z⟩
 ·obtain⟨v,z⟩:=I.cell x c e
  exact⟨v,cellK x c e v z⟩
 ·obtain⟨m,⟨o,_,_,ho,_⟩,_⟩:=I.loc
  exact free _ o (fun z=>(hch _ z).2.1 rfl) ho I.free
 ·obtain⟨v,o,ho,hd⟩:=I.cell x c e
  exact free c o (fun z=>(hch c z).2.2.1 x c e rfl) ho (I.freeC x c e)
 ·obtain⟨e,n,ne,nf,d⟩:=I.pin p hp
  have nch:p.1∉ch:=fun z=>(hch p.1 z).2.2.2 p hp rfl
  exact⟨keep p.1 p.2 ne nf nch e n,free p.1 p.2 nch e n,ne,nf,d⟩
theorem Inv.un {t':Nat}(I:Inv X pins σ H s)(u:Un X.fs [] H H' s.heap h')(hok:HOk X.prog X.w H' h'):Inv X pins σ H' { s with heap:=h',toks:=t'}:=by
 obtain⟨m,⟨o,es,ep,ho,r⟩,_⟩:=id I.loc
 obtain⟨sl,hL⟩:=u.any ho I.free (by simp)
 exact I.step (g':=s.gens) (d':=s.drawn) (ch:=[]) (fun _ z=>nomatch z) (fun b o _ hb _ e n=>u.keep b o e n hb (by simp)) (fun b o _ hb _ e n=>u.slot b o e n hb (by simp)) (fun b o _ e n=>u.free b o e n (by simp)) (fun b o _ e=>u.there b o e (by simp)) u.tups u.frzs u.tbls (fun m' hm=>by
  obtain⟨o',es',ep',ho',r'⟩:=hm
  rw[ho]at ho';cases ho'
  exact⟨_,es',ep',hL,r'⟩) hok I.bare
theorem Inv.call {g':Array GenState}{t':Nat}{d':Drawn}{ch:List Addr}(I:Inv X pins σ H s)(u:Un (frs X.stack) ch H H' s.heap h')(hok:HOk X.prog X.w H' h')(hg:AllBare g')
 (hch:∀ b∈ch,(b∈X.ex\/X.s₀.heap.objs.size<=b)/\b≠X.env.locals/\(∀ x c,X.env.cells.lookup x=some c->c≠b)/\∀ p∈X.pn++pins,p.1≠b) :
 Inv X pins σ H' { s with heap:=h',gens:=g',drawn:=d',toks:=t'}:=by
 obtain⟨m,⟨o,es,ep,ho,r⟩,_⟩:=id I.loc
 obtain⟨sl,hL⟩:=u.any ho I.free fun z=>(hch _ z).2.1 rfl
 exact I.step (ch:=ch) hch (fun b o hL hb hc e n=>u.keep b o e n (fun z=>(List.mem_cons.mp (I.stkSub b z)).elim hL hb) hc) (fun b o _ _ hc e n=>u.any e n hc) (fun b o hc e n=>u.free b o e n hc) (fun b o hc e=>u.there b o e hc) u.tups u.frzs u.tbls (fun m' hm=>by
  obtain⟨o',es',ep',ho',r'⟩:=hm
  rw[ho]at ho';cases ho'
  exact⟨_,es',ep',hL,r'⟩) hok hg
theorem Inv.turned {t':Nat}{it:Addr}(I:Inv X pins σ H s)(k:∀ b o,b≠it->s.heap.get? b=some o->h'.get? b=some o)(hn:H it=none)(hL:it≠X.env.locals)
 (h1:it∈X.ex\/X.s₀.heap.objs.size<=it) (h2:∀ x c,X.env.cells.lookup x=some c->c≠it) (h3:∀ p∈X.pn++pins,p.1≠it):Inv X pins σ H { s with heap:=h',toks:=t'}:=by
 have nit:∀ b u,H b=some u->b≠it:=fun b u e z=>by rw[z,hn]at e;cases e
 refine I.step (g':=s.gens) (d':=s.drawn) (ch:=[it]) (fun b hb=>?_) (fun b o _ _ hc e _=>k b o (fun z=>hc (by simp[z])) e) (fun b o _ _ hc e _=>⟨o.slots,k b o (fun z=>hc (by simp[z])) e⟩) (fun _ _ _ _ n=>n)
  (fun b o hc e=>⟨o,k b o (fun z=>hc (by simp[z])) e⟩) (fun _ _ e=>e) (fun _ _ _ e=>e) (fun b ps e=>⟨#[],by rw[e];simp⟩) (fun m hm=>?_) (fun b u e=>?_) I.bare
 ·have e:b=it:=by simpa using hb
  subst e
  exact⟨h1,hL,h2,h3⟩
 ·obtain⟨o,es,ep,ho,r⟩:=hm
  exact⟨o,es,ep,k _ o (aO hL) ho,r⟩
 ·refine(I.hok b u e).stay (fun c v hc q=>k c v ?_ q) (fun _ q=>q) fun _ _ q=>q
  rcases hc with z | z
  ·rw[z];exact nit b u e
  ·exact nit c _ z
theorem Inv.tok (I:Inv X pins σ H s)(t:Nat):Inv X pins σ H { s with toks:=t}:=I.un (h':=s.heap) (t':=t) Un.refl I.hok
theorem Inv.kept {t':Nat}(I:Inv X pins σ H s)(k:∀ b u,s.heap.get? b=some u->h'.get? b=some u):Inv X pins σ H { s with heap:=h',toks:=t'}:=I.un (Un.kept k) (I.hok.kept k)
theorem Inv.laid {a:Addr}{o:HO}{t':Nat}(I:Inv X pins σ H s)(k:∀ b u,s.heap.get? b=some u->h'.get? b=some u)(hp:s.heap.objs.size<=a)(new:ObjOk X.prog X.w (upd H a o) h' a o) :
 Inv X pins σ (upd H a o) { s with heap:=h',toks:=t'}:=I.un (Un.laid k hp (I.hok.fresh hp)) (I.hok.laid k hp new)
theorem Inv.write {x e:Addr}{o:HO}{t':Nat}(I:Inv X pins σ H s)(mu:Mut (H x))(he:e=x\/H e=some (.own x))(k:∀ b u,b≠e->s.heap.get? b=some u->h'.get? b=some u)(heo:∃ u,h'.get? e=some u)
 (new:ObjOk X.prog X.w (upd H x o) h' x o):Inv X pins σ (upd H x o) { s with heap:=h',toks:=t'}:=I.un (Un.write mu he k heo) (I.hok.write mu he k heo new)
theorem Inv.weak {σ':List (Option V)}(I:Inv X pins σ H s)(hl:σ'.length=σ.length)(w:∀(i:Nat) v,σ'[i]?=some (some v)->σ[i]?=some (some v)):Inv X pins σ' H s :=
 ⟨I.ok,I.os,I.bare,I.base,let ⟨m,hn,hl'⟩:=I.loc;⟨m,hn,fun i x v e1 e2 e3=>hl' i x v e1 (w i v e2) e3⟩,I.cell,I.free,I.freeC,I.pin,I.hok,hl.trans I.len⟩
theorem Inv.pins_of {pins':List (Addr×Obj)}(I:Inv X pins σ H s)(h:∀ p∈pins',s.heap.get? p.1=some p.2/\H p.1=none/\p.1≠X.env.locals/\p.1∉X.fs/\∀ v,p.2.data≠.cell v):Inv X pins' σ H s :=
 ⟨I.ok,I.os,I.bare,I.base,I.loc,I.cell,I.free,I.freeC,fun p hp=>(List.mem_append.mp hp).elim (fun z=>I.pin p (bF _ z)) (h p),I.hok,I.len⟩
theorem nodup_ix {N:List Str}(hN:N.Nodup){i j:Nat}{x:Str}(a:N[i]?=some x)(b:N[j]?=some x):i=j:=by
 obtain⟨h1,e1⟩:=gxB a
 obtain⟨h2,e2⟩:=gxB b
 exact(List.getElem_inj hN).mp (e1.trans e2.symm)
theorem store_ok2 {M:Model}{A:Around}{E:Value->Shared->Prop}{i:Nat}{x:Str}{v:V}{u:Value}{Q:Unit->Shared->Prop}(I:Inv X pins σ H s)(hN:X.N.Nodup)(hi:X.N[i]?=some x)(hx:Loc X.env.scope x)(r:RelV v u)
 (h:∀ s',Inv X pins (σ.set i (some v)) H s'->(∃ a,Heap.SameBut a s.heap s'.heap/\(a=X.env.locals\/X.env.cells.lookup x=some a))->Q () s') (hf:X.fn x=true\/X.env.scope.names.lookup x=some .local:=by first | exact .inl rfl | exact .inr rfl | assumption):wpAny M A (storeName X.env x u) Q E s:=by
 obtain⟨m,hn,hl⟩:=id I.loc
 have hcls:(X.env.scope.kind==.class||(X.env.scope.kind==.module&&X.env.locals != X.env.globals))=false:=by rw[I.ok.kind];rfl
 have hiσ:i<σ.length:=by rw[I.len];exact(gxB hi).1
 have cne:=I.cne
 have tracked:∀ {a:Addr} {h':Heap},(∃ o,s.heap.get? a=some o/\H a=none)->Heap.SameBut a s.heap h'->HOk X.prog X.w H h':=fun {a h'} ha hs b ob e=>by
  obtain⟨_,_,hfree⟩:=ha
  refine(I.hok b ob e).stay (fun c w' hc q=>(hs.2 c ?_).trans q) (fun _ q=>q) fun _ _ q=>q
  rintro rfl
  rcases hc with rfl | hc
  ·rw[hfree]at e;cases e
  ·rw[hfree]at hc;cases hc
 rcases hx with hk | hk
 ·refine wpAny_storeName_local hk hn (fun h' hn' hs=>?_) hcls
  obtain⟨oL,_,_,hoL,_⟩:=id hn
  refine h _ ⟨I.ok,I.os,I.bare,⟨fun b o e n hb hx=>?_,fun b o e n hb hx=>?_,I.base.free,fun b o e hx=>?_,I.base.tups,I.base.frzs,I.base.tbls⟩,⟨_,hn',fun j y v' e1 e2 e3=>?_⟩,fun y c e=>?_,I.free,I.freeC,fun p hp=>?_,tracked ⟨oL,hoL,I.free⟩ hs,by simpa using I.len⟩ ⟨_,hs,.inl rfl⟩
  ·exact(hs.2 b (ao (aA (gxN e) I.ok.above))).trans (I.base.keep b o e n hb hx)
  ·obtain⟨sl,e1⟩:=I.base.slot b o e n hb hx
   exact⟨sl,(hs.2 b (ao (aA (gxN e) I.ok.above))).trans e1⟩
  ·obtain⟨o',e1⟩:=I.base.there b o e hx
   exact⟨o',(hs.2 b (ao (aA (gxN e) I.ok.above))).trans e1⟩
  ·by_cases hj:j=i
   ·subst hj
    rw[hi]at e1;cases e1
    rw[aw hiσ]at e2
    cases e2
    exact⟨u,r,.inl ⟨hk,by simp⟩⟩
   ·rw[ah (aO hj)]at e2
    obtain⟨u',r',q⟩:=hl j y v' e1 e2 e3
    refine⟨u',r',?_⟩
    rcases q with⟨k,e⟩ | ⟨k,c,e,z⟩
    ·refine .inl ⟨k,?_⟩
     have:y≠x:=fun e=>hj (nodup_ix hN e1 (e▸hi))
     simp[this,e]
    ·exact .inr ⟨k,c,e,z.sameBut hs (cne y c e)⟩
  ·obtain⟨w',z⟩:=I.cell y c e
   exact⟨w',z.sameBut hs (cne y c e)⟩
  ·obtain⟨e,n,ne,nf,d⟩:=I.pin p hp
   exact⟨(hs.2 p.1 ne).trans e,n,ne,nf,d⟩
 ·have hfn:X.fn x=true:=by
   rcases hf with z | z
   ·exact z
   ·rw[z]at hk;cases hk
  obtain⟨c,hc⟩:=I.ok.has x (.inl hk)
  obtain⟨w',z⟩:=I.cell x c hc
  refine wpAny_storeName_cell I.ok.kind hk hc z (fun h' hc' hs=>?_)
  obtain⟨oc,hoc,hocd⟩:=id z
  refine h { s with heap:=h'} ⟨I.ok,I.os,I.bare,⟨fun b o e n hb hx=>?_,fun b o e n hb hx=>?_,I.base.free,fun b o e hx=>?_,I.base.tups,I.base.frzs,I.base.tbls⟩,⟨m,hn.sameBut hs (aO (cne x c hc)),fun j y v' e1 e2 e3=>?_⟩,fun y c' e=>?_,I.free,I.freeC,fun p hp=>?_,tracked ⟨oc,hoc,I.freeC x c hc⟩ hs,by simpa using I.len⟩ ⟨c,hs,.inr hc⟩
  ·exact(hs.2 b (ao (aA (gxN e) (I.ok.cab x c hfn hc)))).trans (I.base.keep b o e n hb hx)
  ·obtain⟨sl,e1⟩:=I.base.slot b o e n hb hx
   exact⟨sl,(hs.2 b (ao (aA (gxN e) (I.ok.cab x c hfn hc)))).trans e1⟩
  ·obtain⟨o',e1⟩:=I.base.there b o e hx
   exact⟨o',(hs.2 b (ao (aA (gxN e) (I.ok.cab x c hfn hc)))).trans e1⟩
  ·by_cases hj:j=i
   ·subst hj
    rw[hi]at e1;cases e1
    rw[aw hiσ]at e2
    cases e2
    exact⟨u,r,.inr ⟨.inl hk,c,hc,hc'⟩⟩
   ·rw[ah (aO hj)]at e2
    obtain⟨u',r',q⟩:=hl j y v' e1 e2 e3
    refine⟨u',r',?_⟩
    rcases q with q | ⟨k,c',e,z'⟩
    ·exact .inl q
    ·refine .inr ⟨k,c',e,z'.sameBut hs ?_⟩
     rintro rfl
     exact hj (nodup_ix hN e1 (I.ok.inj _ _ _ e hc▸hi))
  ·by_cases hcc:c'=c
   ·subst hcc;exact⟨_,hc'⟩
   ·obtain⟨w2,z2⟩:=I.cell y c' e
    exact⟨w2,z2.sameBut hs hcc⟩
  ·obtain⟨e,n,ne,nf,d⟩:=I.pin p hp
   refine⟨(hs.2 p.1 ?_).trans e,n,ne,nf,d⟩
   intro q
   rw[q,hoc]at e
   have q':oc=p.2:=aI e
   exact d w' (by rw[<- q'];exact hocd)
theorem store_ok {M:Model}{A:Around}{E:Value->Shared->Prop}{i:Nat}{x:Str}{v:V}{u:Value}{Q:Unit->Shared->Prop}(I:Inv X pins σ H s)(hN:X.N.Nodup)(hi:X.N[i]?=some x)(hx:Loc X.env.scope x)(r:RelV v u)
 (h:∀ s',Inv X pins (σ.set i (some v)) H s'->Q () s') (hf:X.fn x=true\/X.env.scope.names.lookup x=some .local:=by first | exact .inl rfl | exact .inr rfl | assumption):wpAny M A (storeName X.env x u) Q E s :=
 store_ok2 I hN hi hx r (fun s' I' _=>h s' I') hf
theorem Inv.call' {s':Shared}{ch:List Addr}(I:Inv X pins σ H s)(ho:s'.os=s.os)(u:Un (frs X.stack) ch H H' s.heap s'.heap)(hok:HOk X.prog X.w H' s'.heap)(hg:AllBare s'.gens)
 (hch:∀ b∈ch,(b∈X.ex\/X.s₀.heap.objs.size<=b)/\b≠X.env.locals/\(∀ x c,X.env.cells.lookup x=some c->c≠b)/\∀ p∈X.pn++pins,p.1≠b):Inv X pins σ H' s':=by
 obtain⟨h',g',d',t',o'⟩:=s'
 have e:o'=s.os:=ho
 subst e
 exact I.call (g':=g') (t':=t') (d':=d') u hok hg hch
end
abbrev XK:=Value->Option Addr->Hp->Prop
abbrev St:=List (Option V)
abbrev VK:=V->Hp->Prop
abbrev TE:=St->Hp->VK->Prop
abbrev TT:=St->Hp->(Bool->Hp->Prop)->Prop
abbrev TA:=St->Hp->(List V->Hp->Prop)->Prop
structure Ends where
 nx:St->Hp->Prop
 rt:VK
 bk:St->Hp->Prop:=fun _ _=>False
 ct:St->Hp->Prop:=fun _ _=>False
abbrev TS:=Ends->St->Hp->Prop
def EP (X:Cx)(pins:List (Addr×Obj))(σ:St)(Q:VK)(u:Value)(s':Shared):Prop:=∃ v H',Inv X pins σ H' s'/\RelV v u/\Q v H'
def TP (X:Cx)(pins:List (Addr×Obj))(σ:St)(Q:Bool->Hp->Prop)(b:Bool)(s':Shared):Prop:=∃ H',Inv X pins σ H' s'/\Q b H'
def AP (X:Cx)(pins:List (Addr×Obj))(σ:St)(Q:List V->Hp->Prop)(us:List Value)(s':Shared):Prop:=∃ vs H',Inv X pins σ H' s'/\Vals vs us/\Q vs H'
def SP (X:Cx)(pins:List (Addr×Obj))(D:Ends)(f:Flow)(s':Shared):Prop :=
 match f with
 | .next=>∃ σ' H',Inv X pins σ' H' s'/\D.nx σ' H'
 | .brk=>∃ σ' H',Inv X pins σ' H' s'/\D.bk σ' H'
 | .cont=>∃ σ' H',Inv X pins σ' H' s'/\D.ct σ' H'
 | .ret u=>∃ v σ' H',Inv X pins σ' H' s'/\RelV v u/\D.rt v H'
def PE (X:Cx)(e:Expr)(t:TE):Prop :=
 ∀(pins:List (Addr×Obj)) (s:Shared) (σ:St) (H:Hp) (Q:VK),Inv X pins σ H s->t σ H Q->wpAny (model X.prog X.w) X.A (eval e X.env) (EP X pins σ Q) X.xe s
def PT (X:Cx)(e:Expr)(t:TT):Prop :=
 ∀(pins:List (Addr×Obj)) (s:Shared) (σ:St) (H:Hp) (Q:Bool->Hp->Prop),Inv X pins σ H s->t σ H Q->wpAny (model X.prog X.w) X.A (isTrue e X.env (eval e X.env)) (TP X pins σ Q) X.xe s
def PW (X:Cx)(e:Expr)(t:TT):Prop :=
 ∀(whole:Sem Value) (pins:List (Addr×Obj)) (s:Shared) (σ:St) (H:Hp) (Q:Bool->Hp->Prop),Inv X pins σ H s->t σ H Q->wpAny (model X.prog X.w) X.A (isTrue e X.env whole) (TP X pins σ Q) X.xe s
theorem PW.pt {X:Cx}{e:Expr}{t:TT}(h:PW X e t):PT X e t:=h _
def PA (X:Cx)(es:List Expr)(t:TA):Prop :=
 ∀(pos:Pos) (pins:List (Addr×Obj)) (s:Shared) (σ:St) (H:Hp) (Q:List V->Hp->Prop),Inv X pins σ H s->t σ H Q->wpAny (model X.prog X.w) X.A (spliced (backTo pos (starEach es X.env))) (AP X pins σ Q) X.xe s
def PS (X:Cx)(st:Stmt)(t:TS):Prop :=
 ∀(pins:List (Addr×Obj)) (s:Shared) (σ:St) (H:Hp) (D:Ends),Inv X pins σ H s->t D σ H->wpAny (model X.prog X.w) X.A (exec st X.env) (SP X pins D) X.xe s
def PSs (X:Cx)(st:List Stmt)(t:TS):Prop :=
 ∀(pins:List (Addr×Obj)) (s:Shared) (σ:St) (H:Hp) (D:Ends),Inv X pins σ H s->t D σ H->wpAny (model X.prog X.w) X.A (execs st X.env) (SP X pins D) X.xe s
theorem thn {α:Type}{t:Sem α}{Q Q':α->Shared->Prop}{M:Model}{A:Around}{E:Value->Shared->Prop}{s:Shared}(h:wpAny M A t Q E s)(hQ:∀ a s,Q a s->Q' a s):wpAny M A t Q' E s:=a9 h hQ fun _ _ x=>x
section
variable {X:Cx}
theorem bin {a b:Expr}{ta tb:TE}(ha:PE X a ta)(hb:PE X b tb){pins:List (Addr×Obj)}{s:Shared}{σ:St}{H:Hp}{R:V->V->Hp->Prop}(I:Inv X pins σ H s)(h:ta σ H fun x H1=>tb σ H1 fun y H2=>R x y H2)
 {α:Type} {Q:α->Shared->Prop} {f:Value->Value->Sem α}
 (hf:∀ v u s2 x y H2,Inv X pins σ H2 s2->RelV x v->RelV y u->R x y H2->wpAny (model X.prog X.w) X.A (f v u) Q X.xe s2) :
 wpAny (model X.prog X.w) X.A (eval a X.env) (fun v s₁=>wpAny (model X.prog X.w) X.A (eval b X.env) (fun u s₂=>wpAny (model X.prog X.w) X.A (f v u) Q X.xe s₂) X.xe s₁) X.xe s:=by
 refine thn (ha pins s σ H _ I h) fun v s1 hq2=>?_
 obtain⟨x,H1,I1,r1,q1⟩:=hq2
 refine thn (hb pins s1 σ H1 _ I1 q1) fun u s2 hq3=>?_
 obtain⟨y,H2,I2,r2,q2⟩:=hq3
 exact hf v u s2 x y H2 I2 r1 r2 q2
def tVar (i:Nat):TE:=fun σ H Q=>∃ v,σ[i]?=some (some v)/\Q v H
def tC (v:V):TE:=fun _ H Q=>Q v H
theorem pe_var {i:Nat}{x:Str}{pos:Pos}(hN:X.N[i]?=some x)(hv:Vis X.env.scope x)(hd:(x==("__debug__" : Str))=false:=by decide)(hcd:(x==("__classdict__" : Str))=false:=by decide):PE X (.Name x pos) (tVar i):=by
 intro pins s σ H Q I h
 obtain⟨v,e,h⟩:=h
 obtain⟨m,hn,hl⟩:=I.loc
 obtain⟨u,r,l⟩:=hl i x v hN e hv
 have fin:EP X pins σ Q u s:=⟨v,H,I,r,h⟩
 rcases l with⟨hk,hm⟩ | ⟨hk,c,hc,hcell⟩
 ·exact wpAny_Name (wpAny_loadName_local I.ok.kind hk hn hm fin) hd
 ·rcases hk with hk | hk
  ·exact wpAny_Name (wpAny_loadName_cell I.ok.kind hk hc hcell fin) hd
  ·exact wpAny_Name (wpAny_loadName_free I.ok.kind hk hc hcell fin hcd) hd
theorem pe_int {i j pos}:PE X (.Constant (.int i) j pos) (tC (.int i)):=fun _ _ _ H _ I h=>wpAny_Constant_int ⟨.int i,H,I.tok _,⟨_,rfl⟩,h⟩
theorem pe_bl {b j pos}:PE X (.Constant (.bool b) j pos) (tC (.bl b)):=fun _ _ _ H _ I h=>Constant_bool ⟨.bl b,H,I,rfl,h⟩
theorem pe_non {j pos}:PE X (.Constant .none j pos) (tC .non):=fun _ _ _ H _ I h=>Constant_none ⟨.non,H,I,rfl,h⟩
theorem pe_str {x j pos}:PE X (.Constant (.str x) j pos) (tC (.str x)):=fun _ _ _ H _ I h=>Calls.Constant_str ⟨.str x,H,I.tok _,⟨_,rfl⟩,h⟩
def Gl (X:Cx)(x:Str):Prop:=X.env.kindOf x=some .globalImplicit
theorem ld_glob {E:Value->Shared->Prop}{pins:List (Addr×Obj)}{s:Shared}{σ:St}{H:Hp}{x:Str}{u:Value}{pos:Pos}{Q:Value->Shared->Prop}(I:Inv X pins σ H s)(hg:Gl X x)(hm:X.mg x=some u)(h:Q u s)
 (hd:(x==("__debug__" : Str))=false:=by decide):wpAny (model X.prog X.w) X.A (eval (.Name x pos) X.env) Q E s :=
 Calls.Name_function_global I.ok.kind hg (Calls.loadGlobal_global (by rw[I.ok.glob];exact I.mod.glob.keeps I.bk) hm h) hd
theorem ld_blt {E:Value->Shared->Prop}{pins:List (Addr×Obj)}{s:Shared}{σ:St}{H:Hp}{x:Str}{u:Value}{pos:Pos}{Q:Value->Shared->Prop}(I:Inv X pins σ H s)(hg:Gl X x)(hm:X.mg x=none)(hv:bootBuiltins x=some u)(h:Q u s)
 (hn:x ≠ "__name__":=by decide) (hd:(x==("__debug__" : Str))=false:=by decide):wpAny (model X.prog X.w) X.A (eval (.Name x pos) X.env) Q E s:=by
 obtain⟨mb,h1,h2⟩:=I.mod.blt
 exact Calls.Name_function_global I.ok.kind hg (Calls.loadGlobal_builtin (by rw[I.ok.glob];exact I.mod.glob.keeps I.bk) hm (by rw[I.ok.blt];exact h1.keeps I.bk) ((h2 x hn).trans hv) h) hd
theorem pe_glob {x:Str}{v:V}{u:Value}{pos:Pos}(hg:Gl X x)(hm:X.mg x=some u)(r:RelV v u)(hd:(x==("__debug__" : Str))=false:=by decide):PE X (.Name x pos) (tC v) :=
 fun _ _ _ H _ I h=>ld_glob I hg hm ⟨v,H,I,r,h⟩ hd
theorem pe_bltn {x:Str}{v:V}{u:Value}{pos:Pos}(hg:Gl X x)(hm:X.mg x=none)(hv:bootBuiltins x=some u)(r:RelV v u)(hn:x ≠ "__name__":=by decide)(hd:(x==("__debug__" : Str))=false:=by decide):PE X (.Name x pos) (tC v) :=
 fun _ _ _ H _ I h=>ld_blt I hg hm hv ⟨v,H,I,r,h⟩ hn hd
variable {a b:Expr}{ta tb:TE}{pos:Pos}
def PC (X:Cx)(op:CmpOp)(a b:Expr)(t:TE):Prop :=
 ∀(pins:List (Addr×Obj)) (s:Shared) (σ:St) (H:Hp) (Q:VK),Inv X pins σ H s->t σ H Q ->
  wpAny (model X.prog X.w) X.A (eval a X.env) (fun v s₁=>wpAny (model X.prog X.w) X.A (eval b X.env) (fun u s₂=>wpAny (model X.prog X.w) X.A (compareOp op v u) (EP X pins σ Q) X.xe s₂) X.xe s₁) X.xe s
theorem nobehind (b:Expr){op:CmpOp}(h:op≠.In)(h2:op≠.NotIn):behindInMarks op b=false:=by
 have e1:(op==CmpOp.In)=false:=by cases op <;> first | rfl | exact absurd rfl h
 have e2:(op==CmpOp.NotIn)=false:=by cases op <;> first | rfl | exact absurd rfl h2
 cases b <;> simp[behindInMarks,e1,e2]
def tIsN (ta:TE):TE:=fun σ H Q=>ta σ H fun x H1=>Q (.bl (decide (x=.non))) H1
def tNotN (ta:TE):TE:=fun σ H Q=>ta σ H fun x H1=>Q (.bl (!decide (x=.non))) H1
theorem RelV.none_iff {x:V}{v:Value}(r:RelV x v):(v==Value.none)=decide (x=.non):=by
 cases x with
 | non=>cases r;rfl
 | bl _=>cases r;rfl
 | int _=>obtain⟨t,rfl⟩:=r;rfl
 | str _=>obtain⟨t,rfl⟩:=r;rfl
 | byt _=>obtain⟨t,rfl⟩:=r;rfl
 | flt _=>obtain⟨t,rfl⟩:=r;rfl
 | ref _=>cases r;rfl
 | ty _=>cases r;rfl
theorem pc_isN {j pos'}(ha:PE X a ta):PC X .Is a (.Constant .none j pos') (tIsN ta):=by
 intro pins s σ H Q I h
 refine thn (ha pins s σ H _ I h) fun v s1 hq4=>?_
 obtain⟨x,H1,I1,r1,q1⟩:=hq4
 exact Constant_none (is_none_gen ⟨.bl _,H1,I1,by rw[r1.none_iff];rfl,q1⟩)
theorem pc_notN {j pos'}(ha:PE X a ta):PC X .IsNot a (.Constant .none j pos') (tNotN ta):=by
 intro pins s σ H Q I h
 refine thn (ha pins s σ H _ I h) fun v s1 hq5=>?_
 obtain⟨x,H1,I1,r1,q1⟩:=hq5
 exact Constant_none (isnot_none_gen ⟨.bl _,H1,I1,by rw[r1.none_iff];rfl,q1⟩)
def tB (t:TE):TT:=fun σ H Q=>t σ H fun x H1=>∃ c,x=.bl c/\Q c H1
theorem pe_cmp {op:CmpOp}{t:TE}(h:PC X op a b t)(h1:behindInMarks op b=false:=by first | exact nobehind _ (by decide) (by decide) | rfl):PE X (.Compare a [op] [b] pos) t:=fun pins s σ H Q I hw=>wpAny_Compare1 (h pins s σ H Q I hw) h1
theorem pt_cmp {op:CmpOp}{t:TE}(h:PC X op a b t)(h1:behindInMarks op b=false:=by first | exact nobehind _ (by decide) (by decide) | rfl):PT X (.Compare a [op] [b] pos) (tB t):=by
 intro pins s σ H Q I hw
 refine wpAny_isTrue_Compare1 (thn (h pins s σ H _ I hw) fun v s1 h1=>thn h1 fun u s2 h2=>thn h2 fun c s3 hq6=>?_) h1
 obtain⟨x,H1,I1,r1,q1⟩:=hq6
 obtain⟨d,rfl,q⟩:=q1
 cases r1
 exact bG ⟨H1,I1,q⟩
variable {tA tB':TT}{rest:List Expr}
def tAnd (t u:TT):TT:=fun σ H Q=>t σ H fun c H1=>if c=true then u σ H1 Q else Q false H1
def tOr (t u:TT):TT:=fun σ H Q=>t σ H fun c H1=>if c=true then Q true H1 else u σ H1 Q
def tNot (t:TT):TT:=fun σ H Q=>t σ H fun c H1=>Q (!c) H1
theorem pw_and1 (ha:PT X a tA):PW X (.BoolOp .And [a] pos) tA:=by
 intro wh pins s σ H Q I h
 refine isTrue_and (thn (ha pins s σ H Q I h) fun c s1 e=>?_)
 cases c with
 | true=>exact isTrue_and_nil e
 | false=>exact e
theorem pw_or1 (ha:PT X a tA):PW X (.BoolOp .Or [a] pos) tA:=by
 intro wh pins s σ H Q I h
 refine isTrue_or (thn (ha pins s σ H Q I h) fun c s1 e=>?_)
 cases c with
 | false=>exact isTrue_or_nil e
 | true=>exact e
theorem pw_and (ha:PT X a tA)(hb:PW X (.BoolOp .And (b::rest) pos) tB'):PW X (.BoolOp .And (a::b::rest) pos) (tAnd tA tB'):=by
 intro wh pins s σ H Q I h
 refine isTrue_and (thn (ha pins s σ H _ I h) fun c s1 hq0=>?_)
 obtain⟨H1,I1,q1⟩:=hq0
 cases c with
 | true=>exact hb wh pins s1 σ H1 Q I1 q1
 | false=>exact⟨H1,I1,q1⟩
theorem pw_or (ha:PT X a tA)(hb:PW X (.BoolOp .Or (b::rest) pos) tB'):PW X (.BoolOp .Or (a::b::rest) pos) (tOr tA tB'):=by
 intro wh pins s σ H Q I h
 refine isTrue_or (thn (ha pins s σ H _ I h) fun c s1 hq1=>?_)
 obtain⟨H1,I1,q1⟩:=hq1
 cases c with
 | true=>exact⟨H1,I1,q1⟩
 | false=>exact hb wh pins s1 σ H1 Q I1 q1
theorem pt_not (ha:PT X a tA):PT X (.UnaryOp .Not a pos) (tNot tA):=by
 intro pins s σ H Q I h
 exact isTrue_not (ha pins s σ H (fun c H1=>Q (!c) H1) I h)
theorem pe_one {op}{t:TE}(h:PE X a t):PE X (.BoolOp op [a] pos) t:=fun pins s σ H Q I hw=>BoolOp_one (h pins s σ H Q I hw)
def tIf (t:TT)(ta tb:TE):TE:=fun σ H Q=>t σ H fun c H1=>if c=true then ta σ H1 Q else tb σ H1 Q
theorem pe_ifExp {c:Expr}(hc:PT X c tA)(ha:PE X a ta)(hb:PE X b tb):PE X (.IfExp c a b pos) (tIf tA ta tb):=by
 intro pins s σ H Q I h
 refine wpAny_IfExp (thn (hc pins s σ H _ I h) fun d s1 hq2=>?_)
 obtain⟨H1,I1,q1⟩:=hq2
 cases d with
 | true=>exact ha pins s1 σ H1 Q I1 q1
 | false=>exact hb pins s1 σ H1 Q I1 q1
end
def SqL (K:PySem.W.Frag)(H:Hp)(a:Addr)(xs:List V):Prop :=
 Rd H a (.lst xs) \/
  ∃(o:Obj) (its:Array Value) (n:Nat),K.lookup a=some o/\o.cls=.type "list"/\o.dict=none/\o.data=.seq its n/\its.size<=sizeLine/\Vals xs its.toList
def SqT (K:PySem.W.Frag)(H:Hp)(a:Addr)(xs:List V):Prop :=
 Rd H a (.tup xs) \/
  ∃(o:Obj) (its:Array Value) (n:Nat),K.lookup a=some o/\o.cls=.type "tuple"/\o.data=.seq its n/\its.size<=sizeLine/\Vals xs its.toList
def absV:Value->Option V
 | .none=>some .non
 | .bool b=>some (.bl b)
 | .int i _=>some (.int i)
 | .str x _=>some (.str x)
 | .bytes b _=>some (.byt b)
 | .float b _=>some (.flt b)
 | .ref a=>some (.ref a)
 | .type n=>some (.ty n)
 | _=>none
theorem RelV.abs {x:V}{u:Value}(r:RelV x u):absV u=some x:=by
 cases x with
 | non=>cases r;rfl
 | bl _=>cases r;rfl
 | int _=>obtain⟨t,rfl⟩:=r;rfl
 | str _=>obtain⟨t,rfl⟩:=r;rfl
 | byt _=>obtain⟨t,rfl⟩:=r;rfl
 | flt _=>obtain⟨t,rfl⟩:=r;rfl
 | ref _=>cases r;rfl
 | ty _=>cases r;rfl
theorem RelV.inj {x y:V}{u:Value}(r:RelV x u)(q:RelV y u):x=y:=aI (r.abs.symm.trans q.abs)
theorem Vals.inj {xs ys:List V}{us:List Value}(h:Vals xs us)(g:Vals ys us):xs=ys:=by
 induction h generalizing ys with
 | nil=>cases g;rfl
 | cons r t ih =>
  cases g with
  | cons r' t'=>rw[r.inj r',ih t']
section
variable {X:Cx}{pins:List (Addr×Obj)}{σ:St}{H:Hp}{s:Shared}{a:Addr}{xs ys:List V}
theorem SqL.of {K:PySem.W.Frag}(h:H a=some (.lst xs)):SqL K H a xs:=.inl (.inl h)
theorem SqT.of {K:PySem.W.Frag}(h:H a=some (.tup xs)):SqT K H a xs:=.inl (.inl h)
theorem Inv.list (I:Inv X pins σ H s)(h:SqL X.K H a xs):∃ its:List Value,Vals xs its/\PlainL s.heap a its.toArray/\xs.length<=sizeLine:=by
 rcases h with h | ⟨o,its,n,hk,hc,hd,hs,hz,r⟩
 ·obtain⟨z,its,n,r,e⟩:=h.ok I.hok
  exact⟨its,r,⟨_,n,e,rfl,rfl,rfl⟩,z⟩
 ·refine⟨its.toList,r,⟨o,n,I.kIn a o hk,hc,hd,by simpa using hs⟩,?_⟩
  have e:=r.length
  simp only[bQ]at e
  omega
theorem Inv.tuple (I:Inv X pins σ H s)(h:SqT X.K H a xs):∃ its:List Value,Vals xs its/\IsTup s.heap a its.toArray/\xs.length<=sizeLine:=by
 rcases h with h | ⟨o,its,n,hk,hc,hs,hz,r⟩
 ·obtain⟨z,its,r,p⟩:=h.ok I.hok
  exact⟨its,r,p,z⟩
 ·refine⟨its.toList,r,⟨o,I.kIn a o hk,hc,n,by simpa using hs⟩,?_⟩
  have e:=r.length
  simp only[bQ]at e
  omega
theorem Inv.list_inj (I:Inv X pins σ H s)(h:SqL X.K H a xs)(h':SqL X.K H a ys):xs=ys:=by
 obtain⟨its,r,⟨o,n,e,_,_,d⟩,_⟩:=I.list h
 obtain⟨its',r',⟨o',n',e',_,_,d'⟩,_⟩:=I.list h'
 rw[e]at e';cases e'
 rw[d]at d'
 injection d' with d1 _
 have:its=its':=by simpa using bO Array.toList d1
 subst this
 exact r.inj r'
end
abbrev Cx.wish (X:Cx)(E:Value->Shared->Prop):Cx:={ X with xe:=E}
abbrev Cx.nox (X:Cx):Cx:=X.wish fun _ _=>False
theorem Cx.Ok.wish {X:Cx}(ok:X.Ok)(E:Value->Shared->Prop):(X.wish E).Ok :=
 ⟨ok.mod,ok.kind,ok.glob,ok.blt,ok.above,ok.inj,ok.has,ok.cab,ok.hd,ok.frames,ok.stk,ok.exf,ok.bs,ok.bsz,ok.noex,ok.exfs,ok.funs,ok.frf⟩
theorem Cx.Ok.unwish {X:Cx}{E:Value->Shared->Prop}(ok:(X.wish E).Ok):X.Ok :=
 ⟨ok.mod,ok.kind,ok.glob,ok.blt,ok.above,ok.inj,ok.has,ok.cab,ok.hd,ok.frames,ok.stk,ok.exf,ok.bs,ok.bsz,ok.noex,ok.exfs,ok.funs,ok.frf⟩
section
variable {X:Cx}{pins:List (Addr×Obj)}{σ:St}{H:Hp}{s:Shared}{E:Value->Shared->Prop}
theorem Inv.wish (I:Inv X pins σ H s)(E:Value->Shared->Prop):Inv (X.wish E) pins σ H s:=⟨I.ok.wish E,I.os,I.bare,I.base,I.loc,I.cell,I.free,I.freeC,I.pin,I.hok,I.len⟩
theorem Inv.unwish (I:Inv (X.wish E) pins σ H s):Inv X pins σ H s:=⟨I.ok.unwish,I.os,I.bare,I.base,I.loc,I.cell,I.free,I.freeC,I.pin,I.hok,I.len⟩
theorem SP.unwish {D:Ends}{f:Flow}{s':Shared}(h:SP (X.wish E) pins D f s'):SP X pins D f s':=by
 cases f with
 | next=>obtain⟨σ',H',I,q⟩:=h;exact⟨σ',H',I.unwish,q⟩
 | brk=>obtain⟨σ',H',I,q⟩:=h;exact⟨σ',H',I.unwish,q⟩
 | cont=>obtain⟨σ',H',I,q⟩:=h;exact⟨σ',H',I.unwish,q⟩
 | ret u=>obtain⟨v,σ',H',I,r,q⟩:=h;exact⟨v,σ',H',I.unwish,r,q⟩
theorem PSs.nox {st:List Stmt}{t:TS}(h:PSs X.nox st t):PSs X st t:=fun pins s σ H D I hw =>
 a9 (h pins s σ H D (I.wish _) hw) (fun _ _ q=>q.unwish) fun _ _ z=>False.elim z
end
section
variable {X:Cx}{st:Stmt}{rest:List Stmt}{t u:TS}{e:Expr}{te:TE}{pos:Pos}
def tNext:TS:=fun D σ H=>D.nx σ H
def tSeq (t u:TS):TS:=fun D σ H=>t { D with nx:=u D} σ H
theorem pss_nil:PSs X [] tNext:=fun _ _ σ H _ I h=>cK ⟨σ,H,I,h⟩
theorem pss_cons (h1:PS X st t)(h2:PSs X rest u):PSs X (st::rest) (tSeq t u):=by
 intro pins s σ H D I h
 refine wpAny_execs_cons (thn (h1 pins s σ H { D with nx:=u D} I h) fun f s1 q=>?_)
 cases f with
 | next =>
  obtain⟨σ',H',I',q⟩:=q
  exact h2 pins s1 σ' H' D I' q
 | ret v=>exact q
 | brk=>exact q
 | cont=>exact q
theorem pss_one (h1:PS X st t):PSs X [st] t:=by
 intro pins s σ H D I h
 refine wpAny_execs_cons (thn (h1 pins s σ H D I h) fun f s1 q=>?_)
 cases f with
 | next=>exact cK q
 | ret v=>exact q
 | brk=>exact q
 | cont=>exact q
theorem Inv.quiet {pins:List (Addr×Obj)}{σ:St}{H:Hp}{s:Shared}(I:Inv X pins σ H s):interactive X.env=false:=by simp[interactive,I.ok.kind]
def tDrop (te:TE):TS:=fun D σ H=>te σ H fun _ H1=>D.nx σ H1
theorem ps_expr (he:PE X e te)(hs:swapsWith e none pos.line X.env=pure false:=by rfl):PS X (.Expr e pos) (tDrop te):=by
 intro pins s σ H D I h
 exact wpAny_Expr_any (thn (he pins s σ H _ I h) fun v s1 hq3=>by obtain⟨x,H1,I1,r1,q1⟩:=hq3;exact⟨σ,H1,I1,q1⟩) I.quiet hs
def tRet (te:TE):TS:=fun D σ H=>te σ H D.rt
theorem ps_ret (he:PE X e te):PS X (.Return (some e) pos) (tRet te):=by
 intro pins s σ H D I h
 exact wpAny_Return_some (thn (he pins s σ H _ I h) fun v s1 hq4=>by obtain⟨x,H1,I1,r1,q1⟩:=hq4;exact⟨x,σ,H1,I1,r1,q1⟩)
def tIfS (c:TT)(t u:TS):TS:=fun D σ H=>c σ H fun b H1=>if b=true then t D σ H1 else u D σ H1
theorem ps_if {c:Expr}{a b:List Stmt}{tc:TT}(hc:PT X c tc)(ha:PSs X a t)(hb:PSs X b u):PS X (.If c a b pos) (tIfS tc t u):=by
 intro pins s σ H D I h
 refine wpAny_If (thn (hc pins s σ H _ I h) fun d s1 hq5=>?_)
 obtain⟨H1,I1,q1⟩:=hq5
 cases d with
 | true=>exact ha pins s1 σ H1 D I1 q1
 | false=>exact hb pins s1 σ H1 D I1 q1
end
abbrev TG:=V->St->Hp->(St->Hp->Prop)->Prop
abbrev TGs:=List V->St->Hp->(St->Hp->Prop)->Prop
def PG (X:Cx)(target:Expr)(t:TG):Prop :=
 ∀(pins:List (Addr×Obj)) (s:Shared) (σ:St) (H:Hp) (v:V) (u:Value) (Q:St->Hp->Prop),Inv X pins σ H s->RelV v u->t v σ H Q ->
  wpAny (model X.prog X.w) X.A (assign target X.env u) (fun _ s'=>∃ σ' H',Inv X pins σ' H' s'/\Q σ' H') X.xe s
def PGs (X:Cx)(ts:List Expr)(t:TGs):Prop :=
 ∀(pins:List (Addr×Obj)) (s:Shared) (σ:St) (H:Hp) (vs:List V) (us:List Value) (Q:St->Hp->Prop),Inv X pins σ H s->Vals vs us->t vs σ H Q ->
  wpAny (model X.prog X.w) X.A (assignInOrder ((assignEach ts X.env).map (·.2)) us) (fun _ s'=>∃ σ' H',Inv X pins σ' H' s'/\Q σ' H') X.xe s
abbrev TSet:=V->V->V->Hp->(Hp->Prop)->Prop
def PSet (X:Cx)(t:TSet):Prop :=
 ∀(pins:List (Addr×Obj)) (s:Shared) (σ:St) (H:Hp) (o i v:V) (ov iv u:Value) (Q:Hp->Prop),Inv X pins σ H s->RelV o ov->RelV i iv->RelV v u->t o i v H Q ->
  wpAny (model X.prog X.w) X.A (setItem ov iv u) (fun _ s'=>∃ H',Inv X pins σ H' s'/\Q H') X.xe s
abbrev TIp:=V->V->Hp->VK->Prop
def PIp (X:Cx)(op:Operator)(t:TIp):Prop :=
 ∀(pins:List (Addr×Obj)) (s:Shared) (σ:St) (H:Hp) (x y:V) (v u:Value) (Q:VK),Inv X pins σ H s->RelV x v->RelV y u->t x y H Q ->
  wpAny (model X.prog X.w) X.A (inplaceOp op v u) (EP X pins σ Q) X.xe s
section
variable {X:Cx}{pos:Pos}
def gName (i:Nat):TG:=fun v σ H Q=>Q (σ.set i (some v)) H
theorem pg_name {i:Nat}{x:Str}(hN:X.N.Nodup)(hi:X.N[i]?=some x)(hx:Loc X.env.scope x)(hf:X.fn x=true\/X.env.scope.names.lookup x=some .local:=by first | exact .inl rfl | exact .inr rfl | assumption):PG X (.Name x pos) (gName i):=by
 intro pins s σ H v u Q I r h
 exact wpAny_assign_Name (store_ok I hN hi hx r (fun s' I'=>⟨_,H,I',h⟩) hf)
def gNil:TGs:=fun vs σ H Q=>vs=[]/\Q σ H
def gCons (t:TG)(u:TGs):TGs:=fun vs σ H Q=>∃ v r,vs=v::r/\t v σ H fun σ' H'=>u r σ' H' Q
theorem pgs_nil:PGs X [] gNil:=by
 intro pins s σ H vs us Q I r h
 obtain⟨e,h⟩:=h
 subst e
 cases r
 exact assignInOrder_nil ⟨σ,H,I,h⟩
theorem pgs_cons {e:Expr}{es:List Expr}{t:TG}{u:TGs}(h1:PG X e t)(h2:PGs X es u)
 (hs:(assignEach (e::es) X.env).map (·.2)=assign e X.env::(assignEach es X.env).map (·.2):=by rfl):PGs X (e::es) (gCons t u):=by
 intro pins s σ H vs us Q I r h
 obtain⟨v,vr,e1,h⟩:=h
 subst e1
 cases r with
 | cons r rr =>
  rw[hs]
  refine assignInOrder_cons (thn (h1 pins s σ H _ _ _ I r h) fun _ s1 hq6=>?_)
  obtain⟨σ1,H1,I1,q1⟩:=hq6
  exact h2 pins s1 σ1 H1 _ _ Q I1 rr q1
def gTup (K:PySem.W.Frag)(n:Nat)(t:TGs):TG:=fun v σ H Q=>∃ a xs,v=.ref a/\SqT K H a xs/\xs.length=n/\t xs σ H Q
theorem pg_tup {es:List Expr}{k:Nat}{t:TGs}{n:Nat}(hc:X.calm=true)(h:PGs X es t)
 (hn:(assignEach es X.env).length=n:=by rfl) (hst:(assignEach es X.env).findIdx? (·.1)=none:=by rfl):PG X (.Tuple es k pos) (gTup X.K n t):=by
 intro pins s σ H v u Q I r hw
 obtain⟨a,xs,e1,hq,hl,hw⟩:=hw
 subst e1
 cases r
 obtain⟨its,rv,ht,hz⟩:=I.tuple hq
 refine assign_Tuple_tuple (I.ok.hd hc) ht (by simp[hn,<- hl,rv.length]) hst fun h' hx=>?_
 have I1:Inv X pins σ H { s with heap:=h'}:=I.kept (t':=s.toks) fun b o e=>hx b o (ao (gxN e)) e
 exact h pins _ σ H xs _ Q I1 (by simpa using rv) hw
def gSub (to ti:TE)(t:TSet):TG:=fun v σ H Q=>to σ H fun o H1=>ti σ H1 fun i H2=>t o i v H2 fun H3=>Q σ H3
theorem pg_sub {o i:Expr}{to ti:TE}{t:TSet}(ho:PE X o to)(hi:PE X i ti)(hs:PSet X t)
 (ha:∀ v,assign (.Subscript o i pos) X.env v=(do
   let ov <- holding [v] (eval o X.env)
   let iv <- holding [v,ov] (eval i X.env)
   standAt pos
   holding [v,ov,iv] (setItem ov iv v)
   release [v,ov,iv] []):=by intro _;rfl):PG X (.Subscript o i pos) (gSub to ti t):=by
 intro pins s σ H v u Q I r h
 rw[ha]
 refine gxM (ba (thn (ho pins s σ H _ I h) fun ov s1 hq0=>?_))
 obtain⟨x,H1,I1,r1,q1⟩:=hq0
 refine gxM (ba (thn (hi pins s1 σ H1 _ I1 q1) fun iv s2 hq1=>?_))
 obtain⟨y,H2,I2,r2,q2⟩:=hq1
 refine gxM (wpAny_standAt (gxM (ba (thn (hs pins s2 σ H2 x y v ov iv u _ I2 r1 r2 r q2) fun _ s3 hq2=>?_))))
 obtain⟨H3,I3,q3⟩:=hq2
 exact wpAny_release ⟨σ,H3,I3,q3⟩
def tAsg (te:TE)(g:TG):TS:=fun D σ H=>te σ H fun x H1=>g x σ H1 D.nx
theorem ps_asg {tg e:Expr}{te:TE}{g:TG}(he:PE X e te)(hg:PG X tg g)(hs:swapsWithSole [tg] e pos.line X.env=pure false:=by rfl)(hw:swappedStores [tg] e X.env=pure none:=by rfl)
 (h1:(assignEach [tg] X.env).map (·.2)=[assign tg X.env]:=by rfl):PS X (.Assign [tg] e pos) (tAsg te g):=by
 intro pins s σ H D I h
 refine wpAny_Assign_stores (thn (he pins s σ H _ I h) fun v s1 hq3=>?_) hs hw
 obtain⟨x,H1,I1,r1,q1⟩:=hq3
 rw[h1]
 exact thn (hg pins s1 σ H1 x v _ I1 r1 q1) fun _ s2 q=>q
theorem ps_set {i:Nat}{x:Str}{e:Expr}{te:TE}{pos':Pos}(hN:X.N.Nodup)(hi:X.N[i]?=some x)(hx:Loc X.env.scope x)(he:PE X e te)(hs:swapsWith e (some (.Name x pos')) pos.line X.env=pure false:=by rfl)(hf:X.fn x=true\/X.env.scope.names.lookup x=some .local:=by first | exact .inl rfl | exact .inr rfl | assumption) :
 PS X (.Assign [.Name x pos'] e pos) (tAsg te (gName i)):=by
 intro pins s σ H D I h
 refine wpAny_Assign_Name (thn (he pins s σ H _ I h) fun v s1 hq4=>?_) hs
 obtain⟨y,H1,I1,r1,q1⟩:=hq4
 exact store_ok I1 hN hi hx r1 (fun s2 I2=>⟨_,H1,I2,q1⟩) hf
def tAug (i:Nat)(te:TE)(ti:TIp):TS:=fun D σ H=>∃ x,σ[i]?=some (some x)/\te σ H fun y H1=>ti x y H1 fun z H2=>D.nx (σ.set i (some z)) H2
theorem ps_aug {i:Nat}{x:Str}{e:Expr}{te:TE}{op:Operator}{ti:TIp}{pos':Pos}(hN:X.N.Nodup)(hi:X.N[i]?=some x)(hx:Loc X.env.scope x)(he:PE X e te)(ho:PIp X op ti)(hf:X.fn x=true\/X.env.scope.names.lookup x=some .local:=by first | exact .inl rfl | exact .inr rfl | assumption) :
 PS X (.AugAssign (.Name x pos') op e pos) (tAug i te ti):=by
 intro pins s σ H D I h
 obtain⟨v,e1,h⟩:=h
 obtain⟨m,hn,hl⟩:=I.loc
 have vis:Vis X.env.scope x:=by rcases hx with k | k;exact .inl k;exact .inr (.inl k)
 obtain⟨u,r,l⟩:=hl i x v hi e1 vis
 refine wpAny_AugAssign_Name ?_
 have go:wpAny (model X.prog X.w) X.A (eval e X.env) (fun w s₂=>wpAny (model X.prog X.w) X.A (inplaceOp op u w) (fun r s₃=>wpAny (model X.prog X.w) X.A (storeName X.env x r) (fun _=>SP X pins D .next) X.xe s₃) X.xe s₂) X.xe s:=by
  refine thn (he pins s σ H _ I h) fun w s1 hq5=>?_
  obtain⟨y,H1,I1,r1,q1⟩:=hq5
  refine thn (ho pins s1 σ H1 v y u w _ I1 r r1 q1) fun z s2 hq6=>?_
  obtain⟨zv,H2,I2,r2,q2⟩:=hq6
  exact store_ok I2 hN hi hx r2 (fun s3 I3=>⟨_,H2,I3,q2⟩) hf
 rcases l with⟨hk,hm⟩ | ⟨hk,c,hc,hcell⟩
 ·exact wpAny_loadName_local I.ok.kind hk hn hm go
 ·rcases hk with hk | hk
  ·exact wpAny_loadName_cell I.ok.kind hk hc hcell go
  ·rcases hx with k | k
   ·have:X.env.scope.names.lookup x=some .free:=hk
    rw[k]at this;cases this
   ·have:X.env.scope.names.lookup x=some .free:=hk
    rw[k]at this;cases this
def tAugS (to ti te:TE)(tget:V->V->Hp->VK->Prop)(tip:TIp)(tset:TSet):TS:=fun D σ H=>to σ H fun o H1=>ti σ H1 fun i H2=>tget o i H2 fun x H3=>te σ H3 fun y H4=>tip x y H4 fun z H5=>tset o i z H5 fun H6=>D.nx σ H6
def PGet (X:Cx)(t:V->V->Hp->VK->Prop):Prop :=
 ∀(pins:List (Addr×Obj)) (s:Shared) (σ:St) (H:Hp) (o i:V) (ov iv:Value) (Q:VK),Inv X pins σ H s->RelV o ov->RelV i iv->t o i H Q ->
  wpAny (model X.prog X.w) X.A (getItem ov iv) (EP X pins σ Q) X.xe s
theorem ps_augS {o i e:Expr}{to ti te:TE}{tget:V->V->Hp->VK->Prop}{tip:TIp}{tset:TSet}{op:Operator}{tpos:Pos}(ho:PE X o to)(hi:PE X i ti)(hg:PGet X tget)(he:PE X e te)(hp:PIp X op tip)(hs:PSet X tset)
 (ha:∀ ov iv new,augStore i ov iv new=(do holding [new,ov,iv] (setItem ov iv new);release [new,ov,iv] [];pure .next):=by intros;rfl):PS X (.AugAssign (.Subscript o i tpos) op e pos) (tAugS to ti te tget tip tset):=by
 intro pins s σ H D I h
 refine wpAny_AugAssign_SubscriptAny (thn (ho pins s σ H _ I h) fun ov s1 hq0=>?_) ha
 obtain⟨x1,H1,I1,r1,q1⟩:=hq0
 refine thn (hi pins s1 σ H1 _ I1 q1) fun iv s2 hq1=>?_
 obtain⟨x2,H2,I2,r2,q2⟩:=hq1
 refine thn (hg pins s2 σ H2 x1 x2 ov iv _ I2 r1 r2 q2) fun old s3 hq2=>?_
 obtain⟨x3,H3,I3,r3,q3⟩:=hq2
 refine thn (he pins s3 σ H3 _ I3 q3) fun v s4 hq3=>?_
 obtain⟨x4,H4,I4,r4,q4⟩:=hq3
 refine thn (hp pins s4 σ H4 x3 x4 old v _ I4 r3 r4 q4) fun new s5 hq4=>?_
 obtain⟨x5,H5,I5,r5,q5⟩:=hq4
 exact thn (hs pins s5 σ H5 x1 x2 x5 ov iv new _ I5 r1 r2 r5 q5) fun _ s6 hq5=>by obtain⟨H6,I6,q6⟩:=hq5;exact⟨σ,H6,I6,q6⟩
def ipI (f:Int->Int->Int):TIp:=fun x y H Q=>∃ i j,x=.int i/\y=.int j/\Q (.int (f i j)) H
theorem ip_add:PIp X .Add (ipI fun i j=>i+j):=by
 intro pins s σ H x y v u Q I r1 r2 h
 obtain⟨i,j,e1,e2,q⟩:=h
 subst e1;subst e2
 obtain⟨t,rfl⟩:=r1
 obtain⟨t',rfl⟩:=r2
 exact iadd_int ⟨.int _,H,I.tok _,⟨_,rfl⟩,q⟩
end
section
variable {X:Cx}{pos:Pos}
def tWhile (c:TT)(tb:TS):TS:=fun D σ H=>∃ W:Nat->St->Hp->Prop,(∃ m,W m σ H)/\∀ m σ H,W m σ H ->
 c σ H fun b H1=>if b=true then ∃ N:St->Hp->Prop,(∀ σ' H',N σ' H'->∃ m',m'<m/\W m' σ' H')/\tb { D with nx:=N,ct:=N,bk:=D.nx} σ H1 else D.nx σ H1
theorem ps_while {c:Expr}{body:List Stmt}{tc:TT}{tb:TS}(hp:PassesOwn (model X.prog X.w) X.A X.env X.xe)(hc:PT X c tc)(hb:PSs X body tb):PS X (.While c body [] pos) (tWhile tc tb):=by
 intro pins s σ H D I h
 obtain⟨W,⟨m0,w0⟩,turn⟩:=h
 refine wpAny_While (codeAny_whileLoop (fun n s'=>∃ σ' H',Inv X pins σ' H' s'/\W n σ' H') ?_ m0 ⟨σ,H,I,w0⟩)
 rintro n s1 ⟨σ1,H1,I1,w1⟩
 refine bX hp (thn (hc pins s1 σ1 H1 _ I1 (turn n σ1 H1 w1)) fun b s2 hq6=>?_)
 obtain⟨H2,I2,q2⟩:=hq6
 cases b with
 | true =>
  obtain⟨N,hN,q2⟩:=q2
  rw[ar rfl]
  refine bX hp (thn (hb pins s2 σ1 H2 _ I2 q2) fun f s3 q3=>?_)
  cases f with
  | next =>
   obtain⟨σ3,H3,I3,n3⟩:=q3
   obtain⟨m',hm,w3⟩:=hN σ3 H3 n3
   exact⟨m',hm,σ3,H3,I3,w3⟩
  | cont =>
   obtain⟨σ3,H3,I3,n3⟩:=q3
   obtain⟨m',hm,w3⟩:=hN σ3 H3 n3
   exact⟨m',hm,σ3,H3,I3,w3⟩
  | brk=>exact q3
  | ret v=>exact q3
 | false =>
  rw[aj av]
  exact cK ⟨σ1,H2,I2,q2⟩
end
structure It where
 go:Nat->Hp->Prop
 yld:Nat->Hp->V->Hp->Prop
 stop:Nat->Hp->Prop
def FpOk (X:Cx)(pins:List (Addr×Obj))(H:Hp)(b:Addr):Prop :=
 H b=none/\b≠X.env.locals/\b∉X.fs/\(b∈X.ex\/X.s₀.heap.objs.size<=b)/\(∀ x c,X.env.cells.lookup x=some c->c≠b)/\∀ p∈X.pn++pins,p.1≠b
theorem Inv.fpOk {X:Cx}{pins:List (Addr×Obj)}{σ:St}{H H':Hp}{s:Shared}{b:Addr}(I:Inv X pins σ H s)(hb:s.heap.objs.size<=b)(hn:H' b=none):FpOk X pins H' b:=by
 refine⟨hn,aR (aA I.lt hb),I.nofs hb,.inr (aB I.sz hb),fun x c e z=>?_,fun p hp z=>?_⟩
 ·obtain⟨v,q⟩:=I.cell x c e
  exact absurd (aA q.lt (by rw[z];exact hb)) (bu _)
 ·exact absurd (aA (gxN (I.pin p hp).1) (by rw[z];exact hb)) (bu _)
structure Turn (P:Program)(w:World)(K:PySem.W.Frag)(tg:Expr)(J:It)(fp:List Addr)(it:Addr)(tn:Nat->Heap->Prop)(CM:Cx->Prop:=fun X=>X.calm=true):Prop where
 mem:it∈fp
 obj:∀ i h,tn i h->∀ b∈fp,∃ o,h.get? b=some o/\∀ v,o.data≠.cell v
 keep:∀ i h h',tn i h->(∀ b∈fp,∀ o,h.get? b=some o->h'.get? b=some o)->tn i h'
 item:∀(X:Cx),X.prog=P->X.w=w->X.K=K->CM X->∀(i:Nat) (pins:List (Addr×Obj)) (s:Shared) (σ:St) (H:Hp) (E:Value->Shared->Prop),Inv X pins σ H s->(∀ b∈fp,FpOk X pins H b)->tn i s.heap->J.go i H ->
  wpAny (model P w) X.A (pyNext (.ref it)) (fun r s1=>∃ u,r=some u /\
   wpAny (model P w) X.A (letOwnedTupleGo tg (.ref it) u) (fun _ s2=>∃ x H',Inv X pins σ H' s2/\RelV x u/\J.yld i H x H'/\tn (i+1) s2.heap/\∀ b∈fp,H' b=none) E s1) E s
 done:∀(X:Cx),X.prog=P->X.w=w->X.K=K->CM X->∀(i:Nat) (pins:List (Addr×Obj)) (s:Shared) (σ:St) (H:Hp) (E:Value->Shared->Prop),Inv X pins σ H s->(∀ b∈fp,FpOk X pins H b)->tn i s.heap->J.stop i H ->
  wpAny (model P w) X.A (pyNext (.ref it)) (fun r s1=>r=none/\Inv X pins σ H s1) E s
 self:∀(A:Around) (i:Nat) (s:Shared) (Q:Value->Shared->Prop) (E:Value->Shared->Prop),tn i s.heap->Q (.ref it) s->wpAny (model P w) A (pyIter (.ref it)) Q E s
abbrev TI:=St->Hp->(It->Hp->Prop)->Prop
def PIE (X:Cx)(pins:List (Addr×Obj))(σ:St)(tg:Expr)(R:It->Hp->Prop)(itv:Value)(s2:Shared):Prop :=
 ∃(it:Addr) (fp:List Addr) (tn:Nat->Heap->Prop) (J:It) (H':Hp),itv=.ref it/\Inv X pins σ H' s2/\Turn X.prog X.w X.K tg J fp it tn/\tn 0 s2.heap/\(∀ b∈fp,FpOk X pins H' b)/\R J H'
def PI (X:Cx)(tg iter:Expr)(wi:TI):Prop :=
 ∀(pins:List (Addr×Obj)) (s:Shared) (σ:St) (H:Hp) (R:It->Hp->Prop),Inv X pins σ H s->wi σ H R ->
  wpAny (model X.prog X.w) X.A (eval iter X.env) (fun v s1=>wpAny (model X.prog X.w) X.A (pyIter v) (PIE X pins σ tg R) X.xe s1) X.xe s
theorem go_of {M:Model}{A:Around}{E:Value->Shared->Prop}{s:Shared}{tg:Expr}{it:Addr}{u:Value}{o:Obj}{n:String}{vs:Array Value}{Q:Unit->Shared->Prop}(ho:s.heap.get? it=some o)(hc:o.cls=.type n)(hd:o.data=.fields vs)
 (hn:["enumerate", "zip", "dict_itemiterator", "dict_reverseitemiterator", "odict_iterator", "itertools.zip_longest", "itertools.pairwise"].contains n=false) (hQ:Q () s):wpAny M A (letOwnedTupleGo tg (.ref it) u) Q E s:=by
 unfold letOwnedTupleGo
 cases tg <;> first
  | exact ae hQ
  | (cases u <;> first
      | exact ae hQ
      | (refine gxM (wpAny_load ho ?_)
         rw[hc,hd]
         show wpAny M A (if(["enumerate", "zip", "dict_itemiterator", "dict_reverseitemiterator", "odict_iterator", "itertools.zip_longest", "itertools.pairwise"].contains n&&vs[0]?==some (rawInt _))=true then _ else _) Q E s
         rw[aj (by intro h;rw[hn,Bool.false_and]at h;cases h)]
         exact ae hQ))
def Itl (K:PySem.W.Frag)(a:Addr):It :=
 ⟨fun i H=>∃ xs x,SqL K H a xs/\xs[i]?=some x,fun i H x H'=>H'=H/\∀ xs,SqL K H a xs->xs[i]?=some x,fun i H=>∃ xs,SqL K H a xs/\xs.length<=i⟩
def Itr (lo:Int)(n:Nat):It:=⟨fun i _=>i<n,fun i H x H'=>H'=H/\x=.int (lo+i),fun i _=>n<=i⟩
theorem turn_list {P:Program}{w:World}{K:PySem.W.Frag}{tg:Expr}(a it:Addr):Turn P w K tg (Itl K a) [it] it (fun i h=>h.IsListIter it a i) where
 mem:=by simp
 obj:=fun i h st b hb=>by
  have e:b=it:=by simpa using hb
  subst e
  obtain⟨o,e,c,d⟩:=st
  exact⟨o,e,fun v z=>by rw[d]at z;cases z⟩
 keep:=fun i h h' st k=>st.at fun o e=>k it (by simp) o e
 item:=by
  intro X hP hw hK hc i pins s σ H E I hf st hg
  subst hP hw hK
  obtain⟨xs,x,hq,hx⟩:=hg
  obtain⟨its,rv,p,hz⟩:=I.list hq
  obtain⟨u,hu,ru⟩:=rv.get hx
  obtain⟨f0,f1,f2,f3,f4,f5⟩:=hf it (by simp)
  refine wpAny_pyNext_list_item st p.isList (x:=u) (by simpa using hu) fun h' st' sb=>?_
  have I1:Inv X pins σ H { s with heap:=h'}:=I.turned (t':=s.toks) (fun b o hb e=>(sb.2 b hb).trans e) f0 f1 f3 f4 f5
  obtain⟨o,e,c,d⟩:=id st'
  exact⟨u,rfl,go_of (s:={ s with heap:=h'}) e c d (by decide) ⟨x,H,I1,ru,⟨rfl,fun ys hy=>by rw[I.list_inj hy hq];exact hx⟩,st',fun b hb=>(hf b hb).1⟩⟩
 done:=by
  intro X hP hw hK hc i pins s σ H E I hf st hg
  subst hP hw hK
  obtain⟨xs,hq,hx⟩:=hg
  obtain⟨its,rv,p,hz⟩:=I.list hq
  obtain⟨f0,f1,f2,f3,f4,f5⟩:=hf it (by simp)
  have hl:=rv.length
  exact wpAny_pyNext_list_end (I.ok.hd hc) st p.isList (by simp;omega) fun h' eb=>⟨rfl,I.turned (t':=s.toks) (fun b o hb e=>eb b o hb e) f0 f1 f3 f4 f5⟩
 self:=fun _ _ _ _ _ st h=>wpAny_pyIter_listiter st h
theorem turn_range {P:Program}{w:World}{K:PySem.W.Frag}{tg:Expr}(it:Addr)(lo:Int)(n:Nat):Turn P w K tg (Itr lo n) [it] it (fun i h=>IsRangeIter h it (lo+(i:Nat)*1) ((n:Int) - (i:Nat)) 1) where
 mem:=by simp
 obj:=fun i h st b hb=>by
  have e:b=it:=by simpa using hb
  subst e
  exact⟨_,st,fun v z=>by
   have z':Data.fields _=Data.cell v:=z
   cases z'⟩
 keep:=fun i h h' st k=>k it (by simp) _ st
 item:=by
  intro X hP hw hK hc i pins s σ H E I hf st hg
  subst hP hw hK
  obtain⟨f0,f1,f2,f3,f4,f5⟩:=hf it (by simp)
  have W:=Walks.range (prog:=X.prog) (w:=X.w) (I.ok.hd hc) it lo 1 n
  refine W.item i s _ _ hg st fun v h' tk hv st' kk=>?_
  obtain⟨t,rfl⟩:=hv
  have I1:Inv X pins σ H { s with heap:=h',toks:=tk}:=I.turned (fun b o hb e=>kk b o (by simpa using hb) e) f0 f1 f3 f4 f5
  refine⟨_,rfl,go_of (s:={ s with heap:=h',toks:=tk}) (n := "range_iterator") st' rfl rfl (by decide) ⟨.int (lo+i),H,I1,⟨t,?_⟩,⟨rfl,rfl⟩,st',fun b hb=>(hf b hb).1⟩⟩
  rw[Int.mul_one]
 done:=by
  intro X hP hw hK hc i pins s σ H E I hf st hg
  subst hP hw hK
  obtain⟨f0,f1,f2,f3,f4,f5⟩:=hf it (by simp)
  exact wpAny_pyNext_range_end (I.ok.hd hc) st (by have:n<=i:=hg;omega) fun h' eb=>⟨rfl,I.turned (t':=s.toks) (fun b o hb e=>eb b o hb e) f0 f1 f3 f4 f5⟩
 self:=fun _ _ _ _ _ st h=>wpAny_pyIter_rangeiter st h
section
variable {X:Cx}{tg:Expr}
def iList (K:PySem.W.Frag)(tl:TE):TI:=fun σ H R=>tl σ H fun x H1=>∃ a,x=.ref a/\(∃ xs,SqL K H1 a xs)/\R (Itl K a) H1
theorem pi_list {l:Expr}{tl:TE}(hl:PE X l tl):PI X tg l (iList X.K tl):=by
 intro pins s σ H R I h
 refine thn (hl pins s σ H _ I h) fun v s1 hq0=>?_
 obtain⟨x,H1,I1,r1,q1⟩:=hq0
 obtain⟨a,e,⟨xs,hq⟩,q⟩:=q1
 subst e
 cases r1
 obtain⟨its,rv,p,hz⟩:=I1.list hq
 refine wpAny_pyIter_list p.isList ?_
 refine⟨s1.heap.objs.size,[s1.heap.objs.size],_,_,H1,rfl,I1.kept (t':=s1.toks) fun b o e=>gxL _ e,turn_list a _,⟨_,ak _ rfl,rfl,rfl⟩,fun b hb=>?_,q⟩
 have e:b=s1.heap.objs.size:=by simpa using hb
 subst e
 exact I1.fpOk (aa _) (I1.hok.fresh (aa _))
theorem range_it {pins:List (Addr×Obj)}{σ:St}{H:Hp}{s:Shared}{R:It->Hp->Prop}{E:Value->Shared->Prop}{lo hi:Int}{t u v:Tok}{tk:Nat}(I:Inv X pins σ H s)(h1:-(2 ^ 62)<=lo)(h2:lo<2 ^ 62)(h3:-(2 ^ 62)<=hi)(h4:hi<2 ^ 62)
 (q:R (Itr lo (hi - lo).toNat) H):wpAny (model X.prog X.w) X.A (pyIter (.ref s.heap.objs.size)) (PIE X pins σ tg R) E { s with heap:=s.heap.push { cls:=.type "range",data:=.fields #[.int lo t,.int hi u,.int 1 v]},toks:=tk}:=by
 refine wpAny_pyIter_range (IsRange.new ..) (small_one h1 h2 h3 h4) ?_
 have I1:Inv X pins σ H { s with heap:=s.heap.push { cls:=.type "range",data:=.fields #[.int lo t,.int hi u,.int 1 v]},toks:=tk}:=I.kept fun b o e=>gxL _ e
 refine⟨(s.heap.push { cls:=.type "range",data:=.fields #[.int lo t,.int hi u,.int 1 v]}).objs.size,[(s.heap.push { cls:=.type "range",data:=.fields #[.int lo t,.int hi u,.int 1 v]}).objs.size],_,_,H,rfl,
  I1.kept (t':=tk) fun b o e=>gxL _ e,turn_range _ lo (hi - lo).toNat,?_,fun b hb=>?_,q⟩
 ·have e1:lo+((0:Nat):Int)*1=lo:=by simp
  have e2:(((hi - lo).toNat:Nat):Int) - ((0:Nat):Int)=Builtin.Range.rangeSize lo hi 1:=by rw[rangeSize_one];split <;> omega
  show IsRangeIter _ _ (lo+((0:Nat):Int)*1) ((((hi - lo).toNat:Nat):Int) - ((0:Nat):Int)) 1
  rw[e1,e2]
  exact ak _ rfl
 ·have e:b=(s.heap.push { cls:=.type "range",data:=.fields #[.int lo t,.int hi u,.int 1 v]}).objs.size:=by simpa using hb
  subst e
  exact I1.fpOk (aa _) (I1.hok.fresh (aa _))
def iRng2 (ta:TA):TI:=fun σ H R=>ta σ H fun vs H1=>∃ i j:Int,vs=[.int i,.int j]/\(-(2 ^ 62)<=i/\i<2 ^ 62 /\ -(2 ^ 62)<=j/\j<2 ^ 62)/\R (Itr i (j - i).toNat) H1
theorem pi_range2 {a b:Expr}{ta:TA}{p pos:Pos}(hg:Gl X "range")(hm:X.mg "range"=none)(ha:PA X [a,b] ta)(hs:starEach [a,b] X.env=[(false,eval a X.env),(false,eval b X.env)]:=by rfl)(hs2:starEach [b] X.env=[(false,eval b X.env)]:=by rfl) :
 PI X tg (.Call (.Name "range" p) [a,b] [] pos) (iRng2 ta):=by
 intro pins s σ H R I h
 refine Call_ (ld_blt I hg hm boot_range (bh (thn (ha pos pins s σ H _ I h) fun us s1 hq1=>?_) (by rw[hs,hs2]) (by rw[hs2];rfl)))
 obtain⟨vs,H1,I1,r1,q1⟩:=hq1
 obtain⟨i,j,e,⟨q1,q2,q3,q4⟩,q⟩:=q1
 subst e
 cases r1 with
 | cons r rr =>
  cases rr with
  | cons r' rr =>
   cases rr
   obtain⟨t,rfl⟩:=r
   obtain⟨t',rfl⟩:=r'
   exact call_range_2 (range_it I1 q1 q2 q3 q4 q)
def tFor (wi:TI)(g:TG)(tb:TS):TS:=fun D σ H=>wi σ H fun J H1=>∃ W:Nat->Nat->St->Hp->Prop,(∃ m,W 0 m σ H1)/\∀ i m σ H,W i m σ H ->
 (J.stop i H/\D.nx σ H)\/(J.go i H/\∃ N:St->Hp->Prop,(∀ σ' H',N σ' H'->∃ m',m'<m/\W (i+1) m' σ' H')/\∀ x H',J.yld i H x H'->g x σ H' fun σ2 H2=>tb { D with nx:=N,ct:=N,bk:=D.nx} σ2 H2)
def pinsAt (fp:List Addr)(h:Heap):List (Addr×Obj):=fp.filterMap fun b=>(h.get? b).map fun o=>(b,o)
theorem mem_pinsAt {fp:List Addr}{h:Heap}{b:Addr}{o:Obj}(hb:b∈fp)(e:h.get? b=some o):(b,o)∈pinsAt fp h:=List.mem_filterMap.mpr ⟨b,hb,by rw[e];rfl⟩
theorem of_pinsAt {fp:List Addr}{h:Heap}{p:Addr×Obj}(hp:p∈pinsAt fp h):p.1∈fp/\h.get? p.1=some p.2:=by
 obtain⟨b,hb,e⟩:=List.mem_filterMap.mp hp
 cases q:h.get? b with
 | none=>rw[q]at e;cases e
 | some o =>
  rw[q]at e
  have e':(b,o)=p:=aI e
  subst e'
  exact⟨hb,q⟩
theorem Inv.pinned {pins:List (Addr×Obj)}{σ:St}{H:Hp}{s:Shared}{fp:List Addr}(I:Inv X pins σ H s)(hf:∀ b∈fp,FpOk X pins H b)(ho:∀ b∈fp,∃ o,s.heap.get? b=some o/\∀ v,o.data≠.cell v):Inv X (pins++pinsAt fp s.heap) σ H s :=
 I.pins_of fun p hp=>(List.mem_append.mp hp).elim (fun z=>I.pin p (aF _ z)) fun z=>by
  obtain⟨hb,e⟩:=of_pinsAt z
  obtain⟨f0,f1,f2,_⟩:=hf p.1 hb
  obtain⟨o,e',d⟩:=ho p.1 hb
  rw[e]at e';cases e'
  exact⟨e,f0,f1,f2,d⟩
theorem Inv.unpinned {pins pl:List (Addr×Obj)}{σ:St}{H:Hp}{s:Shared}(I:Inv X (pins++pl) σ H s):Inv X pins σ H s:=I.pins_of fun p hp=>I.pin p (aF _ (bF _ hp))
theorem ps_for {iter:Expr}{body:List Stmt}{wi:TI}{g:TG}{tb:TS}{pos:Pos}(hp:PassesOwn (model X.prog X.w) X.A X.env X.xe)(hc:X.calm=true)(hi:PI X tg iter wi)(hg:PG X tg g)(hb:PSs X body tb)
 (hs:∀ x,foldedSetIterable iter X.env x=pure x:=by intro _;rfl):PS X (.For tg iter body [] pos) (tFor wi g tb):=by
 intro pins s σ H D I h
 refine wpAny_For (thn (hi pins s σ H _ I h) fun v s1 h1=>thn h1 fun itv s2 h2=>?_) hs
 obtain⟨it,fp,tn,J,H2,e,I2,T,st2,f2,W,⟨m0,w0⟩,turn⟩:=h2
 subst e
 have stat:∀ {H':Hp},(∀ b∈fp,H' b=none)->∀ b∈fp,FpOk X pins H' b:=fun hn b hb=>⟨hn b hb,(f2 b hb).2⟩
 refine codeAny_forLoop_any (fun n s'=>∃ i σ' H',Inv X pins σ' H' s'/\tn i s'.heap/\(∀ b∈fp,H' b=none)/\W i n σ' H') ?_ m0 ⟨0,σ,H2,I2,st2,fun b hb=>(f2 b hb).1,w0⟩
 rintro n s3 ⟨i,σ3,H3,I3,st3,fr3,w3⟩
 rcases turn i n σ3 H3 w3 with⟨stop,qn⟩ | ⟨go,N,hN,step⟩
 ·refine bX hp (thn (T.done X rfl rfl rfl hc i pins s3 σ3 H3 X.xe I3 (stat fr3) st3 stop) fun r s4 hq2=>?_)
  obtain⟨hr,I4⟩:=hq2
  subst hr
  exact cK ⟨σ3,H3,I4,qn⟩
 ·refine bX hp (thn (T.item X rfl rfl rfl hc i pins s3 σ3 H3 X.xe I3 (stat fr3) st3 go) fun r s4 hq3=>?_)
  obtain⟨u,hr,h4⟩:=hq3
  subst hr
  refine bX hp (thn h4 fun _ s5 hq4=>?_)
  obtain⟨x,H5,I5,r5,y5,st5,fr5⟩:=hq4
  have I5':=I5.pinned (stat fr5) (T.obj _ _ st5)
  refine bX hp (thn (hg _ s5 σ3 H5 x u _ I5' r5 (step x H5 y5)) fun _ s6 hq5=>?_)
  obtain⟨σ6,H6,I6,q6⟩:=hq5
  refine bX hp (thn (hb _ s6 σ6 H6 _ I6 q6) fun f s7 q7=>?_)
  have again:∀ {σ7:St} {H7:Hp},Inv X (pins++pinsAt fp s5.heap) σ7 H7 s7->N σ7 H7->∃ m,m<n/\∃ i σ' H',Inv X pins σ' H' s7/\tn i s7.heap/\(∀ b∈fp,H' b=none)/\W i m σ' H':=fun {σ7 H7} I7 n7=>by
   obtain⟨m',hm,w7⟩:=hN σ7 H7 n7
   refine⟨m',hm,i+1,σ7,H7,I7.unpinned,T.keep _ _ _ st5 fun b hb o e=>(I7.pin (b,o) (aF _ (aF _ (mem_pinsAt hb e)))).1,fun b hb=>?_,w7⟩
   obtain⟨o,e,d⟩:=T.obj _ _ st5 b hb
   exact(I7.pin (b,o) (aF _ (aF _ (mem_pinsAt hb e)))).2.1
  cases f with
  | next=>obtain⟨σ7,H7,I7,n7⟩:=q7;exact again I7 n7
  | cont=>obtain⟨σ7,H7,I7,n7⟩:=q7;exact again I7 n7
  | brk=>obtain⟨σ7,H7,I7,q7⟩:=q7;exact⟨σ7,H7,I7.unpinned,q7⟩
  | ret v=>obtain⟨x7,σ7,H7,I7,r7,q7⟩:=q7;exact⟨x7,σ7,H7,I7.unpinned,r7,q7⟩
end
abbrev R2:=V->V->Hp->VK->Prop
def OpR (X:Cx)(f:Value->Value->Sem Value)(r:R2):Prop :=
 ∀(pins:List (Addr×Obj)) (s:Shared) (σ:St) (H:Hp) (x y:V) (v u:Value) (Q:VK),Inv X pins σ H s->RelV x v->RelV y u->r x y H Q ->
  wpAny (model X.prog X.w) X.A (f v u) (EP X pins σ Q) X.xe s
def UnR (X:Cx)(f:Value->Sem Value)(r:V->Hp->VK->Prop):Prop :=
 ∀(pins:List (Addr×Obj)) (s:Shared) (σ:St) (H:Hp) (x:V) (v:Value) (Q:VK),Inv X pins σ H s->RelV x v->r x H Q ->
  wpAny (model X.prog X.w) X.A (f v) (EP X pins σ Q) X.xe s
def CallR (X:Cx)(f:Value)(r:List V->Hp->VK->Prop):Prop :=
 ∀(pins:List (Addr×Obj)) (s:Shared) (σ:St) (H:Hp) (xs:List V) (us:List Value) (Q:VK),Inv X pins σ H s->Vals xs us->r xs H Q ->
  wpAny (model X.prog X.w) X.A (call f us) (EP X pins σ Q) X.xe s
def tOp (r:R2)(ta tb:TE):TE:=fun σ H Q=>ta σ H fun x H1=>tb σ H1 fun y H2=>r x y H2 Q
def tUn (r:V->Hp->VK->Prop)(ta:TE):TE:=fun σ H Q=>ta σ H fun x H1=>r x H1 Q
def rI (C:Int->Int->Prop)(g:Int->Int->V):R2:=fun x y H Q=>∃ i j,x=.int i/\y=.int j/\C i j/\Q (g i j) H
def rI0 (g:Int->Int->V):R2:=fun x y H Q=>∃ i j,x=.int i/\y=.int j/\Q (g i j) H
def rU (g:Int->V):V->Hp->VK->Prop:=fun x H Q=>∃ i,x=.int i/\Q (g i) H
section
variable {X:Cx}{a b c:Expr}{ta tb tc:TE}{pos:Pos}
theorem binT (ha:PE X a ta)(hb:PE X b tb){pins:List (Addr×Obj)}{s:Shared}{σ:St}{H:Hp}{R:V->V->Hp->Prop}(I:Inv X pins σ H s)
 (h:ta σ H fun x H1=>tb σ H1 fun y H2=>R x y H2) {Q:Value->Shared->Prop} {f:Value->Value->Sem Value}
 (hf:∀ v u s2 x y H2,Inv X pins σ H2 s2->RelV x v->RelV y u->R x y H2->wpAny (model X.prog X.w) X.A (f v u) Q X.xe s2) :
 wpAny (model X.prog X.w) X.A (eval a X.env) (fun v s₁=>wpAny (model X.prog X.w) X.A (eval b X.env) (fun u s₂=>wpAny (model X.prog X.w) X.A (f v u) Q X.xe s₂) X.xe s₁) X.xe s:=by
 refine thn (ha pins s σ H _ I h) fun v s1 hq6=>?_
 obtain⟨x,H1,I1,r1,q1⟩:=hq6
 refine thn (hb pins s1 σ H1 _ I1 q1) fun u s2 hq0=>?_
 obtain⟨y,H2,I2,r2,q2⟩:=hq0
 exact hf v u s2 x y H2 I2 r1 r2 q2
theorem pe_op {op:Operator}{r:R2}(ho:OpR X (binaryOp op) r)(ha:PE X a ta)(hb:PE X b tb):PE X (.BinOp a op b pos) (tOp r ta tb):=by
 intro pins s σ H Q I h
 exact wpAny_BinOp (binT ha hb I h fun v u s2 x y H2 I2 rx ry q=>ho pins s2 σ H2 x y v u Q I2 rx ry q)
theorem pe_un {op:UnaryOp}{r:V->Hp->VK->Prop}(ho:UnR X (unaryOp op) r)(ha:PE X a ta):PE X (.UnaryOp op a pos) (tUn r ta):=by
 intro pins s σ H Q I h
 exact UnaryOp_ (thn (ha pins s σ H _ I h) fun v s1 hq1=>by obtain⟨x,H1,I1,r1,q1⟩:=hq1;exact ho pins s1 σ H1 x v Q I1 r1 q1)
theorem opI {f:Value->Value->Sem Value}{C:Int->Int->Prop}{g:Int->Int->Int}
 (rule:∀(i j:Int) (t u:Tok) (s:Shared) (Q:Value->Shared->Prop) (E:Value->Shared->Prop),C i j->Q (.int (g i j) s.toks) { s with toks:=s.toks+1}->wpAny (model X.prog X.w) X.A (f (.int i t) (.int j u)) Q E s) :
 OpR X f (rI C fun i j=>.int (g i j)):=by
 intro pins s σ H x y v u Q I rx ry h
 obtain⟨i,j,rfl,rfl,hc,q⟩:=h
 obtain⟨t,rfl⟩:=rx
 obtain⟨t',rfl⟩:=ry
 exact rule i j t t' s _ _ hc ⟨.int (g i j),H,I.tok _,⟨_,rfl⟩,q⟩
theorem opI0 {f:Value->Value->Sem Value}{g:Int->Int->Int}
 (rule:∀(i j:Int) (t u:Tok) (s:Shared) (Q:Value->Shared->Prop) (E:Value->Shared->Prop),Q (.int (g i j) s.toks) { s with toks:=s.toks+1}->wpAny (model X.prog X.w) X.A (f (.int i t) (.int j u)) Q E s) :
 OpR X f (rI0 fun i j=>.int (g i j)):=by
 intro pins s σ H x y v u Q I rx ry h
 obtain⟨i,j,rfl,rfl,q⟩:=h
 obtain⟨t,rfl⟩:=rx
 obtain⟨t',rfl⟩:=ry
 exact rule i j t t' s _ _ ⟨.int (g i j),H,I.tok _,⟨_,rfl⟩,q⟩
theorem opB0 {f:Value->Value->Sem Value}{g:Int->Int->Bool}
 (rule:∀(i j:Int) (t u:Tok) (s:Shared) (Q:Value->Shared->Prop) (E:Value->Shared->Prop),Q (.bool (g i j)) s->wpAny (model X.prog X.w) X.A (f (.int i t) (.int j u)) Q E s) :
 OpR X f (rI0 fun i j=>.bl (g i j)):=by
 intro pins s σ H x y v u Q I rx ry h
 obtain⟨i,j,rfl,rfl,q⟩:=h
 obtain⟨t,rfl⟩:=rx
 obtain⟨t',rfl⟩:=ry
 exact rule i j t t' s _ _ ⟨.bl (g i j),H,I,rfl,q⟩
def CDiv (i j:Int):Prop:=0<j/\j<1073741824
def CPow (i j:Int):Prop:=0<=j/\j<=1000000/\i.natAbs<2 ^ 64
def CMul (i j:Int):Prop:=(-(2 ^ 64)<i/\i<2 ^ 64)\/(-(2 ^ 64)<j/\j<2 ^ 64)
theorem CMul.ok {i j:Int}(h:CMul i j):IntMulOk i j:=by
 rcases h with⟨h1,h2⟩ | ⟨h1,h2⟩
 ·exact .of_left (intBits_le_64 h1 h2)
 ·exact .of_right (intBits_le_64 h1 h2)
theorem op_add:OpR X (binaryOp .Add) (rI0 fun i j=>.int (i+j)):=opI0 fun _ _ _ _ _ _ _ q=>add_int q
theorem op_sub:OpR X (binaryOp .Sub) (rI0 fun i j=>.int (i - j)):=opI0 fun _ _ _ _ _ _ _ q=>sub_int q
theorem op_mul:OpR X (binaryOp .Mult) (rI CMul fun i j=>.int (i*j)):=opI fun _ _ _ _ _ _ _ hc q=>mul_int q hc.ok
theorem op_fdiv:OpR X (binaryOp .FloorDiv) (rI CDiv fun i j=>.int (i / j)):=opI fun i j _ _ _ _ _ hc q=>by
 have h1:(0:Int)<j:=hc.1
 have h2:j<1073741824:=hc.2
 exact floordiv_int (by omega) (by rw[Int.fdiv_eq_ediv_of_nonneg i (by omega)];exact q) (.inl (PyProof.noPylong_small (by omega)))
theorem op_mod:OpR X (binaryOp .Mod) (rI (fun _ j=>0<j) fun i j=>.int (i%j)):=opI fun i j _ _ _ _ _ hc q=>by
 have h1:(0:Int)<j:=hc
 exact mod_int' (by omega) (by rw[Int.fmod_eq_emod_of_nonneg i (by omega)];exact q)
theorem op_pow:OpR X (binaryOp .Pow) (rI CPow fun i j=>.int (i ^ j.toNat)):=opI fun _ _ _ _ _ _ _ hc q=>pow_int_small hc.1 hc.2.1 hc.2.2 q
theorem unI {f:Value->Sem Value}{g:Int->Int}
 (rule:∀(i:Int) (t:Tok) (s:Shared) (Q:Value->Shared->Prop) (E:Value->Shared->Prop),Q (.int (g i) s.toks) { s with toks:=s.toks+1}->wpAny (model X.prog X.w) X.A (f (.int i t)) Q E s) :
 UnR X f (rU fun i=>.int (g i)):=by
 intro pins s σ H x v Q I rx h
 obtain⟨i,rfl,q⟩:=h
 obtain⟨t,rfl⟩:=rx
 exact rule i t s _ _ ⟨.int (g i),H,I.tok _,⟨_,rfl⟩,q⟩
theorem un_neg:UnR X (unaryOp .USub) (rU fun i=>.int (-i)):=unI fun _ _ _ _ _ q=>neg_int q
end
def scal:V->V->Bool
 | .non,.non=>true | .non,.int _=>true | .int _,.non=>true | .non,.bl _=>true | .bl _,.non=>true | .non,.str _=>true | .str _,.non=>true
 | .int _,.int _=>true | .bl _,.bl _=>true | .str _,.str _=>true | .byt _,.byt _=>true
 | .int _,.str _=>true | .str _,.int _=>true | .bl _,.str _=>true | .str _,.bl _=>true
 | _,_=>false
def rEq:R2:=fun x y H Q=>scal x y=true/\Q (.bl (decide (x=y))) H
def rNe:R2:=fun x y H Q=>scal x y=true/\Q (.bl (!decide (x=y))) H
theorem dec_int {i j:Int}:decide (V.int i=V.int j)=(i==j):=by
 rw[cw]
 simp
theorem dec_bl {i j:Bool}:decide (V.bl i=V.bl j)=(i==j):=by
 rw[cw]
 simp
theorem dec_str {i j:Str}:decide (V.str i=V.str j)=(i==j):=by
 rw[cw]
 simp
theorem dec_byt {i j:Array UInt8}:decide (V.byt i=V.byt j)=(i.toList==j.toList):=by
 rw[cw]
 cases i
 cases j
 simp
section
variable {X:Cx}{a b c:Expr}{ta tb tc:TE}{pos:Pos}
theorem fin_bl {pins:List (Addr×Obj)}{σ:St}{H:Hp}{s:Shared}{Q:VK}{k k':Bool}(I:Inv X pins σ H s)(q:Q (.bl k) H)(e:k=k'):EP X pins σ Q (.bool k') s:=by
 subst e
 exact⟨.bl k,H,I,rfl,q⟩
theorem op_eq:OpR X (compareOp .Eq) rEq:=by
 intro pins s σ H x y v u Q I rx ry h
 obtain⟨hs,q⟩:=h
 cases x with
 | non =>
  cases rx
  cases y with
  | non=>cases ry;exact PySem.EqNone.eq_none_none (fin_bl I q (by simp))
  | bl j=>cases ry;exact PySem.EqNone.eq_none_bool (fin_bl I q (by simp))
  | int j=>obtain⟨t',rfl⟩:=ry;exact PySem.EqNone.eq_none_int (fin_bl I q (by simp))
  | str j=>obtain⟨t',rfl⟩:=ry;exact PySem.EqNone.eq_none_str (fin_bl I q (by simp))
  | _=>exact absurd (show false=true from hs) av
 | bl i =>
  cases rx
  cases y with
  | non=>cases ry;exact PySem.EqNone.eq_bool_none (fin_bl I q (by simp))
  | bl j=>cases ry;exact eq_bool (fin_bl I q dec_bl)
  | str j=>obtain⟨t',rfl⟩:=ry;exact PySem.EqMixed.eq_bool_str (fin_bl I q (by simp))
  | _=>exact absurd (show false=true from hs) av
 | int i =>
  obtain⟨t,rfl⟩:=rx
  cases y with
  | non=>cases ry;exact PySem.EqNone.eq_int_none (fin_bl I q (by simp))
  | int j=>obtain⟨t',rfl⟩:=ry;exact eq_int (fin_bl I q dec_int)
  | str j=>obtain⟨t',rfl⟩:=ry;exact PySem.EqMixed.eq_int_str (fin_bl I q (by simp))
  | _=>exact absurd (show false=true from hs) av
 | str i =>
  obtain⟨t,rfl⟩:=rx
  cases y with
  | non=>cases ry;exact PySem.EqNone.eq_str_none (fin_bl I q (by simp))
  | bl j=>cases ry;exact PySem.EqMixed.eq_str_bool (fin_bl I q (by simp))
  | int j=>obtain⟨t',rfl⟩:=ry;exact PySem.EqMixed.eq_str_int (fin_bl I q (by simp))
  | str j=>obtain⟨t',rfl⟩:=ry;exact eq_str (fin_bl I q dec_str)
  | _=>exact absurd (show false=true from hs) av
 | byt i =>
  obtain⟨t,rfl⟩:=rx
  cases y with
  | byt j=>obtain⟨t',rfl⟩:=ry;exact PySem.W.eq_bytes (fin_bl I q dec_byt)
  | _=>exact absurd (show false=true from hs) av
 | _=>cases y <;> exact absurd (show false=true from hs) av
theorem op_ne:OpR X (compareOp .NotEq) rNe:=by
 intro pins s σ H x y v u Q I rx ry h
 obtain⟨hs,q⟩:=h
 cases x with
 | non =>
  cases rx
  cases y with
  | non=>cases ry;exact PySem.EqNone.ne_none_none (fin_bl I q (by simp))
  | bl j=>cases ry;exact PySem.EqNone.ne_none_bool (fin_bl I q (by simp))
  | int j=>obtain⟨t',rfl⟩:=ry;exact PySem.EqNone.ne_none_int (fin_bl I q (by simp))
  | str j=>obtain⟨t',rfl⟩:=ry;exact PySem.EqNone.ne_none_str (fin_bl I q (by simp))
  | _=>exact absurd (show false=true from hs) av
 | bl i =>
  cases rx
  cases y with
  | non=>cases ry;exact PySem.EqNone.ne_bool_none (fin_bl I q (by simp))
  | bl j=>cases ry;exact ne_bool (fin_bl I q (bO not dec_bl))
  | str j=>obtain⟨t',rfl⟩:=ry;exact PySem.EqMixed.ne_bool_str (fin_bl I q (by simp))
  | _=>exact absurd (show false=true from hs) av
 | int i =>
  obtain⟨t,rfl⟩:=rx
  cases y with
  | non=>cases ry;exact PySem.EqNone.ne_int_none (fin_bl I q (by simp))
  | int j=>obtain⟨t',rfl⟩:=ry;exact ne_int (fin_bl I q (bO not dec_int))
  | str j=>obtain⟨t',rfl⟩:=ry;exact PySem.EqMixed.ne_int_str (fin_bl I q (by simp))
  | _=>exact absurd (show false=true from hs) av
 | str i =>
  obtain⟨t,rfl⟩:=rx
  cases y with
  | non=>cases ry;exact PySem.EqNone.ne_str_none (fin_bl I q (by simp))
  | bl j=>cases ry;exact PySem.EqMixed.ne_str_bool (fin_bl I q (by simp))
  | int j=>obtain⟨t',rfl⟩:=ry;exact PySem.EqMixed.ne_str_int (fin_bl I q (by simp))
  | str j=>obtain⟨t',rfl⟩:=ry;exact ne_str (fin_bl I q (bO not dec_str))
  | _=>exact absurd (show false=true from hs) av
 | byt i =>
  obtain⟨t,rfl⟩:=rx
  cases y with
  | byt j=>obtain⟨t',rfl⟩:=ry;exact PySem.W.ne_bytes (fin_bl I q (bO not dec_byt))
  | _=>exact absurd (show false=true from hs) av
 | _=>cases y <;> exact absurd (show false=true from hs) av
theorem op_lt:OpR X (compareOp .Lt) (rI0 fun i j=>.bl (decide (i<j))):=opB0 fun _ _ _ _ _ _ _ q=>lt_int q
theorem op_gt:OpR X (compareOp .Gt) (rI0 fun i j=>.bl (decide (j<i))):=opB0 fun _ _ _ _ _ _ _ q=>gt_int q
theorem op_ge:OpR X (compareOp .GtE) (rI0 fun i j=>.bl (decide (j<=i))):=opB0 fun _ _ _ _ _ _ _ q=>ge_int q
theorem op_in_str:OpR X (compareOp .In) (fun x y H Q=>∃ i j,x=.str i/\y=.str j/\Q (.bl (!(Builtin.Str.occurrences j i 0 j.length 1).isEmpty)) H):=by
 intro pins s σ H x y v u Q I rx ry h
 obtain⟨i,j,rfl,rfl,q⟩:=h
 obtain⟨t,rfl⟩:=rx
 obtain⟨t',rfl⟩:=ry
 exact in_str (fin_bl I q rfl)
theorem OpR.or {f:Value->Value->Sem Value}{r r':R2}(h:OpR X f r)(h':OpR X f r'):OpR X f (fun x y H Q=>r x y H Q\/r' x y H Q):=by
 intro pins s σ H x y v u Q I rx ry q
 rcases q with q | q
 ·exact h pins s σ H x y v u Q I rx ry q
 ·exact h' pins s σ H x y v u Q I rx ry q
theorem nomark (b:Expr){op:CmpOp}(h:op≠.In:=by decide)(h2:op≠.NotIn:=by decide):behindInMarks op b=false:=by
 have e1:(op==CmpOp.In)=false:=by cases op <;> first | rfl | exact absurd rfl h
 have e2:(op==CmpOp.NotIn)=false:=by cases op <;> first | rfl | exact absurd rfl h2
 cases b <;> simp[behindInMarks,e1,e2]
theorem pe_cmpR {op:CmpOp}{r:R2}(ho:OpR X (compareOp op) r)(ha:PE X a ta)(hb:PE X b tb)(hm:behindInMarks op b=false):PE X (.Compare a [op] [b] pos) (tOp r ta tb):=by
 intro pins s σ H Q I h
 exact wpAny_Compare1 (binT ha hb I h fun v u s2 x y H2 I2 rx ry q=>ho pins s2 σ H2 x y v u Q I2 rx ry q) hm
def tChain (r r':R2)(ta tb tc:TE):TE:=fun σ H Q=>ta σ H fun x H1=>tb σ H1 fun y H2=>r x y H2 fun z H3=>∃ k,z=.bl k /\
 (if k=true then tc σ H3 fun w' H4=>r' y w' H4 Q else Q (.bl false) H3)
theorem pe_chain {op op':CmpOp}{r r':R2}(ho:OpR X (compareOp op) r)(ho':OpR X (compareOp op') r')(ha:PE X a ta)(hb:PE X b tb)(hc:PE X c tc)
 (hm:lastMarks [op,op'] [b,c]=false:=by with_unfolding_all rfl):PE X (.Compare a [op,op'] [b,c] pos) (tChain r r' ta tb tc):=by
 intro pins s σ H Q I h
 refine Compare_chain (thn (ha pins s σ H _ I h) fun v s1 ⟨x,H1,I1,r1,q1⟩=>chain_link (thn (hb pins s1 σ H1 _ I1 q1) fun u s2 ⟨y,H2,I2,r2,q2⟩ =>
  thn (ho pins s2 σ H2 x y v u _ I2 r1 r2 q2) fun d s3 ⟨z,H3,I3,r3,k,e,q3⟩=>?_)) hm
 subst e
 cases r3
 refine bG ?_
 cases k with
 | false=>exact ite_ff ⟨.bl false,H3,I3,rfl,q3⟩
 | true=>exact ite_tt (chain_last (thn (hc pins s3 σ H3 _ I3 q3) fun w' s4 hq3=>by obtain⟨z',H4,I4,r4,q4⟩:=hq3;exact ho' pins s4 σ H4 y z' u w' Q I4 r2 r4 q4))
theorem line63:(sizeLine:Nat)<2 ^ 63:=by rw[sizeLine_eq];decide
theorem op_add_str:OpR X (binaryOp .Add) (fun x y H Q=>∃ i j,x=.str i/\y=.str j/\i.length+j.length<=sizeLine/\Q (.str (i++j)) H):=by
 intro pins s σ H x y v u Q I rx ry h
 obtain⟨i,j,rfl,rfl,hz,q⟩:=h
 obtain⟨t,rfl⟩:=rx
 obtain⟨t',rfl⟩:=ry
 exact add_str (fun t' tk=>⟨.str (i++j),H,I.tok _,⟨_,rfl⟩,q⟩) hz
theorem vals1 {x:V}{us:List Value}(r:Vals [x] us):∃ u,us=[u]/\RelV x u:=by
 cases r with
 | cons r1 r2=>cases r2;exact⟨_,rfl,r1⟩
theorem vals2 {x y:V}{us:List Value}(r:Vals [x,y] us):∃ u w',us=[u,w']/\RelV x u/\RelV y w':=by
 cases r with
 | cons r1 r2 =>
  cases r2 with
  | cons r3 r4=>cases r4;exact⟨_,_,rfl,r1,r3⟩
theorem call_max2 (hc:X.calm=true):CallR X (.builtin "max") (fun xs H Q=>∃ i j,xs=[.int i,.int j]/\Q (.int (if j>i then j else i)) H):=by
 intro pins s σ H xs us Q I r h
 obtain⟨i,j,rfl,q⟩:=h
 obtain⟨u,w',rfl,⟨t,rfl⟩,⟨t',rfl⟩⟩:=vals2 r
 refine max_two_ints (I.ok.hd hc) fun h' tk k=>⟨_,H,I.kept k,?_,q⟩
 by_cases hj:j>i
 ·rw[ar hj,ar hj];exact⟨_,rfl⟩
 ·rw[aj hj,aj hj];exact⟨_,rfl⟩
end
structure ObjM (h:Heap)(x dx C:Addr)(mA:Str->Option Value):Prop where
 obj:h.get? x=some (PySem.W.instObj C dx)
 ns:h.Ns1 dx mA
 ne:dx≠x
theorem lookIn_ns {h:Heap}{dx:Addr}{mA:Str->Option Value}(n:h.Ns1 dx mA):∃ od,h.get? dx=some od/\∀ name,PySem.W.lookIn name od=some (mA name):=by
 obtain⟨o,es,ep,ho,hd,hk,_,hm⟩:=n
 refine⟨o,ho,fun name=>?_⟩
 have e:=hm name
 unfold nsFind findBy at e
 rw[<- Array.find?_toList]at e
 unfold PySem.W.lookIn
 rw[hd]
 dsimp only
 split
 ·rename_i y q
  rw[q]at e
  exact bO some e
 ·rename_i q
  rw[q]at e
  have a:es.toList.any (·.refKey)=false:=by
   rw[List.any_eq_false]
   intro y hy
   obtain⟨z,t,hkey⟩:=hk y (Array.mem_toList_iff.mp hy)
   simp[DictEntry.refKey,hkey]
  have a':¬ es.toList.any (·.refKey)=true:=by rw[a];exact av
  rw[aj a']
  exact bO some e
theorem ObjM.look {h:Heap}{x dx C:Addr}{mA:Str->Option Value}(I:ObjM h x dx C mA):∃ od,PySem.W.InstAt h x (PySem.W.instObj C dx) C (some od)/\∀ name,PySem.W.lookIn name od=some (mA name) :=
 let ⟨od,ho,hl⟩:=lookIn_ns I.ns
 ⟨od,⟨I.obj,rfl,rfl,ho⟩,hl⟩
section
variable {prog:Program}{w:World}{A:Around}{E:Value->Shared->Prop}{s:Shared}{K:PySem.W.Frag}{x dx C f:Addr}{mA:Str->Option Value}{name:Str}{v:Value}
theorem get_map {expr:Bool}{Q:Value->Shared->Prop}(X:K.In s.heap)(I:ObjM s.heap x dx C mA)(hg:PySem.W.plainGet K C name=true)(hh:PySem.W.hasDictIn K C=true)
 (ha:PySem.W.findIn K (.ref C) name=some none) (hv:mA name=some v) (hv':PySem.W.handedIn v=true) (h:Q v { s with toks:=s.toks+1}) :
 wpAny (model prog w) A (getAttr (.ref x) name expr) Q E s:=by
 obtain⟨od,J,hl⟩:=I.look
 exact PySem.W.get_value X J (PySem.W.plainGet_of hg).1 (PySem.W.findObj_own hh ha rfl (by rw[hl,hv])) hv' h
theorem get_meth {pl:Sem Bool}{Q:Value×List Value->Shared->Prop}(X:K.In s.heap)(I:ObjM s.heap x dx C mA)(hg:PySem.W.plainGet K C name=true)
 (hf:PySem.W.findIn K (.ref C) name=some (some (.ref f))) (ht:PySem.W.isFn K (.ref f)=true) (hv:mA name=none) (h:Q (.ref f,[.ref x]) s) :
 wpAny (model prog w) A (getMethod (.ref x) name pl) Q E s:=by
 obtain⟨od,J,hl⟩:=I.look
 exact PySem.W.method_fn X J (PySem.W.plainGet_of hg).1 (PySem.W.plainGet_of hg).2 hf (beq_iff_eq.mp ht) (by show(PySem.W.lookIn name od).map (·.isSome)=some false;rw[hl,hv];rfl) h
theorem set_map {ns:List Str}{Q:Unit->Shared->Prop}(X:K.In s.heap)(I:ObjM s.heap x dx C mA)
 (hs:PySem.W.findIn K (.ref C) "__setattr__"=some (some (.builtin "object.__setattr__"))) (hp:PySem.W.plainOver K C=true) (ht:PySem.W.takerIn K C name=some none) (hh:PySem.W.hasDictIn K C=true)
 (hw:PySem.Within mA ns) (hsz:ns.length<=sizeLine)
 (h:∀ h',ObjM h' x dx C (fun y=>if y=name then some v else mA y)->Heap.SameBut dx s.heap h'->Q () { s with heap:=h',toks:=s.toks+2}) :
 wpAny (model prog w) A (setAttr (.ref x) name v) Q E s:=by
 obtain⟨od,J,hl⟩:=I.look
 refine PySem.W.set_plain X J hs (PySem.W.osa_open (s:={ s with toks:=s.toks+1}) (r:=none) X J hp ht fun b=>?_)
 obtain⟨cd,hc,hd'⟩:=PySem.W.any_some hh
 have hx:s.heap.get? x=some ⟨.ref C,some dx,.plain,#[]⟩:=I.obj
 refine gxM (ae (gxM (gxM (wpAny_loadPart hx (gxM (PySem.W.Looks.here (s:={ s with toks:=s.toks+1}) (PySem.W.looks_clsIn X hc) ?_))))))
 rw[hd']
 refine ae (a:=some dx) (gxM (ae (gxM ?_)))
 refine wpAny_nsSet1 (s:={ s with toks:=s.toks+1}) I.ns fun h' hn2 hs2=>?_
 obtain⟨oD,esD,epD,hoD,hdD,hcD⟩:=hn2.count (PySem.Within.cons name v hw)
 refine gxM (wpAny_lookBehind hoD (by rw[hdD];exact pastItsLine_dict (aB hcD (by rw[aJ];omega))) ?_)
 exact ae (h _ ⟨(hs2.2 _ (aO I.ne)).trans I.obj,hn2,I.ne⟩ hs2)
theorem make_map {R:Result->Shared->Prop}{vs:List Value}{kw:List (Str×Value)}(X:K.In s.heap)(hm:PySem.W.makesIn K C=true)
 (hi:PySem.W.findIn K (.ref C) "__init__"=some (some (.ref f))) (hf:PySem.W.typeIn K (.ref f)=some (.type "function"))
 (h:codeAny (model prog w) (A.under (.builtin "type.__call__" ⟨.ref C::vs,kw⟩)) (.call (.ref f) ⟨.ref (s.heap.objs.size+1)::vs,kw⟩) (PySem.W.InitBack (s.heap.objs.size+1) R)
   { s with heap:=(s.heap.push PySem.W.emptyDict).push (PySem.W.instObj C s.heap.objs.size)}) :
 codeAny (model prog w) A (.call (.ref C) ⟨vs,kw⟩) R s:=by
 obtain⟨hh,g,d,t,os⟩:=s
 exact PySem.W.make_core (PySem.W.makes_of X hm) (PySem.W.looks_findIn X hi) (fun self=>PySem.W.bind_fn X self hf) (.inl rfl) h
end
def putF (f:Str)(v:V):List (Str×V)->List (Str×V)
 | []=>[(f,v)]
 | (g,x)::r=>if g=f then(g,v)::r else(g,x)::putF f v r
theorem lookup_putF (f g:Str)(v:V):∀ fs:List (Str×V),(putF f v fs).lookup g=if g=f then some v else fs.lookup g
 | []=>by
  show List.lookup g [(f,v)]=_
  by_cases h:g=f
  ·have hb:(g==f)=true:=beq_iff_eq.mpr h
   simp only[List.lookup,hb,ar h]
  ·have hb:(g==f)=false:=beq_eq_false_iff_ne.mpr h
   simp only[List.lookup,hb,aj h]
 | (k,x)::r=>by
  have ih:=lookup_putF f g v r
  rw[show putF f v ((k,x)::r)=(if k=f then(k,v)::r else(k,x)::putF f v r)from rfl]
  by_cases hk:k=f
  ·rw[ar hk]
   by_cases h:g=k
   ·have hb:(g==k)=true:=beq_iff_eq.mpr h
    simp only[List.lookup,hb,ar (h.trans hk)]
   ·have hb:(g==k)=false:=beq_eq_false_iff_ne.mpr h
    simp only[List.lookup,hb,aj (fun e:g=f=>h (e.trans hk.symm))]
  ·rw[aj hk]
   by_cases h:g=k
   ·have hb:(g==k)=true:=beq_iff_eq.mpr h
    simp only[List.lookup,hb,aj (fun e:g=f=>hk (h.symm.trans e))]
   ·have hb:(g==k)=false:=beq_eq_false_iff_ne.mpr h
    simp only[List.lookup,hb]
    exact ih
theorem keys_putF (f:Str)(v:V):∀ fs:List (Str×V),f∈(putF f v fs).map (·.1)/\∀ g,g∈fs.map (·.1)->g∈(putF f v fs).map (·.1)
 | []=>⟨by simp[putF],fun g h=>by simp at h⟩
 | (k,x)::r=>by
  obtain⟨i1,i2⟩:=keys_putF f v r
  rw[show putF f v ((k,x)::r)=(if k=f then(k,v)::r else(k,x)::putF f v r)from rfl]
  by_cases hk:k=f
  ·rw[ar hk]
   subst hk
   exact⟨by simp,fun g h=>by simpa using h⟩
  ·rw[aj hk]
   refine⟨?_,fun g h=>?_⟩
   ·rw[aq]
    exact gxI _ i1
   ·rw[aq]at h ⊢
    rcases List.mem_cons.mp h with e | e
    ·exact List.mem_cons.mpr (.inl e)
    ·exact gxI _ (i2 g e)
theorem length_putF (f:Str)(v:V):∀ fs:List (Str×V),(putF f v fs).length<=fs.length+1
 | []=>by simp[putF]
 | (k,x)::r=>by
  have ih:=length_putF f v r
  rw[show putF f v ((k,x)::r)=(if k=f then(k,v)::r else(k,x)::putF f v r)from rfl]
  by_cases hk:k=f
  ·rw[ar hk,aJ,aJ];omega
  ·rw[aj hk,aJ,aJ];omega
theorem RelO.some_of {v:V}{o:Option Value}(r:RelO (some v) o):∃ u,o=some u/\RelV v u:=by
 cases o with
 | none=>exact(show False from r).elim
 | some u=>exact⟨u,rfl,r⟩
theorem RelO.none_of {o:Option Value}(r:RelO none o):o=none:=by
 cases o with
 | none=>rfl
 | some u=>exact(show False from r).elim
theorem handed_of {v:V}{u:Value}(r:RelV v u):PySem.W.handedIn u=true:=by
 cases v with
 | non=>cases(show u=Value.none from r);rfl
 | bl b=>cases(show u=Value.bool b from r);rfl
 | int i=>obtain⟨t,e⟩:=(show ∃ t,u=Value.int i t from r);cases e;rfl
 | str x=>obtain⟨t,e⟩:=(show ∃ t,u=Value.str x t from r);cases e;rfl
 | byt b=>obtain⟨t,e⟩:=(show ∃ t,u=Value.bytes b t from r);cases e;rfl
 | flt b=>obtain⟨t,e⟩:=(show ∃ t,u=Value.float b t from r);cases e;rfl
 | ref a=>cases(show u=Value.ref a from r);rfl
 | ty n=>cases(show u=Value.type n from r);rfl
section
variable {P:Program}{w:World}{H H':Hp}{h h':Heap}{a C dx:Addr}{fs fs':List (Str×V)}
theorem ins_get (hok:HOk P w H h)(e:H a=some (.ins C dx fs)):∃ mA,ObjM h a dx C mA/\(∀ f,RelO (fs.lookup f) (mA f))/\PySem.Within mA (fs.map (·.1))/\fs.length<=1000/\H dx=some (.own a):=by
 obtain⟨d,z,ne,ob,mA,n,r,q⟩:=(show ObjOk P w H h a (.ins C dx fs)from hok a _ e)
 exact⟨mA,⟨ob,n,ne⟩,r,q,z,d⟩
end
structure Cls (K:PySem.W.Frag)(C:Addr):Prop where
 pg:PySem.W.plainGet K C Str.empty=true
 hd:PySem.W.hasDictIn K C=true
 po:PySem.W.plainOver K C=true
 sa:PySem.W.findIn K (.ref C) "__setattr__"=some (some (.builtin "object.__setattr__"))
theorem Cls.get {K:PySem.W.Frag}{C:Addr}(c:Cls K C)(f:Str):PySem.W.plainGet K C f=true:=c.pg
def NoAttr (K:PySem.W.Frag)(C:Addr)(f:Str):Prop:=PySem.W.findIn K (.ref C) f=some none
theorem NoAttr.taker {K:PySem.W.Frag}{C:Addr}{f:Str}(n:NoAttr K C f):PySem.W.takerIn K C f=some none:=by
 unfold PySem.W.takerIn
 rw[show PySem.W.findIn K (.ref C) f=some none from n]
 rfl
structure Meth (K:PySem.W.Frag)(C:Addr)(m:Str)(f:Addr):Prop where
 at_:PySem.W.findIn K (.ref C) m=some (some (.ref f))
 fn:PySem.W.isFn K (.ref f)=true
 kp:PySem.W.keepIn K (.ref f)=true
section
variable {X:Cx}{pins:List (Addr×Obj)}{σ:St}{H:Hp}{s:Shared}{a C dx:Addr}{fs:List (Str×V)}{f:Str}{v:V}{A:Around}{E:Value->Shared->Prop}
theorem getattr_ok {b:Bool}{Q:Value->Shared->Prop}(I:Inv X pins σ H s)(e:H a=some (.ins C dx fs))(c:Cls X.K C)(n:NoAttr X.K C f)(l:fs.lookup f=some v)
 (h:∀ u s',Inv X pins σ H s'->RelV v u->Q u s'):wpAny (model X.prog X.w) A (getAttr (.ref a) f b) Q E s:=by
 obtain⟨mA,O,r,_,_,_⟩:=ins_get I.hok e
 obtain⟨u,hu,ru⟩:=RelO.some_of (v:=v) (o:=mA f) (by rw[<- l];exact r f)
 exact get_map I.kIn O (c.get f) c.hd n hu (handed_of ru) (h u _ (I.tok _) ru)
theorem getmeth_ok {m:Str}{g:Addr}{pl:Sem Bool}{Q:Value×List Value->Shared->Prop}(I:Inv X pins σ H s)(e:H a=some (.ins C dx fs))(c:Cls X.K C)(k:Meth X.K C m g)(l:fs.lookup m=none)
 (h:Q (.ref g,[.ref a]) s):wpAny (model X.prog X.w) A (getMethod (.ref a) m pl) Q E s:=by
 obtain⟨mA,O,r,_,_,_⟩:=ins_get I.hok e
 have hn:mA m=none:=RelO.none_of (by rw[<- l];exact r m)
 exact get_meth I.kIn O (c.get m) k.at_ k.fn hn h
theorem setattr_ok {y:V}{u:Value}{Q:Unit->Shared->Prop}(I:Inv X pins σ H s)(e:H a=some (.ins C dx fs))(c:Cls X.K C)(n:NoAttr X.K C f)(hl:fs.length<1000)(ry:RelV y u)
 (h:∀ s',Inv X pins σ (upd H a (.ins C dx (putF f y fs))) s'->Q () s'):wpAny (model X.prog X.w) A (setAttr (.ref a) f u) Q E s:=by
 obtain⟨mA,O,r,wi,_,ho⟩:=ins_get I.hok e
 have hz:(fs.map (·.1)).length<=sizeLine:=by rw[gxC,sizeLine_eq];omega
 refine set_map I.kIn O c.sa c.po n.taker c.hd wi hz fun h' O' sb=>h _ ?_
 have hd:∃ o,h'.get? dx=some o:=let ⟨o,_,_,e',_⟩:=O'.ns;⟨o,e'⟩
 refine I.write (x:=a) (e:=dx) (by rw[e];exact True.intro) (.inr ho) (fun b q hb z=>(sb.2 b hb).trans z) hd ?_
 refine⟨by rw[upd_ne O.ne];exact ho,?_,O.ne,O'.obj,_,O'.ns,fun g=>?_,fun g hg=>?_⟩
 ·have:=length_putF f y fs;omega
 ·show RelO ((putF f y fs).lookup g) (if g=f then some u else mA g)
  rw[lookup_putF]
  by_cases q:g=f
  ·rw[ar q,ar q];exact ry
  ·rw[aj q,aj q];exact r g
 ·by_cases q:g=f
  ·rw[q];exact(keys_putF f y fs).1
  ·refine(keys_putF f y fs).2 g (wi g fun z=>hg ?_)
   show(if g=f then some u else mA g)=none
   rw[aj q];exact z
theorem Inv.made (I:Inv X pins σ H s):Inv X pins σ (upd (upd H s.heap.objs.size (.own (s.heap.objs.size+1))) (s.heap.objs.size+1) (.ins C s.heap.objs.size []))
 { s with heap:=(s.heap.push PySem.W.emptyDict).push (PySem.W.instObj C s.heap.objs.size)}:=by
 have e1:(s.heap.push PySem.W.emptyDict).get? s.heap.objs.size=some PySem.W.emptyDict:=ak s.heap rfl
 have e2:((s.heap.push PySem.W.emptyDict).push (PySem.W.instObj C s.heap.objs.size)).get? (s.heap.objs.size+1)=some (PySem.W.instObj C s.heap.objs.size):=by
  have:=ak (s.heap.push PySem.W.emptyDict) (o:=PySem.W.instObj C s.heap.objs.size) rfl
  rwa [a6]at this
 have e3:(s.heap.push PySem.W.emptyDict).Ns s.heap.objs.size (fun _=>none):=⟨PySem.W.emptyDict,#[],_,e1,rfl,(fun e he=>absurd he (by simp)),fun _=>rfl⟩
 have I1:=I.laid (a:=s.heap.objs.size) (o:=.own (s.heap.objs.size+1)) (h':=s.heap.push PySem.W.emptyDict) (t':=s.toks) (fun b u q=>gxL _ q) (aa _) ⟨_,e1⟩
 refine I1.laid (a:=s.heap.objs.size+1) (o:=.ins C s.heap.objs.size []) (t':=s.toks) (fun b u q=>gxL _ q) (Nat.le_of_eq (a6 _ _)) ?_
 have ne:s.heap.objs.size≠s.heap.objs.size+1:=ao (bL _)
 refine⟨by rw[upd_ne ne,upd_same],aV _,ne,e2,fun _=>none,(Heap.Ns1.of_empty e3).at fun o q=>gxL _ q,fun _=>True.intro,fun y hy=>absurd rfl hy⟩
theorem attr_of {prog:Program}{w:World}{env:Env}{e:Expr}{f:Str}{pos:Pos}{s:Shared}{Q:Value->Shared->Prop}(hb:attributeBase e f env (eval e env)=eval e env)
 (h:wpAny (model prog w) A (eval e env) (fun o s₁=>wpAny (model prog w) A (getAttr o f true) Q E s₁) E s):wpAny (model prog w) A (eval (.Attribute e f pos) env) Q E s :=
 Attribute_any_ h (by rw[arm_eval_Attribute,hb])
end
def tFld (K:PySem.W.Frag)(ta:TE)(f:Str):TE:=fun σ H Q=>ta σ H fun x H1=>∃ a C dx fs v,x=.ref a/\H1 a=some (.ins C dx fs)/\Cls K C/\NoAttr K C f/\fs.lookup f=some v/\Q v H1
def sFld (K:PySem.W.Frag)(ta tv:TE)(f:Str):TS:=fun D σ H=>tv σ H fun y H1=>ta σ H1 fun x H2=>∃ a C dx fs,x=.ref a/\H2 a=some (.ins C dx fs)/\Cls K C/\NoAttr K C f/\fs.length<1000 /\
 D.nx σ (upd H2 a (.ins C dx (putF f y fs)))
def InOp (X:Cx)(op:Operator)(rd:V->V->Hp->VK->Prop):Prop :=
 ∀(pins:List (Addr×Obj)) (s:Shared) (σ:St) (H:Hp) (x y:V) (u v:Value) (Q:VK),Inv X pins σ H s->RelV x u->RelV y v->rd x y H Q->wpAny (model X.prog X.w) X.A (inplaceOp op u v) (EP X pins σ Q) X.xe s
def sFldAug (K:PySem.W.Frag)(ta tv:TE)(rd:V->V->Hp->VK->Prop)(f:Str):TS:=fun D σ H=>ta σ H fun x H1=>∃ a C dx fs v,x=.ref a/\H1 a=some (.ins C dx fs)/\Cls K C/\NoAttr K C f/\fs.lookup f=some v /\
 tv σ H1 fun y H2=>rd v y H2 fun z H3=>∃ dx' fs',H3 a=some (.ins C dx' fs')/\fs'.length<1000/\D.nx σ (upd H3 a (.ins C dx' (putF f z fs')))
section
variable {X:Cx}{o e value:Expr}{f:Str}{pos pos' tpos:Pos}{ta tv:TE}
theorem pe_fld (he:PE X e ta)(hb:attributeBase e f X.env (eval e X.env)=eval e X.env):PE X (.Attribute e f pos) (tFld X.K ta f):=by
 intro pins s σ H Q I h
 refine attr_of hb (thn (he pins s σ H _ I h) fun u s1 hq4=>?_)
 obtain⟨x,H1,I1,rx,a,C,dx,fs,v,ex,ea,c,n,l,q⟩:=hq4
 subst ex
 obtain rfl:u=Value.ref a:=rx
 exact getattr_ok I1 ea c n l fun u' s2 I2 ru=>⟨v,H1,I2,ru,q⟩
theorem ps_fld (ha:PE X o ta)(hv:PE X value tv)(hs:swapsWith value (some (.Attribute o f pos')) pos.line X.env=pure false):PS X (.Assign [.Attribute o f pos'] value pos) (sFld X.K ta tv f):=by
 intro pins s σ H D I h
 refine plainObj_wpAny_Assign_Attribute (thn (hv pins s σ H _ I h) fun u s1 hq5=>?_) hs
 obtain⟨y,H1,I1,ry,q⟩:=hq5
 refine thn (ha pins s1 σ H1 _ I1 q) fun ov s2 hq6=>?_
 obtain⟨x,H2,I2,rx,a,C,dx,fs,ex,ea,c,n,l,q2⟩:=hq6
 subst ex
 obtain rfl:ov=Value.ref a:=rx
 exact setattr_ok I2 ea c n l ry fun s3 I3=>⟨σ,_,I3,q2⟩
theorem ps_fldaug {op:Operator}{rd:V->V->Hp->VK->Prop}(ha:PE X o ta)(hv:PE X value tv)(hop:InOp X op rd):PS X (.AugAssign (.Attribute o f tpos) op value pos) (sFldAug X.K ta tv rd f):=by
 intro pins s σ H D I h
 refine wpAny_AugAssign_AttributeAny (thn (ha pins s σ H _ I h) fun ov s1 hq0=>?_)
 obtain⟨x,H1,I1,rx,a,C,dx,fs,v,ex,ea,c,n,l,q⟩:=hq0
 subst ex
 obtain rfl:ov=Value.ref a:=rx
 refine getattr_ok I1 ea c n l fun u s2 I2 ru=>thn (hv pins s2 σ H1 _ I2 q) fun w3 s3 hq1=>?_
 obtain⟨y,H2,I3,ry,q3⟩:=hq1
 refine thn (hop pins s3 σ H2 v y u w3 _ I3 ru ry q3) fun w4 s4 hq2=>?_
 obtain⟨z,H3,I4,rz,dx',fs',ea',l',q4⟩:=hq2
 exact setattr_ok I4 ea' c n l' rz fun s5 I5=>⟨σ,_,I5,q4⟩
def rAdd:V->V->Hp->VK->Prop:=fun x y H Q=>∃ i j,x=.int i/\y=.int j/\Q (.int (i+j)) H
theorem in_add:InOp X .Add rAdd:=by
 rintro pins s σ H x y u v Q I rx ry ⟨i,j,rfl,rfl,q⟩
 obtain⟨t,rfl⟩:=(show ∃ t,u=Value.int i t from rx)
 obtain⟨t',rfl⟩:=(show ∃ t',v=Value.int j t' from ry)
 exact PyProof.Rows.iadd_int ⟨.int (i+j),H,I.tok _,⟨_,rfl⟩,q⟩
theorem methcall_of {pl:Sem Bool}{m:Str}{apos:Pos}{args:List Expr}{pins:List (Addr×Obj)}{s:Shared}{σ:St}{H:Hp}{Q:Value->Shared->Prop}{te:TE}(he:PE X e te)(I:Inv X pins σ H s)
 (h:te σ H fun x H1=>∃ a C dx fs g,x=.ref a/\H1 a=some (.ins C dx fs)/\Cls X.K C/\Meth X.K C m g/\fs.lookup m=none /\
   ∀ s1,Inv X pins σ H1 s1->wpAny (model X.prog X.w) X.A (callWith pos (.ref g) [.ref a] (backTo pos (starEach args X.env)) (backToKw pos (keywordEach [] X.env))) Q X.xe s1)
 (ht:eval (.Call (.Attribute e m apos) args [] pos) X.env=(do
   let ov <- eval e X.env
   standAt apos.atName
   let (f,first) <- holding [ov] (getMethod ov m pl)
   callWith pos f first (backTo pos (starEach args X.env)) (backToKw pos (keywordEach [] X.env)))) :
 wpAny (model X.prog X.w) X.A (eval (.Call (.Attribute e m apos) args [] pos) X.env) Q X.xe s:=by
 refine PySem.W.methodCall_KW (pl:=pl) (thn (he pins s σ H _ I h) fun u s1 hq3=>?_) ht
 obtain⟨x,H1,I1,rx,a,C,dx,fs,g,ex,ea,c,k,l,q⟩:=hq3
 subst ex
 obtain rfl:u=Value.ref a:=rx
 exact getmeth_ok I1 ea c k l (q s1 I1)
end
section
variable {X:Cx}{pins:List (Addr×Obj)}{σ:St}{H:Hp}{s:Shared}{A:Around}{E:Value->Shared->Prop}{Q:Value->Shared->Prop}{c:Value}{b:Bool}
inductive TyOf (K:PySem.W.Frag)(H:Hp):V->Value->Prop where
 | non:TyOf K H .non (.type "NoneType")
 | bl (x:Bool):TyOf K H (.bl x) (.type "bool")
 | int (i:Int):TyOf K H (.int i) (.type "int")
 | str (x:Str):TyOf K H (.str x) (.type "str")
 | flt (x:UInt64):TyOf K H (.flt x) (.type "float")
 | lst {a:Addr} {xs:List V} (e:H a=some (.lst xs)):TyOf K H (.ref a) (.type "list")
 | frz {a:Addr} {o:Obj} {xs:List V} (e:H a=some (.frz o (.lst xs))):TyOf K H (.ref a) (.type "list")
 | tup {a:Addr} {xs:List V} (e:H a=some (.tup xs)):TyOf K H (.ref a) (.type "tuple")
 | dK {a:Addr} {kvs:List (Key×V)} (e:H a=some (.dK kvs)):TyOf K H (.ref a) (.type "dict")
 | dT {a:Addr} {kvs:List (List Key×V)} (e:H a=some (.dT kvs)):TyOf K H (.ref a) (.type "dict")
 | ins {a C dx:Addr} {fs:List (Str×V)} (e:H a=some (.ins C dx fs)) (cl:Cls K C) (ha:PySem.W.findIn K (.ref C) "__class__"=some (some (.builtin "object.__class__")))
  (hn:PySem.W.specialIn K (.builtin "object.__class__") "__get__"=some (some (.builtin "getset_descriptor.__get__"))) (htk:PySem.W.takesIn K (.builtin "object.__class__")=some true)
  (hm:PySem.W.mroIn K C (.type "object")=some true):TyOf K H (.ref a) (.ref C)
theorem isinst_ok {x:V}{u t:Value}(I:Inv X pins σ H s)(rx:RelV x u)(ty:TyOf X.K H x t)(e:PySem.W.kitOne X.K t c=some b)(h:∀ tk,Q (.bool b) { s with toks:=tk}) :
 wpAny (model X.prog X.w) A (call (.builtin "isinstance") [u,c]) Q E s:=by
 cases ty with
 | non=>cases(show u=Value.none from rx);exact br PySem.W.kitx_none I.kIn True.intro e (fun z=>nomatch z) h
 | bl y=>cases(show u=Value.bool y from rx);exact br PySem.W.kitx_bool I.kIn True.intro e (fun z=>nomatch z) h
 | int i=>obtain⟨t,q⟩:=(show ∃ t,u=Value.int i t from rx);cases q;exact br PySem.W.kitx_int I.kIn True.intro e (fun z=>nomatch z) h
 | str y=>obtain⟨t,q⟩:=(show ∃ t,u=Value.str y t from rx);cases q;exact br PySem.W.kitx_str I.kIn True.intro e (fun z=>nomatch z) h
 | flt y=>obtain⟨t,q⟩:=(show ∃ t,u=Value.float y t from rx);cases q;exact br PySem.W.kitx_float I.kIn True.intro e (fun z=>nomatch z) h
 | @lst a xs ea =>
  cases(show u=Value.ref a from rx)
  obtain⟨_,_,n,_,h1⟩:=(show ObjOk X.prog X.w H s.heap a (.lst xs)from I.hok a _ ea)
  exact br PySem.W.kitx_list I.kIn ⟨_,h1,rfl⟩ e (fun z=>nomatch z) h
 | @frz a ob xs ea =>
  cases(show u=Value.ref a from rx)
  obtain⟨_,_,_,n,_,h1⟩:=(show ObjOk X.prog X.w H s.heap a (.frz ob (.lst xs))from I.hok a _ ea)
  exact br PySem.W.kitx_list I.kIn ⟨_,h1,rfl⟩ e (fun z=>nomatch z) h
 | @tup a xs ea =>
  cases(show u=Value.ref a from rx)
  obtain⟨_,_,_,p⟩:=(show ObjOk X.prog X.w H s.heap a (.tup xs)from I.hok a _ ea)
  obtain⟨o,h1,h2,_⟩:=p
  exact br PySem.W.kitx_tuple I.kIn ⟨o,h1,h2⟩ e (fun z=>nomatch z) h
 | @dK a kvs ea =>
  cases(show u=Value.ref a from rx)
  obtain⟨_,_,vs,_,p⟩:=(show ObjOk X.prog X.w H s.heap a (.dK kvs)from I.hok a _ ea)
  obtain⟨o,es,ep,h1,h2,_⟩:=p
  exact br PySem.W.kitx_dict I.kIn ⟨o,h1,h2.1⟩ e (fun z=>nomatch z) h
 | @dT a kvs ea =>
  cases(show u=Value.ref a from rx)
  obtain⟨_,_,xs,_,o,es,ep,h1,h2,_⟩:=(show ObjOk X.prog X.w H s.heap a (.dT kvs)from I.hok a _ ea)
  exact br PySem.W.kitx_dict I.kIn ⟨o,h1,h2.1⟩ e (fun z=>nomatch z) h
 | @ins a C dx fs ea cl ha hn htk hm =>
  cases(show u=Value.ref a from rx)
  obtain⟨mA,O,_⟩:=ins_get I.hok ea
  obtain⟨od,J,_⟩:=O.look
  exact br (PySem.W.kitx_own (cl.get _) cl.hd ha hn htk hm) I.kIn J e (fun z=>nomatch z) h
end
structure Room (k:Nat)(A:Around):Prop where
 hd:A.handled=none
 dp:A.depth+3*k+5<recursionLimit
 un:A.units+16*k+200<cLine
theorem Room.mono {j k:Nat}{A:Around}(r:Room k A)(h:j<=k):Room j A:=⟨r.hd,by have:=r.dp;omega,by have:=r.un;omega⟩
theorem Room.deeper {k:Nat}{A:Around}(r:Room (k+1) A)(env:Env):Room k (A.deeper env) :=
 ⟨r.hd,by have:=r.dp;show A.depth+1+3*k+5<_;omega,by have:=r.un;show A.units+3+16*k+200<_;omega⟩
theorem make_depth {A:Around}{C:Addr}{us:List Value}{kw:List (Str×Value)}:(A.under (.builtin "type.__call__" ⟨.ref C::us,kw⟩)).depth=A.depth+1:=by
 first | rfl | simp[Around.under,Code.weight,Code.isCreation,Code.isGuard,Code.isCaller,Code.frames,Code.isFrame,guardIds]
theorem make_units {A:Around}{C:Addr}{us:List Value}{kw:List (Str×Value)}:(A.under (.builtin "type.__call__" ⟨.ref C::us,kw⟩)).units=A.units+1:=by
 first | rfl | simp[Around.under,Code.cUnits,Code.frames,Code.isFrame]
theorem Room.make {k:Nat}{A:Around}(r:Room (k+1) A)(C:Addr)(us:List Value)(kw:List (Str×Value)):Room k (A.under (.builtin "type.__call__" ⟨.ref C::us,kw⟩)) :=
 ⟨r.hd,by have:=r.dp;rw[make_depth];omega,by have:=r.un;rw[make_units];omega⟩
theorem Room.depth {k:Nat}{A:Around}(r:Room k A):A.depth<recursionLimit:=by have:=r.dp;omega
theorem Room.units {k:Nat}{A:Around}(r:Room k A):A.units+64<cLine:=by have:=r.un;omega
def tNil:TA:=fun _ H Q=>Q [] H
def tCons (ta:TE)(tr:TA):TA:=fun σ H Q=>ta σ H fun x H1=>tr σ H1 fun xs H2=>Q (x::xs) H2
section
variable {X:Cx}{e:Expr}{es:List Expr}{te:TE}{t:TA}{pos:Pos}
theorem pa_nil:PA X [] tNil:=fun _ _ _ _ H Q I h=>Calls.spliced_nil ⟨[],H,I,.nil,h⟩
theorem pa_cons (ha:PE X e te)(hr:PA X es t)(hs:starEach (e::es) X.env=(false,eval e X.env)::starEach es X.env:=by rfl):PA X (e::es) (tCons te t):=by
 intro pos pins s σ H Q I h
 rw[hs]
 show wpAny _ _ (spliced ((false,eval e X.env)::backTo pos (starEach es X.env))) _ _ s
 refine Calls.spliced_cons (thn (ha pins s σ H _ I h) fun u s1 hq4=>?_)
 obtain⟨x,H1,I1,r1,q1⟩:=hq4
 exact thn (hr pos pins s1 σ H1 _ I1 q1) fun us s2 hq5=>by obtain⟨xs,H2,I2,r2,q2⟩:=hq5;exact⟨x::xs,H2,I2,.cons r1 r2,q2⟩
def tTup (t:TA):TE:=fun σ H Q=>t σ H fun xs H1=>xs.length<=sizeLine/\∀ p,H1 p=none->Q (.ref p) (upd H1 p (.tup xs))
def tLst (t:TA):TE:=fun σ H Q=>t σ H fun xs H1=>xs.length<=sizeLine/\∀ p,H1 p=none->Q (.ref p) (upd H1 p (.lst xs))
theorem pe_tup {x1}(h:PA X es t):PE X (.Tuple es x1 pos) (tTup t):=by
 intro pins s σ H Q I hq
 refine wpAny_Tuple_spliced (thn (h pos pins s σ H _ I hq) fun us s1 ⟨xs,H1,I1,r,z,q⟩=>⟨by rw[<- r.length];exact z,?_⟩)
 have hf:H1 s1.heap.objs.size=none:=I1.hok.fresh (aa _)
 refine⟨.ref s1.heap.objs.size,upd H1 s1.heap.objs.size (.tup xs),I1.laid (t':=s1.toks) (fun b u e=>gxL _ e) (aa _) ?_,rfl,q _ hf⟩
 exact⟨z,us,r,⟨_,ak _ rfl,rfl,_,rfl⟩⟩
theorem pe_lst (h:PA X es t):PE X (.List es pos) (tLst t):=by
 intro pins s σ H Q I hq
 refine wpAny_List_spliced (thn (h pos pins s σ H _ I hq) fun us s1 ⟨xs,H1,I1,r,z,q⟩=>⟨by rw[<- r.length];exact z,?_⟩)
 have hf:H1 s1.heap.objs.size=none:=I1.hok.fresh (aa _)
 refine⟨.ref s1.heap.objs.size,upd H1 s1.heap.objs.size (.lst xs),I1.laid (t':=s1.toks) (fun b u e=>gxL _ e) (aa _) ?_,rfl,q _ hf⟩
 exact⟨z,us,0,r,ak _ rfl⟩
end
abbrev Sp:=List V->Hp->VK->XK->Prop
abbrev CXT:=List Env->Hp->Shared->XK->Value->Shared->Prop
structure Env0 (P:Program)(w:World)(K:PySem.W.Frag)(mg:Str->Option Value)(base:Heap)(A:Around)(outer:List Env)(s:Shared)(H:Hp):Prop where
 frames:A.frames=some outer
 mod:Mod K mg base
 bs:∀ b o,base.get? b=some o->s.heap.get? b=some o/\H b=none
 bsz:base.objs.size<=s.heap.objs.size
 funs:s.heap.FunFrames base outer
 frf:∀ b∈frs outer,H b=none
 hok:HOk P w H s.heap
 bare:AllBare s.gens
def CE (outer:List Env)(P:Program)(w:World)(H:Hp)(s:Shared)(Q:VK)(u:Value)(s':Shared):Prop :=
 ∃ v H',s'.os=s.os/\AllBare s'.gens/\Un (frs outer) [] H H' s.heap s'.heap/\HOk P w H' s'.heap/\RelV v u/\Q v H'
def CR (CX:CXT)(outer:List Env)(P:Program)(w:World)(H:Hp)(s:Shared)(Q:VK)(E:XK)(r:Result)(s':Shared):Prop :=
 match r with
 | .ok (.ret u)=>CE outer P w H s Q u s'
 | .ok _=>False
 | .error e=>CX outer H s E e s'
structure FnOk (P:Program)(w:World)(K:PySem.W.Frag)(mg:Str->Option Value)(base:Heap)(CX:CXT)(k:Nat)(f:Addr)(fd:FuncData)(ps:List Str)(sp:Sp):Prop where
 len:∀ vs H Q E,sp vs H Q E->vs.length=ps.length
 run:∀(A:Around) (outer:List Env) (s:Shared) (H:Hp) (args:Args) (us:List Value) (vs:List V) (Q:VK) (E:XK),Room k A->Env0 P w K mg base A outer s H->BindsTo s fd args (ps.zip us)->Vals vs us->sp vs H Q E ->
  codeAny (model P w) A (.call (.ref f) args) (CR CX outer P w H s Q E) s
theorem FnOk.mono {P:Program}{w:World}{K:PySem.W.Frag}{mg:Str->Option Value}{base:Heap}{CX:CXT}{j k:Nat}{f:Addr}{fd:FuncData}{ps:List Str}{sp:Sp}(F:FnOk P w K mg base CX j f fd ps sp)(h:j<=k) :
 FnOk P w K mg base CX k f fd ps sp:=⟨F.len,fun A outer s H args us vs Q E hr=>F.run A outer s H args us vs Q E (hr.mono h)⟩
theorem FnOk.imp {P:Program}{w:World}{K:PySem.W.Frag}{mg:Str->Option Value}{base:Heap}{CX:CXT}{k:Nat}{f:Addr}{fd:FuncData}{ps:List Str}{sp sp':Sp}(F:FnOk P w K mg base CX k f fd ps sp)
 (h:∀ vs H Q E,sp' vs H Q E->sp vs H Q E):FnOk P w K mg base CX k f fd ps sp' :=
 ⟨fun vs H Q E q=>F.len vs H Q E (h _ _ _ _ q),fun A outer s H args us vs Q E hr he hb hv hs=>F.run A outer s H args us vs Q E hr he hb hv (h _ _ _ _ hs)⟩
theorem Env0.make {P:Program}{w:World}{K:PySem.W.Frag}{mg:Str->Option Value}{base:Heap}{A:Around}{outer:List Env}{s:Shared}{H:Hp}(e:Env0 P w K mg base A outer s H)(C:Addr)(us:List Value)(kw:List (Str×Value)) :
 Env0 P w K mg base (A.under (.builtin "type.__call__" ⟨.ref C::us,kw⟩)) outer s H:=⟨by first | exact e.frames | (simpa [Around.under,Code.envs,Code.isFrame,pushEnvs]using e.frames),e.mod,e.bs,e.bsz,e.funs,e.frf,e.hok,e.bare⟩
section
variable {X:Cx}{pins:List (Addr×Obj)}{σ:St}{H:Hp}{s s':Shared}
theorem Inv.env0 (I:Inv X pins σ H s):Env0 X.prog X.w X.K X.mg X.base X.A X.stack s H :=
 ⟨I.ok.frames,I.ok.mod,I.bs,aB I.ok.bsz I.sz,I.stack,I.stkFree,I.hok,I.bare⟩
theorem Inv.after {Q:VK}{u:Value}(I:Inv X pins σ H s)(h:CE X.stack X.prog X.w H s Q u s'):EP X pins σ Q u s':=by
 obtain⟨v,H',os,bare,un,hok,r,q⟩:=h
 obtain⟨hh,g,d,t,os'⟩:=s'
 obtain rfl:os'=s.os:=os
 exact⟨v,H',I.call (h':=hh) (g':=g) (d':=d) (t':=t) (ch:=[]) un hok bare (fun b z=>absurd z (by simp)),r,q⟩
end
def tCall (sp:Sp)(dvs:List V)(E:XK)(t:TA):TE:=fun σ H Q=>t σ H fun vs H1=>sp (vs++dvs) H1 Q E
def tMeth (C:Addr)(m:Str)(sp:Sp)(dvs:List V)(E:XK)(ta:TE)(t:TA):TE:=fun σ H Q=>ta σ H fun x H1=>∃ a dx fs,x=.ref a/\H1 a=some (.ins C dx fs)/\fs.lookup m=none /\
 t σ H1 fun vs H2=>sp (x::(vs++dvs)) H2 Q E
def tMake (C:Addr)(sp:Sp)(dvs:List V)(E:XK)(t:TA):TE:=fun σ H Q=>t σ H fun vs H1=>∀ x dx,H1 x=none->H1 dx=none->dx≠x ->
 sp (.ref x::(vs++dvs)) (upd (upd H1 dx (.own x)) x (.ins C dx [])) (fun v H2=>v=.non/\Q (.ref x) H2) E
def Binds (K:PySem.W.Frag)(fd:FuncData)(ps:List Str)(ds:List Value):Prop :=
 ∀(s:Shared) (us:List Value),K.In s.heap->(us++ds).length=ps.length->BindsTo s fd ⟨us,[]⟩ (ps.zip (us++ds))
theorem Binds.all {K:PySem.W.Frag}{fd:FuncData}{ps:List Str}(h:∀ us:List Value,us.length=ps.length->bindArgs fd ⟨us,[]⟩=pure (ps.zip us)):Binds K fd ps []:=fun s us _ hl=>by
 rw[aZ]at hl ⊢
 exact .of_eq (h us hl)
def Passes (CX:CXT)(X:Cx)(E:XK):Prop:=∀(pins:List (Addr×Obj)) (σ:St) (H:Hp) (s:Shared) (e:Value) (s':Shared),Inv X pins σ H s->CX X.stack H s E e s'->X.xe e s'
section
variable {X:Cx}{CX:CXT}{k:Nat}{f C:Addr}{fd:FuncData}{ps:List Str}{sp:Sp}{dvs:List V}{ds:List Value}{E:XK}{x m:Str}{p pos apos:Pos}{e o:Expr}{es:List Expr}{ta:TE}{t:TA}
theorem run_fn {pins:List (Addr×Obj)}{σ:St}{H:Hp}{s:Shared}{Q:VK}{us:List Value}{vs:List V}(F:FnOk X.prog X.w X.K X.mg X.base CX k f fd ps sp)(hr:Room k X.A)(hb:Binds X.K fd ps ds)(hd:Vals dvs ds)(hx:Passes CX X E)
 (I:Inv X pins σ H s) (r:Vals vs us) (h:sp (vs++dvs) H Q E):wpAny (model X.prog X.w) X.A (call (.ref f) us) (EP X pins σ Q) X.xe s:=by
 have r2:Vals (vs++dvs) (us++ds):=r.append hd
 have hl:(us++ds).length=ps.length:=by rw[<- r2.length];exact F.len _ _ _ _ h
 refine wpAny_call (codeAny_mono (F.run X.A X.stack s H ⟨us,[]⟩ (us++ds) (vs++dvs) Q E hr I.env0 (hb s us I.kIn hl) r2 h) fun r s' hq=>?_)
 cases r with
 | error e=>exact hx pins σ H s e s' I hq
 | ok fl =>
  cases fl with
  | ret u=>exact I.after hq
  | next=>exact False.elim hq
  | brk=>exact False.elim hq
  | cont=>exact False.elim hq
theorem pe_call (F:FnOk X.prog X.w X.K X.mg X.base CX k f fd ps sp)(hr:Room k X.A)(hg:Gl X x)(hm:X.mg x=some (.ref f))(hk:PySem.W.keepIn X.K (.ref f)=true)(hb:Binds X.K fd ps ds)(hd:Vals dvs ds)(hx:Passes CX X E)
 (ha:PA X (e::es) t) (hdb:(x==("__debug__" : Str))=false:=by decide) (he:starEach (e::es) X.env=(false,eval e X.env)::starEach es X.env:=by rfl) (hpl:(backTo pos (starEach es X.env)).any (·.1)=false:=by rfl) :
 PE X (.Call (.Name x p) (e::es) [] pos) (tCall sp dvs E t):=by
 intro pins s σ H Q I h
 refine bE (ld_glob I hg hm ?_ hdb)
 refine cm (h₀:=X.base) I.ok.mod.kin hk (thn (ha pos pins s σ H _ I h) fun us s1 hq1=>?_) he hpl
 obtain⟨vs,H1,I1,r,q⟩:=hq1
 refine⟨I1.kIn,?_⟩
 exact run_fn F hr hb hd hx I1 r q
theorem pe_meth {pl:Sem Bool}(he:PE X o ta)(c:Cls X.K C)(hm:Meth X.K C m f)(F:FnOk X.prog X.w X.K X.mg X.base CX k f fd ps sp)(hr:Room k X.A)(hb:Binds X.K fd ps ds)(hd:Vals dvs ds)(hx:Passes CX X E)(ha:PA X (e::es) t)
 (hst:starEach (e::es) X.env=(false,eval e X.env)::starEach es X.env:=by rfl) (hpl:(backTo pos (starEach es X.env)).any (·.1)=false:=by rfl)
 (ht:eval (.Call (.Attribute o m apos) (e::es) [] pos) X.env=(do
   let ov <- eval o X.env
   standAt apos.atName
   let (f,first) <- holding [ov] (getMethod ov m pl)
   callWith pos f first (backTo pos (starEach (e::es) X.env)) (backToKw pos (keywordEach [] X.env))):=by rfl) :
 PE X (.Call (.Attribute o m apos) (e::es) [] pos) (tMeth C m sp dvs E ta t):=by
 intro pins s σ H Q I h
 refine PySem.W.methodCall_KW (pl:=pl) (thn (he pins s σ H _ I h) fun u s1 hq2=>?_) ht
 obtain⟨x,H1,I1,rx,a,dx,fs,ex,ea,l,q⟩:=hq2
 subst ex
 obtain rfl:u=Value.ref a:=rx
 refine getmeth_ok I1 ea c hm l ?_
 refine cm (first:=[.ref a]) (h₀:=X.base) I.ok.mod.kin hm.kp (thn (ha pos pins s1 σ H1 _ I1 q) fun us s2 hq3=>?_) hst hpl
 obtain⟨vs,H2,I2,r,q2⟩:=hq3
 refine⟨I2.kIn,?_⟩
 exact run_fn (us:=.ref a::us) (vs:=.ref a::vs) F hr hb hd hx I2 (.cons rfl r) q2
theorem pe_meth0 {pl:Sem Bool}(he:PE X o ta)(c:Cls X.K C)(hm:Meth X.K C m f)(F:FnOk X.prog X.w X.K X.mg X.base CX k f fd ps sp)(hr:Room k X.A)(hb:Binds X.K fd ps ds)(hd:Vals dvs ds)(hx:Passes CX X E)
 (ht:eval (.Call (.Attribute o m apos) [] [] pos) X.env=(do
   let ov <- eval o X.env
   standAt apos.atName
   let (f,first) <- holding [ov] (getMethod ov m pl)
   callWith pos f first (backTo pos (starEach [] X.env)) (backToKw pos (keywordEach [] X.env))):=by rfl) :
 PE X (.Call (.Attribute o m apos) [] [] pos) (tMeth C m sp dvs E ta tNil):=by
 intro pins s σ H Q I h
 refine PySem.W.methodCall_KW (pl:=pl) (thn (he pins s σ H _ I h) fun u s1 hq4=>?_) ht
 obtain⟨x,H1,I1,rx,a,dx,fs,ex,ea,l,q⟩:=hq4
 subst ex
 obtain rfl:u=Value.ref a:=rx
 refine getmeth_ok I1 ea c hm l ?_
 exact PySem.W.callWith_K0 (first:=[.ref a]) I1.kIn hm.kp (run_fn (us:=[.ref a]) (vs:=[.ref a]) F hr hb hd hx I1 (.cons rfl .nil) q)
structure Mk (K:PySem.W.Frag)(C f:Addr):Prop where
 makes:PySem.W.makesIn K C=true
 init:PySem.W.findIn K (.ref C) "__init__"=some (some (.ref f))
 fn:PySem.W.isFn K (.ref f)=true
 kp:PySem.W.keepIn K (.ref C)=true
theorem run_make {pins:List (Addr×Obj)}{σ:St}{H:Hp}{s:Shared}{Q:VK}{us:List Value}{vs:List V}(M:Mk X.K C f)(F:FnOk X.prog X.w X.K X.mg X.base CX k f fd ps sp)(hr:Room (k+1) X.A)(hb:Binds X.K fd ps ds)(hd:Vals dvs ds)
 (hx:Passes CX X E) (I:Inv X pins σ H s) (r:Vals vs us)
 (h:∀ x dx,H x=none->H dx=none->dx≠x->sp (.ref x::(vs++dvs)) (upd (upd H dx (.own x)) x (.ins C dx [])) (fun v H2=>v=.non/\Q (.ref x) H2) E) :
 wpAny (model X.prog X.w) X.A (call (.ref C) us) (EP X pins σ Q) X.xe s:=by
 have hq:=h (s.heap.objs.size+1) s.heap.objs.size (I.hok.fresh (Nat.le_succ _)) (I.hok.fresh (aa _)) (ao (bL _))
 have I2:=Inv.made (C:=C) I
 have r2:Vals (V.ref (s.heap.objs.size+1)::(vs++dvs)) (Value.ref (s.heap.objs.size+1)::(us++ds)):=.cons rfl (r.append hd)
 have hl:(Value.ref (s.heap.objs.size+1)::us++ds).length=ps.length:=by
  have e:=r2.length
  rw[F.len _ _ _ _ hq]at e
  exact e.symm
 refine wpAny_call (make_map (f:=f) I.kIn M.makes M.init (beq_iff_eq.mp M.fn) (codeAny_mono (F.run _ X.stack _ _ ⟨Value.ref (s.heap.objs.size+1)::us,[]⟩ (Value.ref (s.heap.objs.size+1)::(us++ds)) _ _ E (hr.make C us [])
  (I2.env0.make C us []) (hb _ (Value.ref (s.heap.objs.size+1)::us) I2.kIn hl) r2 hq) fun r s' hq'=>?_))
 cases r with
 | error e=>exact hx pins σ _ _ e s' I2 hq'
 | ok fl =>
  cases fl with
  | ret u =>
   obtain⟨v,H',I3,rv,ev,q3⟩:=I2.after hq'
   subst ev
   exact⟨rv,⟨V.ref (s.heap.objs.size+1),H',I3,rfl,q3⟩⟩
  | next=>exact False.elim hq'
  | brk=>exact False.elim hq'
  | cont=>exact False.elim hq'
theorem pe_make (M:Mk X.K C f)(F:FnOk X.prog X.w X.K X.mg X.base CX k f fd ps sp)(hr:Room (k+1) X.A)(hg:Gl X x)(hm:X.mg x=some (.ref C))(hb:Binds X.K fd ps ds)(hd:Vals dvs ds)(hx:Passes CX X E)
 (ha:PA X (e::es) t) (hdb:(x==("__debug__" : Str))=false:=by decide) (he:starEach (e::es) X.env=(false,eval e X.env)::starEach es X.env:=by rfl) (hpl:(backTo pos (starEach es X.env)).any (·.1)=false:=by rfl) :
 PE X (.Call (.Name x p) (e::es) [] pos) (tMake C sp dvs E t):=by
 intro pins s σ H Q I h
 refine bE (ld_glob I hg hm ?_ hdb)
 refine cm (h₀:=X.base) I.ok.mod.kin M.kp (thn (ha pos pins s σ H _ I h) fun us s1 hq5=>?_) he hpl
 obtain⟨vs,H1,I1,r,q⟩:=hq5
 refine⟨I1.kIn,?_⟩
 exact run_make M F hr hb hd hx I1 r q
end
structure FnScope (N P:List Str)(sc:Scope):Prop where
 kind:sc.kind=.function
 co:sc.isCoroutine=false
 gen:sc.isGenerator=false
 nd:N.Nodup
 pre:N.take P.length=P
 par:∀ x∈P,sc.names.lookup x=some .local\/sc.names.lookup x=some .cell
 nofree:∀ y∈sc.names,y.2≠.free
theorem bindL_out {kindOf:Str->Option NameKind}{x:Str}:∀ {binds:List (Str×Value)} {m:Str->Option Value},(∀ v,(x,v)∉binds)->bindL kindOf binds m x=m x
 | [],_,_=>rfl
 | (n,v)::r,m,h=>by
  unfold bindL
  rw[bindL_out fun w hw=>h w (gxI _ hw)]
  split
  ·have:x≠n:=by rintro rfl;exact h v aC
   simp[this]
  ·rfl
theorem bindC_out {kindOf:Str->Option NameKind}{x:Str}:∀ {binds:List (Str×Value)} {m:Str->Option Value},(∀ v,(x,v)∉binds)->bindC kindOf binds m x=m x
 | [],_,_=>rfl
 | (n,v)::r,m,h=>by
  unfold bindC
  rw[bindC_out fun w hw=>h w (gxI _ hw)]
  split
  ·rfl
  ·have:x≠n:=by rintro rfl;exact h v aC
   simp[this]
theorem bindL_get {kindOf:Str->Option NameKind}{x:Str}{v:Value}:∀ {P:List Str} {vs:List Value} {i:Nat} {m:Str->Option Value},P.Nodup->P[i]?=some x->vs[i]?=some v->kindOf x=some .local ->
 bindL kindOf (P.zip vs) m x=some v
 | [],_,_,_,_,h,_,_=>by simp at h
 | _::_,[],_,_,_,_,h,_=>by simp at h
 | p::P,w::vs,0,m,nd,h1,h2,hk=>by
  simp at h1 h2;subst h1;subst h2
  show bindL kindOf ((p,w)::P.zip vs) m p=_
  unfold bindL
  rw[bindL_out fun v hv=>(List.nodup_cons.mp nd).1 (List.of_mem_zip hv).1,ar hk]
  simp
 | p::P,w::vs,i+1,m,nd,h1,h2,hk=>by
  show bindL kindOf ((p,w)::P.zip vs) m x=_
  unfold bindL
  exact bindL_get (i:=i) (List.nodup_cons.mp nd).2 (by simpa using h1) (by simpa using h2) hk
theorem bindC_get {kindOf:Str->Option NameKind}{x:Str}{v:Value}:∀ {P:List Str} {vs:List Value} {i:Nat} {m:Str->Option Value},P.Nodup->P[i]?=some x->vs[i]?=some v->kindOf x≠some .local ->
 bindC kindOf (P.zip vs) m x=some v
 | [],_,_,_,_,h,_,_=>by simp at h
 | _::_,[],_,_,_,_,h,_=>by simp at h
 | p::P,w::vs,0,m,nd,h1,h2,hk=>by
  simp at h1 h2;subst h1;subst h2
  show bindC kindOf ((p,w)::P.zip vs) m p=_
  unfold bindC
  rw[bindC_out fun v hv=>(List.nodup_cons.mp nd).1 (List.of_mem_zip hv).1,aj hk]
  simp
 | p::P,w::vs,i+1,m,nd,h1,h2,hk=>by
  show bindC kindOf ((p,w)::P.zip vs) m x=_
  unfold bindC
  exact bindC_get (i:=i) (List.nodup_cons.mp nd).2 (by simpa using h1) (by simpa using h2) hk
def start (N:List Str)(vs:List V):St:=vs.map some++List.replicate (N.length - vs.length) none
def cxOf (CX:CXT)(P:Program)(w:World)(K:PySem.W.Frag)(mg:Str->Option Value)(base:Heap)(N:List Str)(qual:Str)(scope:Scope)(f:Addr)(cd:Value)(A:Around)(outer:List Env)(s:Shared)(H:Hp)(E:XK):Cx where
 prog:=P
 w:=w
 K:=K
 mg:=mg
 base:=base
 A:=A.deeper (envOfC qual scope s.heap.objs.size f cd)
 N:=N
 s₀:=s
 H₀:=H
 env:=envOfC qual scope s.heap.objs.size f cd
 outer:=outer
 stack:=envOfC qual scope s.heap.objs.size f cd::outer
 ex:=[]
 calm:=true
 fn:=fun _=>true
 pn:=[]
 xe:=fun e s'=>wpAny (model P w) (A.deeper (envOfC qual scope s.heap.objs.size f cd)) (leaving (envOfC qual scope s.heap.objs.size f cd) e) (fun _ s''=>CX outer H s E e s'') (fun e' s''=>CX outer H s E e' s'') s'
theorem cell_has {sc:Scope}{n:Nat}{x:Str}(h:sc.names.lookup x=some .cell):∃ c,(cellsFrom n sc.names []).lookup x=some c:=by
 have q:=cX sc.names n [] (.inl h)
 exact Option.isSome_iff_exists.mp q
theorem inv_start {CX:CXT}{P:Program}{w:World}{K:PySem.W.Frag}{mg:Str->Option Value}{base:Heap}{N ps:List Str}{qual:Str}{scope:Scope}{f:Addr}{cd:Value}{A:Around}{outer:List Env}{s s1:Shared}{H:Hp}{E:XK}{us:List Value}{vs:List V}
 (S:FnScope N ps scope) (hd:A.handled=none) (e0:Env0 P w K mg base A outer s H) (hl:vs.length=ps.length) (r:Vals vs us)
 (x:InCallC s s.heap.objs.size (bindL (envOfC qual scope s.heap.objs.size f cd).kindOf (ps.zip us) fun _=>none) (cellsFrom (s.heap.objs.size+1) scope.names []) (bindC (envOfC qual scope s.heap.objs.size f cd).kindOf (ps.zip us) fun _=>none) s1) :
 Inv (cxOf CX P w K mg base N qual scope f cd A outer s H E) [] (start N vs) H s1:=by
 have hpl:ps.length<=N.length:=by have:=bO List.length S.pre;rw[bp]at this;omega
 obtain⟨h1,tk,rfl,hk⟩:=x.done
 have noA:∀ b:Addr,b∉(cxOf CX P w K mg base N qual scope f cd A outer s H E).ex:=fun b z=>absurd (show b∈([]:List Addr)from z) (by simp)
 refine⟨⟨e0.mod,S.kind,rfl,rfl,aa _,fun y z c h1 h2=>?_,fun y hy=>?_,fun y c _ h=>?_,fun _=>hd,Around.frames_deeper e0.frames,.inr ⟨rfl,rfl⟩,fun b z=>absurd z (noA b),e0.bs,e0.bsz,fun b _ _=>noA b,fun b z=>absurd z (noA b),e0.funs,e0.frf⟩,
  rfl,e0.bare,Un.kept hk,⟨_,x.toInCall.ns,fun i y v h1 h2 h3=>?_⟩,fun y c h=>⟨_,x.cell y c h⟩,e0.hok.fresh (aa _),fun y c h=>?_,fun p hp=>absurd (show p∈([]:List (Addr×Obj))from hp) (by simp),e0.hok.kept hk,?_⟩
 ·exact name_of_addr x.apart (cc h1) (cc h2)
 ·have hy:scope.names.lookup y=some .cell\/scope.names.lookup y=some .free:=hy
  rcases hy with hy | hy
  ·exact cell_has hy
  ·exact absurd rfl (S.nofree _ (cc hy))
 ·exact Nat.le_of_lt (x.above y c (cc h))
 ·have hi:i<vs.length:=by
   unfold start at h2
   by_cases hi:i<vs.length
   ·exact hi
   ·rw[gxG (by simpa using hi)]at h2
    rw[List.getElem?_replicate]at h2
    split at h2 <;> cases h2
  have ha:vs[i]?=some v:=by
   unfold start at h2
   rw[gxF (by simpa using hi),gxH]at h2
   cases e:vs[i]? with
   | none=>rw[e]at h2;cases h2
   | some a=>rw[e]at h2;cases h2;rfl
  obtain⟨u,hu,rv⟩:=r.get ha
  have hp:ps[i]?=some y:=by
   rw[<- S.pre,bw (by omega)];exact h1
  have ndP:ps.Nodup:=by rw[<- S.pre];exact S.nd.sublist (List.take_sublist _ _)
  refine⟨u,rv,?_⟩
  rcases S.par y (gxD hp)with k | k
  ·exact .inl ⟨k,bindL_get ndP hp hu k⟩
  ·obtain⟨c,e⟩:=cell_has (n:=s.heap.objs.size+1) k
   refine .inr ⟨.inl k,c,e,?_⟩
   have q:=x.cell y c e
   rw[bindC_get ndP hp hu (by show scope.names.lookup y≠_;rw[k];decide)]at q
   exact q
 ·exact e0.hok.fresh (Nat.le_of_lt (x.above y c (cc h)))
 ·unfold start
  show _=N.length
  rw[gxE,gxC,bA]
  omega
theorem fn_of {CX:CXT}{P:Program}{w:World}{K:PySem.W.Frag}{mg:Str->Option Value}{base:Heap}{k:Nat}{f:Addr}{name qual:Str}{params:Arguments}{body:List Stmt}{scope:Scope}{dV kV doc pm cdv ct oc:Value}{an od:Option Addr}
 {osl:Array (Option Value)} {N ps:List Str} {sp:Sp} (lk:K.lookup f=some ⟨oc,od,.func (PySem.W.fnOf name qual params body scope dV kV doc pm an cdv ct),osl⟩) (hcd:PySem.W.codeIn K cdv qual=true) (S:FnScope N ps scope)
 (len:∀ vs H Q E,sp vs H Q E->vs.length=ps.length)
 (hbody:∀(A:Around) (outer:List Env) (s:Shared) (H:Hp) (vs:List V) (Q:VK) (E:XK),Room k (A.deeper (envOfC qual scope s.heap.objs.size f cdv))->sp vs H Q E ->
   ∃ t,PSs (cxOf CX P w K mg base N qual scope f cdv A outer s H E) body t/\t { nx:=fun _ H'=>Q .non H',rt:=Q} (start N vs) H) :
 FnOk P w K mg base CX (k+1) f (PySem.W.fnOf name qual params body scope dV kV doc pm an cdv ct) ps sp:=by
 refine⟨len,fun A outer s H args us vs Q E hr e0 hb r hsp=>?_⟩
 have hl:=len _ _ _ _ hsp
 have KX:K.In s.heap:=e0.mod.kin.keeps fun b o e=>(e0.bs b o e).1
 have lim:s.heap.NoLimit:=e0.mod.nolimit.keeps fun b o e=>(e0.bs b o e).1
 have hkind:∀ y∈ps.zip us,scope.names.lookup y.1=some .local\/(scope.names.lookup y.1=some .cell/\((cellsFrom (s.heap.objs.size+1) scope.names []).lookup y.1).isSome=true):=fun⟨n,v⟩ hy=>by
  rcases S.par n (List.of_mem_zip hy).1 with q | q
  ·exact .inl q
  ·exact .inr ⟨q,cX _ _ _ (.inl q)⟩
 refine codeAny_call_function hr.depth (KX _ _ lk) rfl S.co S.gen rfl (PySem.W.codeRec_of KX hcd) (hb _ _ _ _ ?_)
 refine wpAny_newFunctionEnv_cells S.kind hkind fun env he s1 x=>?_
 subst he
 refine⟨lim.keeps x.toInCall.keep,codeAny_func ?_⟩
 obtain⟨t,ht,hq⟩:=hbody A outer s H vs Q E (hr.deeper _) hsp
 have I:Inv (cxOf CX P w K mg base N qual scope f cdv A outer s H E) [] (start N vs) H s1:=inv_start S hr.hd e0 hl r x
 refine a9 (ht [] s1 (start N vs) H _ I hq) (fun fl s' hs=>?_) fun e s' hs=>hs
 have fin:∀ {σ':St} {H':Hp} {v:V} {u:Value},Inv (cxOf CX P w K mg base N qual scope f cdv A outer s H E) [] σ' H' s'->RelV v u->Q v H'->CE outer P w H s Q u s' :=
  fun {σ' H' v u} J rv q=>⟨v,H',J.os,J.bare,J.base,J.hok,rv,q⟩
 cases fl with
 | ret u =>
  obtain⟨v,σ',H',J,rv,q⟩:=hs
  exact fin J rv q
 | next =>
  obtain⟨σ',H',J,q⟩:=hs
  exact fin (v:=V.non) (u:=Value.none) J rfl q
 | brk =>
  obtain⟨_,_,_,q⟩:=hs
  exact False.elim q
 | cont =>
  obtain⟨_,_,_,q⟩:=hs
  exact False.elim q
section
variable {X:Cx}{x:Str}{p pos:Pos}{e:Expr}{es:List Expr}{t:TA}{id T:String}{r:List V->Hp->VK->Prop}
def tCB (r:List V->Hp->VK->Prop)(t:TA):TE:=fun σ H Q=>t σ H fun vs H1=>r vs H1 Q
theorem pe_callB (hc:CallR X (.builtin id) r)(hg:Gl X x)(hm:X.mg x=none)(hv:bootBuiltins x=some (.builtin id))(ha:PA X (e::es) t)(hn:x ≠ "__name__":=by decide)(hdb:(x==("__debug__" : Str))=false:=by decide)
 (he:starEach (e::es) X.env=(false,eval e X.env)::starEach es X.env:=by rfl) (hpl:(backTo pos (starEach es X.env)).any (·.1)=false:=by rfl):PE X (.Call (.Name x p) (e::es) [] pos) (tCB r t):=by
 intro pins s σ H Q I h
 refine bE (ld_blt I hg hm hv ?_ hn hdb)
 exact PyProof.Rows.callWith_builtin1 (thn (ha pos pins s σ H _ I h) fun us s1 hq6=>by obtain⟨vs,H1,I1,r1,q1⟩:=hq6;exact hc pins s1 σ H1 vs us Q I1 r1 q1) he hpl
theorem pe_callTy (hc:CallR X (.type T) r)(hg:Gl X x)(hm:X.mg x=none)(hv:bootBuiltins x=some (.type T))(ha:PA X (e::es) t)(hn:x ≠ "__name__":=by decide)(hdb:(x==("__debug__" : Str))=false:=by decide)
 (he:starEach (e::es) X.env=(false,eval e X.env)::starEach es X.env:=by rfl) (hpl:(backTo pos (starEach es X.env)).any (·.1)=false:=by rfl):PE X (.Call (.Name x p) (e::es) [] pos) (tCB r t):=by
 intro pins s σ H Q I h
 refine bE (ld_blt I hg hm hv ?_ hn hdb)
 exact bh (thn (ha pos pins s σ H _ I h) fun us s1 hq0=>by obtain⟨vs,H1,I1,r1,q1⟩:=hq0;exact hc pins s1 σ H1 vs us Q I1 r1 q1) he hpl
end
end L2
namespace HT
open PySem PyProof.Rows
section
variable {prog:Program}{w:World}{A:Around}{E:Value->Shared->Prop}{s:Shared}
def sIx (n d:Nat):Option Int->Nat
 | none=>d
 | some v=>if v<0 then(v+(n:Int)).toNat else min v.toNat n
theorem sIx_none (n d:Nat):sIx n d none=d:=rfl
theorem sIx_nat (n d k:Nat):sIx n d (some (k:Int))=min k n:=by
 show(if(k:Int)<0 then((k:Int)+(n:Int)).toNat else min (k:Int).toNat n)=min k n
 rw[aj (by omega),gxK]
theorem sIx_le (n d:Nat)(hd:d<=n)(o:Option Int):sIx n d o<=n:=by
 cases o with
 | none=>exact hd
 | some v =>
  show(if v<0 then(v+(n:Int)).toNat else min v.toNat n)<=n
  by_cases hv:v<0
  ·rw[ar hv];omega
  ·rw[aj hv];exact Nat.min_le_right _ _
theorem clip_eq (v:Int)(n d:Nat):(if v<0 then max (v+(n:Int)) 0 else min v (n:Int))=((sIx n d (some v):Nat):Int):=by
 show(if v<0 then max (v+(n:Int)) 0 else min v (n:Int))=(((if v<0 then(v+(n:Int)).toNat else min v.toNat n):Nat):Int)
 by_cases hv:v<0
 ·simp only[ar hv];omega
 ·simp only[aj hv];omega
theorem adjust_gen (lo hi:Option Int)(n:Nat):Builtin.Slice.sliceAdjust lo hi 1 (n:Int)=(((sIx n 0 lo:Nat):Int),((sIx n n hi:Nat):Int)):=by
 have h1:¬ ((1:Int)<0):=by omega
 unfold Builtin.Slice.sliceAdjust
 simp only[h1,if_false]
 refine Prod.ext ?_ ?_
 ·cases lo with
  | none=>rfl
  | some v=>exact clip_eq v n 0
 ·cases hi with
  | none=>rfl
  | some v=>exact clip_eq v n n
theorem places_gen (i j:Nat):Builtin.Slice.slicePlaces (i:Int) (j:Int) 1=j - i:=by
 unfold Builtin.Slice.slicePlaces
 have h1:(1:Int)>0:=by omega
 simp only[h1,if_true,Int.ediv_one]
 split <;> omega
theorem slicePart_ {v:Value}{o:Option Int}{Q:Option Int->Shared->Prop}(p:IsPart v o)(h:Q o s):wpAny (model prog w) A (Builtin.Slice.slicePartIndex v) Q E s:=by
 cases p with
 | none=>exact slicePart_none h
 | int i t=>exact slicePart_int h
theorem sliceApplied_gen {sl:Addr}{vl vu:Value}{lo hi:Option Int}{n:Nat}{Q:Int×Int×Nat->Shared->Prop}(hs:s.heap.IsSliceOf sl vl vu .none)(pl:IsPart vl lo)(pu:IsPart vu hi)
 (h:Q (((sIx n 0 lo:Nat):Int),1,sIx n n hi - sIx n 0 lo) s):wpAny (model prog w) A (Builtin.Slice.sliceApplied (.ref sl) (pure (n:Int))) Q E s:=by
 obtain⟨os,hos,hcs,hds⟩:=id hs
 unfold Builtin.Slice.sliceApplied Builtin.Slice.sliceFields
 refine gxM (gxM (aG hos hds (x:=vl) rfl (gxM (aG hos hds (x:=vu) rfl (gxM (aG hos hds (x:=.none) rfl (ae ?_)))))))
 refine gxM (slicePart_none ?_)
 show wpAny _ _ (if((1:Int)==0)=true then _ else _) _ _ s
 rw[aj (by decide)]
 refine gxM (slicePart_ pl (gxM (slicePart_ pu (gxM (ae ?_)))))
 show wpAny _ _ (match Builtin.Slice.sliceAdjust lo hi 1 (n:Int)with | (lo,hi)=>pure (lo,(1:Int),Builtin.Slice.slicePlaces lo hi 1)) _ _ s
 rw[adjust_gen lo hi n]
 show wpAny _ _ (pure (((sIx n 0 lo:Nat):Int),(1:Int),Builtin.Slice.slicePlaces ((sIx n 0 lo:Nat):Int) ((sIx n n hi:Nat):Int) 1)) _ _ s
 rw[places_gen]
 exact ae h
theorem pick_gen (xs:Array Value)(i k:Nat):((List.range k).filterMap fun(m:Nat)=>xs[((i:Int)+(m:Int)*1).toNat]?).toArray=((xs.toList.drop i).take k).toArray:=by
 have e:(fun(m:Nat)=>xs[((i:Int)+(m:Int)*1).toNat]?)=fun m=>xs[i+m]?:=by
  funext m
  have:((i:Int)+(m:Int)*1).toNat=i+m:=by omega
  rw[this]
 rw[e]
 have:=pick_run xs i k
 rw[List.filterMap_map]at this
 have e2:((fun x=>xs[x]?) ∘ fun x=>i+x)=fun m=>xs[i+m]?:=rfl
 rw[e2]at this
 rw[this]
theorem getItem_tuple_cut {t sl:Addr}{items:Array Value}{vl vu:Value}{lo hi:Option Int}{Q:Value->Shared->Prop}(ht:IsTup s.heap t items)(hs:s.heap.IsSliceOf sl vl vu .none)(pl:IsPart vl lo)(pu:IsPart vu hi)
 (hw:¬ (sIx items.size 0 lo=0/\sIx items.size items.size hi=items.size))
 (h:Q (.ref s.heap.objs.size) { s with heap:=s.heap.push { cls:=.type "tuple",data:=.seq ((items.toList.drop (sIx items.size 0 lo)).take (sIx items.size items.size hi - sIx items.size 0 lo)).toArray}})
 (hsz:items.size<=sizeLine):wpAny (model prog w) A (getItem (.ref t) (.ref sl)) Q E s:=by
 have htake:sizeOk (.seq ((items.toList.drop (sIx items.size 0 lo)).take (sIx items.size items.size hi - sIx items.size 0 lo)).toArray):=by
  show((items.toList.drop (sIx items.size 0 lo)).take (sIx items.size items.size hi - sIx items.size 0 lo)).toArray.size<=sizeLine
  rw[ag,bp,bR,bQ]
  omega
 have hj:sIx items.size items.size hi<=items.size:=sIx_le _ _ (aa _) hi
 obtain⟨os,hos,hcs,hds⟩:=id hs
 have hTs:s.TypeIs (.ref sl) "slice":=⟨os,hos,hcs⟩
 unfold getItem
 try with_reducible refine ba ?_
 first | refine gxM (ae ?_) | skip
 refine gxM (wpAny_sequenceKey ht.typeIs (by decide) ?_)
 refine gxM (aW (name:=Str.ofString "__getitem__") ht.typeIs PyProof.Rows.slot_tuple_getitem
  (bt PyProof.Rows.slot_tuple_getitem ht.typeIs entry_tuple_getitem ?_ (args_tuple_getitem _ _)))
 show wpAny _ _ (Builtin.Tuple.tupleItemsOf (.ref t) >>= _) _ _ s
 refine gxM (tupleItemsOf_ ht ?_)
 refine gxM (wpAny_typeOf hTs ?_)
 rw[ar (by decide)]
 refine gxM (sliceApplied_gen hs pl pu ?_)
 have hno:¬ ((((sIx items.size 0 lo:Nat):Int)==0&&(1:Int)==1&&(sIx items.size items.size hi - sIx items.size 0 lo)==items.size)=true):=by
  intro q
  rw[bz,bz]at q
  have q1:((sIx items.size 0 lo:Nat):Int)=0:=eq_of_beq q.1.1
  have q2:sIx items.size items.size hi - sIx items.size 0 lo=items.size:=eq_of_beq q.2
  exact hw ⟨by omega,by omega⟩
 show wpAny _ _ (if(((sIx items.size 0 lo:Nat):Int)==0&&(1:Int)==1&&(sIx items.size items.size hi - sIx items.size 0 lo)==items.size)=true then _ else _) _ _ s
 rw[aj hno,pick_gen]
 first
  | exact gxM (m:=Builtin.Tuple.tupleExact _) (a8 (ae ⟨_,rfl,ae h⟩) htake)
  | exact gxM (m:=Builtin.Tuple.tupleExact _) (a8 (gxM (ae (ae ⟨_,rfl,ae h⟩))) htake)
  | exact gxM (gxM (m:=Builtin.Tuple.tupleExact _) (a8 (ae (ae ⟨_,rfl,ae h⟩)) htake))
  | exact gxM (gxM (m:=Builtin.Tuple.tupleExact _) (a8 (ae ⟨_,rfl,ae h⟩) htake))
end
end HT
namespace L2
open PySem PySem.Spec PyProof.Rows
abbrev TO:=St->Hp->(Option Int->Hp->Prop)->Prop
def PO (X:Cx)(e:Option Expr)(t:TO):Prop :=
 ∀(pins:List (Addr×Obj)) (s:Shared) (σ:St) (H:Hp) (Q:Option Int->Hp->Prop),Inv X pins σ H s->t σ H Q ->
  wpAny (model X.prog X.w) X.A (evalPart e X.env) (fun u s'=>∃ o H',Inv X pins σ H' s'/\IsPart u o/\Q o H') X.xe s
def tNoPart:TO:=fun _ H Q=>Q none H
section
variable {X:Cx}{e:Expr}{te:TE}{lo hi:Option Expr}{tl th:TO}{pos p2:Pos}
theorem po_none:PO X none tNoPart:=by
 intro pins s σ H Q I h
 rw[evalPart_none]
 exact ae ⟨none,H,I,.none,h⟩
def SlR (X:Cx)(r:V->Option Int->Option Int->Hp->VK->Prop):Prop :=
 ∀(pins:List (Addr×Obj)) (s:Shared) (σ:St) (H:Hp) (x:V) (v vl vu:Value) (lo hi:Option Int) (sl:Addr) (Q:VK),Inv X pins σ H s->RelV x v->s.heap.IsSliceOf sl vl vu .none->IsPart vl lo->IsPart vu hi->r x lo hi H Q ->
  ∃ T id,typeLookup (.type T) "__getitem__"=pure (some (.builtin id))/\s.TypeIs v T/\wpAny (model X.prog X.w) X.A (getItem v (.ref sl)) (EP X pins σ Q) X.xe s
def tSl (r:V->Option Int->Option Int->Hp->VK->Prop)(te:TE)(tl th:TO):TE:=fun σ H Q=>te σ H fun x H1=>tl σ H1 fun l H2=>th σ H2 fun u H3=>r x l u H3 Q
theorem pe_slice {r:V->Option Int->Option Int->Hp->VK->Prop}(hr:SlR X r)(he:PE X e te)(hl:PO X lo tl)(hu:PO X hi th):PE X (.Subscript e (.Slice lo hi none p2) pos) (tSl r te tl th):=by
 intro pins s σ H Q I h
 refine Subscript_ (thn (he pins s σ H _ I h) fun v s1 hq1=>?_)
 obtain⟨x,H1,I1,r1,q1⟩:=hq1
 refine wpAny_Slice (thn (hl pins s1 σ H1 _ I1 q1) fun vl s2 hq2=>?_)
 obtain⟨l,H2,I2,pl,q2⟩:=hq2
 refine thn (hu pins s2 σ H2 _ I2 q2) fun vu s3 hq3=>?_
 obtain⟨u,H3,I3,pu,q3⟩:=hq3
 rw[evalPart_none]
 refine ae ?_
 have I4:Inv X pins σ H3 { s3 with heap:=s3.heap.push { cls:=.type "slice",data:=.fields #[vl,vu,.none]}}:=I3.kept (t':=s3.toks) fun b ob q=>gxL _ q
 obtain⟨T,id,hT,ht,hg⟩:=hr pins { s3 with heap:=s3.heap.push { cls:=.type "slice",data:=.fields #[vl,vu,.none]}} σ H3 x v vl vu l u s3.heap.objs.size Q I4 r1 (Heap.IsSliceOf.new ..) pl pu q3
 show wpAny (model X.prog X.w) X.A (subscriptTail e (.Slice lo hi none p2) v (.ref s3.heap.objs.size)) (EP X pins σ Q) X.xe { s3 with heap:=s3.heap.push { cls:=.type "slice",data:=.fields #[vl,vu,.none]}}
 exact tail_any (ops:=[.ref s3.heap.objs.size,v]) ht hT hg (by with_unfolding_all rfl)
def cutV (xs:List V)(lo hi:Option Int):List V:=(xs.drop (HT.sIx xs.length 0 lo)).take (HT.sIx xs.length xs.length hi - HT.sIx xs.length 0 lo)
theorem cutV_length (xs:List V)(lo hi:Option Int):(cutV xs lo hi).length<=xs.length:=by
 unfold cutV
 rw[bp,bR]
 omega
def rSlT (K:PySem.W.Frag):V->Option Int->Option Int->Hp->VK->Prop:=fun x lo hi H Q=>∃ a xs,x=.ref a/\SqT K H a xs /\
 ¬ (HT.sIx xs.length 0 lo=0/\HT.sIx xs.length xs.length hi=xs.length)/\∀ p,H p=none->Q (.ref p) (upd H p (.tup (cutV xs lo hi)))
theorem sl_tup:SlR X (rSlT X.K):=by
 intro pins s σ H x v vl vu lo hi sl Q I rx hs pl pu h
 obtain⟨a,xs,rfl,hx,hw,q⟩:=h
 cases rx
 obtain⟨its,r,ht,hz⟩:=I.tuple hx
 have hlen:its.toArray.size=xs.length:=by rw[ag];exact r.length.symm
 refine⟨"tuple",_,PyProof.Rows.slot_tuple_getitem.lookup,ht.typeIs,?_⟩
 refine HT.getItem_tuple_cut ht hs pl pu (by rw[hlen];exact hw) ?_ (by rw[hlen];exact hz)
 rw[hlen]
 refine⟨.ref s.heap.objs.size,_,I.laid (t':=s.toks) (o:=.tup (cutV xs lo hi)) (fun b ob q=>gxL _ q) (aa _) ?_,rfl,q _ (I.hok.fresh (aa _))⟩
 exact⟨aB (cutV_length xs lo hi) hz,_,(r.drop (HT.sIx xs.length 0 lo)).take (HT.sIx xs.length xs.length hi - HT.sIx xs.length 0 lo),IsTup.new _ _⟩
end
def ixN (n:Nat)(i:Int):Option Nat:=if 0<=i then(if i<n then some i.toNat else none)else if -(n:Int)<=i then some (i+n).toNat else none
def atI {α:Type}(xs:List α)(i:Int):Option α:=(ixN xs.length i).bind fun j=>xs[j]?
theorem ixN_seq {n:Nat}{i:Int}{j:Nat}(h:ixN n i=some j):seqIndex? i n=some j/\j<n /\ -(n:Int)<=i/\i<n:=by
 unfold ixN at h
 by_cases h0:0<=i
 ·rw[ar h0]at h
  by_cases h1:i<n
  ·rw[ar h1]at h
   have e:i.toNat=j:=aI h
   exact⟨by rw[seqIndex_of h0 h1,e],by omega,by omega,h1⟩
  ·rw[aj h1]at h;cases h
 ·rw[aj h0]at h
  by_cases h1:-(n:Int)<=i
  ·rw[ar h1]at h
   have e:(i+n).toNat=j:=aI h
   exact⟨by rw[seqIndex_neg (by omega) h1,e],by omega,h1,by omega⟩
  ·rw[aj h1]at h;cases h
theorem atI_get {α:Type}{xs:List α}{i:Int}{v:α}(h:atI xs i=some v):∃ j,seqIndex? i xs.length=some j/\xs[j]?=some v/\j<xs.length /\ -(xs.length:Int)<=i/\i<xs.length:=by
 unfold atI at h
 cases e:ixN xs.length i with
 | none=>rw[e]at h;cases h
 | some j =>
  rw[e]at h
  obtain⟨h1,h2,h3,h4⟩:=ixN_seq e
  exact⟨j,h1,h,h2,h3,h4⟩
theorem atI_nat {α:Type}{xs:List α}{j:Nat}{v:α}(h:xs[j]?=some v):atI xs (j:Int)=some v:=by
 have hj:j<xs.length:=(gxB h).1
 have e:ixN xs.length (j:Int)=some j:=by
  unfold ixN
  rw[ar (by omega),ar (by omega)];simp
 unfold atI;rw[e];exact h
def PlainIx (b:Expr):Prop:=∀ o i,subscripted b false o i=operate [o,i] (getItem o i)
def IxR (X:Cx)(r:R2):Prop :=
 ∀(value slice:Expr) (pins:List (Addr×Obj)) (s:Shared) (σ:St) (H:Hp) (x y:V) (v u:Value) (Q:VK),Inv X pins σ H s->RelV x v->RelV y u->r x y H Q ->
  subscripted slice false v u=operate [v,u] (getItem v u)->wpAny (model X.prog X.w) X.A (subscriptTail value slice v u) (EP X pins σ Q) X.xe s
def MtR (X:Cx)(id:String)(r:V->List V->Hp->VK->Prop):Prop :=
 ∀(pins:List (Addr×Obj)) (s:Shared) (σ:St) (H:Hp) (x:V) (xs:List V) (v:Value) (us:List Value) (Q:VK),Inv X pins σ H s->RelV x v->Vals xs us->r x xs H Q ->
  wpAny (model X.prog X.w) X.A (call (.builtin id) (v::us)) (EP X pins σ Q) X.xe s
section
variable {X:Cx}{a b:Expr}{ta tb:TE}{pos:Pos}
theorem IxR.or {r r':R2}(h:IxR X r)(h':IxR X r'):IxR X (fun x y H Q=>r x y H Q\/r' x y H Q):=by
 intro value slice pins s σ H x y v u Q I rx ry q hs
 rcases q with q | q
 ·exact h value slice pins s σ H x y v u Q I rx ry q hs
 ·exact h' value slice pins s σ H x y v u Q I rx ry q hs
theorem pe_ix {r:R2}(hr:IxR X r)(ha:PE X a ta)(hb:PE X b tb)(hs:PlainIx b):PE X (.Subscript a b pos) (tOp r ta tb):=by
 intro pins s σ H Q I h
 exact Subscript_ (binT ha hb I h fun v u s2 x y H2 I2 rx ry q=>hr a b pins s2 σ H2 x y v u Q I2 rx ry q (hs _ _))
def rIxL (K:PySem.W.Frag):R2:=fun x y H Q=>∃ p xs i v,x=.ref p/\y=.int i/\SqL K H p xs/\atI xs i=some v/\Q v H
def rIxT (K:PySem.W.Frag):R2:=fun x y H Q=>∃ p xs i v,x=.ref p/\y=.int i/\SqT K H p xs/\atI xs i=some v/\Q v H
def rIxS:R2:=fun x y H Q=>∃ z i c,x=.str z/\y=.int i/\z.length<=sizeLine/\atI z.cps.toList i=some c/\Q (.str ⟨#[c]⟩) H
theorem ix_list:IxR X (rIxL X.K):=by
 intro value slice pins s σ H x y v u Q I rx ry h hs
 obtain⟨p,xs,i,z,rfl,rfl,hq,he,q⟩:=h
 cases rx
 obtain⟨t,rfl⟩:=ry
 obtain⟨its,r,pl,hz⟩:=I.list hq
 obtain⟨j,h1,h2,h3,h4,h5⟩:=atI_get he
 obtain⟨w,ew,rw'⟩:=r.get h2
 have hl:=r.length
 have hn:=line63
 have fin:EP X pins σ Q w s:=⟨z,H,I,rw',q⟩
 by_cases h0:0<=i
 ·have hj:i.toNat=j:=by
   rw[seqIndex_of h0 h5]at h1
   exact aI h1
  exact item_listR pl.isList h0 (by omega) (by rw[hj];simpa using ew) fin hs
 ·have hj:(i+(its.toArray.size:Int)).toNat=j:=by
   rw[seqIndex_neg (by omega) h4]at h1
   rw[ag,<- hl]
   exact aI h1
  exact subscriptTail_builtinR (x:=w) pl.isList.typeIs slot_list_getitem.lookup
   (wpAny_getItem_list_neg (Q:=fun r s'=>r=w/\EP X pins σ Q r s') pl.isList (by omega) (by rw[ag]<;> omega) (by omega) (by rw[hj];simpa using ew) ⟨rfl,fin⟩) hs
theorem ix_tup:IxR X (rIxT X.K):=by
 intro value slice pins s σ H x y v u Q I rx ry h hs
 obtain⟨p,xs,i,z,rfl,rfl,hq,he,q⟩:=h
 cases rx
 obtain⟨t,rfl⟩:=ry
 obtain⟨its,r,pl,hz⟩:=I.tuple hq
 obtain⟨j,h1,h2,h3,h4,h5⟩:=atI_get he
 obtain⟨w,ew,rw'⟩:=r.get h2
 have hl:=r.length
 have hn:=line63
 have fin:EP X pins σ Q w s:=⟨z,H,I,rw',q⟩
 exact subscriptTail_builtinR (x:=w) pl.typeIs slot_tuple_getitem.lookup
  (getItem_tuple (j:=j) (Q:=fun r s'=>r=w/\EP X pins σ Q r s') pl (by omega) (by omega) (by rw[ag,<- hl];exact h1) (by simpa using ew) ⟨rfl,fin⟩) hs
theorem ix_str:IxR X rIxS:=by
 intro value slice pins s σ H x y v u Q I rx ry h hs
 obtain⟨z,i,c,rfl,rfl,hz,he,q⟩:=h
 obtain⟨t,rfl⟩:=rx
 obtain⟨t',rfl⟩:=ry
 obtain⟨j,h1,h2,h3,h4,h5⟩:=atI_get he
 have hl:z.cps.toList.length=z.length:=by simp[Str.length]
 rw[hl]at h1 h4 h5
 have hn:=line63
 exact tail_any (typeIs_str s z t) slot_str_getitem.lookup (getItem_str (c:=c) (by
  have e1:decide (i < -(2 ^ 63:Int))=false:=ai (by omega)
  have e2:decide (i≥2 ^ 63)=false:=ai (by omega)
  rw[e1,e2,Bool.or_false]) (by rw[h1];simpa using h2) ⟨.str ⟨#[c]⟩,H,I.tok _,⟨_,rfl⟩,q⟩) hs
def rIx (K:PySem.W.Frag):R2:=fun x y H Q=>rIxL K x y H Q\/rIxT K x y H Q\/rIxS x y H Q
theorem ix_seq:IxR X (rIx X.K):=ix_list.or (ix_tup.or ix_str)
theorem mapSeq_set (its:List Value)(n j:Nat)(u:Value):Obj.mapSeq (·.setIfInBounds j u) { cls:=.type "list",data:=.seq its.toArray n}={ cls:=.type "list",data:=.seq (its.set j u).toArray n}:=by
 simp[Obj.mapSeq]
theorem Inv.lst {pins:List (Addr×Obj)}{σ:St}{H:Hp}{s:Shared}{p:Addr}{xs:List V}(I:Inv X pins σ H s)(h:H p=some (.lst xs)) :
 ∃(its:List Value) (n:Nat),Vals xs its/\s.heap.get? p=some { cls:=.type "list",data:=.seq its.toArray n}/\xs.length<=sizeLine:=by
 obtain⟨z,its,n,r,e⟩:=I.hok p _ h
 exact⟨its,n,r,e,z⟩
theorem Inv.lstUpd {pins:List (Addr×Obj)}{σ:St}{H:Hp}{s:Shared}{p:Addr}{xs ys:List V}{its its':List Value}{n n':Nat}{f:Obj->Obj}(I:Inv X pins σ H s)(h:H p=some (.lst xs))
 (ho:s.heap.get? p=some { cls:=.type "list",data:=.seq its.toArray n}) (hf:f { cls:=.type "list",data:=.seq its.toArray n}={ cls:=.type "list",data:=.seq its'.toArray n'}) (r:Vals ys its') (hz:ys.length<=sizeLine) (t:Nat) :
 Inv X pins σ (upd H p (.lst ys)) { s with heap:=s.heap.update p f,toks:=t}:=by
 have e:(s.heap.update p f).get? p=some { cls:=.type "list",data:=.seq its'.toArray n'}:=by
  rw[aY f ho (by rw[hf]<;> rfl),hf]
 refine I.write (x:=p) (e:=p) (by rw[h];trivial) (.inl rfl) (fun b u hb q=>(aL _ _ (aO hb)).trans q) ⟨_,e⟩ ?_
 exact⟨hz,its',n',r,e⟩
def rSetL:V->V->V->Hp->(Hp->Prop)->Prop:=fun o i v H Q=>∃ p xs k j,o=.ref p/\i=.int k/\H p=some (.lst xs)/\ixN xs.length k=some j/\Q (upd H p (.lst (xs.set j v)))
theorem set_list:PSet X rSetL:=by
 intro pins s σ H o i v ov iv u Q I ro ri rv h
 obtain⟨p,xs,k,j,rfl,rfl,hp,hj,q⟩:=h
 cases ro
 obtain⟨t,rfl⟩:=ri
 obtain⟨its,n,r,ho,hz⟩:=I.lst hp
 obtain⟨h1,h2,h3,h4⟩:=ixN_seq hj
 have hl:=r.length
 have hn:=line63
 have I':Inv X pins σ (upd H p (.lst (xs.set j v))) { s with heap:=s.heap.update p (Obj.mapSeq (·.setIfInBounds j u))} :=
  I.lstUpd hp ho (mapSeq_set its n j u) (r.set rv j) (by rw[aE];exact hz) s.toks
 by_cases h0:0<=k
 ·have hk:k.toNat=j:=by
   rw[seqIndex_of h0 h4]at h1
   exact aI h1
  exact PySem.W.ki_setAt ho h0 (by omega) (by rw[ag,<- hl];exact h4) (by rw[hk];exact⟨_,I',q⟩)
 ·have hk:(k+(its.toArray.size:Int)).toNat=j:=by
   rw[seqIndex_neg (by omega) h3]at h1
   rw[ag,<- hl]
   exact aI h1
  exact PySem.W.ki_setBack ho (by omega) (by rw[ag,<- hl];exact h3) (by omega) (by rw[hk];exact⟨_,I',q⟩)
theorem slice_bounds (lo hi:Option Int)(n:Nat):(sliceBounds lo hi none n).1=((HT.sIx n 0 lo:Nat):Int)/\(sliceBounds lo hi none n).2.1=((HT.sIx n n hi:Nat):Int)/\(sliceBounds lo hi none n).2.2=1:=by
 refine⟨?_,?_,rfl⟩
 ·cases lo with
  | none=>simp[sliceBounds,HT.sIx]
  | some i =>
   simp only[sliceBounds,HT.sIx,Option.getD_none,show(1:Int)>0 by decide,if_true]
   by_cases h:i<0
   ·simp only[h,if_true]<;> omega
   ·simp only[h,if_false]<;> omega
 ·cases hi with
  | none=>simp[sliceBounds,HT.sIx]
  | some i =>
   simp only[sliceBounds,HT.sIx,Option.getD_none,show(1:Int)>0 by decide,if_true]
   by_cases h:i<0
   ·simp only[h,if_true]<;> omega
   ·simp only[h,if_false]<;> omega
theorem slicePick_cut (its:List Value)(lo hi:Option Int):slicePick its.toArray lo hi none=((its.drop (HT.sIx its.length 0 lo)).take (HT.sIx its.length its.length hi - HT.sIx its.length 0 lo)).toArray:=by
 obtain⟨h1,h2,h3⟩:=slice_bounds lo hi its.toArray.size
 unfold slicePick
 rw[h1,h2,h3]
 simp only[sliceRange_one,pick_run,ag]<;> rfl
def rSlL (K:PySem.W.Frag):V->Option Int->Option Int->Hp->VK->Prop:=fun x lo hi H Q=>∃ a xs,x=.ref a/\SqL K H a xs/\∀ p,H p=none->Q (.ref p) (upd H p (.lst (cutV xs lo hi)))
theorem sl_list:SlR X (rSlL X.K):=by
 intro pins s σ H x v vl vu lo hi sl Q I rx hs pl pu h
 obtain⟨a,xs,rfl,hx,q⟩:=h
 cases rx
 obtain⟨its,r,ht,hz⟩:=I.list hx
 have hlen:=r.length
 refine⟨"list",_,slot_list_getitem.lookup,ht.isList.typeIs,?_⟩
 refine wpAny_getItem_list_slice ht.isList hs pl pu .none (by simp) ?_ (by rw[ag]<;> omega)
 rw[slicePick_cut,<- hlen]
 refine⟨.ref s.heap.objs.size,_,I.laid (t':=s.toks) (o:=.lst (cutV xs lo hi)) (fun b ob q=>gxL _ q) (aa _) ?_,rfl,q _ (I.hok.fresh (aa _))⟩
 exact⟨aB (cutV_length xs lo hi) hz,_,0,(r.drop (HT.sIx xs.length 0 lo)).take (HT.sIx xs.length xs.length hi - HT.sIx xs.length 0 lo),ak _ rfl⟩
def flatV:V->Bool
 | .non=>true
 | .bl _=>true
 | .int _=>true
 | .str _=>true
 | _=>false
def eqV:V->V->Bool
 | .non,.non=>true
 | .bl a,.bl b=>a==b
 | .bl a,.int b=>(if a then 1 else 0)==b
 | .int a,.bl b=>a==(if b then 1 else 0)
 | .int a,.int b=>a==b
 | .str a,.str b=>a==b
 | _,_=>false
theorem eqAt_V {A:Around}{s:Shared}{y x:V}{u v:Value}(ry:RelV y u)(rx:RelV x v)(fy:flatV y=true)(fx:flatV x=true):SeqAt.EqAt A s u v (eqV y x):=by
 cases y with
 | non =>
  cases ry
  cases x with
  | non=>cases rx;exact SeqAt.EqAt.same _
  | bl b=>cases rx;exact SeqAt.EqAt.none_bool b
  | int b=>obtain⟨t,rfl⟩:=rx;exact SeqAt.EqAt.none_int b t
  | str b=>obtain⟨t,rfl⟩:=rx;exact SeqAt.EqAt.none_str b t
  | _=>exact absurd (show false=true from fx) av
 | bl a =>
  cases ry
  cases x with
  | non=>cases rx;exact SeqAt.EqAt.bool_none a
  | bl b=>cases rx;exact SeqAt.EqAt.bool_bool a b
  | int b=>obtain⟨t,rfl⟩:=rx;exact SeqAt.EqAt.bool_int a b t
  | str b=>obtain⟨t,rfl⟩:=rx;exact SeqAt.EqAt.bool_str a b t
  | _=>exact absurd (show false=true from fx) av
 | int a =>
  obtain⟨t',rfl⟩:=ry
  cases x with
  | non=>cases rx;exact SeqAt.EqAt.int_none a t'
  | bl b=>cases rx;exact SeqAt.EqAt.int_bool a t' b
  | int b=>obtain⟨t,rfl⟩:=rx;exact SeqAt.EqAt.int_int a t' b t
  | str b=>obtain⟨t,rfl⟩:=rx;exact SeqAt.EqAt.int_str a t' b t
  | _=>exact absurd (show false=true from fx) av
 | str a =>
  obtain⟨t',rfl⟩:=ry
  cases x with
  | non=>cases rx;exact SeqAt.EqAt.str_none a t'
  | bl b=>cases rx;exact SeqAt.EqAt.str_bool a t' b
  | int b=>obtain⟨t,rfl⟩:=rx;exact SeqAt.EqAt.str_int a t' b t
  | str b=>obtain⟨t,rfl⟩:=rx;exact SeqAt.EqAt.str_str a t' b t
  | _=>exact absurd (show false=true from fx) av
 | _=>exact absurd (show false=true from fy) av
def eqU (x:V)(u:Value):Bool:=match u with
 | .none=>eqV .non x
 | .bool b=>eqV (.bl b) x
 | .int i _=>eqV (.int i) x
 | .str z _=>eqV (.str z) x
 | _=>false
theorem eqU_of {x y:V}{u:Value}(r:RelV y u)(f:flatV y=true):eqU x u=eqV y x:=by
 cases y with
 | non=>cases r;rfl
 | bl b=>cases r;rfl
 | int i=>obtain⟨t,rfl⟩:=r;rfl
 | str z=>obtain⟨t,rfl⟩:=r;rfl
 | _=>exact absurd (show false=true from f) av
theorem any_eqU {x:V}:∀ {xs:List V} {us:List Value},Vals xs us->xs.all flatV=true->us.any (eqU x)=xs.any fun y=>eqV y x
 | _,_,.nil,_=>rfl
 | y::xs,u::us,.cons r t,f=>by
  rw[cI,bz]at f
  rw[bN,bN,eqU_of r f.1,any_eqU t f.2]
theorem mem_eqAt {A:Around}{s:Shared}{x:V}{v:Value}(rx:RelV x v)(fx:flatV x=true):∀ {xs:List V} {us:List Value},Vals xs us->xs.all flatV=true->∀ u∈us,SeqAt.EqAt A s u v (eqU x u)
 | _,_,.nil,_=>fun u hu=>by cases hu
 | y::xs,u::us,.cons r t,f=>fun u' hu=>by
  rw[cI,bz]at f
  rcases List.mem_cons.mp hu with rfl | hu
  ·rw[eqU_of r f.1];exact eqAt_V r rx f.1 fx
  ·exact mem_eqAt rx fx t f.2 u' hu
def inV (x:V)(xs:List V):Bool:=xs.any fun y=>eqV y x
def rIn (K:PySem.W.Frag)(neg:Bool):R2:=fun x y H Q=>∃ p xs,y=.ref p/\(SqL K H p xs\/SqT K H p xs)/\flatV x=true/\xs.all flatV=true/\Q (.bl (if neg then !inV x xs else inV x xs)) H
theorem op_in_seq:OpR X (compareOp .In) (rIn X.K false):=by
 intro pins s σ H x y v u Q I rx ry h
 obtain⟨p,xs,rfl,hq,fx,fs,q⟩:=h
 cases ry
 rcases hq with hq | hq
 ·obtain⟨its,r,pl,hz⟩:=I.list hq
  refine SeqAt.in_listAt (eqU x) pl.isList (fun w hw=>mem_eqAt rx fx r fs w (by simpa using hw)) ⟨.bl _,H,I,rfl,?_⟩
  rw[show its.toArray.any (eqU x)=its.any (eqU x) by simp,any_eqU r fs]
  exact q
 ·obtain⟨its,r,pl,hz⟩:=I.tuple hq
  refine SeqAt.in_tupleAt (eqU x) pl (fun w hw=>mem_eqAt rx fx r fs w (by simpa using hw)) ⟨.bl _,H,I,rfl,?_⟩
  rw[show its.toArray.any (eqU x)=its.any (eqU x) by simp,any_eqU r fs]
  exact q
theorem call_len_seq:CallR X (.builtin "len") (fun xs H Q=>∃ p ys,xs=[.ref p]/\(SqL X.K H p ys\/SqT X.K H p ys)/\Q (.int ys.length) H):=by
 intro pins s σ H xs us Q I r h
 obtain⟨p,ys,rfl,hq,q⟩:=h
 obtain⟨u,rfl,rx⟩:=vals1 r
 cases rx
 have hn:=line63
 rcases hq with hq | hq
 ·obtain⟨its,r',pl,hz⟩:=I.list hq
  have hlen:=r'.length
  exact Calls.call_len_list pl.isList (by simp only[ag]<;> omega) ⟨.int ys.length,H,I.tok _,⟨s.toks+1,by rw[ag,hlen]⟩,q⟩
 ·obtain⟨its,r',pl,hz⟩:=I.tuple hq
  have hlen:=r'.length
  exact len_tuple pl (by simp only[ag]<;> omega) ⟨.int ys.length,H,I.tok _,⟨s.toks+1,by rw[ag,hlen]⟩,q⟩
theorem call_len_str:CallR X (.builtin "len") (fun xs H Q=>∃ z,xs=[.str z]/\z.length<=sizeLine/\Q (.int z.length) H):=by
 intro pins s σ H xs us Q I r h
 obtain⟨z,rfl,hz,q⟩:=h
 obtain⟨u,rfl,t,rfl⟩:=vals1 r
 have hn:=line63
 exact len_str (by omega) ⟨.int z.length,H,I.tok _,⟨_,rfl⟩,q⟩
theorem CallR.or {f:Value}{r r':List V->Hp->VK->Prop}(h:CallR X f r)(h':CallR X f r'):CallR X f (fun xs H Q=>r xs H Q\/r' xs H Q):=by
 intro pins s σ H xs us Q I rs q
 rcases q with q | q
 ·exact h pins s σ H xs us Q I rs q
 ·exact h' pins s σ H xs us Q I rs q
theorem call_list_of:CallR X (.type "list") (fun xs H Q=>∃ p ys,xs=[.ref p]/\(SqL X.K H p ys\/SqT X.K H p ys)/\∀ l,H l=none->Q (.ref l) (upd H l (.lst ys))):=by
 intro pins s σ H xs us Q I r h
 obtain⟨p,ys,rfl,hq,q⟩:=h
 obtain⟨u,rfl,rx⟩:=vals1 r
 cases rx
 have fin:∀(its:List Value),Vals ys its->ys.length<=sizeLine->∀(h':Heap) (c':Nat),(∀ b o',s.heap.get? b=some o'->h'.get? b=some o') ->
  h'.get? s.heap.objs.size=some { cls:=.type "list",dict:=none,data:=.seq its.toArray c',slots:=#[]}->EP X pins σ Q (.ref s.heap.objs.size) { s with heap:=h'}:=fun its r' hz h' c' kp e =>
  ⟨.ref s.heap.objs.size,_,I.laid (t':=s.toks) kp (aa _) (show ObjOk X.prog X.w _ h' _ (.lst ys)from⟨hz,its,c',r',e⟩),rfl,q _ (I.hok.fresh (aa _))⟩
 rcases hq with hq | hq
 ·obtain⟨its,r',pl,hz⟩:=I.list hq
  have hlen:=r'.length
  obtain⟨o,ho,hc,n,hd⟩:=pl.isList
  exact call_list_seq p (.inl rfl) ho hc hd (fun h' c' kp e=>fin its r' hz h' c' kp e) (by simp only[ag]<;> omega)
 ·obtain⟨its,r',pl,hz⟩:=I.tuple hq
  have hlen:=r'.length
  obtain⟨o,ho,hc,n,hd⟩:=pl
  exact call_list_seq p (.inr rfl) ho hc hd (fun h' c' kp e=>fin its r' hz h' c' kp e) (by simp only[ag]<;> omega)
def tyV (K:PySem.W.Frag)(T:String)(x:V)(H:Hp):Prop:=match x with
 | .str _=>T = "str"
 | .int _=>T = "int"
 | .ref p=>(T = "list"/\∃ xs,SqL K H p xs)\/(T = "tuple"/\∃ o,K.lookup p=some o/\o.cls=.type "tuple"/\o.dict=none) \/
  (T = "dict"/\((∃ kvs,H p=some (.dK kvs))\/∃ kvs,H p=some (.dT kvs)))\/(T = "set"/\∃ S n,H p=some (.set S n))
 | _=>False
theorem tyV_is {pins:List (Addr×Obj)}{σ:St}{H:Hp}{s:Shared}{T:String}{x:V}{v:Value}(I:Inv X pins σ H s)(r:RelV x v)(ty:tyV X.K T x H) :
 s.TypeIs v T/\∀ a,v=.ref a->∃ ob,s.heap.get? a=some ob/\ob.dict=none:=by
 cases x with
 | str z =>
  obtain⟨t,rfl⟩:=r
  cases(show T = "str" from ty)
  exact⟨typeIs_str s z t,fun _ e=>nomatch e⟩
 | int i =>
  obtain⟨t,rfl⟩:=r
  cases(show T = "int" from ty)
  exact⟨typeIs_int s i t,fun _ e=>nomatch e⟩
 | ref p =>
  cases r
  rcases ty with⟨rfl,xs,hq⟩ | ⟨rfl,o,hk,hc,hd⟩ | ⟨rfl,hk⟩ | ⟨rfl,S,n,hk⟩
  ·obtain⟨its,_,pl,_⟩:=I.list hq
   refine⟨pl.isList.typeIs,fun a e=>?_⟩
   cases e
   obtain⟨o,n,e,c,hd,_⟩:=pl
   exact⟨o,e,hd⟩
  ·refine⟨⟨o,I.kIn p o hk,hc⟩,fun a e=>?_⟩
   cases e
   exact⟨o,I.kIn _ o hk,hd⟩
  ·have z:∃ o,s.heap.get? p=some o/\o.ExactDict:=by
    rcases hk with⟨kvs,hk⟩ | ⟨kvs,hk⟩
    ·obtain⟨_,_,_,_,o,_,_,e,ex,_⟩:=I.hok p _ hk
     exact⟨o,e,ex⟩
    ·obtain⟨_,_,_,_,o,_,_,e,ex,_⟩:=I.hok p _ hk
     exact⟨o,e,ex⟩
   obtain⟨o,e,ex⟩:=z
   refine⟨⟨o,e,ex.1⟩,fun a e2=>?_⟩
   cases e2
   exact⟨o,e,ex.2.1⟩
  ·obtain⟨o,_,_,_,e,ex,_⟩:=I.hok p _ hk
   refine⟨⟨o,e,ex.1⟩,fun a e2=>?_⟩
   cases e2
   exact⟨o,e,ex.2.1⟩
 | _=>exact False.elim ty
def tBM (K:PySem.W.Frag)(T:String)(r:V->List V->Hp->VK->Prop)(to:TE)(t:TA):TE:=fun σ H Q=>to σ H fun x H1=>tyV K T x H1/\t σ H1 fun xs H2=>r x xs H2 Q
variable {o e:Expr}{es:List Expr}{to:TE}{t:TA}{name:Str}{apos cpos:Pos}{T id:String}{r:V->List V->Hp->VK->Prop}
theorem pe_bm (pa:PlainAttrs T)(slot:Slot T name id)(hty:typeOf (.builtin id)=pure (.type "method_descriptor"))(hm:MtR X id r)(ho:PE X o to)(ha:PA X (e::es) t)
 (hbase:attributeBase o name X.env (eval o X.env)=eval o X.env:=by rfl)
 (hfew:((backTo cpos (starEach (e::es) X.env)).all (fun x=>!x.1)&&(backToKw cpos (keywordEach [] X.env)).all (fun x=>x.1.isSome)
   && decide ((e::es).length+([]:List Keyword).length+(if([]:List Keyword).isEmpty then 0 else 1)<30))=true:=by rfl)
 (hline:(apos.endLine==cpos.line)=true:=by rfl) (hs:starEach (e::es) X.env=(false,eval e X.env)::starEach es X.env:=by rfl) (hplain:(backTo cpos (starEach es X.env)).any (·.1)=false:=by rfl) :
 PE X (.Call (.Attribute o name apos) (e::es) [] cpos) (tBM X.K T r to t):=by
 intro pins s σ H Q I h
 refine wpAny_Call_method_late hbase hfew hline rfl (thn (ho pins s σ H _ I h) fun v s1 hq4=>?_)
 obtain⟨x,H1,I1,r1,ty,q1⟩:=hq4
 obtain⟨h1,h2⟩:=tyV_is I1 r1 ty
 refine⟨T,id,pa,slot,hty,h1,h2,?_⟩
 have hA:=ha cpos pins s1 σ H1 _ I1 q1
 rw[hs]at hA ⊢
 refine c6 (by show(false||(backTo cpos (starEach es X.env)).any (·.1))=false;rw[hplain]<;> rfl) (Calls.evalArgs_plain ?_)
 exact thn hA fun us s2 hq5=>by obtain⟨vs,H2,I2,r2,q2⟩:=hq5;exact hm pins s2 σ H2 x vs v us Q I2 r1 r2 q2
end
def MtM (X:Cx)(id:String)(r:V->List V->Hp->VK->Prop):Prop :=
 ∀(pins:List (Addr×Obj)) (s:Shared) (σ:St) (H:Hp) (x:V) (xs:List V) (v:Value) (us:List Value) (Q:VK),Inv X pins σ H s->RelV x v->Vals xs us->r x xs H Q ->
  wpAny (model X.prog X.w) X.A (call (.builtin id) (v::us)) (EP X pins σ Q) X.xe s
theorem Vals.one {x:V}{us:List Value}(h:Vals [x] us):∃ u,us=[u]/\RelV x u:=by
 cases h with
 | cons r t=>cases t;exact⟨_,rfl,r⟩
theorem Vals.two {x y:V}{us:List Value}(h:Vals [x,y] us):∃ u v,us=[u,v]/\RelV x u/\RelV y v:=by
 cases h with
 | cons r t=>obtain⟨v,rfl,q⟩:=Vals.one t;exact⟨_,v,rfl,r,q⟩
section
variable {X:Cx}{pins:List (Addr×Obj)}{σ:St}{H:Hp}{s:Shared}{l b:Addr}{xs ys zs:List V}
theorem Inv.lset {its its':List Value}{n:Nat}{f:Array Value->Array Value}{t':Nat}(I:Inv X pins σ H s)(hH:H l=some (.lst xs))
 (e:s.heap.get? l=some { cls:=.type "list",data:=.seq its.toArray n}) (hf:f its.toArray=its'.toArray) (hv:Vals ys its') (hz:ys.length<=sizeLine) :
 Inv X pins σ (upd H l (.lst ys)) { s with heap:=s.heap.update l (Obj.mapSeq f),toks:=t'}:=by
 have q:=PySem.IsL.update e f
 rw[hf]at q
 refine I.write (x:=l) (e:=l) (by rw[hH];exact trivial) (.inl rfl) (fun b' u hb hu=>(aL s.heap (Obj.mapSeq f) (aO hb)).trans hu) ⟨_,q⟩ ?_
 exact⟨hz,its',_,hv,q⟩
theorem Inv.lnew {its:List Value}{t':Nat}(I:Inv X pins σ H s)(hv:Vals ys its)(hz:ys.length<=sizeLine) :
 Inv X pins σ (upd H s.heap.objs.size (.lst ys)) { s with heap:=s.heap.push { cls:=.type "list",data:=.seq its.toArray},toks:=t'} :=
 I.laid (fun _ _ q=>gxL _ q) (aa _) ⟨hz,its,0,hv,ak _ rfl⟩
theorem Inv.fresh (I:Inv X pins σ H s):H s.heap.objs.size=none:=I.hok.fresh (aa _)
theorem Inv.lstM (I:Inv X pins σ H s)(hH:H l=some (.lst xs)):xs.length<=sizeLine/\∃(its:List Value) (n:Nat),Vals xs its/\xs.length=its.length/\s.heap.get? l=some { cls:=.type "list",data:=.seq its.toArray n}:=by
 obtain⟨z,its,n,r,e⟩:=I.hok l _ hH
 exact⟨z,its,n,r,r.length,e⟩
theorem notLongL {n:Nat}(h:n<=sizeLine):Builtin.List.listTooLong n=false:=by
 unfold Builtin.List.listTooLong
 exact ai (by omega)
end
section
variable {X:Cx}
def rExtend:V->List V->Hp->VK->Prop:=fun x vs H Q=>∃ l b xs zs,x=.ref l/\vs=[.ref b]/\H l=some (.lst xs)/\H b=some (.lst zs)/\xs.length+zs.length<=sizeLine/\Q .non (upd H l (.lst (xs++zs)))
theorem mt_extend:MtM X "list.extend" rExtend:=by
 intro pins s σ H x vs v us Q I rx rv h
 obtain⟨l,b,xs,zs,rfl,rfl,hH,hB,hz,q⟩:=h
 cases rx
 obtain⟨u,rfl,ru⟩:=rv.one
 cases ru
 obtain⟨z,its,n,r,hl,e⟩:=I.lstM hH
 obtain⟨z2,its2,n2,r2,hl2,e2⟩:=I.lstM hB
 have hsz:its.toArray.size+its2.toArray.size<=sizeLine:=by rw[ag,ag];omega
 have hlong:¬ (!its.toArray.isEmpty&&Builtin.List.listTooLong (its.toArray.size+its2.toArray.size))=true:=by
  rw[notLongL hsz,c7]
  exact av
 refine call_meets F.slot_list_extend ⟨_,e,rfl⟩ F.entry_list_extend (F.args_list_extend_2 _ _)
  (AutoSeq1.list_extend_list_list_0 l its.toArray n b its2.toArray n2 hlong (by rw[ag];omega) (by omega)) ⟨e,e2,?_⟩
 refine⟨.non,_,I.lset (its':=its++its2) hH e (by simp) (r.append r2) ?_,rfl,q⟩
 rw[gxE]
 omega
def rCat:R2:=fun x y H Q=>∃ l b xs zs,x=.ref l/\y=.ref b/\H l=some (.lst xs)/\H b=some (.lst zs)/\xs.length+zs.length<=sizeLine/\∀ p,H p=none->Q (.ref p) (upd H p (.lst (xs++zs)))
theorem op_cat:OpR X (binaryOp .Add) rCat:=by
 intro pins s σ H x y v u Q I rx ry h
 obtain⟨l,b,xs,zs,rfl,rfl,hH,hB,hz,q⟩:=h
 cases rx
 cases ry
 obtain⟨z,its,n,r,hl,e⟩:=I.lstM hH
 obtain⟨z2,its2,n2,r2,hl2,e2⟩:=I.lstM hB
 refine PySem.P.add_list e e2 ?_ (by rw[ag,ag];omega)
 have ea:its.toArray++its2.toArray=(its++its2).toArray:=by simp
 rw[ea]
 exact⟨.ref _,_,I.lnew (t':=s.toks) (r.append r2) (by rw[gxE];omega),rfl,q _ I.fresh⟩
end
section
variable {prog:Program}{w:World}{A:Around}{E:Value->Shared->Prop}{s:Shared}
theorem splice_eq (its its2:List Value)(a c:Nat):its.toArray.extract 0 a++its2.toArray++its.toArray.extract c its.toArray.size=(its.take a++its2++its.drop c).toArray:=by
 apply Array.toList_inj.mp
 first
  | (simp
     exact aU (by simp))
  | simp[aU]
  | simp
end
end L2
namespace Att
open PySem PySem.W PySem.Calls PyProof.Rows
theorem ints_of_wellAll {P:Params}{h:Heap}:∀(ns:List Int) (vs:List Value),WellAll P h vs (ns.map WData.int)->IntsAre vs ns:=by
 intro ns
 induction ns with
 | nil =>
  intro vs w
  rw[List.map_nil]at w
  cases w
  exact .nil
 | cons n ns ih =>
  intro vs w
  rw[aq]at w
  cases w with
  | cons a b =>
   cases a
   exact .cons _ _ (ih _ b)
theorem script_of {l:OpenLaw}{n:Nat}(hn:l.most=some n){P:Params}{h:Heap}{args:List WData}{vals:List Value}
 (hpre:l.row.toRowW.claim.pre args=true) (hwl:WellAll P h vals args) :
 ∃ a vs ns,vals=[Value.ref a]/\args=[WData.list (ns.map WData.int)]/\h.get? a=some { cls:=.type "list",data:=.seq vs.toArray}/\IntsAre vs ns/\ns.length<=n:=by
 have hsh:WShape.hasAll [] args [.list .int]=true:=(pre_splitW hpre).1
 have hc:l.pre.holds [] { args:=args}=true:=(pre_splitW hpre).2
 obtain⟨d,r,rfl,h1,h2⟩:=hasAllW_cons hsh
 obtain rfl:=hasAllW_nil h2
 obtain⟨xs,rfl,h3⟩:=hasW_list h1
 obtain⟨ns,rfl⟩:=items_int h3
 have hlen:ns.length<=n:=by
  unfold OpenLaw.pre at hc
  have h4:(WTm.not (.lt (.lit (.int (n:Int))) (.len (.arg 0)))).holds [] { args:=[.list (ns.map .int)]}=true:=by
   have h4:=(holds_andW hc).1
   rw[hn]at h4
   exact h4
  have h5:=condW_of h4 (w_not (w_lt w_lit (w_len_list (w_arg rfl))))
  rw[gxC]at h5
  refine Nat.le_of_not_lt fun q=>?_
  have q':(n:Int)<((ns.length:Nat):Int):=by omega
  first
   | (rw[au q']at h5;exact absurd h5 (by decide))
   | (simp at h5;omega)
 cases hwl with
 | cons w1 w2 =>
  cases w2
  cases w1 with
  | list ho hall=>exact⟨_,_,ns,rfl,rfl,ho,ints_of_wellAll ns _ hall,hlen⟩
theorem post_true (l:OpenLaw)(args:List WData):l.row.toRowW.claim.post args (.bool true) args=true :=
 postW_of (r:=l.row.toRowW) (X:=(true==true))
  (show WShape.has [] (.bool true) .bool=true by first | rfl | decide | simp[WShape.has,WShape.arms,WShape.armsAll])
  (show(WTm.eq .res (.lit (.bool true))).value [] { args:=args,res:=some (.bool true),after:=args}=some (.bool (true==true))from w_eq_bool (w_res rfl) w_lit) rfl
theorem attach_call {l:OpenLaw}{n:Nat}{q:Program}{loose:List Str}{XP:(Str->Option Value)->Heap->Prop}{YP:World->Heap->Prop}{d:DefRec}
 (hn:l.most=some n) (hdf:d.params.defaults=[])
 (call:∀(w:World) (s₀ s₁:Shared) (mg mb:Str->Option Value) (fa:Addr) (o:Obj) (pm cd doc:Value) (a:Addr) (vs:List Value) (ns:List Int),
   Ground q loose [] XP w s₀ mg mb s₁.heap->YP w s₁.heap ->
   s₁.heap.get? fa=some o->o.data=.func (docDef d.name d.params d.body d.scope pm cd doc)->s₁.heap.CodeRec cd d.name->mg d.name=some (.ref fa) ->
   s₁.heap.get? a=some { cls:=.type "list",data:=.seq vs.toArray}->IntsAre vs ns->ns.length<=n->s₁.gens=#[] ->
   codeAny (model l.prog w) callerA (.call (.ref fa) ⟨[.ref a],[]⟩) (fun r s'=>r=.ok (.ret (.bool true))/\OldK s₁.heap s'.heap/\s'.os=s₁.os/\AllBare s'.gens) s₁) :
 WalkO q loose XP YP l.row.toRowW d [] (fun f vs=>PySem.call f vs):=by
 intro w s₀ s₁ mg mb G Y fa o pm cd doc dV kV ho hd hcd hD hmg hg args vals as hpre hlay hrd hwl hlo
 obtain rfl:dV=.none:=Dflts.none hD hdf
 obtain rfl:kV=.none:=Dflts.noKw hD
 obtain⟨a,vs,ns,rfl,rfl,hobj,hints,hlen⟩:=script_of hn hpre hwl
 refine enter_call (codeAny_mono (call w s₀ s₁ mg mb fa o pm cd doc a vs ns G Y ho (fd_plain hd) hcd hmg hobj hints hlen hg) fun r s' hq=>?_)
 obtain⟨rfl,h2,h3,h4⟩:=hq
 exact⟨.inl ⟨.bool true,.bool true,[],rfl,fun _=>rfl,.bool true,post_true l _,fun _=>⟨List.Pairwise.nil,fun _ hm=>(nomatch hm)⟩⟩,h2,h3,h4⟩
end Att
namespace L2
open PySem PySem.Spec PyProof.Rows
theorem vals_ints {vs:List Value}{ns:List Int}(h:IntsAre vs ns):Vals (ns.map V.int) vs:=by
 induction h with
 | nil=>exact .nil
 | cons n t h ih=>exact .cons ⟨t,rfl⟩ ih
def Only (H:Hp):Prop:=∀ b,H b=none\/∃ o xs,H b=some (.frz o (.lst xs))
theorem law_call {P:Program}{w:World}{K:PySem.W.Frag}{mg mb:Str->Option Value}{CX:CXT}{k:Nat}{fa a:Addr}{fd:FuncData}{x:Str}{sp:Sp}{s₁:Shared}{vs:List Value}{ns:List Int}
 (KX:K.In s₁.heap) (hns:s₁.heap.Ns mainGlobals mg) (hb:s₁.heap.Ns builtinsNs mb) (hbb:∀ x:Str,x ≠ "__name__"->mb x=bootBuiltins x) (hlim:s₁.heap.NoLimit) (hg:s₁.gens=#[])
 (ha:s₁.heap.get? a=some { cls:=.type "list",data:=.seq vs.toArray}) (hi:IntsAre vs ns) (hl:ns.length<=sizeLine) (hr:Room k callerA)
 (F:∀ base:Heap,K.In base->base.Ns mainGlobals mg->FnOk P w K mg base CX k fa fd [x] sp) (hbind:∀(s:Shared) (u:Value),BindsTo s fd ⟨[u],[]⟩ [(x,u)])
 (hsp:∀ H:Hp,Only H->SqL K H a (ns.map V.int)->sp [.ref a] H (fun v _=>v=.bl true) fun _ _ _=>False)
 (hCX:∀ H e s',CX [] H s₁ (fun _ _ _=>False) e s'->False) :
 codeAny (model P w) callerA (.call (.ref fa) ⟨[.ref a],[]⟩) (fun r s'=>r=.ok (.ret (.bool true))/\OldK s₁.heap s'.heap/\s'.os=s₁.os/\AllBare s'.gens) s₁:=by
 have rv:=vals_ints hi
 have lenV:=hi.length
 have core:∀ H:Hp,Only H->SqL K H a (ns.map V.int)->HOk P w H s₁.heap->(∀ b,H b≠none->b=a)->(H a≠none->K.lookup a=none) ->
  codeAny (model P w) callerA (.call (.ref fa) ⟨[.ref a],[]⟩) (fun r s'=>r=.ok (.ret (.bool true))/\OldK s₁.heap s'.heap/\s'.os=s₁.os/\AllBare s'.gens) s₁:=by
  intro H hO hS hok hA hK
  have base_of:∀ {b:Addr} {o:Obj},s₁.heap.get? b=some o->H b=none->(hidT s₁.heap H).get? b=some o:=fun e n=>hidT_get e n
  have noA:∀ {b:Addr} {o:Obj} {es:Array DictEntry} {ep:Nat},s₁.heap.get? b=some o->o.data=.dict es ep->H b=none:=fun {b o es ep} e d=>by
   cases q:H b with
   | none=>rfl
   | some u =>
    have e':b=a:=hA b (by rw[q];simp)
    subst e'
    rw[ha]at e;cases e
    have d':Data.seq vs.toArray _=Data.dict es ep:=d
    cases d'
  have nsK:∀ {b:Addr} {m:Str->Option Value},s₁.heap.Ns b m->(hidT s₁.heap H).Ns b m:=fun {b m} hq6=>by obtain⟨o,es,ep,e,d,r⟩:=hq6;exact⟨o,es,ep,base_of e (noA e d),d,r⟩
  have hKb:K.In (hidT s₁.heap H):=fun b o e=>base_of (KX b o e) (by
   cases q:H b with
   | none=>rfl
   | some u =>
    have e':b=a:=hA b (by rw[q];simp)
    subst e'
    rw[hK (by rw[q];simp)]at e;cases e)
  have hM:Mod K mg (hidT s₁.heap H):=⟨hKb,nsK hns,⟨mb,nsK hb,hbb⟩,let ⟨mc,h1,h2⟩:=hlim;⟨mc,nsK h1,h2⟩⟩
  have e0:Env0 P w K mg (hidT s₁.heap H) callerA [] s₁ H:=⟨rfl,hM,fun b o e=>of_hidT e,Nat.le_of_eq (hidT_size _ _),trivial,fun b hb=>absurd (show b∈([]:List Addr)from hb) (by simp),hok,.of_eq hg⟩
  refine codeAny_mono ((F _ hKb (nsK hns)).run callerA [] s₁ H ⟨[.ref a],[]⟩ [.ref a] [.ref a] _ _ hr e0 (hbind s₁ (.ref a)) (.cons rfl .nil) (hsp H hO hS)) fun r s' h=>?_
  cases r with
  | error e=>exact(hCX H e s' h).elim
  | ok fl =>
   cases fl with
   | next=>exact False.elim h
   | brk=>exact False.elim h
   | cont=>exact False.elim h
   | ret u =>
    obtain⟨v,H',os,bare,un,hok',r',q⟩:=h
    have q':v=.bl true:=q
    subst q'
    obtain rfl:u=Value.bool true:=r'
    refine⟨rfl,OldK.of_keep fun b o e=>?_,os,bare⟩
    cases q:H b with
    | none=>exact un.keep b o e q (by intro z;exact absurd (show b∈([]:List Addr)from z) (by simp)) (by simp)
    | some u =>
     rcases hO b with z | ⟨ob,xs,z⟩
     ·rw[q]at z;cases z
     ·have z2:=un.frzs b ob _ z
      obtain⟨e1,_⟩:=hok b _ z
      obtain⟨e2,_⟩:=hok' b _ z2
      rw[e]at e1;cases e1
      exact e2
 cases hk:K.lookup a with
 | some o =>
  have e:=KX a o hk
  rw[ha]at e
  cases e
  refine core (fun _=>none) (fun _=>.inl rfl) (.inr ⟨_,vs.toArray,_,hk,rfl,rfl,rfl,by rw[ag,lenV];exact hl,by simpa using rv⟩) (fun b u z=>by have z':(none:Option HO)=some u:=z;cases z') (fun b z=>absurd rfl z) fun z=>absurd rfl z
 | none =>
  refine core (fun b=>if b=a then some (.frz { cls:=.type "list",data:=.seq vs.toArray} (.lst (ns.map V.int)))else none) (fun b=>?_) (.inl (.inr ⟨{ cls:=.type "list",data:=.seq vs.toArray},ar rfl⟩)) (fun b u z=>?_) (fun b z=>?_) fun _=>hk
  ·by_cases hb:b=a
   ·exact .inr ⟨_,_,ar hb⟩
   ·exact .inl (aj hb)
  ·by_cases hb:b=a
   ·have z':=(ar hb).symm.trans z
    cases z'
    subst hb
    exact⟨ha,by rw[gxC];exact hl,vs,_,rv,ha⟩
   ·have z':=(aj hb).symm.trans z
    cases z'
  ·by_cases hb:b=a
   ·exact hb
   ·exact absurd (aj hb) z
theorem walk_of {l:PySem.W.OpenLaw}{n k:Nat}{q:Program}{loose:List Str}{XP:(Str->Option Value)->Heap->Prop}{YP:World->Heap->Prop}{d:DefRec}{K:Params->PySem.W.Frag}{CX:World->CXT}{sp:World->Sp}{x:Str}
 (hn:l.most=some n) (hn2:n<=sizeLine) (hdf:d.params.defaults=[]) (hr:Room k callerA)
 (hY:∀(w:World) (h:Heap),YP w h->(K w.params).In h)
 (F:∀(w:World) (mg:Str->Option Value) (fa:Addr) (h:Heap),(K w.params).In h->h.Ns mainGlobals mg->mg d.name=some (.ref fa) ->
   ∃ fd:FuncData,(∀(s:Shared) (u:Value),BindsTo s fd ⟨[u],[]⟩ [(x,u)]) /\
    ∀ base:Heap,(K w.params).In base->base.Ns mainGlobals mg->FnOk l.prog w (K w.params) mg base (CX w) k fa fd [x] (sp w))
 (hsp:∀(w:World) (H:Hp) (a:Addr) (ns:List Int),ns.length<=n->Only H->SqL (K w.params) H a (ns.map V.int)->sp w [.ref a] H (fun v _=>v=.bl true) fun _ _ _=>False)
 (hCX:∀(w:World) (H:Hp) (s:Shared) (e:Value) (s':Shared),CX w [] H s (fun _ _ _=>False) e s'->False) :
 PySem.W.WalkO q loose XP YP l.row.toRowW d [] (fun f vs=>PySem.call f vs):=by
 refine Att.attach_call hn hdf fun w s₀ s₁ mg mb fa o pm cd doc a vs ns G Y ho hd hcd hmg hobj hints hlen hg=>?_
 have KX:=hY w _ Y
 obtain⟨fd,hb,hF⟩:=F w mg fa _ KX G.T.g hmg
 exact law_call KX G.T.g G.T.b G.T.builtins G.T.nolimit hg hobj hints (aB hlen hn2) hr hF hb (fun H hO hS=>hsp w H a ns hlen hO hS) fun H e s'=>hCX w H s₁ e s'
def defArgs (s:Stmt):Arguments:=match s with
 | .FunctionDef _ a _ _ _ _ _ _ _ _=>a
 | _=>{ posonlyargs:=[],args:=[],vararg:=none,kwonlyargs:=[],kw_defaults:=[],kwarg:=none,defaults:=[]}
def defBody (s:Stmt):List Stmt:=match s with
 | .FunctionDef _ _ b _ _ _ _ _ _ _=>b
 | _=>[]
def defScope (s:Stmt):Scope:=match s with
 | .FunctionDef _ _ _ _ _ _ sc _ _ _=>sc
 | _=>{ kind:=.function,names:=[],isGenerator:=false,isCoroutine:=false}
abbrev CX0:CXT:=fun _ _ _ _ _ _=>False
abbrev E0:XK:=fun _ _ _=>False
theorem pass0 {X:Cx}:Passes CX0 X E0:=fun _ _ _ _ _ _ _ h=>h.elim
structure Fun (K:PySem.W.Frag)(x qual:Str)(st:Stmt)(f:Addr)(fd:FuncData):Prop where
 ex:∃(oc:Value) (od:Option Addr) (kV doc pm:Value) (an:Option Addr) (cdv ct:Value) (osl:Array (Option Value)),
  fd=PySem.W.fnOf x qual (defArgs st) (defBody st) (defScope st) .none kV doc pm an cdv ct/\K.lookup f=some ⟨oc,od,.func fd,osl⟩/\PySem.W.codeIn K cdv qual=true
 kp:PySem.W.keepIn K (.ref f)=true
section
variable {P:Program}{w:World}{K:PySem.W.Frag}{mg:Str->Option Value}{base:Heap}
theorem Fun.ok {x qual:Str}{st:Stmt}{f:Addr}{fd:FuncData}{N ps:List Str}{k:Nat}{sp:Sp}(F:Fun K x qual st f fd)(S:FnScope N ps (defScope st))(len:∀ vs H Q E,sp vs H Q E->vs.length=ps.length)
 (hbody:∀(cdv:Value) (A:Around) (outer:List Env) (s:Shared) (H:Hp) (vs:List V) (Q:VK) (E:XK),Room k (A.deeper (envOfC qual (defScope st) s.heap.objs.size f cdv))->sp vs H Q E ->
   ∃ t,PSs (cxOf CX0 P w K mg base N qual (defScope st) f cdv A outer s H E).nox (defBody st) t/\t { nx:=fun _ H'=>Q .non H',rt:=Q} (start N vs) H):FnOk P w K mg base CX0 (k+1) f fd ps sp:=by
 obtain⟨oc,od,kV,doc,pm,an,cdv,ct,osl,rfl,lk,hcd⟩:=F.ex
 refine fn_of lk hcd S len fun A outer s H vs Q E hr hsp=>?_
 obtain⟨t,h,q⟩:=hbody cdv A outer s H vs Q E hr hsp
 exact⟨t,h.nox,q⟩
theorem Fun.binds {x qual:Str}{st:Stmt}{f:Addr}{fd:FuncData}{ps:List Str}(F:Fun K x qual st f fd)
 (h:∀(kV doc pm:Value) (an:Option Addr) (cdv ct:Value) (us:List Value),us.length=ps.length->bindArgs (PySem.W.fnOf x qual (defArgs st) (defBody st) (defScope st) .none kV doc pm an cdv ct) ⟨us,[]⟩=pure (ps.zip us)):Binds K fd ps []:=by
 obtain⟨oc,od,kV,doc,pm,an,cdv,ct,osl,rfl,lk,hcd⟩:=F.ex
 exact .all (h kV doc pm an cdv ct)
theorem fun_mk {x qual:Str}{st:Stmt}{f:Addr}{oc:Value}{od an:Option Addr}{osl:Array (Option Value)}{kV doc pm cdv ct:Value}(l:K.lookup f=some ⟨oc,od,.func (PySem.W.fnOf x qual (defArgs st) (defBody st) (defScope st) .none kV doc pm an cdv ct),osl⟩)
 (c:PySem.W.codeIn K cdv qual=true) (k:PySem.W.keepIn K (.ref f)=true):Fun K x qual st f (PySem.W.fnOf x qual (defArgs st) (defBody st) (defScope st) .none kV doc pm an cdv ct):=⟨⟨oc,od,kV,doc,pm,an,cdv,ct,osl,rfl,l,c⟩,k⟩
end
theorem hu_of {A:Around}{k:Nat}(hr:Room k A):A.units+1<cLine:=bV (Nat.add_le_add_left (by decide:1<=64) _) hr.units
section
variable {X:Cx}
theorem pv (i:Nat){x:Str}{pos:Pos}(hN:X.N[i]?=some x:=by rfl)(hv:Vis X.env.scope x:=by first | exact Or.inl rfl | exact Or.inr (Or.inl rfl) | exact Or.inr (Or.inr rfl))(hd:(x==("__debug__" : Str))=false:=by decide)
 (hcd:(x==("__classdict__" : Str))=false:=by decide):PE X (.Name x pos) (tVar i):=pe_var hN hv hd hcd
end
def Same (H H':Hp):Prop:=∀ b o,H b=some o->H' b=some o
theorem Same.refl (H:Hp):Same H H:=fun _ _ h=>h
theorem Same.trans {H H1 H2:Hp}(a:Same H H1)(b:Same H1 H2):Same H H2:=fun c o h=>b c o (a c o h)
theorem Same.free {H H':Hp}(e:Same H H'){l:Addr}(h:H' l=Option.none):H l=Option.none:=by
 cases q:H l with
 | none=>rfl
 | some o =>
  rw[e l o q]at h
  cases h
end L2
namespace L2
open PySem PySem.W PyProof.Rows
noncomputable abbrev twRun:=Fast.tw14082659384304107361
noncomputable abbrev twTab:=Fast.tw14364793385576792824
noncomputable abbrev twSeen:=Fast.tw4187177175401517315
noncomputable abbrev S00 (w:World)(os:OsState):Shared:=⟨boot_heap w.params,#[],boot_drawn,boot_toks,os⟩
theorem boot_size (P:Params):((boot_heap P).isNs mainGlobals,(boot_heap P).objs.size,(boot_heap P).nsMap mainGlobals "__annotations__")=(true,11,some (.ref 6)):=by kernel_rfl
theorem left_of {p q:Program}{loose:List Str}{Xt:Shared->Bool}{α:Type}{Yf:Shared->α}{Ya:World->α}{N M:Nat}
 (e:opening p=plainProg p.main.scope.names) (hN:Nat.ble 600 N=true) (f:∀ s,fenceModules? p s=some s) (le:Nat.ble M N=true)
 (h:∀(w:World) (os:OsState),(twRun twTab p w 11 (some (.ref 6)) M (S00 w os) (topStub p)).map (fun s =>
   (staticsOk (importedModules p.main.body) (boot_heap w.params) s.heap&&namesBound p s.heap&&gensDone s&&laidKept (boot_heap w.params) s.heap,twSeen q loose (importedModules p.main.body) Xt true s,Yf s))=some (true,openGood q loose,Ya w)) :
 LeftO p q loose Xt Yf Ya N:=fun w=>by
 obtain⟨⟨h0,gs,d,k,os⟩,e1,e2⟩:=Option.map_eq_some_iff.mp (boot_open e hN f w)
 obtain⟨rfl,rfl,rfl,rfl⟩:h0=boot_heap w.params/\gs=#[]/\d=boot_drawn/\k=boot_toks:=by simpa using e2
 have b:=boot_size w.params
 simp only[Prod.mk.injEq]at b
 obtain⟨s1,r,e3⟩:=Option.map_eq_some_iff.mp (h w os)
 simp only[Prod.mk.injEq]at e3
 have r':topRun treeTable p w 11 (some (.ref 6)) M (S00 w os) (topStub p)=some s1:=by
  rw[show topRun=twRun from Fast.te14082659384304107361,show treeTable=twTab from Fast.te14364793385576792824];exact r
 have r2:=topRun_mono (N - M) _ _ _ _ r'
 rw[show M+(N - M)=N by have:=Nat.le_of_ble_eq_true le;omega]at r2
 have t:topFrom treeTable p w N ⟨boot_heap w.params,#[],boot_drawn,boot_toks,os⟩=some s1:=by
  unfold topFrom
  dsimp only
  rw[b.1,b.2.1,b.2.2,r2]
  show(match staticsOk (importedModules p.main.body) (boot_heap w.params) s1.heap&&namesBound p s1.heap&&gensDone s1&&laidKept (boot_heap w.params) s1.heap with | true=>_ | false=>_)=_
  rw[e3.1]
 unfold openEnds
 rw[e1]
 show(topFrom treeTable p w N _).map _=_
 rw[t]
 refine bO some (Prod.ext ?_ e3.2.2)
 rw[<- e3.2.1]
 exact congrFun (congrFun (congrFun (congrFun (congrFun (congrFun Fast.te4187177175401517315 q) loose) (importedModules p.main.body)) Xt) true) s1
def enP (P:Params)(x:Str)(t:Nat)(v:Value):DictEntry:=⟨PyData.keyHash P x,.str x t,v⟩
def mainO (P:Params)(nm:Str)(t:Nat)(es:List (Str×Nat×Value)):Obj:=⟨.type "dict",none,.dict ((([("__name__",165,.str nm t),("__doc__",166,.none),("__package__",167,.none),("__loader__",168,.builtin "__main__.__loader__#opaque"),("__spec__",169,.none),("__annotations__",170,.ref 6),("__builtins__",171,.ref 4),("__file__",173,.str "/claim/cut.py" 172),("__cached__",174,.none)]:List (Str×Nat×Value))++es).map fun e=>enP P e.1 e.2.1 e.2.2).toArray (es.length+9),#[]⟩
abbrev sS (x:String):Str:=Str.ofString x
abbrev me (x:String)(t:Nat)(v:Value):Str×Nat×Value:=(Str.ofString x,t,v)
abbrev ko (a:Addr)(o:Obj):Addr×Obj:=(a,o)
abbrev sr (a:Addr):Option (Option Value):=some (some (.ref a))
abbrev sn:Option (Option Value):=some none
def fnQ (x q:Str)(s:Stmt)(pm:Value)(c:Addr):Obj:=⟨.type "function",none,.func (fnOf x q (defArgs s) (defBody s) (defScope s) .none .none .none pm none (.ref c) .none),#[]⟩
def coQ (x q:Str)(t l a r1 r2:Nat)(v1 v2:Value)(r3 t2:Nat):Obj:=⟨.type "code",none,.fields #[.str x t,.str q (t+1),.str "/claim/cut.py" (t+2),.int l 0,.int a 0,.int 0 0,.int 0 0,.int 3 0,.ref r1,.bool true,.int 181 0,.ref r2,.none,v1,v2,.ref r3,.int t2 0,.int l 0,.str "/claim/cut.py" (t2+1)],#[]⟩
theorem fun_of {K:Frag}{x q:Str}{s:Stmt}{f c:Addr}{pm:Value}(l:K.lookup f=some (fnQ x q s pm c):=by kernel_rfl)(c':codeIn K (.ref c) q=true:=by kernel_rfl)(k:keepIn K (.ref f)=true:=by kernel_rfl):Fun K x q s f (fnOf x q (defArgs s) (defBody s) (defScope s) .none .none .none pm none (.ref c) .none):=fun_mk l c' k
theorem bn1 {α:Type}{P:List α->Prop}(h:∀ a,P [a])(us:List α)(e:us.length=1):P us:=by
 obtain⟨a,rfl⟩:=List.length_eq_one_iff.mp e
 exact h a
theorem bnS {α:Type}{P:List α->Prop}{n:Nat}(h:∀ a us,us.length=n->P (a::us))(us:List α)(e:us.length=n+1):P us:=by
 cases us with
 | nil=>cases e
 | cons a us=>exact h a us (Nat.succ.inj e)
def clsBody (s:Stmt):List Stmt:=match s with
 | .ClassDef _ _ _ b _ _ _ _ _ _ _=>b
 | _=>[]
def defPos (s:Stmt):Pos:=match s with
 | .FunctionDef _ _ _ _ _ _ _ _ _ p=>p
 | _=>⟨0,0,0,0⟩
end L2
namespace L2
open PySem PySem.Spec PyProof.Rows
def closOf (cells:List (Str×Addr)):List (Str×NameKind)->List (Str×Addr)->List (Str×Addr)
 | [],acc=>acc
 | (n,k)::r,acc=>if k==.free then closOf cells r ((n,(cells.lookup n).getD 0)::acc)else closOf cells r acc
theorem closOf_run {env:Env}(f:Str×NameKind->List (Str×Addr)->Sem (ForInStep (List (Str×Addr))))
 (hf:∀ n k cs,f (n,k) cs=if k==.free then(do let a <- cellOf env n;pure (.yield ((n,a)::cs)))else pure (.yield cs)) :
 ∀(names:List (Str×NameKind)) (acc:List (Str×Addr)),(∀ y∈names,y.2=.free->∃ c,env.cells.lookup y.1=some c) ->
  forIn names acc f=pure (closOf env.cells names acc)
 | [],acc,_=>by rw[List.forIn_nil];rfl
 | (n,k)::r,acc,h=>by
  rw[bC,hf]
  unfold closOf
  have hr:∀ y∈r,y.2=.free->∃ c,env.cells.lookup y.1=some c:=fun y hy=>h y (gxI _ hy)
  by_cases hk:(k==NameKind.free)=true
  ·rw[ar hk,ar hk]
   obtain⟨c,hc⟩:=h (n,k) aC (by simpa using hk)
   have hc':env.cells.lookup n=some c:=hc
   have e:cellOf env n=pure c:=by unfold cellOf;rw[hc']
   rw[e,hc',pure_bind,pure_bind]
   exact closOf_run f hf r _ hr
  ·rw[aj hk,aj hk,pure_bind]
   exact closOf_run f hf r _ hr
theorem closureFor_eq {scope:Scope}{env:Env}(h:∀ y∈scope.names,y.2=.free->∃ c,env.cells.lookup y.1=some c):closureFor scope env=pure (closOf env.cells scope.names []):=by
 simp only[closureFor]
 rw[closOf_run (env:=env) _ (fun n k cs=>by
  by_cases hk:(k==NameKind.free)=true
  ·simp only[hk,if_true]
  ·simp only[Bool.not_eq_true]at hk;simp only[hk,cq,if_false]) scope.names [] h]
 rfl
theorem closOf_mem {cells:List (Str×Addr)}:∀ {names:List (Str×NameKind)} {acc:List (Str×Addr)},(∀ y∈names,y.2=.free->∃ c,cells.lookup y.1=some c) ->
 ∀ n c,(n,c)∈closOf cells names acc->(n,c)∈acc\/cells.lookup n=some c
 | [],acc,_,n,c,h=>.inl h
 | (m,k)::r,acc,hf,n,c,h=>by
  unfold closOf at h
  have hr:∀ y∈r,y.2=.free->∃ c,cells.lookup y.1=some c:=fun y hy=>hf y (gxI _ hy)
  split at h
  ·rename_i hk
   rcases closOf_mem hr n c h with h | h
   ·rcases List.mem_cons.mp h with e | h
    ·cases e
     obtain⟨c,hc⟩:=hf (m,k) aC (by simpa using hk)
     have hc':cells.lookup m=some c:=hc
     exact .inr (by rw[hc'];rfl)
    ·exact .inl h
   ·exact .inr h
  ·exact closOf_mem hr n c h
theorem closOf_acc {cells:List (Str×Addr)}:∀(names:List (Str×NameKind)) (acc:List (Str×Addr)) (n:Str),(acc.lookup n).isSome=true->((closOf cells names acc).lookup n).isSome=true
 | [],acc,n,h=>h
 | (m,k)::r,acc,n,h=>by
  unfold closOf
  split
  ·refine closOf_acc r _ n ?_
   rw[cA]
   cases n==m
   ·exact h
   ·rfl
  ·exact closOf_acc r _ n h
theorem closOf_has {cells:List (Str×Addr)}:∀(names:List (Str×NameKind)) (acc:List (Str×Addr)) (n:Str),(n,NameKind.free)∈names->((closOf cells names acc).lookup n).isSome=true
 | (m,k)::r,acc,n,h=>by
  unfold closOf
  rcases List.mem_cons.mp h with e | h
  ·cases e
   refine closOf_acc r _ m ?_
   simp
  ·split
   ·exact closOf_has r _ n h
   ·exact closOf_has r _ n h
theorem cellsFrom_app:∀(names:List (Str×NameKind)) (n:Nat) (a b:List (Str×Addr)),cellsFrom n names (a++b)=cellsFrom n names a++b
 | [],_,_,_=>rfl
 | (m,k)::r,n,a,b=>by
  unfold cellsFrom
  split
  ·exact cellsFrom_app r (n+1) ((m,n)::a) b
  ·exact cellsFrom_app r n a b
theorem newEnv_comp {M:Model}{A:Around}{E:Value->Shared->Prop}{s:Shared}{scope:Scope}{cl:List (Str×Addr)}{env:Env}{Q:Env->Shared->Prop}
 (h:Q (newEnv scope s.heap.objs.size env.globals (cellsFrom (s.heap.objs.size+1) scope.names cl) env.qual none .none (some env) builtinsNs) { s with heap:=pushCells (s.heap.push { cls:=.type "dict",data:=.dict #[]}) scope.names}) :
 wpAny M A (newFunctionEnv scope env.globals cl [] env.qual none .none (some env)) Q E s:=by
 simp only[newFunctionEnv,Option.isSome_some,if_true]
 refine gxM (wpAny_alloc ?_)
 refine gxM (wpAny_layCells _ (fun name kind cells=>by cases hkc:kind==NameKind.cell <;> simp[hkc]) _ _ _ _ ?_)
 rw[show({ s with heap:=s.heap.push { cls:=.type "dict",data:=.dict #[]}}:Shared).heap.objs.size=s.heap.objs.size+1 from a6 ..]
 rw[List.forIn_nil]
 exact gxM (ae (ae h))
def startC (js:List (Option Nat))(σ:St):St:=js.map fun o=>o.bind fun j=>(σ[j]?).join
def compChk (XN:List Str)(xsc:Scope)(N:List Str)(js:List (Option Nat))(sc:Scope):Bool :=
 (sc.kind==.function)&&(sc.names.all fun y=>(y.2 != .local)||(sc.names.lookup y.1==some .local)) &&
 (sc.names.all fun y=>(y.2 != .free)||(xsc.names.lookup y.1==some .cell)||(xsc.names.lookup y.1==some .free)) &&
 (js.length==N.length)&&decide N.Nodup &&
 ((N.zip js).all fun p=>match p.2 with
   | none=>true
   | some j=>XN[j]?==some p.1&&sc.names.contains (p.1,NameKind.free)&&sc.names.lookup p.1==some .free&&!(sc.names.contains (p.1,NameKind.cell)))
structure CompOk (X:Cx)(N:List Str)(js:List (Option Nat))(sc:Scope):Prop where
 kind:sc.kind=.function
 loc:∀ y∈sc.names,y.2=.local->sc.names.lookup y.1=some .local
 free:∀ y∈sc.names,y.2=.free->X.env.kindOf y.1=some .cell\/X.env.kindOf y.1=some .free
 len:js.length=N.length
 nd:N.Nodup
 slot:∀(i:Nat) (x:Str) (j:Nat),N[i]?=some x->js[i]?=some (some j)->X.N[j]?=some x/\(x,NameKind.free)∈sc.names/\sc.names.lookup x=some .free/\(x,NameKind.cell)∉sc.names
theorem compOk {X:Cx}{XN:List Str}{xsc:Scope}{N:List Str}{js:List (Option Nat)}{sc:Scope}(h:compChk XN xsc N js sc=true)(hN:X.N=XN:=by rfl)(hs:X.env.scope=xsc:=by rfl):CompOk X N js sc:=by
 subst hN;subst hs
 unfold compChk at h
 simp only[bz,bS,Bool.or_eq_true,bne_iff_ne,beq_iff_eq,decide_eq_true_eq]at h
 obtain⟨⟨⟨⟨⟨h1,h2⟩,h3⟩,h4⟩,h5⟩,h6⟩:=h
 refine⟨h1,fun y hy e=>(h2 y hy).resolve_left fun z=>z e,fun y hy e=>?_,h4,h5,fun i x j e1 e2=>?_⟩
 ·rcases h3 y hy with(z | z) | z
  ·exact absurd e z
  ·exact .inl z
  ·exact .inr z
 ·have hm:(x,some j)∈N.zip js:=List.mem_iff_getElem?.mpr ⟨i,by rw[List.getElem?_zip_eq_some];exact⟨e1,e2⟩⟩
  have q:=h6 _ hm
  simp only[bz,beq_iff_eq,List.contains_iff_mem,Bool.not_eq_true',List.contains_eq_mem,decide_eq_true_eq,decide_eq_false_iff_not]at q
  exact⟨q.1.1.1,q.1.1.2,q.1.2,q.2⟩
theorem cellsFrom_mem:∀(names:List (Str×NameKind)) (n:Nat) (acc:List (Str×Addr)) (x:Str) (c:Addr),(x,c)∈cellsFrom n names acc->(x,NameKind.cell)∈names\/(x,c)∈acc
 | [],_,_,_,_,h=>.inr h
 | (m,k)::r,n,acc,x,c,h=>by
  unfold cellsFrom at h
  split at h
  ·rename_i hk
   rcases cellsFrom_mem r _ _ x c h with h | h
   ·exact .inl (gxI _ h)
   ·rcases List.mem_cons.mp h with e | h
    ·cases e
     have hk':k=NameKind.cell:=by simpa using hk
     exact .inl (by rw[hk'];exact aC)
    ·exact .inr h
  ·rcases cellsFrom_mem r _ _ x c h with h | h
   ·exact .inl (gxI _ h)
   ·exact .inr h
theorem lookup_mapk {α β:Type}(g:Str->α->β):∀(l:List (Str×α)) (x:Str),(l.map fun p=>(p.1,g p.1 p.2)).lookup x=(l.lookup x).map (g x)
 | [],_=>rfl
 | (n,k)::r,x=>by
  rw[aq,cA,cA]
  cases hb:x==n with
  | true=>rw[beq_iff_eq.mp hb];rfl
  | false=>exact lookup_mapk g r x
def relK (env:Env)(x:Str)(k:NameKind):NameKind:=if(k==.free&&env.scope.kind==.function&&env.kindOf x==some .cell)then .cell else k
theorem lookup_relabel {sc:Scope}{env:Env}{x:Str}:(relabel sc env).names.lookup x=(sc.names.lookup x).map (relK env x):=by
 rw[<- lookup_mapk]
 unfold relabel
 congr 1
 refine cf fun p _=>?_
 obtain⟨n,k⟩:=p
 show(if _ then _ else _)=(n,relK env n k)
 unfold relK
 split <;> rfl
theorem relK_vis {env:Env}{x:Str}{k:NameKind}(h:relK env x k=.cell\/relK env x k=.free):k=.cell\/k=.free:=by
 unfold relK at h
 split at h
 ·rename_i q
  simp only[bz,beq_iff_eq]at q
  exact .inr q.1.1
 ·exact h
theorem relK_free {env:Env}{x:Str}:relK env x .free=.cell\/relK env x .free=.free:=by
 unfold relK
 split
 ·exact .inl rfl
 ·exact .inr rfl
def envC (sc:Scope)(C:Addr)(env:Env):Env where
 scope:=relabel sc env
 locals:=C
 globals:=env.globals
 cells:=cellsFrom (C+1) sc.names (closOf env.cells sc.names [])
 qual:=env.qual
 func:=none
 code:=env.code
 frame:=env.frame
 builtins:=env.builtins
def cxC (X:Cx)(N:List Str)(sc:Scope)(fp:List Addr)(s:Shared)(H:Hp):Cx where
 prog:=X.prog
 w:=X.w
 K:=X.K
 mg:=X.mg
 base:=X.base
 A:=X.A
 N:=N
 s₀:=s
 H₀:=H
 env:=envC sc (s.heap.objs.size+1) X.env
 outer:=X.stack
 stack:=X.stack
 ex:=fp
 fn:=fun x=>sc.names.lookup x==some .cell
 calm:=X.calm
 pn:=[]
 xe:=fun _ _=>False
def heapC (sc:Scope)(h:Heap):Heap:=pushCells ((h.push { cls:=.type "list",dict:=none,data:=.seq ([]:List Value).toArray}).push { cls:=.type "dict",data:=.dict #[]}) sc.names
theorem heapC_keeps {sc:Scope}{h:Heap}:∀ b o,h.get? b=some o->(heapC sc h).get? b=some o:=fun b o e=>cL _ _ b o (gxL _ (gxL _ e))
theorem heapC_acc {sc:Scope}{h:Heap}:(heapC sc h).get? h.objs.size=some { cls:=.type "list",dict:=none,data:=.seq ([]:List Value).toArray} :=
 cL _ _ _ _ (gxL _ (ak _ rfl))
theorem getStart {js:List (Option Nat)}{σ:St}{i:Nat}{v:V}(h:(startC js σ)[i]?=some (some v)):∃ j,js[i]?=some (some j)/\σ[j]?=some (some v):=by
 unfold startC at h
 rw[gxH]at h
 cases e:js[i]? with
 | none=>rw[e]at h;cases h
 | some o =>
  rw[e]at h
  cases o with
  | none=>cases h
  | some j =>
   refine⟨j,rfl,?_⟩
   have h':(σ[j]?).join=some v:=aI h
   cases q:σ[j]? with
   | none=>rw[q]at h';cases h'
   | some z=>rw[q]at h';have:z=some v:=h';rw[this]
section
variable {X:Cx}{pins:List (Addr×Obj)}{σ:St}{H:Hp}{s:Shared}{N:List Str}{js:List (Option Nat)}{sc:Scope}{fp:List Addr}
theorem inv_comp (I:Inv X pins σ H s)(hc:CompOk X N js sc)(hf:∀ b∈fp,FpOk X pins H b)(ho:∀ b∈fp,∃ o,s.heap.get? b=some o)(tk:Nat) :
 Inv (cxC X N sc fp s H) [] (startC js σ) H { s with heap:=heapC sc s.heap,toks:=tk}:=by
 have hC:(s.heap.push { cls:=.type "list",dict:=none,data:=.seq ([]:List Value).toArray}).objs.size=s.heap.objs.size+1:=a6 ..
 have freeX:∀ y∈sc.names,y.2=.free->∃ c,X.env.cells.lookup y.1=some c:=fun y hy e=>I.ok.has y.1 (hc.free y hy e)
 have ok:=cellsFrom_ok sc.names ((s.heap.push { cls:=.type "list",dict:=none,data:=.seq ([]:List Value).toArray}).push { cls:=.type "dict",data:=.dict #[]}) (s.heap.objs.size+1+1) [] ⟨fun _ _ hm=>(nomatch hm),List.Pairwise.nil⟩
  (by rw[a6,hC];exact aa _)
 rw[a6,hC]at ok
 have eC:(envC sc (s.heap.objs.size+1) X.env).cells=cellsFrom (s.heap.objs.size+1+1) sc.names []++closOf X.env.cells sc.names []:=cellsFrom_app sc.names _ [] _
 have lk:∀ x c,(envC sc (s.heap.objs.size+1) X.env).cells.lookup x=some c->(x,c)∈cellsFrom (s.heap.objs.size+1+1) sc.names []\/X.env.cells.lookup x=some c:=fun x c e=>by
  rw[eC]at e
  rcases List.mem_append.mp (mem_of_lookup e)with h | h
  ·exact .inl h
  ·rcases closOf_mem freeX x c h with h | h
   ·cases h
   ·exact .inr h
 have big:∀(x:Str) (c:Nat),(x,c)∈cellsFrom (s.heap.objs.size+1+1) sc.names []->s.heap.objs.size+1+1<=c:=fun x c h=>(ok.empty x c h).2
 have small:∀(x:Str) (c:Nat),X.env.cells.lookup x=some c->c<s.heap.objs.size:=fun x c h=>let ⟨_,q⟩:=I.cell x c h;q.lt
 have has:∀ x,((envC sc (s.heap.objs.size+1) X.env).kindOf x=some .cell\/(envC sc (s.heap.objs.size+1) X.env).kindOf x=some .free)->∃ c,(envC sc (s.heap.objs.size+1) X.env).cells.lookup x=some c:=fun x h=>by
  have h':(relabel sc X.env).names.lookup x=some .cell\/(relabel sc X.env).names.lookup x=some .free:=h
  rw[lookup_relabel]at h'
  rw[eC,cQ]
  cases q:sc.names.lookup x with
  | none=>rw[q]at h';rcases h' with h' | h' <;> cases h'
  | some k =>
   rw[q]at h'
   have hk:=relK_vis (env:=X.env) (x:=x) (k:=k) (h'.elim (fun z=>.inl (aI z)) fun z=>.inr (aI z))
   rcases hk with rfl | rfl
   ·obtain⟨c,hc'⟩:=cell_has (n:=s.heap.objs.size+1+1) q
    exact⟨c,by rw[hc'];rfl⟩
   ·have z:=closOf_has (cells:=X.env.cells) sc.names [] x (mem_of_lookup q)
    obtain⟨c,hc'⟩:=Option.isSome_iff_exists.mp z
    cases q2:(cellsFrom (s.heap.objs.size+1+1) sc.names []).lookup x with
    | none=>exact⟨c,by rw[hc'];rfl⟩
    | some d=>exact⟨d,rfl⟩
 have okY:(cxC X N sc fp s H).Ok:=by
  refine⟨I.ok.mod,hc.kind,I.ok.glob,I.ok.blt,Nat.le_succ _,fun x y c h1 h2=>?_,has,fun x c hx h=>?_,I.ok.hd,I.ok.frames,.inl rfl,fun b hb=>⟨?_,fun x c h=>?_⟩,I.bs,aB I.ok.bsz I.sz,fun b o e hb=>?_,fun b hb hs=>?_,I.stack,I.stkFree⟩
  ·rcases lk x c h1 with g1 | g1 <;> rcases lk y c h2 with g2 | g2
   ·exact name_of_addr ok.apart g1 g2
   ·exact absurd (aA (small _ _ g2) (aB (aX _ 2) (big _ _ g1))) (bu _)
   ·exact absurd (aA (small _ _ g1) (aB (aX _ 2) (big _ _ g2))) (bu _)
   ·exact I.ok.inj x y c g1 g2
  ·have hx':sc.names.lookup x=some .cell:=by simpa [cxC]using hx
   have h':(envC sc (s.heap.objs.size+1) X.env).cells.lookup x=some c:=h
   rw[eC,cQ]at h'
   obtain⟨c2,hc'⟩:=cell_has (n:=s.heap.objs.size+1+1) hx'
   rw[hc']at h'
   have e:c2=c:=aI h'
   subst e
   exact aB (aX _ 2) (big _ _ (mem_of_lookup hc'))
  ·obtain⟨o,e⟩:=ho b hb
   exact ao (bc (gxN e))
  ·obtain⟨o,e⟩:=ho b hb
   have l:=gxN e
   rcases lk x c h with g | g
   ·exact aR (aA l (aB (aX _ 2) (big _ _ g)))
   ·exact(hf b hb).2.2.2.2.1 x c g
  ·rcases(hf b hb).2.2.2.1 with z | z
   ·exact I.ok.noex b o e z
   ·exact absurd (aA (gxN e) (aB I.ok.bsz z)) (bu _)
  ·rcases List.mem_cons.mp (I.stkSub b hs)with z | z
   ·exact(hf b hb).2.1 z
   ·exact(hf b hb).2.2.1 z
 have keepH:∀ b u,s.heap.get? b=some u->(heapC sc s.heap).get? b=some u:=heapC_keeps
 have nsC:(heapC sc s.heap).Ns (s.heap.objs.size+1) fun _=>none:=by
  have q:=(Heap.Ns.new (s.heap.push { cls:=.type "list",dict:=none,data:=.seq ([]:List Value).toArray}) (.type "dict")).keeps (cL sc.names _)
  rw[hC]at q
  exact q
 refine⟨okY,rfl,I.bare,Un.kept keepH,⟨_,nsC,fun i x v e1 e2 e3=>?_⟩,fun x c h=>?_,I.hok.fresh (Nat.le_succ _),fun x c h=>?_,fun p hp=>absurd (show p∈([]:List (Addr×Obj))from hp) (by simp),I.hok.kept keepH,?_⟩
 ·obtain⟨j,hj,hv⟩:=getStart e2
  obtain⟨g1,g2,g3,g4⟩:=hc.slot i x j e1 hj
  have kx:=hc.free _ g2 rfl
  obtain⟨m,hn,hl⟩:=I.loc
  obtain⟨u,r,l⟩:=hl j x v g1 hv (.inr kx)
  refine⟨u,r,?_⟩
  rcases l with⟨z,_⟩ | ⟨_,c,hcc,hcell⟩
  ·have z':X.env.kindOf x=some .local:=z
   rcases kx with k | k <;> (have k':X.env.kindOf x=_:=k;rw[z']at k';cases k')
  ·have kY:(envC sc (s.heap.objs.size+1) X.env).kindOf x=some .cell\/(envC sc (s.heap.objs.size+1) X.env).kindOf x=some .free:=by
    show(relabel sc X.env).names.lookup x=some .cell\/(relabel sc X.env).names.lookup x=some .free
    rw[lookup_relabel,g3]
    rcases relK_free (env:=X.env) (x:=x)with q | q
    ·exact .inl (show some (relK X.env x .free)=_ by rw[q])
    ·exact .inr (show some (relK X.env x .free)=_ by rw[q])
   obtain⟨c',h'⟩:=has x kY
   refine .inr ⟨kY,c',h',?_⟩
   rcases lk x c' h' with g | g
   ·rcases cellsFrom_mem _ _ _ _ _ g with z | z
    ·exact absurd z g4
    ·cases z
   ·rw[hcc]at g;cases g
    exact hcell.keeps keepH
 ·rcases lk x c h with g | g
  ·exact⟨_,(ok.empty x c g).1⟩
  ·obtain⟨v,q⟩:=I.cell x c g
   exact⟨v,q.keeps keepH⟩
 ·rcases lk x c h with g | g
  ·exact I.hok.fresh (aB (aX _ 2) (big _ _ g))
  ·exact I.freeC x c g
 ·show(startC js σ).length=N.length
  unfold startC
  rw[gxC];exact hc.len
end
section
variable {X:Cx}{pins:List (Addr×Obj)}{σ:St}{H:Hp}{s:Shared}
theorem Inv.adopt {D:Addr}{ys:List V}{its:List Value}{n:Nat}(I:Inv X pins σ H s)(hn:H D=none)(hL:D≠X.env.locals)(h1:X.s₀.heap.objs.size<=D)(h2:∀ x c,X.env.cells.lookup x=some c->c≠D)(h3:∀ p∈X.pn++pins,p.1≠D)
 (e:s.heap.get? D=some { cls:=.type "list",data:=.seq its.toArray n}) (r:Vals ys its) (hz:ys.length<=sizeLine):Inv X pins σ (upd H D (.lst ys)) s:=by
 have ne:∀ b,b∉[D]->b≠D:=fun b h z=>h (by simp[z])
 refine I.step (g':=s.gens) (d':=s.drawn) (t':=s.toks) (h':=s.heap) (ch:=[D]) (fun b hb=>?_) (fun b o _ _ _ q _=>q) (fun b o _ _ _ q _=>⟨o.slots,q⟩) (fun b o hb q z=>by rw[upd_ne (ne b hb)];exact z) (fun b o _ q=>⟨o,q⟩)
  (fun b xs q=>by rw[upd_ne (ne_of_none q hn)];exact q) (fun b o u q=>by rw[upd_ne (ne_of_none q hn)];exact q) (fun b ps q=>⟨#[],by rw[upd_ne (ne_of_none q hn),q];simp⟩) (fun m q=>q) (fun b u q=>?_) I.bare
 ·have z:b=D:=by simpa using hb
  subst z
  exact⟨.inr h1,hL,h2,h3⟩
 ·by_cases hb:b=D
  ·subst hb;rw[upd_same]at q;cases q
   exact⟨hz,its,n,r,e⟩
  ·rw[upd_ne hb]at q
   exact(I.hok b u q).stay (fun c v _ z=>z) (fun c z=>by rw[upd_ne (ne_of_none z hn)];exact z) fun c xs z=>by rw[upd_ne (ne_of_none z hn)];exact z
def PTs (X:Cx)(ifs:List Expr)(t:TT):Prop :=
 ∀(pins:List (Addr×Obj)) (s:Shared) (σ:St) (H:Hp) (Q:Bool->Hp->Prop),Inv X pins σ H s->t σ H Q ->
  wpAny (model X.prog X.w) X.A (forIn ifs true fun c r=>if r=true then do let ok <- isTrue c X.env (eval c X.env);pure (ForInStep.yield ok)else pure (ForInStep.yield r)) (TP X pins σ Q) X.xe s
def tYes:TT:=fun _ H Q=>Q true H
theorem pts_nil:PTs X [] tYes:=fun _ _ _ H _ I h=>wpAny_tests_nil ⟨H,I,h⟩
theorem pts_one {c:Expr}{t:TT}(h:PT X c t):PTs X [c] t:=fun pins s σ H Q I q=>wpAny_tests_one (h pins s σ H Q I q)
def Ext (σ σ':St):Prop:=σ.length=σ'.length/\∀(i:Nat) v,σ[i]?=some (some v)->σ'[i]?=some (some v)
theorem Ext.own2 {v u:Option V}{r:St}:Ext (none::none::r) (v::u::r):=⟨rfl,fun i z h=>by
 match i,h with
 | 0,h=>simp at h
 | 1,h=>simp at h
 | i+2,h=>simpa using h⟩
def wComp (js:List (Option Nat))(g:TG)(tt:TT)(te:TE)(J:It)(σ:St)(H1:Hp)(fin:List V->Hp->Prop):Prop :=
 ∃ W:Nat->Nat->List V->Hp->Prop,(∃ m,W 0 m [] H1)/\∀ i m ys H,W i m ys H ->
  (J.stop i H/\fin ys H)\/(J.go i H/\∀ x H',J.yld i H x H'->g x (startC js σ) H' fun σ2 H2=>Ext (startC js σ) σ2/\tt σ2 H2 fun b H3 =>
    if b=true then te σ2 H3 fun y H4=>ys.length<sizeLine/\∃ m',m'<m/\W (i+1) m' (ys++[y]) H4 else ∃ m',m'<m/\W (i+1) m' ys H3)
theorem compLoop_any {prog:Program}{w:World}{A:Around}{R:Result->Shared->Prop}{s:Shared}{elt target iter:Expr}{ifs:List Expr}{scope:Scope}{pos:Pos}{it acc:Value}{env:Env}(I:Nat->Shared->Prop)
 (turn:∀ n s,I n s->wpAny (model prog w) A (pyNext it) (fun r s₁=>match r with
   | none=>R (.ok .next) s₁
   | some v=>wpAny (model prog w) A (letOwnedTupleGo target it v) (fun _ s₁'=>wpAny (model prog w) A (assign target env v) (fun _ s₂ =>
    wpAny (model prog w) A (forIn ifs true fun c r=>if r=true then do let ok <- isTrue c env (eval c env);pure (ForInStep.yield ok)else pure (ForInStep.yield r)) (fun ok s₃ =>
     if ok=true then wpAny (model prog w) A (eval elt env) (fun x s₄ =>
      wpAny (model prog w) A (call (.builtin "list.append") [acc,x]) (fun _ s₅=>∃ m,m<n/\I m s₅) (fun _ _=>False) s₄) (fun _ _=>False) s₃
     else ∃ m,m<n/\I m s₃) (fun _ _=>False) s₂) (fun _ _=>False) s₁') (fun _ _=>False) s₁) (fun _ _=>False) s)
 (n:Nat) (h:I n s) :
 codeAny (model prog w) A (.compLoop (.ListComp elt [⟨target,iter,ifs,0⟩] scope pos) 0 it acc env) R s:=by
 refine codeAny_loop rfl I (fun n s hI=>?_) n h
 show wpAny _ A ((compTurn (.ListComp elt [⟨target,iter,ifs,0⟩] scope pos) 0 it acc env).onRaise (fun x=>do noteFrame x env;theTreesLotGoes x)) _ _ s
 refine wpAny_noted ?_
 rw[compTurn_list]
 refine gxM (wpAny_standAt (gxM (a9 (turn n s hI) (fun r s₁ h₁=>?_) fun _ _ h'=>h'.elim)))
 cases r with
 | none=>exact ae h₁
 | some v =>
  refine gxM (a9 h₁ (fun _ s₁' h₁'=>?_) fun _ _ h'=>h'.elim)
  refine gxM (a9 h₁' (fun _ s₂ h₂=>gxM (a9 h₂ (fun ok s₃ h₃=>?_) fun _ _ h'=>h'.elim)) fun _ _ h'=>h'.elim)
  cases ok with
  | false=>exact ae ⟨rfl,h₃⟩
  | true =>
   exact gxM (gxM (a9 h₃ (fun x s₄ h₄=>gxM (a9 h₄ (fun _ s₅ h₅=>ae (ae ⟨rfl,h₅⟩)) fun _ _ h'=>h'.elim)) fun _ _ h'=>h'.elim))
variable {N:List Str}{js:List (Option Nat)}{sc:Scope}{fp:List Addr}{tg elt iter:Expr}{ifs:List Expr}{g:TG}{tt:TT}{te:TE}
def lobj (its:List Value)(n:Nat):Obj:={ cls:=.type "list",data:=.seq its.toArray n}
theorem comp_block {J:It}{it:Addr}{tn:Nat->Heap->Prop}{pos:Pos}{R:Result->Shared->Prop}{fin:List V->Hp->Prop}{tk:Nat}(I:Inv X pins σ H s)(hc:CompOk X N js sc){CM:Cx->Prop}(calm:CM (cxC X N sc fp s H))
 (T:Turn X.prog X.w X.K tg J fp it tn CM) (st:tn 0 s.heap) (hf:∀ b∈fp,FpOk X pins H b)
 (hg:PG (cxC X N sc fp s H) tg g) (ht:PTs (cxC X N sc fp s H) ifs tt) (he:PE (cxC X N sc fp s H) elt te) (q:wComp js g tt te J σ H fin)
 (hR:∀ s' H' ys m,Inv X pins σ (upd H' s.heap.objs.size (.lst ys)) s'->H' s.heap.objs.size=none->fin ys H'->s'.heap.Ns (s.heap.objs.size+1) m->H' (s.heap.objs.size+1)=none->R (.ok .next) s') :
 codeAny (model X.prog X.w) X.A (.compStart (.ListComp elt [⟨tg,iter,ifs,0⟩] sc pos) 0 (.ref it) (.ref s.heap.objs.size) (envC sc (s.heap.objs.size+1) X.env)) R { s with heap:=heapC sc s.heap,toks:=tk}:=by
 have hob:∀ b∈fp,∃ o,s.heap.get? b=some o:=fun b hb=>let ⟨o,e,_⟩:=T.obj 0 s.heap st b hb;⟨o,e⟩
 have I0:=inv_comp I hc hf hob tk
 have okY:=I0.ok
 obtain⟨W,⟨m0,w0⟩,turn⟩:=q
 have small:∀ b∈fp,b≠s.heap.objs.size:=fun b hb=>let ⟨o,e⟩:=hob b hb;ao (gxN e)
 have stat:∀ {its:List Value} {k:Nat} {H':Hp},(∀ b∈fp,H' b=none)->∀ b∈fp,FpOk (cxC X N sc fp s H) [(s.heap.objs.size,lobj its k)] H' b:=fun {its k H'} hn b hb =>
  ⟨hn b hb,(okY.exf b hb).1,okY.exfs b hb,.inl hb,(okY.exf b hb).2,fun p hp=>by
   have e:p=(s.heap.objs.size,lobj its k):=by simpa [cxC]using hp
   rw[e];exact(small b hb).symm⟩
 have st0:tn 0 (heapC sc s.heap):=T.keep 0 _ _ st fun b _ o e=>heapC_keeps b o e
 have I1:Inv (cxC X N sc fp s H) [(s.heap.objs.size,lobj [] 0)] (startC js σ) H { s with heap:=heapC sc s.heap,toks:=tk}:=I0.pins_of fun p hp=>by
  have e:p=(s.heap.objs.size,lobj [] 0):=by simpa using hp
  subst e
  refine⟨heapC_acc,I.hok.fresh (aa _),ao (bL _),fun z=>?_,fun v z=>by cases z⟩
  obtain⟨_,o,ho,_⟩:=okY.funs.mem z
  exact bu _ (gxN ho)
 have loop:codeAny (model X.prog X.w) X.A (.compLoop (.ListComp elt [⟨tg,iter,ifs,0⟩] sc pos) 0 (.ref it) (.ref s.heap.objs.size) (envC sc (s.heap.objs.size+1) X.env)) R { s with heap:=heapC sc s.heap,toks:=tk}:=by
  refine compLoop_any (fun n s'=>∃ i ys its k H',Inv (cxC X N sc fp s H) [(s.heap.objs.size,lobj its k)] (startC js σ) H' s'/\tn i s'.heap/\(∀ b∈fp,H' b=none)/\Vals ys its/\ys.length<=sizeLine/\W i n ys H') ?_ m0
   ⟨0,[],[],0,H,I1,st0,fun b hb=>(hf b hb).1,.nil,aV _,w0⟩
  rintro n s3 ⟨i,ys,its,k,H3,I3,st3,fr3,rv,hz,w3⟩
  have len:=rv.length
  rcases turn i n ys H3 w3 with⟨stop,qf⟩ | ⟨go,step⟩
  ·refine thn (T.done (cxC X N sc fp s H) rfl rfl rfl calm i _ s3 _ H3 _ I3 (stat fr3) st3 stop) fun r s4 hq0=>?_
   obtain⟨hr,I4⟩:=hq0
   subst hr
   show R (.ok .next) s4
   have hD:=I4.pin (s.heap.objs.size,lobj its k) (aF _ aC)
   obtain⟨m,hns,_⟩:=I4.loc
   have IX:Inv X pins σ H3 s4:=I.call' (ch:=fp) I4.os I4.base I4.hok I4.bare fun b hb=>by
    obtain⟨f0,f1,f2,f3,f4,f5⟩:=hf b hb
    exact⟨f3,f1,f4,f5⟩
   have neD:∀(b:Addr) (o:Obj),s.heap.get? b=some o->b≠s.heap.objs.size:=fun b o e=>ao (gxN e)
   refine hR s4 H3 ys m (IX.adopt hD.2.1 (aR I.lt) I.sz (fun x c e=>?_) (fun p hp=>neD _ _ (I.pin p hp).1) hD.1 rv hz) hD.2.1 qf hns I4.free
   obtain⟨v,q⟩:=I.cell x c e
   exact ao q.lt
  ·refine thn (T.item (cxC X N sc fp s H) rfl rfl rfl calm i _ s3 _ H3 _ I3 (stat fr3) st3 go) fun r s4 hq1=>?_
   obtain⟨u,hr,h4⟩:=hq1
   subst hr
   refine thn h4 fun _ s5 hq2=>?_
   obtain⟨x,H5,I5,r5,y5,st5,fr5⟩:=hq2
   have I5':=I5.pinned (stat fr5) (T.obj _ _ st5)
   refine thn (hg _ s5 _ H5 x u _ I5' r5 (step x H5 y5)) fun _ s6 ⟨σ6,H6,I6,⟨ext6,q6⟩⟩=>?_
   refine thn (ht _ s6 σ6 H6 _ I6 q6) fun b s7 hq3=>?_
   obtain⟨H7,I7,q7⟩:=hq3
   have back:∀ {s':Shared} {H':Hp},Inv (cxC X N sc fp s H) ([(s.heap.objs.size,lobj its k)]++pinsAt fp s5.heap) σ6 H' s'->tn (i+1) s'.heap/\(∀ b∈fp,H' b=none)/\Inv (cxC X N sc fp s H) [(s.heap.objs.size,lobj its k)] (startC js σ) H' s':=fun {s' H'} I'=>by
    refine⟨T.keep _ _ _ st5 fun b hb o e=>(I'.pin (b,o) (aF _ (aF _ (mem_pinsAt hb e)))).1,fun b hb=>?_,(I'.weak ext6.1 ext6.2).unpinned⟩
    obtain⟨o,e,d⟩:=T.obj _ _ st5 b hb
    exact(I'.pin (b,o) (aF _ (aF _ (mem_pinsAt hb e)))).2.1
   cases b with
   | false =>
    rw[aj av]at q7 ⊢
    obtain⟨m',hm,w7⟩:=q7
    obtain⟨t7,f7,I7'⟩:=back I7
    exact⟨m',hm,i+1,ys,its,k,H7,I7',t7,f7,rv,hz,w7⟩
   | true =>
    rw[ar rfl]at q7 ⊢
    refine thn (he _ s7 σ6 H7 _ I7 q7) fun y s8 hq4=>?_
    obtain⟨yv,H8,I8,ry,hlt,m',hm,w8⟩:=hq4
    obtain⟨t8,f8,I8'⟩:=back I8
    have hD:=I8'.pin (s.heap.objs.size,lobj its k) (aF _ aC)
    have eD:s8.heap.get? s.heap.objs.size=some { cls:=.type "list",data:=.seq its.toArray k}:=hD.1
    refine call_meets F.slot_list_append ⟨_,eD,rfl⟩ F.entry_list_append (F.args_list_append_2 _ _) (PySem.list_append s.heap.objs.size its.toArray k y (by rw[ag];omega)) ⟨eD,?_⟩
    have q:=PySem.IsL.update eD (·.push y)
    have epush:its.toArray.push y=(its++[y]).toArray:=by simp
    have keep:∀(b:Addr) (o:Obj),b≠s.heap.objs.size->s8.heap.get? b=some o->(s8.heap.update s.heap.objs.size (Obj.mapSeq (·.push y))).get? b=some o:=fun b o hb e=>(aL s8.heap (Obj.mapSeq (·.push y)) (aO hb)).trans e
    have cellD:∀ x c,(cxC X N sc fp s H).env.cells.lookup x=some c->c≠s.heap.objs.size:=fun x c e z=>by
     obtain⟨v,o,ho,hd⟩:=I8'.cell x c e
     rw[z,eD]at ho;cases ho
     cases hd
    have I9:Inv (cxC X N sc fp s H) [] (startC js σ) H8 { s8 with heap:=s8.heap.update s.heap.objs.size (Obj.mapSeq (·.push y))} :=
     (I8'.pins_of (pins':=[]) fun p hp=>absurd hp (by simp)).turned (t':=s8.toks) keep hD.2.1 hD.2.2.1 (.inr (aa _)) cellD (fun p hp=>absurd (show p∈([]:List (Addr×Obj))from hp) (by simp))
    rw[epush]at q
    obtain⟨k',q'⟩:∃ k',(s8.heap.update s.heap.objs.size (Obj.mapSeq (·.push y))).get? s.heap.objs.size=some (lobj (its++[y]) k'):=⟨_,q⟩
    refine⟨m',hm,i+1,ys++[yv],its++[y],k',H8,I9.pins_of fun p hp=>?_,T.keep _ _ _ t8 fun b hb o e=>keep b o (small b hb) e,f8,rv.append (.cons ry .nil),by rw[gxE,aN];omega,w8⟩
    have e:p=(s.heap.objs.size,lobj (its++[y]) k'):=by simpa using hp
    subst e
    exact⟨q',hD.2.1,hD.2.2.1,hD.2.2.2.1,fun v z=>by cases z⟩
 exact codeAny_compStart_list loop (T.self _ 0 _ _ _ st0 loop)
def tComp (wi:TI)(js:List (Option Nat))(g:TG)(tt:TT)(te:TE):TE:=fun σ H Q=>wi σ H fun J H1=>wComp js g tt te J σ H1 fun ys H'=>∀ D,H' D=none->Q (.ref D) (upd H' D (.lst ys))
theorem pe_comp {wi:TI}{pos:Pos}(hc:CompOk X N js sc)(calm:X.calm=true)(hi:PI X tg iter wi)(hg:∀ fp s H,PG (cxC X N sc fp s H) tg g)(ht:∀ fp s H,PTs (cxC X N sc fp s H) ifs tt)(he:∀ fp s H,PE (cxC X N sc fp s H) elt te)
 (hs:∀ x,foldedSetIterable iter X.env x=pure x:=by intro _;rfl):PE X (.ListComp elt [⟨tg,iter,ifs,0⟩] sc pos) (tComp wi js g tt te):=by
 intro pins s σ H Q I h
 rw[eval_ListComp]
 refine b8 (use:=none) rfl hs (closureFor_eq fun y hy e=>I.ok.has y.1 (hc.free y hy e)) hc.kind hc.loc (thn (hi pins s σ H _ I h) fun v s1 h1=>thn h1 fun itv s2 h2=>?_)
 obtain⟨it,fp,tn,J,H2,e,I2,T,st2,f2,q⟩:=h2
 subst e
 refine a8 (newEnv_comp ?_)
 have hC:(s2.heap.push { cls:=.type "list",dict:=none,data:=.seq ([]:List Value).toArray}).objs.size=s2.heap.objs.size+1:=a6 ..
 simp only[hC]
 refine comp_block (tk:=s2.toks) I2 hc calm T st2 f2 (hg fp s2 H2) (ht fp s2 H2) (he fp s2 H2) q fun s' H' ys m IX nD qf nC hn=>?_
 refine⟨m,nC,fun h' sb=>?_⟩
 have neC:∀(b:Addr) (o:Obj),s2.heap.get? b=some o->b≠s2.heap.objs.size+1:=fun b o e=>ao (bc (gxN e))
 have IY:Inv X pins σ (upd H' s2.heap.objs.size (.lst ys)) { s' with heap:=h'}:=IX.turned (t':=s'.toks) (it:=s2.heap.objs.size+1) (fun b o hb e=>(sb.2 b hb).trans e) (by rw[upd_ne (aR (bL _))];exact hn)
  (aR (bc I2.lt)) (.inr (bP I2.sz)) (fun x c e=>let ⟨v,z⟩:=I2.cell x c e;ao (bc z.lt)) (fun p hp=>neC _ _ (I2.pin p hp).1)
 exact⟨.ref _,_,IY,rfl,qf _ nD⟩
theorem ps_setComp {wi:TI}{pos pos' spos:Pos}{i:Nat}{x:Str}(hc:CompOk X N js sc)(calm:X.calm=true)(hN:X.N.Nodup)(hx':X.N[i]?=some x)(hx:Loc X.env.scope x)(hi:PI X tg iter wi)(hg:∀ fp s H,PG (cxC X N sc fp s H) tg g)
 (ht:∀ fp s H,PTs (cxC X N sc fp s H) ifs tt) (he:∀ fp s H,PE (cxC X N sc fp s H) elt te) (hsw:swapsWith (.ListComp elt [⟨tg,iter,ifs,0⟩] sc pos) (some (.Name x pos')) spos.line X.env=pure true:=by rfl)
 (hs:∀ x,foldedSetIterable iter X.env x=pure x:=by intro _;rfl) (hf:X.fn x=true\/X.env.scope.names.lookup x=some .local:=by first | exact .inl rfl | exact .inr rfl | assumption) :
 PS X (.Assign [.Name x pos'] (.ListComp elt [⟨tg,iter,ifs,0⟩] sc pos) spos) (tAsg (tComp wi js g tt te) (gName i)):=by
 intro pins s σ H D I h
 rw[exec_Assign_Name_used _ _ _ _ hsw]
 refine gxM (wpAny_standAt (gxM ?_))
 show wpAny _ X.A (do let _ <- comprehension (.ListComp elt [⟨tg,iter,ifs,0⟩] sc pos) sc X.env _ (newList []) false (eval iter X.env) (some (assign (.Name x pos') X.env))) _ _ s
 refine gxM (a9 (b8 (use:=some (assign (.Name x pos') X.env)) (Q:=fun _ s'=>SP X pins D .next s') rfl hs (closureFor_eq fun y hy e=>I.ok.has y.1 (hc.free y hy e)) hc.kind hc.loc
  (thn (hi pins s σ H _ I h) fun v s1 h1=>thn h1 fun itv s2 h2=>?_)) (fun _ s' hq=>ae (ae hq)) fun _ _ e=>e)
 obtain⟨it,fp,tn,J,H2,e,I2,T,st2,f2,q⟩:=h2
 subst e
 refine a8 (newEnv_comp ?_)
 have hC:(s2.heap.push { cls:=.type "list",dict:=none,data:=.seq ([]:List Value).toArray}).objs.size=s2.heap.objs.size+1:=a6 ..
 simp only[hC]
 refine comp_block (tk:=s2.toks) I2 hc calm T st2 f2 (hg fp s2 H2) (ht fp s2 H2) (he fp s2 H2) q fun s' H' ys m IX nD qf nC hn=>?_
 have neC:∀(b:Addr) (o:Obj),s2.heap.get? b=some o->b≠s2.heap.objs.size+1:=fun b o e=>ao (bc (gxN e))
 have hnC:upd H' s2.heap.objs.size (.lst ys) (s2.heap.objs.size+1)=none:=by rw[upd_ne (aR (bL _))];exact hn
 show wpAny _ X.A (assign (.Name x pos') X.env (.ref s2.heap.objs.size)) _ _ s'
 refine wpAny_assign_Name (store_ok2 (v:=.ref s2.heap.objs.size) IX hN hx' hx rfl (fun s'' IZ ch=>?_) hf)
 obtain⟨a,sba,ha⟩:=ch
 have hac:s2.heap.objs.size+1≠a:=by
  rcases ha with z | z
  ·rw[z];exact aR (bc I2.lt)
  ·obtain⟨v,z⟩:=I2.cell x a z
   exact aR (bc z.lt)
 refine⟨m,nC.sameBut sba hac,fun h' sb=>?_⟩
 have IY:Inv X pins (σ.set i (some (.ref s2.heap.objs.size))) (upd H' s2.heap.objs.size (.lst ys)) { s'' with heap:=h'}:=IZ.turned (t':=s''.toks) (it:=s2.heap.objs.size+1) (fun b o hb e=>(sb.2 b hb).trans e) hnC
  (aR (bc I2.lt)) (.inr (bP I2.sz)) (fun x c e=>let ⟨v,z⟩:=I2.cell x c e;ao (bc z.lt)) (fun p hp=>neC _ _ (I2.pin p hp).1)
 exact⟨_,_,IY,qf _ nD⟩
end
open Builtin Builtin.Str
def cutL {α:Type}(xs:List α)(lo hi:Option Int):List α:=(xs.drop (HT.sIx xs.length 0 lo)).take (HT.sIx xs.length xs.length hi - HT.sIx xs.length 0 lo)
theorem clip_lo (n:Nat)(lo:Option Int):(match lo with | none=>(0:Int) | some i=>max 0 (min (if i<0 then i+(n:Int)else i) (n:Int)))=((HT.sIx n 0 lo:Nat):Int):=by
 cases lo with
 | none=>rfl
 | some i=>unfold HT.sIx;dsimp only;split <;> omega
theorem clip_hi (n:Nat)(hi:Option Int):(match hi with | none=>(n:Int) | some i=>max 0 (min (if i<0 then i+(n:Int)else i) (n:Int)))=((HT.sIx n n hi:Nat):Int):=by
 cases hi with
 | none=>rfl
 | some i=>unfold HT.sIx;dsimp only;split <;> omega
theorem sliceIx_eq (lo hi:Option Int)(n:Nat):strSliceIndices lo hi 1 n=sliceRange ((HT.sIx n 0 lo:Nat):Int) ((HT.sIx n n hi:Nat):Int) 1:=by
 rw[<- clip_lo,<- clip_hi]
 unfold strSliceIndices
 cases lo <;> cases hi <;> rfl
theorem sliced_eq (x:Str)(lo hi:Option Int):(strSliceIndices lo hi 1 x.length).filterMap (x.cps[·]?)=cutL x.cps.toList lo hi:=by
 have hl:x.cps.toList.length=x.length:=by simp[Str.length]
 unfold cutL
 rw[hl]
 have ha:=HT.sIx_le x.length 0 (aV _) lo
 have hb:=HT.sIx_le x.length x.length (aa _) hi
 by_cases hab:HT.sIx x.length 0 lo<=HT.sIx x.length x.length hi
 ·rw[<- StrLaws.sliced_plain x hab hb,sliceIx_eq,sliceIx_eq]
  congr 2
  ·rw[HT.sIx_nat,bY ha]
  ·rw[HT.sIx_nat,bY hb]
 ·rw[sliceIx_eq]
  have e:HT.sIx x.length x.length hi - HT.sIx x.length 0 lo=0:=by omega
  rw[e,List.take_zero]
  unfold sliceRange
  have h1:¬ (((HT.sIx x.length 0 lo:Nat):Int)<((HT.sIx x.length x.length hi:Nat):Int)):=by omega
  simp[h1]
theorem cutL_len {α:Type}(xs:List α)(lo hi:Option Int):(cutL xs lo hi).length<=xs.length:=by
 unfold cutL
 rw[bp,bR]
 omega
section
variable {X:Cx}
def rSlS:V->Option Int->Option Int->Hp->VK->Prop:=fun x lo hi H Q=>∃ z:Str,x=.str z/\z.length<=sizeLine/\Q (.str ⟨(cutL z.cps.toList lo hi).toArray⟩) H
theorem sl_str:SlR X rSlS:=by
 intro pins s σ H x v vl vu lo hi sl Q I rx hs pl pu h
 obtain⟨z,rfl,hz,q⟩:=h
 obtain⟨t,rfl⟩:=rx
 refine⟨"str",_,F.slot_str_getitem.lookup,typeIs_str _ _ _,?_⟩
 obtain⟨l,el⟩:∃ l:Option (Int×Tok),vl=partValue l/\l.map (·.1)=lo:=by
  cases pl with
  | none=>exact⟨none,rfl,rfl⟩
  | int i t=>exact⟨some (i,t),rfl,rfl⟩
 obtain⟨u,eu⟩:∃ u:Option (Int×Tok),vu=partValue u/\u.map (·.1)=hi:=by
  cases pu with
  | none=>exact⟨none,rfl,rfl⟩
  | int i t=>exact⟨some (i,t),rfl,rfl⟩
 obtain⟨rfl,el⟩:=el
 obtain⟨rfl,eu⟩:=eu
 refine wpAny_getItem_str_slice (l:=l) (u:=u) (st:=none) hs rfl ?_
 unfold sliceMade
 have e:slicePicked z l u none=strSliceIndices lo hi 1 z.length:=by unfold slicePicked;rw[el,eu];rfl
 rw[e,sliced_eq]
 by_cases hc:(((none:Option (Int×Tok)).map (·.1)).getD 1==1&&(strSliceIndices lo hi 1 z.length).length==z.length)=true
 ·rw[ar hc]
  refine⟨.str z,H,I,⟨_,rfl⟩,?_⟩
  have hc':(strSliceIndices lo hi 1 z.length).length=z.length:=by simpa using hc
  have hl:z.cps.toList.length=z.length:=by simp[Str.length]
  have h3:cutL z.cps.toList lo hi=z.cps.toList:=by
   rw[sliceIx_eq]at hc'
   unfold sliceRange at hc'
   have ha:=HT.sIx_le z.length 0 (aV _) lo
   have hb:=HT.sIx_le z.length z.length (aa _) hi
   rw[gxC,gxJ]at hc'
   unfold cutL
   rw[hl]
   by_cases hlt:((HT.sIx z.length 0 lo:Nat):Int)<((HT.sIx z.length z.length hi:Nat):Int)
   ·simp[hlt]at hc'
    have a0:HT.sIx z.length 0 lo=0:=by omega
    have b0:HT.sIx z.length z.length hi=z.length:=by omega
    rw[a0,b0,List.drop_zero,Nat.sub_zero,<- hl,List.take_length]
   ·simp[hlt]at hc'
    have z0:z.cps.toList=[]:=List.length_eq_zero_iff.mp (by omega)
    rw[z0];simp
  have e2:(⟨(cutL z.cps.toList lo hi).toArray⟩:Str)=z:=by rw[h3]
  rw[e2]at q
  exact q
 ·rw[aj hc]
  refine⟨?_,.str _,H,I.tok _,⟨_,rfl⟩,q⟩
  have hl:z.cps.toList.length=z.length:=by simp[Str.length]
  have:=cutL_len z.cps.toList lo hi
  show(cutL z.cps.toList lo hi).toArray.size<=sizeLine
  rw[ag]
  omega
theorem rep_one (c:Nat):∀(n:Nat) (acc:Array Nat),(List.replicate n #[c]).foldl (·++·) acc=acc++(List.replicate n c).toArray
 | 0,acc=>by simp
 | n+1,acc=>by
  rw[List.replicate_succ,List.foldl_cons,rep_one c n,List.replicate_succ]
  apply Array.toList_inj.mp
  simp
theorem mul_one (c:Nat)(n:Int):Txt.mul ⟨#[c]⟩ n=⟨(List.replicate n.toNat c).toArray⟩:=by
 unfold Txt.mul
 by_cases h1:n<1
 ·rw[ar h1]
  have e:n.toNat=0:=by omega
  rw[e];rfl
 ·rw[aj h1]
  by_cases h2:(n==1||(⟨#[c]⟩:Str).length==0)=true
  ·rw[ar h2]
   have e:n=1:=by simpa [Str.length]using h2
   rw[e];rfl
  ·rw[aj h2]
   congr 1
   have:=rep_one c n.toNat #[]
   rw[this]
   apply Array.toList_inj.mp
   simp
theorem op_mul_str:OpR X (binaryOp .Mult) (fun x y H Q=>∃(c:Nat) (n:Int),x=.str ⟨#[c]⟩/\y=.int n /\ -1000000<=n/\n<=1000000/\Q (.str ⟨(List.replicate n.toNat c).toArray⟩) H):=by
 intro pins s σ H x y v u Q I rx ry h
 obtain⟨c,n,rfl,rfl,h1,h2,q⟩:=h
 obtain⟨t,rfl⟩:=rx
 obtain⟨t',rfl⟩:=ry
 refine SB.mul ⟨?_,fun hn _=>?_,fun hn _=>?_⟩ fun t' k=>?_
 ·rw[ai (by omega),ai (by omega)];rfl
 ·have e:((⟨#[c]⟩:Str).length:Int)=1:=rfl
  rw[e]
  have:(1:Int)<=(2 ^ 63 - 1) / n:=(Int.le_ediv_iff_mul_le (by omega)).mpr (by omega)
  omega
 ·have e:(⟨#[c]⟩:Str).length=1:=rfl
  rw[e]
  unfold tooLong sizeLine
  rw[ai (by omega)]
 ·rw[mul_one]
  exact⟨.str _,H,I.tok _,⟨_,rfl⟩,q⟩
theorem cnt_count (c:Nat):∀ l:List Nat,countIn (.str ⟨#[c]⟩) (l.map fun n=>PyData.str ⟨#[n]⟩)=((l.count c:Nat):Int)
 | []=>rfl
 | n::r=>by
  have h:=cnt_cons c n r
  unfold cnt at h
  rw[h,cnt_count c r,cM]
  by_cases e:n=c
  ·rw[ar e,ar (by simpa using e)];omega
  ·rw[aj e,aj (by simpa using e)];omega
def rCount:V->List V->Hp->VK->Prop:=fun x vs H Q=>∃(z:Str) (c:Nat),x=.str z/\vs=[.str ⟨#[c]⟩]/\Q (.int ((z.cps.toList.count c:Nat):Int)) H
theorem mt_count:MtR X "str.count" rCount:=by
 intro pins s σ H x vs v us Q I rx rv h
 obtain⟨z,c,rfl,rfl,q⟩:=h
 obtain⟨t,rfl⟩:=rx
 obtain⟨u,rfl,ru⟩:=rv.one
 obtain⟨t',rfl⟩:=ru
 refine SC.count ?_
 rw[count_is,cnt_count]
 exact⟨.int _,H,I.tok _,⟨_,rfl⟩,q⟩
def Its (l:List Nat):It:=⟨fun i _=>i<l.length,fun i H x H'=>H'=H/\∃ c,l[i]?=some c/\x=.str ⟨#[c]⟩,fun i _=>i=l.length⟩
theorem turn_str {P:Program}{w:World}{K:PySem.W.Frag}{tg:Expr}{it:Addr}{z:Str}{n:String}{St:Nat->Heap->Prop}
 (W:∀ A':Around,A'.handled=none->Walks P w A' it [it] [it] z.cps.size (SignAt z) St) (hn:["enumerate", "zip", "dict_itemiterator", "dict_reverseitemiterator", "odict_iterator", "itertools.zip_longest", "itertools.pairwise"].contains n=false)
 (ob:∀ i h,St i h->∃ o vs,h.get? it=some o/\o.cls=.type n/\o.data=.fields vs) (slf:∀(A:Around) (i:Nat) (s:Shared) (Q:Value->Shared->Prop) (E:Value->Shared->Prop),St i s.heap->Q (.ref it) s->wpAny (model P w) A (pyIter (.ref it)) Q E s):Turn P w K tg (Its z.cps.toList) [it] it St where
 mem:=by simp
 obj:=fun i h st b hb=>by
  have e:b=it:=by simpa using hb
  subst e
  obtain⟨o,vs,e,c,d⟩:=ob i h st
  exact⟨o,e,fun v z=>by rw[d]at z;cases z⟩
 keep:=fun i h h' st k=>(W { handled:=none,depth:=0,units:=0,frames:=none} rfl).frame i h h' st k
 item:=by
  intro X hP hw hK hc i pins s σ H E I hf st hg
  subst hP hw hK
  obtain⟨f0,f1,f2,f3,f4,f5⟩:=hf it (by simp)
  have hg':i<z.cps.toList.length:=hg
  refine(W X.A (I.ok.hd hc)).item i s _ _ (by simpa using hg') st fun v h' tk hv st' kk=>?_
  obtain⟨c,u,hcc,rfl⟩:=hv
  have I1:Inv X pins σ H { s with heap:=h',toks:=tk}:=I.turned (fun b o hb e=>kk b o (by simpa using hb) e) f0 f1 f3 f4 f5
  obtain⟨o,vs,e,c',d⟩:=ob _ _ st'
  refine⟨_,rfl,go_of (s:={ s with heap:=h',toks:=tk}) (n:=n) e c' d hn ⟨.str ⟨#[c]⟩,H,I1,⟨u,rfl⟩,⟨rfl,c,by simpa using hcc,rfl⟩,st',fun b hb=>(hf b hb).1⟩⟩
 done:=by
  intro X hP hw hK hc i pins s σ H E I hf st hg
  subst hP hw hK
  obtain⟨f0,f1,f2,f3,f4,f5⟩:=hf it (by simp)
  have e:i=z.cps.size:=by have:i=z.cps.toList.length:=hg;simpa using this
  subst e
  exact(W X.A (I.ok.hd hc)).done s _ _ st fun h' tk eb=>⟨rfl,I.turned (t':=tk) (fun b o hb e=>eb b o (by simpa using hb) e) f0 f1 f3 f4 f5⟩
 self:=slf
def iStr (tl:TE):TI:=fun σ H R=>tl σ H fun x H1=>∃ z:Str,x=.str z/\R (Its z.cps.toList) H1
theorem pi_str {tg l:Expr}{tl:TE}(hl:PE X l tl):PI X tg l (iStr tl):=by
 intro pins s σ H R I h
 refine thn (hl pins s σ H _ I h) fun v s1 hq5=>?_
 obtain⟨x,H1,I1,r1,z,e,q⟩:=hq5
 subst e
 obtain⟨t,rfl⟩:=r1
 have fp:∀ b∈[s1.heap.objs.size],FpOk X pins H1 b:=fun b hb=>by
  have e:b=s1.heap.objs.size:=by simpa using hb
  subst e
  exact I1.fpOk (aa _) (I1.hok.fresh (aa _))
 have kp:∀(o:Obj),Inv X pins σ H1 { s1 with heap:=s1.heap.push o}:=fun o=>I1.kept (t':=s1.toks) fun b o' e=>gxL _ e
 cases ha:z.cps.all (·<128)
 ·refine wpAny_pyIter_wide ha ⟨s1.heap.objs.size,[s1.heap.objs.size],fun i h=>h.IsStrIter s1.heap.objs.size "str_iterator" z t i,_,H1,rfl,kp _,turn_str (n := "str_iterator") (fun A' hA=>Walks.strWide hA _ z t) (by decide) (fun i h st=>let ⟨o,a,b,c⟩:=st;⟨o,_,a,b,c⟩) (fun _ _ _ _ _ st h=>wpAny_pyIter_striter_wide st h),⟨_,ak _ rfl,rfl,rfl⟩,fp,q⟩
 ·refine wpAny_pyIter_ascii ha ⟨s1.heap.objs.size,[s1.heap.objs.size],fun i h=>h.IsStrIter s1.heap.objs.size "str_ascii_iterator" z t i,_,H1,rfl,kp _,turn_str (n := "str_ascii_iterator") (fun A' hA=>Walks.strAscii hA _ z t) (by decide) (fun i h st=>let ⟨o,a,b,c⟩:=st;⟨o,_,a,b,c⟩) (fun _ _ _ _ _ st h=>wpAny_pyIter_striter_ascii st h),⟨_,ak _ rfl,rfl,rfl⟩,fp,q⟩
theorem call_isi:CallR X (.builtin "isinstance") (fun vs H Q=>∃ x T t b,vs=[x,.ty T]/\TyOf X.K H x t/\PySem.W.kitOne X.K t (.type T)=some b/\Q (.bl b) H):=by
 intro pins s σ H vs us Q I rv h
 obtain⟨x,T,t,b,rfl,ty,e,q⟩:=h
 obtain⟨u,w',rfl,r1,r2⟩:=vals2 rv
 cases r2
 exact isinst_ok I r1 ty e fun tk=>⟨.bl b,H,I.tok tk,rfl,q⟩
end
end L2
namespace L2
open PySem PySem.Spec PyProof.Rows
open Builtin Builtin.Str
section
variable {X:Cx}
theorem OpR.imp {f:Value->Value->Sem Value}{r r':R2}(h:OpR X f r)(hi:∀ x y H Q,r' x y H Q->r x y H Q):OpR X f r':=fun pins s σ H x y v u Q I r1 r2 q=>h pins s σ H x y v u Q I r1 r2 (hi x y H Q q)
theorem PE.imp {e:Expr}{t t':TE}(h:PE X e t)(hi:∀ σ H Q,t' σ H Q->t σ H Q):PE X e t':=fun pins s σ H Q I q=>h pins s σ H Q I (hi σ H Q q)
theorem PT.imp {e:Expr}{t t':TT}(h:PT X e t)(hi:∀ σ H Q,t' σ H Q->t σ H Q):PT X e t':=fun pins s σ H Q I q=>h pins s σ H Q I (hi σ H Q q)
theorem PG.imp {e:Expr}{t t':TG}(h:PG X e t)(hi:∀ v σ H Q,t' v σ H Q->t v σ H Q):PG X e t':=fun pins s σ H v u Q I r q=>h pins s σ H v u Q I r (hi v σ H Q q)
theorem PGs.imp {e:List Expr}{t t':TGs}(h:PGs X e t)(hi:∀ v σ H Q,t' v σ H Q->t v σ H Q):PGs X e t':=fun pins s σ H v u Q I r q=>h pins s σ H v u Q I r (hi v σ H Q q)
theorem PS.imp {e:Stmt}{t t':TS}(h:PS X e t)(hi:∀ D σ H,t' D σ H->t D σ H):PS X e t':=fun pins s σ H D I q=>h pins s σ H D I (hi D σ H q)
theorem CallR.imp {f:Value}{r r':List V->Hp->VK->Prop}(h:CallR X f r)(hi:∀ vs H Q,r' vs H Q->r vs H Q):CallR X f r':=fun pins s σ H vs us Q I rv q=>h pins s σ H vs us Q I rv (hi vs H Q q)
theorem MtR.imp {id:String}{r r':V->List V->Hp->VK->Prop}(h:MtR X id r)(hi:∀ x vs H Q,r' x vs H Q->r x vs H Q):MtR X id r':=fun pins s σ H x vs v us Q I r1 rv q=>h pins s σ H x vs v us Q I r1 rv (hi x vs H Q q)
def cVar (i:Nat):TE:=fun σ H Q=>match σ[i]? with | some (some v)=>Q v H | _=>False
theorem pvC (i:Nat){x:Str}{pos:Pos}(hN:X.N[i]?=some x:=by rfl)(hv:Vis X.env.scope x:=by first | exact Or.inl rfl | exact Or.inr (Or.inl rfl) | exact Or.inr (Or.inr rfl))(hd:(x==("__debug__" : Str))=false:=by decide)
 (hcd:(x==("__classdict__" : Str))=false:=by decide):PE X (.Name x pos) (cVar i):=(pe_var (i:=i) hN hv hd hcd).imp fun σ H Q q=>by
 unfold cVar at q
 split at q
 ·rename_i v e;exact⟨v,e,q⟩
 ·exact q.elim
def rAddC:R2:=fun x y H Q=>match x,y with
 | .int i,.int j=>Q (.int (i+j)) H
 | .str i,.str j=>i.length+j.length<=sizeLine/\Q (.str (i++j)) H
 | .ref l,.ref b=>∃ xs zs,H l=some (.lst xs)/\H b=some (.lst zs)/\xs.length+zs.length<=sizeLine/\∀ p,H p=none->Q (.ref p) (upd H p (.lst (xs++zs)))
 | _,_=>False
theorem addC:OpR X (binaryOp .Add) rAddC:=(op_add.or (op_add_str.or op_cat)).imp fun x y H Q q=>by
 unfold rAddC at q
 split at q
 ·exact .inl ⟨_,_,rfl,rfl,q⟩
 ·exact .inr (.inl ⟨_,_,rfl,rfl,q.1,q.2⟩)
 ·obtain⟨xs,zs,a,b,c,d⟩:=q;exact .inr (.inr ⟨_,_,xs,zs,rfl,rfl,a,b,c,d⟩)
 ·exact q.elim
def rI2 (C:Int->Int->Prop)(g:Int->Int->V):R2:=fun x y H Q=>match x,y with
 | .int i,.int j=>C i j/\Q (g i j) H
 | _,_=>False
def rI2' (g:Int->Int->V):R2:=fun x y H Q=>match x,y with
 | .int i,.int j=>Q (g i j) H
 | _,_=>False
theorem OpR.i2 {f:Value->Value->Sem Value}{C:Int->Int->Prop}{g:Int->Int->V}(h:OpR X f (rI C g)):OpR X f (rI2 C g):=h.imp fun x y H Q q=>by
 unfold rI2 at q
 split at q
 ·exact⟨_,_,rfl,rfl,q.1,q.2⟩
 ·exact q.elim
theorem OpR.i2' {f:Value->Value->Sem Value}{g:Int->Int->V}(h:OpR X f (rI0 g)):OpR X f (rI2' g):=h.imp fun x y H Q q=>by
 unfold rI2' at q
 split at q
 ·exact⟨_,_,rfl,rfl,q⟩
 ·exact q.elim
theorem subC:OpR X (binaryOp .Sub) (rI2' fun i j=>.int (i - j)):=op_sub.i2'
def rMulC:R2:=fun x y H Q=>match x,y with
 | .int i,.int j=>CMul i j/\Q (.int (i*j)) H
 | .str z,.int n=>∃ c:Nat,z=⟨#[c]⟩ /\ -1000000<=n/\n<=1000000/\Q (.str ⟨(List.replicate n.toNat c).toArray⟩) H
 | _,_=>False
theorem mulC:OpR X (binaryOp .Mult) rMulC:=(op_mul.or op_mul_str).imp fun x y H Q q=>by
 unfold rMulC at q
 split at q
 ·exact .inl ⟨_,_,rfl,rfl,q.1,q.2⟩
 ·obtain⟨c,rfl,a,b,d⟩:=q;exact .inr ⟨c,_,rfl,rfl,a,b,d⟩
 ·exact q.elim
theorem divC:OpR X (binaryOp .FloorDiv) (rI2 CDiv fun i j=>.int (i / j)):=op_fdiv.i2
theorem modC:OpR X (binaryOp .Mod) (rI2 (fun _ j=>0<j) fun i j=>.int (i%j)):=op_mod.i2
theorem powC:OpR X (binaryOp .Pow) (rI2 CPow fun i j=>.int (i ^ j.toNat)):=op_pow.i2
theorem ltC:OpR X (compareOp .Lt) (rI2' fun i j=>.bl (decide (i<j))):=op_lt.i2'
theorem gtC:OpR X (compareOp .Gt) (rI2' fun i j=>.bl (decide (j<i))):=op_gt.i2'
theorem geC:OpR X (compareOp .GtE) (rI2' fun i j=>.bl (decide (j<=i))):=op_ge.i2'
def rEqC (neg:Bool):R2:=fun x y H Q=>match x,y with
 | .int i,.int j=>Q (.bl (neg != decide (i=j))) H
 | .str i,.str j=>Q (.bl (neg != decide (i=j))) H
 | .bl i,.bl j=>Q (.bl (neg != decide (i=j))) H
 | _,_=>False
theorem dec_congr {p q:Prop}[Decidable p][Decidable q](h:p↔q):decide p=decide q:=by
 by_cases hp:p
 ·rw[au hp,au (h.mp hp)]
 ·rw[ai hp,ai fun z=>hp (h.mpr z)]
theorem dI {i j:Int}:decide (V.int i=V.int j)=decide (i=j):=dec_congr (by simp)
theorem dS {i j:Str}:decide (V.str i=V.str j)=decide (i=j):=dec_congr (by simp)
theorem dB {i j:Bool}:decide (V.bl i=V.bl j)=decide (i=j):=dec_congr (by simp)
theorem eqC:OpR X (compareOp .Eq) (rEqC false):=op_eq.imp fun x y H Q q=>by
 unfold rEqC at q
 split at q
 ·exact⟨rfl,by rw[dI];simpa using q⟩
 ·exact⟨rfl,by rw[dS];simpa using q⟩
 ·exact⟨rfl,by rw[dB];simpa using q⟩
 ·exact q.elim
theorem neC:OpR X (compareOp .NotEq) (rEqC true):=op_ne.imp fun x y H Q q=>by
 unfold rEqC at q
 split at q
 ·exact⟨rfl,by rw[dI];simpa using q⟩
 ·exact⟨rfl,by rw[dS];simpa using q⟩
 ·exact⟨rfl,by rw[dB];simpa using q⟩
 ·exact q.elim
def cT (t:TE):TT:=fun σ H Q=>t σ H fun x H1=>match x with | .bl c=>Q c H1 | _=>False
end
def bK (Q:Bool->Hp->Prop):VK:=fun x H1=>match x with | .bl c=>Q c H1 | _=>False
section
variable {X:Cx}{a b e:Expr}{t ta tb:TE}{pos:Pos}
def cB (t:TE):TT:=fun σ H Q=>t σ H (bK Q)
theorem pt_cmpC {op:CmpOp}{r:R2}(ho:OpR X (compareOp op) r)(ha:PE X a ta)(hb:PE X b tb)(hm:behindInMarks op b=false):PT X (.Compare a [op] [b] pos) (cB (tOp r ta tb)):=by
 intro pins s σ H Q I h
 have hE:=pe_cmpR (pos:=pos) ho ha hb hm
 refine wpAny_isTrue_Compare1 ?_ hm
 refine binT ha hb I h fun v u s2 x y H2 I2 rx ry q=>?_
 refine thn (ho _ s2 σ H2 x y v u _ I2 rx ry q) fun c s3 hq6=>?_
 obtain⟨z,H3,I3,r3,q3⟩:=hq6
 cases z with
 | bl d=>cases r3;exact bG ⟨H3,I3,q3⟩
 | _=>exact(show False from q3).elim
theorem pt_valC (h:PE X e t)(he:∀ whole,isTrue e X.env whole=(do let v <- whole;standAt e.pos;holding [v] (truthy v)):=by intro _;rfl):PT X e (cB t):=by
 intro pins s σ H Q I hw
 refine isTrue_plain (thn (h pins s σ H _ I hw) fun v s1 hq0=>?_) (he _)
 obtain⟨x,H1,I1,r1,q1⟩:=hq0
 cases x with
 | bl d=>cases r1;exact bG ⟨H1,I1,q1⟩
 | _=>exact(show False from q1).elim
def cAnd (ta tb:TE):TE:=fun σ H Q=>ta σ H fun x H1=>match x with | .bl c=>if c=true then tb σ H1 Q else Q (.bl false) H1 | _=>False
def cNot (ta:TE):TE:=fun σ H Q=>ta σ H fun x H1=>match x with | .bl c=>Q (.bl (!c)) H1 | _=>False
theorem pe_andC {rest:List Expr}(ha:PE X a ta)(hb:PE X (.BoolOp .And (b::rest) pos) tb):PE X (.BoolOp .And (a::b::rest) pos) (cAnd ta tb):=by
 intro pins s σ H Q I h
 refine BoolOp_and (thn (ha pins s σ H _ I h) fun v s1 hq1=>?_)
 obtain⟨x,H1,I1,r1,q1⟩:=hq1
 cases x with
 | bl c =>
  cases r1
  refine bG ?_
  cases c with
  | true=>exact hb pins s1 σ H1 Q I1 q1
  | false=>exact⟨.bl false,H1,I1,rfl,q1⟩
 | _=>exact(show False from q1).elim
theorem pe_notC (ha:PE X a ta):PE X (.UnaryOp .Not a pos) (cNot ta):=by
 intro pins s σ H Q I h
 refine UnaryOp_ (thn (ha pins s σ H _ I h) fun v s1 hq2=>?_)
 obtain⟨x,H1,I1,r1,q1⟩:=hq2
 cases x with
 | bl c=>cases r1;exact not_of (bG ⟨.bl (!c),H1,I1,rfl,q1⟩)
 | _=>exact(show False from q1).elim
def opt {α:Type}(o:Option α)(k:α->Prop):Prop:=match o with | some v=>k v | none=>False
theorem opt_ex {α:Type}{o:Option α}{k:α->Prop}(h:opt o k):∃ v,o=some v/\k v:=by
 cases o with
 | none=>exact h.elim
 | some v=>exact⟨v,rfl,h⟩
def rIxC:R2:=fun x y H Q=>match x,y with
 | .ref p,.int i=>∃ xs,(H p=some (.lst xs)\/H p=some (.tup xs))/\opt (atI xs i) fun v=>Q v H
 | .str z,.int i=>z.length<=sizeLine/\opt (atI z.cps.toList i) fun c=>Q (.str ⟨#[c]⟩) H
 | _,_=>False
theorem IxR.imp {r r':R2}(h:IxR X r)(hi:∀ x y H Q,r' x y H Q->r x y H Q):IxR X r':=fun value slice pins s σ H x y v u Q I r1 r2 q=>h value slice pins s σ H x y v u Q I r1 r2 (hi x y H Q q)
theorem ixC:IxR X rIxC:=ix_seq.imp fun x y H Q q=>by
 unfold rIxC at q
 split at q
 ·obtain⟨xs,h,q⟩:=q
  obtain⟨v,e,q⟩:=opt_ex q
  rcases h with h | h
  ·exact .inl ⟨_,xs,_,v,rfl,rfl,SqL.of h,e,q⟩
  ·exact .inr (.inl ⟨_,xs,_,v,rfl,rfl,SqT.of h,e,q⟩)
 ·obtain⟨hz,q⟩:=q
  obtain⟨v,e,q⟩:=opt_ex q
  exact .inr (.inr ⟨_,_,v,rfl,rfl,hz,e,q⟩)
 ·exact q.elim
def rSlC:V->Option Int->Option Int->Hp->VK->Prop:=fun x lo hi H Q=>match x with
 | .ref p=>∃ xs,H p=some (.lst xs)/\∀ l,H l=none->Q (.ref l) (upd H l (.lst (cutV xs lo hi)))
 | .str z=>z.length<=sizeLine/\Q (.str ⟨(cutL z.cps.toList lo hi).toArray⟩) H
 | _=>False
theorem slC:SlR X rSlC:=by
 intro pins s σ H x v vl vu lo hi sl Q I rx hs pl pu h
 unfold rSlC at h
 split at h
 ·obtain⟨xs,h1,h2⟩:=h
  exact sl_list pins s σ H _ v vl vu lo hi sl Q I rx hs pl pu ⟨_,xs,rfl,SqL.of h1,h2⟩
 ·exact sl_str pins s σ H _ v vl vu lo hi sl Q I rx hs pl pu ⟨_,rfl,h.1,h.2⟩
 ·exact h.elim
def cNo:TO:=fun _ H Q=>Q none H
def cPart (t:TE):TO:=fun σ H Q=>t σ H fun x H1=>match x with | .int i=>Q (some i) H1 | _=>False
theorem po_noC:PO X none cNo:=po_none
theorem po_someC {te:TE}(h:PE X e te):PO X (some e) (cPart te):=by
 intro pins s σ H Q I hw
 rw[evalPart_some]
 refine thn (h pins s σ H _ I hw) fun u s1 hq3=>?_
 obtain⟨x,H1,I1,r1,q1⟩:=hq3
 cases x with
 | int i=>obtain⟨t,rfl⟩:=r1;exact⟨some i,H1,I1,.int i t,q1⟩
 | _=>exact(show False from q1).elim
def rLenC:List V->Hp->VK->Prop:=fun vs H Q=>match vs with
 | [.ref p]=>∃ xs,(H p=some (.lst xs)\/H p=some (.tup xs))/\Q (.int xs.length) H
 | [.str z]=>z.length<=sizeLine/\Q (.int z.length) H
 | _=>False
theorem lenC:CallR X (.builtin "len") rLenC:=(call_len_seq.or call_len_str).imp fun vs H Q q=>by
 unfold rLenC at q
 split at q
 ·obtain⟨xs,h,q⟩:=q
  rcases h with h | h
  ·exact .inl ⟨_,xs,rfl,.inl (SqL.of h),q⟩
  ·exact .inl ⟨_,xs,rfl,.inr (SqT.of h),q⟩
 ·exact .inr ⟨_,rfl,q.1,q.2⟩
 ·exact q.elim
def rSetC:TSet:=fun o i v H Q=>match o,i with
 | .ref p,.int k=>∃ xs,H p=some (.lst xs)/\opt (ixN xs.length k) fun j=>Q (upd H p (.lst (xs.set j v)))
 | _,_=>False
theorem setC:PSet X rSetC:=by
 intro pins s σ H o i v ov iv u Q I ro ri rv h
 unfold rSetC at h
 split at h
 ·obtain⟨xs,hx,q⟩:=h
  obtain⟨j,e,q⟩:=opt_ex q
  exact set_list pins s σ H _ _ v ov iv u Q I ro ri rv ⟨_,xs,_,j,rfl,rfl,hx,e,q⟩
 ·exact h.elim
def rGetC:V->V->Hp->VK->Prop:=fun o i H Q=>match o,i with
 | .ref p,.int k=>∃ xs,H p=some (.lst xs)/\0<=k/\opt (xs[k.toNat]?) fun v=>Q v H
 | _,_=>False
theorem getC:PGet X rGetC:=by
 intro pins s σ H o i ov iv Q I ro ri h
 unfold rGetC at h
 split at h
 ·obtain⟨xs,hx,h0,q⟩:=h
  obtain⟨v,e,q⟩:=opt_ex q
  cases ro
  obtain⟨t,rfl⟩:=ri
  obtain⟨z,its,n,r,hl,ho⟩:=I.lstM hx
  obtain⟨w,ew,rw'⟩:=r.get e
  have hlt:=(gxB e).1
  have hn:=line63
  exact wpAny_getItem_list (x:=w) (⟨_,ho,rfl,n,rfl⟩:s.heap.IsList _ its.toArray) h0 (by omega) (by simpa using ew) ⟨v,H,I,rw',q⟩
 ·exact h.elim
def ipC (f:Int->Int->Int):TIp:=fun x y H Q=>match x,y with | .int i,.int j=>Q (.int (f i j)) H | _,_=>False
theorem ip_addC:PIp X .Add (ipC fun i j=>i+j):=by
 intro pins s σ H x y v u Q I r1 r2 h
 unfold ipC at h
 split at h
 ·exact ip_add pins s σ H _ _ v u Q I r1 r2 ⟨_,_,rfl,rfl,h⟩
 ·exact h.elim
def cTup (n:Nat)(t:TGs):TG:=fun v σ H Q=>match v with | .ref a=>∃ xs,H a=some (.tup xs)/\xs.length=n/\t xs σ H Q | _=>False
def cCons (t:TG)(u:TGs):TGs:=fun vs σ H Q=>match vs with | v::r=>t v σ H fun σ' H'=>u r σ' H' Q | []=>False
def cNil:TGs:=fun vs σ H Q=>match vs with | []=>Q σ H | _=>False
theorem pg_tupC {es:List Expr}{k:Nat}{t:TGs}{n:Nat}(hc:X.calm=true)(h:PGs X es t)(hn:(assignEach es X.env).length=n:=by rfl)(hst:(assignEach es X.env).findIdx? (·.1)=none:=by rfl):PG X (.Tuple es k pos) (cTup n t) :=
 (pg_tup (pos:=pos) (k:=k) hc h hn hst).imp fun v σ H Q q=>by
  unfold cTup at q
  split at q
  ·obtain⟨xs,a,b,c⟩:=q;exact⟨_,xs,rfl,SqT.of a,b,c⟩
  ·exact q.elim
theorem pgs_consC {es:List Expr}{t:TG}{u:TGs}(h1:PG X e t)(h2:PGs X es u)(hs:(assignEach (e::es) X.env).map (·.2)=assign e X.env::(assignEach es X.env).map (·.2):=by rfl):PGs X (e::es) (cCons t u) :=
 (pgs_cons h1 h2 hs).imp fun v σ H Q q=>by
  unfold cCons at q
  split at q
  ·exact⟨_,_,rfl,q⟩
  ·exact q.elim
theorem pgs_nilC:PGs X [] cNil:=pgs_nil.imp fun v σ H Q q=>by
 unfold cNil at q
 split at q
 ·exact⟨rfl,q⟩
 ·exact q.elim
def rCountC:V->List V->Hp->VK->Prop:=fun x vs H Q=>match x,vs with
 | .str z,[.str y]=>∃ c:Nat,y=⟨#[c]⟩/\Q (.int ((z.cps.toList.count c:Nat):Int)) H
 | _,_=>False
theorem countC:MtR X "str.count" rCountC:=mt_count.imp fun x vs H Q q=>by
 unfold rCountC at q
 split at q
 ·obtain⟨c,rfl,q⟩:=q;exact⟨_,c,rfl,rfl,q⟩
 ·exact q.elim
def rIsiC (K:PySem.W.Frag):List V->Hp->VK->Prop:=fun vs H Q=>match vs with
 | [x,.ty T]=>∃ t b,TyOf K H x t/\PySem.W.kitOne K t (.type T)=some b/\Q (.bl b) H
 | _=>False
theorem isiC:CallR X (.builtin "isinstance") (rIsiC X.K):=call_isi.imp fun vs H Q q=>by
 unfold rIsiC at q
 split at q
 ·obtain⟨t,b,h1,h2,h3⟩:=q;exact⟨_,_,t,b,rfl,h1,h2,h3⟩
 ·exact q.elim
def rListC (K:PySem.W.Frag):List V->Hp->VK->Prop:=fun vs H Q=>match vs with
 | [.ref p]=>∃ ys,SqL K H p ys/\∀ l,H l=none->Q (.ref l) (upd H l (.lst ys))
 | _=>False
theorem listC:CallR X (.type "list") (rListC X.K):=call_list_of.imp fun vs H Q q=>by
 unfold rListC at q
 split at q
 ·obtain⟨ys,h1,h2⟩:=q;exact⟨_,ys,rfl,.inl h1,h2⟩
 ·exact q.elim
def rMaxC:List V->Hp->VK->Prop:=fun vs H Q=>∃ i j,vs=[.int i,.int j]/\Q (.int (max i j)) H
theorem maxC (hc:X.calm=true):CallR X (.builtin "max") rMaxC:=(call_max2 hc).imp fun vs H Q q=>by
 obtain⟨i,j,rfl,q⟩:=q
 refine⟨_,_,rfl,?_⟩
 have e:(if j>i then j else i)=max i j:=by split <;> omega
 rw[e];exact q
end
theorem iteD {c A B:Prop}[Decidable c](h1:c->A)(h2:¬ c->B):if decide c=true then A else B:=by
 by_cases h:c
 ·rw[ar (au h)];exact h1 h
 ·rw[aj (by simp[h])];exact h2 h
theorem iteDn {c A B:Prop}[Decidable c](h1:¬ c->A)(h2:c->B):if(true != decide c)=true then A else B:=by
 by_cases h:c
 ·rw[aj (by simp[h])];exact h2 h
 ·rw[ar (by simp[h])];exact h1 h
theorem iteDf {c A B:Prop}[Decidable c](h1:c->A)(h2:¬ c->B):if(false != decide c)=true then A else B:=by
 by_cases h:c
 ·rw[ar (by simp[h])];exact h1 h
 ·rw[aj (by simp[h])];exact h2 h
theorem iteB {b:Bool}{A B:Prop}(h1:b=true->A)(h2:b=false->B):if b=true then A else B:=by
 cases b with
 | true=>exact h1 rfl
 | false=>exact h2 rfl
def CNx (n i:Nat)(Pv:Nat->List V->Hp->Prop)(ys:List V):VK:=fun y H4=>ys.length<sizeLine/\∃ m',m'<n - i/\(m'=n - (i+1)/\i+1<=n/\Pv (i+1) (ys++[y]) H4)
theorem cnx {n i:Nat}{Pv:Nat->List V->Hp->Prop}{ys:List V}{y:V}{H:Hp}(hi:i<n)(hl:ys.length<sizeLine)(p:Pv (i+1) (ys++[y]) H):CNx n i Pv ys y H:=⟨hl,n - (i+1),by omega,rfl,hi,p⟩
def CSk (n i:Nat)(Pv:Nat->List V->Hp->Prop)(ys:List V)(H3:Hp):Prop:=∃ m',m'<n - i/\(m'=n - (i+1)/\i+1<=n/\Pv (i+1) ys H3)
end L2
namespace L2
open PySem PySem.Spec PyProof.Rows
structure Cal (P:Program)(w:World)(K:PySem.W.Frag)(mg:Str->Option Value)(base:Heap)(x:Str)(k:Nat)(ps:List Str)(sp:Sp):Prop where
 ex:∃ f fd,FnOk P w K mg base CX0 k f fd ps sp/\mg x=some (.ref f)/\PySem.W.keepIn K (.ref f)=true/\Binds K fd ps []
theorem pe_callC {X:Cx}{x:Str}{p pos:Pos}{e:Expr}{es:List Expr}{t:TA}{k:Nat}{ps:List Str}{sp:Sp}(C:Cal X.prog X.w X.K X.mg X.base x k ps sp)(hr:Room k X.A)(hg:Gl X x)(ha:PA X (e::es) t)
 (hdb:(x==("__debug__" : Str))=false:=by decide) (he:starEach (e::es) X.env=(false,eval e X.env)::starEach es X.env:=by rfl) (hpl:(backTo pos (starEach es X.env)).any (·.1)=false:=by rfl) :
 PE X (.Call (.Name x p) (e::es) [] pos) (tCall sp [] E0 t):=by
 obtain⟨f,fd,F,hm,hk,hb⟩:=C.ex
 exact pe_call F hr hg hm hk hb .nil pass0 ha hdb he hpl
def tCut (t u:TS):TS:=fun D σ H=>∃ M:St->Hp->Prop,t { D with nx:=M} σ H/\∀ σ' H',M σ' H'->u D σ' H'
theorem pss_cut {X:Cx}{st:Stmt}{rest:List Stmt}{t u:TS}(h1:PS X st t)(h2:PSs X rest u):PSs X (st::rest) (tCut t u):=by
 intro pins s σ H D I h
 obtain⟨M,a,b⟩:=h
 refine wpAny_execs_cons (thn (h1 pins s σ H { D with nx:=M} I a) fun f s1 q=>?_)
 cases f with
 | next =>
  obtain⟨σ',H',I',q⟩:=q
  exact h2 pins s1 σ' H' D I' (b σ' H' q)
 | ret v=>exact q
 | brk=>exact q
 | cont=>exact q
def SB (b:Addr)(H H':Hp):Prop:=∀ c o,c≠b->H c=some o->H' c=some o
theorem SB.trans {b:Addr}{H H1 H2:Hp}(h:SB b H H1)(h':SB b H1 H2):SB b H H2:=fun c o n e=>h' c o n (h c o n e)
theorem opt_of {α:Type}{o:Option α}{k:α->Prop}{v:α}(e:o=some v)(h:k v):opt o k:=by rw[e];exact h
def OB (b:Addr)(H H':Hp):Prop:=∀ c,c≠b->H' c=H c
theorem OB.refl {b:Addr}{H:Hp}:OB b H H:=fun _ _=>rfl
theorem OB.upd {b:Addr}{H H':Hp}{o:HO}(h:OB b H H'):OB b H (L2.upd H' b o):=fun c n=>by rw[upd_ne n];exact h c n
theorem pM:(0:Int)<2147483647:=by decide
theorem pN:(0:Int)<1000000007:=by decide
def OX (l:List Nat):Prop:=∀ c∈l,c=111\/c=120
theorem OX.of {l:List Nat}(h:l.all (fun c=>c==111||c==120)=true):OX l:=fun c hc=>by
 have:=List.all_eq_true.mp h c hc
 simpa using this
theorem app_str (a b:List Nat):((⟨a.toArray⟩:Str)++(⟨b.toArray⟩:Str))=⟨(a++b).toArray⟩:=by
 show(⟨a.toArray++b.toArray⟩:Str)=_
 congr 1
 simp
theorem lenS (a:List Nat):(⟨a.toArray⟩:Str).length=a.length:=by simp[Str.length]
def spLaw (K:PySem.W.Frag):Sp:=fun vs H Q _=>∃(a:Addr) (ns:List Int),vs=[.ref a]/\SqL K H a (ns.map V.int)/\ns.length<=63/\∀ H',Q (.bl true) H'
theorem fne (b:Bool):(false != b)=b:=by cases b <;> rfl
theorem tne (b:Bool):(true != b)=!b:=by cases b <;> rfl
theorem kit_same (K:PySem.W.Frag)(T:String):PySem.W.kitOne K (.type T) (.type T)=some true:=by unfold PySem.W.kitOne;simp
def ItOf (c:Bool)(h:Heap)(it a:Addr)(k:Nat):Prop:=if c=true then h.IsTupleIter it a k else h.IsListIter it a k
def SqOf (c:Bool)(h:Heap)(a:Addr)(its:Array Value):Prop:=if c=true then h.IsTuple a its else h.IsList a its
theorem ItOf.extBut {c:Bool}{h h':Heap}{it a b:Addr}{k:Nat}(x:ItOf c h it a k)(hs:Heap.ExtBut b h h')(hab:it≠b):ItOf c h' it a k:=by
 cases c with
 | true=>exact Heap.IsTupleIter.extBut x hs hab
 | false=>exact Heap.IsListIter.extBut x hs hab
theorem SqOf.extBut {c:Bool}{h h':Heap}{a b:Addr}{its:Array Value}(x:SqOf c h a its)(hs:Heap.ExtBut b h h')(hab:a≠b):SqOf c h' a its:=by
 cases c with
 | true=>exact Heap.IsTuple.extBut x hs hab
 | false=>exact Heap.IsList.extBut x hs hab
theorem SqOf.lt {c:Bool}{h:Heap}{a:Addr}{its:Array Value}(x:SqOf c h a its):a≠h.objs.size:=by
 cases c with
 | true=>obtain⟨o,e,_⟩:=x;exact ao (gxN e)
 | false=>obtain⟨o,e,_⟩:=x;exact ao (gxN e)
theorem ItOf.ex {c:Bool}{h:Heap}{it a:Addr}{k:Nat}(x:ItOf c h it a k):∃ o,h.get? it=some o:=by
 cases c with
 | true=>obtain⟨o,e,_⟩:=x;exact⟨o,e⟩
 | false=>obtain⟨o,e,_⟩:=x;exact⟨o,e⟩
theorem ItOf.data {c:Bool}{h:Heap}{it a:Addr}{k:Nat}(x:ItOf c h it a k):∃ o,h.get? it=some o/\∀ v,o.data≠.cell v:=by
 cases c with
 | true=>obtain⟨o,e,_,d⟩:=x;exact⟨o,e,fun v z=>by rw[d]at z;cases z⟩
 | false=>obtain⟨o,e,_,d⟩:=x;exact⟨o,e,fun v z=>by rw[d]at z;cases z⟩
theorem ItOf.at {c:Bool}{h h':Heap}{it a:Addr}{k:Nat}(x:ItOf c h it a k)(e:∀ o,h.get? it=some o->h'.get? it=some o):ItOf c h' it a k:=by
 cases c with
 | true=>obtain⟨o,q,r⟩:=x;exact⟨o,e o q,r⟩
 | false=>obtain⟨o,q,r⟩:=x;exact⟨o,e o q,r⟩
section
variable {prog:Program}{w:World}{A:Around}{E:Value->Shared->Prop}{s:Shared}
theorem nextT_item {it t:Addr}{i:Nat}{items}{x:Value}{Q:Value->Shared->Prop}(hit:s.heap.IsTupleIter it t i)(ht:s.heap.IsTuple t items)(hx:items[i]?=some x)
 (hQ:∀ h',h'.IsTupleIter it t (i+1)->Heap.SameBut it s.heap h'->Q x { s with heap:=h'}):wpAny (model prog w) A (Builtin.SmallTypes.nextOf (.ref it)) Q E s:=by
 obtain⟨o,ho,hc,hd⟩:=id hit
 obtain⟨ol,hol,_,nl,hdl⟩:=ht
 unfold Builtin.SmallTypes.nextOf
 refine gxM (aW (name:=Str.ofString "__next__") hit.typeIs bW (bt bW hit.typeIs F.entry_tuple_iterator_next ?_ (F.args_tuple_iterator_next_1 _)))
 show wpAny _ _ (field (.ref it) 0 >>= _) _ _ s
 refine gxM (aG ho hd (x:=.ref t) rfl ?_)
 show wpAny _ _ (if(Value.ref t==Value.none)=true then _ else _) _ _ s
 rw[aj (show ¬ ((Value.ref t==Value.none)=true)from av)]
 show wpAny _ _ (field (.ref it) 1 >>= _) _ _ s
 refine gxM (aG ho hd (x:=.int i 0) rfl ?_)
 show wpAny _ _ (seqItems? (.ref t) >>= _) _ _ s
 refine gxM (bo hol hdl ?_)
 simp only[gxK,hx]
 refine gxM (bT ho hd (by simp) (ae ⟨x,rfl,ae (hQ _ ?_ (cE ..))⟩))
 exact⟨_,aY _ ho (Obj.isFreed_of_fields (cO hd _)),(Obj.cls_mapFields ..).trans hc,by rw[cO hd];simp[rawInt]⟩
theorem nextT_end {it t:Addr}{i:Nat}{items}{Q:Value->Shared->Prop}(hh:A.handled=none)(hit:s.heap.IsTupleIter it t i)(ht:s.heap.IsTuple t items)(hx:items[i]?=none)
 (hE:∀ h' e,Heap.ExtBut it s.heap h'->(∃ o,h'.get? e=some o/\o.cls=.type "StopIteration")->E (.ref e) { s with heap:=h'}):wpAny (model prog w) A (Builtin.SmallTypes.nextOf (.ref it)) Q E s:=by
 obtain⟨o,ho,hc,hd⟩:=id hit
 obtain⟨ol,hol,_,nl,hdl⟩:=ht
 unfold Builtin.SmallTypes.nextOf
 refine gxM (aW (name:=Str.ofString "__next__") hit.typeIs bW (bt bW hit.typeIs F.entry_tuple_iterator_next ?_ (F.args_tuple_iterator_next_1 _)))
 show wpAny _ _ (field (.ref it) 0 >>= _) _ _ s
 refine gxM (aG ho hd (x:=.ref t) rfl ?_)
 show wpAny _ _ (if(Value.ref t==Value.none)=true then _ else _) _ _ s
 rw[aj (show ¬ ((Value.ref t==Value.none)=true)from av)]
 show wpAny _ _ (field (.ref it) 1 >>= _) _ _ s
 refine gxM (aG ho hd (x:=.int i 0) rfl ?_)
 show wpAny _ _ (seqItems? (.ref t) >>= _) _ _ s
 refine gxM (bo hol hdl ?_)
 simp only[gxK,hx]
 refine gxM (wpAny_rule (gxM (bT ho hd (by simp) ?_)))
 show wpAny _ _ (newExc (.type "StopIteration") [] >>= _) _ _ _
 refine gxM ?_
 simp only[newExc,newTuple]
 refine gxM (a8 ?_ (by size_fits))
 refine gxM (m:=firstArgMember _ _) (wpAny_of_eq (a:=Value.none) (by first | rfl | (simp only[firstArgMember];rfl)) ?_)
 refine a8 ?_ (by size_fits)
 simp only[raiseNew]
 refine gxM (wpAny_handled ?_)
 first | rw[show A.in1.handled=none from hh] | rw[hh]
 refine gxM (ae (wpAny_throw ?_))
 exact hE _ _ (((cE ..).extBut.push _).push _) ⟨_,ak _ rfl,rfl⟩
theorem nextG_item {c:Bool}{it l:Addr}{i:Nat}{items:Array Value}{x:Value}{Q:Value->Shared->Prop}(hit:ItOf c s.heap it l i)(hl:SqOf c s.heap l items)(hx:items[i]?=some x)
 (hQ:∀ h',ItOf c h' it l (i+1)->Heap.SameBut it s.heap h'->Q x { s with heap:=h'}):wpAny (model prog w) A (Builtin.SmallTypes.nextOf (.ref it)) Q E s:=by
 cases c with
 | true=>exact nextT_item hit hl hx hQ
 | false=>exact wpAny_nextOf_list_item hit hl hx hQ
theorem nextG_end {c:Bool}{it l:Addr}{i:Nat}{items:Array Value}{Q:Value->Shared->Prop}(hh:A.handled=none)(hit:ItOf c s.heap it l i)(hl:SqOf c s.heap l items)(hx:items[i]?=none)
 (hE:∀ h' e,Heap.ExtBut it s.heap h'->(∃ o,h'.get? e=some o/\o.cls=.type "StopIteration")->E (.ref e) { s with heap:=h'}):wpAny (model prog w) A (Builtin.SmallTypes.nextOf (.ref it)) Q E s:=by
 cases c with
 | true=>exact nextT_end hh hit hl hx hE
 | false=>exact wpAny_nextOf_list_end hh hit hl hx hE
structure ZS (c:Bool)(z TI TO i1 i2 l1 l2:Addr)(f a b:Value)(k1 k2:Nat)(xs ys:Array Value)(h:Heap):Prop where
 z:IsZip h z TI TO f
 ti:IsPair h TI (.ref i1) (.ref i2)
 to:IsPair h TO a b
 n1:ItOf c h i1 l1 k1
 n2:ItOf c h i2 l2 k2
 q1:SqOf c h l1 xs
 q2:SqOf c h l2 ys
def ZK (z TO i1 i2:Addr)(h h':Heap):Prop:=∀ d o,d≠z->d≠TO->d≠i1->d≠i2->h.get? d=some o->h'.get? d=some o
theorem ZK.trans {z TO i1 i2:Addr}{h h1 h2:Heap}(a:ZK z TO i1 i2 h h1)(b:ZK z TO i1 i2 h1 h2):ZK z TO i1 i2 h h2:=fun d o q1 q2 q3 q4 e=>b d o q1 q2 q3 q4 (a d o q1 q2 q3 q4 e)
section
variable {c:Bool}{z TI TO i1 i2 l1 l2:Addr}{f f' a b x y:Value}{k1 k2:Nat}{xs ys:Array Value}{h h':Heap}
theorem ZS.mz (S:ZS c z TI TO i1 i2 l1 l2 f a b k1 k2 xs ys h)(D:ZipApart z TI TO i1 i2 l1 l2)(e:IsZip h' z TI TO f')(k:Heap.ExtBut z h h'):ZS c z TI TO i1 i2 l1 l2 f' a b k1 k2 xs ys h' :=
 ⟨e,k _ _ D.TIz S.ti,k _ _ D.TOz S.to,S.n1.extBut k D.i1z,S.n2.extBut k D.i2z,S.q1.extBut k D.l1z,S.q2.extBut k D.l2z⟩
theorem ZS.m1 {j:Nat}(S:ZS c z TI TO i1 i2 l1 l2 f a b k1 k2 xs ys h)(D:ZipApart z TI TO i1 i2 l1 l2)(e:ItOf c h' i1 l1 j)(k:Heap.ExtBut i1 h h'):ZS c z TI TO i1 i2 l1 l2 f a b j k2 xs ys h' :=
 ⟨k _ _ D.i1z.symm S.z,k _ _ D.TIi1 S.ti,k _ _ D.TOi1 S.to,e,S.n2.extBut k D.i12.symm,S.q1.extBut k D.l1i1,S.q2.extBut k D.l2i1⟩
theorem ZS.m2 {j:Nat}(S:ZS c z TI TO i1 i2 l1 l2 f a b k1 k2 xs ys h)(D:ZipApart z TI TO i1 i2 l1 l2)(e:ItOf c h' i2 l2 j)(k:Heap.ExtBut i2 h h'):ZS c z TI TO i1 i2 l1 l2 f a b k1 j xs ys h' :=
 ⟨k _ _ D.i2z.symm S.z,k _ _ D.TIi2 S.ti,k _ _ D.TOi2 S.to,S.n1.extBut k D.i12,e,S.q1.extBut k D.l1i2,S.q2.extBut k D.l2i2⟩
theorem ZS.mo (S:ZS c z TI TO i1 i2 l1 l2 f a b k1 k2 xs ys h)(D:ZipApart z TI TO i1 i2 l1 l2)(e:IsPair h' TO x y)(k:Heap.ExtBut TO h h'):ZS c z TI TO i1 i2 l1 l2 f x y k1 k2 xs ys h' :=
 ⟨k _ _ D.TOz.symm S.z,k _ _ D.TITO S.ti,e,S.n1.extBut k D.TOi1.symm,S.n2.extBut k D.TOi2.symm,S.q1.extBut k D.l1TO,S.q2.extBut k D.l2TO⟩
theorem ZS.push (S:ZS c z TI TO i1 i2 l1 l2 f a b k1 k2 xs ys h)(o:Obj):ZS c z TI TO i1 i2 l1 l2 f a b k1 k2 xs ys (h.push o) :=
 ⟨gxL _ S.z,gxL _ S.ti,gxL _ S.to,S.n1.at fun _ e=>gxL _ e,S.n2.at fun _ e=>gxL _ e,
  S.q1.extBut (b:=h.objs.size) (fun _ _ _ e=>gxL _ e) (S.q1.lt),S.q2.extBut (b:=h.objs.size) (fun _ _ _ e=>gxL _ e) (S.q2.lt)⟩
theorem zk_z (k:Heap.ExtBut z h h'):ZK z TO i1 i2 h h':=fun d o q _ _ _ e=>k d o q e
theorem zk_o (k:Heap.ExtBut TO h h'):ZK z TO i1 i2 h h':=fun d o _ q _ _ e=>k d o q e
theorem zk_1 (k:Heap.ExtBut i1 h h'):ZK z TO i1 i2 h h':=fun d o _ _ q _ e=>k d o q e
theorem zk_2 (k:Heap.ExtBut i2 h h'):ZK z TO i1 i2 h h':=fun d o _ _ _ q e=>k d o q e
end
section
variable {c:Bool}{z TI TO i1 i2 l1 l2:Addr}{k1 k2:Nat}{xs ys:Array Value}{x y a b:Value}
theorem zip_turn {Q:Value->Shared->Prop}(D:ZipApart z TI TO i1 i2 l1 l2)(S:ZS c z TI TO i1 i2 l1 l2 .none a b k1 k2 xs ys s.heap)(hx:xs[k1]?=some x)(hy:ys[k2]?=some y)
 (hQ:∀ h',ZS c z TI TO i1 i2 l1 l2 (rawInt s.heap.objs.size) x y (k1+1) (k2+1) xs ys h'->IsPair h' s.heap.objs.size x y->ZK z TO i1 i2 s.heap h'->Q (.ref s.heap.objs.size) { s with heap:=h'}) :
 wpAny (model prog w) A (Builtin.«zip.__next__» ⟨[.ref z],[]⟩) (fun fin s'=>∃ v,fin=.done (.ret v)/\Q v s') E s:=by
 refine gxM (ae (gxM (aG S.z rfl (x:=.bool false) rfl (gxM (aG S.z rfl (x:=.ref TI) rfl (gxM (bo S.ti rfl ?_)))))))
 refine gxM (m:=Builtin.SmallTypes.ownedTupleIsFree (.ref z)) (gxM (aG S.z rfl (x:=.none) rfl (ae ?_)))
 refine gxM (wpAny_rule (gxM (aG S.z rfl (x:=.ref TO) rfl (gxM (bJ S.z (by simp) fun g1 e1 t1=>?_)))))
 have S1:=S.mz D (f':=.ellipsis) e1 t1.extBut
 refine gxM ?_
 rw[show(#[Value.ref i1,Value.ref i2]:Array Value).toList.zipIdx=[(.ref i1,0),(.ref i2,1)]from rfl,bC]
 refine gxM (gxM (wpAny_onRaise (gxM (nextG_item S1.n1 S1.q1 hx fun g2 e2 t2=>ae ?_))))
 have S2:=S1.m1 D e2 t2.extBut
 refine gxM (bo S2.to rfl (gxM (wpAny_updateSeq_pair S2.to fun g3 e3 t3=>gxM (wpAny_letGo (ae ?_)))))
 have S3:=S2.mo D (x:=x) (y:=b) e3 t3.extBut
 dsimp only
 rw[bC]
 refine gxM (gxM (wpAny_onRaise (gxM (nextG_item S3.n2 S3.q2 hy fun g4 e4 t4=>ae ?_))))
 have S4:=S3.m2 D e4 t4.extBut
 refine gxM (bo S4.to rfl (gxM (wpAny_updateSeq_pair S4.to fun g5 e5 t5=>gxM (wpAny_letGo (ae ?_)))))
 have S5:=S4.mo D (x:=x) (y:=y) e5 t5.extBut
 dsimp only
 rw[List.forIn_nil]
 have sz:g5.objs.size=s.heap.objs.size:=t5.1.trans (t4.1.trans (t3.1.trans (t2.1.trans t1.1)))
 refine ae (gxM (bo S5.to rfl (gxM (wpAny_newTuple ?_))))
 have S6:=S5.push { cls:=.type "tuple",data:=.seq #[x,y]}
 refine gxM (m:=Builtin.SmallTypes.ownedTupleHandOut (.ref z) (.ref g5.objs.size)) (gxM (bJ S6.z (by simp) fun g7 e7 t7=>?_))
 have S7:=S6.mz D (f':=rawInt g5.objs.size) e7 t7.extBut
 refine bJ S7.z (by simp) fun g8 e8 t8=>?_
 have S8:=S7.mz D (f':=rawInt g5.objs.size) e8 t8.extBut
 have zlt:g5.objs.size≠z:=aR (gxN S5.z)
 have hT:IsPair g8 g5.objs.size x y:=t8.extBut _ _ zlt (t7.extBut _ _ zlt (ak _ rfl))
 have kk:ZK z TO i1 i2 s.heap g8:=((((((zk_z t1.extBut).trans (zk_1 t2.extBut)).trans (zk_o t3.extBut)).trans (zk_2 t4.extBut)).trans (zk_o t5.extBut)).trans (fun d o _ _ _ _ e=>gxL _ e)).trans ((zk_z t7.extBut).trans (zk_z t8.extBut))
 rw[sz]at S8 hT
 refine ae ⟨_,rfl,?_⟩
 show Q (.ref g5.objs.size) _
 rw[sz]
 exact hQ g8 S8 hT kk
theorem zip_over {Q:Fin->Shared->Prop}(hh:A.handled=none)(D:ZipApart z TI TO i1 i2 l1 l2)(S:ZS c z TI TO i1 i2 l1 l2 .none a b k1 k2 xs ys s.heap)(hx:xs[k1]?=none)
 (hE:∀ h' e,ZK z TO i1 i2 s.heap h'->(∃ o,h'.get? e=some o/\o.cls=.type "StopIteration")->E (.ref e) { s with heap:=h'}) :
 wpAny (model prog w) A (Builtin.«zip.__next__» ⟨[.ref z],[]⟩) Q E s:=by
 refine gxM (ae (gxM (aG S.z rfl (x:=.bool false) rfl (gxM (aG S.z rfl (x:=.ref TI) rfl (gxM (bo S.ti rfl ?_)))))))
 refine gxM (m:=Builtin.SmallTypes.ownedTupleIsFree (.ref z)) (gxM (aG S.z rfl (x:=.none) rfl (ae ?_)))
 refine gxM (wpAny_rule (gxM (aG S.z rfl (x:=.ref TO) rfl (gxM (bJ S.z (by simp) fun g1 e1 t1=>?_)))))
 have S1:=S.mz D (f':=.ellipsis) e1 t1.extBut
 refine gxM ?_
 rw[show(#[Value.ref i1,Value.ref i2]:Array Value).toList.zipIdx=[(.ref i1,0),(.ref i2,1)]from rfl,bC]
 refine gxM (gxM (wpAny_onRaise (gxM (nextG_end hh S1.n1 S1.q1 hx fun g2 e t2 he=>?_))))
 obtain⟨oe,hoe,hce⟩:=he
 have hz2:IsZip g2 z TI TO .ellipsis:=t2 _ _ D.i1z.symm S1.z
 have hez:e≠z:=fun q=>by subst q;rw[hz2]at hoe;cases hoe;simp at hce
 exact bJ hz2 (by simp) fun g3 _ t3=>hE g3 e (((zk_z t1.extBut).trans (zk_1 t2)).trans (zk_z t3.extBut)) ⟨oe,t3.extBut _ _ hez hoe,hce⟩
theorem zip_item {Q:Option Value->Shared->Prop}(D:ZipApart z TI TO i1 i2 l1 l2)(S:ZS c z TI TO i1 i2 l1 l2 .none a b k1 k2 xs ys s.heap)(hx:xs[k1]?=some x)(hy:ys[k2]?=some y)
 (hQ:∀ h',ZS c z TI TO i1 i2 l1 l2 (rawInt s.heap.objs.size) x y (k1+1) (k2+1) xs ys h'->IsPair h' s.heap.objs.size x y->ZK z TO i1 i2 s.heap h'->Q (some (.ref s.heap.objs.size)) { s with heap:=h'}) :
 wpAny (model prog w) A (pyNext (.ref z)) Q E s:=by
 have ty:s.TypeIs (.ref z) "zip":=⟨_,S.z,rfl⟩
 unfold pyNext
 exact gxM (b9 (aW (name:=Str.ofString "__next__") ty bD (bt bD ty cC (zip_turn D S hx hy fun h' a1 a2 a3=>ae (hQ h' a1 a2 a3)) (cy _))))
theorem zip_end {Q:Option Value->Shared->Prop}(hh:A.handled=none)(D:ZipApart z TI TO i1 i2 l1 l2)(S:ZS c z TI TO i1 i2 l1 l2 .none a b k1 k2 xs ys s.heap)(hx:xs[k1]?=none)
 (hQ:∀ h',ZK z TO i1 i2 s.heap h'->Q none { s with heap:=h'}):wpAny (model prog w) A (pyNext (.ref z)) Q E s:=by
 have ty:s.TypeIs (.ref z) "zip":=⟨_,S.z,rfl⟩
 unfold pyNext
 refine gxM (b9 (aW (name:=Str.ofString "__next__") ty bD (bt bD ty cC (zip_over hh D S hx fun h' e hk he=>?_) (cy _))))
 obtain⟨o,ho,hc⟩:=he
 exact gxM (wpAny_isInstance (T := "StopIteration") (b:=true) ⟨o,ho,hc⟩ isSubtype_stop (ae (hQ _ hk)))
end
end
def SqC (c:Bool)(H:Hp)(a:Addr)(xs:List V):Prop:=if c=true then H a=some (.tup xs)else H a=some (.lst xs)
theorem SqC.inj {c:Bool}{H:Hp}{a:Addr}{xs ys:List V}(h:SqC c H a xs)(h':SqC c H a ys):xs=ys:=by
 cases c with
 | true=>have h1:H a=some (.tup xs):=h;have h2:H a=some (.tup ys):=h';rw[h1]at h2;cases h2;rfl
 | false=>have h1:H a=some (.lst xs):=h;have h2:H a=some (.lst ys):=h';rw[h1]at h2;cases h2;rfl
theorem SqC.ex {c:Bool}{H:Hp}{a:Addr}{xs:List V}(h:SqC c H a xs):∃ o,H a=some o:=by
 cases c with
 | true=>exact⟨_,h⟩
 | false=>exact⟨_,h⟩
theorem SqC.val {X:Cx}{pins:List (Addr×Obj)}{σ:St}{H:Hp}{s:Shared}{c:Bool}{a:Addr}{xs:List V}(I:Inv X pins σ H s)(h:SqC c H a xs):∃ its:List Value,Vals xs its/\SqOf c s.heap a its.toArray:=by
 cases c with
 | true =>
  obtain⟨_,its,r,p⟩:=(show ObjOk X.prog X.w H s.heap a (.tup xs)from I.hok a _ h)
  exact⟨its,r,p⟩
 | false =>
  obtain⟨_,its,n,r,_,e⟩:=I.lstM h
  exact⟨its,r,⟨_,e,rfl,n,rfl⟩⟩
def Itz (c:Bool)(a1 a2:Addr):It :=
 ⟨fun i H=>∃ xs ys x y,SqC c H a1 xs/\SqC c H a2 ys/\xs[i]?=some x/\ys[i]?=some y,
  fun i H v H'=>∃ T x y,v=.ref T/\H T=none/\H'=upd H T (.tup [x,y])/\(∀ xs,SqC c H a1 xs->xs[i]?=some x)/\(∀ ys,SqC c H a2 ys->ys[i]?=some y),
  fun i H=>∃ xs ys,SqC c H a1 xs/\SqC c H a2 ys/\xs.length<=i⟩
section
variable {X:Cx}{pins:List (Addr×Obj)}{σ:St}{H:Hp}{s:Shared}
theorem Inv.turnT {ch:List Addr}{h'':Heap}{x y:V}{u v:Value}(I:Inv X pins σ H s)(fr:∀ b∈ch,FpOk X pins H b)(kp':∀ b o,b∉ch->s.heap.get? b=some o->h''.get? b=some o)(hT':IsPair h'' s.heap.objs.size u v)(ru:RelV x u)(rv:RelV y v) :
 Inv X pins σ (upd H s.heap.objs.size (.tup [x,y])) { s with heap:=h''}:=by
 have hn:H s.heap.objs.size=none:=I.hok.fresh (aa _)
 refine I.step (g':=s.gens) (d':=s.drawn) (t':=s.toks) (h':=h'') (ch:=ch) (fun b hb=>?_) (fun b o _ _ hb e _=>kp' b o hb e) (fun b o _ _ hb e _=>⟨o.slots,kp' b o hb e⟩)
  (fun b o hb e n=>by rw[upd_ne (ao (gxN e))];exact n) (fun b o hb e=>⟨o,kp' b o hb e⟩)
  (fun b zs e=>by rw[upd_ne (ne_of_none e hn)];exact e) (fun b o u e=>by rw[upd_ne (ne_of_none e hn)];exact e) (fun b ps e=>⟨#[],by rw[upd_ne (ne_of_none e hn),e];simp⟩) (fun m hm=>?_) (fun b o e=>?_) I.bare
 ·obtain⟨f0,f1,f2,f3,f4,f5⟩:=fr b hb
  exact⟨f3,f1,f4,f5⟩
 ·obtain⟨o,es,ep,ho,rr⟩:=hm
  exact⟨o,es,ep,kp' _ o (fun q=>(fr _ q).2.1 rfl) ho,rr⟩
 ·by_cases hb:b=s.heap.objs.size
  ·subst hb;rw[upd_same]at e;cases e
   exact⟨by show 2<=sizeLine;decide,[u,v],.cons ru (.cons rv .nil),⟨_,hT',rfl,0,rfl⟩⟩
  ·rw[upd_ne hb]at e
   refine(I.hok b o e).stay (fun d v' hd q=>kp' d v' (fun hm=>?_) q) (fun d q=>by rw[upd_ne (ne_of_none q hn)];exact q) fun d zs q=>by rw[upd_ne (ne_of_none q hn)];exact q
   have nn:=(fr d hm).1
   rcases hd with rfl | hd
   ·rw[nn]at e;cases e
   ·rw[nn]at hd;cases hd
theorem Inv.turnK {ch:List Addr}{h'':Heap}(I:Inv X pins σ H s)(fr:∀ b∈ch,FpOk X pins H b)(kp':∀ b o,b∉ch->s.heap.get? b=some o->h''.get? b=some o):Inv X pins σ H { s with heap:=h''}:=by
 refine I.step (g':=s.gens) (d':=s.drawn) (t':=s.toks) (h':=h'') (ch:=ch) (fun b hb=>?_) (fun b o _ _ hb e _=>kp' b o hb e) (fun b o _ _ hb e _=>⟨o.slots,kp' b o hb e⟩)
  (fun b o hb e n=>n) (fun b o hb e=>⟨o,kp' b o hb e⟩) (fun b zs e=>e) (fun b o u e=>e) (fun b ps e=>⟨#[],by rw[e];simp⟩) (fun m hm=>?_) (fun b o e=>?_) I.bare
 ·obtain⟨f0,f1,f2,f3,f4,f5⟩:=fr b hb
  exact⟨f3,f1,f4,f5⟩
 ·obtain⟨o,es,ep,ho,rr⟩:=hm
  exact⟨o,es,ep,kp' _ o (fun q=>(fr _ q).2.1 rfl) ho,rr⟩
 ·refine(I.hok b o e).stay (fun d v' hd q=>kp' d v' (fun hm=>?_) q) (fun d q=>q) fun d zs q=>q
  have nn:=(fr d hm).1
  rcases hd with rfl | hd
  ·rw[nn]at e;cases e
  ·rw[nn]at hd;cases hd
end
theorem turn_zip {P:Program}{w:World}{K:PySem.W.Frag}{elts:List Expr}{kk:Nat}{tpos:Pos}{c:Bool}{z TI TO i1 i2 l1 l2:Addr}(D:ZipApart z TI TO i1 i2 l1 l2) :
 Turn P w K (.Tuple elts kk tpos) (Itz c l1 l2) [z,TI,TO,i1,i2] z (fun i h=>IsZip h z TI TO .none/\IsPair h TI (.ref i1) (.ref i2)/\(∃ a b,IsPair h TO a b)/\ItOf c h i1 l1 i/\ItOf c h i2 l2 i) where
 mem:=by simp
 obj:=fun i h st b hb=>by
  obtain⟨hz,hTI,⟨a,b',hTO⟩,h1,h2⟩:=st
  simp only[bg,aT,bU]at hb
  rcases hb with rfl | rfl | rfl | rfl | rfl
  ·exact⟨_,hz,fun v q=>by cases q⟩
  ·exact⟨_,hTI,fun v q=>by cases q⟩
  ·exact⟨_,hTO,fun v q=>by cases q⟩
  ·exact h1.data
  ·exact h2.data
 keep:=fun i h h' st k=>by
  obtain⟨hz,hTI,⟨a,b',hTO⟩,h1,h2⟩:=st
  exact⟨k z (by simp) _ hz,k TI (by simp) _ hTI,⟨a,b',k TO (by simp) _ hTO⟩,h1.at fun o e=>k i1 (by simp) o e,h2.at fun o e=>k i2 (by simp) o e⟩
 item:=by
  intro X hP hw hK hc i pins s σ H E I hf st hg
  subst hP hw hK
  obtain⟨hz,hTI,⟨a,b',hTO⟩,h1,h2⟩:=st
  obtain⟨xs,ys,x,y,q1,q2,ex,ey⟩:=hg
  obtain⟨us,r1,p1⟩:=q1.val I
  obtain⟨ws,r2,p2⟩:=q2.val I
  obtain⟨u,eu,ru⟩:=r1.get ex
  obtain⟨v,ev,rv⟩:=r2.get ey
  refine zip_item D ⟨hz,hTI,hTO,h1,h2,p1,p2⟩ (by simpa using eu) (by simpa using ev) fun h' S' hT hk=>?_
  refine⟨_,rfl,wpAny_letOwnedTupleGo_zip S'.z fun h'' e'' t''=>?_⟩
  have S'':=S'.mz D (f':=.none) e'' t''.extBut
  have Tz:s.heap.objs.size≠z:=aR (gxN hz)
  have hT':IsPair h'' s.heap.objs.size u v:=t''.extBut _ _ Tz hT
  have kp:ZK z TO i1 i2 s.heap h'':=hk.trans (zk_z t''.extBut)
  have hn:H s.heap.objs.size=none:=I.hok.fresh (aa _)
  have fr:∀ b∈[z,TO,i1,i2],FpOk X pins H b:=fun b hb=>hf b (by
   simp only[bg,aT,bU]at hb ⊢
   rcases hb with q | q | q | q <;> simp[q])
  have kp':∀ b o,b∉[z,TO,i1,i2]->s.heap.get? b=some o->h''.get? b=some o:=fun b o hb e=>kp b o (fun q=>hb (by simp[q])) (fun q=>hb (by simp[q])) (fun q=>hb (by simp[q])) (fun q=>hb (by simp[q])) e
  have I1:Inv X pins σ (upd H s.heap.objs.size (.tup [x,y])) { s with heap:=h''}:=I.turnT fr kp' hT' ru rv
  refine⟨.ref s.heap.objs.size,_,I1,rfl,⟨_,x,y,rfl,hn,rfl,fun zs q=>by rw[q.inj q1];exact ex,fun zs q=>by rw[q.inj q2];exact ey⟩,⟨S''.z,S''.ti,⟨_,_,S''.to⟩,S''.n1,S''.n2⟩,fun b hb=>?_⟩
  obtain⟨o,e,_⟩:∃ o,s.heap.get? b=some o/\True:=by
   simp only[bg,aT,bU]at hb
   rcases hb with rfl | rfl | rfl | rfl | rfl
   ·exact⟨_,hz,trivial⟩
   ·exact⟨_,hTI,trivial⟩
   ·exact⟨_,hTO,trivial⟩
   ·obtain⟨o,e⟩:=h1.ex;exact⟨o,e,trivial⟩
   ·obtain⟨o,e⟩:=h2.ex;exact⟨o,e,trivial⟩
  rw[upd_ne (ao (gxN e))]
  exact(hf b hb).1
 done:=by
  intro X hP hw hK hc i pins s σ H E I hf st hg
  subst hP hw hK
  obtain⟨hz,hTI,⟨a,b',hTO⟩,h1,h2⟩:=st
  obtain⟨xs,ys,q1,q2,hx⟩:=hg
  obtain⟨us,r1,p1⟩:=q1.val I
  obtain⟨ws,r2,p2⟩:=q2.val I
  have hl:=r1.length
  refine zip_end (I.ok.hd hc) D ⟨hz,hTI,hTO,h1,h2,p1,p2⟩ (by simp;omega) fun h' hk=>⟨rfl,?_⟩
  have fr:∀ b∈[z,TO,i1,i2],FpOk X pins H b:=fun b hb=>hf b (by
   simp only[bg,aT,bU]at hb ⊢
   rcases hb with q | q | q | q <;> simp[q])
  have kp':∀ b o,b∉[z,TO,i1,i2]->s.heap.get? b=some o->h'.get? b=some o:=fun b o hb e=>hk b o (fun q=>hb (by simp[q])) (fun q=>hb (by simp[q])) (fun q=>hb (by simp[q])) (fun q=>hb (by simp[q])) e
  exact I.turnK fr kp'
 self:=fun _ _ _ _ _ st h=>wpAny_pyIter_zip st.1 h
def tIt (a:Addr):Obj:={ cls:=.type "tuple_iterator",data:=.fields #[.ref a,.int 0 0]}
def zH (l1 l2:Addr)(h:Heap):Heap :=
 ((((h.push (tIt l1)).push (tIt l2)).push { cls:=.type "tuple",data:=.seq #[.ref h.objs.size,.ref (h.push (tIt l1)).objs.size]}).push { cls:=.type "tuple",data:=.seq #[.none,.none]}).push
  { cls:=.type "zip",data:=.fields #[.none,.bool false,.bool false,.ref ((h.push (tIt l1)).push (tIt l2)).objs.size,.ref (((h.push (tIt l1)).push (tIt l2)).push { cls:=.type "tuple",data:=.seq #[.ref h.objs.size,.ref (h.push (tIt l1)).objs.size]}).objs.size]}
theorem zip_newT (l1 l2:Addr)(xs ys:Array Value):Meets (Builtin.«zip.__new__» ⟨[.type "zip",.ref l1,.ref l2],[]⟩) (fun _ R s=>s.heap.IsTuple l1 xs/\s.heap.IsTuple l2 ys /\
 R (.ok (.ret (.ref (s.heap.objs.size+4)))) { s with heap:=zH l1 l2 s.heap}) :=
 .of_wp fun prog w A R s h=>by
  obtain⟨hp,g,d,tk,os⟩:=s;obtain⟨hl1,hl2,h⟩:=h
  have hsub:=sub_zip
  have t1:Heap.IsTuple (Shared.heap ⟨hp,g,d,tk,os⟩) l1 xs:=hl1
  have t2:Heap.IsTuple (Shared.heap ⟨hp.push { cls:=.type "tuple_iterator",data:=.fields #[.ref l1,.int 0 0]},g,d,tk,os⟩) l2 ys:=Heap.IsTuple.push hl2 _
  wp_walk using wpAny_pyIter_tuple t1,wpAny_pyIter_tuple t2
  refine⟨_,rfl,?_⟩
  have e:hp.objs.size+4=((((hp.push (tIt l1)).push (tIt l2)).push { cls:=.type "tuple",data:=.seq #[.ref hp.objs.size,.ref (hp.push (tIt l1)).objs.size]}).push { cls:=.type "tuple",data:=.seq #[.none,.none]}).objs.size:=by
   simp only[a6]
  have h':R (.ok (.ret (.ref (hp.objs.size+4)))) _:=h
  rw[e]at h'
  exact h'
theorem zip_made {prog:Program}{w:World}{A:Around}{E:Value->Shared->Prop}{s:Shared}{c:Bool}{l1 l2:Addr}{xs ys:Array Value}{Q:Value->Shared->Prop}(p1:SqOf c s.heap l1 xs)(p2:SqOf c s.heap l2 ys)
 (h:∀ h',IsZip h' (s.heap.objs.size+4) (s.heap.objs.size+2) (s.heap.objs.size+3) .none->IsPair h' (s.heap.objs.size+2) (.ref s.heap.objs.size) (.ref (s.heap.objs.size+1))->IsPair h' (s.heap.objs.size+3) .none .none ->
   ItOf c h' s.heap.objs.size l1 0->ItOf c h' (s.heap.objs.size+1) l2 0->(∀ b o,s.heap.get? b=some o->h'.get? b=some o)->Q (.ref (s.heap.objs.size+4)) { s with heap:=h'}) :
 wpAny (model prog w) A (call (.type "zip") [.ref l1,.ref l2]) Q E s:=by
 cases c with
 | false=>exact call_zip_2 p1 p2 fun h' a1 a2 a3 a4 a5 _ a7=>h h' a1 a2 a3 a4 a5 a7
 | true =>
  refine callType_new F.called_zip (by decide) (F.typeCall_zip_2 _ _) (F.newCall_zip_2 _ _) (fun obj=>F.args_object_init_3 obj _ _) F.entry_zip_new (zip_newT l1 l2 xs ys) ⟨p1,p2,?_⟩
  have z1:(s.heap.push (tIt l1)).objs.size=s.heap.objs.size+1:=a6 ..
  have z2:((s.heap.push (tIt l1)).push (tIt l2)).objs.size=s.heap.objs.size+2:=by rw[a6,z1]
  have z3:(((s.heap.push (tIt l1)).push (tIt l2)).push { cls:=.type "tuple",data:=.seq #[.ref s.heap.objs.size,.ref (s.heap.push (tIt l1)).objs.size]}).objs.size=s.heap.objs.size+3:=by rw[a6,z2]
  have z4:((((s.heap.push (tIt l1)).push (tIt l2)).push { cls:=.type "tuple",data:=.seq #[.ref s.heap.objs.size,.ref (s.heap.push (tIt l1)).objs.size]}).push { cls:=.type "tuple",data:=.seq #[.none,.none]}).objs.size=s.heap.objs.size+4:=by rw[a6,z3]
  have g0:(zH l1 l2 s.heap).get? s.heap.objs.size=some (tIt l1):=gxL _ (gxL _ (gxL _ (gxL _ (ak _ rfl))))
  have g1:(zH l1 l2 s.heap).get? (s.heap.push (tIt l1)).objs.size=some (tIt l2):=gxL _ (gxL _ (gxL _ (ak _ rfl)))
  have g2:(zH l1 l2 s.heap).get? ((s.heap.push (tIt l1)).push (tIt l2)).objs.size=some _:=gxL _ (gxL _ (ak _ rfl))
  have g3:(zH l1 l2 s.heap).get? (((s.heap.push (tIt l1)).push (tIt l2)).push { cls:=.type "tuple",data:=.seq #[.ref s.heap.objs.size,.ref (s.heap.push (tIt l1)).objs.size]}).objs.size=some _:=gxL _ (ak _ rfl)
  have g4:(zH l1 l2 s.heap).get? ((((s.heap.push (tIt l1)).push (tIt l2)).push { cls:=.type "tuple",data:=.seq #[.ref s.heap.objs.size,.ref (s.heap.push (tIt l1)).objs.size]}).push { cls:=.type "tuple",data:=.seq #[.none,.none]}).objs.size=some _:=ak _ rfl
  rw[z1]at g1
  rw[z2,z1]at g2
  rw[z3]at g3
  rw[z4,z2,z3]at g4
  exact⟨⟨_,g4,rfl⟩,h _ g4 g2 g3 ⟨_,g0,rfl,rfl⟩ ⟨_,g1,rfl,rfl⟩ fun b o e=>gxL _ (gxL _ (gxL _ (gxL _ (gxL _ e))))⟩
section
variable {X:Cx}
def iZip (ta:TA):TI:=fun σ H R=>ta σ H fun vs H1=>match vs with
 | [.ref a,.ref b]=>∃(c:Bool) (xs ys:List V),SqC c H1 a xs/\SqC c H1 b ys/\R (Itz c a b) H1
 | _=>False
theorem pi_zip {elts:List Expr}{kk:Nat}{tpos:Pos}{a b:Expr}{ta:TA}{p pos:Pos}(hg:Gl X "zip")(hm:X.mg "zip"=none)(ha:PA X [a,b] ta)(hs:starEach [a,b] X.env=[(false,eval a X.env),(false,eval b X.env)]:=by rfl)(hs2:starEach [b] X.env=[(false,eval b X.env)]:=by rfl) :
 PI X (.Tuple elts kk tpos) (.Call (.Name "zip" p) [a,b] [] pos) (iZip ta):=by
 intro pins s σ H R I h
 refine Call_ (ld_blt I hg hm boot_zip (bh (thn (ha pos pins s σ H _ I h) fun us s1 hq4=>?_) (by rw[hs,hs2]) (by rw[hs2];rfl)))
 obtain⟨vs,H1,I1,r1,q1⟩:=hq4
 try dsimp only at q1
 split at q1
 ·rename_i l1 l2
  obtain⟨c,xs,ys,q1,q2,q⟩:=q1
  obtain⟨u1,u2,rfl,e1,e2⟩:=r1.two
  cases e1;cases e2
  obtain⟨us,r1,p1⟩:=q1.val I1
  obtain⟨ws,r2,p2⟩:=q2.val I1
  have lt:∀ {l:Addr} {o:HO},H1 l=some o->l<s1.heap.objs.size:=fun e=>I1.hok.lt e
  obtain⟨o1,w1⟩:=q1.ex
  obtain⟨o2,w2⟩:=q2.ex
  refine zip_made p1 p2 fun h' hz hTI hTO n1 n2 kp=>wpAny_pyIter_zip hz ?_
  have I2:Inv X pins σ H1 { s1 with heap:=h'}:=I1.kept (t':=s1.toks) kp
  refine⟨s1.heap.objs.size+4,_,_,_,H1,rfl,I2,turn_zip (c:=c) (zipApart_new (lt w1) (lt w2)),⟨hz,hTI,⟨_,_,hTO⟩,n1,n2⟩,fun b hb=>?_,q⟩
  have hb':s1.heap.objs.size<=b:=by
   simp only[bg,aT,bU]at hb
   rcases hb with e | e | e | e | e <;> subst e
   ·exact aX ..
   ·exact aX ..
   ·exact aX ..
   ·exact aa _
   ·exact aX ..
  exact I1.fpOk hb' (I1.hok.fresh hb')
 ·exact q1.elim
def rAllC (g:List Bool->Bool):List V->Hp->VK->Prop:=fun vs H Q=>match vs with
 | [.ref p]=>∃ bs:List Bool,H p=some (.lst (bs.map V.bl))/\Q (.bl (g bs)) H
 | _=>False
theorem range_all (bs:List Bool):(List.range bs.length).all (fun i=>bs.getD i true)=bs.all id:=by
 rw[cw,bS,bS]
 constructor
 ·intro h b hb
  obtain⟨i,hi,e⟩:=cj hb
  have:=h i (by simpa using hi)
  rw[bq,gxA hi,e]at this
  exact this
 ·intro h i hi
  have hi':i<bs.length:=by simpa using hi
  rw[bq,gxA hi']
  exact h _ (List.getElem_mem _)
theorem allC (hc:X.calm=true):CallR X (.builtin "all") (rAllC fun bs=>bs.all id):=by
 intro pins s σ H vs us Q I rv h
 unfold rAllC at h
 split at h
 ·rename_i p
  obtain⟨bs,hp,q⟩:=h
  obtain⟨u,rfl,ru⟩:=rv.one
  cases ru
  obtain⟨z,its,n,r,hl,e⟩:=I.lstM hp
  have isl:s.heap.IsList p its.toArray:=⟨_,e,rfl,n,rfl⟩
  have lt:p≠s.heap.objs.size:=ao (gxN e)
  refine call_all_walk (wpAny_pyIter_list isl ⟨_,_,_,_,_,_,fun i=>bs.getD i true,rfl,Walks.list (A:=X.A.in1) (I.ok.hd hc) s.heap.objs.size p lt its.toArray,⟨⟨_,ak _ rfl,rfl,rfl⟩,isl.push _⟩,?_,fun h' tk kp=>?_⟩)
  ·intro i v s' Q' E' hv hq
   have hv':its[i]?=some v:=by simpa using hv
   have hb:∃ b,bs[i]?=some b/\v=.bool b:=by
    cases eb:(bs.map V.bl)[i]? with
    | none=>have:=r.none_of eb;rw[hv']at this;cases this
    | some y =>
     obtain⟨u,hu,ry⟩:=r.get eb
     rw[hv']at hu;cases hu
     rw[gxH]at eb
     cases e2:bs[i]? with
     | none=>rw[e2]at eb;cases eb
     | some b=>rw[e2]at eb;cases eb;exact⟨b,rfl,ry⟩
   obtain⟨b,eb,rfl⟩:=hb
   have e3:bs.getD i true=b:=by rw[bq,eb];rfl
   have hq':Q' (bs.getD i true) s':=hq
   rw[e3]at hq'
   exact bG hq'
  ·have I2:Inv X pins σ H { s with heap:=h',toks:=tk}:=I.kept fun b o e'=>kp b o (by simpa using ao (gxN e')) (gxL _ e')
   have len:its.toArray.size=bs.length:=by rw[ag,<- hl,gxC]
   rw[len,range_all]
   exact⟨.bl _,H,I2,rfl,q⟩
 ·exact h.elim
def rEqN:R2:=fun x y H Q=>match x,y with
 | .non,.non=>Q (.bl true) H
 | .int i,.int j=>Q (.bl (decide (i=j))) H
 | .str i,.str j=>Q (.bl (decide (i=j))) H
 | .bl i,.bl j=>Q (.bl (decide (i=j))) H
 | _,_=>False
theorem eqN:OpR X (compareOp .Eq) rEqN:=op_eq.imp fun x y H Q q=>by
 unfold rEqN at q
 split at q
 ·exact⟨rfl,by simpa using q⟩
 ·exact⟨rfl,by rw[dI];exact q⟩
 ·exact⟨rfl,by rw[dS];exact q⟩
 ·exact⟨rfl,by rw[dB];exact q⟩
 ·exact q.elim
end
section
variable {js:List (Option Nat)}{g:TG}{tt:TT}{te:TE}{σ:St}{H:Hp}{fin:List V->Hp->Prop}
theorem compZip {c:Bool}{a1 a2:Addr}{xs zs:List V}(hn:xs.length=zs.length)(Pv:Nat->List V->Hp->Prop)(h0:Pv 0 [] H)(hl:∀ i ys H,Pv i ys H->SqC c H a1 xs/\SqC c H a2 zs)
 (hs:∀ i x y ys H T,i<xs.length->xs[i]?=some x->zs[i]?=some y->Pv i ys H->H T=none->g (.ref T) (startC js σ) (upd H T (.tup [x,y])) fun σ2 H2=>Ext (startC js σ) σ2/\tt σ2 H2 fun b H3=>if b=true then te σ2 H3 (CNx xs.length i Pv ys)else CSk xs.length i Pv ys H3)
 (hd:∀ ys H,Pv xs.length ys H->fin ys H):wComp js g tt te (Itz c a1 a2) σ H fin:=by
 refine⟨fun i m ys H=>m=xs.length - i/\i<=xs.length/\Pv i ys H,⟨xs.length,by simp,aV _,h0⟩,?_⟩
 rintro i m ys H ⟨rfl,hi,p⟩
 obtain⟨q1,q2⟩:=hl i ys H p
 by_cases hlt:i<xs.length
 ·refine .inr ⟨⟨xs,zs,xs[i],zs[i]'(by omega),q1,q2,by simp[hlt],by simp[show i<zs.length by omega]⟩,fun v H' yl=>?_⟩
  obtain⟨T,x,y,rfl,hT,rfl,h1,h2⟩:=yl
  exact hs i x y ys H T hlt (h1 xs q1) (h2 zs q2) p hT
 ·have e:i=xs.length:=by omega
  subst e
  exact .inl ⟨⟨xs,zs,q1,q2,aa _⟩,hd ys H p⟩
end
inductive DV where
 | non | bl (b:Bool) | int (i:Int) | str (z:Str) | lst (ds:List DV) | tup (ds:List DV)
mutual
def dep:DV->Nat
 | .lst ds=>depL ds+1
 | .tup ds=>depL ds+1
 | _=>0
def depL:List DV->Nat
 | []=>0
 | d::ds=>max (dep d) (depL ds)
end
mutual
def wid:DV->Nat
 | .lst ds=>max ds.length (widL ds)
 | .tup ds=>max ds.length (widL ds)
 | _=>0
def widL:List DV->Nat
 | []=>0
 | d::ds=>max (wid d) (widL ds)
end
mutual
def Is (H:Hp):DV->V->Prop
 | .non,v=>v=.non
 | .bl b,v=>v=.bl b
 | .int i,v=>v=.int i
 | .str z,v=>v=.str z
 | .lst ds,v=>∃ p vs,v=.ref p/\H p=some (.lst vs)/\IsAll H ds vs
 | .tup ds,v=>∃ p vs,v=.ref p/\H p=some (.tup vs)/\IsAll H ds vs
def IsAll (H:Hp):List DV->List V->Prop
 | [],vs=>vs=[]
 | d::ds,vs=>∃ v r,vs=v::r/\Is H d v/\IsAll H ds r
end
mutual
theorem Is.mono {H H':Hp}(s:Same H H'):∀(d:DV) (v:V),Is H d v->Is H' d v
 | .non,_,h=>h
 | .bl _,_,h=>h
 | .int _,_,h=>h
 | .str _,_,h=>h
 | .lst ds,_,h=>by
  obtain⟨p,vs,e,hp,q⟩:=h
  exact⟨p,vs,e,s _ _ hp,IsAll.mono s ds vs q⟩
 | .tup ds,_,h=>by
  obtain⟨p,vs,e,hp,q⟩:=h
  exact⟨p,vs,e,s _ _ hp,IsAll.mono s ds vs q⟩
theorem IsAll.mono {H H':Hp}(s:Same H H'):∀(ds:List DV) (vs:List V),IsAll H ds vs->IsAll H' ds vs
 | [],_,h=>h
 | d::ds,_,h=>by
  obtain⟨v,r,e,h1,h2⟩:=h
  exact⟨v,r,e,Is.mono s d v h1,IsAll.mono s ds r h2⟩
end
theorem IsAll.len {H:Hp}:∀ {ds:List DV} {vs:List V},IsAll H ds vs->vs.length=ds.length
 | [],_,h=>by rw[show _=[]from h];rfl
 | d::ds,_,h=>by obtain⟨v,r,rfl,_,h2⟩:=h;rw[aJ,aJ,IsAll.len h2]
theorem IsAll.get {H:Hp}:∀ {ds:List DV} {vs:List V} {i:Nat} {v:V},IsAll H ds vs->vs[i]?=some v->∃ d,ds[i]?=some d/\Is H d v
 | [],_,i,v,h,e=>by rw[show _=[]from h]at e;simp at e
 | d::ds,_,0,v,h,e=>by
  obtain⟨v',r,rfl,h1,h2⟩:=h
  simp at e;subst e;exact⟨d,rfl,h1⟩
 | d::ds,_,i+1,v,h,e=>by
  obtain⟨v',r,rfl,h1,h2⟩:=h
  obtain⟨d',e1,e2⟩:=IsAll.get (i:=i) h2 (by simpa using e)
  exact⟨d',by simpa using e1,e2⟩
theorem depL_get:∀ {ds:List DV} {i:Nat} {d:DV},ds[i]?=some d->dep d<=depL ds
 | d::ds,0,d',h=>by simp at h;subst h;unfold depL;omega
 | d::ds,i+1,d',h=>by have:=depL_get (ds:=ds) (i:=i) (by simpa using h);unfold depL;omega
theorem widL_get:∀ {ds:List DV} {i:Nat} {d:DV},ds[i]?=some d->wid d<=widL ds
 | d::ds,0,d',h=>by simp at h;subst h;unfold widL;omega
 | d::ds,i+1,d',h=>by have:=widL_get (ds:=ds) (i:=i) (by simpa using h);unfold widL;omega
def spSame (n:Nat):Sp:=fun vs H Q _=>match vs with
 | [x,y]=>∃ d,dep d<=n/\wid d<sizeLine/\Is H d x/\Is H d y/\∀ H',Same H H'->Q (.bl true) H'
 | _=>False
def spNo:Sp:=fun _ _ _ _=>False
def spS:Nat->Sp
 | 0=>spNo
 | n+1=>spSame n
theorem Same.upd {H:Hp}{p:Addr}{o:HO}(h:H p=none):Same H (L2.upd H p o):=fun b u e=>by rw[upd_ne (ne_of_none e h)];exact e
theorem cutL_to {α:Type}{l:List α}{n:Int}(h:0<=n):cutL l none (some n)=l.take n.toNat:=by
 obtain⟨m,rfl⟩:∃ m:Nat,n=(m:Int):=⟨n.toNat,by omega⟩
 unfold cutL
 rw[HT.sIx_nat,HT.sIx_none,List.drop_zero,Nat.sub_zero,gxK]
 by_cases hm:m<=l.length
 ·rw[bY hm]
 ·rw[Nat.min_eq_right (by omega),List.take_length,aU (by omega)]
theorem cutL_from {α:Type}{l:List α}{n:Int}(h:0<=n):cutL l (some n) none=l.drop n.toNat:=by
 obtain⟨m,rfl⟩:∃ m:Nat,n=(m:Int):=⟨n.toNat,by omega⟩
 unfold cutL
 rw[HT.sIx_nat,HT.sIx_none,gxK]
 by_cases hm:m<=l.length
 ·rw[bY hm,aU (by rw[bR];omega)]
 ·rw[Nat.min_eq_right (by omega),cp (aa _),cp (by omega),List.take_nil]
end L2
namespace L2
open PySem PySem.Spec PyProof.Rows
def PairsAt (H:Hp):List V->List (Nat×Nat)->Prop:=Paired fun v r=>∃ p,v=.ref p/\H p=some (.tup [.int r.1,.int r.2])
def TupS (H H':Hp):Prop:=∀ p xs,H p=some (.tup xs)->H' p=some (.tup xs)
theorem TupS.trans {H H1 H2:Hp}(a:TupS H H1)(b:TupS H1 H2):TupS H H2:=fun p xs h=>b p xs (a p xs h)
theorem PairsAt.mono {H H':Hp}(t:TupS H H'):∀ {vs:List V} {rs:List (Nat×Nat)},PairsAt H vs rs->PairsAt H' vs rs
 | _,_,.nil=>.nil
 | _,_,.cons ⟨p,e,h⟩ r=>.cons ⟨p,e,t _ _ h⟩ (PairsAt.mono t r)
def rr (l:List Nat):Nat->Nat×List (Nat×Nat)
 | 0=>(0,[])
 | i+1=>if l[i]?=some 120 then(i+1,if(rr l i).1<i then(rr l i).2++[((rr l i).1,i)]else(rr l i).2)else rr l i
def endsOf (n:Int)(cs:List Int):List Int:=0::cs++[n]
inductive D where
 | non | bl (b:Bool) | int (i:Int) | str (z:Str) | lst (ds:List D) | tup (ds:List D) | dic (ks:List Key) (ds:List D) | mr (k:Nat) | obj (C:Addr) (ns:List Str) (ds:List D) | fdc (ks:List Key) (ds:List D) | fn (a:Addr)
inductive MO where
 | box | lst (ds:List D) | dic (ks:List Key) (ds:List D) | fdic (o:Obj) (kvs:List (Key×V)) (ds:List D) | ins (C:Addr) (ns:List Str) (ds:List D) | dtu (ks:List (List Key)) (ds:List D) | gx (φ:List Addr) (H:Hp) | exc (c:Value)
abbrev MS:=List MO
def lvM (μ:MS)(k:Nat):Option (List D):=match μ[k]? with | some (.lst ds)=>some ds | _=>none
theorem lvM_eq {μ:MS}{k:Nat}{ds:List D}(h:lvM μ k=some ds):μ[k]?=some (.lst ds):=by
 unfold lvM at h
 split at h
 ·cases h;assumption
 ·cases h
theorem lvM_of {μ:MS}{k:Nat}{ds:List D}(h:μ[k]?=some (.lst ds)):lvM μ k=some ds:=by unfold lvM;rw[h]
abbrev DE:=List (Option D)
mutual
def DIs (φ:List Addr)(H:Hp):D->V->Prop
 | .non,v=>v=.non
 | .bl b,v=>v=.bl b
 | .int i,v=>v=.int i
 | .str z,v=>v=.str z
 | .lst ds,v=>∃ p vs,v=.ref p/\p∉φ/\H p=some (.lst vs)/\DAll φ H ds vs
 | .tup ds,v=>∃ p vs,v=.ref p/\p∉φ/\H p=some (.tup vs)/\DAll φ H ds vs
 | .dic ks ds,v=>∃ p kvs vs,v=.ref p/\p∉φ/\H p=some (.dK kvs)/\kvs.map (·.1)=ks/\vs=kvs.map (·.2)/\DAll φ H ds vs
 | .mr k,v=>∃ p,φ[k]?=some p/\v=.ref p
 | .obj C ns ds,v=>∃ p dx fs vs,v=.ref p/\p∉φ/\H p=some (.ins C dx fs)/\fs.map (·.1)=ns/\vs=fs.map (·.2)/\DAll φ H ds vs
 | .fdc ks ds,v=>∃ p o kvs vs,v=.ref p/\p∉φ/\H p=some (.frz o (.dK kvs))/\kvs.map (·.1)=ks/\vs=kvs.map (·.2)/\DAll φ H ds vs
 | .fn a,v=>v=.ref a
def DAll (φ:List Addr)(H:Hp):List D->List V->Prop
 | [],vs=>vs=[]
 | d::ds,vs=>∃ v r,vs=v::r/\DIs φ H d v/\DAll φ H ds r
end
structure Fr (φ:List Addr)(H:Hp)(φ':List Addr)(H':Hp):Prop where
 ext:∃ ψ,φ'=φ++ψ/\∀ c∈ψ,H c=none
 keep:∀ c o,c∉φ->H c=some o->H' c=some o
 dom:∀ c,H' c=none->H c=none
theorem Fr.refl (φ:List Addr)(H:Hp):Fr φ H φ H:=⟨⟨[],by simp,fun _ h=>nomatch h⟩,fun _ _ _ h=>h,fun _ h=>h⟩
theorem Fr.trans {φ φ1 φ2:List Addr}{H H1 H2:Hp}(a:Fr φ H φ1 H1)(b:Fr φ1 H1 φ2 H2):Fr φ H φ2 H2:=by
 obtain⟨⟨ψ,rfl,hψ⟩,k1,d1⟩:=a
 obtain⟨⟨χ,rfl,hχ⟩,k2,d2⟩:=b
 refine⟨⟨ψ++χ,by simp,fun c hc=>?_⟩,fun c o hc e=>k2 c o (fun h=>?_) (k1 c o hc e),fun c h=>d1 c (d2 c h)⟩
 ·rcases List.mem_append.mp hc with h | h
  ·exact hψ c h
  ·exact d1 c (hχ c h)
 ·rcases List.mem_append.mp h with h | h
  ·exact hc h
  ·rw[hψ c h]at e;cases e
theorem Fr.same {φ:List Addr}{H H':Hp}(h:Same H H'):Fr φ H φ H':=⟨⟨[],by simp,fun _ h=>nomatch h⟩,fun c o _ e=>h c o e,fun c e=>h.free e⟩
theorem Fr.new {φ:List Addr}{H:Hp}{p:Addr}{o:HO}(h:H p=none):Fr φ H φ (upd H p o):=.same (Same.upd h)
theorem Fr.put {φ:List Addr}{H:Hp}{p:Addr}{o:HO}(h:p∈φ):Fr φ H φ (upd H p o) :=
 ⟨⟨[],by simp,fun _ h=>nomatch h⟩,fun c u hc e=>by rw[upd_ne (show c≠p from fun z=>hc (by rw[z];exact h))];exact e,fun c e=>by
  unfold upd at e
  split at e
  ·cases e
  ·exact e⟩
theorem Fr.snoc {φ:List Addr}{H:Hp}{p:Addr}(h:H p=none):Fr φ H (φ++[p]) H:=⟨⟨[p],rfl,fun c hc=>by rw[List.mem_singleton.mp hc];exact h⟩,fun _ _ _ e=>e,fun _ e=>e⟩
theorem Fr.notin {φ φ':List Addr}{H H':Hp}(f:Fr φ H φ' H'){p:Addr}{o:HO}(h:p∉φ)(e:H p=some o):p∉φ':=by
 obtain⟨⟨ψ,rfl,hψ⟩,_,_⟩:=f
 intro hc
 rcases List.mem_append.mp hc with q | q
 ·exact h q
 ·rw[hψ p q]at e;cases e
theorem Fr.get {φ φ':List Addr}{H H':Hp}(f:Fr φ H φ' H'){k:Nat}{p:Addr}(h:φ[k]?=some p):φ'[k]?=some p:=by
 obtain⟨⟨ψ,rfl,hψ⟩,_,_⟩:=f
 rw[gxF (gxB h).1];exact h
mutual
theorem DIs.mono {φ φ':List Addr}{H H':Hp}(f:Fr φ H φ' H'):∀ {d:D} {v:V},DIs φ H d v->DIs φ' H' d v
 | .non,_,h=>h
 | .bl _,_,h=>h
 | .int _,_,h=>h
 | .str _,_,h=>h
 | .lst _,_,h=>by obtain⟨p,vs,e,n,hp,q⟩:=h;exact⟨p,vs,e,f.notin n hp,f.keep _ _ n hp,DAll.mono f q⟩
 | .tup _,_,h=>by obtain⟨p,vs,e,n,hp,q⟩:=h;exact⟨p,vs,e,f.notin n hp,f.keep _ _ n hp,DAll.mono f q⟩
 | .dic _ _,_,h=>by obtain⟨p,kvs,vs,e,n,hp,q1,q2,q⟩:=h;exact⟨p,kvs,vs,e,f.notin n hp,f.keep _ _ n hp,q1,q2,DAll.mono f q⟩
 | .mr _,_,h=>by obtain⟨p,e,q⟩:=h;exact⟨p,f.get e,q⟩
 | .obj _ _ _,_,h=>by obtain⟨p,dx,fs,vs,e,n,hp,q1,q2,q⟩:=h;exact⟨p,dx,fs,vs,e,f.notin n hp,f.keep _ _ n hp,q1,q2,DAll.mono f q⟩
 | .fdc _ _,_,h=>by obtain⟨p,dx,fs,vs,e,n,hp,q1,q2,q⟩:=h;exact⟨p,dx,fs,vs,e,f.notin n hp,f.keep _ _ n hp,q1,q2,DAll.mono f q⟩
 | .fn _,_,h=>h
theorem DAll.mono {φ φ':List Addr}{H H':Hp}(f:Fr φ H φ' H'):∀ {ds:List D} {vs:List V},DAll φ H ds vs->DAll φ' H' ds vs
 | [],_,h=>h
 | _::_,_,h=>by obtain⟨v,r,e,h1,h2⟩:=h;exact⟨v,r,e,DIs.mono f h1,DAll.mono f h2⟩
end
theorem DAll.len {φ:List Addr}{H:Hp}:∀ {ds:List D} {vs:List V},DAll φ H ds vs->vs.length=ds.length
 | [],_,h=>by rw[show _=[]from h];rfl
 | d::ds,_,h=>by obtain⟨v,r,rfl,_,h2⟩:=h;rw[aJ,aJ,DAll.len h2]
theorem DAll.get {φ:List Addr}{H:Hp}:∀ {ds:List D} {vs:List V} {i:Nat} {d:D},DAll φ H ds vs->ds[i]?=some d->∃ v,vs[i]?=some v/\DIs φ H d v
 | [],_,i,d,h,e=>by simp at e
 | d::ds,_,0,d',h,e=>by obtain⟨v',r,rfl,h1,h2⟩:=h;simp at e;subst e;exact⟨v',rfl,h1⟩
 | d::ds,_,i+1,d',h,e=>by
  obtain⟨v',r,rfl,h1,h2⟩:=h
  obtain⟨v,e1,e2⟩:=DAll.get (i:=i) h2 (by simpa using e)
  exact⟨v,by simpa using e1,e2⟩
theorem DAll.getV {φ:List Addr}{H:Hp}{ds:List D}{vs:List V}{i:Nat}{v:V}(h:DAll φ H ds vs)(e:vs[i]?=some v):∃ d,ds[i]?=some d/\DIs φ H d v:=by
 have hl:=h.len
 have hi:=(gxB e).1
 obtain⟨u,e1,e2⟩:=h.get (d:=ds[i]'(by omega)) (gxA (by omega))
 rw[e]at e1;cases e1
 exact⟨_,gxA (by omega),e2⟩
theorem DAll.app {φ:List Addr}{H:Hp}:∀ {ds es:List D} {vs us:List V},DAll φ H ds vs->DAll φ H es us->DAll φ H (ds++es) (vs++us)
 | [],_,_,_,h,g=>by rw[show _=[]from h];exact g
 | d::ds,es,_,us,h,g=>by obtain⟨v,r,rfl,h1,h2⟩:=h;exact⟨v,r++us,rfl,h1,h2.app g⟩
theorem DAll.take {φ:List Addr}{H:Hp}:∀ {ds:List D} {vs:List V} (n:Nat),DAll φ H ds vs->DAll φ H (ds.take n) (vs.take n)
 | _,_,0,_=>rfl
 | [],_,n+1,h=>by rw[show _=[]from h];rfl
 | d::ds,_,n+1,h=>by obtain⟨v,r,rfl,h1,h2⟩:=h;exact⟨v,r.take n,rfl,h1,h2.take n⟩
theorem DAll.drop {φ:List Addr}{H:Hp}:∀ {ds:List D} {vs:List V} (n:Nat),DAll φ H ds vs->DAll φ H (ds.drop n) (vs.drop n)
 | _,_,0,h=>h
 | [],_,n+1,h=>by rw[show _=[]from h];rfl
 | d::ds,_,n+1,h=>by obtain⟨v,r,rfl,h1,h2⟩:=h;exact h2.drop n
theorem DAll.bls {φ:List Addr}{H:Hp}:∀ {ns:List Bool} {vs:List V},DAll φ H (ns.map D.bl) vs->vs=ns.map V.bl
 | [],_,h=>h
 | n::ns,_,h=>by obtain⟨v,r,rfl,h1,h2⟩:=h;rw[show v=.bl n from h1,DAll.bls h2];rfl
def BxF (φ:List Addr)(H:Hp)(b:Addr):Prop:=∃(q:Addr) (ns:List Int) (i r z:Int),H b=some (.lst [.ref q,.int i,.int r,.int z])/\H q=some (.lst (ns.map V.int))/\q∉φ/\0<=i/\0<=z/\z<2147483647
def ExcIs (p:Addr)(c:Value)(h:Heap):Prop:=∃ oe vs,h.get? p=some oe/\oe.cls=c/\oe.dict=none/\oe.data=.fields vs/\vs[2]?=some .none
def MoIs (φ:List Addr)(H:Hp):MO->Addr->Prop
 | .box,p=>BxF φ H p
 | .lst ds,p=>∃ vs,H p=some (.lst vs)/\DAll φ H ds vs
 | .dic ks ds,p=>∃ kvs vs,H p=some (.dK kvs)/\kvs.map (·.1)=ks/\vs=kvs.map (·.2)/\DAll φ H ds vs
 | .fdic o kvs ds,p=>H p=some (.frz o (.dK kvs))/\DAll φ H ds (kvs.map (·.2))
 | .ins C ns ds,p=>∃ dx fs,H p=some (.ins C dx fs)/\fs.map (·.1)=ns/\DAll φ H ds (fs.map (·.2))
 | .dtu ks ds,p=>∃ kvs,H p=some (.dT kvs)/\kvs.map (·.1)=ks/\DAll φ H ds (kvs.map (·.2))
 | .gx φ0 H0,p=>Fr φ0 H0 φ H/\H p=H0 p/\(∃ o,H p=some o)/\∀ zs,H p≠some (.tup zs)
 | .exc c,p=>H p=some (.ext (ExcIs p c))
structure MSis (φ:List Addr)(H:Hp)(μ:MS):Prop where
 nd:φ.Nodup
 len:φ.length=μ.length
 at_:∀(k:Nat) (m:MO),μ[k]?=some m->∃ p,φ[k]?=some p/\MoIs φ H m p
theorem MoIs.mono {φ φ':List Addr}{H H':Hp}(f:Fr φ H φ' H'){m:MO}{p:Addr}(s:∀ o,H p=some o->H' p=some o)(h:MoIs φ H m p):MoIs φ' H' m p:=by
 cases m with
 | box=>obtain⟨q,ns,i,r,z,h1,h2,h3,h4⟩:=h;exact⟨q,ns,i,r,z,s _ h1,f.keep _ _ h3 h2,f.notin h3 h2,h4⟩
 | lst ds=>obtain⟨vs,h1,h2⟩:=h;exact⟨vs,s _ h1,h2.mono f⟩
 | dic ks ds=>obtain⟨kvs,vs,h1,h2,h3,h4⟩:=h;exact⟨kvs,vs,s _ h1,h2,h3,h4.mono f⟩
 | fdic o kvs ds=>exact⟨s _ h.1,h.2.mono f⟩
 | ins C ns ds=>obtain⟨dx,fs,h1,h2,h3⟩:=h;exact⟨dx,fs,s _ h1,h2,h3.mono f⟩
 | dtu ks ds=>obtain⟨kvs,h1,h2,h3⟩:=h;exact⟨kvs,s _ h1,h2,h3.mono f⟩
 | gx φ0 H0=>obtain⟨h1,h2,⟨o,h3⟩,h4⟩:=h;exact⟨h1.trans f,(s _ h3).trans (h3.symm.trans h2),⟨o,s _ h3⟩,fun zs e=>h4 zs (h3.trans ((s _ h3).symm.trans e))⟩
 | exc c=>exact s _ h
theorem MoIs.ex {φ:List Addr}{H:Hp}{m:MO}{p:Addr}(h:MoIs φ H m p):∃ o,H p=some o:=by
 cases m with
 | box=>obtain⟨q,ns,i,r,z,h1,_⟩:=h;exact⟨_,h1⟩
 | lst ds=>obtain⟨vs,h1,_⟩:=h;exact⟨_,h1⟩
 | dic ks ds=>obtain⟨kvs,vs,h1,_⟩:=h;exact⟨_,h1⟩
 | fdic o kvs ds=>exact⟨_,h.1⟩
 | ins C ns ds=>obtain⟨dx,fs,h1,_⟩:=h;exact⟨_,h1⟩
 | dtu ks ds=>obtain⟨kvs,h1,_⟩:=h;exact⟨_,h1⟩
 | gx φ0 H0=>exact h.2.2.1
 | exc c=>exact⟨_,h⟩
theorem MSis.same {φ:List Addr}{H H':Hp}{μ:MS}(h:MSis φ H μ)(s:Same H H'):MSis φ H' μ :=
 ⟨h.nd,h.len,fun k m e=>let ⟨p,e1,e2⟩:=h.at_ k m e;⟨p,e1,e2.mono (.same s) fun o q=>s _ _ q⟩⟩
theorem MSis.mem {φ:List Addr}{H:Hp}{μ:MS}(h:MSis φ H μ){p:Addr}(hp:p∈φ):∃ o,H p=some o:=by
 obtain⟨k,hk,e⟩:=cj hp
 obtain⟨q,e1,e2⟩:=h.at_ k (μ[k]'(by have:=h.len;omega)) (gxA _)
 rw[gxA hk,e]at e1
 cases e1
 exact e2.ex
theorem MSis.fresh {φ:List Addr}{H:Hp}{μ:MS}(h:MSis φ H μ){p:Addr}(hp:H p=none):p∉φ:=fun q=>by
 obtain⟨o,e⟩:=h.mem q
 rw[hp]at e;cases e
theorem MSis.snoc {φ:List Addr}{H:Hp}{μ:MS}{m:MO}{p:Addr}{o:HO}(h:MSis φ H μ)(hp:H p=none)(hm:MoIs (φ++[p]) (upd H p o) m p):MSis (φ++[p]) (upd H p o) (μ++[m])/\Fr φ H (φ++[p]) (upd H p o):=by
 have f1:Fr φ H (φ++[p]) H:=.snoc hp
 have f:Fr φ H (φ++[p]) (upd H p o):=⟨f1.ext,fun c u hc e=>Same.upd hp _ _ e,fun c e=>(Same.upd hp).free e⟩
 refine⟨⟨?_,by rw[gxE,gxE,h.len];rfl,fun k n e=>?_⟩,f⟩
 ·rw[bI]
  exact⟨h.nd,by simp,fun a ha b hb=>by rw[List.mem_singleton.mp hb];intro z;exact h.fresh hp (by rw[<- z];exact ha)⟩
 ·by_cases hk:k<μ.length
  ·rw[gxF hk]at e
   obtain⟨q,e1,e2⟩:=h.at_ k n e
   exact⟨q,f.get e1,e2.mono f fun u eu=>Same.upd hp _ _ eu⟩
  ·have hk':k=μ.length:=by
    have:=(gxB e).1
    rw[gxE,aN]at this
    omega
   subst hk'
   rw[gxG (aa _),aQ]at e
   cases e
   exact⟨p,by rw[gxG (by rw[h.len];exact aa _),h.len,aQ];rfl,hm⟩
theorem MSis.put {φ:List Addr}{H:Hp}{μ:MS}{m:MO}{p:Addr}{o:HO}{k:Nat}(h:MSis φ H μ)(hk:φ[k]?=some p)(hm:MoIs φ (upd H p o) m p):MSis φ (upd H p o) (μ.set k m):=by
 have hp:p∈φ:=gxD hk
 have f:Fr φ H φ (upd H p o):=.put hp
 refine⟨h.nd,by rw[aE];exact h.len,fun j n e=>?_⟩
 by_cases hj:k=j
 ·subst hj
  have hl:k<μ.length:=by have:=(gxB hk).1;have:=h.len;omega
  rw[aw hl]at e
  cases e
  exact⟨p,hk,hm⟩
 ·rw[ah hj]at e
  obtain⟨q,e1,e2⟩:=h.at_ j n e
  refine⟨q,e1,e2.mono f fun u eu=>?_⟩
  rw[upd_ne]
  ·exact eu
  ·intro z
   subst z
   have a1:=gxB hk
   have a2:=gxB e1
   obtain⟨i1,r1⟩:=a1
   obtain⟨i2,r2⟩:=a2
   rcases Nat.lt_or_gt_of_ne hj with z | z
   ·exact List.pairwise_iff_getElem.mp h.nd k j i1 i2 z (r1.trans r2.symm)
   ·exact List.pairwise_iff_getElem.mp h.nd j k i2 i1 z (r2.trans r1.symm)
def DEnv (φ:List Addr)(H:Hp)(ρ:DE)(σ:St):Prop:=ρ.length=σ.length/\∀(i:Nat) (d:D),ρ[i]?=some (some d)->∃ v,σ[i]?=some (some v)/\DIs φ H d v
theorem DEnv.mono {φ φ':List Addr}{H H':Hp}{ρ:DE}{σ:St}(f:Fr φ H φ' H')(h:DEnv φ H ρ σ):DEnv φ' H' ρ σ:=⟨h.1,fun i d e=>let ⟨v,a,b⟩:=h.2 i d e;⟨v,a,b.mono f⟩⟩
theorem DEnv.set {φ:List Addr}{H:Hp}{ρ:DE}{σ:St}{d:D}{v:V}(h:DEnv φ H ρ σ)(hd:DIs φ H d v)(i:Nat):DEnv φ H (ρ.set i (some d)) (σ.set i (some v)):=by
 refine⟨by rw[aE,aE];exact h.1,fun j e hj=>?_⟩
 by_cases hij:i=j
 ·subst hij
  have hl:i<ρ.length:=by have:=(gxB hj).1;rwa [aE]at this
  rw[aw hl]at hj
  cases hj
  exact⟨v,aw (by rw[<- h.1];exact hl),hd⟩
 ·rw[ah hij]at hj
  obtain⟨u,a,b⟩:=h.2 j e hj
  exact⟨u,by rw[ah hij];exact a,b⟩
def lv (μ:MS):D->Option (List D)
 | .lst ds=>some ds
 | .mr k=>lvM μ k
 | _=>none
def lc:D->List D->MS->Prop
 | .mr k,ds=>fun μ=>lvM μ k=some ds
 | _,_=>fun _=>True
theorem lv_is {φ:List Addr}{H:Hp}{μ:MS}{d:D}{v:V}{ds:List D}(M:MSis φ H μ)(i:DIs φ H d v)(h:lv μ d=some ds):∃ p vs,v=.ref p/\H p=some (.lst vs)/\DAll φ H ds vs:=by
 cases d with
 | lst es=>cases h;obtain⟨p,vs,rfl,_,hp,ha⟩:=i;exact⟨p,vs,rfl,hp,ha⟩
 | mr k =>
  obtain⟨p,hp,rfl⟩:=i
  have e:=lvM_eq (show lvM μ k=some ds from h)
  obtain⟨q,e1,vs,hv,ha⟩:=M.at_ k _ e
  rw[hp]at e1;cases e1
  exact⟨p,vs,rfl,hv,ha⟩
 | _=>cases h
theorem lv_stay {φ φ':List Addr}{H H':Hp}{μ μ':MS}{d:D}{p:Addr}{ds:List D}(M:MSis φ H μ)(i:DIs φ H d (.ref p))(h:lv μ d=some ds)(f:Fr φ H φ' H')(M':MSis φ' H' μ')(c:lc d ds μ'):∃ vs,H' p=some (.lst vs)/\DAll φ' H' ds vs:=by
 cases d with
 | lst es=>cases h;obtain⟨p',vs,e,n,hp,ha⟩:=i;cases e;exact⟨vs,f.keep _ _ n hp,ha.mono f⟩
 | mr k =>
  obtain⟨p',hp,e⟩:=i
  cases e
  obtain⟨q,e1,vs,hv,ha⟩:=M'.at_ k _ (lvM_eq c)
  rw[f.get hp]at e1;cases e1
  exact⟨vs,hv,ha⟩
 | _=>cases h
theorem lc_of {μ:MS}{d:D}{ds:List D}(h:lv μ d=some ds):lc d ds μ:=by
 cases d <;> first | trivial | exact h
abbrev DK:=D->MS->Prop
abbrev De:=DE->MS->DK->Prop
abbrev DA:=DE->MS->(List D->MS->Prop)->Prop
abbrev Dt:=DE->MS->(Bool->MS->Prop)->Prop
def Lif (φ:List Addr)(H:Hp)(K:DK)(Q:VK):Prop:=∀ d μ' φ' v H',K d μ'->Fr φ H φ' H'->MSis φ' H' μ'->DIs φ' H' d v->Q v H'
theorem Lif.mono {φ φ1:List Addr}{H H1:Hp}{K:DK}{Q:VK}(h:Lif φ H K Q)(f:Fr φ H φ1 H1):Lif φ1 H1 K Q:=fun d μ' φ' v H' k g m i=>h d μ' φ' v H' k (f.trans g) m i
def tD (w:De):TE:=fun σ H Q=>∃ φ ρ μ K,DEnv φ H ρ σ/\MSis φ H μ/\w ρ μ K/\Lif φ H K Q
def tDA (w:DA):TA:=fun σ H Q=>∃ φ ρ μ K,DEnv φ H ρ σ/\MSis φ H μ/\w ρ μ K/\∀ ds μ' φ' vs H',K ds μ'->Fr φ H φ' H'->MSis φ' H' μ'->DAll φ' H' ds vs->Q vs H'
def tDT (w:Dt):TT:=fun σ H Q=>∃ φ ρ μ K,DEnv φ H ρ σ/\MSis φ H μ/\w ρ μ K/\∀ b μ' φ' H',K b μ'->Fr φ H φ' H'->MSis φ' H' μ'->Q b H'
section
variable {X:Cx}{a b e:Expr}{pos:Pos}
abbrev PD (X:Cx)(e:Expr)(w:De):Prop:=PE X e (tD w)
def dVar (i:Nat):De:=fun ρ μ K=>match ρ[i]? with | some (some d)=>K d μ | _=>False
def dC (d:D):De:=fun _ μ K=>K d μ
theorem dv (i:Nat){x:Str}{pos:Pos}(hN:X.N[i]?=some x:=by rfl)(hv:Vis X.env.scope x:=by first | exact Or.inl rfl | exact Or.inr (Or.inl rfl) | exact Or.inr (Or.inr rfl))(hd:(x==("__debug__" : Str))=false:=by decide)
 (hcd:(x==("__classdict__" : Str))=false:=by decide):PD X (.Name x pos) (dVar i):=(pe_var (i:=i) hN hv hd hcd).imp fun σ H Q q=>by
 obtain⟨φ,ρ,μ,K,E,M,w,L⟩:=q
 unfold dVar at w
 split at w
 ·rename_i d hd
  obtain⟨v,e,r⟩:=E.2 i d hd
  exact⟨v,e,L d μ φ v H w (.refl _ _) M r⟩
 ·exact w.elim
theorem d_int {i j pos}:PD X (.Constant (.int i) j pos) (dC (.int i)):=pe_int.imp fun σ H Q hq5=>by obtain⟨φ,ρ,μ,K,E,M,w,L⟩:=hq5;exact L _ _ φ _ H w (.refl _ _) M rfl
theorem d_bl {b j pos}:PD X (.Constant (.bool b) j pos) (dC (.bl b)):=pe_bl.imp fun σ H Q hq6=>by obtain⟨φ,ρ,μ,K,E,M,w,L⟩:=hq6;exact L _ _ φ _ H w (.refl _ _) M rfl
theorem d_non {j pos}:PD X (.Constant .none j pos) (dC .non):=pe_non.imp fun σ H Q hq0=>by obtain⟨φ,ρ,μ,K,E,M,w,L⟩:=hq0;exact L _ _ φ _ H w (.refl _ _) M rfl
theorem d_str {x j pos}:PD X (.Constant (.str x) j pos) (dC (.str x)):=pe_str.imp fun σ H Q hq1=>by obtain⟨φ,ρ,μ,K,E,M,w,L⟩:=hq1;exact L _ _ φ _ H w (.refl _ _) M rfl
abbrev DOp:=D->D->MS->DK->Prop
def dOp (ro:DOp)(wa wb:De):De:=fun ρ μ K=>wa ρ μ fun x μ1=>wb ρ μ1 fun y μ2=>ro x y μ2 K
def SoOp (r:R2)(ro:DOp):Prop:=∀ φ H x y dx dy μ K Q,MSis φ H μ->DIs φ H dx x->DIs φ H dy y->ro dx dy μ K->Lif φ H K Q->r x y H Q
theorem tD_op {r:R2}{ro:DOp}{wa wb:De}(so:SoOp r ro){σ:St}{H:Hp}{Q:VK}(h:tD (dOp ro wa wb) σ H Q):tOp r (tD wa) (tD wb) σ H Q:=by
 obtain⟨φ,ρ,μ,K,E,M,w,L⟩:=h
 refine⟨φ,ρ,μ,_,E,M,w,fun d1 μ1 φ1 v1 H1 k1 f1 M1 i1=>?_⟩
 refine⟨φ1,ρ,μ1,_,E.mono f1,M1,k1,fun d2 μ2 φ2 v2 H2 k2 f2 M2 i2=>?_⟩
 exact so φ2 H2 v1 v2 d1 d2 μ2 K Q M2 (i1.mono f2) i2 k2 (L.mono (f1.trans f2))
theorem d_op {op:Operator}{r:R2}{ro:DOp}{wa wb:De}(h:OpR X (binaryOp op) r)(so:SoOp r ro)(ha:PD X a wa)(hb:PD X b wb):PD X (.BinOp a op b pos) (dOp ro wa wb):=(pe_op h ha hb).imp fun σ H Q q=>tD_op so q
theorem d_cmp {op:CmpOp}{r:R2}{ro:DOp}{wa wb:De}(h:OpR X (compareOp op) r)(so:SoOp r ro)(ha:PD X a wa)(hb:PD X b wb)(hm:behindInMarks op b=false):PD X (.Compare a [op] [b] pos) (dOp ro wa wb):=(pe_cmpR h ha hb hm).imp fun σ H Q q=>tD_op so q
theorem d_ix {r:R2}{ro:DOp}{wa wb:De}(h:IxR X r)(so:SoOp r ro)(ha:PD X a wa)(hb:PD X b wb)(hs:PlainIx b):PD X (.Subscript a b pos) (dOp ro wa wb):=(pe_ix h ha hb hs).imp fun σ H Q q=>tD_op so q
def dTst (w:De):Dt:=fun ρ μ K=>w ρ μ fun d μ'=>match d with | .bl b=>K b μ' | _=>False
theorem tD_bool {w:De}{σ:St}{H:Hp}{Q:Bool->Hp->Prop}(h:tDT (dTst w) σ H Q):cB (tD w) σ H Q:=by
 obtain⟨φ,ρ,μ,K,E,M,k,L⟩:=h
 refine⟨φ,ρ,μ,_,E,M,k,fun d μ' φ' v H' k' f M' i=>?_⟩
 cases d with
 | bl b=>cases(show v=_ from i);exact L b μ' φ' H' k' f M'
 | _=>exact k'.elim
theorem d_testV {w:De}(h:PD X e w)(he:∀ whole,isTrue e X.env whole=(do let v <- whole;standAt e.pos;holding [v] (truthy v)):=by intro _;rfl):PT X e (tDT (dTst w)):=(pt_valC h he).imp fun σ H Q q=>tD_bool q
theorem d_testC {op:CmpOp}{r:R2}{ro:DOp}{wa wb:De}(h:OpR X (compareOp op) r)(so:SoOp r ro)(ha:PD X a wa)(hb:PD X b wb)(hm:behindInMarks op b=false):PT X (.Compare a [op] [b] pos) (tDT (dTst (dOp ro wa wb))) :=
 (pt_cmpC h ha hb hm).imp fun σ H Q q=>by
  obtain⟨φ,ρ,μ,K,E,M,k,L⟩:=q
  refine tD_op so ⟨φ,ρ,μ,_,E,M,k,fun d μ' φ' v H' k' f M' i=>?_⟩
  cases d with
  | bl b=>cases(show v=_ from i);exact L b μ' φ' H' k' f M'
  | _=>exact k'.elim
def dIsN (neg:Bool)(w:De):De:=fun ρ μ K=>w ρ μ fun d μ'=>match d with | .non=>K (.bl (!neg)) μ' | _=>K (.bl neg) μ'
theorem isN_of {φ:List Addr}{H:Hp}{d:D}{v:V}(i:DIs φ H d v):decide (v=V.non)=(match d with | .non=>true | _=>false):=by
 cases d with
 | non=>cases(show v=_ from i);rfl
 | bl _=>cases(show v=_ from i);rfl
 | int _=>cases(show v=_ from i);rfl
 | str _=>cases(show v=_ from i);rfl
 | lst _=>obtain⟨p,vs,rfl,_⟩:=i;rfl
 | tup _=>obtain⟨p,vs,rfl,_⟩:=i;rfl
 | dic _ _=>obtain⟨p,kvs,vs,rfl,_⟩:=i;rfl
 | mr _=>obtain⟨p,_,rfl⟩:=i;rfl
 | obj _ _ _=>obtain⟨p,dx,fs,vs,rfl,_⟩:=i;rfl
 | fdc _ _=>obtain⟨p,dx,fs,vs,rfl,_⟩:=i;rfl
 | fn _=>cases(show v=_ from i);rfl
theorem tD_isN {w:De}{σ:St}{H:Hp}{Q:VK}(h:tD (dIsN false w) σ H Q):tIsN (tD w) σ H Q:=by
 obtain⟨φ,ρ,μ,K,E,M,k,L⟩:=h
 refine⟨φ,ρ,μ,_,E,M,k,fun d μ' φ' v H' k' f M' i=>?_⟩
 show Q (.bl _) H'
 rw[isN_of i]
 cases d <;> exact L _ μ' φ' _ H' k' f M' rfl
theorem tD_notN {w:De}{σ:St}{H:Hp}{Q:VK}(h:tD (dIsN true w) σ H Q):tNotN (tD w) σ H Q:=by
 obtain⟨φ,ρ,μ,K,E,M,k,L⟩:=h
 refine⟨φ,ρ,μ,_,E,M,k,fun d μ' φ' v H' k' f M' i=>?_⟩
 show Q (.bl _) H'
 rw[isN_of i]
 cases d <;> exact L _ μ' φ' _ H' k' f M' rfl
end
end L2
namespace L2
open PySem PySem.Spec PyProof.Rows
section
variable {X:Cx}{a b e:Expr}{es:List Expr}{pos:Pos}
theorem PA.imp {es:List Expr}{t t':TA}(h:PA X es t)(hi:∀ σ H Q,t' σ H Q->t σ H Q):PA X es t':=fun pos pins s σ H Q I q=>h pos pins s σ H Q I (hi σ H Q q)
theorem PSs.imp {st:List Stmt}{t t':TS}(h:PSs X st t)(hi:∀ D σ H,t' D σ H->t D σ H):PSs X st t':=fun pins s σ H D I q=>h pins s σ H D I (hi D σ H q)
def dNil:DA:=fun _ μ K=>K [] μ
def dCons (wa:De)(wr:DA):DA:=fun ρ μ K=>wa ρ μ fun x μ1=>wr ρ μ1 fun xs μ2=>K (x::xs) μ2
abbrev PDA (X:Cx)(es:List Expr)(w:DA):Prop:=PA X es (tDA w)
theorem da_nil:PDA X [] dNil:=pa_nil.imp fun σ H Q hq2=>by obtain⟨φ,ρ,μ,K,E,M,w,L⟩:=hq2;exact L [] μ φ [] H w (.refl _ _) M rfl
theorem da_cons {wa:De}{wr:DA}(ha:PD X e wa)(hr:PDA X es wr)(hs:starEach (e::es) X.env=(false,eval e X.env)::starEach es X.env:=by rfl):PDA X (e::es) (dCons wa wr):=(pa_cons ha hr hs).imp fun σ H Q q=>by
 obtain⟨φ,ρ,μ,K,E,M,w,L⟩:=q
 refine⟨φ,ρ,μ,_,E,M,w,fun d1 μ1 φ1 v1 H1 k1 f1 M1 i1=>?_⟩
 refine⟨φ1,ρ,μ1,_,E.mono f1,M1,k1,fun ds μ2 φ2 vs H2 k2 f2 M2 i2=>?_⟩
 exact L _ μ2 φ2 _ H2 k2 (f1.trans f2) M2 ⟨v1,vs,rfl,i1.mono f2,i2⟩
theorem al_lst {φ:List Addr}{H:Hp}{μ:MS}{K:DK}{Q:VK}{ds:List D}{vs:List V}{p:Addr}(L:Lif φ H K Q)(M:MSis φ H μ)(h:DAll φ H ds vs)(k:K (.lst ds) μ)(hp:H p=none):Q (.ref p) (upd H p (.lst vs)) :=
 L _ μ φ _ _ k (.new hp) (M.same (Same.upd hp)) ⟨p,vs,rfl,M.fresh hp,upd_same,h.mono (.new hp)⟩
theorem al_tup {φ:List Addr}{H:Hp}{μ:MS}{K:DK}{Q:VK}{ds:List D}{vs:List V}{p:Addr}(L:Lif φ H K Q)(M:MSis φ H μ)(h:DAll φ H ds vs)(k:K (.tup ds) μ)(hp:H p=none):Q (.ref p) (upd H p (.tup vs)) :=
 L _ μ φ _ _ k (.new hp) (M.same (Same.upd hp)) ⟨p,vs,rfl,M.fresh hp,upd_same,h.mono (.new hp)⟩
theorem al_mr {φ:List Addr}{H:Hp}{μ:MS}{K:DK}{Q:VK}{ds:List D}{vs:List V}{p:Addr}(L:Lif φ H K Q)(M:MSis φ H μ)(h:DAll φ H ds vs)(k:K (.mr μ.length) (μ++[.lst ds]))(hp:H p=none):Q (.ref p) (upd H p (.lst vs)):=by
 have f:Fr φ H (φ++[p]) (upd H p (.lst vs)):=⟨(Fr.snoc (φ:=φ) hp).ext,fun c u _ e=>Same.upd hp _ _ e,fun c e=>(Same.upd hp).free e⟩
 obtain⟨M',_⟩:=M.snoc (m:=.lst ds) (o:=.lst vs) hp ⟨vs,upd_same,h.mono f⟩
 exact L _ _ _ _ _ k f M' ⟨p,by rw[gxG (by rw[M.len];exact aa _),M.len,aQ];rfl,rfl⟩
def nL (m:Bool)(ds:List D)(μ:MS)(K:DK):Prop:=match m with | false=>K (.lst ds) μ | true=>K (.mr μ.length) (μ++[.lst ds])
theorem al_n {m:Bool}{φ:List Addr}{H:Hp}{μ:MS}{K:DK}{Q:VK}{ds:List D}{vs:List V}{p:Addr}(L:Lif φ H K Q)(M:MSis φ H μ)(h:DAll φ H ds vs)(k:nL m ds μ K)(hp:H p=none):Q (.ref p) (upd H p (.lst vs)):=by
 cases m with
 | false=>exact al_lst L M h k hp
 | true=>exact al_mr L M h k hp
def dLst (m:Bool)(w:DA):De:=fun ρ μ K=>w ρ μ fun ds μ1=>ds.length<=sizeLine/\nL m ds μ1 K
def dTup (w:DA):De:=fun ρ μ K=>w ρ μ fun ds μ1=>ds.length<=sizeLine/\K (.tup ds) μ1
theorem d_lst {w:DA}(m:Bool)(h:PDA X es w):PD X (.List es pos) (dLst m w):=(pe_lst h).imp fun σ H Q ⟨φ,ρ,μ,K,E,M,w,L⟩ =>
 ⟨φ,ρ,μ,_,E,M,w,fun ds μ1 φ1 vs H1 k1 f1 M1 i1=>⟨by rw[i1.len];exact k1.1,fun p hp=>al_n (L.mono f1) M1 i1 k1.2 hp⟩⟩
theorem d_tup {w:DA}{x1}(h:PDA X es w):PD X (.Tuple es x1 pos) (dTup w):=(pe_tup h).imp fun σ H Q ⟨φ,ρ,μ,K,E,M,w,L⟩ =>
 ⟨φ,ρ,μ,_,E,M,w,fun ds μ1 φ1 vs H1 k1 f1 M1 i1=>⟨by rw[i1.len];exact k1.1,fun p hp=>al_tup (L.mono f1) M1 i1 k1.2 hp⟩⟩
abbrev DSp:=List D->MS->DK->Prop
def spD (f:DSp):Sp:=fun vs H Q _=>∃ φ ds μ K,DAll φ H ds vs/\MSis φ H μ/\f ds μ K/\Lif φ H K Q
def dCall (f:DSp)(w:DA):De:=fun ρ μ K=>w ρ μ fun ds μ1=>f ds μ1 K
theorem d_call {f:DSp}{w:DA}{x:Str}{p:Pos}{k:Nat}{ps:List Str}(C:Cal X.prog X.w X.K X.mg X.base x k ps (spD f))(hr:Room k X.A)(hg:Gl X x)(ha:PDA X (e::es) w)
 (hdb:(x==("__debug__" : Str))=false:=by decide) (he:starEach (e::es) X.env=(false,eval e X.env)::starEach es X.env:=by rfl) (hpl:(backTo pos (starEach es X.env)).any (·.1)=false:=by rfl) :
 PD X (.Call (.Name x p) (e::es) [] pos) (dCall f w):=(pe_callC C hr hg ha hdb he hpl).imp fun σ H Q ⟨φ,ρ,μ,K,E,M,w,L⟩ =>
 ⟨φ,ρ,μ,_,E,M,w,fun ds μ1 φ1 vs H1 k1 f1 M1 i1=>by show spD f (vs++[]) H1 Q E0;rw[aZ];exact⟨φ1,ds,μ1,K,i1,M1,k1,L.mono f1⟩⟩
def SoCall (r:List V->Hp->VK->Prop)(f:DSp):Prop:=∀ φ H vs ds μ K Q,MSis φ H μ->DAll φ H ds vs->f ds μ K->Lif φ H K Q->r vs H Q
theorem tD_cb {r:List V->Hp->VK->Prop}{f:DSp}{w:DA}(so:SoCall r f){σ:St}{H:Hp}{Q:VK}(h:tD (dCall f w) σ H Q):tCB r (tDA w) σ H Q:=by
 obtain⟨φ,ρ,μ,K,E,M,w,L⟩:=h
 exact⟨φ,ρ,μ,_,E,M,w,fun ds μ1 φ1 vs H1 k1 f1 M1 i1=>so φ1 H1 vs ds μ1 K Q M1 i1 k1 (L.mono f1)⟩
theorem d_blt {r:List V->Hp->VK->Prop}{f:DSp}{w:DA}{id:String}{x:Str}{p:Pos}(hc:CallR X (.builtin id) r)(so:SoCall r f)(hg:Gl X x)(hm:X.mg x=none)(hv:bootBuiltins x=some (.builtin id))(ha:PDA X (e::es) w)(hn:x ≠ "__name__":=by decide)(hdb:(x==("__debug__" : Str))=false:=by decide)
 (he:starEach (e::es) X.env=(false,eval e X.env)::starEach es X.env:=by rfl) (hpl:(backTo pos (starEach es X.env)).any (·.1)=false:=by rfl):PD X (.Call (.Name x p) (e::es) [] pos) (dCall f w) :=
 (pe_callB hc hg hm hv ha hn hdb he hpl).imp fun σ H Q q=>tD_cb so q
theorem d_ty {r:List V->Hp->VK->Prop}{f:DSp}{w:DA}{T:String}{x:Str}{p:Pos}(hc:CallR X (.type T) r)(so:SoCall r f)(hg:Gl X x)(hm:X.mg x=none)(hv:bootBuiltins x=some (.type T))(ha:PDA X (e::es) w)(hn:x ≠ "__name__":=by decide)(hdb:(x==("__debug__" : Str))=false:=by decide)
 (he:starEach (e::es) X.env=(false,eval e X.env)::starEach es X.env:=by rfl) (hpl:(backTo pos (starEach es X.env)).any (·.1)=false:=by rfl):PD X (.Call (.Name x p) (e::es) [] pos) (dCall f w) :=
 (pe_callTy hc hg hm hv ha hn hdb he hpl).imp fun σ H Q q=>tD_cb so q
abbrev DMt:=D->List D->MS->DK->Prop
def SoMt (K:PySem.W.Frag)(T:String)(r:V->List V->Hp->VK->Prop)(f:DMt):Prop:=∀ φ H x vs d ds μ K' Q,MSis φ H μ->DIs φ H d x->DAll φ H ds vs->f d ds μ K'->Lif φ H K' Q->r x vs H Q
def TyD (T:String)(μ:MS):D->Prop
 | .str _=>T = "str"
 | .lst _=>T = "list"
 | .dic _ _=>T = "dict"
 | .mr k=>match μ[k]? with | some (.lst _)=>T = "list" | some (.dic _ _)=>T = "dict" | _=>False
 | _=>False
theorem TyD.is {Kf:PySem.W.Frag}{T:String}{φ:List Addr}{H:Hp}{μ:MS}{d:D}{v:V}(M:MSis φ H μ)(i:DIs φ H d v)(h:TyD T μ d):tyV Kf T v H:=by
 cases d with
 | str z=>cases(show v=_ from i);exact h
 | lst ds=>obtain⟨p,vs,rfl,_,hp,_⟩:=i;exact .inl ⟨h,vs,SqL.of hp⟩
 | dic ks ds=>obtain⟨p,kvs,vs,rfl,_,hp,_⟩:=i;exact .inr (.inr (.inl ⟨h,.inl ⟨kvs,hp⟩⟩))
 | mr k =>
  obtain⟨p,hp,rfl⟩:=i
  unfold TyD at h
  dsimp only at h
  cases e:μ[k]? with
  | none=>rw[e]at h;exact h.elim
  | some m =>
   obtain⟨q,e1,e2⟩:=M.at_ k m e
   rw[hp]at e1;cases e1
   rw[e]at h
   cases m with
   | box=>exact h.elim
   | lst ds=>obtain⟨vs,hv,_⟩:=e2;exact .inl ⟨h,vs,SqL.of hv⟩
   | dic ks ds=>obtain⟨kvs,vs,hv,_⟩:=e2;exact .inr (.inr (.inl ⟨h,.inl ⟨kvs,hv⟩⟩))
   | _=>exact h.elim
 | _=>exact(show False from h).elim
def dMt (T:String)(f:DMt)(wo:De)(w:DA):De:=fun ρ μ K=>wo ρ μ fun x μ1=>TyD T μ1 x/\w ρ μ1 fun ds μ2=>f x ds μ2 K
theorem d_mt {o:Expr}{name:Str}{apos cpos:Pos}{T id:String}{r:V->List V->Hp->VK->Prop}{f:DMt}{wo:De}{w:DA}(pa:PlainAttrs T)(slot:Slot T name id)(hty:typeOf (.builtin id)=pure (.type "method_descriptor"))(hm:MtR X id r)(so:SoMt X.K T r f)(ho:PD X o wo)(ha:PDA X (e::es) w)
 (hbase:attributeBase o name X.env (eval o X.env)=eval o X.env:=by rfl)
 (hfew:((backTo cpos (starEach (e::es) X.env)).all (fun x=>!x.1)&&(backToKw cpos (keywordEach [] X.env)).all (fun x=>x.1.isSome)
   && decide ((e::es).length+([]:List Keyword).length+(if([]:List Keyword).isEmpty then 0 else 1)<30))=true:=by rfl)
 (hline:(apos.endLine==cpos.line)=true:=by rfl) (hs:starEach (e::es) X.env=(false,eval e X.env)::starEach es X.env:=by rfl) (hplain:(backTo cpos (starEach es X.env)).any (·.1)=false:=by rfl) :
 PD X (.Call (.Attribute o name apos) (e::es) [] cpos) (dMt T f wo w):=(pe_bm pa slot hty hm ho ha hbase hfew hline hs hplain).imp fun σ H Q q=>by
 obtain⟨φ,ρ,μ,K,E,M,w,L⟩:=q
 refine⟨φ,ρ,μ,_,E,M,w,fun d1 μ1 φ1 v1 H1 k1 f1 M1 i1=>⟨TyD.is M1 i1 k1.1,?_⟩⟩
 exact⟨φ1,ρ,μ1,_,E.mono f1,M1,k1.2,fun ds μ2 φ2 vs H2 k2 f2 M2 i2=>so φ2 H2 v1 vs d1 ds μ2 K Q M2 (i1.mono f2) i2 k2 (L.mono (f1.trans f2))⟩
def dAnd (wa wb:De):De:=fun ρ μ K=>wa ρ μ fun x μ1=>match x with | .bl c=>if c=true then wb ρ μ1 K else K (.bl false) μ1 | _=>False
def dNot (wa:De):De:=fun ρ μ K=>wa ρ μ fun x μ1=>match x with | .bl c=>K (.bl (!c)) μ1 | _=>False
theorem d_and {rest:List Expr}{wa wb:De}(ha:PD X a wa)(hb:PD X (.BoolOp .And (b::rest) pos) wb):PD X (.BoolOp .And (a::b::rest) pos) (dAnd wa wb):=(pe_andC ha hb).imp fun σ H Q q=>by
 obtain⟨φ,ρ,μ,K,E,M,w,L⟩:=q
 refine⟨φ,ρ,μ,_,E,M,w,fun d1 μ1 φ1 v1 H1 k1 f1 M1 i1=>?_⟩
 cases d1 with
 | bl c =>
  cases(show v1=_ from i1)
  cases c with
  | true=>exact⟨φ1,ρ,μ1,_,E.mono f1,M1,k1,L.mono f1⟩
  | false=>exact L _ μ1 φ1 _ H1 k1 f1 M1 rfl
 | _=>exact k1.elim
theorem d_one {op}{w:De}(h:PD X a w):PD X (.BoolOp op [a] pos) w:=pe_one h
theorem d_not {wa:De}(ha:PD X a wa):PD X (.UnaryOp .Not a pos) (dNot wa):=(pe_notC ha).imp fun σ H Q q=>by
 obtain⟨φ,ρ,μ,K,E,M,w,L⟩:=q
 refine⟨φ,ρ,μ,_,E,M,w,fun d1 μ1 φ1 v1 H1 k1 f1 M1 i1=>?_⟩
 cases d1 with
 | bl c=>cases(show v1=_ from i1);exact L _ μ1 φ1 _ H1 k1 f1 M1 rfl
 | _=>exact k1.elim
def dNeg (wa:De):De:=fun ρ μ K=>wa ρ μ fun x μ1=>match x with | .int i=>K (.int (-i)) μ1 | _=>False
theorem d_neg {wa:De}(ha:PD X a wa):PD X (.UnaryOp .USub a pos) (dNeg wa):=(pe_un un_neg ha).imp fun σ H Q q=>by
 obtain⟨φ,ρ,μ,K,E,M,w,L⟩:=q
 refine⟨φ,ρ,μ,_,E,M,w,fun d1 μ1 φ1 v1 H1 k1 f1 M1 i1=>?_⟩
 cases d1 with
 | int c=>cases(show v1=_ from i1);exact⟨c,rfl,L _ μ1 φ1 _ H1 k1 f1 M1 rfl⟩
 | _=>exact k1.elim
def dtAnd (t u:Dt):Dt:=fun ρ μ K=>t ρ μ fun c μ1=>if c=true then u ρ μ1 K else K false μ1
def dtOr (t u:Dt):Dt:=fun ρ μ K=>t ρ μ fun c μ1=>if c=true then K true μ1 else u ρ μ1 K
def dtNot (t:Dt):Dt:=fun ρ μ K=>t ρ μ fun c μ1=>K (!c) μ1
abbrev PDT (X:Cx)(e:Expr)(w:Dt):Prop:=PT X e (tDT w)
theorem tDT_and {t u:Dt}{σ:St}{H:Hp}{Q:Bool->Hp->Prop}(h:tDT (dtAnd t u) σ H Q):tAnd (tDT t) (tDT u) σ H Q:=by
 obtain⟨φ,ρ,μ,K,E,M,w,L⟩:=h
 refine⟨φ,ρ,μ,_,E,M,w,fun b μ1 φ1 H1 k1 f1 M1=>?_⟩
 cases b with
 | true=>exact⟨φ1,ρ,μ1,_,E.mono f1,M1,k1,fun b μ2 φ2 H2 k2 f2 M2=>L b μ2 φ2 H2 k2 (f1.trans f2) M2⟩
 | false=>exact L _ μ1 φ1 H1 k1 f1 M1
theorem tDT_or {t u:Dt}{σ:St}{H:Hp}{Q:Bool->Hp->Prop}(h:tDT (dtOr t u) σ H Q):tOr (tDT t) (tDT u) σ H Q:=by
 obtain⟨φ,ρ,μ,K,E,M,w,L⟩:=h
 refine⟨φ,ρ,μ,_,E,M,w,fun b μ1 φ1 H1 k1 f1 M1=>?_⟩
 cases b with
 | false=>exact⟨φ1,ρ,μ1,_,E.mono f1,M1,k1,fun b μ2 φ2 H2 k2 f2 M2=>L b μ2 φ2 H2 k2 (f1.trans f2) M2⟩
 | true=>exact L _ μ1 φ1 H1 k1 f1 M1
abbrev PDW (X:Cx)(e:Expr)(w:Dt):Prop:=PW X e (tDT w)
theorem PW.imp {e:Expr}{t t':TT}(h:PW X e t)(hi:∀ σ H Q,t' σ H Q->t σ H Q):PW X e t':=fun wh pins s σ H Q I q=>h wh pins s σ H Q I (hi σ H Q q)
theorem t_and1 {t:Dt}(h:PDT X a t):PDW X (.BoolOp .And [a] pos) t:=pw_and1 h
theorem t_or1 {t:Dt}(h:PDT X a t):PDW X (.BoolOp .Or [a] pos) t:=pw_or1 h
theorem t_and {rest:List Expr}{t u:Dt}(ha:PDT X a t)(hb:PDW X (.BoolOp .And (b::rest) pos) u):PDW X (.BoolOp .And (a::b::rest) pos) (dtAnd t u):=(pw_and ha hb).imp fun σ H Q q=>tDT_and q
theorem t_or {rest:List Expr}{t u:Dt}(ha:PDT X a t)(hb:PDW X (.BoolOp .Or (b::rest) pos) u):PDW X (.BoolOp .Or (a::b::rest) pos) (dtOr t u):=(pw_or ha hb).imp fun σ H Q q=>tDT_or q
theorem t_not {t:Dt}(h:PDT X a t):PDT X (.UnaryOp .Not a pos) (dtNot t):=(pt_not h).imp fun σ H Q q=>by
 obtain⟨φ,ρ,μ,K,E,M,w,L⟩:=q
 exact⟨φ,ρ,μ,_,E,M,w,fun b μ1 φ1 H1 k1 f1 M1=>L _ μ1 φ1 H1 k1 f1 M1⟩
def dIf (t:Dt)(wa wb:De):De:=fun ρ μ K=>t ρ μ fun c μ1=>if c=true then wa ρ μ1 K else wb ρ μ1 K
theorem d_if {c:Expr}{t:Dt}{wa wb:De}(hc:PDT X c t)(ha:PD X a wa)(hb:PD X b wb):PD X (.IfExp c a b pos) (dIf t wa wb):=(pe_ifExp hc ha hb).imp fun σ H Q q=>by
 obtain⟨φ,ρ,μ,K,E,M,w,L⟩:=q
 refine⟨φ,ρ,μ,_,E,M,w,fun b μ1 φ1 H1 k1 f1 M1=>?_⟩
 cases b with
 | true=>exact⟨φ1,ρ,μ1,_,E.mono f1,M1,k1,L.mono f1⟩
 | false=>exact⟨φ1,ρ,μ1,_,E.mono f1,M1,k1,L.mono f1⟩
theorem d_isN {j pos'}{w:De}(h:PD X a w):PD X (.Compare a [.Is] [.Constant .none j pos'] pos) (dIsN false w):=(pe_cmp (pc_isN h)).imp fun σ H Q q=>tD_isN q
theorem d_notN {j pos'}{w:De}(h:PD X a w):PD X (.Compare a [.IsNot] [.Constant .none j pos'] pos) (dIsN true w):=(pe_cmp (pc_notN h)).imp fun σ H Q q=>tD_notN q
theorem tB_of {w:De}{t:TE}{σ:St}{H:Hp}{Q:Bool->Hp->Prop}(hi:∀ Q,tD w σ H Q->t σ H Q)(h:tDT (dTst w) σ H Q):tB t σ H Q:=by
 obtain⟨φ,ρ,μ,K,E,M,k,L⟩:=h
 refine hi _ ⟨φ,ρ,μ,_,E,M,k,fun d μ' φ' v H' k' f M' i=>?_⟩
 cases d with
 | bl b=>cases(show v=_ from i);exact⟨b,rfl,L b μ' φ' H' k' f M'⟩
 | _=>exact k'.elim
theorem t_isN {j pos'}{w:De}(h:PD X a w):PDT X (.Compare a [.Is] [.Constant .none j pos'] pos) (dTst (dIsN false w)):=(pt_cmp (pc_isN h)).imp fun σ H Q q=>tB_of (fun Q q=>tD_isN q) q
theorem t_notN {j pos'}{w:De}(h:PD X a w):PDT X (.Compare a [.IsNot] [.Constant .none j pos'] pos) (dTst (dIsN true w)):=(pt_cmp (pc_notN h)).imp fun σ H Q q=>tB_of (fun Q q=>tD_notN q) q
end
structure DN where
 nx:DE->MS->Prop
 rt:DK
 bk:DE->MS->Prop:=fun _ _=>False
 ct:DE->MS->Prop:=fun _ _=>False
abbrev Ds:=DN->DE->MS->Prop
def LiS (φ:List Addr)(H:Hp)(k:DE->MS->Prop)(q:St->Hp->Prop):Prop:=∀ ρ' μ' φ' σ' H',k ρ' μ'->Fr φ H φ' H'->DEnv φ' H' ρ' σ'->MSis φ' H' μ'->q σ' H'
theorem LiS.mono {φ φ1:List Addr}{H H1:Hp}{k:DE->MS->Prop}{q:St->Hp->Prop}(h:LiS φ H k q)(f:Fr φ H φ1 H1):LiS φ1 H1 k q:=fun ρ' μ' φ' σ' H' a b c d=>h ρ' μ' φ' σ' H' a (f.trans b) c d
structure LiN (φ:List Addr)(H:Hp)(N:DN)(E:Ends):Prop where
 nx:LiS φ H N.nx E.nx
 rt:Lif φ H N.rt E.rt
 bk:LiS φ H N.bk E.bk
 ct:LiS φ H N.ct E.ct
theorem LiN.mono {φ φ1:List Addr}{H H1:Hp}{N:DN}{E:Ends}(h:LiN φ H N E)(f:Fr φ H φ1 H1):LiN φ1 H1 N E:=⟨h.nx.mono f,h.rt.mono f,h.bk.mono f,h.ct.mono f⟩
def tDS (w:Ds):TS:=fun E σ H=>∃ φ ρ μ N,DEnv φ H ρ σ/\MSis φ H μ/\w N ρ μ/\LiN φ H N E
abbrev PDS (X:Cx)(st:Stmt)(w:Ds):Prop:=PS X st (tDS w)
abbrev PDB (X:Cx)(st:List Stmt)(w:Ds):Prop:=PSs X st (tDS w)
section
variable {X:Cx}{a b e:Expr}{es:List Expr}{pos:Pos}{st:Stmt}{rest:List Stmt}
def dNx:Ds:=fun N ρ μ=>N.nx ρ μ
def dSeq (t u:Ds):Ds:=fun N ρ μ=>t { N with nx:=fun ρ' μ'=>u N ρ' μ'} ρ μ
theorem b_nil:PDB X [] dNx:=pss_nil.imp fun E σ H hq3=>by obtain⟨φ,ρ,μ,N,A,M,w,L⟩:=hq3;exact L.nx ρ μ φ σ H w (.refl _ _) A M
theorem b_cons {t u:Ds}(h1:PDS X st t)(h2:PDB X rest u):PDB X (st::rest) (dSeq t u):=(pss_cons h1 h2).imp fun E σ H ⟨φ,ρ,μ,N,A,M,w,L⟩ =>
 ⟨φ,ρ,μ,_,A,M,w,⟨fun ρ' μ' φ' σ' H' k f A' M'=>⟨φ',ρ',μ',N,A',M',k,L.mono f⟩,L.rt,L.bk,L.ct⟩⟩
theorem b_one {t:Ds}(h:PDS X st t):PDB X [st] t:=pss_one h
def dExpr (w:De):Ds:=fun N ρ μ=>w ρ μ fun _ μ'=>N.nx ρ μ'
theorem s_expr {w:De}(h:PD X e w)(hs:swapsWith e none pos.line X.env=pure false:=by rfl):PDS X (.Expr e pos) (dExpr w):=(ps_expr h hs).imp fun E σ H hq4=>by obtain⟨φ,ρ,μ,N,A,M,w,L⟩:=hq4;exact⟨φ,ρ,μ,_,A,M,w,fun d μ1 φ1 v1 H1 k1 f1 M1 i1=>L.nx ρ μ1 φ1 σ H1 k1 f1 (A.mono f1) M1⟩
def dRet (w:De):Ds:=fun N ρ μ=>w ρ μ N.rt
theorem s_ret {w:De}(h:PD X e w):PDS X (.Return (some e) pos) (dRet w):=(ps_ret h).imp fun E σ H hq5=>by obtain⟨φ,ρ,μ,N,A,M,w,L⟩:=hq5;exact⟨φ,ρ,μ,_,A,M,w,L.rt⟩
def dIfS (c:Dt)(t u:Ds):Ds:=fun N ρ μ=>c ρ μ fun b μ1=>if b=true then t N ρ μ1 else u N ρ μ1
theorem s_if {c:Expr}{body orelse:List Stmt}{t:Dt}{u v:Ds}(hc:PDT X c t)(h1:PDB X body u)(h2:PDB X orelse v):PDS X (.If c body orelse pos) (dIfS t u v):=(ps_if hc h1 h2).imp fun E σ H ⟨φ,ρ,μ,N,A,M,w,L⟩ =>
 ⟨φ,ρ,μ,_,A,M,w,fun b μ1 φ1 H1 k1 f1 M1=>by
  cases b with
  | true=>exact⟨φ1,ρ,μ1,N,A.mono f1,M1,k1,L.mono f1⟩
  | false=>exact⟨φ1,ρ,μ1,N,A.mono f1,M1,k1,L.mono f1⟩⟩
def dSet (i:Nat)(w:De):Ds:=fun N ρ μ=>w ρ μ fun d μ'=>N.nx (ρ.set i (some d)) μ'
theorem s_set {i:Nat}{x:Str}{w:De}{pos':Pos}(hN:X.N.Nodup)(hi:X.N[i]?=some x)(hx:Loc X.env.scope x)(he:PD X e w)(hf:X.fn x=true\/X.env.scope.names.lookup x=some .local:=by first | exact .inl rfl | exact .inr rfl | assumption)
 (hsw:swapsWith e (some (.Name x pos')) pos.line X.env=pure false:=by rfl):PDS X (.Assign [.Name x pos'] e pos) (dSet i w):=(ps_set (pos:=pos) (pos':=pos') hN hi hx he hsw hf).imp fun E σ H ⟨φ,ρ,μ,N,A,M,w,L⟩ =>
 ⟨φ,ρ,μ,_,A,M,w,fun d μ1 φ1 v1 H1 k1 f1 M1 i1=>L.nx _ μ1 φ1 _ H1 k1 f1 ((A.mono f1).set i1 i) M1⟩
abbrev DG:=D->DE->MS->(DE->MS->Prop)->Prop
abbrev DGs:=List D->DE->MS->(DE->MS->Prop)->Prop
def SoG (g:TG)(w:DG)(S:List Nat):Prop:=∀ φ H ρ σ μ d v K,DEnv φ H ρ σ->MSis φ H μ->DIs φ H d v->w d ρ μ K->g v σ H fun σ2 H2=>H2=H/\σ2.length=σ.length/\(∀ i,i∉S->σ2[i]?=σ[i]?)/\∃ ρ2,DEnv φ H ρ2 σ2/\K ρ2 μ
def SoGs (g:TGs)(w:DGs)(S:List Nat):Prop:=∀ φ H ρ σ μ ds vs K,DEnv φ H ρ σ->MSis φ H μ->DAll φ H ds vs->w ds ρ μ K->g vs σ H fun σ2 H2=>H2=H/\σ2.length=σ.length/\(∀ i,i∉S->σ2[i]?=σ[i]?)/\∃ ρ2,DEnv φ H ρ2 σ2/\K ρ2 μ
def MonoG (g:TG):Prop:=∀ v σ H Q Q',(∀ σ' H',Q σ' H'->Q' σ' H')->g v σ H Q->g v σ H Q'
def MonoGs (g:TGs):Prop:=∀ v σ H Q Q',(∀ σ' H',Q σ' H'->Q' σ' H')->g v σ H Q->g v σ H Q'
def dgName (i:Nat):DG:=fun d ρ μ K=>K (ρ.set i (some d)) μ
def dgTup (n:Nat)(t:DGs):DG:=fun d ρ μ K=>match d with | .tup ds=>ds.length=n/\t ds ρ μ K | _=>False
def dgCons (t:DG)(u:DGs):DGs:=fun ds ρ μ K=>match ds with | d::r=>t d ρ μ fun ρ' μ'=>u r ρ' μ' K | []=>False
def dgNil:DGs:=fun ds ρ μ K=>match ds with | []=>K ρ μ | _=>False
theorem so_name (i:Nat):SoG (gName i) (dgName i) [i]:=fun φ H ρ σ μ d v K E M h w=>⟨rfl,aE,fun j hj=>ah (fun z=>hj (by simp[z])),_,E.set h i,w⟩
theorem mo_name (i:Nat):MonoG (gName i):=fun v σ H Q Q' h q=>h _ _ q
theorem so_nil:SoGs cNil dgNil []:=fun φ H ρ σ μ ds vs K E M h w=>by
 cases ds with
 | nil=>cases(show vs=[]from h);exact⟨rfl,rfl,fun _ _=>rfl,ρ,E,w⟩
 | cons d r=>exact w.elim
theorem mo_nil:MonoGs cNil:=fun v σ H Q Q' h q=>by
 cases v with
 | nil=>exact h _ _ q
 | cons x r=>exact q
theorem mo_cons {g:TG}{u:TGs}(h1:MonoG g)(h2:MonoGs u):MonoGs (cCons g u):=fun v σ H Q Q' h q=>by
 cases v with
 | nil=>exact q
 | cons x r=>exact h1 _ _ _ _ _ (fun σ' H' q'=>h2 _ _ _ _ _ h q') q
theorem mo_tup {n:Nat}{u:TGs}(h2:MonoGs u):MonoG (cTup n u):=fun v σ H Q Q' h q=>by
 cases v with
 | ref a=>obtain⟨xs,e,l,q⟩:=q;exact⟨xs,e,l,h2 _ _ _ _ _ h q⟩
 | _=>exact q
theorem so_cons {g:TG}{u:TGs}{w:DG}{y:DGs}{S T:List Nat}(h1:SoG g w S)(m1:MonoG g)(h2:SoGs u y T)(m2:MonoGs u):SoGs (cCons g u) (dgCons w y) (S++T):=fun φ H ρ σ μ ds vs K E M h k=>by
 cases ds with
 | nil=>exact k.elim
 | cons d r =>
  obtain⟨v,vr,rfl,hd,hr⟩:=h
  refine m1 _ _ _ _ _ (fun σ1 H1 hq6=>?_) (h1 φ H ρ σ μ d v _ E M hd k)
  obtain⟨e1,l1,n1,ρ1,E1,k1⟩:=hq6
  subst e1
  refine m2 _ _ _ _ _ (fun σ2 H2 hq0=>?_) (h2 φ H1 ρ1 σ1 μ r vr K E1 M hr k1)
  obtain⟨e2,l2,n2,ρ2,E2,k2⟩:=hq0
  refine⟨e2,l2.trans l1,fun i hi=>?_,ρ2,E2,k2⟩
  rw[n2 i (fun z=>hi (aF _ z)),n1 i (fun z=>hi (bF _ z))]
theorem so_tup {n:Nat}{u:TGs}{y:DGs}{S:List Nat}(h2:SoGs u y S):SoG (cTup n u) (dgTup n y) S:=fun φ H ρ σ μ d v K E M h k=>by
 cases d with
 | tup ds =>
  obtain⟨p,vs,rfl,hn,hp,ha⟩:=h
  exact⟨vs,hp,by rw[ha.len];exact k.1,h2 φ H ρ σ μ ds vs K E M ha k.2⟩
 | _=>exact k.elim
structure Tg (X:Cx)(tg:Expr)(g:TG)(w:DG)(S:List Nat):Prop where
 pg:PG X tg g
 so:SoG g w S
 mo:MonoG g
def dAsg (w:De)(g:DG):Ds:=fun N ρ μ=>w ρ μ fun d μ1=>g d ρ μ1 N.nx
theorem s_asg {tg:Expr}{w:De}{g:TG}{y:DG}{S:List Nat}(he:PD X e w)(hg:Tg X tg g y S)(hs:swapsWithSole [tg] e pos.line X.env=pure false:=by rfl)(hw:swappedStores [tg] e X.env=pure none:=by rfl)
 (h1:(assignEach [tg] X.env).map (·.2)=[assign tg X.env]:=by rfl):PDS X (.Assign [tg] e pos) (dAsg w y):=(ps_asg he hg.pg hs hw h1).imp fun E σ H ⟨φ,ρ,μ,N,A,M,w,L⟩ =>
 ⟨φ,ρ,μ,_,A,M,w,fun d μ1 φ1 v1 H1 k1 f1 M1 i1=>hg.mo _ _ _ _ _ (fun σ2 H2 ⟨e2,_,_,ρ2,E2,k2⟩=>by subst e2;exact L.nx ρ2 μ1 φ1 σ2 _ k2 f1 E2 M1) (hg.so φ1 H1 ρ σ μ1 d v1 _ (A.mono f1) M1 i1 k1)⟩
def SoIp (t:TIp)(ro:DOp):Prop:=∀ φ H x y dx dy μ K Q,MSis φ H μ->DIs φ H dx x->DIs φ H dy y->ro dx dy μ K->Lif φ H K Q->t x y H Q
def dAug (i:Nat)(w:De)(ro:DOp):Ds:=fun N ρ μ=>match ρ[i]? with | some (some x)=>w ρ μ fun y μ1=>ro x y μ1 fun z μ2=>N.nx (ρ.set i (some z)) μ2 | _=>False
theorem s_aug {i:Nat}{x:Str}{w:De}{op:Operator}{ti:TIp}{ro:DOp}{pos':Pos}(hN:X.N.Nodup)(hi:X.N[i]?=some x)(hx:Loc X.env.scope x)(he:PD X e w)(ho:PIp X op ti)(so:SoIp ti ro)(hf:X.fn x=true\/X.env.scope.names.lookup x=some .local:=by first | exact .inl rfl | exact .inr rfl | assumption) :
 PDS X (.AugAssign (.Name x pos') op e pos) (dAug i w ro):=(ps_aug (pos:=pos) (pos':=pos') hN hi hx he ho hf).imp fun E σ H hq=>by
 obtain⟨φ,ρ,μ,N,A,M,w,L⟩:=hq
 unfold dAug at w
 split at w
 ·rename_i d hd
  obtain⟨v,hv,hdv⟩:=A.2 i d hd
  refine⟨v,hv,φ,ρ,μ,_,A,M,w,fun d1 μ1 φ1 v1 H1 k1 f1 M1 i1=>?_⟩
  exact so φ1 H1 _ _ d d1 μ1 _ _ M1 (hdv.mono f1) i1 k1 fun d2 μ2 φ2 v2 H2 k2 f2 M2 i2=>L.nx _ μ2 φ2 _ H2 k2 (f1.trans f2) ((A.mono (f1.trans f2)).set i2 i) M2
 ·exact w.elim
def dWhile (c:Dt)(b:Ds):Ds:=fun N ρ μ=>∃ W:Nat->DE->MS->Prop,(∃ m,W m ρ μ)/\∀ m ρ μ,W m ρ μ ->
 c ρ μ fun t μ1=>if t=true then b { N with nx:=fun ρ' μ'=>∃ m',m'<m/\W m' ρ' μ',ct:=fun ρ' μ'=>∃ m',m'<m/\W m' ρ' μ',bk:=N.nx} ρ μ1 else N.nx ρ μ1
theorem s_while {c:Expr}{body:List Stmt}{t:Dt}{u:Ds}(hp:PassesOwn (model X.prog X.w) X.A X.env X.xe)(hc:PDT X c t)(hb:PDB X body u):PDS X (.While c body [] pos) (dWhile t u):=(ps_while hp hc hb).imp fun E σ H ⟨φ,ρ,μ,N,A,M,⟨W,⟨m0,w0⟩,turn⟩,L⟩=>by
 refine⟨fun m σ' H'=>∃ φ' ρ' μ',Fr φ H φ' H'/\DEnv φ' H' ρ' σ'/\MSis φ' H' μ'/\W m ρ' μ',⟨m0,φ,ρ,μ,.refl _ _,A,M,w0⟩,?_⟩
 rintro m σ' H' ⟨φ',ρ',μ',f',A',M',w'⟩
 refine⟨φ',ρ',μ',_,A',M',turn m ρ' μ' w',fun b μ1 φ1 H1 k1 f1 M1=>?_⟩
 cases b with
 | true =>
  refine⟨fun σ2 H2=>∃ m',m'<m/\∃ φ2 ρ2 μ2,Fr φ H φ2 H2/\DEnv φ2 H2 ρ2 σ2/\MSis φ2 H2 μ2/\W m' ρ2 μ2,fun σ2 H2 q=>q,φ1,ρ',μ1,_,A'.mono f1,M1,k1,?_⟩
  have nx:LiS φ1 H1 (fun ρ' μ'=>∃ m',m'<m/\W m' ρ' μ') fun σ2 H2=>∃ m',m'<m/\∃ φ2 ρ2 μ2,Fr φ H φ2 H2/\DEnv φ2 H2 ρ2 σ2/\MSis φ2 H2 μ2/\W m' ρ2 μ2:=fun ρ2 μ2 φ2 σ2 H2 ⟨m',hm,w2⟩ f2 A2 M2=>⟨m',hm,φ2,ρ2,μ2,(f'.trans f1).trans f2,A2,M2,w2⟩
  exact⟨nx,L.rt.mono (f'.trans f1),L.nx.mono (f'.trans f1),nx⟩
 | false=>exact L.nx ρ' μ1 φ1 σ' H1 k1 (f'.trans f1) (A'.mono f1) M1
def Wk (J:It)(φ:List Addr)(H:Hp)(ds:List D)(c:MS->Prop):Prop:=∀ φ' H' μ',Fr φ H φ' H'->MSis φ' H' μ'->c μ'->∀ i,
 (∀ d,ds[i]?=some d->J.go i H'/\∀ x H'',J.yld i H' x H''->Fr φ' H' φ' H''/\MSis φ' H'' μ'/\DIs φ' H'' d x)/\(i=ds.length->J.stop i H')
abbrev DI:=DE->MS->(List D->(MS->Prop)->MS->Prop)->Prop
def tDI (w:DI):TI:=fun σ H R=>∃ φ ρ μ K,DEnv φ H ρ σ/\MSis φ H μ/\w ρ μ K/\∀ ds c μ' φ' J H',K ds c μ'->Fr φ H φ' H'->MSis φ' H' μ'->Wk J φ' H' ds c->R J H'
abbrev PDI (X:Cx)(tg iter:Expr)(w:DI):Prop:=PI X tg iter (tDI w)
theorem PI.imp {tg iter:Expr}{t t':TI}(h:PI X tg iter t)(hi:∀ σ H Q,t' σ H Q->t σ H Q):PI X tg iter t':=fun pins s σ H Q I q=>h pins s σ H Q I (hi σ H Q q)
def forW (g:DG)(b:Ds)(N:DN)(c:MS->Prop):List D->DE->MS->Prop
 | [],ρ,μ=>c μ/\N.nx ρ μ
 | d::ds,ρ,μ=>c μ/\g d ρ μ fun ρ2 μ2=>b { N with nx:=fun ρ' μ'=>forW g b N c ds ρ' μ',ct:=fun ρ' μ'=>forW g b N c ds ρ' μ',bk:=N.nx} ρ2 μ2
def dFor (wi:DI)(g:DG)(b:Ds):Ds:=fun N ρ μ=>wi ρ μ fun ds c μ1=>forW g b N c ds ρ μ1
theorem s_for {tg iter:Expr}{body:List Stmt}{wi:DI}{g:TG}{y:DG}{S:List Nat}{u:Ds}(hp:PassesOwn (model X.prog X.w) X.A X.env X.xe)(hc:X.calm=true)(hi:PDI X tg iter wi)(hg:Tg X tg g y S)(hb:PDB X body u)
 (hs:∀ x,foldedSetIterable iter X.env x=pure x:=by intro _;rfl):PDS X (.For tg iter body [] pos) (dFor wi y u):=(ps_for hp hc hi hg.pg hb hs).imp fun E σ H hq=>by
 obtain⟨φ,ρ,μ,N,A,M,w,L⟩:=hq
 refine⟨φ,ρ,μ,_,A,M,w,fun ds c μ1 φ1 J H1 k1 f1 M1 wk=>?_⟩
 refine⟨fun i m σ' H'=>m=ds.length - i/\i<=ds.length/\∃ φ' ρ' μ',Fr φ1 H1 φ' H'/\DEnv φ' H' ρ' σ'/\MSis φ' H' μ'/\forW y u N c (ds.drop i) ρ' μ',⟨ds.length,rfl,aV _,φ1,ρ,μ1,.refl _ _,A.mono f1,M1,k1⟩,?_⟩
 rintro i m σ' H' ⟨rfl,hi,φ',ρ',μ',f',A',M',w'⟩
 by_cases hlt:i<ds.length
 ·rw[cD hlt]at w'
  obtain⟨c',w'⟩:=w'
  obtain⟨go,yld⟩:=(wk φ' H' μ' f' M' c' i).1 ds[i] (gxA hlt)
  refine .inr ⟨go,fun σ2 H2=>∃ φ2 ρ2 μ2,Fr φ1 H1 φ2 H2/\DEnv φ2 H2 ρ2 σ2/\MSis φ2 H2 μ2/\forW y u N c (ds.drop (i+1)) ρ2 μ2,fun σ2 H2 q=>⟨ds.length - (i+1),by omega,rfl,hlt,q⟩,fun x H2 hy=>?_⟩
  obtain⟨f2,M2,i2⟩:=yld x H2 hy
  refine hg.mo _ _ _ _ _ (fun σ3 H3 hq4=>?_) (hg.so φ' H2 ρ' σ' μ' _ x _ (A'.mono f2) M2 i2 w')
  obtain⟨e3,_,_,ρ3,E3,k3⟩:=hq4
  subst e3
  refine⟨φ',ρ3,μ',_,E3,M2,k3,?_⟩
  have nx:LiS φ' H3 (fun ρ' μ'=>forW y u N c (ds.drop (i+1)) ρ' μ') fun σ2 H2=>∃ φ2 ρ2 μ2,Fr φ1 H1 φ2 H2/\DEnv φ2 H2 ρ2 σ2/\MSis φ2 H2 μ2/\forW y u N c (ds.drop (i+1)) ρ2 μ2:=fun ρ2 μ2 φ2 σ2 H2 w2 g2 A2 N2=>⟨φ2,ρ2,μ2,(f'.trans f2).trans g2,A2,N2,w2⟩
  have ff:=f1.trans (f'.trans f2)
  exact⟨nx,L.rt.mono ff,L.nx.mono ff,nx⟩
 ·have e:i=ds.length:=by omega
  subst e
  rw[List.drop_length]at w'
  exact .inl ⟨(wk φ' H' μ' f' M' w'.1 _).2 rfl,L.nx ρ' μ' φ' σ' H' w'.2 (f1.trans f') A' M'⟩
end
def startD (js:List (Option Nat))(ρ:DE):DE:=js.map fun o=>o.bind fun j=>(ρ[j]?).join
theorem DEnv.startC {φ:List Addr}{H:Hp}{ρ:DE}{σ:St}(h:DEnv φ H ρ σ)(js:List (Option Nat)):DEnv φ H (startD js ρ) (startC js σ):=by
 refine⟨by unfold startD L2.startC;rw[gxC,gxC],fun i d e=>?_⟩
 unfold startD at e
 rw[gxH]at e
 unfold L2.startC
 rw[gxH]
 cases q:js[i]? with
 | none=>rw[q]at e;cases e
 | some o =>
  rw[q]at e
  cases o with
  | none=>cases e
  | some j =>
   have e':(ρ[j]?).join=some d:=aI e
   have e2:ρ[j]?=some (some d):=by
    cases z:ρ[j]? with
    | none=>rw[z]at e';cases e'
    | some y=>rw[z]at e';have:y=some d:=e';rw[this]
   obtain⟨v,hv,hd⟩:=h.2 j d e2
   refine⟨v,?_,hd⟩
   show some ((σ[j]?).join)=_
   rw[hv];rfl
def dItem (ρ:DE)(y:DG)(t:Dt)(w:De)(d:D)(μ:MS)(K:Option D->MS->Prop):Prop:=y d ρ μ fun ρ2 μ2=>t ρ2 μ2 fun b μ3=>if b=true then w ρ2 μ3 (fun z μ4=>K (some z) μ4)else K none μ3
def compW (it:D->MS->(Option D->MS->Prop)->Prop)(c:MS->Prop):List D->MS->(List D->MS->Prop)->Prop
 | [],μ,K=>c μ/\K [] μ
 | d::ds,μ,K=>c μ/\it d μ fun o μ1=>compW it c ds μ1 fun ys μ2=>K (o.toList++ys) μ2
def ownJs (S:List Nat)(js:List (Option Nat)):Bool:=S.all fun i=>js[i]?==some none
theorem ext_of {js:List (Option Nat)}{σ σ2:St}{S:List Nat}(ho:ownJs S js=true)(hl:σ2.length=(startC js σ).length)(hn:∀ i,i∉S->σ2[i]?=(startC js σ)[i]?):Ext (startC js σ) σ2:=by
 refine⟨hl.symm,fun i v e=>?_⟩
 by_cases hi:i∈S
 ·have q:=List.all_eq_true.mp ho i hi
  have q':js[i]?=some none:=by simpa using q
  obtain⟨j,e1,_⟩:=getStart e
  rw[q']at e1;cases e1
 ·rw[hn i hi];exact e
def dComp (m:Bool)(wi:DI)(js:List (Option Nat))(y:DG)(t:Dt)(w:De):De:=fun ρ μ K=>wi ρ μ fun ds c μ1=>ds.length<=sizeLine/\compW (dItem (startD js ρ) y t w) c ds μ1 fun ys μ2=>nL m ys μ2 K
theorem tD_comp {m:Bool}{wi:DI}{js:List (Option Nat)}{g:TG}{y:DG}{S:List Nat}{t:Dt}{w:De}(so:SoG g y S)(mo:MonoG g)(ho:ownJs S js=true){σ:St}{H:Hp}{Q:VK}(h:tD (dComp m wi js y t w) σ H Q):tComp (tDI wi) js g (tDT t) (tD w) σ H Q:=by
 obtain⟨φ,ρ,μ,K,A,M,k,L⟩:=h
 refine⟨φ,ρ,μ,_,A,M,k,fun ds c μ1 φ1 J H1 k1 f1 M1 wk=>?_⟩
 obtain⟨hz,k1⟩:=k1
 refine⟨fun i n ys H'=>n=ds.length - i/\i<=ds.length/\ys.length<=i/\∃ φ' zs μ',Fr φ1 H1 φ' H'/\DAll φ' H' zs ys/\MSis φ' H' μ'/\compW (dItem (startD js ρ) y t w) c (ds.drop i) μ' fun r μ2=>nL m (zs++r) μ2 K,
  ⟨ds.length,rfl,aV _,aV _,φ1,[],μ1,.refl _ _,rfl,M1,k1⟩,?_⟩
 rintro i n ys H' ⟨rfl,hi,hy,φ',zs,μ',f',Z',M',w'⟩
 by_cases hlt:i<ds.length
 ·rw[cD hlt]at w'
  obtain⟨c',w'⟩:=w'
  obtain⟨go,yld⟩:=(wk φ' H' μ' f' M' c' i).1 ds[i] (gxA hlt)
  refine .inr ⟨go,fun x H2 hy2=>?_⟩
  obtain⟨f2,M2,i2⟩:=yld x H2 hy2
  have E2:DEnv φ' H2 (startD js ρ) (startC js σ):=((A.mono (f1.trans (f'.trans f2))).startC js)
  refine mo _ _ _ _ _ (fun σ3 H3 hq5=>?_) (so φ' H2 _ _ μ' _ x _ E2 M2 i2 w')
  obtain⟨e3,l3,n3,ρ3,E3,k3⟩:=hq5
  refine⟨ext_of ho l3 n3,?_⟩
  subst e3
  refine⟨φ',ρ3,μ',_,E3,M2,k3,fun b μ4 φ4 H4 k4 f4 M4=>?_⟩
  have ff:=f'.trans (f2.trans f4)
  cases b with
  | true =>
   refine⟨φ4,ρ3,μ4,_,E3.mono f4,M4,k4,fun d5 μ5 φ5 v5 H5 k5 f5 M5 i5=>⟨by omega,ds.length - (i+1),by omega,rfl,hlt,by rw[gxE,aN];omega,φ5,zs++[d5],μ5,ff.trans f5,(Z'.mono (f2.trans (f4.trans f5))).app ⟨v5,[],rfl,i5,rfl⟩,M5,?_⟩⟩
   have e:(fun r μ2=>nL m (zs++[d5]++r) μ2 K)=fun r μ2=>nL m (zs++((some d5).toList++r)) μ2 K:=by funext r μ2;rw[bx];rfl
   rw[e]
   exact k5
  | false =>
   exact⟨ds.length - (i+1),by omega,rfl,hlt,by omega,φ4,zs,μ4,ff,Z'.mono (f2.trans f4),M4,k4⟩
 ·have e:i=ds.length:=by omega
  subst e
  rw[List.drop_length]at w'
  refine .inl ⟨(wk φ' H' μ' f' M' w'.1 _).2 rfl,fun p hp=>?_⟩
  have q:nL m (zs++[]) μ' K:=w'.2
  rw[aZ]at q
  exact al_n (L.mono (f1.trans f')) M' Z' q hp
section
variable {X:Cx}{a b e:Expr}{es:List Expr}{pos:Pos}
variable {N:List Str}{js:List (Option Nat)}{sc:Scope}{tg elt iter:Expr}{ifs:List Expr}{g:TG}{y:DG}{S:List Nat}{t:Dt}{w:De}
abbrev PDTs (X:Cx)(ifs:List Expr)(t:Dt):Prop:=PTs X ifs (tDT t)
theorem PTs.imp {ifs:List Expr}{t t':TT}(h:PTs X ifs t)(hi:∀ σ H Q,t' σ H Q->t σ H Q):PTs X ifs t':=fun pins s σ H Q I q=>h pins s σ H Q I (hi σ H Q q)
def dYes:Dt:=fun _ μ K=>K true μ
theorem ts_nil:PDTs X [] dYes:=pts_nil.imp fun σ H Q hq6=>by obtain⟨φ,ρ,μ,K,A,M,k,L⟩:=hq6;exact L true μ φ H k (.refl _ _) M
theorem ts_one {c:Expr}(h:PDT X c t):PDTs X [c] t:=pts_one h
theorem d_comp (m:Bool){wi:DI}(hc:CompOk X N js sc)(calm:X.calm=true)(so:SoG g y S)(mo:MonoG g)(ho:ownJs S js=true)(hi:PDI X tg iter wi)(hg:∀ fp s H,PG (cxC X N sc fp s H) tg g)(ht:∀ fp s H,PDTs (cxC X N sc fp s H) ifs t)(he:∀ fp s H,PD (cxC X N sc fp s H) elt w)
 (hs:∀ x,foldedSetIterable iter X.env x=pure x:=by intro _;rfl):PD X (.ListComp elt [⟨tg,iter,ifs,0⟩] sc pos) (dComp m wi js y t w):=(pe_comp hc calm hi hg ht he hs).imp fun σ H Q q=>tD_comp so mo ho q
theorem s_setComp (m:Bool){wi:DI}{pos' spos:Pos}{i:Nat}{x:Str}(hc:CompOk X N js sc)(calm:X.calm=true)(so:SoG g y S)(mo:MonoG g)(ho:ownJs S js=true)(hN:X.N.Nodup)(hx':X.N[i]?=some x)(hx:Loc X.env.scope x)(hi:PDI X tg iter wi)(hg:∀ fp s H,PG (cxC X N sc fp s H) tg g)
 (ht:∀ fp s H,PDTs (cxC X N sc fp s H) ifs t) (he:∀ fp s H,PD (cxC X N sc fp s H) elt w) (hsw:swapsWith (.ListComp elt [⟨tg,iter,ifs,0⟩] sc pos) (some (.Name x pos')) spos.line X.env=pure true:=by rfl)
 (hs:∀ x,foldedSetIterable iter X.env x=pure x:=by intro _;rfl) (hf:X.fn x=true\/X.env.scope.names.lookup x=some .local:=by first | exact .inl rfl | exact .inr rfl | assumption) :
 PDS X (.Assign [.Name x pos'] (.ListComp elt [⟨tg,iter,ifs,0⟩] sc pos) spos) (dSet i (dComp m wi js y t w)):=(ps_setComp hc calm hN hx' hx hi hg ht he hsw hs hf).imp fun E σ H ⟨φ,ρ,μ,N,A,M,w,L⟩ =>
 tD_comp so mo ho ⟨φ,ρ,μ,_,A,M,w,fun d μ1 φ1 v1 H1 k1 f1 M1 i1=>L.nx _ μ1 φ1 _ H1 k1 f1 ((A.mono f1).set i1 i) M1⟩
def dItL (w:De):DI:=fun ρ μ K=>w ρ μ fun d μ1=>opt (lv μ1 d) fun ds=>K ds (lc d ds) μ1
theorem wk_list {Kf:PySem.W.Frag}{p:Addr}{φ:List Addr}{H:Hp}{ds:List D}{c:MS->Prop}(h:∀ φ' H' μ',Fr φ H φ' H'->MSis φ' H' μ'->c μ'->∃ vs,H' p=some (.lst vs)/\DAll φ' H' ds vs):Wk (Itl Kf p) φ H ds c:=fun φ' H' μ' f M c' i=>by
 obtain⟨vs,hp,ha⟩:=h φ' H' μ' f M c'
 refine⟨fun d hd=>?_,fun hi=>⟨vs,SqL.of hp,by rw[ha.len,hi];exact aa _⟩⟩
 obtain⟨v,hv,hi⟩:=ha.get hd
 refine⟨⟨vs,v,SqL.of hp,hv⟩,fun x H'' hy=>?_⟩
 obtain⟨rfl,hy⟩:=hy
 have e:=hy vs (SqL.of hp)
 rw[hv]at e;cases e
 exact⟨.refl _ _,M,hi⟩
theorem i_list {w:De}(h:PD X a w):PDI X tg a (dItL w):=(pi_list h).imp fun σ H Q hq=>by
 obtain⟨φ,ρ,μ,K,A,M,k,L⟩:=hq
 refine⟨φ,ρ,μ,_,A,M,k,fun d μ1 φ1 v1 H1 k1 f1 M1 i1=>?_⟩
 obtain⟨ds,el,k1⟩:=opt_ex k1
 obtain⟨p,vs,rfl,hp,ha⟩:=lv_is M1 i1 el
 exact⟨p,rfl,⟨vs,SqL.of hp⟩,L ds _ μ1 φ1 _ H1 k1 f1 M1 (wk_list fun φ' H' μ' f M c=>lv_stay M1 i1 el f M c)⟩
def rngD (lo:Int)(n:Nat):List D:=(List.range n).map fun i=>D.int (lo+(i:Nat))
theorem wk_range {lo:Int}{n:Nat}{φ:List Addr}{H:Hp}:Wk (Itr lo n) φ H (rngD lo n) fun _=>True:=fun φ' H' μ' f M _ i=>by
 have hl:(rngD lo n).length=n:=by unfold rngD;rw[gxC,gxJ]
 refine⟨fun d hd=>?_,fun hi=>by rw[hl]at hi;exact Nat.le_of_eq hi.symm⟩
 have hi:i<n:=by have:=(gxB hd).1;omega
 refine⟨hi,fun x H'' hy=>?_⟩
 obtain⟨rfl,rfl⟩:=hy
 refine⟨.refl _ _,M,?_⟩
 unfold rngD at hd
 rw[gxH,List.getElem?_range hi]at hd
 cases hd
 rfl
def dItR1 (w:DA):DI:=fun ρ μ K=>w ρ μ fun ds μ1=>match ds with
 | [.int j] => -(2 ^ 62)<=j/\j<2 ^ 62/\K (rngD 0 j.toNat) (fun _=>True) μ1
 | _=>False
def dItR2 (w:DA):DI:=fun ρ μ K=>w ρ μ fun ds μ1=>match ds with
 | [.int i,.int j]=>(-(2 ^ 62)<=i/\i<2 ^ 62 /\ -(2 ^ 62)<=j/\j<2 ^ 62)/\K (rngD i (j - i).toNat) (fun _=>True) μ1
 | _=>False
theorem i_range2 {w:DA}{p:Pos}(hg:Gl X "range")(hm:X.mg "range"=none)(ha:PDA X [a,b] w)(hs:starEach [a,b] X.env=[(false,eval a X.env),(false,eval b X.env)]:=by rfl)(hs2:starEach [b] X.env=[(false,eval b X.env)]:=by rfl):PDI X tg (.Call (.Name "range" p) [a,b] [] pos) (dItR2 w):=(pi_range2 hg hm ha hs hs2).imp fun σ H Q hq=>by
 obtain⟨φ,ρ,μ,K,A,M,k,L⟩:=hq
 refine⟨φ,ρ,μ,_,A,M,k,fun ds μ1 φ1 vs H1 k1 f1 M1 i1=>?_⟩
 split at k1
 ·obtain⟨v,r,rfl,h1,u,r',rfl,h2,h3⟩:=i1
  cases(show v=_ from h1);cases(show u=_ from h2);cases(show r'=[]from h3)
  exact⟨_,_,rfl,k1.1,L _ _ μ1 φ1 _ H1 k1.2 f1 M1 wk_range⟩
 ·exact k1.elim
def dItS (w:De):DI:=fun ρ μ K=>w ρ μ fun d μ1=>match d with
 | .str z=>K (z.cps.toList.map fun c=>D.str ⟨#[c]⟩) (fun _=>True) μ1
 | _=>False
theorem i_str {w:De}(h:PD X a w):PDI X tg a (dItS w):=(pi_str h).imp fun σ H Q hq=>by
 obtain⟨φ,ρ,μ,K,A,M,k,L⟩:=hq
 refine⟨φ,ρ,μ,_,A,M,k,fun d μ1 φ1 v1 H1 k1 f1 M1 i1=>?_⟩
 split at k1
 ·rename_i z
  cases(show v1=_ from i1)
  refine⟨z,rfl,L _ _ μ1 φ1 _ H1 k1 f1 M1 fun φ' H' μ' f M _ i=>⟨fun d hd=>?_,fun hi=>by rw[gxC]at hi;exact hi⟩⟩
  have hi:i<z.cps.toList.length:=by have:=(gxB hd).1;rwa [gxC]at this
  refine⟨hi,fun x H'' hy=>?_⟩
  obtain⟨rfl,c,hc,rfl⟩:=hy
  rw[gxH,hc]at hd
  cases hd
  exact⟨.refl _ _,M,rfl⟩
 ·exact k1.elim
end
mutual
def mrB (n:Nat):D->Prop
 | .lst ds=>mrL n ds
 | .tup ds=>mrL n ds
 | .dic _ ds=>mrL n ds
 | .mr k=>k<n
 | .obj _ _ ds=>mrL n ds
 | .fdc _ ds=>mrL n ds
 | _=>True
def mrL (n:Nat):List D->Prop
 | []=>True
 | d::ds=>mrB n d/\mrL n ds
end
def moB (n:Nat):MO->Prop
 | .box=>True
 | .lst ds=>mrL n ds
 | .dic _ ds=>mrL n ds
 | .fdic _ _ ds=>mrL n ds
 | .ins _ _ ds=>mrL n ds
 | .dtu _ ds=>mrL n ds
 | .gx φ0 _=>φ0.length<=n
 | .exc _=>True
theorem Fr.takeN {φ0 φ:List Addr}{H0 H:Hp}{n:Nat}(f:Fr φ0 H0 φ H)(h:φ0.length<=n):Fr φ0 H0 (φ.take n) H:=by
 obtain⟨⟨ψ,rfl,hψ⟩,k,d⟩:=f
 exact⟨⟨ψ.take (n - φ0.length),by rw[List.take_append,aU h],fun c hc=>hψ c (aM hc)⟩,k,d⟩
theorem Fr.late {φ0 φ:List Addr}{H0 H:Hp}{j:Nat}{p:Addr}(f:Fr φ0 H0 φ H)(h:φ0.length<=j)(hp:φ[j]?=some p):H0 p=none:=by
 obtain⟨⟨ψ,rfl,hψ⟩,k,d⟩:=f
 rw[gxG h]at hp
 exact hψ p (gxD hp)
theorem Fr.takeP {φ0 φ:List Addr}{H0 H:Hp}{n:Nat}{p:Addr}(f:Fr φ0 H0 φ H)(h:φ0.length<=n)(hp:H0 p=none):Fr φ0 H0 (φ.take n++[p]) H:=by
 obtain⟨⟨ψ,e,hψ⟩,k,d⟩:=f.takeN h
 exact⟨⟨ψ++[p],by rw[e,bx],fun c hc=>by rcases List.mem_append.mp hc with z | z;exact hψ c z;rw[List.mem_singleton.mp z];exact hp⟩,k,d⟩
mutual
theorem DIs.cutT {n:Nat}{φ:List Addr}{H:Hp}:∀ {d:D} {v:V},mrB n d->DIs φ H d v->DIs (φ.take n) H d v
 | .non,_,_,h=>h
 | .bl _,_,_,h=>h
 | .int _,_,_,h=>h
 | .str _,_,_,h=>h
 | .lst _,_,m,h=>by obtain⟨p,vs,e,nn,hp,q⟩:=h;exact⟨p,vs,e,fun z=>nn (aM z),hp,DAll.cutT m q⟩
 | .tup _,_,m,h=>by obtain⟨p,vs,e,nn,hp,q⟩:=h;exact⟨p,vs,e,fun z=>nn (aM z),hp,DAll.cutT m q⟩
 | .dic _ _,_,m,h=>by obtain⟨p,kvs,vs,e,nn,hp,q1,q2,q⟩:=h;exact⟨p,kvs,vs,e,fun z=>nn (aM z),hp,q1,q2,DAll.cutT m q⟩
 | .mr k,_,m,h=>by obtain⟨p,e,q⟩:=h;exact⟨p,by rw[bw m];exact e,q⟩
 | .obj _ _ _,_,m,h=>by obtain⟨p,dx,fs,vs,e,nn,hp,q1,q2,q⟩:=h;exact⟨p,dx,fs,vs,e,fun z=>nn (aM z),hp,q1,q2,DAll.cutT m q⟩
 | .fdc _ _,_,m,h=>by obtain⟨p,dx,fs,vs,e,nn,hp,q1,q2,q⟩:=h;exact⟨p,dx,fs,vs,e,fun z=>nn (aM z),hp,q1,q2,DAll.cutT m q⟩
 | .fn _,_,_,h=>h
theorem DAll.cutT {n:Nat}{φ:List Addr}{H:Hp}:∀ {ds:List D} {vs:List V},mrL n ds->DAll φ H ds vs->DAll (φ.take n) H ds vs
 | [],_,_,h=>h
 | _::_,_,m,h=>by obtain⟨v,r,e,h1,h2⟩:=h;exact⟨v,r,e,DIs.cutT m.1 h1,DAll.cutT m.2 h2⟩
end
theorem MSis.cutT {n:Nat}{φ:List Addr}{H:Hp}{μ:MS}(h:MSis φ H μ)(hm:∀(k:Nat) (m:MO),k<n->μ[k]?=some m->moB n m):MSis (φ.take n) H (μ.take n):=by
 refine⟨h.nd.sublist (List.take_sublist _ _),by rw[bp,bp,h.len],fun k m e=>?_⟩
 have hk:k<n:=by have:=(gxB e).1;rw[bp]at this;omega
 rw[bw hk]at e
 obtain⟨p,e1,e2⟩:=h.at_ k m e
 refine⟨p,by rw[bw hk];exact e1,?_⟩
 have hb:=hm k m hk e
 cases m with
 | box=>obtain⟨q,ns,i,r,z,h1,h2,h3,h4⟩:=e2;exact⟨q,ns,i,r,z,h1,h2,fun z=>h3 (aM z),h4⟩
 | lst ds=>obtain⟨vs,h1,h2⟩:=e2;exact⟨vs,h1,h2.cutT hb⟩
 | dic ks ds=>obtain⟨kvs,vs,h1,h2,h3,h4⟩:=e2;exact⟨kvs,vs,h1,h2,h3,h4.cutT hb⟩
 | fdic o kvs ds=>exact⟨e2.1,e2.2.cutT hb⟩
 | ins C ns ds=>obtain⟨dx,fs,h1,h2,h3⟩:=e2;exact⟨dx,fs,h1,h2,h3.cutT hb⟩
 | dtu ks ds=>obtain⟨kvs,h1,h2,h3⟩:=e2;exact⟨kvs,h1,h2,h3.cutT hb⟩
 | gx φ0 H0=>exact⟨e2.1.takeN hb,e2.2⟩
 | exc c=>exact e2
mutual
theorem DIs.bound {φ:List Addr}{H:Hp}:∀ {d:D} {v:V},DIs φ H d v->mrB φ.length d
 | .non,_,_=>True.intro
 | .bl _,_,_=>True.intro
 | .int _,_,_=>True.intro
 | .str _,_,_=>True.intro
 | .lst _,_,h=>by obtain⟨p,vs,e,nn,hp,q⟩:=h;exact DAll.bound q
 | .tup _,_,h=>by obtain⟨p,vs,e,nn,hp,q⟩:=h;exact DAll.bound q
 | .dic _ _,_,h=>by obtain⟨p,kvs,vs,e,nn,hp,q1,q2,q⟩:=h;exact DAll.bound q
 | .mr k,_,h=>by obtain⟨p,e,q⟩:=h;exact(gxB e).1
 | .obj _ _ _,_,h=>by obtain⟨p,dx,fs,vs,e,nn,hp,q1,q2,q⟩:=h;exact DAll.bound q
 | .fdc _ _,_,h=>by obtain⟨p,dx,fs,vs,e,nn,hp,q1,q2,q⟩:=h;exact DAll.bound q
 | .fn _,_,_=>True.intro
theorem DAll.bound {φ:List Addr}{H:Hp}:∀ {ds:List D} {vs:List V},DAll φ H ds vs->mrL φ.length ds
 | [],_,_=>True.intro
 | _::_,_,h=>by obtain⟨v,r,e,h1,h2⟩:=h;exact⟨DIs.bound h1,DAll.bound h2⟩
end
theorem MSis.bound {φ:List Addr}{H:Hp}{μ:MS}(h:MSis φ H μ):∀(k:Nat) (m:MO),μ[k]?=some m->moB μ.length m:=fun k m e=>by
 obtain⟨p,e1,e2⟩:=h.at_ k m e
 rw[<- h.len]
 cases m with
 | box=>exact True.intro
 | lst ds=>obtain⟨vs,h1,h2⟩:=e2;exact h2.bound
 | dic ks ds=>obtain⟨kvs,vs,h1,h2,h3,h4⟩:=e2;exact h4.bound
 | fdic o kvs ds=>exact e2.2.bound
 | ins C ns ds=>obtain⟨dx,fs,h1,h2,h3⟩:=e2;exact h3.bound
 | dtu ks ds=>obtain⟨kvs,h1,h2,h3⟩:=e2;exact h3.bound
 | gx φ0 H0=>obtain⟨⟨ψ,e,_⟩,_⟩:=e2.1;show φ0.length<=φ.length;rw[e,gxE];omega
 | exc c=>exact True.intro
theorem notin_addP {n:Nat}{φ':List Addr}{p q:Addr}(hp:p∈φ')(h:q∉φ'):q∉φ'.take n++[p]:=fun z=>by
 rcases List.mem_append.mp z with z | z
 ·exact h (aM z)
 ·exact h (by rw[List.mem_singleton.mp z];exact hp)
mutual
theorem DIs.addP {n:Nat}{φ':List Addr}{H:Hp}{p:Addr}(hp:p∈φ'):∀ {d:D} {v:V},mrB n d->DIs φ' H d v->DIs (φ'.take n++[p]) H d v
 | .non,_,_,h=>h
 | .bl _,_,_,h=>h
 | .int _,_,_,h=>h
 | .str _,_,_,h=>h
 | .lst _,_,m,h=>by obtain⟨q,vs,e,nn,hq,z⟩:=h;exact⟨q,vs,e,notin_addP hp nn,hq,DAll.addP' hp m z⟩
 | .tup _,_,m,h=>by obtain⟨q,vs,e,nn,hq,z⟩:=h;exact⟨q,vs,e,notin_addP hp nn,hq,DAll.addP' hp m z⟩
 | .dic _ _,_,m,h=>by obtain⟨q,kvs,vs,e,nn,hq,q1,q2,z⟩:=h;exact⟨q,kvs,vs,e,notin_addP hp nn,hq,q1,q2,DAll.addP' hp m z⟩
 | .mr k,_,m,h=>by
  obtain⟨q,e,z⟩:=h
  have hk:k<(φ'.take n).length:=by rw[bp];have:=(gxB e).1;have m':k<n:=m;omega
  exact⟨q,by rw[gxF hk,bw m];exact e,z⟩
 | .obj _ _ _,_,m,h=>by obtain⟨q,dx,fs,vs,e,nn,hq,q1,q2,z⟩:=h;exact⟨q,dx,fs,vs,e,notin_addP hp nn,hq,q1,q2,DAll.addP' hp m z⟩
 | .fdc _ _,_,m,h=>by obtain⟨q,dx,fs,vs,e,nn,hq,q1,q2,z⟩:=h;exact⟨q,dx,fs,vs,e,notin_addP hp nn,hq,q1,q2,DAll.addP' hp m z⟩
 | .fn _,_,_,h=>h
theorem DAll.addP' {n:Nat}{φ':List Addr}{H:Hp}{p:Addr}(hp:p∈φ'):∀ {ds:List D} {vs:List V},mrL n ds->DAll φ' H ds vs->DAll (φ'.take n++[p]) H ds vs
 | [],_,_,h=>h
 | _::_,_,m,h=>by obtain⟨v,r,e,h1,h2⟩:=h;exact⟨v,r,e,DIs.addP hp m.1 h1,DAll.addP' hp m.2 h2⟩
end
def All2 (R:D->D->Prop)(ds es:List D):Prop:=ds.length=es.length/\∀(i:Nat) (a b:D),ds[i]?=some a->es[i]?=some b->R a b
def FrzR (n:Nat)(μ:MS):Nat->D->D->Prop
 | 0,d,d'=>d'=d/\mrB n d
 | k+1,d,d'=>(d'=d/\mrB n d)\/(∃ j ds es,d=.mr j/\n<=j/\μ[j]?=some (.lst ds)/\d'=.lst es/\All2 (FrzR n μ k) ds es)\/(∃ ds es,d=.lst ds/\d'=.lst es/\All2 (FrzR n μ k) ds es)\/(∃ ds es,d=.tup ds/\d'=.tup es/\All2 (FrzR n μ k) ds es)\/(∃ j ks ds es,d=.mr j/\n<=j/\μ[j]?=some (.dic ks ds)/\d'=.dic ks es/\All2 (FrzR n μ k) ds es)
theorem DAll.ofGet {φ:List Addr}{H:Hp}:∀ {ds:List D} {vs:List V},ds.length=vs.length->(∀(i:Nat) (d:D) (v:V),ds[i]?=some d->vs[i]?=some v->DIs φ H d v)->DAll φ H ds vs
 | [],vs,hl,_=>by cases vs with
  | nil=>rfl
  | cons v r=>simp at hl
 | d::ds,vs,hl,h=>by cases vs with
  | nil=>simp at hl
  | cons v r=>exact⟨v,r,rfl,h 0 d v rfl rfl,DAll.ofGet (by simpa using hl) fun i a b e1 e2=>h (i+1) a b (by simpa using e1) (by simpa using e2)⟩
theorem FrzR.is {n:Nat}{φ:List Addr}{H:Hp}{μ:MS}(M:MSis φ H μ)(nin:∀ {j:Nat} {p:Addr},n<=j->φ[j]?=some p->p∉φ.take n):∀ {k:Nat} {d d':D} {v:V},FrzR n μ k d d'->DIs φ H d v->DIs (φ.take n) H d' v:=by
 intro k
 induction k with
 | zero=>intro d d' v h i;obtain⟨rfl,hb⟩:=h;exact i.cutT hb
 | succ k ih =>
  have all:∀ {ds es:List D} {vs:List V},All2 (FrzR n μ k) ds es->DAll φ H ds vs->DAll (φ.take n) H es vs:=fun {ds es vs} ha hd =>
   DAll.ofGet (by rw[hd.len,ha.1]) fun i b v e1 e2=>by
    obtain⟨a,e3,hv⟩:=hd.getV e2
    exact ih (ha.2 i a b e3 e1) hv
  intro d d' v h i
  rcases h with⟨rfl,hb⟩ | ⟨j,ds,es,rfl,hj,e,rfl,ha⟩ | ⟨ds,es,rfl,rfl,ha⟩ | ⟨ds,es,rfl,rfl,ha⟩ | ⟨j,ks,ds,es,rfl,hj,e,rfl,ha⟩
  ·exact i.cutT hb
  ·obtain⟨p,hp,rfl⟩:=i
   obtain⟨p',e1,vs,hv,hd⟩:=M.at_ j _ e
   rw[hp]at e1;cases e1
   exact⟨p,vs,rfl,nin hj hp,hv,all ha hd⟩
  ·obtain⟨p,vs,rfl,hn,hp,hd⟩:=i
   exact⟨p,vs,rfl,fun z=>hn (aM z),hp,all ha hd⟩
  ·obtain⟨p,vs,rfl,hn,hp,hd⟩:=i
   exact⟨p,vs,rfl,fun z=>hn (aM z),hp,all ha hd⟩
  ·obtain⟨p,hp,rfl⟩:=i
   obtain⟨p',e1,kvs,vs,hv,h1,h2,hd⟩:=M.at_ j _ e
   rw[hp]at e1;cases e1
   exact⟨p,kvs,vs,rfl,nin hj hp,hv,h1,h2,all ha hd⟩
def FrzQ (n:Nat)(μ:MS):Nat->D->D->Prop
 | 0,d,d'=>d'=d/\mrB n d
 | k+1,d,d'=>(d'=d/\mrB n d)\/(∃ j ds es,d=.mr j/\n<=j/\μ[j]?=some (.lst ds)/\d'=.lst es/\All2 (FrzQ n μ k) ds es)\/(∃ ds es,d=.lst ds/\d'=.lst es/\All2 (FrzQ n μ k) ds es)\/(∃ ds es,d=.tup ds/\d'=.tup es/\All2 (FrzQ n μ k) ds es)\/(∃ j o kvs ds es,d=.mr j/\n<=j/\μ[j]?=some (.fdic o kvs ds)/\d'=.fdc (kvs.map (·.1)) es/\All2 (FrzQ n μ k) ds es)\/(∃ j C ns ds es,d=.mr j/\n<=j/\μ[j]?=some (.ins C ns ds)/\d'=.obj C ns es/\All2 (FrzQ n μ k) ds es)
theorem FrzQ.is {n:Nat}{φ:List Addr}{H:Hp}{μ:MS}(M:MSis φ H μ)(nin:∀ {j:Nat} {p:Addr},n<=j->φ[j]?=some p->p∉φ.take n):∀ {k:Nat} {d d':D} {v:V},FrzQ n μ k d d'->DIs φ H d v->DIs (φ.take n) H d' v:=by
 intro k
 induction k with
 | zero=>intro d d' v h i;obtain⟨rfl,hb⟩:=h;exact i.cutT hb
 | succ k ih =>
  have all:∀ {ds es:List D} {vs:List V},All2 (FrzQ n μ k) ds es->DAll φ H ds vs->DAll (φ.take n) H es vs:=fun {ds es vs} ha hd =>
   DAll.ofGet (by rw[hd.len,ha.1]) fun i b v e1 e2=>by
    obtain⟨a,e3,hv⟩:=hd.getV e2
    exact ih (ha.2 i a b e3 e1) hv
  intro d d' v h i
  rcases h with⟨rfl,hb⟩ | ⟨j,ds,es,rfl,hj,e,rfl,ha⟩ | ⟨ds,es,rfl,rfl,ha⟩ | ⟨ds,es,rfl,rfl,ha⟩ | ⟨j,o,kvs,ds,es,rfl,hj,e,rfl,ha⟩ | ⟨j,C,ns,ds,es,rfl,hj,e,rfl,ha⟩
  ·exact i.cutT hb
  ·obtain⟨p,hp,rfl⟩:=i
   obtain⟨p',e1,vs,hv,hd⟩:=M.at_ j _ e
   rw[hp]at e1;cases e1
   exact⟨p,vs,rfl,nin hj hp,hv,all ha hd⟩
  ·obtain⟨p,vs,rfl,hn,hp,hd⟩:=i
   exact⟨p,vs,rfl,fun z=>hn (aM z),hp,all ha hd⟩
  ·obtain⟨p,vs,rfl,hn,hp,hd⟩:=i
   exact⟨p,vs,rfl,fun z=>hn (aM z),hp,all ha hd⟩
  ·obtain⟨p,hp,rfl⟩:=i
   obtain⟨p',e1,hv,hd⟩:=M.at_ j _ e
   rw[hp]at e1;cases e1
   exact⟨p,o,kvs,_,rfl,nin hj hp,hv,rfl,rfl,all ha hd⟩
  ·obtain⟨p,hp,rfl⟩:=i
   obtain⟨p',e1,dx,fs,hv,h1,hd⟩:=M.at_ j _ e
   rw[hp]at e1;cases e1
   exact⟨p,dx,fs,_,rfl,nin hj hp,hv,h1,rfl,all ha hd⟩
inductive Fz (n:Nat)(K:DK):DK where
 | keep {d μ} (k:K d μ):Fz n K d μ
 | drop {d μ} (hd:mrB n d) (hm:∀(j:Nat) (m:MO),j<n->μ[j]?=some m->moB n m) (k:K d (μ.take n)):Fz n K d μ
 | lst {j ds μ} (hj:n<=j) (e:μ[j]?=some (.lst ds)) (hd:mrL n ds) (hm:∀(j:Nat) (m:MO),j<n->μ[j]?=some m->moB n m) (k:K (.lst ds) (μ.take n)):Fz n K (.mr j) μ
 | one {j ds μ} (hj:n<=j) (e:μ[j]?=some (.lst ds)) (hd:mrL n ds) (hm:∀(j:Nat) (m:MO),j<n->μ[j]?=some m->moB n m) (k:K (.mr n) (μ.take n++[.lst ds])):Fz n K (.mr j) μ
 | deep {f d d' μ} (e:FrzR n μ f d d') (hm:∀(j:Nat) (m:MO),j<n->μ[j]?=some m->moB n m) (k:K d' (μ.take n)):Fz n K d μ
 | dic {j ks ds μ} (hj:n<=j) (e:μ[j]?=some (.dic ks ds)) (hd:mrL n ds) (hm:∀(j:Nat) (m:MO),j<n->μ[j]?=some m->moB n m) (k:K (.dic ks ds) (μ.take n)):Fz n K (.mr j) μ
 | obj {j C ns ds μ} (hj:n<=j) (e:μ[j]?=some (.ins C ns ds)) (hd:mrL n ds) (hm:∀(j:Nat) (m:MO),j<n->μ[j]?=some m->moB n m) (k:K (.obj C ns ds) (μ.take n)):Fz n K (.mr j) μ
 | fdc {j o kvs ds μ} (hj:n<=j) (e:μ[j]?=some (.fdic o kvs ds)) (hd:mrL n ds) (hm:∀(j:Nat) (m:MO),j<n->μ[j]?=some m->moB n m) (k:K (.fdc (kvs.map (·.1)) ds) (μ.take n)):Fz n K (.mr j) μ
 | deepQ {f d d' μ} (e:FrzQ n μ f d d') (hm:∀(j:Nat) (m:MO),j<n->μ[j]?=some m->moB n m) (k:K d' (μ.take n)):Fz n K d μ
theorem Lif.fz {φ:List Addr}{H:Hp}{μ:MS}{K:DK}{Q:VK}(M:MSis φ H μ)(L:Lif φ H K Q):Lif φ H (Fz μ.length K) Q:=fun d μ' φ' v H' k f M' i=>by
 have eφ:φ'.take μ.length=φ:=by
  obtain⟨⟨ψ,rfl,_⟩,_,_⟩:=f
  rw[<- M.len,bf]
 have f0:Fr φ H (φ'.take μ.length) H':=by
  rw[eφ]
  exact⟨⟨[],by simp,fun _ h=>nomatch h⟩,f.keep,f.dom⟩
 have nin:∀ {j:Nat} {p:Addr},μ.length<=j->φ'[j]?=some p->p∉φ'.take μ.length:=fun {j p} hj e hp=>by
  obtain⟨i,hi,ei⟩:=cj hp
  rw[bp]at hi
  rw[List.getElem_take]at ei
  obtain⟨hj',ej⟩:=gxB e
  exact List.pairwise_iff_getElem.mp M'.nd i j (by omega) hj' (by omega) (ei.trans ej.symm)
 cases k with
 | keep k=>exact L d μ' φ' v H' k f M' i
 | drop hd hm k=>exact L d _ _ v H' k f0 (M'.cutT hm) (i.cutT hd)
 | @lst j ds _ hj e hd hm k =>
  obtain⟨p,hp,rfl⟩:=i
  obtain⟨p',e1,vs,hv,ha⟩:=M'.at_ j _ e
  rw[hp]at e1;cases e1
  exact L _ _ _ _ H' k f0 (M'.cutT hm) ⟨p,vs,rfl,nin hj hp,hv,ha.cutT hd⟩
 | @one j ds _ hj e hd hm k =>
  obtain⟨p,hp,rfl⟩:=i
  obtain⟨p',e1,vs,hv,ha⟩:=M'.at_ j _ e
  rw[hp]at e1;cases e1
  have M0:=M'.cutT hm
  have hpn:p∉φ:=by have:=nin hj hp;rwa [eφ]at this
  have hH:H p=none:=by
   obtain⟨⟨ψ,rfl,hψ⟩,_,_⟩:=f
   refine hψ p ?_
   have q:=gxD hp
   rcases List.mem_append.mp q with q | q
   ·exact absurd q hpn
   ·exact q
  have M1:MSis (φ'.take μ.length) H' (μ'.take μ.length):=M0
  rw[eφ]at M1
  have f1:Fr φ H (φ++[p]) H':=⟨⟨[p],rfl,fun c hc=>by rw[List.mem_singleton.mp hc];exact hH⟩,f.keep,f.dom⟩
  have len:(μ'.take μ.length).length=μ.length:=by rw[<- M1.len,M.len]
  have pin:p∈φ':=gxD hp
  have hdv:DAll (φ++[p]) H' ds vs:=by
   have q:=DAll.addP' pin hd ha
   rwa [eφ]at q
  have M2:MSis (φ++[p]) H' (μ'.take μ.length++[.lst ds]):=by
   refine⟨?_,by rw[gxE,gxE,M1.len];rfl,fun k m ek=>?_⟩
   ·rw[bI]
    exact⟨M.nd,by simp,fun a ha b hb=>by rw[List.mem_singleton.mp hb];intro z;exact hpn (by rw[<- z];exact ha)⟩
   ·by_cases hk:k<μ.length
    ·rw[gxF (by rw[len];exact hk)]at ek
     rw[bw hk]at ek
     obtain⟨q,e1,e2⟩:=M'.at_ k m ek
     have e1':φ[k]?=some q:=by rw[<- eφ,bw hk];exact e1
     refine⟨q,by rw[gxF (by rw[M.len];exact hk)];exact e1',?_⟩
     have hb:=hm k m hk ek
     cases m with
     | box =>
      obtain⟨b,ns,i,r,z,h1,h2,h3,h4⟩:=e2
      exact⟨b,ns,i,r,z,h1,h2,by have:=notin_addP (n:=μ.length) pin h3;rwa [eφ]at this,h4⟩
     | lst es=>obtain⟨us,h1,h2⟩:=e2;exact⟨us,h1,by have:=DAll.addP' pin hb h2;rwa [eφ]at this⟩
     | dic ks es=>obtain⟨kvs,us,h1,h2,h3,h4⟩:=e2;exact⟨kvs,us,h1,h2,h3,by have:=DAll.addP' pin hb h4;rwa [eφ]at this⟩
     | fdic o kvs es=>exact⟨e2.1,by have:=DAll.addP' pin hb e2.2;rwa [eφ]at this⟩
     | ins C ns es=>obtain⟨dx,fs,h1,h2,h3⟩:=e2;exact⟨dx,fs,h1,h2,by have:=DAll.addP' pin hb h3;rwa [eφ]at this⟩
     | dtu ks es=>obtain⟨kvs,h1,h2,h3⟩:=e2;exact⟨kvs,h1,h2,by have:=DAll.addP' pin hb h3;rwa [eφ]at this⟩
     | gx φ0 H0=>exact⟨by have:=e2.1.takeP (n:=μ.length) hb (p:=p) (e2.1.late (aB hb hj) hp);rwa [eφ]at this,e2.2⟩
     | exc c=>exact e2
    ·have hk':k=μ.length:=by
      have:=(gxB ek).1
      rw[gxE,aN,len]at this
      omega
     subst hk'
     rw[gxG (by rw[len];exact aa _),len,aQ]at ek
     cases ek
     exact⟨p,by rw[gxG (by rw[M.len];exact aa _),M.len,aQ];rfl,vs,hv,hdv⟩
  exact L _ _ _ _ H' k f1 M2 ⟨p,by rw[gxG (by rw[M.len];exact aa _),M.len,aQ];rfl,rfl⟩
 | @deep f' d d' _ e hm k=>exact L _ _ _ _ H' k f0 (M'.cutT hm) (e.is M' nin i)
 | @dic j ks ds _ hj e hd hm k =>
  obtain⟨p,hp,rfl⟩:=i
  obtain⟨p',e1,kvs,vs,hv,h1,h2,ha⟩:=M'.at_ j _ e
  rw[hp]at e1;cases e1
  exact L _ _ _ _ H' k f0 (M'.cutT hm) ⟨p,kvs,vs,rfl,nin hj hp,hv,h1,h2,ha.cutT hd⟩
 | @obj j C ns ds _ hj e hd hm k =>
  obtain⟨p,hp,rfl⟩:=i
  obtain⟨p',e1,dx,fs,h1,h2,h3⟩:=M'.at_ j _ e
  rw[hp]at e1;cases e1
  exact L _ _ _ _ H' k f0 (M'.cutT hm) ⟨p,dx,fs,_,rfl,nin hj hp,h1,h2,rfl,h3.cutT hd⟩
 | @fdc j o kvs ds _ hj e hd hm k =>
  obtain⟨p,hp,rfl⟩:=i
  obtain⟨p',e1,h1,h3⟩:=M'.at_ j _ e
  rw[hp]at e1;cases e1
  exact L _ _ _ _ H' k f0 (M'.cutT hm) ⟨p,o,kvs,_,rfl,nin hj hp,h1,rfl,rfl,h3.cutT hd⟩
 | @deepQ f' d d' _ e hm k=>exact L _ _ _ _ H' k f0 (M'.cutT hm) (e.is M' nin i)
def retN (n:Nat)(K:DK):DN:={ nx:=fun _ μ'=>Fz n K .non μ',rt:=fun d μ'=>Fz n K d μ'}
def startE (N:List Str)(ds:List D):DE:=ds.map some++List.replicate (N.length - ds.length) none
theorem DEnv.start {φ:List Addr}{H:Hp}{N:List Str}{ds:List D}{vs:List V}(h:DAll φ H ds vs):DEnv φ H (startE N ds) (start N vs):=by
 have hl:=h.len
 unfold startE L2.start
 refine⟨by simp[hl],fun i d e=>?_⟩
 by_cases hi:i<ds.length
 ·rw[gxF (by rw[gxC];exact hi),gxH]at e
  have e':ds[i]?=some d:=by
   cases q:ds[i]? with
   | none=>rw[q]at e;cases e
   | some z=>rw[q]at e;cases e;rfl
  obtain⟨v,hv,hd⟩:=h.get e'
  exact⟨v,by rw[gxF (by rw[gxC];omega),gxH,hv];rfl,hd⟩
 ·rw[gxG (by rw[gxC];omega)]at e
  have:=gxD e
  have:=cG this
  cases this
section
variable {P:Program}{w:World}{K:PySem.W.Frag}{mg:Str->Option Value}{base:Heap}
theorem Fun.okD {x qual:Str}{st:Stmt}{f:Addr}{fd:FuncData}{N ps:List Str}{k:Nat}{fs:DSp}(F:Fun K x qual st f fd)(S:FnScope N ps (defScope st))(len:∀ ds μ Kd,fs ds μ Kd->ds.length=ps.length)
 (hbody:∀(cdv:Value) (A:Around) (outer:List Env) (s:Shared) (H:Hp) (E:XK),Room k (A.deeper (envOfC qual (defScope st) s.heap.objs.size f cdv)) ->
   ∃ W,PDB (cxOf CX0 P w K mg base N qual (defScope st) f cdv A outer s H E).nox (defBody st) W/\∀ ds μ Kd,(∀(j:Nat) (m:MO),μ[j]?=some m->moB μ.length m)->mrL μ.length ds->fs ds μ Kd->W (retN μ.length Kd) (startE N ds) μ):FnOk P w K mg base CX0 (k+1) f fd ps (spD fs):=by
 refine F.ok S (fun vs H Q E h=>?_) (fun cdv A outer s H vs Q E hr h=>?_)
 ·obtain⟨φ,ds,μ,Kd,ha,M,hf,L⟩:=h
  rw[ha.len];exact len ds μ Kd hf
 ·obtain⟨φ,ds,μ,Kd,ha,M,hf,L⟩:=h
  obtain⟨W,hW,q⟩:=hbody cdv A outer s H E hr
  refine⟨_,hW,φ,startE N ds,μ,retN μ.length Kd,.start ha,M,q ds μ Kd M.bound (by rw[<- M.len];exact ha.bound) hf,⟨fun ρ' μ' φ' σ' H' k' f' A' M'=>?_,L.fz M,fun _ _ _ _ _ k' _ _ _=>k'.elim,fun _ _ _ _ _ k' _ _ _=>k'.elim⟩⟩
  exact L.fz M .non μ' φ' .non H' k' f' M' rfl
end
end L2
namespace L2
open PySem PySem.Spec PyProof.Rows
section
variable {prog:Program}{w:World}{A:Around}{E:Value->Shared->Prop}{s:Shared}
variable {c:Bool}{z TI TO i1 i2 l1 l2:Addr}{k1 k2:Nat}{xs ys:Array Value}{x y a b:Value}
theorem wpAny_alive {a:Addr}{Q:Option Obj->Shared->Prop}(h:Q (s.heap.get? a) s):wpAny (model prog w) A (loadIfAlive a) Q E s:=fun Γ p _=>by
 show Sem.wp _ Γ (.loadIfAlive a .pure) _ _ p s
 rw[Sem.wp_loadIfAlive];exact h
theorem zip_over2 {Q:Fin->Shared->Prop}(hh:A.handled=none)(D:ZipApart z TI TO i1 i2 l1 l2)(S:ZS c z TI TO i1 i2 l1 l2 .none a b k1 k2 xs ys s.heap)(hx:xs[k1]?=some x)(hy:ys[k2]?=none)
 (hE:∀ h' e,ZK z TO i1 i2 s.heap h'->(∃ o,h'.get? e=some o/\o.cls=.type "StopIteration")->E (.ref e) { s with heap:=h'}) :
 wpAny (model prog w) A (Builtin.«zip.__next__» ⟨[.ref z],[]⟩) Q E s:=by
 refine gxM (ae (gxM (aG S.z rfl (x:=.bool false) rfl (gxM (aG S.z rfl (x:=.ref TI) rfl (gxM (bo S.ti rfl ?_)))))))
 refine gxM (m:=Builtin.SmallTypes.ownedTupleIsFree (.ref z)) (gxM (aG S.z rfl (x:=.none) rfl (ae ?_)))
 refine gxM (wpAny_rule (gxM (aG S.z rfl (x:=.ref TO) rfl (gxM (bJ S.z (by simp) fun g1 e1 t1=>?_)))))
 have S1:=S.mz D (f':=.ellipsis) e1 t1.extBut
 refine gxM ?_
 rw[show(#[Value.ref i1,Value.ref i2]:Array Value).toList.zipIdx=[(.ref i1,0),(.ref i2,1)]from rfl,bC]
 refine gxM (gxM (wpAny_onRaise (gxM (nextG_item S1.n1 S1.q1 hx fun g2 e2 t2=>ae ?_))))
 have S2:=S1.m1 D e2 t2.extBut
 refine gxM (bo S2.to rfl (gxM (wpAny_updateSeq_pair S2.to fun g3 e3 t3=>gxM (wpAny_letGo (ae ?_)))))
 have S3:=S2.mo D (x:=x) (y:=b) e3 t3.extBut
 dsimp only
 rw[bC]
 refine gxM (gxM (wpAny_onRaise (gxM (nextG_end hh S3.n2 S3.q2 hy fun g4 e t4 he=>?_))))
 obtain⟨oe,hoe,hce⟩:=he
 have hz2:IsZip g4 z TI TO .ellipsis:=t4 _ _ D.i2z.symm S3.z
 have hez:e≠z:=fun q=>by subst q;rw[hz2]at hoe;cases hoe;simp at hce
 exact bJ hz2 (by simp) fun g5 _ t5=>hE g5 e ((((((zk_z t1.extBut).trans (zk_1 t2.extBut)).trans (zk_o t3.extBut)).trans (zk_2 t4))).trans (zk_z t5.extBut)) ⟨oe,t5.extBut _ _ hez hoe,hce⟩
theorem zip_end2 {Q:Option Value->Shared->Prop}(hh:A.handled=none)(D:ZipApart z TI TO i1 i2 l1 l2)(S:ZS c z TI TO i1 i2 l1 l2 .none a b k1 k2 xs ys s.heap)(hx:xs[k1]?=none\/ys[k2]?=none)
 (hQ:∀ h',ZK z TO i1 i2 s.heap h'->Q none { s with heap:=h'}):wpAny (model prog w) A (pyNext (.ref z)) Q E s:=by
 cases e1:xs[k1]? with
 | none=>exact zip_end hh D S e1 hQ
 | some x =>
  have hy:ys[k2]?=none:=by
   rcases hx with q | q
   ·rw[e1]at q;cases q
   ·exact q
  have ty:s.TypeIs (.ref z) "zip":=⟨_,S.z,rfl⟩
  unfold pyNext
  refine gxM (b9 (aW (name:=Str.ofString "__next__") ty bD (bt bD ty cC (zip_over2 hh D S e1 hy fun h' e hk he=>?_) (cy _))))
  obtain⟨o,ho,hc⟩:=he
  exact gxM (wpAny_isInstance (T := "StopIteration") (b:=true) ⟨o,ho,hc⟩ isSubtype_stop (ae (hQ _ hk)))
def IsZipB (h:Heap)(z TI TO:Addr)(T0:Addr)(bb:Bool):Prop:=h.get? z=some { cls:=.type "zip",data:=.fields #[rawInt T0,.bool bb,.bool false,.ref TI,.ref TO]}
structure ZB (c:Bool)(z TI TO i1 i2 l1 l2 T0:Addr)(k1 k2:Nat)(xs ys:Array Value)(h:Heap):Prop where
 az:T0≠z/\T0≠i1/\T0≠i2
 z:∃ bb,IsZipB h z TI TO T0 bb
 ti:IsPair h TI (.ref i1) (.ref i2)
 n1:ItOf c h i1 l1 k1
 n2:ItOf c h i2 l2 k2
 q1:SqOf c h l1 xs
 q2:SqOf c h l2 ys
 al:∃ o,h.get? T0=some o
 to:∃ o,h.get? TO=some o
theorem zb_turn {Q:Value->Shared->Prop}{T0:Addr}(D:ZipApart z TI TO i1 i2 l1 l2)(S:ZB c z TI TO i1 i2 l1 l2 T0 k1 k2 xs ys s.heap)(hx:xs[k1]?=some x)(hy:ys[k2]?=some y)
 (hQ:∀ h',ZB c z TI TO i1 i2 l1 l2 T0 (k1+1) (k2+1) xs ys h'->IsPair h' s.heap.objs.size x y->ZK z TO i1 i2 s.heap h'->Q (.ref s.heap.objs.size) { s with heap:=h'}) :
 wpAny (model prog w) A (Builtin.«zip.__next__» ⟨[.ref z],[]⟩) (fun fin s'=>∃ v,fin=.done (.ret v)/\Q v s') E s:=by
 obtain⟨bb,hz⟩:=S.z
 obtain⟨oT,hT0⟩:=S.al
 refine gxM (ae (gxM (aG hz rfl (x:=.bool false) rfl (gxM (aG hz rfl (x:=.ref TI) rfl (gxM (bo S.ti rfl ?_)))))))
 refine gxM (m:=Builtin.SmallTypes.ownedTupleIsFree (.ref z)) (gxM (aG hz rfl (x:=rawInt T0) rfl ?_))
 show wpAny _ _ (loadIfAlive T0 >>= _) _ _ s
 refine gxM (wpAny_alive ?_)
 rw[hT0]
 show wpAny _ _ (field (.ref z) 1 >>= _) _ _ s
 refine gxM (aG hz rfl (x:=.bool bb) rfl ?_)
 have go:∃ g1:Heap,IsZipB g1 z TI TO T0 true/\Heap.SameBut z s.heap g1/\∀(Q':Bool->Shared->Prop),Q' false { s with heap:=g1}->wpAny (model prog w) A (if(Value.bool bb != Value.bool true)=true then(setField (Value.ref z) 1 (Value.bool true) >>= fun _=>pure false)else pure false) Q' E s:=by
  cases bb with
  | true=>exact⟨s.heap,hz,⟨rfl,fun _ _=>rfl⟩,fun Q' q=>ae q⟩
  | false=>exact⟨s.heap.update z (Obj.mapFields (·.setIfInBounds 1 (.bool true))),aY _ hz rfl,cE ..,fun Q' q=>gxM (bT hz rfl (by simp) (ae q))⟩
 obtain⟨g1,z1,t1,run⟩:=go
 refine run _ ?_
 have n1:=S.n1.extBut t1.extBut D.i1z
 have n2:=S.n2.extBut t1.extBut D.i2z
 have q1:=S.q1.extBut t1.extBut D.l1z
 have q2:=S.q2.extBut t1.extBut D.l2z
 show wpAny _ _ (forIn (#[Value.ref i1,Value.ref i2]:Array Value) (none,#[]) _ >>= _) _ _ _
 rw[<- Array.forIn_toList]
 refine gxM ?_
 rw[show(#[Value.ref i1,Value.ref i2]:Array Value).toList=[.ref i1,.ref i2]from rfl,bC]
 refine gxM (gxM (ba (gxM (nextG_item (s:={ s with heap:=g1}) n1 q1 hx fun g2 e2 t2=>ae (ae ?_)))))
 dsimp only
 rw[bC]
 have n2':=n2.extBut t2.extBut D.i12.symm
 have q2':=q2.extBut t2.extBut D.l2i1
 refine gxM (gxM (ba (gxM (nextG_item (s:={ s with heap:=g2}) n2' q2' hy fun g3 e3 t3=>ae (ae ?_)))))
 dsimp only
 rw[List.forIn_nil]
 refine ae (gxM (wpAny_newTuple (ae ⟨_,rfl,?_⟩) (by show 2<=sizeLine;decide)))
 have sz:g3.objs.size=s.heap.objs.size:=t3.1.trans (t2.1.trans t1.1)
 show Q (.ref g3.objs.size) _
 have kk:ZK z TO i1 i2 s.heap (g3.push { cls:=.type "tuple",data:=.seq #[x,y]}):=(((zk_z t1.extBut).trans (zk_1 t2.extBut)).trans (zk_2 t3.extBut)).trans fun d o _ _ _ _ e=>gxL _ e
 have hT:IsPair (g3.push { cls:=.type "tuple",data:=.seq #[x,y]}) g3.objs.size x y:=ak _ rfl
 rw[sz]at hT ⊢
 have pu:∀ {d:Addr} {o:Obj},g3.get? d=some o->(g3.push { cls:=.type "tuple",data:=.seq #[x,y]}).get? d=some o:=fun e=>gxL _ e
 refine hQ _ ⟨S.az,⟨true,pu (t3.extBut _ _ D.i2z.symm (t2.extBut _ _ D.i1z.symm z1))⟩,pu (t3.extBut _ _ D.TIi2 (t2.extBut _ _ D.TIi1 (t1.extBut _ _ D.TIz S.ti))),(e2.extBut t3.extBut D.i12).at fun _ e=>pu e,e3.at fun _ e=>pu e,
  (((q1.extBut t2.extBut D.l1i1).extBut t3.extBut D.l1i2)).extBut (b:=g3.objs.size) (fun _ _ _ e=>pu e) (((q1.extBut t2.extBut D.l1i1).extBut t3.extBut D.l1i2).lt),((q2'.extBut t3.extBut D.l2i2)).extBut (b:=g3.objs.size) (fun _ _ _ e=>pu e) ((q2'.extBut t3.extBut D.l2i2).lt),⟨oT,pu (t3.extBut _ _ S.az.2.2 (t2.extBut _ _ S.az.2.1 (t1.extBut _ _ S.az.1 hT0)))⟩,(let ⟨o,e⟩:=S.to;⟨o,pu (t3.extBut _ _ D.TOi2 (t2.extBut _ _ D.TOi1 (t1.extBut _ _ D.TOz e)))⟩)⟩ hT kk
theorem zb_over {Q:Fin->Shared->Prop}{T0:Addr}(hh:A.handled=none)(D:ZipApart z TI TO i1 i2 l1 l2)(S:ZB c z TI TO i1 i2 l1 l2 T0 k1 k2 xs ys s.heap)(hx:xs[k1]?=none\/ys[k2]?=none)
 (hE:∀ h' e,ZK z TO i1 i2 s.heap h'->(∃ o,h'.get? e=some o/\o.cls=.type "StopIteration")->E (.ref e) { s with heap:=h'}) :
 wpAny (model prog w) A (Builtin.«zip.__next__» ⟨[.ref z],[]⟩) Q E s:=by
 obtain⟨bb,hz⟩:=S.z
 obtain⟨oT,hT0⟩:=S.al
 refine gxM (ae (gxM (aG hz rfl (x:=.bool false) rfl (gxM (aG hz rfl (x:=.ref TI) rfl (gxM (bo S.ti rfl ?_)))))))
 refine gxM (m:=Builtin.SmallTypes.ownedTupleIsFree (.ref z)) (gxM (aG hz rfl (x:=rawInt T0) rfl ?_))
 show wpAny _ _ (loadIfAlive T0 >>= _) _ _ s
 refine gxM (wpAny_alive ?_)
 rw[hT0]
 show wpAny _ _ (field (.ref z) 1 >>= _) _ _ s
 refine gxM (aG hz rfl (x:=.bool bb) rfl ?_)
 have go:∃ g1:Heap,IsZipB g1 z TI TO T0 true/\Heap.SameBut z s.heap g1/\∀(Q':Bool->Shared->Prop),Q' false { s with heap:=g1}->wpAny (model prog w) A (if(Value.bool bb != Value.bool true)=true then(setField (Value.ref z) 1 (Value.bool true) >>= fun _=>pure false)else pure false) Q' E s:=by
  cases bb with
  | true=>exact⟨s.heap,hz,⟨rfl,fun _ _=>rfl⟩,fun Q' q=>ae q⟩
  | false=>exact⟨s.heap.update z (Obj.mapFields (·.setIfInBounds 1 (.bool true))),aY _ hz rfl,cE ..,fun Q' q=>gxM (bT hz rfl (by simp) (ae q))⟩
 obtain⟨g1,z1,t1,run⟩:=go
 refine run _ ?_
 have n1:=S.n1.extBut t1.extBut D.i1z
 have n2:=S.n2.extBut t1.extBut D.i2z
 have q1:=S.q1.extBut t1.extBut D.l1z
 have q2:=S.q2.extBut t1.extBut D.l2z
 show wpAny _ _ (forIn (#[Value.ref i1,Value.ref i2]:Array Value) (none,#[]) _ >>= _) _ _ _
 rw[<- Array.forIn_toList]
 refine gxM ?_
 rw[show(#[Value.ref i1,Value.ref i2]:Array Value).toList=[.ref i1,.ref i2]from rfl,bC]
 cases ex:xs[k1]? with
 | none=>exact gxM (gxM (ba (gxM (nextG_end (s:={ s with heap:=g1}) hh n1 q1 ex fun g2 e t2 he=>hE g2 e ((zk_z t1.extBut).trans (zk_1 t2)) he))))
 | some x =>
  have hy:ys[k2]?=none:=by
   rcases hx with q | q
   ·rw[ex]at q;cases q
   ·exact q
  refine gxM (gxM (ba (gxM (nextG_item (s:={ s with heap:=g1}) n1 q1 ex fun g2 e2 t2=>ae (ae ?_)))))
  dsimp only
  rw[bC]
  have n2':=n2.extBut t2.extBut D.i12.symm
  have q2':=q2.extBut t2.extBut D.l2i1
  exact gxM (gxM (ba (gxM (nextG_end (s:={ s with heap:=g2}) hh n2' q2' hy fun g3 e t3 he=>hE g3 e (((zk_z t1.extBut).trans (zk_1 t2.extBut)).trans (zk_2 t3)) he))))
theorem zb_item {Q:Option Value->Shared->Prop}{T0:Addr}(D:ZipApart z TI TO i1 i2 l1 l2)(S:ZB c z TI TO i1 i2 l1 l2 T0 k1 k2 xs ys s.heap)(hx:xs[k1]?=some x)(hy:ys[k2]?=some y)
 (hQ:∀ h',ZB c z TI TO i1 i2 l1 l2 T0 (k1+1) (k2+1) xs ys h'->IsPair h' s.heap.objs.size x y->ZK z TO i1 i2 s.heap h'->Q (some (.ref s.heap.objs.size)) { s with heap:=h'}) :
 wpAny (model prog w) A (pyNext (.ref z)) Q E s:=by
 have ty:s.TypeIs (.ref z) "zip":=let ⟨_,q⟩:=S.z;⟨_,q,rfl⟩
 unfold pyNext
 exact gxM (b9 (aW (name:=Str.ofString "__next__") ty bD (bt bD ty cC (zb_turn D S hx hy fun h' a1 a2 a3=>ae (hQ h' a1 a2 a3)) (cy _))))
theorem zb_end {Q:Option Value->Shared->Prop}{T0:Addr}(hh:A.handled=none)(D:ZipApart z TI TO i1 i2 l1 l2)(S:ZB c z TI TO i1 i2 l1 l2 T0 k1 k2 xs ys s.heap)(hx:xs[k1]?=none\/ys[k2]?=none)
 (hQ:∀ h',ZK z TO i1 i2 s.heap h'->Q none { s with heap:=h'}):wpAny (model prog w) A (pyNext (.ref z)) Q E s:=by
 have ty:s.TypeIs (.ref z) "zip":=let ⟨_,q⟩:=S.z;⟨_,q,rfl⟩
 unfold pyNext
 refine gxM (b9 (aW (name:=Str.ofString "__next__") ty bD (bt bD ty cC (zb_over hh D S hx fun h' e hk he=>?_) (cy _))))
 obtain⟨o,ho,hc⟩:=he
 exact gxM (wpAny_isInstance (T := "StopIteration") (b:=true) ⟨o,ho,hc⟩ isSubtype_stop (ae (hQ _ hk)))
end
def Itz2 (c:Bool)(a1 a2:Addr):It:={ Itz c a1 a2 with stop:=fun i H=>∃ xs ys,SqC c H a1 xs/\SqC c H a2 ys/\(xs.length<=i\/ys.length<=i)}
theorem turn_zip2 {P:Program}{w:World}{K:PySem.W.Frag}{elts:List Expr}{kk:Nat}{tpos:Pos}{c:Bool}{z TI TO i1 i2 l1 l2:Addr}(D:ZipApart z TI TO i1 i2 l1 l2) :
 Turn P w K (.Tuple elts kk tpos) (Itz2 c l1 l2) [z,TI,TO,i1,i2] z (fun i h=>IsZip h z TI TO .none/\IsPair h TI (.ref i1) (.ref i2)/\(∃ a b,IsPair h TO a b)/\ItOf c h i1 l1 i/\ItOf c h i2 l2 i) where
 mem:=(turn_zip (P:=P) (w:=w) (K:=K) (elts:=elts) (kk:=kk) (tpos:=tpos) (c:=c) D).mem
 obj:=(turn_zip (P:=P) (w:=w) (K:=K) (elts:=elts) (kk:=kk) (tpos:=tpos) (c:=c) D).obj
 keep:=(turn_zip (P:=P) (w:=w) (K:=K) (elts:=elts) (kk:=kk) (tpos:=tpos) (c:=c) D).keep
 item:=(turn_zip (P:=P) (w:=w) (K:=K) (elts:=elts) (kk:=kk) (tpos:=tpos) (c:=c) D).item
 self:=(turn_zip (P:=P) (w:=w) (K:=K) (elts:=elts) (kk:=kk) (tpos:=tpos) (c:=c) D).self
 done:=by
  intro X hP hw hK hc i pins s σ H E I hf st hg
  subst hP hw hK
  obtain⟨hz,hTI,⟨a,b',hTO⟩,h1,h2⟩:=st
  obtain⟨xs,ys,q1,q2,hx⟩:=hg
  obtain⟨us,r1,p1⟩:=q1.val I
  obtain⟨ws,r2,p2⟩:=q2.val I
  have hl:=r1.length
  have hl2:=r2.length
  refine zip_end2 (I.ok.hd hc) D ⟨hz,hTI,hTO,h1,h2,p1,p2⟩ (by simp;omega) fun h' hk=>⟨rfl,?_⟩
  exact I.turnK (ch:=[z,TO,i1,i2]) (fun b hb=>hf b (by
   simp only[bg,aT,bU]at hb ⊢
   rcases hb with q | q | q | q <;> simp[q])) fun b o hb e=>hk b o (fun q=>hb (by simp[q])) (fun q=>hb (by simp[q])) (fun q=>hb (by simp[q])) (fun q=>hb (by simp[q])) e
theorem zip_no_len:typeLookup (.type "zip") "__len__"=pure none:=by rw[typeLookup_type,builtinLookup_eq_fast];kernel_rfl
theorem zip_no_hint:typeLookup (.type "zip") "__length_hint__"=pure none:=by rw[typeLookup_type,builtinLookup_eq_fast];kernel_rfl
def ZAt (z TI TO i1 i2 l1 l2:Addr)(i:Nat)(xs ys:Array Value)(h:Heap):Prop :=
 (i=0/\∃ a b,ZS false z TI TO i1 i2 l1 l2 .none a b 0 0 xs ys h)\/∃ T0,ZB false z TI TO i1 i2 l1 l2 T0 i i xs ys h
theorem ZAt.next {P:Program}{w:World}{A:Around}{s:Shared}{E:Value->Shared->Prop}{z TI TO i1 i2 l1 l2:Addr}{i:Nat}{xs ys:Array Value}{x y:Value}{Q:Option Value->Shared->Prop}(Z:ZAt z TI TO i1 i2 l1 l2 i xs ys s.heap)(D:ZipApart z TI TO i1 i2 l1 l2)(hx:xs[i]?=some x)(hy:ys[i]?=some y)
 (hQ:∀ h',ZAt z TI TO i1 i2 l1 l2 (i+1) xs ys h'->IsPair h' s.heap.objs.size x y->ZK z TO i1 i2 s.heap h'->Q (some (.ref s.heap.objs.size)) { s with heap:=h'}):wpAny (model P w) A (pyNext (.ref z)) Q E s:=by
 rcases Z with⟨rfl,a,b,S⟩ | ⟨T0,S⟩
 ·refine zip_item D S hx hy fun h' S' hT kk=>hQ h' (.inr ⟨s.heap.objs.size,⟨?_,?_,?_⟩,⟨false,S'.z⟩,S'.ti,S'.n1,S'.n2,S'.q1,S'.q2,⟨_,hT⟩,⟨_,S'.to⟩⟩) hT kk
  ·exact aR (gxN S.z)
  ·obtain⟨o,e⟩:=S.n1.ex;exact aR (gxN e)
  ·obtain⟨o,e⟩:=S.n2.ex;exact aR (gxN e)
 ·exact zb_item D S hx hy fun h' S' hT kk=>hQ h' (.inr ⟨T0,S'⟩) hT kk
theorem ZAt.over {P:Program}{w:World}{A:Around}{s:Shared}{E:Value->Shared->Prop}{z TI TO i1 i2 l1 l2:Addr}{i:Nat}{xs ys:Array Value}{Q:Option Value->Shared->Prop}(hh:A.handled=none)(Z:ZAt z TI TO i1 i2 l1 l2 i xs ys s.heap)(D:ZipApart z TI TO i1 i2 l1 l2)(hx:xs[i]?=none\/ys[i]?=none)
 (hQ:∀ h',ZK z TO i1 i2 s.heap h'->Q none { s with heap:=h'}):wpAny (model P w) A (pyNext (.ref z)) Q E s:=by
 rcases Z with⟨rfl,a,b,S⟩ | ⟨T0,S⟩
 ·exact zip_end2 hh D S hx hQ
 ·exact zb_end hh D S hx hQ
theorem ZAt.but {z TI TO i1 i2 l1 l2 S:Addr}{i:Nat}{xs ys:Array Value}{h h':Heap}(Z:ZAt z TI TO i1 i2 l1 l2 i xs ys h)(e:Heap.ExtBut S h h')(n:S∉[z,TI,TO,i1,i2,l1,l2])(nT:∀ o,h.get? S=some o->o.cls=.type "list")(nT':∃ o,h'.get? S=some o):ZAt z TI TO i1 i2 l1 l2 i xs ys h':=by
 simp only[bg,aT,bU,not_or]at n
 obtain⟨n1,n2,n3,n4,n5,n6,n7⟩:=n
 rcases Z with⟨rfl,a,b,Sz⟩ | ⟨T0,Sz⟩
 ·exact .inl ⟨rfl,a,b,e _ _ (aO n1) Sz.z,e _ _ (aO n2) Sz.ti,e _ _ (aO n3) Sz.to,Sz.n1.extBut e (aO n4),Sz.n2.extBut e (aO n5),Sz.q1.extBut e (aO n6),Sz.q2.extBut e (aO n7)⟩
 ·obtain⟨bb,hz⟩:=Sz.z
  refine .inr ⟨T0,Sz.az,⟨bb,e _ _ (aO n1) hz⟩,e _ _ (aO n2) Sz.ti,Sz.n1.extBut e (aO n4),Sz.n2.extBut e (aO n5),Sz.q1.extBut e (aO n6),Sz.q2.extBut e (aO n7),?_,(let ⟨o,q⟩:=Sz.to;⟨o,e _ _ (aO n3) q⟩)⟩
  obtain⟨o,ho⟩:=Sz.al
  by_cases hT:T0=S
  ·subst hT;exact nT'
  ·exact⟨o,e _ _ hT ho⟩
section
variable {X:Cx}{pins:List (Addr×Obj)}{σ:St}
def PrsAt (H:Hp)(xs ys:List V)(us:List V):Prop:=∀(i:Nat) (u:V),us[i]?=some u->∃ T x y,u=V.ref T/\H T=some (.tup [x,y])/\xs[i]?=some x/\ys[i]?=some y
theorem PrsAt.same {H H':Hp}{xs ys us:List V}(h:PrsAt H xs ys us)(s:Same H H'):PrsAt H' xs ys us:=fun i u e=>let ⟨T,x,y,a,b,c⟩:=h i u e;⟨T,x,y,a,s _ _ b,c⟩
theorem zip_fill {A:Around}{R:Result->Shared->Prop}{z TI TO i1 i2 l1 l2 S:Addr}{H0:Hp}{xs ys:List V}{xv yv:List Value}{res:Value}(hh:A.handled=none)(D:ZipApart z TI TO i1 i2 l1 l2)(rx:Vals xs xv)(ry:Vals ys yv)(hz1:xs.length<=sizeLine)
 (nS:S∉[z,TI,TO,i1,i2,l1,l2])
 (hR:∀ s' H' us its c,Inv X pins σ H' s'->Same H0 H'->H' S=none->s'.heap.get? S=some (lobj its c)->Vals us its->us.length=min xs.length ys.length->PrsAt H' xs ys us->R (.ok (.ret res)) s') :
 ∀(k i:Nat) (s:Shared) (H:Hp) (us:List V) (its:List Value) (c:Nat),min xs.length ys.length - i=k->i<=min xs.length ys.length->us.length=i->Inv X pins σ H s->Same H0 H->(∀ b∈[z,TO,i1,i2,S],FpOk X pins H b)->s.heap.get? S=some (lobj its c)->Vals us its->PrsAt H xs ys us ->
  ZAt z TI TO i1 i2 l1 l2 i xv.toArray yv.toArray s.heap->codeAny (model X.prog X.w) A (.builtin "list.extend.loop" ⟨[.ref S,.ref z,res],[]⟩) R s:=by
 have lx:=rx.length
 have ly:=ry.length
 have nS':S≠z/\S≠TO/\S≠i1/\S≠i2:=by
  simp only[bg,aT,bU,not_or]at nS
  exact⟨nS.1,nS.2.2.1,nS.2.2.2.1,nS.2.2.2.2.1⟩
 have zk:∀ {h h':Heap},ZK z TO i1 i2 h h'->∀ b o,b∉[z,TO,i1,i2]->h.get? b=some o->h'.get? b=some o:=fun kk b o hb e=>kk b o (fun q=>hb (by simp[q])) (fun q=>hb (by simp[q])) (fun q=>hb (by simp[q])) (fun q=>hb (by simp[q])) e
 have sub:∀ b∈[z,TO,i1,i2],b∈[z,TO,i1,i2,S]:=fun b hb=>by
  simp only[bg,aT,bU]at hb ⊢
  rcases hb with q | q | q | q <;> simp[q]
 have SnI:S∉[z,TO,i1,i2]:=by
  simp only[bg,aT,bU,not_or]
  exact⟨nS'.1,nS'.2.1,nS'.2.2.1,nS'.2.2.2⟩
 intro k
 induction k with
 | zero =>
  intro i s H us its c hk hi hu I hS fp gS rv pr Z
  have ei:i=min xs.length ys.length:=by omega
  refine codeAny_builtin F.entry_extend_loop ?_
  rw[Around.under_plainId cF _]
  show wpAny _ A.in1 (pyNext (.ref z) >>= _) _ _ s
  refine gxM (Z.over (A:=A.in1) hh D (by simp;omega) fun h' kk=>?_)
  have I':=I.turnK (ch:=[z,TO,i1,i2]) (fun b hb=>fp b (sub b hb)) (zk kk)
  exact ae (hR _ H us its c I' hS (fp S (by simp)).1 (zk kk _ _ SnI gS) rv (hu.trans ei) pr)
 | succ k ih =>
  intro i s H us its c hk hi hu I hS fp gS rv pr Z
  have hlt:i<min xs.length ys.length:=by omega
  obtain⟨x,ex⟩:∃ x,xs[i]?=some x:=⟨xs[i]'(by omega),gxA _⟩
  obtain⟨y,ey⟩:∃ y,ys[i]?=some y:=⟨ys[i]'(by omega),gxA _⟩
  obtain⟨u,eu,ru⟩:=rx.get ex
  obtain⟨v,ev,rv'⟩:=ry.get ey
  have lu:=rv.length
  refine codeAny_builtin F.entry_extend_loop ?_
  rw[Around.under_plainId cF _]
  show wpAny _ A.in1 (pyNext (.ref z) >>= _) _ _ s
  refine gxM (Z.next (A:=A.in1) D (by simpa using eu) (by simpa using ev) fun h' Z' hT kk=>?_)
  have I':=I.turnT (ch:=[z,TO,i1,i2]) (fun b hb=>fp b (sub b hb)) (zk kk) hT ru rv'
  have hn:H s.heap.objs.size=none:=I.hok.fresh (aa _)
  have S1:Same H (upd H s.heap.objs.size (.tup [x,y])):=Same.upd hn
  have neT:∀ b∈[z,TO,i1,i2,S],b≠s.heap.objs.size:=fun b hb q=>by
   have nl:S<s.heap.objs.size:=gxN gS
   have nz:z<s.heap.objs.size:=by
    rcases Z with⟨_,a,b,Sz⟩ | ⟨T0,Sz⟩
    ·exact gxN Sz.z
    ·obtain⟨_,hz⟩:=Sz.z;exact gxN hz
   have n1:i1<s.heap.objs.size:=by
    rcases Z with⟨_,a,b,Sz⟩ | ⟨T0,Sz⟩
    ·obtain⟨o,e⟩:=Sz.n1.ex;exact gxN e
    ·obtain⟨o,e⟩:=Sz.n1.ex;exact gxN e
   have n2:i2<s.heap.objs.size:=by
    rcases Z with⟨_,a,b,Sz⟩ | ⟨T0,Sz⟩
    ·obtain⟨o,e⟩:=Sz.n2.ex;exact gxN e
    ·obtain⟨o,e⟩:=Sz.n2.ex;exact gxN e
   have n3:TO<s.heap.objs.size:=by
    rcases Z with⟨_,a,b,Sz⟩ | ⟨T0,Sz⟩
    ·exact gxN Sz.to
    ·obtain⟨o,e⟩:=Sz.to;exact gxN e
   simp only[bg,aT,bU]at hb
   rcases hb with e | e | e | e | e
   ·exact ao nz (e.symm.trans q)
   ·exact ao n3 (e.symm.trans q)
   ·exact ao n1 (e.symm.trans q)
   ·exact ao n2 (e.symm.trans q)
   ·exact ao nl (e.symm.trans q)
  have gS':=zk kk _ _ SnI gS
  have fp':∀ b∈[z,TO,i1,i2,S],FpOk X pins (upd H s.heap.objs.size (.tup [x,y])) b:=fun b hb=>⟨by rw[upd_ne (neT b hb)];exact(fp b hb).1,(fp b hb).2⟩
  show wpAny _ A.in1 (updateSeq S (·.push (Value.ref s.heap.objs.size)) >>= _) _ _ _
  refine gxM (cJ gS' rfl (ae ⟨plainId_quiet cF _,?_⟩) (by rw[ag];omega) (by show(its.toArray.push _).size<=sizeLine+1;rw[Array.size_push,ag];omega))
  have but:Heap.ExtBut S h' (h'.update S (Obj.mapSeq (·.push (Value.ref s.heap.objs.size)))):=fun b o hb e=>(aL _ _ (aO hb)).trans e
  have gS2:=aY (Obj.mapSeq (·.push (Value.ref s.heap.objs.size))) gS' rfl
  have I2:=I'.turnK (ch:=[S]) (h'':=h'.update S (Obj.mapSeq (·.push (Value.ref s.heap.objs.size)))) (fun b hb=>by rw[List.mem_singleton.mp hb];exact fp' S (by simp)) fun b o hb e=>but b o (fun q=>hb (by simp[q])) e
  have e2:its.toArray.push (Value.ref s.heap.objs.size)=(its++[Value.ref s.heap.objs.size]).toArray:=by simp
  obtain⟨c',gS3⟩:∃ c',(h'.update S (Obj.mapSeq (·.push (Value.ref s.heap.objs.size)))).get? S=some (lobj (its++[Value.ref s.heap.objs.size]) c'):=by
   have q:=PySem.IsL.update gS' (·.push (Value.ref s.heap.objs.size))
   rw[e2]at q
   exact⟨_,q⟩
  refine ih (i+1) _ _ (us++[.ref s.heap.objs.size]) _ c' (by omega) hlt (by rw[gxE,aN,hu]) I2 (hS.trans S1) fp' gS3 (rv.append (.cons (show RelV (V.ref s.heap.objs.size) _ from rfl) .nil)) ?_ (Z'.but but nS (fun o e=>?_) ⟨_,gS3⟩)
  ·intro j u' ej
   by_cases hj:j<us.length
   ·rw[gxF hj]at ej
    exact pr.same S1 j u' ej
   ·rw[gxG (by omega)]at ej
    have hj0:j - us.length=0:=by
     have:=(gxB ej).1
     rw[aN]at this;omega
    rw[hj0]at ej
    cases ej
    have:j=i:=by omega
    subst this
    exact⟨_,x,y,rfl,upd_same,ex,ey⟩
  ·rw[gS']at e;cases e;rfl
theorem list_zip {H:Hp}{s:Shared}{a b:Addr}{xs ys:List V}{Q:VK}(I:Inv X pins σ H s)(calm:X.calm=true)(ha:H a=some (.lst xs))(hb:H b=some (.lst ys))
 (hQ:∀ l us H',H l=none->Same H H'->H' l=some (.lst us)->us.length=min xs.length ys.length->PrsAt H' xs ys us->Q (.ref l) H') :
 wpAny (model X.prog X.w) X.A (call (.type "zip") [.ref a,.ref b]) (fun v s1=>wpAny (model X.prog X.w) X.A (call (.type "list") [v]) (EP X pins σ Q) X.xe s1) X.xe s:=by
 obtain⟨z1,xv,n1,rx,lx,ea⟩:=I.lstM ha
 obtain⟨z2,yv,n2,ry,ly,eb⟩:=I.lstM hb
 have p1:SqOf false s.heap a xv.toArray:=⟨_,ea,rfl,n1,rfl⟩
 have p2:SqOf false s.heap b yv.toArray:=⟨_,eb,rfl,n2,rfl⟩
 have la:(a:Nat)<s.heap.objs.size:=gxN ea
 have lb:(b:Nat)<s.heap.objs.size:=gxN eb
 refine zip_made p1 p2 fun h' hz hTI hTO i1 i2 kp=>?_
 have I1:Inv X pins σ H { s with heap:=h'}:=I.kept (t':=s.toks) kp
 have D:ZipApart (s.heap.objs.size+4) (s.heap.objs.size+2) (s.heap.objs.size+3) s.heap.objs.size (s.heap.objs.size+1) a b:=zipApart_new la lb
 refine callType_codes (Q₁:=fun obj s₁=>obj=.ref h'.objs.size/\s₁={ s with heap:=h'.push { cls:=.type "list",data:=.seq #[]}}) F.called_list (F.typeCall_list_1 _) F.entry_list_init (code_list_new _ ⟨rfl,rfl⟩) fun obj s₁ h₁=>?_
 obtain⟨rfl,rfl⟩:=h₁
 have hS:(h'.push { cls:=.type "list",data:=.seq #[]}).get? h'.objs.size=some (lobj [] 0):=ak _ rfl
 refine⟨⟨_,hS,rfl⟩,F.args_list_init_2 _ _,?_⟩
 have I2:Inv X pins σ H { s with heap:=h'.push { cls:=.type "list",data:=.seq #[]}}:=I1.kept (t':=s.toks) fun _ _ e=>gxL _ e
 have sz:s.heap.objs.size+4<h'.objs.size:=gxN hz
 have fpn:∀ c,s.heap.objs.size<=c->FpOk X pins H c:=fun c hc=>I.fpOk hc (I.hok.fresh hc)
 show wpAny _ X.A.in1.in1 (do let old <- Builtin.List.listItems (.ref h'.objs.size);Builtin.List.listUpdate (.ref h'.objs.size) (fun _=>#[]);letGo old.toList.reverse;Builtin.List.listExtendWith (.ref h'.objs.size) (.ref (s.heap.objs.size+4)) .none) _ _ _
 refine gxM ?_
 unfold Builtin.List.listItems
 refine gxM (bo hS rfl (ae ?_))
 show wpAny _ X.A.in1.in1 (updateSeq h'.objs.size (fun _=>#[]) >>= fun _=>letGo (#[]:Array Value).toList.reverse >>= fun _=>Builtin.List.listExtendWith (.ref h'.objs.size) (.ref (s.heap.objs.size+4)) .none) _ _ _
 refine gxM (cJ hS rfl ?_)
 refine gxM (wpAny_letGo ?_)
 have fill:∀(g:Heap) (tk c:Nat),(∀ d o,d≠h'.objs.size->(h'.push { cls:=.type "list",data:=.seq #[]}).get? d=some o->g.get? d=some o)->g.get? h'.objs.size=some (lobj [] c) ->
  codeAny (model X.prog X.w) X.A.in1 (.builtin "list.extend.loop" ⟨[.ref h'.objs.size,.ref (s.heap.objs.size+4),.none],[]⟩) (wants (fun r s₂=>r=.none/\EP X pins σ Q (.ref h'.objs.size) s₂) X.xe) { s with heap:=g,toks:=tk}:=fun g tk c kg gS=>by
  have kg':∀ d o,h'.get? d=some o->g.get? d=some o:=fun d o e=>kg d o (ao (gxN e)) (gxL _ e)
  have I3:Inv X pins σ H { s with heap:=g,toks:=tk}:=I1.kept (t':=tk) kg'
  have nS:h'.objs.size∉[s.heap.objs.size+4,s.heap.objs.size+2,s.heap.objs.size+3,s.heap.objs.size,s.heap.objs.size+1,a,b]:=by
   simp only[bg,aT,bU,not_or]
   have sz':(s.heap.objs.size:Nat)+4<h'.objs.size:=sz
   refine⟨?_,?_,?_,?_,?_,aR (cY la (by omega)),aR (cY lb (by omega))⟩<;> (intro q;omega)
  refine zip_fill (A:=X.A.in1) (I.ok.hd calm) D rx ry z1 nS (H0:=H) ?_ _ 0 _ H [] [] c rfl (aV _) rfl I3 (Same.refl _) ?_ gS .nil (fun i u e=>by simp at e) (.inl ⟨rfl,.none,.none,kg' _ _ hz,kg' _ _ hTI,kg' _ _ hTO,i1.at fun _ e=>kg' _ _ e,i2.at fun _ e=>kg' _ _ e,⟨_,kg' _ _ (kp _ _ ea),rfl,n1,rfl⟩,⟨_,kg' _ _ (kp _ _ eb),rfl,n2,rfl⟩⟩)
  ·intro s' H' us its c' I' S' nS' gS' rv lu pr
   refine⟨rfl,?_⟩
   have hfp:=fpn h'.objs.size (by omega)
   have I4:=I'.adopt (ys:=us) nS' hfp.2.1 (by have:=I.sz;omega) hfp.2.2.2.2.1 hfp.2.2.2.2.2 gS' rv (by omega)
   exact⟨.ref h'.objs.size,_,I4,rfl,hQ _ us _ (I.hok.fresh (by omega)) (S'.trans (Same.upd nS')) upd_same lu (pr.same (Same.upd nS'))⟩
  ·intro d hd
   simp only[bg,aT,bU]at hd
   refine fpn d ?_
   rcases hd with e | e | e | e | e <;> subst e <;> omega
 have hS₂:=aY (Obj.mapSeq (fun _=>(#[]:Array Value))) hS rfl
 have oth:∀(d:Addr) (o:Obj),d≠h'.objs.size->(h'.push { cls:=.type "list",data:=.seq #[]}).get? d=some o->((h'.push { cls:=.type "list",data:=.seq #[]}).update h'.objs.size (Obj.mapSeq (fun _=>(#[]:Array Value)))).get? d=some o :=
  fun d o hd e=>(aL _ _ (aO hd)).trans e
 have hz2:=oth _ _ (ao sz) (gxL { cls:=.type "list",data:=.seq #[]} hz)
 have tyz:Shared.TypeIs { s with heap:=(h'.push { cls:=.type "list",data:=.seq #[]}).update h'.objs.size (Obj.mapSeq (fun _=>(#[]:Array Value)))} (.ref (s.heap.objs.size+4)) "zip":=⟨_,hz2,rfl⟩
 unfold Builtin.List.listExtendWith
 refine gxM (wpAny_typeOf tyz ?_)
 have e1:Builtin.List.listSameRef (.ref h'.objs.size) (.ref (s.heap.objs.size+4))=false:=by
  simp only[Builtin.List.listSameRef]
  exact cu (aR sz)
 have e2:(Value.type "zip"==Value.type "list")=false:=by decide
 have e3:(Value.type "zip"==Value.type "tuple")=false:=by decide
 simp only[e1,e2,e3,Bool.or_false,cq,if_false]
 refine gxM (wpAny_pyIter_zip hz2 ?_)
 refine gxM (ba ?_)
 unfold Builtin.List.listLengthHint
 refine gxM (wpAny_specialOf tyz zip_no_len ?_)
 show wpAny _ _ (specialOf (Value.ref (s.heap.objs.size+4)) (Str.ofString "__length_hint__") >>= _) _ _ _
 refine gxM (wpAny_specialOf tyz zip_no_hint ?_)
 refine ae ?_
 show wpAny _ _ (rule "list.extend.makes-room" >>= fun _=>Builtin.List.listTouch (.ref h'.objs.size) >>= fun _ =>
  again (.builtin "list.extend.loop" ⟨[.ref h'.objs.size,.ref (s.heap.objs.size+4),.none],[]⟩)) _ _ _
 refine gxM (wpAny_rule ?_)
 refine gxM ?_
 show wpAny _ _ (updateSeq h'.objs.size (·.push .none) >>= fun _=>updateSeq h'.objs.size (·.pop)) _ _ _
 refine gxM (cJ hS₂ rfl ?_)
 have hS₃:=aY (Obj.mapSeq (·.push Value.none)) hS₂ rfl
 refine cJ (hz:=by seq_fits) hS₃ rfl ?_
 have hS₄:=aY (Obj.mapSeq (·.pop)) hS₃ rfl
 refine ae ⟨plainId_quiet cF _,fill _ s.toks _ (fun d o hd e=>?_) hS₄⟩
 exact(aL _ _ (aO hd)).trans ((aL _ _ (aO hd)).trans (oth d o hd e))
end
def Ite (l:Addr):It :=
 ⟨fun i H=>∃ xs x,H l=some (.lst xs)/\xs[i]?=some x,
  fun i H v H'=>∃ T x,v=.ref T/\H T=none/\H'=upd H T (.tup [.int i,x])/\∀ xs,H l=some (.lst xs)->xs[i]?=some x,
  fun i H=>∃ xs,H l=some (.lst xs)/\i=xs.length⟩
section
variable {X:Cx}{a b e:Expr}{es:List Expr}{pos:Pos}
def iEnumL (ta:TA):TI:=fun σ H R=>ta σ H fun vs H1=>match vs with
 | [.ref l]=>∃ xs,H1 l=some (.lst xs)/\R (Ite l) H1
 | _=>False
def dItZ (w:DA):DI:=fun ρ μ K=>w ρ μ fun ds μ1=>match ds with
 | [x,y]=>opt (lv μ1 x) fun xs=>opt (lv μ1 y) fun ys=>K (List.zipWith (fun a b=>D.tup [a,b]) xs ys) (fun μ'=>lc x xs μ'/\lc y ys μ') μ1
 | _=>False
def dLZ (m:Bool)(w:DA):De:=fun ρ μ K=>w ρ μ fun ds μ1=>match ds with
 | [x,y]=>opt (lv μ1 x) fun xs=>opt (lv μ1 y) fun ys=>nL m (List.zipWith (fun a b=>D.tup [a,b]) xs ys) μ1 K
 | _=>False
theorem prs_all {φ:List Addr}{H:Hp}{xs ys:List D}{vx vy us:List V}(ax:DAll φ H xs vx)(ay:DAll φ H ys vy)(hu:us.length=min vx.length vy.length)(nφ:∀(T:Addr) (zs:List V),H T=some (.tup zs)->T∉φ)(h:PrsAt H vx vy us):DAll φ H (List.zipWith (fun a b=>D.tup [a,b]) xs ys) us:=by
 have key:∀(ds:List D) (us:List V),ds.length=us.length->(∀(i:Nat) (d:D) (u:V),ds[i]?=some d->us[i]?=some u->DIs φ H d u)->DAll φ H ds us:=by
  intro ds
  induction ds with
  | nil=>intro us hl _;cases us with
   | nil=>rfl
   | cons _ _=>simp at hl
  | cons d ds ih =>
   intro us hl hh
   cases us with
   | nil=>simp at hl
   | cons u us=>exact⟨u,us,rfl,hh 0 d u rfl rfl,ih us (by simpa using hl) fun i d' u' e1 e2=>hh (i+1) d' u' (by simpa using e1) (by simpa using e2)⟩
 refine key _ _ (by rw[List.length_zipWith,hu,ax.len,ay.len]) fun i d u e1 e2=>?_
 obtain⟨T,x,y,rfl,hT,hx,hy⟩:=h i u e2
 obtain⟨dx,ex,ix⟩:=ax.getV hx
 obtain⟨dy,ey,iy⟩:=ay.getV hy
 rw[List.getElem?_zipWith,ex,ey]at e1
 cases e1
 exact⟨T,_,rfl,nφ T _ hT,hT,x,_,rfl,ix,y,_,rfl,iy,rfl⟩
theorem d_listZip (m:Bool){w:DA}{p p2 pos2:Pos}(calm:X.calm=true)(hg:Gl X "list")(hm:X.mg "list"=none)(hg2:Gl X "zip")(hm2:X.mg "zip"=none)(ha:PDA X [a,b] w)(hs:starEach [a,b] X.env=[(false,eval a X.env),(false,eval b X.env)]:=by rfl)(hs2:starEach [b] X.env=[(false,eval b X.env)]:=by rfl)
 (hs3:starEach [.Call (.Name "zip" p2) [a,b] [] pos2] X.env=[(false,eval (.Call (.Name "zip" p2) [a,b] [] pos2) X.env)]:=by rfl) :
 PD X (.Call (.Name "list" p) [.Call (.Name "zip" p2) [a,b] [] pos2] [] pos) (dLZ m w):=by
 intro pins s σ H Q I h
 refine bE (ld_blt I hg hm boot_list ?_)
 obtain⟨φ,ρ,μ,K,A,M,k,L⟩:=h
 refine bh ?_ hs3 rfl
 rw[hs3]
 show wpAny _ _ (spliced ((false,eval (.Call (.Name "zip" p2) [a,b] [] pos2) X.env)::backTo pos [])) _ _ s
 refine Calls.spliced_cons ?_
 have hq:tDA w σ H (fun vs H1=>match vs with | [.ref a,.ref b]=>∃(xs ys:List V),H1 a=some (.lst xs)/\H1 b=some (.lst ys)/\∀ l us H',H1 l=none->Same H1 H'->H' l=some (.lst us)->us.length=min xs.length ys.length->PrsAt H' xs ys us->Q (.ref l) H' | _=>False):=by
  refine⟨φ,ρ,μ,_,A,M,k,fun ds μ1 φ1 vs H1 k1 f1 M1 i1=>?_⟩
  split at k1
  ·rename_i x y
   obtain⟨xs,ex,k1⟩:=opt_ex k1
   obtain⟨ys,ey,k1⟩:=opt_ex k1
   ·obtain⟨v,r,rfl,h1,u,r',rfl,h2,h3⟩:=i1
    cases(show r'=[]from h3)
    obtain⟨p1,vx,rfl,hp1,ax⟩:=lv_is M1 h1 ex
    obtain⟨p2,vy,rfl,hp2,ay⟩:=lv_is M1 h2 ey
    refine⟨vx,vy,hp1,hp2,fun l us H' hl S' hu len pr=>?_⟩
    have hl':l∉φ1:=M1.fresh hl
    have M2:=M1.same S'
    have f2:Fr φ1 H1 φ1 H':=.same S'
    have nt:∀(T:Addr) (zs:List V),H' T=some (.tup zs)->T∉φ1:=fun T zs e hT=>by
     obtain⟨j,hj,ej⟩:=cj hT
     obtain⟨q,e1,e2⟩:=M2.at_ j (μ1[j]'(by have:=M2.len;omega)) (gxA _)
     rw[gxA hj,ej]at e1
     cases e1
     revert e2
     cases μ1[j]'(by have:=M2.len;omega)with
     | box=>rintro⟨q,ns,i,r,z,h1,_⟩;rw[e]at h1;cases h1
     | lst ds=>rintro⟨vs,h1,_⟩;rw[e]at h1;cases h1
     | dic ks ds=>rintro⟨kvs,vs,h1,_⟩;rw[e]at h1;cases h1
     | fdic o kvs ds=>rintro⟨h1,_⟩;rw[e]at h1;cases h1
     | ins C ns ds=>rintro⟨dx,fs,h1,_⟩;rw[e]at h1;cases h1
     | dtu ks ds=>rintro⟨kvs,h1,_⟩;rw[e]at h1;cases h1
     | gx φ0 H0=>rintro⟨_,_,_,h4⟩;exact absurd e (h4 _)
     | exc c=>intro h1;rw[show _=_ from h1]at e;cases e
    have al:=prs_all (ax.mono f2) (ay.mono f2) len nt pr
    cases m with
    | false=>exact L _ μ1 φ1 _ H' k1 (f1.trans f2) M2 ⟨l,us,rfl,hl',hu,al⟩
    | true =>
     have f3:Fr φ1 H1 (φ1++[l]) H':=⟨(Fr.snoc (φ:=φ1) hl).ext,fun c o _ e=>S' c o e,fun c e=>S'.free e⟩
     have M3:MSis (φ1++[l]) H' (μ1++[.lst (List.zipWith (fun a b=>D.tup [a,b]) xs ys)]):=by
      have nt':∀(T:Addr) (zs:List V),H' T=some (.tup zs)->T∉φ1++[l]:=fun T zs e hT=>by
       rcases List.mem_append.mp hT with q | q
       ·exact nt T zs e q
       ·rw[List.mem_singleton.mp q,hu]at e;cases e
      have al':=prs_all (ax.mono f3) (ay.mono f3) len nt' pr
      refine⟨?_,by rw[gxE,gxE,M1.len];rfl,fun k n e=>?_⟩
      ·rw[bI]
       exact⟨M1.nd,by simp,fun a ha b hb=>by rw[List.mem_singleton.mp hb];intro z;exact hl' (by rw[<- z];exact ha)⟩
      ·by_cases hk:k<μ1.length
       ·rw[gxF hk]at e
        obtain⟨q,e1,e2⟩:=M1.at_ k n e
        exact⟨q,f3.get e1,e2.mono f3 fun u eu=>S' _ _ eu⟩
       ·have hk':k=μ1.length:=by
         have:=(gxB e).1
         rw[gxE,aN]at this
         omega
        subst hk'
        rw[gxG (aa _),aQ]at e
        cases e
        exact⟨l,by rw[gxG (by rw[M1.len];exact aa _),M1.len,aQ];rfl,us,hu,al'⟩
     exact L _ _ (φ1++[l]) _ H' k1 (f1.trans f3) M3 ⟨l,by rw[gxG (by rw[M1.len];exact aa _),M1.len,aQ];rfl,rfl⟩
  ·exact k1.elim
 refine Call_ (ld_blt I hg2 hm2 boot_zip (bh (thn (ha pos2 pins s σ H _ I hq) fun us s1 hq3=>?_) (by rw[hs,hs2]) (by rw[hs2];rfl)))
 obtain⟨vs,H1,I1,r1,q1⟩:=hq3
 try dsimp only at q1
 split at q1
 ·rename_i l1 l2
  obtain⟨xs,ys,h1,h2,q⟩:=q1
  obtain⟨u1,u2,rfl,e1,e2⟩:=r1.two
  cases e1;cases e2
  exact thn (list_zip I1 calm h1 h2 q) fun v s2 hv=>Calls.spliced_nil hv
 ·exact q1.elim
end
theorem Lif.val {φ:List Addr}{H:Hp}{μ:MS}{K:DK}{Q:VK}{d:D}{v:V}(L:Lif φ H K Q)(M:MSis φ H μ)(k:K d μ)(i:DIs φ H d v):Q v H:=L d μ φ v H k (.refl _ _) M i
def dAdd (m:Bool):DOp:=fun x y μ K=>match x,y with
 | .int i,.int j=>K (.int (i+j)) μ
 | .str i,.str j=>i.length+j.length<=sizeLine/\K (.str (i++j)) μ
 | x,y=>opt (lv μ x) fun xs=>opt (lv μ y) fun ys=>xs.length+ys.length<=sizeLine/\nL m (xs++ys) μ K
theorem so_add {m:Bool}:SoOp rAddC (dAdd m):=fun φ H x y dx dy μ K Q M hx hy k L=>by
 unfold dAdd at k
 split at k
 ·cases(show x=_ from hx);cases(show y=_ from hy);exact L.val M k rfl
 ·cases(show x=_ from hx);cases(show y=_ from hy);exact⟨k.1,L.val M k.2 rfl⟩
 ·obtain⟨xs,ex,k⟩:=opt_ex k
  obtain⟨ys,ey,k⟩:=opt_ex k
  obtain⟨p,vx,rfl,hp,ax⟩:=lv_is M hx ex
  obtain⟨q,vy,rfl,hq,ay⟩:=lv_is M hy ey
  exact⟨vx,vy,hp,hq,by rw[ax.len,ay.len];exact k.1,fun l hl=>al_n L M (ax.app ay) k.2 hl⟩
def dI2 (C:Int->Int->Prop)(g:Int->Int->D):DOp:=fun x y μ K=>match x,y with
 | .int i,.int j=>C i j/\K (g i j) μ
 | _,_=>False
def dI2' (g:Int->Int->D):DOp:=fun x y μ K=>match x,y with
 | .int i,.int j=>K (g i j) μ
 | _,_=>False
theorem so_i2 {C:Int->Int->Prop}{g:Int->Int->Int}:SoOp (rI2 C fun i j=>.int (g i j)) (dI2 C fun i j=>.int (g i j)):=fun φ H x y dx dy μ K Q M hx hy k L=>by
 unfold dI2 at k
 split at k
 ·cases(show x=_ from hx);cases(show y=_ from hy);exact⟨k.1,L.val M k.2 rfl⟩
 ·exact k.elim
theorem so_i2' {g:Int->Int->Int}:SoOp (rI2' fun i j=>.int (g i j)) (dI2' fun i j=>.int (g i j)):=fun φ H x y dx dy μ K Q M hx hy k L=>by
 unfold dI2' at k
 split at k
 ·cases(show x=_ from hx);cases(show y=_ from hy);exact L.val M k rfl
 ·exact k.elim
theorem so_b2' {g:Int->Int->Bool}:SoOp (rI2' fun i j=>.bl (g i j)) (dI2' fun i j=>.bl (g i j)):=fun φ H x y dx dy μ K Q M hx hy k L=>by
 unfold dI2' at k
 split at k
 ·cases(show x=_ from hx);cases(show y=_ from hy);exact L.val M k rfl
 ·exact k.elim
def dMul:DOp:=fun x y μ K=>match x,y with
 | .int i,.int j=>CMul i j/\K (.int (i*j)) μ
 | .str z,.int n=>∃ c:Nat,z=⟨#[c]⟩ /\ -1000000<=n/\n<=1000000/\K (.str ⟨(List.replicate n.toNat c).toArray⟩) μ
 | _,_=>False
theorem so_mul:SoOp rMulC dMul:=fun φ H x y dx dy μ K Q M hx hy k L=>by
 unfold dMul at k
 split at k
 ·cases(show x=_ from hx);cases(show y=_ from hy);exact⟨k.1,L.val M k.2 rfl⟩
 ·cases(show x=_ from hx);cases(show y=_ from hy)
  obtain⟨c,rfl,h1,h2,k⟩:=k
  exact⟨c,rfl,h1,h2,L.val M k rfl⟩
 ·exact k.elim
def dEqS (neg:Bool):DOp:=fun x y μ K=>match x,y with
 | .int i,.int j=>K (.bl (neg != decide (i=j))) μ
 | .str i,.str j=>K (.bl (neg != decide (i=j))) μ
 | .bl i,.bl j=>K (.bl (neg != decide (i=j))) μ
 | _,_=>False
theorem so_eqS {neg:Bool}:SoOp (rEqC neg) (dEqS neg):=fun φ H x y dx dy μ K Q M hx hy k L=>by
 unfold dEqS at k
 split at k
 ·cases(show x=_ from hx);cases(show y=_ from hy);exact L.val M k rfl
 ·cases(show x=_ from hx);cases(show y=_ from hy);exact L.val M k rfl
 ·cases(show x=_ from hx);cases(show y=_ from hy);exact L.val M k rfl
 ·exact k.elim
def dIx:DOp:=fun x y μ K=>match x,y with
 | .str z,.int i=>z.length<=sizeLine/\opt (atI z.cps.toList i) fun c=>K (.str ⟨#[c]⟩) μ
 | .tup ds,.int i=>opt (atI ds i) fun d=>K d μ
 | x,.int i=>opt (lv μ x) fun ds=>opt (atI ds i) fun d=>K d μ
 | _,_=>False
theorem DAll.atI {φ:List Addr}{H:Hp}{ds:List D}{vs:List V}{i:Int}{d:D}(h:DAll φ H ds vs)(e:atI ds i=some d):∃ v,atI vs i=some v/\DIs φ H d v:=by
 unfold L2.atI at e ⊢
 rw[h.len]
 cases q:ixN ds.length i with
 | none=>rw[q]at e;cases e
 | some j=>rw[q]at e;exact h.get e
theorem so_ix:SoOp rIxC dIx:=fun φ H x y dx dy μ K Q M hx hy k L=>by
 unfold dIx at k
 split at k
 ·cases(show x=_ from hx);cases(show y=_ from hy)
  obtain⟨c,e,k'⟩:=opt_ex k.2
  exact⟨k.1,opt_of e (L.val M k' rfl)⟩
 ·cases(show y=_ from hy)
  obtain⟨d,e,k⟩:=opt_ex k
  obtain⟨p,vs,rfl,_,hp,ha⟩:=hx
  obtain⟨v,ev,iv⟩:=ha.atI e
  exact⟨vs,.inr hp,opt_of ev (L.val M k iv)⟩
 ·cases(show y=_ from hy)
  obtain⟨ds,el,k⟩:=opt_ex k
  obtain⟨d,e,k⟩:=opt_ex k
  obtain⟨p,vs,rfl,hp,ha⟩:=lv_is M hx el
  obtain⟨v,ev,iv⟩:=ha.atI e
  exact⟨vs,.inl hp,opt_of ev (L.val M k iv)⟩
 ·exact k.elim
abbrev DO:=DE->MS->(Option Int->MS->Prop)->Prop
def tDO (w:DO):TO:=fun σ H Q=>∃ φ ρ μ K,DEnv φ H ρ σ/\MSis φ H μ/\w ρ μ K/\∀ o μ' φ' H',K o μ'->Fr φ H φ' H'->MSis φ' H' μ'->Q o H'
def dNo:DO:=fun _ μ K=>K none μ
def dPart (w:De):DO:=fun ρ μ K=>w ρ μ fun d μ1=>match d with | .int i=>K (some i) μ1 | _=>False
def cutD (ds:List D)(lo hi:Option Int):List D:=(ds.drop (HT.sIx ds.length 0 lo)).take (HT.sIx ds.length ds.length hi - HT.sIx ds.length 0 lo)
def dSlc (m:Bool)(w:De)(l h:DO):De:=fun ρ μ K=>w ρ μ fun x μ1=>l ρ μ1 fun lo μ2=>h ρ μ2 fun hi μ3=>match x with
 | .str z=>z.length<=sizeLine/\K (.str ⟨(cutL z.cps.toList lo hi).toArray⟩) μ3
 | x=>opt (lv μ3 x) fun ds=>nL m (cutD ds lo hi) μ3 K
section
variable {X:Cx}{a b e:Expr}{es:List Expr}{pos:Pos}
theorem PO.imp {e:Option Expr}{t t':TO}(h:PO X e t)(hi:∀ σ H Q,t' σ H Q->t σ H Q):PO X e t':=fun pins s σ H Q I q=>h pins s σ H Q I (hi σ H Q q)
theorem o_no:PO X none (tDO dNo):=po_noC.imp fun σ H Q hq4=>by obtain⟨φ,ρ,μ,K,A,M,k,L⟩:=hq4;exact L none μ φ H k (.refl _ _) M
theorem o_some {w:De}(h:PD X e w):PO X (some e) (tDO (dPart w)):=(po_someC h).imp fun σ H Q ⟨φ,ρ,μ,K,A,M,k,L⟩ =>
 ⟨φ,ρ,μ,_,A,M,k,fun d μ1 φ1 v1 H1 k1 f1 M1 i1=>by
  cases d with
  | int i=>cases(show v1=_ from i1);exact L _ μ1 φ1 H1 k1 f1 M1
  | _=>exact k1.elim⟩
theorem DAll.cut {φ:List Addr}{H:Hp}{ds:List D}{vs:List V}(h:DAll φ H ds vs)(lo hi:Option Int):DAll φ H (cutD ds lo hi) (cutV vs lo hi):=by
 unfold cutD cutV
 rw[h.len]
 exact(h.drop _).take _
theorem d_slice (m:Bool){lo hi:Option Expr}{w:De}{l h:DO}{p:Pos}(ha:PD X a w)(hl:PO X lo (tDO l))(hh:PO X hi (tDO h)):PD X (.Subscript a (.Slice lo hi none p) pos) (dSlc m w l h):=(pe_slice slC ha hl hh).imp fun σ H Q hq=>by
 obtain⟨φ,ρ,μ,K,A,M,k,L⟩:=hq
 refine⟨φ,ρ,μ,_,A,M,k,fun d μ1 φ1 v1 H1 k1 f1 M1 i1=>?_⟩
 refine⟨φ1,ρ,μ1,_,A.mono f1,M1,k1,fun lo μ2 φ2 H2 k2 f2 M2=>?_⟩
 refine⟨φ2,ρ,μ2,_,A.mono (f1.trans f2),M2,k2,fun hi μ3 φ3 H3 k3 f3 M3=>?_⟩
 have i3:=i1.mono (f2.trans f3)
 have L3:=L.mono (f1.trans (f2.trans f3))
 split at k3
 ·cases(show v1=_ from i3);exact⟨k3.1,L3.val M3 k3.2 rfl⟩
 ·obtain⟨ds,el,k⟩:=opt_ex k3
  obtain⟨p,vs,rfl,hp,ha⟩:=lv_is M3 i3 el
  exact⟨vs,hp,fun l hl=>al_n L3 M3 (ha.cut lo hi) k hl⟩
end
def fLen:DSp:=fun ds μ K=>match ds with
 | [.str z]=>z.length<=sizeLine/\K (.int z.length) μ
 | [.tup xs]=>K (.int xs.length) μ
 | [x]=>opt (lv μ x) fun xs=>K (.int xs.length) μ
 | _=>False
theorem so_len:SoCall rLenC fLen:=fun φ H vs ds μ K Q M h k L=>by
 unfold fLen at k
 split at k
 ·obtain⟨v,r,rfl,h1,h2⟩:=h;cases(show r=[]from h2);cases(show v=_ from h1);exact⟨k.1,L.val M k.2 rfl⟩
 ·obtain⟨v,r,rfl,h1,h2⟩:=h;cases(show r=[]from h2)
  obtain⟨p,vs,rfl,_,hp,ha⟩:=h1
  exact⟨vs,.inr hp,by rw[ha.len];exact L.val M k rfl⟩
 ·obtain⟨v,r,rfl,h1,h2⟩:=h;cases(show r=[]from h2)
  obtain⟨xs,el,k⟩:=opt_ex k
  obtain⟨p,vs,rfl,hp,ha⟩:=lv_is M h1 el
  exact⟨vs,.inl hp,by rw[ha.len];exact L.val M k rfl⟩
 ·exact k.elim
def fMax:DSp:=fun ds μ K=>match ds with | [.int i,.int j]=>K (.int (max i j)) μ | _=>False
theorem so_max:SoCall rMaxC fMax:=fun φ H vs ds μ K Q M h k L=>by
 unfold fMax at k
 split at k
 ·obtain⟨v,r,rfl,h1,u,r',rfl,h2,h3⟩:=h;cases(show r'=[]from h3);cases(show v=_ from h1);cases(show u=_ from h2);exact⟨_,_,rfl,L.val M k rfl⟩
 ·exact k.elim
def fMaxL:DSp:=fun ds μ K=>match ds with
 | [x]=>∃ ns:List Int,lv μ x=some (ns.map D.int)/\ns≠[]/\∀ m,m∈ns->(∀ y∈ns,y<=m)->K (.int m) μ
 | _=>False
def fAll (g:List Bool->Bool):DSp:=fun ds μ K=>match ds with
 | [x]=>∃ bs:List Bool,lv μ x=some (bs.map D.bl)/\K (.bl (g bs)) μ
 | _=>False
theorem so_all {g:List Bool->Bool}:SoCall (rAllC g) (fAll g):=fun φ H vs ds μ K Q M h k L=>by
 unfold fAll at k
 split at k
 ·obtain⟨v,r,rfl,h1,h2⟩:=h;cases(show r=[]from h2)
  obtain⟨bs,el,k⟩:=k
  obtain⟨p,vs,rfl,hp,ha⟩:=lv_is M h1 el
  exact⟨bs,by rw[hp,ha.bls],L.val M k rfl⟩
 ·exact k.elim
def fList (m:Bool):DSp:=fun ds μ K=>match ds with
 | [x]=>opt (lv μ x) fun xs=>nL m xs μ K
 | _=>False
theorem so_list {Kf:PySem.W.Frag}{m:Bool}:SoCall (rListC Kf) (fList m):=fun φ H vs ds μ K Q M h k L=>by
 unfold fList at k
 split at k
 ·obtain⟨v,r,rfl,h1,h2⟩:=h;cases(show r=[]from h2)
  obtain⟨xs,el,k⟩:=opt_ex k
  obtain⟨p,vs,rfl,hp,ha⟩:=lv_is M h1 el
  exact⟨vs,SqL.of hp,fun l hl=>al_n L M ha k hl⟩
 ·exact k.elim
def fCount:DMt:=fun d ds μ K=>match d,ds with
 | .str z,[.str y]=>∃ c:Nat,y=⟨#[c]⟩/\K (.int ((z.cps.toList.count c:Nat):Int)) μ
 | _,_=>False
theorem so_count {Kf:PySem.W.Frag}:SoMt Kf "str" rCountC fCount:=fun φ H x vs d ds μ K Q M hx h k L=>by
 unfold fCount at k
 split at k
 ·cases(show x=_ from hx)
  obtain⟨v,r,rfl,h1,h2⟩:=h;cases(show r=[]from h2);cases(show v=_ from h1)
  obtain⟨c,rfl,k⟩:=k
  exact⟨c,rfl,L.val M k rfl⟩
 ·exact k.elim
theorem so_ipI {f:Int->Int->Int}:SoIp (ipC f) (dI2' fun i j=>.int (f i j)):=fun φ H x y dx dy μ K Q M hx hy k L=>by
 unfold dI2' at k
 split at k
 ·cases(show x=_ from hx);cases(show y=_ from hy);exact L.val M k rfl
 ·exact k.elim
mutual
def deq:D->D->Bool
 | .non,.non=>true
 | .bl a,.bl b=>a==b
 | .bl a,.int b=>(if a then 1 else 0)==b
 | .int a,.bl b=>a==(if b then 1 else 0)
 | .int a,.int b=>a==b
 | .str a,.str b=>a==b
 | .lst xs,.lst ys=>deqL xs ys
 | .tup xs,.tup ys=>deqL xs ys
 | _,_=>false
def deqL:List D->List D->Bool
 | [],[]=>true
 | x::xs,y::ys=>deq x y&&deqL xs ys
 | _,_=>false
end
mutual
def puD:Nat->D->Prop
 | n+1,.lst ds=>puL n ds
 | n+1,.tup ds=>puL n ds
 | 0,.lst _=>False
 | 0,.tup _=>False
 | _,.dic _ _=>False
 | _,.mr _=>False
 | _,.obj _ _ _=>False
 | _,.fdc _ _=>False
 | _,.fn _=>False
 | _,_=>True
def puL:Nat->List D->Prop
 | _,[]=>True
 | n,d::ds=>puD n d/\puL n ds
end
theorem puL_get {n:Nat}:∀ {ds:List D} {i:Nat} {d:D},puL n ds->ds[i]?=some d->puD n d
 | [],_,_,_,e=>by simp at e
 | d::ds,0,d',h,e=>by simp at e;subst e;unfold puL at h;exact h.1
 | d::ds,i+1,d',h,e=>by unfold puL at h;exact puL_get (i:=i) h.2 (by simpa using e)
mutual
theorem deq_same {φ:List Addr}{H:Hp}:∀ {n:Nat} {d e:D} {v:V},puD n d->puD n e->DIs φ H d v->DIs φ H e v->deq d e=true:=fun {n d e v} pd pe hd he=>by
 cases d with
 | non=>cases(show v=_ from hd);cases e with
  | non=>rfl
  | lst _=>obtain⟨_,_,q,_⟩:=he;cases q
  | tup _=>obtain⟨_,_,q,_⟩:=he;cases q
  | dic _ _=>obtain⟨_,_,_,q,_⟩:=he;cases q
  | mr _=>obtain⟨_,_,q⟩:=he;cases q
  | obj _ _ _=>obtain⟨_,_,_,_,q,_⟩:=he;cases q
  | fdc _ _=>obtain⟨_,_,_,_,q,_⟩:=he;cases q
  | _=>cases(show _=_ from he)
 | bl b=>cases(show v=_ from hd);cases e with
  | bl c=>cases(show _=_ from he);simp[deq]
  | lst _=>obtain⟨_,_,q,_⟩:=he;cases q
  | tup _=>obtain⟨_,_,q,_⟩:=he;cases q
  | dic _ _=>obtain⟨_,_,_,q,_⟩:=he;cases q
  | mr _=>obtain⟨_,_,q⟩:=he;cases q
  | obj _ _ _=>obtain⟨_,_,_,_,q,_⟩:=he;cases q
  | fdc _ _=>obtain⟨_,_,_,_,q,_⟩:=he;cases q
  | _=>cases(show _=_ from he)
 | int b=>cases(show v=_ from hd);cases e with
  | int c=>cases(show _=_ from he);simp[deq]
  | lst _=>obtain⟨_,_,q,_⟩:=he;cases q
  | tup _=>obtain⟨_,_,q,_⟩:=he;cases q
  | dic _ _=>obtain⟨_,_,_,q,_⟩:=he;cases q
  | mr _=>obtain⟨_,_,q⟩:=he;cases q
  | obj _ _ _=>obtain⟨_,_,_,_,q,_⟩:=he;cases q
  | fdc _ _=>obtain⟨_,_,_,_,q,_⟩:=he;cases q
  | _=>cases(show _=_ from he)
 | str b=>cases(show v=_ from hd);cases e with
  | str c=>cases(show _=_ from he);simp[deq]
  | lst _=>obtain⟨_,_,q,_⟩:=he;cases q
  | tup _=>obtain⟨_,_,q,_⟩:=he;cases q
  | dic _ _=>obtain⟨_,_,_,q,_⟩:=he;cases q
  | mr _=>obtain⟨_,_,q⟩:=he;cases q
  | obj _ _ _=>obtain⟨_,_,_,_,q,_⟩:=he;cases q
  | fdc _ _=>obtain⟨_,_,_,_,q,_⟩:=he;cases q
  | _=>cases(show _=_ from he)
 | lst ds =>
  obtain⟨p,vs,rfl,_,hp,ha⟩:=hd
  cases n with
  | zero=>exact absurd pd (by unfold puD;exact id)
  | succ n =>
   cases e with
   | lst es =>
    obtain⟨p',vs',q,_,hp',ha'⟩:=he;cases q
    rw[hp]at hp';cases hp'
    unfold puD at pd pe
    unfold deq
    exact deqL_same pd pe ha ha'
   | tup es=>obtain⟨p',vs',q,_,hp',ha'⟩:=he;cases q;rw[hp]at hp';cases hp'
   | dic _ _=>exact absurd pe (by unfold puD;exact id)
   | mr _=>exact absurd pe (by unfold puD;exact id)
   | obj _ _ _=>exact absurd pe (by unfold puD;exact id)
   | fdc _ _=>exact absurd pe (by unfold puD;exact id)
   | fn _=>exact absurd pe (by unfold puD;exact id)
   | _=>cases(show _=_ from he)
 | tup ds =>
  obtain⟨p,vs,rfl,_,hp,ha⟩:=hd
  cases n with
  | zero=>exact absurd pd (by unfold puD;exact id)
  | succ n =>
   cases e with
   | tup es =>
    obtain⟨p',vs',q,_,hp',ha'⟩:=he;cases q
    rw[hp]at hp';cases hp'
    unfold puD at pd pe
    unfold deq
    exact deqL_same pd pe ha ha'
   | lst es=>obtain⟨p',vs',q,_,hp',ha'⟩:=he;cases q;rw[hp]at hp';cases hp'
   | dic _ _=>exact absurd pe (by unfold puD;exact id)
   | mr _=>exact absurd pe (by unfold puD;exact id)
   | obj _ _ _=>exact absurd pe (by unfold puD;exact id)
   | fdc _ _=>exact absurd pe (by unfold puD;exact id)
   | fn _=>exact absurd pe (by unfold puD;exact id)
   | _=>cases(show _=_ from he)
 | dic _ _=>exact absurd pd (by cases n <;> (unfold puD;exact id))
 | mr _=>exact absurd pd (by cases n <;> (unfold puD;exact id))
 | obj _ _ _=>exact absurd pd (by cases n <;> (unfold puD;exact id))
 | fdc _ _=>exact absurd pd (by cases n <;> (unfold puD;exact id))
 | fn _=>exact absurd pd (by cases n <;> (unfold puD;exact id))
theorem deqL_same {φ:List Addr}{H:Hp}:∀ {n:Nat} {ds es:List D} {vs:List V},puL n ds->puL n es->DAll φ H ds vs->DAll φ H es vs->deqL ds es=true:=fun {n ds es vs} pd pe hd he=>by
 cases ds with
 | nil =>
  cases(show vs=[]from hd)
  cases es with
  | nil=>unfold deqL;rfl
  | cons e es=>obtain⟨_,_,q,_⟩:=he;cases q
 | cons d ds =>
  obtain⟨v,r,rfl,h1,h2⟩:=hd
  cases es with
  | nil=>cases(show _=_ from he)
  | cons e es =>
   obtain⟨v',r',q,h3,h4⟩:=he
   cases q
   unfold puL at pd pe
   unfold deqL
   rw[deq_same pd.1 pe.1 h1 h3,deqL_same pd.2 pe.2 h2 h4]
   rfl
end
theorem deqL_len:∀ {ds es:List D},ds.length≠es.length->deqL ds es=false
 | [],[],h=>absurd rfl h
 | [],_::_,_=>by unfold deqL;rfl
 | _::_,[],_=>by unfold deqL;rfl
 | d::ds,e::es,h=>by unfold deqL;rw[deqL_len (ds:=ds) (es:=es) (by simpa using h),c7]
def atEq (ds es:List D)(j:Nat):Bool:=match ds[j]?,es[j]? with | some a,some b=>deq a b | _,_=>true
theorem range_succ_all (n:Nat)(f:Nat->Bool):(List.range (n+1)).all f=(f 0&&(List.range n).all fun j=>f (j+1)):=by
 rw[List.range_succ_eq_map,cI,List.all_map];rfl
theorem deqL_range:∀(ds es:List D),ds.length=es.length->(List.range ds.length).all (atEq ds es)=deqL ds es
 | [],[],_=>by unfold deqL;rfl
 | [],_::_,h=>by simp at h
 | _::_,[],h=>by simp at h
 | d::ds,e::es,h=>by
  rw[aJ,range_succ_all]
  unfold deqL
  have ih:=deqL_range ds es (by simpa using h)
  have e1:(fun j=>atEq (d::ds) (e::es) (j+1))=atEq ds es:=by funext j;unfold atEq;simp
  rw[e1,ih]
  rfl
section
variable {X:Cx}{pins:List (Addr×Obj)}{σ:St}{H:Hp}{s:Shared}{φ:List Addr}
theorem val_at {xs:List V}{us:List Value}(r:Vals xs us){j:Nat}(h1:j<us.toArray.size):∃ x,xs[j]?=some x/\RelV x us.toArray[j]:=by
 have hj:j<us.length:=by rwa [ag]at h1
 have hx:j<xs.length:=by rw[r.length];exact hj
 obtain⟨u,eu,ru⟩:=r.get (gxA hx)
 refine⟨_,gxA hx,?_⟩
 have:us.toArray[j]=u:=by have:=gxB eu;simpa using this.2
 rw[this];exact ru
theorem seq_of (I:Inv X pins σ H s){d:D}{x:V}{u:Value}{n:Nat}(pd:puD n d)(hd:DIs φ H d x)(ru:RelV x u):(∀ p,u≠.ref p)\/∃ p its ds vs,u=.ref p/\Vals vs its/\DAll φ H ds vs/\∃ m,n=m+1/\puL m ds/\((d=.lst ds/\s.heap.IsList p its.toArray)\/(d=.tup ds/\s.heap.IsTuple p its.toArray)):=by
 cases d with
 | non=>cases(show x=_ from hd);cases ru;exact .inl fun p q=>by cases q
 | bl b=>cases(show x=_ from hd);cases ru;exact .inl fun p q=>by cases q
 | int b=>cases(show x=_ from hd);obtain⟨t,rfl⟩:=ru;exact .inl fun p q=>by cases q
 | str b=>cases(show x=_ from hd);obtain⟨t,rfl⟩:=ru;exact .inl fun p q=>by cases q
 | lst ds =>
  obtain⟨p,vs,rfl,_,hp,ha⟩:=hd
  cases ru
  obtain⟨_,its,k,r,_,ho⟩:=I.lstM hp
  cases n with
  | zero=>exact absurd pd (by unfold puD;exact id)
  | succ n=>exact .inr ⟨p,its,ds,vs,rfl,r,ha,n,rfl,(by unfold puD at pd;exact pd),.inl ⟨rfl,⟨_,ho,rfl,k,rfl⟩⟩⟩
 | tup ds =>
  obtain⟨p,vs,rfl,_,hp,ha⟩:=hd
  cases ru
  obtain⟨_,its,r,ho⟩:=(show ObjOk X.prog X.w H s.heap p (.tup vs)from I.hok p _ hp)
  cases n with
  | zero=>exact absurd pd (by unfold puD;exact id)
  | succ n=>exact .inr ⟨p,its,ds,vs,rfl,r,ha,n,rfl,(by unfold puD at pd;exact pd),.inr ⟨rfl,ho⟩⟩
 | dic _ _=>exact absurd pd (by cases n <;> (unfold puD;exact id))
 | mr _=>exact absurd pd (by cases n <;> (unfold puD;exact id))
 | obj _ _ _=>exact absurd pd (by cases n <;> (unfold puD;exact id))
 | fdc _ _=>exact absurd pd (by cases n <;> (unfold puD;exact id))
 | fn _=>exact absurd pd (by cases n <;> (unfold puD;exact id))
theorem flat_of {n:Nat}{d:D}{x:V}(pd:puD n d)(hd:DIs φ H d x)(fx:flatV x=true):(d=.non/\x=.non)\/(∃ b,d=.bl b/\x=.bl b)\/(∃ b,d=.int b/\x=.int b)\/∃ b,d=.str b/\x=.str b:=by
 cases d with
 | non=>exact .inl ⟨rfl,hd⟩
 | bl b=>exact .inr (.inl ⟨b,rfl,hd⟩)
 | int b=>exact .inr (.inr (.inl ⟨b,rfl,hd⟩))
 | str b=>exact .inr (.inr (.inr ⟨b,rfl,hd⟩))
 | lst ds=>obtain⟨p,vs,rfl,_⟩:=hd;cases fx
 | tup ds=>obtain⟨p,vs,rfl,_⟩:=hd;cases fx
 | dic _ _=>exact absurd pd (by cases n <;> (unfold puD;exact id))
 | mr _=>exact absurd pd (by cases n <;> (unfold puD;exact id))
 | obj _ _ _=>exact absurd pd (by cases n <;> (unfold puD;exact id))
 | fdc _ _=>exact absurd pd (by cases n <;> (unfold puD;exact id))
 | fn _=>exact absurd pd (by cases n <;> (unfold puD;exact id))
theorem rc_seq (I:Inv X pins σ H s)(n:Nat)(A:Around)(ds es:List D)(vs ws:List V)(its jts:List Value)(p q:Addr)(hu:A.units<cLine)
 (ih:∀(d e:D) (x y:V) (u v:Value),puD n d->puD n e->DIs φ H d x->DIs φ H e y->RelV x u->RelV y v->SeqAt.EqAt A.in1 s u v (deq d e)) (pd:puL n ds) (pe:puL n es) (hd:DAll φ H ds vs) (he:DAll φ H es ws) (rv:Vals vs its) (rw':Vals ws jts) :
 (s.heap.IsList p its.toArray->s.heap.IsList q jts.toArray->SeqAt.RcAt A s (.ref p) (.ref q) (deqL ds es))/\(s.heap.IsTuple p its.toArray->s.heap.IsTuple q jts.toArray->SeqAt.RcAt A s (.ref p) (.ref q) (deqL ds es)):=by
 have l1:its.toArray.size=ds.length:=by rw[ag,<- rv.length,hd.len]
 have l2:jts.toArray.size=es.length:=by rw[ag,<- rw'.length,he.len]
 have el:∀ j (h1:j<its.toArray.size) (h2:j<jts.toArray.size),SeqAt.EqAt A.in1 s its.toArray[j] jts.toArray[j] (atEq ds es j):=fun j h1 h2=>by
  obtain⟨x,ex,rx⟩:=val_at rv h1
  obtain⟨y,ey,ry⟩:=val_at rw' h2
  obtain⟨d,ed,id'⟩:=hd.getV ex
  obtain⟨e,ee,ie⟩:=he.getV ey
  have q:atEq ds es j=deq d e:=by unfold atEq;rw[ed,ee]
  rw[q]
  exact ih d e x y _ _ (puL_get pd ed) (puL_get pe ee) id' ie rx ry
 constructor
 ·intro hl hq
  by_cases hlen:ds.length=es.length
  ·have:=SeqAt.RcAt.lists hl hq (by rw[l1,l2,hlen]) hu el
   rw[l1,deqL_range ds es hlen]at this
   exact this
  ·rw[deqL_len hlen]
   exact SeqAt.RcAt.lists_lengths hl hq (by rw[l1,l2];simpa using hlen) hu
 ·intro hl hq
  have:=SeqAt.RcAt.tuples hl hq hu el
  rw[l1,l2]at this
  by_cases hlen:ds.length=es.length
  ·rw[<- hlen,Nat.min_self,deqL_range ds es hlen]at this
   simpa using this
  ·rw[deqL_len hlen]
   have e0:(ds.length==es.length)=false:=by simpa using hlen
   rw[e0,c7]at this
   exact this
theorem eqAt_D (I:Inv X pins σ H s):∀(n:Nat) (A:Around) (d e:D) (x y:V) (u v:Value),A.units+n<cLine->puD n d->puD n e->DIs φ H d x->DIs φ H e y->RelV x u->RelV y v->SeqAt.EqAt A s u v (deq d e):=by
 intro n
 induction n with
 | zero =>
  intro A d e x y u v hu pd pe hd he ru rv
  have fl:∀ {d:D} {x:V},puD 0 d->DIs φ H d x->flatV x=true:=fun {d x} pd hd=>by
   cases d with
   | non=>cases(show x=_ from hd);rfl
   | bl b=>cases(show x=_ from hd);rfl
   | int b=>cases(show x=_ from hd);rfl
   | str b=>cases(show x=_ from hd);rfl
   | _=>exact absurd pd (by unfold puD;exact id)
  have q:=eqAt_V (A:=A) (s:=s) ru rv (fl pd hd) (fl pe he)
  have eq:eqV x y=deq d e:=by
   cases d <;> first
    | exact absurd pd (by unfold puD;exact id)
    | (cases(show x=_ from hd)
       cases e <;> first
        | exact absurd pe (by unfold puD;exact id)
        | (cases(show y=_ from he);unfold eqV deq;rfl))
  rw[eq]at q
  exact q
 | succ n ih =>
  intro A d e x y u v hu pd pe hd he ru rv
  have hu0:A.units<cLine:=by omega
  have hu1:A.in1.units+n<cLine:=by show A.units+1+n<cLine;omega
  rcases seq_of I pd hd ru with fd | ⟨p,its,ds,vs,rfl,r1,a1,m1,e1,p1,k1⟩
  ·rcases seq_of I pe he rv with fe | ⟨q,jts,es,ws,rfl,r2,a2,m2,e2,p2,k2⟩
   ·have fl:∀ {d:D} {x:V} {u:Value},puD (n+1) d->DIs φ H d x->RelV x u->(∀ p,u≠.ref p)->flatV x=true:=fun {d x u} pd hd ru fu=>by
     cases d with
     | non=>cases(show x=_ from hd);rfl
     | bl b=>cases(show x=_ from hd);rfl
     | int b=>cases(show x=_ from hd);rfl
     | str b=>cases(show x=_ from hd);rfl
     | lst ds=>obtain⟨p,vs,rfl,_⟩:=hd;cases ru;exact absurd rfl (fu p)
     | tup ds=>obtain⟨p,vs,rfl,_⟩:=hd;cases ru;exact absurd rfl (fu p)
     | _=>exact absurd pd (by unfold puD;exact id)
    have fx:=fl pd hd ru fd
    have fy:=fl pe he rv fe
    have q:=eqAt_V (A:=A) (s:=s) ru rv fx fy
    have eq:eqV x y=deq d e:=by
     rcases flat_of pd hd fx with⟨rfl,rfl⟩ | ⟨b,rfl,rfl⟩ | ⟨b,rfl,rfl⟩ | ⟨b,rfl,rfl⟩<;>
     rcases flat_of pe he fy with⟨rfl,rfl⟩ | ⟨c,rfl,rfl⟩ | ⟨c,rfl,rfl⟩ | ⟨c,rfl,rfl⟩<;> (unfold eqV deq;rfl)
    rw[eq]at q
    exact q
   ·rcases k2 with⟨rfl,hl⟩ | ⟨rfl,hl⟩
    ·cases d with
     | non=>cases(show x=_ from hd);cases ru;exact SeqAt.EqAt.none_list hl hu0
     | bl b=>cases(show x=_ from hd);cases ru;exact SeqAt.EqAt.bool_list b hl hu0
     | int b=>cases(show x=_ from hd);obtain⟨t,rfl⟩:=ru;exact SeqAt.EqAt.int_list b t hl hu0
     | str b=>cases(show x=_ from hd);obtain⟨t,rfl⟩:=ru;exact SeqAt.EqAt.str_list b t hl hu0
     | lst _=>obtain⟨_,_,rfl,_⟩:=hd;cases ru;exact absurd rfl (fd _)
     | tup _=>obtain⟨_,_,rfl,_⟩:=hd;cases ru;exact absurd rfl (fd _)
     | _=>exact absurd pd (by unfold puD;exact id)
    ·cases d with
     | non=>cases(show x=_ from hd);cases ru;exact SeqAt.EqAt.none_tuple hl hu0
     | bl b=>cases(show x=_ from hd);cases ru;exact SeqAt.EqAt.bool_tuple b hl hu0
     | int b=>cases(show x=_ from hd);obtain⟨t,rfl⟩:=ru;exact SeqAt.EqAt.int_tuple b t hl hu0
     | str b=>cases(show x=_ from hd);obtain⟨t,rfl⟩:=ru;exact SeqAt.EqAt.str_tuple b t hl hu0
     | lst _=>obtain⟨_,_,rfl,_⟩:=hd;cases ru;exact absurd rfl (fd _)
     | tup _=>obtain⟨_,_,rfl,_⟩:=hd;cases ru;exact absurd rfl (fd _)
     | _=>exact absurd pd (by unfold puD;exact id)
  ·rcases seq_of I pe he rv with fe | ⟨q,jts,es,ws,rfl,r2,a2,m2,e2,p2,k2⟩
   ·rcases k1 with⟨rfl,hl⟩ | ⟨rfl,hl⟩
    ·cases e with
     | non=>cases(show y=_ from he);cases rv;exact SeqAt.EqAt.list_none hl hu0
     | bl b=>cases(show y=_ from he);cases rv;exact SeqAt.EqAt.list_bool b hl hu0
     | int b=>cases(show y=_ from he);obtain⟨t,rfl⟩:=rv;exact SeqAt.EqAt.list_int b t hl hu0
     | str b=>cases(show y=_ from he);obtain⟨t,rfl⟩:=rv;exact SeqAt.EqAt.list_str b t hl hu0
     | lst _=>obtain⟨_,_,rfl,_⟩:=he;cases rv;exact absurd rfl (fe _)
     | tup _=>obtain⟨_,_,rfl,_⟩:=he;cases rv;exact absurd rfl (fe _)
     | _=>exact absurd pe (by unfold puD;exact id)
    ·cases e with
     | non=>cases(show y=_ from he);cases rv;exact SeqAt.EqAt.tuple_none hl hu0
     | bl b=>cases(show y=_ from he);cases rv;exact SeqAt.EqAt.tuple_bool b hl hu0
     | int b=>cases(show y=_ from he);obtain⟨t,rfl⟩:=rv;exact SeqAt.EqAt.tuple_int b t hl hu0
     | str b=>cases(show y=_ from he);obtain⟨t,rfl⟩:=rv;exact SeqAt.EqAt.tuple_str b t hl hu0
     | lst _=>obtain⟨_,_,rfl,_⟩:=he;cases rv;exact absurd rfl (fe _)
     | tup _=>obtain⟨_,_,rfl,_⟩:=he;cases rv;exact absurd rfl (fe _)
     | _=>exact absurd pe (by unfold puD;exact id)
   ·cases e1;cases e2
    have rc:=rc_seq I n A ds es vs ws its jts p q hu0 (fun d e x y u v a b c d' e' f'=>ih A.in1 d e x y u v hu1 a b c d' e' f') p1 p2 a1 a2 r1 r2
    by_cases hpq:p=q
    ·subst hpq
     have hv:x=y:=ru.inj rv
     subst hv
     rw[deq_same pd pe hd he]
     exact SeqAt.EqAt.same _
    ·rcases k1 with⟨rfl,hl⟩ | ⟨rfl,hl⟩<;> rcases k2 with⟨rfl,hl2⟩ | ⟨rfl,hl2⟩
     ·unfold deq;exact .of_refs hpq (rc.1 hl hl2)
     ·unfold deq;exact SeqAt.EqAt.list_tuple hl hl2 hu0
     ·unfold deq;exact SeqAt.EqAt.tuple_list hl hl2 hu0
     ·unfold deq;exact .of_refs hpq (rc.2 hl hl2)
end
end L2
namespace L2
open PySem PySem.Spec PyProof.Rows
section
variable {X:Cx}
def sqs:D->D->Option (List D×List D)
 | .lst xs,.lst ys=>some (xs,ys)
 | .tup xs,.tup ys=>some (xs,ys)
 | _,_=>none
def rDeq (n:Nat)(neg:Bool):R2:=fun x y H Q=>∃ φ d e,puD n d/\puD n e/\DIs φ H d x/\DIs φ H e y/\(sqs d e).isSome=true/\Q (.bl (neg != deq d e)) H
theorem two_seq {pins:List (Addr×Obj)}{s:Shared}{σ:St}{H:Hp}{φ:List Addr}{n:Nat}{d e:D}{x y:V}{u v:Value}(I:Inv X pins σ H s)(pd:puD n d)(pe:puD n e)(hd:DIs φ H d x)(he:DIs φ H e y)(rx:RelV x u)(ry:RelV y v)(hs:(sqs d e).isSome=true) :
 ∃ p q its jts ds es vs ws m,u=.ref p/\v=.ref q/\n=m+1/\Vals vs its/\Vals ws jts/\DAll φ H ds vs/\DAll φ H es ws/\puL m ds/\puL m es/\((d=.lst ds/\e=.lst es/\s.heap.IsList p its.toArray/\s.heap.IsList q jts.toArray)\/(d=.tup ds/\e=.tup es/\s.heap.IsTuple p its.toArray/\s.heap.IsTuple q jts.toArray)):=by
 rcases seq_of I pd hd rx with fd | ⟨p,its,ds,vs,rfl,r1,a1,m1,e1,p1,k1⟩
 ·cases d with
  | lst _=>obtain⟨_,_,rfl,_⟩:=hd;cases rx;exact absurd rfl (fd _)
  | tup _=>obtain⟨_,_,rfl,_⟩:=hd;cases rx;exact absurd rfl (fd _)
  | _=>cases hs
 ·rcases seq_of I pe he ry with fe | ⟨q',jts,es,ws,rfl,r2,a2,m2,e2,p2,k2⟩
  ·cases e with
   | lst _=>obtain⟨_,_,rfl,_⟩:=he;cases ry;exact absurd rfl (fe _)
   | tup _=>obtain⟨_,_,rfl,_⟩:=he;cases ry;exact absurd rfl (fe _)
   | _=>cases d <;> cases hs
  ·subst e1
   cases e2
   refine⟨p,q',its,jts,ds,es,vs,ws,m1,rfl,rfl,rfl,r1,r2,a1,a2,p1,p2,?_⟩
   rcases k1 with⟨rfl,hl⟩ | ⟨rfl,hl⟩<;> rcases k2 with⟨rfl,hl2⟩ | ⟨rfl,hl2⟩
   ·exact .inl ⟨rfl,rfl,hl,hl2⟩
   ·cases hs
   ·cases hs
   ·exact .inr ⟨rfl,rfl,hl,hl2⟩
theorem eqDeep {n:Nat}(hu:X.A.units+n<cLine):OpR X (compareOp .Eq) (rDeq n false):=by
 intro pins s σ H x y u v Q I rx ry h
 obtain⟨φ,d,e,pd,pe,hd,he,hs,q⟩:=h
 obtain⟨p,q',its,jts,ds,es,vs,ws,m1,rfl,rfl,rfl,r1,r2,a1,a2,p1,p2,kk⟩:=two_seq I pd pe hd he rx ry hs
 have rc:=rc_seq I m1 X.A ds es vs ws its jts p q' (by omega) (fun d e x y u v a b c d' e' f'=>eqAt_D I m1 X.A.in1 d e x y u v (by show X.A.units+1+m1<cLine;omega) a b c d' e' f') p1 p2 a1 a2 r1 r2
 rcases kk with⟨rfl,rfl,hl,hl2⟩ | ⟨rfl,rfl,hl,hl2⟩
 ·unfold deq at q;exact rc.1 hl hl2 X.prog X.w X.xe _ ⟨.bl _,H,I,rfl,by rw[fne]at q;exact q⟩
 ·unfold deq at q;exact rc.2 hl hl2 X.prog X.w X.xe _ ⟨.bl _,H,I,rfl,by rw[fne]at q;exact q⟩
theorem neDeep {n:Nat}(hu:X.A.units+n<cLine):OpR X (compareOp .NotEq) (rDeq n true):=by
 intro pins s σ H x y u v Q I rx ry h
 obtain⟨φ,d,e,pd,pe,hd,he,hs,q⟩:=h
 obtain⟨p,q',its,jts,ds,es,vs,ws,m1,rfl,rfl,rfl,r1,r2,a1,a2,p1,p2,kk⟩:=two_seq I pd pe hd he rx ry hs
 have l1:its.toArray.size=ds.length:=by rw[ag,<- r1.length,a1.len]
 have l2:jts.toArray.size=es.length:=by rw[ag,<- r2.length,a2.len]
 have el:∀ j (h1:j<its.toArray.size) (h2:j<jts.toArray.size),SeqAt.EqAt X.A.in1 s its.toArray[j] jts.toArray[j] (atEq ds es j):=fun j h1 h2=>by
  obtain⟨x,ex,rx⟩:=val_at r1 h1
  obtain⟨y,ey,ry⟩:=val_at r2 h2
  obtain⟨d,ed,id'⟩:=a1.getV ex
  obtain⟨e,ee,ie⟩:=a2.getV ey
  have q:atEq ds es j=deq d e:=by unfold atEq;rw[ed,ee]
  rw[q]
  exact eqAt_D I m1 X.A.in1 d e x y _ _ (by show X.A.units+1+m1<cLine;omega) (puL_get p1 ed) (puL_get p2 ee) id' ie rx ry
 have fin:Q (.bl (!deqL ds es)) H->EP X pins σ Q (.bool (!deqL ds es)) s:=fun q=>⟨.bl _,H,I,rfl,q⟩
 rcases kk with⟨rfl,rfl,hl,hl2⟩ | ⟨rfl,rfl,hl,hl2⟩
 ·unfold deq at q
  rw[tne]at q
  by_cases hlen:ds.length=es.length
  ·have:=SeqAt.RcNeAt.lists hl hl2 (by rw[l1,l2,hlen]) (by omega) el
   rw[l1,deqL_range ds es hlen]at this
   exact this X.prog X.w X.xe _ (fin q)
  ·have t:=fin q
   rw[deqL_len hlen]at t
   exact SeqAt.RcNeAt.lists_lengths hl hl2 (by rw[l1,l2];simpa using hlen) (by omega) X.prog X.w X.xe _ t
 ·unfold deq at q
  rw[tne]at q
  have this:=SeqAt.RcNeAt.tuples hl hl2 (by omega) el
  rw[l1,l2]at this
  by_cases hlen:ds.length=es.length
  ·rw[<- hlen,Nat.min_self,deqL_range ds es hlen]at this
   exact this X.prog X.w X.xe _ (by simpa using fin q)
  ·have t:=fin q
   rw[deqL_len hlen]at t
   have e0:(ds.length==es.length)=false:=by simpa using hlen
   rw[e0,c7]at this
   exact this X.prog X.w X.xe _ t
def dEqD (n:Nat)(neg:Bool):DOp:=fun x y μ K=>puD n x/\puD n y/\(sqs x y).isSome=true/\K (.bl (neg != deq x y)) μ
theorem so_eqD {n:Nat}{neg:Bool}:SoOp (rDeq n neg) (dEqD n neg):=fun φ H x y dx dy μ K Q M hx hy k L=>⟨φ,dx,dy,k.1,k.2.1,hx,hy,k.2.2.1,L.val M k.2.2.2 rfl⟩
end
mutual
theorem deq_rfl:∀(d:D) (n:Nat),puD n d->deq d d=true
 | .non,_,_=>by unfold deq;rfl
 | .bl _,_,_=>by simp[deq]
 | .int _,_,_=>by simp[deq]
 | .str _,_,_=>by simp[deq]
 | .lst ds,0,h=>absurd h (by unfold puD;exact id)
 | .lst ds,n+1,h=>by unfold puD at h;unfold deq;exact deqL_rfl ds n h
 | .tup ds,0,h=>absurd h (by unfold puD;exact id)
 | .tup ds,n+1,h=>by unfold puD at h;unfold deq;exact deqL_rfl ds n h
 | .dic _ _,n,h=>absurd h (by cases n <;> (unfold puD;exact id))
 | .mr _,n,h=>absurd h (by cases n <;> (unfold puD;exact id))
 | .obj _ _ _,n,h=>absurd h (by cases n <;> (unfold puD;exact id))
 | .fdc _ _,n,h=>absurd h (by cases n <;> (unfold puD;exact id))
 | .fn _,n,h=>absurd h (by cases n <;> (unfold puD;exact id))
theorem deqL_rfl:∀(ds:List D) (n:Nat),puL n ds->deqL ds ds=true
 | [],_,_=>by unfold deqL;rfl
 | d::ds,n,h=>by unfold puL at h;unfold deqL;rw[deq_rfl d n h.1,deqL_rfl ds n h.2];rfl
end
def fltD:D->Bool
 | .non=>true
 | .bl _=>true
 | .int _=>true
 | .str _=>true
 | _=>false
section
variable {X:Cx}
def rInC (neg:Bool):R2:=fun x y H Q=>match x,y with
 | .str z,.str t=>∃ c:Nat,z=⟨#[c]⟩/\Q (.bl (neg != decide (c∈t.cps.toList))) H
 | x,.ref p=>∃ xs,(H p=some (.lst xs)\/H p=some (.tup xs))/\flatV x=true/\xs.all flatV=true/\Q (.bl (neg != inV x xs)) H
 | _,_=>False
theorem inC:OpR X (compareOp .In) (rInC false):=(op_in_str.or op_in_seq).imp fun x y H Q q=>by
 unfold rInC at q
 split at q
 ·obtain⟨c,rfl,q⟩:=q
  exact .inl ⟨_,_,rfl,rfl,by rw[StrLaws.found_one];rw[fne]at q;exact q⟩
 ·obtain⟨xs,h,h1,h2,q⟩:=q
  rw[fne]at q
  rcases h with h | h
  ·exact .inr ⟨_,xs,rfl,.inl (SqL.of h),h1,h2,q⟩
  ·exact .inr ⟨_,xs,rfl,.inr (SqT.of h),h1,h2,q⟩
 ·exact q.elim
end
def dIn (neg:Bool):DOp:=fun x y μ K=>match x,y with
 | .str z,.str t=>∃ c:Nat,z=⟨#[c]⟩/\K (.bl (neg != decide (c∈t.cps.toList))) μ
 | x,y=>opt (lv μ y) fun ds=>fltD x=true/\ds.all fltD=true/\K (.bl (neg != ds.any fun d=>deq d x)) μ
theorem flt_is {φ:List Addr}{H:Hp}{d:D}{v:V}(i:DIs φ H d v)(h:fltD d=true):flatV v=true:=by
 cases d <;> first | exact(Bool.noConfusion (show false=true from h)) | (cases(show v=_ from i);rfl)
theorem flt_eq {φ:List Addr}{H:Hp}{d e:D}{v u:V}(i:DIs φ H d v)(j:DIs φ H e u)(h:fltD d=true)(h':fltD e=true):eqV v u=deq d e:=by
 cases d <;> first
  | exact(Bool.noConfusion (show false=true from h))
  | (cases(show v=_ from i)
     cases e <;> first
      | exact(Bool.noConfusion (show false=true from h'))
      | (cases(show u=_ from j);unfold eqV deq;rfl))
theorem flt_all {φ:List Addr}{H:Hp}{x:D}{v:V}(i:DIs φ H x v)(hx:fltD x=true):∀ {ds:List D} {vs:List V},DAll φ H ds vs->ds.all fltD=true->vs.all flatV=true/\inV v vs=ds.any fun d=>deq d x
 | [],_,h,_=>by cases(show _=[]from h);exact⟨rfl,rfl⟩
 | d::ds,_,h,f=>by
  obtain⟨u,r,rfl,h1,h2⟩:=h
  rw[cI,bz]at f
  obtain⟨a,b⟩:=flt_all i hx h2 f.2
  unfold inV at b ⊢
  rw[cI,bN,bN,a,b,flt_is h1 f.1,flt_eq h1 i f.1 hx]
  exact⟨rfl,rfl⟩
theorem so_in {neg:Bool}:SoOp (rInC neg) (dIn neg):=fun φ H x y dx dy μ K Q M hx hy k L=>by
 unfold dIn at k
 split at k
 ·cases(show x=_ from hx);cases(show y=_ from hy)
  obtain⟨c,rfl,k⟩:=k
  exact⟨c,rfl,L.val M k rfl⟩
 ·obtain⟨ds,el,f1,f2,k⟩:=opt_ex k
  obtain⟨p,vs,rfl,hp,ha⟩:=lv_is M hy el
  obtain⟨a,b⟩:=flt_all hx f1 ha f2
  have fx:=flt_is hx f1
  have key:∃ xs,(H p=some (.lst xs)\/H p=some (.tup xs))/\flatV x=true/\xs.all flatV=true/\Q (.bl (neg != inV x xs)) H:=⟨vs,.inl hp,fx,a,by rw[b];exact L.val M k rfl⟩
  unfold rInC
  cases x <;> exact key
theorem range_any (bs:List Bool):(List.range bs.length).any (fun i=>bs.getD i false)=bs.any id:=by
 rw[cw,List.any_eq_true,List.any_eq_true]
 constructor
 ·rintro⟨i,hi,e⟩
  have hi':i<bs.length:=by simpa using hi
  rw[bq,gxA hi']at e
  exact⟨_,List.getElem_mem hi',e⟩
 ·rintro⟨b,hb,e⟩
  obtain⟨i,hi,e2⟩:=cj hb
  refine⟨i,by simpa using hi,?_⟩
  rw[bq,gxA hi,e2]
  exact e
theorem anyC {X:Cx}(hc:X.calm=true):CallR X (.builtin "any") (rAllC fun bs=>bs.any id):=by
 intro pins s σ H vs us Q I rv h
 unfold rAllC at h
 split at h
 ·rename_i p
  obtain⟨bs,hp,q⟩:=h
  obtain⟨u,rfl,ru⟩:=rv.one
  cases ru
  obtain⟨z,its,n,r,hl,e⟩:=I.lstM hp
  have isl:s.heap.IsList p its.toArray:=⟨_,e,rfl,n,rfl⟩
  have lt:p≠s.heap.objs.size:=ao (gxN e)
  refine call_any_walk (wpAny_pyIter_list isl ⟨_,_,_,_,_,_,fun i=>bs.getD i false,rfl,Walks.list (A:=X.A.in1) (I.ok.hd hc) s.heap.objs.size p lt its.toArray,⟨⟨_,ak _ rfl,rfl,rfl⟩,isl.push _⟩,?_,fun h' tk kp=>?_⟩)
  ·intro i v s' Q' E' hv hq
   have hv':its[i]?=some v:=by simpa using hv
   have hb:∃ b,bs[i]?=some b/\v=.bool b:=by
    cases eb:(bs.map V.bl)[i]? with
    | none=>have:=r.none_of eb;rw[hv']at this;cases this
    | some y =>
     obtain⟨u,hu,ry⟩:=r.get eb
     rw[hv']at hu;cases hu
     rw[gxH]at eb
     cases e2:bs[i]? with
     | none=>rw[e2]at eb;cases eb
     | some b=>rw[e2]at eb;cases eb;exact⟨b,rfl,ry⟩
   obtain⟨b,eb,rfl⟩:=hb
   have e3:bs.getD i false=b:=by rw[bq,eb];rfl
   have hq':Q' (bs.getD i false) s':=hq
   rw[e3]at hq'
   exact bG hq'
  ·have I2:Inv X pins σ H { s with heap:=h',toks:=tk}:=I.kept fun b o e'=>kp b o (by simpa using ao (gxN e')) (gxL _ e')
   have len:its.toArray.size=bs.length:=by rw[ag,<- hl,gxC]
   rw[len,range_any]
   exact⟨.bl _,H,I2,rfl,q⟩
 ·exact h.elim
end L2
namespace L2
open PySem PySem.Spec PyProof.Rows
def BxQ (H:Hp)(b q:Addr):Prop:=∃(ns:List Int) (i r z:Int),H b=some (.lst [.ref q,.int i,.int r,.int z])/\H q=some (.lst (ns.map V.int))/\q≠b/\0<=i/\0<=z/\z<2147483647
def spTakeQ:Sp:=fun vs H Q _=>match vs with
 | [.ref b,.int n]=>∃ q,BxQ H b q/\0<n/\n<1073741824/\∀ v H',0<=v->v<n->BxQ H' b q->OB b H H'->Q (.int v) H'
 | _=>False
theorem spTakeQ_inv {vs:List V}{H:Hp}{Q:VK}{E:XK}(h:spTakeQ vs H Q E):∃ b n q,vs=[.ref b,.int n]/\BxQ H b q/\0<n/\n<1073741824/\∀ v H',0<=v->v<n->BxQ H' b q->OB b H H'->Q (.int v) H':=by
 unfold spTakeQ at h
 split at h
 ·obtain⟨q,h⟩:=h;exact⟨_,_,q,rfl,h⟩
 ·exact h.elim
def fTake:DSp:=fun ds μ K=>match ds with
 | [.mr k,.int n]=>μ[k]?=some .box/\0<n/\n<1073741824/\∀ v,0<=v->v<n->K (.int v) μ
 | _=>False
theorem take_imp {vs:List V}{H:Hp}{Q:VK}{E:XK}(h:spD fTake vs H Q E):spTakeQ vs H Q E:=by
 obtain⟨φ,ds,μ,K,ha,M,k,L⟩:=h
 unfold fTake at k
 split at k
 ·rename_i kk n
  obtain⟨v,r,rfl,h1,u,r',rfl,h2,h3⟩:=ha
  cases(show r'=[]from h3);cases(show u=_ from h2)
  obtain⟨b,hb,rfl⟩:=h1
  obtain⟨em,hn,hn2,k⟩:=k
  obtain⟨b',e1,q,ns,i,r,z,g1,g2,g3,g4,g5,g6⟩:=M.at_ kk _ em
  rw[hb]at e1;cases e1
  have bin:b∈φ:=gxD hb
  have qb:q≠b:=fun e=>g3 (by rw[e];exact bin)
  refine⟨q,⟨ns,i,r,z,g1,g2,qb,g4,g5,g6⟩,hn,hn2,fun v H' v0 v1 B' ob=>?_⟩
  obtain⟨ns',i',r',z',b1,b2,b3,b4,b5,b6⟩:=B'
  have f:Fr φ H φ H':=⟨⟨[],by simp,fun _ h=>nomatch h⟩,fun c o hc e=>(ob c (fun e'=>hc (by rw[e'];exact bin))).trans e,fun c e=>by
   by_cases hc:c=b
   ·rw[hc,b1]at e;cases e
   ·rw[<- ob c hc];exact e⟩
  refine L _ μ φ _ H' (k v v0 v1) f ⟨M.nd,M.len,fun j m ej=>?_⟩ rfl
  by_cases hj:j=kk
  ·subst hj
   rw[em]at ej;cases ej
   exact⟨b,hb,q,ns',i',r',z',b1,b2,g3,b4,b5,b6⟩
  ·obtain⟨p,e1,e2⟩:=M.at_ j m ej
   refine⟨p,e1,e2.mono f fun o eo=>?_⟩
   have pb:p≠b:=fun e=>by
    subst e
    obtain⟨i1,r1⟩:=gxB hb
    obtain⟨i2,r2⟩:=gxB e1
    rcases Nat.lt_or_gt_of_ne hj with z | z
    ·exact List.pairwise_iff_getElem.mp M.nd j kk i2 i1 z (r2.trans r1.symm)
    ·exact List.pairwise_iff_getElem.mp M.nd kk j i1 i2 z (r1.trans r2.symm)
   rw[ob p pb];exact eo
 ·exact k.elim
def spBoxQ (K:PySem.W.Frag):Sp:=fun vs H Q _=>match vs with
 | [.ref a]=>∃ ns:List Int,SqL K H a (ns.map V.int)/\∀ b q H',BxQ H' b q->H b=none->H q=none->Same H H'->Q (.ref b) H'
 | _=>False
theorem box_start {H:Hp}{b q:Addr}(h:BxQ H b q):MSis [b] H [.box]:=by
 obtain⟨ns,i,r,z,h1,h2,h3,h4,h5,h6⟩:=h
 refine⟨by simp,rfl,fun k m e=>?_⟩
 cases k with
 | zero=>cases e;exact⟨b,rfl,q,ns,i,r,z,h1,h2,by simpa using h3,h4,h5,h6⟩
 | succ k=>simp at e
mutual
def smD:Nat->D->Prop
 | n+1,.lst ds=>ds.length<=100000/\smL n ds
 | n+1,.tup ds=>ds.length<=100000/\smL n ds
 | 0,.lst _=>False
 | 0,.tup _=>False
 | _,.dic _ _=>False
 | _,.mr _=>False
 | _,.obj _ _ _=>False
 | _,.fdc _ _=>False
 | _,.fn _=>False
 | _,_=>True
def smL:Nat->List D->Prop
 | _,[]=>True
 | n,d::ds=>smD n d/\smL n ds
end
theorem smL_all {n:Nat}:∀ {ds:List D},(∀ d∈ds,smD n d)->smL n ds
 | [],_=>by unfold smL;trivial
 | d::ds,h=>by unfold smL;exact⟨h d aC,smL_all fun x hx=>h x (gxI _ hx)⟩
theorem sm_lst {n:Nat}{ds:List D}(hl:ds.length<=100000)(h:∀ d∈ds,smD n d):smD (n+1) (.lst ds):=by unfold smD;exact⟨hl,smL_all h⟩
theorem sm_tup {n:Nat}{ds:List D}(hl:ds.length<=100000)(h:∀ d∈ds,smD n d):smD (n+1) (.tup ds):=by unfold smD;exact⟨hl,smL_all h⟩
theorem sm_int {n:Nat}{i:Int}:smD n (.int i):=by cases n <;> (unfold smD;trivial)
theorem sm_str {n:Nat}{i:Str}:smD n (.str i):=by cases n <;> (unfold smD;trivial)
theorem sm_ints {n:Nat}{ns:List Int}(h:ns.length<=100000):smD (n+1) (.lst (ns.map D.int)):=sm_lst (by rw[gxC];exact h) fun d hd=>by
 obtain⟨i,_,rfl⟩:=List.mem_map.mp hd;exact sm_int
mutual
theorem sm_pu:∀ {n:Nat} {d:D},smD n d->puD n d:=fun {n d} h=>by
 cases d with
 | lst ds =>
  cases n with
  | zero=>exact absurd h (by unfold smD;exact id)
  | succ n=>unfold smD at h;unfold puD;exact sm_puL h.2
 | tup ds =>
  cases n with
  | zero=>exact absurd h (by unfold smD;exact id)
  | succ n=>unfold smD at h;unfold puD;exact sm_puL h.2
 | dic _ _=>exact absurd h (by cases n <;> (unfold smD;exact id))
 | mr _=>exact absurd h (by cases n <;> (unfold smD;exact id))
 | obj _ _ _=>exact absurd h (by cases n <;> (unfold smD;exact id))
 | fdc _ _=>exact absurd h (by cases n <;> (unfold smD;exact id))
 | fn _=>exact absurd h (by cases n <;> (unfold smD;exact id))
 | _=>cases n <;> (unfold puD;trivial)
theorem sm_puL:∀ {n:Nat} {ds:List D},smL n ds->puL n ds:=fun {n ds} h=>by
 cases ds with
 | nil=>unfold puL;trivial
 | cons d ds=>unfold smL at h;unfold puL;exact⟨sm_pu h.1,sm_puL h.2⟩
end
mutual
def toDV:D->DV
 | .non=>.non
 | .bl b=>.bl b
 | .int i=>.int i
 | .str z=>.str z
 | .lst ds=>.lst (toDVs ds)
 | .tup ds=>.tup (toDVs ds)
 | _=>.non
def toDVs:List D->List DV
 | []=>[]
 | d::ds=>toDV d::toDVs ds
end
theorem toDVs_len:∀ ds:List D,(toDVs ds).length=ds.length
 | []=>rfl
 | d::ds=>by unfold toDVs;rw[aJ,aJ,toDVs_len ds]
mutual
theorem sm_dv {φ:List Addr}{H:Hp}:∀ {n:Nat} {d:D},smD n d->(∀ v,DIs φ H d v->Is H (toDV d) v)/\dep (toDV d)<=n/\wid (toDV d)<=100000:=fun {n d} h=>by
 cases d with
 | lst ds =>
  cases n with
  | zero=>exact absurd h (by unfold smD;exact id)
  | succ n =>
   unfold smD at h
   obtain⟨a,b,c⟩:=sm_dvs (φ:=φ) (H:=H) h.2
   refine⟨fun v hv=>?_,?_,?_⟩
   ·obtain⟨p,vs,rfl,_,hp,q⟩:=hv
    unfold toDV
    exact⟨p,vs,rfl,hp,a vs q⟩
   ·unfold toDV dep;omega
   ·have:=toDVs_len ds
    unfold toDV wid;omega
 | tup ds =>
  cases n with
  | zero=>exact absurd h (by unfold smD;exact id)
  | succ n =>
   unfold smD at h
   obtain⟨a,b,c⟩:=sm_dvs (φ:=φ) (H:=H) h.2
   refine⟨fun v hv=>?_,?_,?_⟩
   ·obtain⟨p,vs,rfl,_,hp,q⟩:=hv
    unfold toDV
    exact⟨p,vs,rfl,hp,a vs q⟩
   ·unfold toDV dep;omega
   ·have:=toDVs_len ds
    unfold toDV wid;omega
 | non=>exact⟨fun v hv=>hv,aV _,aV _⟩
 | bl b=>exact⟨fun v hv=>hv,aV _,aV _⟩
 | int b=>exact⟨fun v hv=>hv,aV _,aV _⟩
 | str b=>exact⟨fun v hv=>hv,aV _,aV _⟩
 | dic _ _=>exact absurd h (by cases n <;> (unfold smD;exact id))
 | mr _=>exact absurd h (by cases n <;> (unfold smD;exact id))
 | obj _ _ _=>exact absurd h (by cases n <;> (unfold smD;exact id))
 | fdc _ _=>exact absurd h (by cases n <;> (unfold smD;exact id))
 | fn _=>exact absurd h (by cases n <;> (unfold smD;exact id))
theorem sm_dvs {φ:List Addr}{H:Hp}:∀ {n:Nat} {ds:List D},smL n ds->(∀ vs,DAll φ H ds vs->IsAll H (toDVs ds) vs)/\depL (toDVs ds)<=n/\widL (toDVs ds)<=100000:=fun {n ds} h=>by
 cases ds with
 | nil=>exact⟨fun vs hv=>hv,aV _,aV _⟩
 | cons d ds =>
  unfold smL at h
  obtain⟨a,b,c⟩:=sm_dv (φ:=φ) (H:=H) h.1
  obtain⟨a',b',c'⟩:=sm_dvs (φ:=φ) (H:=H) h.2
  refine⟨fun vs hv=>?_,?_,?_⟩
  ·obtain⟨v,r,rfl,h1,h2⟩:=hv
   unfold toDVs
   exact⟨v,r,rfl,a v h1,a' r h2⟩
  ·unfold toDVs depL;omega
  ·unfold toDVs widL;omega
end
def frzD (μ:MS):D->Option D
 | .mr k=>(lvM μ k).map .lst
 | x=>some x
theorem frzD_is {φ:List Addr}{H:Hp}{μ:MS}{x d:D}{v:V}{n:Nat}(M:MSis φ H μ)(e:frzD μ x=some d)(hs:smD n d)(h:DIs φ H x v):Is H (toDV d) v:=by
 cases x with
 | mr k =>
  obtain⟨p,hp,rfl⟩:=h
  have e':(lvM μ k).map D.lst=some d:=e
  cases q:lvM μ k with
  | none=>rw[q]at e';cases e'
  | some ds =>
   rw[q]at e';cases e'
   obtain⟨p',e1,vs,hv,ha⟩:=M.at_ k _ (lvM_eq q)
   rw[hp]at e1;cases e1
   cases n with
   | zero=>exact absurd hs (by unfold smD;exact id)
   | succ n =>
    unfold smD at hs
    unfold toDV
    exact⟨p,vs,rfl,hv,(sm_dvs (φ:=φ) (H:=H) hs.2).1 vs ha⟩
 | non=>cases e;exact(sm_dv (φ:=φ) (H:=H) hs).1 v h
 | bl b=>cases e;exact(sm_dv (φ:=φ) (H:=H) hs).1 v h
 | int b=>cases e;exact(sm_dv (φ:=φ) (H:=H) hs).1 v h
 | str b=>cases e;exact(sm_dv (φ:=φ) (H:=H) hs).1 v h
 | lst b=>cases e;exact(sm_dv (φ:=φ) (H:=H) hs).1 v h
 | tup b=>cases e;exact(sm_dv (φ:=φ) (H:=H) hs).1 v h
 | obj _ _ _=>cases e;exact(sm_dv (φ:=φ) (H:=H) hs).1 v h
 | fdc _ _=>cases e;exact(sm_dv (φ:=φ) (H:=H) hs).1 v h
 | fn _=>cases e;exact(sm_dv (φ:=φ) (H:=H) hs).1 v h
 | dic _ _=>cases e;exact absurd hs (by cases n <;> (unfold smD;exact id))
def fSame:DSp:=fun ds μ K=>match ds with
 | [x,y]=>∃ d,frzD μ x=some d/\frzD μ y=some d/\smD 5 d/\K (.bl true) μ
 | _=>False
theorem same_imp {vs:List V}{H:Hp}{Q:VK}{E:XK}(h:spD fSame vs H Q E):spSame 5 vs H Q E:=by
 obtain⟨φ,ds,μ,K,ha,M,k,L⟩:=h
 unfold fSame at k
 split at k
 ·obtain⟨v,r,rfl,h1,u,r',rfl,h2,h3⟩:=ha
  cases(show r'=[]from h3)
  obtain⟨d,e1,e2,hs,k⟩:=k
  obtain⟨a,b,c⟩:=sm_dv (φ:=φ) (H:=H) hs
  exact⟨toDV d,b,bV c (by decide),frzD_is M e1 hs h1,frzD_is M e2 hs h2,fun H' S=>L _ μ φ _ H' k (.same S) (M.same S) rfl⟩
 ·exact k.elim
theorem eqD_same {n:Nat}{x y:D}{μ:MS}{K:DK}(e:x=y)(h:smD n x)(hs:(sqs x x).isSome=true)(k:K (.bl true) μ):dEqD n false x y μ K:=by
 subst e
 refine⟨sm_pu h,sm_pu h,hs,?_⟩
 rw[deq_rfl x n (sm_pu h)]
 exact k
theorem compW_map {it:D->MS->(Option D->MS->Prop)->Prop}{c:MS->Prop}{μ:MS}(hc:c μ)(f:D->Option D):∀ {ds:List D} {K:List D->MS->Prop},(∀ d∈ds,∀(K':Option D->MS->Prop),K' (f d) μ->it d μ K')->K (ds.filterMap f) μ->compW it c ds μ K
 | [],K,_,k=>⟨hc,k⟩
 | d::ds,K,h,k=>⟨hc,h d aC _ (compW_map hc f (fun x hx=>h x (gxI _ hx)) (by
  cases e:f d with
  | none=>rw[List.filterMap_cons_none e]at k;exact k
  | some y=>rw[List.filterMap_cons_some e]at k;exact k))⟩
theorem forW_inv {g:DG}{b:Ds}{N:DN}{c:MS->Prop}(Pv:List D->DE->MS->Prop):∀ {ds:List D} {ρ:DE} {μ:MS},Pv ds ρ μ->(∀ d ds' ρ μ,Pv (d::ds') ρ μ->c μ/\∀(nx:DE->MS->Prop),(∀ ρ' μ',Pv ds' ρ' μ'->nx ρ' μ')->g d ρ μ fun ρ2 μ2=>b { N with nx:=nx,ct:=nx,bk:=N.nx} ρ2 μ2)->(∀ ρ μ,Pv [] ρ μ->c μ/\N.nx ρ μ)->forW g b N c ds ρ μ
 | [],ρ,μ,h,hs,hd=>hd ρ μ h
 | d::ds,ρ,μ,h,hs,hd=>by
  obtain⟨c',st⟩:=hs d ds ρ μ h
  exact⟨c',st _ fun ρ' μ' h'=>forW_inv Pv h' hs hd⟩
end L2
namespace L2
open PySem PySem.Spec PyProof.Rows
structure Bi2 (mg:Str->Option Value):Prop where
 len:mg "len"=none
 range:mg "range"=none
 list:mg "list"=none
 isinstance:mg "isinstance"=none
 max:mg "max"=none
 min:mg "min"=none
 bool:mg "bool"=none
 tuple:mg "tuple"=none
 str:mg "str"=none
 int:mg "int"=none
 all:mg "all"=none
 any:mg "any"=none
 zip:mg "zip"=none
 enumerate:mg "enumerate"=none
 reversed:mg "reversed"=none
 dict:mg "dict"=none
 sorted:mg "sorted"=none
abbrev txt (l:List Nat):Str:=⟨l.toArray⟩
def fBars:DSp:=fun ds μ K=>match ds with
 | [.mr k,.int n]=>μ[k]?=some .box/\1<=n/\n<=1000/\∀ l:List Nat,l.length=n.toNat->OX l->K (.str (txt l)) μ
 | _=>False
abbrev Tk:=List Nat×Int
def tkD (t:Tk):D:=.tup [.str (txt t.1),.int t.2]
structure Takes (n:Int)(ts:List Tk):Prop where
 few:ts.length<=20
 ok:∀ t∈ts,(t.1.length:Int)=n/\OX t.1/\0<=t.2/\t.2<=60
def fEnds:DSp:=fun ds μ K=>match ds with
 | [.int n,x]=>∃ cs:List Int,lv μ x=some (cs.map D.int)/\cs.length<=1000/\K (.lst ((endsOf n cs).map D.int)) μ
 | _=>False
theorem ends_map (n:Int)(cs:List Int):[D.int 0]++cs.map D.int++[D.int n]=(endsOf n cs).map D.int:=by unfold endsOf;simp
theorem sz {n:Nat}(h:n<=100000):n<=sizeLine:=aB h (by decide)
def prs (es:List Int):List (Int×Int):=es.zip es.tail
def prD (p:Int×Int):D:=.tup [.int p.1,.int p.2]
def fPieces:DSp:=fun ds μ K=>match ds with
 | [.int n,x]=>∃ cs:List Int,lv μ x=some (cs.map D.int)/\cs.length<=1000/\K (.lst ((prs (endsOf n cs)).map prD)) μ
 | _=>False
def cutN (l:List Nat)(a b:Int):List Nat:=cutL l (some a) (some b)
def bad (ts:List Tk)(p:Int×Int):Bool:=ts.all fun t=>decide (120∈cutN t.1 p.1 p.2)
def barOf (es:List Int)(ts:List Tk):Option (Int×Int):=(prs es).find? (bad ts)
def optPr:Option (Int×Int)->D
 | some p=>prD p
 | none=>.non
def fBarOf:DSp:=fun ds μ K=>match ds with
 | [.int n,x,y]=>∃(cs:List Int) (ts:List Tk),lv μ x=some (cs.map D.int)/\lv μ y=some (ts.map tkD)/\cs.length<=1000/\Takes n ts/\n<=1000/\K (optPr (barOf (endsOf n cs) ts)) μ
 | _=>False
theorem rngD_eq (lo:Int)(n:Nat):rngD lo n=((List.range n).map fun i=>lo+(i:Nat)).map D.int:=by unfold rngD;rw[aK];rfl
theorem rngD_len (lo:Int)(n:Nat):(rngD lo n).length=n:=by unfold rngD;rw[gxC,gxJ]
theorem atI_map {α β:Type}{g:α->β}{xs:List α}{i:Nat}{a:α}(h:xs[i]?=some a):atI (xs.map g) (i:Int)=some (g a):=atI_nat (by rw[gxH,h];rfl)
theorem txt_len (l:List Nat):(txt l).length=l.length:=lenS l
theorem cutL_le {α:Type}(l:List α)(lo hi:Option Int):(cutL l lo hi).length<=l.length:=cutL_len l lo hi
theorem set_end {μ:MS}{x y:MO}:(μ++[x]).set μ.length y=μ++[y]:=by
 rw[List.set_append_right _ _ (aa _),aQ];rfl
theorem un_of {k n:Nat}{A:Around}(hr:Room k A)(hn:n<=64):A.units+n<cLine:=by have:=hr.units;omega
theorem law_env {m:Nat}{b:Addr}{H:Hp}{x:Option V}:DEnv [b] H (none::some (.mr 0)::List.replicate m none) (x::some (.ref b)::List.replicate m none):=by
 refine⟨by simp,fun i d e=>?_⟩
 cases i with
 | zero=>cases e
 | succ i =>
  cases i with
  | zero=>cases e;exact⟨_,rfl,b,rfl,rfl⟩
  | succ i =>
   have:=cG (gxD (show(List.replicate m (none:Option D))[i]?=some (some d)from e))
   cases this
def lawN:DN:={ nx:=fun _ _=>False,rt:=fun d _=>d=.bl true}
theorem law_go {m:Nat}{b q a:Addr}{H:Hp}{Q:VK}{W:Ds}(B:BxQ H b q)(w:W lawN (none::some (.mr 0)::List.replicate m none) [.box])(k:∀ H',Q (.bl true) H'):tDS W { nx:=fun _ H'=>Q .non H',rt:=Q} (some (.ref a)::some (.ref b)::List.replicate m none) H :=
 ⟨[b],_,[.box],lawN,law_env,box_start B,w,⟨fun _ _ _ _ _ z=>z.elim,fun d μ' φ' v H' kd _ _ i=>by cases(show d=.bl true from kd);cases(show v=_ from i);exact k H',fun _ _ _ _ _ z=>z.elim,fun _ _ _ _ _ z=>z.elim⟩⟩
section
variable {κ:Type}[DecidableEq κ]
def valV (kvs:List (κ×V))(k:κ):Option V:=(kvs.find? fun kv=>decide (kv.1=k)).map (·.2)
def putK (kvs:List (κ×V))(k:κ)(v:V):List (κ×V) :=
 if(kvs.any fun kv=>decide (kv.1=k))=true then kvs.map (fun kv=>if kv.1=k then(kv.1,v)else kv)else kvs++[(k,v)]
theorem valV_pos {p:κ×V}{r:List (κ×V)}{k:κ}(e:p.1=k):valV (p::r) k=some p.2:=by simp[valV,bj,e]
theorem valV_neg {p:κ×V}{r:List (κ×V)}{k:κ}(e:¬ p.1=k):valV (p::r) k=valV r k:=by simp[valV,bj,e]
theorem valV_any (k:κ):∀ kvs:List (κ×V),(kvs.any fun kv=>decide (kv.1=k))=(valV kvs k).isSome
 | []=>rfl
 | p::r=>by
  rw[bN]
  by_cases e:p.1=k
  ·simp only[valV_pos e,au e,Bool.true_or,Option.isSome_some]
  ·rw[valV_neg e,ai e,Bool.false_or];exact valV_any k r
theorem length_putK (kvs:List (κ×V))(k:κ)(v:V):(putK kvs k v).length<=kvs.length+1:=by
 unfold putK
 split
 ·rw[gxC];omega
 ·rw[gxE,aJ,List.length_nil];omega
theorem RelO.isSome_eq {o:Option V}{u:Option Value}(r:RelO o u):o.isSome=u.isSome:=by
 cases o with
 | none=>cases u with
  | none=>rfl
  | some _=>exact(show False from r).elim
 | some _=>cases u with
  | none=>exact(show False from r).elim
  | some _=>rfl
theorem KV.val {kvs:List (κ×V)}{vs:List (κ×Value)}(r:KV kvs vs)(k:κ):RelO (valV kvs k) (valueAt vs k):=by
 unfold KV at r
 induction r with
 | nil=>exact True.intro
 | @cons p q ps qs h t ih =>
  obtain⟨h1,h2⟩:=h
  by_cases e:p.1=k
  ·have e':q.1=k:=h1.symm.trans e
   have b:valueAt (q::qs) k=some q.2:=by simp[valueAt,bj,e']
   rw[valV_pos e,b];exact h2
  ·have e':¬ q.1=k:=fun z=>e (h1.trans z)
   have b:valueAt (q::qs) k=valueAt qs k:=by simp[valueAt,bj,e']
   rw[valV_neg e,b];exact ih
theorem KV.any {kvs:List (κ×V)}{vs:List (κ×Value)}(r:KV kvs vs)(k:κ):(kvs.any fun kv=>decide (kv.1=k))=vs.any fun kv=>decide (kv.1=k):=by
 unfold KV at r
 induction r with
 | nil=>rfl
 | cons h t ih=>rw[bN,bN,ih,h.1]
theorem KV.repl {kvs:List (κ×V)}{vs:List (κ×Value)}(r:KV kvs vs)(k:κ){y:V}{u:Value}(ry:RelV y u) :
 KV (kvs.map fun kv=>if kv.1=k then(kv.1,y)else kv) (vs.map fun kv=>if kv.1=k then(kv.1,u)else kv):=by
 unfold KV at r ⊢
 induction r with
 | nil=>exact .nil
 | @cons p q ps qs h t ih =>
  rw[aq,aq]
  refine .cons ?_ ih
  obtain⟨h1,h2⟩:=h
  by_cases e:p.1=k
  ·rw[ar e,ar (h1.symm.trans e)];exact⟨h1,ry⟩
  ·rw[aj e,aj (fun z=>e (h1.trans z))];exact⟨h1,h2⟩
theorem KV.put {kvs:List (κ×V)}{vs:List (κ×Value)}(r:KV kvs vs)(k:κ){y:V}{u:Value}(ry:RelV y u):KV (putK kvs k y) (stored vs k u):=by
 unfold putK stored
 rw[r.any k]
 by_cases e:(vs.any fun kv=>decide (kv.1=k))=true
 ·rw[ar e,ar e];exact r.repl k ry
 ·rw[aj e,aj e];exact Paired.snoc r ⟨rfl,ry⟩
theorem KV.length {kvs:List (κ×V)}{vs:List (κ×Value)}(r:KV kvs vs):kvs.length=vs.length:=Paired.length r
end
theorem kV_is {P:Program}{w:World}{k:Key}{u:Value}(r:RelV (kV k) u):(mixKind P w).is k u=true:=by
 cases k with
 | inl i=>obtain⟨t,e⟩:=(show ∃ t,u=Value.int i t from r);subst e;exact mixKind_int P w i t
 | inr x=>obtain⟨t,e⟩:=(show ∃ t,u=Value.str x t from r);subst e;exact mixKind_str P w x t
theorem items_are {P:Program}{w:World}:∀ {ks:List Key} {us:List Value},Vals (ks.map kV) us->ItemsAre (mixKind P w) ks us
 | [],_,r=>by rw[List.map_nil]at r;cases r;exact .nil
 | k::ks,_,r=>by
  rw[aq]at r
  cases r with
  | cons h t=>exact .cons (kV_is h) (items_are t)
abbrev KT (H:Hp):List (List Key×V)->List (List Key×Addr×Value)->Prop:=Paired fun p q=>p.1=q.1/\H q.2.1=some (.tup (p.1.map kV))/\RelV p.2 q.2.2
theorem KT.val {H:Hp}{kvs:List (List Key×V)}{xs:List (List Key×Addr×Value)}(r:KT H kvs xs)(k:List Key):RelO (valV kvs k) ((atKey xs k).map (·.2)):=by
 induction r with
 | nil=>exact True.intro
 | @cons p q ps qs h t ih =>
  obtain⟨h1,_,h2⟩:=h
  by_cases e:p.1=k
  ·have e':q.1=k:=h1.symm.trans e
   have b:atKey (q::qs) k=some q.2:=by simp[atKey,bj,e']
   rw[valV_pos e,b];exact h2
  ·have e':¬ q.1=k:=fun z=>e (h1.trans z)
   have b:atKey (q::qs) k=atKey qs k:=by simp[atKey,bj,e']
   rw[valV_neg e,b];exact ih
theorem KT.repl {H:Hp}{kvs:List (List Key×V)}{xs:List (List Key×Addr×Value)}(r:KT H kvs xs)(k:List Key){y:V}{u:Value}(ry:RelV y u) :
 KT H (kvs.map fun kv=>if kv.1=k then(kv.1,y)else kv) (xs.map (putAt k u)):=by
 induction r with
 | nil=>exact .nil
 | @cons p q ps qs h t ih =>
  rw[aq,aq]
  refine .cons ?_ ih
  obtain⟨h1,h2,h3⟩:=h
  unfold putAt
  by_cases e:p.1=k
  ·rw[ar e,ar (h1.symm.trans e)];exact⟨h1,h2,ry⟩
  ·rw[aj e,aj (fun z=>e (h1.trans z))];exact⟨h1,h2,h3⟩
theorem KT.put {H:Hp}{kvs:List (List Key×V)}{xs:List (List Key×Addr×Value)}(r:KT H kvs xs)(k:List Key){b:Addr}{y:V}{u:Value}(hb:H b=some (.tup (k.map kV)))(ry:RelV y u) :
 KT H (putK kvs k y) (storedH xs k b u):=by
 have e:(kvs.any fun kv=>decide (kv.1=k))=(atKey xs k).isSome:=by
  rw[valV_any,(r.val k).isSome_eq,Option.isSome_map]
 unfold putK storedH
 rw[e]
 by_cases q:(atKey xs k).isSome=true
 ·rw[ar q,ar q];exact r.repl k ry
 ·rw[aj q,aj q];exact Paired.snoc r ⟨rfl,hb,ry⟩
theorem KT.keeps {H H':Hp}{kvs:List (List Key×V)}{xs:List (List Key×Addr×Value)}(r:KT H kvs xs)(ht:∀ b ys,H b=some (.tup ys)->H' b=some (.tup ys)):KT H' kvs xs :=
 Paired.mapP r fun _ _ z=>⟨z.1,ht _ _ z.2.1,z.2.2⟩
section
variable {P:Program}{w:World}{H:Hp}{h:Heap}{a:Addr}
theorem rd_of {u:HO}(ok:HOk P w H h)(e:Rd H a u):ObjOk P w H h a u:=e.ok ok
theorem dk_rd {kvs:List (Key×V)}(ok:HOk P w H h)(e:Rd H a (.dK kvs)):kvs.length<=sizeLine/\(a==sysModules)=false/\∃ vs,KV kvs vs/\h.DictOf (mixKind P w) a vs :=
 show ObjOk P w H h a (.dK kvs)from rd_of ok e
theorem dk_of {kvs:List (Key×V)}(ok:HOk P w H h)(e:H a=some (.dK kvs)):kvs.length<=sizeLine/\(a==sysModules)=false/\∃ vs,KV kvs vs/\h.DictOf (mixKind P w) a vs:=dk_rd ok (.inl e)
theorem key_of {ks:List Key}(ok:HOk P w H h)(e:H a=some (.tup (ks.map kV))):(tupleKind (mixKind P w)).is h ks a:=by
 obtain⟨_,its,r,o,h1,h2,n,h3⟩:=(show ObjOk P w H h a (.tup (ks.map kV))from ok a _ e)
 exact⟨o,its.toArray,n,h1,h2,h3,by simpa using items_are r⟩
theorem dt_rd {kvs:List (List Key×V)}(ok:HOk P w H h)(e:Rd H a (.dT kvs)):kvs.length<=sizeLine/\(a==sysModules)=false /\
 ∃ xs,KT H kvs xs/\h.DictOfH (tupleKind (mixKind P w)) a xs:=by
 obtain⟨z,y,xs,r,o,es,ep,h1,h2,h3,h4,h5⟩:=(show ObjOk P w H h a (.dT kvs)from rd_of ok e)
 refine⟨z,y,xs,r,o,es,ep,h1,h2,h3,h4,fun x hx=>?_,h5⟩
 have all:∀ {l:List (List Key×V)} {m:List (List Key×Addr×Value)},KT H l m->∀ x∈m,(tupleKind (mixKind P w)).is h x.1 x.2.1:=by
  intro l m q
  induction q with
  | nil=>intro x hx;exact nomatch hx
  | @cons p q ps qs hq t ih =>
   intro x hx
   rcases List.mem_cons.mp hx with e | hx
   ·subst e
    exact key_of ok (by rw[<- hq.1];exact hq.2.1)
   ·exact ih x hx
 exact all r x hx
theorem dt_of {kvs:List (List Key×V)}(ok:HOk P w H h)(e:H a=some (.dT kvs)):kvs.length<=sizeLine/\(a==sysModules)=false /\
 ∃ xs,KT H kvs xs/\h.DictOfH (tupleKind (mixKind P w)) a xs:=dt_rd ok (.inl e)
end
def DGet (H:Hp)(a:Addr)(y:V)(r:Option V):Prop :=
 (∃ kvs k,Rd H a (.dK kvs)/\y=kV k/\r=valV kvs k)\/∃ kvs k b,Rd H a (.dT kvs)/\y=.ref b/\H b=some (.tup (k.map kV))/\r=valV kvs k
def DPut (H:Hp)(a:Addr)(y v:V)(H':Hp):Prop :=
 (∃ kvs k,H a=some (.dK kvs)/\y=kV k/\kvs.length<sizeLine/\H'=upd H a (.dK (putK kvs k v))) \/
 ∃ kvs k b,H a=some (.dT kvs)/\y=.ref b/\H b=some (.tup (k.map kV))/\kvs.length<sizeLine/\H'=upd H a (.dT (putK kvs k v))
theorem DPut.k {H:Hp}{a:Addr}{kvs:List (Key×V)}{k:Key}{v:V}(e:H a=some (.dK kvs))(hl:kvs.length<sizeLine):DPut H a (kV k) v (upd H a (.dK (putK kvs k v))):=.inl ⟨kvs,k,e,rfl,hl,rfl⟩
section
variable {X:Cx}{pins:List (Addr×Obj)}{σ:St}{H:Hp}{s:Shared}{a:Addr}{y v:V}{u r:Value}{o:Option V}{A:Around}{E:Value->Shared->Prop}
theorem Inv.big (I:Inv X pins σ H s):sysModules<s.heap.objs.size:=by
 have h:mainGlobals<s.heap.objs.size:=(I.mod.glob.keeps I.bk).lt
 exact cY (by decide) h
theorem d_getItem {Q:Value->Shared->Prop}(hu:A.units+1<cLine)(I:Inv X pins σ H s)(g:DGet H a y (some v))(ry:RelV y u)(h:∀ w' s',Inv X pins σ H s'->RelV v w'->Q w' s') :
 wpAny (model X.prog X.w) A (getItem (.ref a) u) Q E s:=by
 rcases g with⟨kvs,k,e,ey,l⟩ | ⟨kvs,k,b,e,ey,eb,l⟩
 ·subst ey
  obtain⟨z,hd,vs,rel,dd⟩:=dk_rd I.hok e
  obtain⟨w',hw,rw'⟩:=RelO.some_of (v:=v) (o:=valueAt vs k) (by rw[l];exact rel.val k)
  exact wpAny_getItem_of (kV_is ry) dd.mapOf hw (h w' _ (I.tok _) rw')
 ·subst ey
  cases(show u=Value.ref b from ry)
  obtain⟨z,hd,xs,rel,dd⟩:=dt_rd I.hok e
  obtain⟨w',hw,rw'⟩:=RelO.some_of (v:=v) (o:=(atKey xs k).map (·.2)) (by rw[l];exact rel.val k)
  obtain⟨p,hp,hp2⟩:=Option.map_eq_some_iff.mp hw
  refine wpAny_getItem_heap (cN hu) (key_of I.hok eb) dd hp ?_
  rw[hp2]
  exact h w' _ (I.tok _) rw'
theorem d_in {Q:Value->Shared->Prop}(hu:A.units+1<cLine)(I:Inv X pins σ H s)(g:DGet H a y o)(ry:RelV y u)(h:∀ s',Inv X pins σ H s'->Q (.bool o.isSome) s') :
 wpAny (model X.prog X.w) A (compareOp .In u (.ref a)) Q E s:=by
 rcases g with⟨kvs,k,e,ey,l⟩ | ⟨kvs,k,b,e,ey,eb,l⟩
 ·subst ey
  obtain⟨z,hd,vs,rel,dd⟩:=dk_rd I.hok e
  refine wpAny_in_of (kV_is ry) hd dd.mapOf ?_
  rw[<- (rel.val k).isSome_eq,<- l]
  exact h _ (I.tok _)
 ·subst ey
  cases(show u=Value.ref b from ry)
  obtain⟨z,hd,xs,rel,dd⟩:=dt_rd I.hok e
  refine wpAny_in_heap (cN hu) (key_of I.hok eb) hd dd ?_
  have q:=(rel.val k).isSome_eq
  rw[Option.isSome_map]at q
  rw[<- q,<- l]
  exact h _ (I.tok _)
theorem d_notIn {Q:Value->Shared->Prop}(hu:A.units+1<cLine)(I:Inv X pins σ H s)(g:DGet H a y o)(ry:RelV y u)(h:∀ s',Inv X pins σ H s'->Q (.bool (!o.isSome)) s') :
 wpAny (model X.prog X.w) A (compareOp .NotIn u (.ref a)) Q E s:=by
 rcases g with⟨kvs,k,e,ey,l⟩ | ⟨kvs,k,b,e,ey,eb,l⟩
 ·subst ey
  obtain⟨z,hd,vs,rel,dd⟩:=dk_rd I.hok e
  refine wpAny_notIn_of (kV_is ry) hd dd.mapOf ?_
  rw[<- (rel.val k).isSome_eq,<- l]
  exact h _ (I.tok _)
 ·subst ey
  cases(show u=Value.ref b from ry)
  obtain⟨z,hd,xs,rel,dd⟩:=dt_rd I.hok e
  refine wpAny_notIn_heap (cN hu) (key_of I.hok eb) hd dd ?_
  have q:=(rel.val k).isSome_eq
  rw[Option.isSome_map]at q
  rw[<- q,<- l]
  exact h _ (I.tok _)
theorem d_write {h':Heap}{t':Nat}{ob:HO}(I:Inv X pins σ H s)(mu:Mut (H a))(hs:Heap.SameBut a s.heap h')(he:∃ q,h'.get? a=some q)(new:ObjOk X.prog X.w (upd H a ob) h' a ob) :
 Inv X pins σ (upd H a ob) { s with heap:=h',toks:=t'} :=
 I.write (x:=a) (e:=a) mu (.inl rfl) (fun b q hb z=>(hs.2 b hb).trans z) he new
theorem dk_new {P:Program}{w:World}{H':Hp}{h':Heap}{kvs:List (Key×V)}{vs:List (Key×Value)}(z:kvs.length<=sizeLine)(hd:(a==sysModules)=false)(rel:KV kvs vs)(dd:h'.DictOf (mixKind P w) a vs) :
 ObjOk P w H' h' a (.dK kvs):=⟨z,hd,vs,rel,dd⟩
theorem d_setItem {H':Hp}{Q:Unit->Shared->Prop}(hu:A.units+1<cLine)(I:Inv X pins σ H s)(g:DPut H a y v H')(ry:RelV y u)(rv:RelV v r)(h:∀ s',Inv X pins σ H' s'->Q () s') :
 wpAny (model X.prog X.w) A (setItem (.ref a) u r) Q E s:=by
 rcases g with⟨kvs,k,e,ey,l,eH⟩ | ⟨kvs,k,b,e,ey,eb,l,eH⟩
 ·subst ey eH
  obtain⟨z,hd,vs,rel,dd⟩:=dk_of I.hok e
  have hz:vs.length<=sizeLine:=by rw[<- rel.length];exact z
  have hl:(putK kvs k v).length<=sizeLine:=by have:=length_putK kvs k v;omega
  refine wpAny_setItem_pairs (hsz:=hz) (kV_is ry) dd fun h' dd' hs=>h _ ?_
  have he:∃ q,h'.get? a=some q:=let ⟨q,_,_,hq,_⟩:=dd';⟨q,hq⟩
  exact d_write I (by rw[e];exact True.intro) hs he (dk_new hl hd (rel.put k rv) dd')
 ·subst ey eH
  cases(show u=Value.ref b from ry)
  obtain⟨z,hd,xs,rel,dd⟩:=dt_of I.hok e
  have hz:xs.length<=sizeLine:=by rw[<- Paired.length rel];exact z
  have hl:(putK kvs k v).length<=sizeLine:=by have:=length_putK kvs k v;omega
  refine wpAny_setItem_heap (hsz:=hz) (cN hu) (key_of I.hok eb) dd fun h' dd' hs=>h _ ?_
  obtain⟨q,es,ep,hq,h2,h3,h4,_,h5⟩:=dd'
  refine d_write I (by rw[e];exact True.intro) hs ⟨q,hq⟩ ⟨hl,hd,_,(rel.put k eb rv).keeps fun c ys ec=>?_,q,es,ep,hq,h2,h3,h4,h5⟩
  rw[upd_ne (ne_of ec e (fun z=>nomatch z))]
  exact ec
end
section
variable {X:Cx}{pins:List (Addr×Obj)}{σ:St}{H:Hp}{s:Shared}{a:Addr}{kvs:List (Key×V)}{k:Key}{u:Value}{A:Around}{E:Value->Shared->Prop}
theorem d_len {Q:Value->Shared->Prop}(I:Inv X pins σ H s)(e:Rd H a (.dK kvs))(h:∀ t s',Inv X pins σ H s'->Q (.int kvs.length t) s'):wpAny (model X.prog X.w) A (call (.builtin "len") [.ref a]) Q E s:=by
 obtain⟨z,hd,vs,rel,dd⟩:=dk_rd I.hok e
 refine call_len_dict hd dd (by rw[<- rel.length];rw[sizeLine_eq]at z;omega) ?_
 rw[<- rel.length]
 exact h _ _ (I.tok _)
end
def NoSl (i:Expr):Prop:=∀ ov iv,subscripted i false ov iv=operate [ov,iv] (getItem ov iv)
theorem subD_of {prog:Program}{w:World}{A:Around}{E:Value->Shared->Prop}{s:Shared}{env:Env}{value slice:Expr}{pos:Pos}{T id:String}{Q:Value->Shared->Prop}
 (hl:typeLookup (.type T) "__getitem__"=pure (some (.builtin id))) (hs:NoSl slice)
 (h:wpAny (model prog w) A (eval value env) (fun o s₁=>wpAny (model prog w) A (eval slice env) (fun i s₂=>s₂.TypeIs o T/\wpAny (model prog w) A (getItem o i) Q E s₂) E s₁) E s) :
 wpAny (model prog w) A (eval (.Subscript value slice pos) env) Q E s:=by
 refine Subscript_ (a9 h (fun o s₁ h₁=>a9 h₁ (fun i s₂ h₂=>?_) fun _ _ x=>x) fun _ _ x=>x)
 obtain⟨hT,h₂⟩:=h₂
 unfold subscriptTail
 refine gxM ?_
 rw[getitemInPython_of_ne hT.not_modules]
 refine gxM (wpAny_specialOf hT hl ?_)
 have fin:wpAny (model prog w) A (subscripted slice false o i) (fun r s₃=>wpAny (model prog w) A (letTemporaryGo value o r >>= fun _=>pure r) Q E s₃) E s₂:=by
  rw[hs o i]
  exact wpAny_operating (a9 h₂ (fun r s₃ h₃=>gxM (wpAny_letTemporaryGo (ae h₃))) fun _ _ x=>x)
 first
  | exact ae (gxM fin)
  | exact gxM (ae (gxM fin))
  | exact gxM fin
theorem dict_typeIs {X:Cx}{pins:List (Addr×Obj)}{σ:St}{H:Hp}{s:Shared}{a:Addr}{y:V}{o:Option V}(I:Inv X pins σ H s)(g:DGet H a y o):s.TypeIs (.ref a) "dict":=by
 rcases g with⟨kvs,k,e,_,_⟩ | ⟨kvs,k,b,e,_,_,_⟩
 ·obtain⟨_,_,vs,_,dd⟩:=dk_rd I.hok e
  exact dd.typeIs
 ·obtain⟨_,_,xs,_,dd⟩:=dt_rd I.hok e
  exact dd.typeIs
def tDGet (td ty:TE):TE:=fun σ H Q=>td σ H fun x H1=>ty σ H1 fun y H2=>∃ a v,x=.ref a/\DGet H2 a y (some v)/\Q v H2
def tDIn (ty td:TE):TE:=fun σ H Q=>ty σ H fun y H1=>td σ H1 fun x H2=>∃ a o,x=.ref a/\DGet H2 a y o/\Q (.bl o.isSome) H2
def tDNotIn (ty td:TE):TE:=fun σ H Q=>ty σ H fun y H1=>td σ H1 fun x H2=>∃ a o,x=.ref a/\DGet H2 a y o/\Q (.bl (!o.isSome)) H2
def sDPut (td ty tv:TE):TS:=fun D σ H=>tv σ H fun v H1=>td σ H1 fun x H2=>ty σ H2 fun y H3=>∃ a H4,x=.ref a/\DPut H3 a y v H4/\D.nx σ H4
section
variable {X:Cx}{o i e value:Expr}{pos pos' tpos:Pos}{td ty tv:TE}
theorem pe_dget (hu:X.A.units+1<cLine)(ho:PE X o td)(hi:PE X i ty)(hs:NoSl i):PE X (.Subscript o i pos) (tDGet td ty):=by
 intro pins s σ H Q I h
 refine subD_of PySem.F.slot_dict_getitem.lookup hs (thn (ho pins s σ H _ I h) fun u s1 hq6=>?_)
 obtain⟨x,H1,I1,rx,q1⟩:=hq6
 refine thn (hi pins s1 σ H1 _ I1 q1) fun iv s2 hq0=>?_
 obtain⟨y,H2,I2,ry,a,v,ex,g,q2⟩:=hq0
 subst ex
 obtain rfl:u=Value.ref a:=rx
 exact⟨dict_typeIs I2 g,d_getItem hu I2 g ry fun w' s3 I3 rw'=>⟨v,H2,I3,rw',q2⟩⟩
theorem pc_din (hu:X.A.units+1<cLine)(hi:PE X i ty)(ho:PE X o td):PC X .In i o (tDIn ty td):=by
 intro pins s σ H Q I h
 refine thn (hi pins s σ H _ I h) fun iv s1 hq1=>?_
 obtain⟨y,H1,I1,ry,q1⟩:=hq1
 refine thn (ho pins s1 σ H1 _ I1 q1) fun u s2 hq2=>?_
 obtain⟨x,H2,I2,rx,a,ov,ex,g,q2⟩:=hq2
 subst ex
 obtain rfl:u=Value.ref a:=rx
 exact d_in hu I2 g ry fun s3 I3=>⟨.bl ov.isSome,H2,I3,rfl,q2⟩
theorem pc_dnotin (hu:X.A.units+1<cLine)(hi:PE X i ty)(ho:PE X o td):PC X .NotIn i o (tDNotIn ty td):=by
 intro pins s σ H Q I h
 refine thn (hi pins s σ H _ I h) fun iv s1 hq3=>?_
 obtain⟨y,H1,I1,ry,q1⟩:=hq3
 refine thn (ho pins s1 σ H1 _ I1 q1) fun u s2 hq4=>?_
 obtain⟨x,H2,I2,rx,a,ov,ex,g,q2⟩:=hq4
 subst ex
 obtain rfl:u=Value.ref a:=rx
 exact d_notIn hu I2 g ry fun s3 I3=>⟨.bl (!ov.isSome),H2,I3,rfl,q2⟩
theorem ps_dput (hu:X.A.units+1<cLine)(ho:PE X o td)(hi:PE X i ty)(hv:PE X value tv)(hs:swapsWith value (some (.Subscript o i pos')) pos.line X.env=pure false) :
 PS X (.Assign [.Subscript o i pos'] value pos) (sDPut td ty tv):=by
 intro pins s σ H D I h
 refine wpAny_Assign_Subscript (thn (hv pins s σ H _ I h) fun r s1 hq5=>?_) hs
 obtain⟨v,H1,I1,rv,q1⟩:=hq5
 refine thn (ho pins s1 σ H1 _ I1 q1) fun u s2 hq6=>?_
 obtain⟨x,H2,I2,rx,q2⟩:=hq6
 refine thn (hi pins s2 σ H2 _ I2 q2) fun iv s3 hq0=>?_
 obtain⟨y,H3,I3,ry,a,H4,ex,g,q3⟩:=hq0
 subst ex
 obtain rfl:u=Value.ref a:=rx
 exact d_setItem hu I3 g ry rv fun s4 I4=>⟨σ,H4,I4,q3⟩
end
theorem dk_empty {P:Program}{w:World}{H:Hp}(h:Heap)(hb:sysModules<h.objs.size):ObjOk P w H (h.push { cls:=.type "dict",data:=.dict #[]}) h.objs.size (.dK []) :=
 ⟨aV _,beq_eq_false_iff_ne.mpr (aO (ao hb)),[],.nil,Heap.DictOf.new h⟩
def tDNewK:TE:=fun _ H Q=>∀ p,H p=none->Q (.ref p) (upd H p (.dK []))
section
variable {X:Cx}{pos:Pos}
theorem pe_dnewK:PE X (.Dict [] [] pos) tDNewK:=fun pins s σ H Q I h =>
 wpAny_Dict_empty ⟨.ref s.heap.objs.size,_,I.laid (a:=s.heap.objs.size) (o:=.dK []) (t':=s.toks) (fun _ _ q=>gxL _ q) (aa _) (dk_empty s.heap I.big),rfl,h _ (I.hok.fresh (aa _))⟩
end
structure M1 (X:Cx)(o:Expr)(m:Str)(apos:Pos)(e:Expr)(cpos:Pos):Prop where
 base:attributeBase o m X.env (eval o X.env)=eval o X.env
 few:((backTo cpos (starEach [e] X.env)).all (fun x=>!x.1)&&(backToKw cpos (keywordEach [] X.env)).all (fun x=>x.1.isSome)
  && decide (([e]:List Expr).length+([]:List Keyword).length+(if([]:List Keyword).isEmpty then 0 else 1)<30))=true
 line:(apos.endLine==cpos.line)=true
 trees:backTo cpos (starEach [e] X.env)=[(false,eval e X.env)]
structure M2 (X:Cx)(o:Expr)(m:Str)(apos:Pos)(e f:Expr)(cpos:Pos):Prop where
 base:attributeBase o m X.env (eval o X.env)=eval o X.env
 few:((backTo cpos (starEach [e,f] X.env)).all (fun x=>!x.1)&&(backToKw cpos (keywordEach [] X.env)).all (fun x=>x.1.isSome)
  && decide (([e,f]:List Expr).length+([]:List Keyword).length+(if([]:List Keyword).isEmpty then 0 else 1)<30))=true
 line:(apos.endLine==cpos.line)=true
 trees:backTo cpos (starEach [e,f] X.env)=[(false,eval e X.env),(false,eval f X.env)]
section
variable {X:Cx}{pins:List (Addr×Obj)}{σ:St}{H:Hp}{s:Shared}{a:Addr}{kvs:List (Key×V)}{A:Around}{E:Value->Shared->Prop}
theorem d_copyOf {Q:Value->Shared->Prop}(I:Inv X pins σ H s)(e:Rd H a (.dK kvs))(h:∀ p s',H p=none->Inv X pins σ (upd H p (.dK kvs)) s'->Q (.ref p) s'):wpAny (model X.prog X.w) A (call (.type "dict") [.ref a]) Q E s:=by
 obtain⟨z,hd,vs,rel,dd⟩:=dk_rd I.hok e
 refine kt_call_dict hd dd (by rw[<- rel.length];exact z) fun h' dd' hs=>?_
 refine h _ _ (I.hok.fresh (aa _)) (I.laid (a:=s.heap.objs.size) (o:=.dK kvs) (t':=s.toks) (fun b q hq=>?_) (aa _) (dk_new z (beq_eq_false_iff_ne.mpr (aO (ao I.big))) rel dd'))
 exact(hs.2 b (ao (gxN hq))).trans (gxL _ hq)
end
def cxE (X:Cx)(N:List Str)(sc:Scope)(fp:List Addr)(s:Shared)(H:Hp):Cx where
 prog:=X.prog
 w:=X.w
 K:=X.K
 mg:=X.mg
 base:=X.base
 A:=X.A
 N:=N
 s₀:=s
 H₀:=H
 env:=envC sc s.heap.objs.size X.env
 outer:=X.stack
 stack:=X.stack
 ex:=fp
 fn:=fun x=>sc.names.lookup x==some .cell
 calm:=X.calm
 pn:=[]
 xe:=fun _ _=>False
def heapE (sc:Scope)(h:Heap):Heap:=pushCells (h.push { cls:=.type "dict",data:=.dict #[]}) sc.names
theorem heapE_keeps {sc:Scope}{h:Heap}:∀ b o,h.get? b=some o->(heapE sc h).get? b=some o:=fun b o e=>cL _ _ b o (gxL _ e)
section
variable {X:Cx}{pins:List (Addr×Obj)}{σ:St}{H:Hp}{s:Shared}{N:List Str}{js:List (Option Nat)}{sc:Scope}{fp:List Addr}
theorem inv_compE (I:Inv X pins σ H s)(hc:CompOk X N js sc)(hf:∀ b∈fp,FpOk X pins H b)(ho:∀ b∈fp,∃ o,s.heap.get? b=some o)(tk:Nat) :
 Inv (cxE X N sc fp s H) [] (startC js σ) H { s with heap:=heapE sc s.heap,toks:=tk}:=by
 have freeX:∀ y∈sc.names,y.2=.free->∃ c,X.env.cells.lookup y.1=some c:=fun y hy e=>I.ok.has y.1 (hc.free y hy e)
 have ok:=cellsFrom_ok sc.names (s.heap.push { cls:=.type "dict",data:=.dict #[]}) (s.heap.objs.size+1) [] ⟨fun _ _ hm=>(nomatch hm),List.Pairwise.nil⟩
  (by rw[a6];exact aa _)
 rw[a6]at ok
 have eC:(envC sc s.heap.objs.size X.env).cells=cellsFrom (s.heap.objs.size+1) sc.names []++closOf X.env.cells sc.names []:=cellsFrom_app sc.names _ [] _
 have lk:∀ x c,(envC sc s.heap.objs.size X.env).cells.lookup x=some c->(x,c)∈cellsFrom (s.heap.objs.size+1) sc.names []\/X.env.cells.lookup x=some c:=fun x c e=>by
  rw[eC]at e
  rcases List.mem_append.mp (mem_of_lookup e)with h | h
  ·exact .inl h
  ·rcases closOf_mem freeX x c h with h | h
   ·cases h
   ·exact .inr h
 have big:∀(x:Str) (c:Nat),(x,c)∈cellsFrom (s.heap.objs.size+1) sc.names []->s.heap.objs.size+1<=c:=fun x c h=>(ok.empty x c h).2
 have small:∀(x:Str) (c:Nat),X.env.cells.lookup x=some c->c<s.heap.objs.size:=fun x c h=>let ⟨_,q⟩:=I.cell x c h;q.lt
 have has:∀ x,((envC sc s.heap.objs.size X.env).kindOf x=some .cell\/(envC sc s.heap.objs.size X.env).kindOf x=some .free)->∃ c,(envC sc s.heap.objs.size X.env).cells.lookup x=some c:=fun x h=>by
  have h':(relabel sc X.env).names.lookup x=some .cell\/(relabel sc X.env).names.lookup x=some .free:=h
  rw[lookup_relabel]at h'
  rw[eC,cQ]
  cases q:sc.names.lookup x with
  | none=>rw[q]at h';rcases h' with h' | h' <;> cases h'
  | some k =>
   rw[q]at h'
   have hk:=relK_vis (env:=X.env) (x:=x) (k:=k) (h'.elim (fun z=>.inl (aI z)) fun z=>.inr (aI z))
   rcases hk with rfl | rfl
   ·obtain⟨c,hc'⟩:=cell_has (n:=s.heap.objs.size+1) q
    exact⟨c,by rw[hc'];rfl⟩
   ·have z:=closOf_has (cells:=X.env.cells) sc.names [] x (mem_of_lookup q)
    obtain⟨c,hc'⟩:=Option.isSome_iff_exists.mp z
    cases q2:(cellsFrom (s.heap.objs.size+1) sc.names []).lookup x with
    | none=>exact⟨c,by rw[hc'];rfl⟩
    | some d=>exact⟨d,rfl⟩
 have okY:(cxE X N sc fp s H).Ok:=by
  refine⟨I.ok.mod,hc.kind,I.ok.glob,I.ok.blt,aa _,fun x y c h1 h2=>?_,has,fun x c hx h=>?_,I.ok.hd,I.ok.frames,.inl rfl,fun b hb=>⟨?_,fun x c h=>?_⟩,I.bs,aB I.ok.bsz I.sz,fun b o e hb=>?_,fun b hb hs=>?_,I.stack,I.stkFree⟩
  ·rcases lk x c h1 with g1 | g1 <;> rcases lk y c h2 with g2 | g2
   ·exact name_of_addr ok.apart g1 g2
   ·exact absurd (aA (small _ _ g2) (aB (aX _ 1) (big _ _ g1))) (bu _)
   ·exact absurd (aA (small _ _ g1) (aB (aX _ 1) (big _ _ g2))) (bu _)
   ·exact I.ok.inj x y c g1 g2
  ·have hx':sc.names.lookup x=some .cell:=by simpa [cxE]using hx
   have h':(envC sc s.heap.objs.size X.env).cells.lookup x=some c:=h
   rw[eC,cQ]at h'
   obtain⟨c2,hc'⟩:=cell_has (n:=s.heap.objs.size+1) hx'
   rw[hc']at h'
   have e:c2=c:=aI h'
   subst e
   exact aB (aX _ 1) (big _ _ (mem_of_lookup hc'))
  ·obtain⟨o,e⟩:=ho b hb
   exact ao (gxN e)
  ·obtain⟨o,e⟩:=ho b hb
   have l:=gxN e
   rcases lk x c h with g | g
   ·exact aR (aA l (aB (aX _ 1) (big _ _ g)))
   ·exact(hf b hb).2.2.2.2.1 x c g
  ·rcases(hf b hb).2.2.2.1 with z | z
   ·exact I.ok.noex b o e z
   ·exact absurd (aA (gxN e) (aB I.ok.bsz z)) (bu _)
  ·rcases List.mem_cons.mp (I.stkSub b hs)with z | z
   ·exact(hf b hb).2.1 z
   ·exact(hf b hb).2.2.1 z
 have keepH:∀ b u,s.heap.get? b=some u->(heapE sc s.heap).get? b=some u:=heapE_keeps
 have nsC:(heapE sc s.heap).Ns s.heap.objs.size fun _=>none:=by
  have q:=(Heap.Ns.new s.heap (.type "dict")).keeps (cL sc.names _)
  exact q
 refine⟨okY,rfl,I.bare,Un.kept keepH,⟨_,nsC,fun i x v e1 e2 e3=>?_⟩,fun x c h=>?_,I.hok.fresh (aa _),fun x c h=>?_,fun p hp=>absurd (show p∈([]:List (Addr×Obj))from hp) (by simp),I.hok.kept keepH,?_⟩
 ·obtain⟨j,hj,hv⟩:=getStart e2
  obtain⟨g1,g2,g3,g4⟩:=hc.slot i x j e1 hj
  have kx:=hc.free _ g2 rfl
  obtain⟨m,hn,hl⟩:=I.loc
  obtain⟨u,r,l⟩:=hl j x v g1 hv (.inr kx)
  refine⟨u,r,?_⟩
  rcases l with⟨z,_⟩ | ⟨_,c,hcc,hcell⟩
  ·have z':X.env.kindOf x=some .local:=z
   rcases kx with k | k <;> (have k':X.env.kindOf x=_:=k;rw[z']at k';cases k')
  ·have kY:(envC sc s.heap.objs.size X.env).kindOf x=some .cell\/(envC sc s.heap.objs.size X.env).kindOf x=some .free:=by
    show(relabel sc X.env).names.lookup x=some .cell\/(relabel sc X.env).names.lookup x=some .free
    rw[lookup_relabel,g3]
    rcases relK_free (env:=X.env) (x:=x)with q | q
    ·exact .inl (show some (relK X.env x .free)=_ by rw[q])
    ·exact .inr (show some (relK X.env x .free)=_ by rw[q])
   obtain⟨c',h'⟩:=has x kY
   refine .inr ⟨kY,c',h',?_⟩
   rcases lk x c' h' with g | g
   ·rcases cellsFrom_mem _ _ _ _ _ g with z | z
    ·exact absurd z g4
    ·cases z
   ·rw[hcc]at g;cases g
    exact hcell.keeps keepH
 ·rcases lk x c h with g | g
  ·exact⟨_,(ok.empty x c g).1⟩
  ·obtain⟨v,q⟩:=I.cell x c g
   exact⟨v,q.keeps keepH⟩
 ·rcases lk x c h with g | g
  ·exact I.hok.fresh (aB (aX _ 1) (big _ _ g))
  ·exact I.freeC x c g
 ·show(startC js σ).length=N.length
  unfold startC
  rw[gxC];exact hc.len
end
theorem compLoopD_any {prog:Program}{w:World}{A:Around}{R:Result->Shared->Prop}{s:Shared}{kx vx target iter:Expr}{ifs:List Expr}{scope:Scope}{pos:Pos}{it:Value}{D:Addr}{env:Env}(I:Nat->Shared->Prop)
 (turn:∀ n s,I n s->wpAny (model prog w) A (pyNext it) (fun r s₁=>match r with
   | none=>R (.ok .next) s₁
   | some v=>wpAny (model prog w) A (letOwnedTupleGo target it v) (fun _ s₁'=>wpAny (model prog w) A (assign target env v) (fun _ s₂ =>
    wpAny (model prog w) A (forIn ifs true fun c r=>if r=true then do let ok <- isTrue c env (eval c env);pure (ForInStep.yield ok)else pure (ForInStep.yield r)) (fun ok s₃ =>
     if ok=true then wpAny (model prog w) A (eval kx env) (fun kv s₄=>wpAny (model prog w) A (eval vx env) (fun vv s₅ =>
      wpAny (model prog w) A (dictSet D kv vv) (fun _ s₆=>∃ m,m<n/\I m s₆) (fun _ _=>False) s₅) (fun _ _=>False) s₄) (fun _ _=>False) s₃
     else ∃ m,m<n/\I m s₃) (fun _ _=>False) s₂) (fun _ _=>False) s₁') (fun _ _=>False) s₁) (fun _ _=>False) s)
 (n:Nat) (h:I n s) :
 codeAny (model prog w) A (.compLoop (.DictComp kx vx [⟨target,iter,ifs,0⟩] scope pos) 0 it (.ref D) env) R s:=by
 refine codeAny_loop rfl I (fun n s hI=>?_) n h
 show wpAny _ A ((compTurn (.DictComp kx vx [⟨target,iter,ifs,0⟩] scope pos) 0 it (.ref D) env).onRaise (fun x=>do noteFrame x env;theTreesLotGoes x)) _ _ s
 refine wpAny_noted ?_
 rw[compTurn_dict]
 refine gxM (wpAny_standAt (gxM (a9 (turn n s hI) (fun r s₁ h₁=>?_) fun _ _ h'=>h'.elim)))
 cases r with
 | none=>exact ae h₁
 | some v =>
  refine gxM (a9 h₁ (fun _ s₁' h₁'=>?_) fun _ _ h'=>h'.elim)
  refine gxM (a9 h₁' (fun _ s₂ h₂=>gxM (a9 h₂ (fun ok s₃ h₃=>?_) fun _ _ h'=>h'.elim)) fun _ _ h'=>h'.elim)
  cases ok with
  | false=>exact ae ⟨rfl,h₃⟩
  | true =>
   exact gxM (gxM (a9 h₃ (fun x s₄ h₄=>gxM (ba (a9 h₄ (fun y s₅ h₅=>gxM (wpAny_standAt (ba (a9 h₅ (fun _ s₆ h₆=>ae ⟨rfl,h₆⟩) fun _ _ h'=>h'.elim)))) fun _ _ h'=>h'.elim))) fun _ _ h'=>h'.elim))
def wCompD (js:List (Option Nat))(g:TG)(tt:TT)(tk tv:TE)(J:It)(σ:St)(D:Addr)(H1:Hp)(fin:List (Key×V)->Hp->Prop):Prop :=
 ∃ W:Nat->Nat->List (Key×V)->Hp->Prop,(∃ m,W 0 m [] H1)/\∀ i m kvs H,W i m kvs H ->
  (J.stop i H/\fin kvs H)\/(J.go i H/\∀ x H',J.yld i H x H'->g x (startC js σ) H' fun σ2 H2=>Ext (startC js σ) σ2/\tt σ2 H2 fun b H3 =>
    if b=true then tk σ2 H3 fun k H4=>tv σ2 H4 fun v H5=>∃(kk:Key) (kvs':List (Key×V)),k=kV kk/\H5 D=some (.dK kvs')/\kvs'.length<sizeLine/\∃ m',m'<m/\W (i+1) m' (putK kvs' kk v) (upd H5 D (.dK (putK kvs' kk v)))else ∃ m',m'<m/\W (i+1) m' kvs H3)
section
variable {X:Cx}{pins:List (Addr×Obj)}{σ:St}{H:Hp}{s:Shared}
theorem dict_set {A:Around}{E:Value->Shared->Prop}{a:Addr}{kvs:List (Key×V)}{k:Key}{u r:Value}{v:V}{Q:Unit->Shared->Prop}(I:Inv X pins σ H s)(e:H a=some (.dK kvs))(l:kvs.length<sizeLine)(ry:RelV (kV k) u)(rv:RelV v r)
 (h:∀ s',Inv X pins σ (upd H a (.dK (putK kvs k v))) s'->Q () s'):wpAny (model X.prog X.w) A (dictSet a u r) Q E s:=by
 obtain⟨z,hd,vs,rel,dd⟩:=dk_of I.hok e
 have hz:vs.length<=sizeLine:=by rw[<- rel.length];exact z
 have hl:(putK kvs k v).length<=sizeLine:=by have:=length_putK kvs k v;omega
 refine wpAny_dictSet_pairs (hsz:=hz) (kV_is ry) dd fun h' dd' hs=>h _ ?_
 have he:∃ q,h'.get? a=some q:=let ⟨q,_,_,hq,_⟩:=dd';⟨q,hq⟩
 exact d_write I (by rw[e];exact True.intro) hs he (dk_new hl hd (rel.put k rv) dd')
variable {N:List Str}{js:List (Option Nat)}{sc:Scope}{fp:List Addr}{tg kx vx iter:Expr}{ifs:List Expr}{g:TG}{tt:TT}{tk tv:TE}
theorem compD_block {J:It}{it D:Addr}{tn:Nat->Heap->Prop}{pos:Pos}{R:Result->Shared->Prop}{fin:List (Key×V)->Hp->Prop}{tok:Nat}(I:Inv X pins σ H s)(hc:CompOk X N js sc)(calm:X.calm=true)
 (T:Turn X.prog X.w X.K tg J fp it tn) (st:tn 0 s.heap) (hf:∀ b∈fp,FpOk X pins H b)
 (hg:PG (cxE X N sc fp s H) tg g) (ht:PTs (cxE X N sc fp s H) ifs tt) (hk:PE (cxE X N sc fp s H) kx tk) (hv:PE (cxE X N sc fp s H) vx tv) (q:wCompD js g tt tk tv J σ D H fin)
 (hR:∀ s' H' kvs m,Inv X pins σ H' s'->fin kvs H'->s'.heap.Ns s.heap.objs.size m->H' s.heap.objs.size=none->R (.ok .next) s') :
 codeAny (model X.prog X.w) X.A (.compStart (.DictComp kx vx [⟨tg,iter,ifs,0⟩] sc pos) 0 (.ref it) (.ref D) (envC sc s.heap.objs.size X.env)) R { s with heap:=heapE sc s.heap,toks:=tok}:=by
 have hob:∀ b∈fp,∃ o,s.heap.get? b=some o:=fun b hb=>let ⟨o,e,_⟩:=T.obj 0 s.heap st b hb;⟨o,e⟩
 have I0:=inv_compE I hc hf hob tok
 have okY:=I0.ok
 obtain⟨W,⟨m0,w0⟩,turn⟩:=q
 have stat:∀ {H':Hp},(∀ b∈fp,H' b=none)->∀ b∈fp,FpOk (cxE X N sc fp s H) [] H' b:=fun {H'} hn b hb =>
  ⟨hn b hb,(okY.exf b hb).1,okY.exfs b hb,.inl hb,(okY.exf b hb).2,fun p hp=>absurd (show p∈([]:List (Addr×Obj))from hp) (by simp)⟩
 have st0:tn 0 (heapE sc s.heap):=T.keep 0 _ _ st fun b _ o e=>heapE_keeps b o e
 have loop:codeAny (model X.prog X.w) X.A (.compLoop (.DictComp kx vx [⟨tg,iter,ifs,0⟩] sc pos) 0 (.ref it) (.ref D) (envC sc s.heap.objs.size X.env)) R { s with heap:=heapE sc s.heap,toks:=tok}:=by
  refine compLoopD_any (fun n s'=>∃ i kvs H',Inv (cxE X N sc fp s H) [] (startC js σ) H' s'/\tn i s'.heap/\(∀ b∈fp,H' b=none)/\W i n kvs H') ?_ m0
   ⟨0,[],H,I0,st0,fun b hb=>(hf b hb).1,w0⟩
  rintro n s3 ⟨i,kvs,H3,I3,st3,fr3,w3⟩
  rcases turn i n kvs H3 w3 with⟨stop,qf⟩ | ⟨go,step⟩
  ·refine thn (T.done (cxE X N sc fp s H) rfl rfl rfl calm i _ s3 _ H3 _ I3 (stat fr3) st3 stop) fun r s4 hq1=>?_
   obtain⟨hr,I4⟩:=hq1
   subst hr
   show R (.ok .next) s4
   obtain⟨m,hns,_⟩:=I4.loc
   have IX:Inv X pins σ H3 s4:=I.call' (ch:=fp) I4.os I4.base I4.hok I4.bare fun b hb=>by
    obtain⟨f0,f1,f2,f3,f4,f5⟩:=hf b hb
    exact⟨f3,f1,f4,f5⟩
   exact hR s4 H3 kvs m IX qf hns I4.free
  ·refine thn (T.item (cxE X N sc fp s H) rfl rfl rfl calm i _ s3 _ H3 _ I3 (stat fr3) st3 go) fun r s4 hq2=>?_
   obtain⟨u,hr,h4⟩:=hq2
   subst hr
   refine thn h4 fun _ s5 hq3=>?_
   obtain⟨x,H5,I5,r5,y5,st5,fr5⟩:=hq3
   have I5':=I5.pinned (stat fr5) (T.obj _ _ st5)
   refine thn (hg _ s5 _ H5 x u _ I5' r5 (step x H5 y5)) fun _ s6 ⟨σ6,H6,I6,⟨ext6,q6⟩⟩=>?_
   refine thn (ht _ s6 σ6 H6 _ I6 q6) fun b s7 hq4=>?_
   obtain⟨H7,I7,q7⟩:=hq4
   have back:∀ {s':Shared} {H':Hp},Inv (cxE X N sc fp s H) ([]++pinsAt fp s5.heap) σ6 H' s'->tn (i+1) s'.heap/\(∀ b∈fp,H' b=none)/\Inv (cxE X N sc fp s H) [] (startC js σ) H' s':=fun {s' H'} I'=>by
    refine⟨T.keep _ _ _ st5 fun b hb o e=>(I'.pin (b,o) (aF _ (aF _ (mem_pinsAt hb e)))).1,fun b hb=>?_,(I'.weak ext6.1 ext6.2).unpinned⟩
    obtain⟨o,e,d⟩:=T.obj _ _ st5 b hb
    exact(I'.pin (b,o) (aF _ (aF _ (mem_pinsAt hb e)))).2.1
   cases b with
   | false =>
    obtain⟨m',hm,w7⟩:=q7
    obtain⟨t7,f7,I7'⟩:=back I7
    exact⟨m',hm,i+1,kvs,H7,I7',t7,f7,w7⟩
   | true =>
    refine thn (hk _ s7 σ6 H7 _ I7 q7) fun y s8 hq5=>?_
    obtain⟨yk,H8,I8,ry,q8⟩:=hq5
    refine thn (hv _ s8 σ6 H8 _ I8 q8) fun z s9 hq6=>?_
    obtain⟨zv,H9,I9,rz,kk,kvs',ek,eD,hl,m',hm,w9⟩:=hq6
    subst ek
    refine dict_set (X:=cxE X N sc fp s H) I9 eD hl ry rz fun s10 I10=>?_
    obtain⟨t8,f8,I8'⟩:=back I10
    exact⟨m',hm,i+1,_,_,I8',t8,f8,w9⟩
 exact codeAny_compStart_dict loop (T.self _ 0 _ _ _ st0 loop)
def tCompD (wi:TI)(js:List (Option Nat))(g:TG)(tt:TT)(tk tv:TE):TE:=fun σ H Q=>wi σ H fun J H1=>∀ D,H1 D=none->wCompD js g tt tk tv J σ D (upd H1 D (.dK [])) fun _ H'=>Q (.ref D) H'
end
def keyD:D->Option Key
 | .int i=>some (.inl i)
 | .str z=>some (.inr z)
 | _=>none
theorem keyD_is {φ:List Addr}{H:Hp}{d:D}{v:V}{k:Key}(e:keyD d=some k)(i:DIs φ H d v):v=kV k:=by
 cases d with
 | int n=>cases e;exact i
 | str z=>cases e;exact i
 | _=>cases e
def dput (kvs:List (Key×D))(k:Key)(d:D):List (Key×D):=if(kvs.any fun kv=>decide (kv.1=k))=true then kvs.map (fun kv=>if kv.1=k then(kv.1,d)else kv)else kvs++[(k,d)]
def dval (kvs:List (Key×D))(k:Key):Option D:=(kvs.find? fun kv=>decide (kv.1=k)).map (·.2)
theorem dput_len (kvs:List (Key×D))(k:Key)(d:D):(dput kvs k d).length<=kvs.length+1:=by
 unfold dput
 split
 ·rw[gxC];omega
 ·rw[gxE,aN];omega
def dItemD (ρ:DE)(y:DG)(t:Dt)(wk wv:De)(d:D)(μ:MS)(K:Option (Key×D)->MS->Prop):Prop:=y d ρ μ fun ρ2 μ2=>t ρ2 μ2 fun b μ3=>if b=true then wk ρ2 μ3 fun kd μ4=>opt (keyD kd) fun k=>wv ρ2 μ4 fun v μ5=>K (some (k,v)) μ5 else K none μ3
theorem Fr.noext {φ φ':List Addr}{H H':Hp}(f:Fr φ H φ' H')(hl:φ'.length=φ.length):φ'=φ:=by
 obtain⟨⟨ψ,rfl,_⟩,_,_⟩:=f
 rw[gxE]at hl
 have:ψ=[]:=List.length_eq_zero_iff.mp (by omega)
 rw[this,aZ]
section
variable {X:Cx}{a b e:Expr}{es:List Expr}{pos:Pos}
variable {N:List Str}{js:List (Option Nat)}{sc:Scope}{tg kx vx iter:Expr}{ifs:List Expr}{g:TG}{y:DG}{S:List Nat}{t:Dt}{wk wv:De}
theorem dval_get {φ:List Addr}{H:Hp}{ks:List Key}:∀ {ds:List D} {kvs:List (Key×V)} {k:Key} {d:D},kvs.map (·.1)=ks->DAll φ H ds (kvs.map (·.2))->dval (ks.zip ds) k=some d->∃ v,valV kvs k=some v/\DIs φ H d v:=by
 intro ds kvs
 induction kvs generalizing ks ds with
 | nil=>intro k d h1 h2 h3;cases h1;cases h3
 | cons p kvs ih =>
  intro k d h1 h2 h3
  cases ks with
  | nil=>cases h1
  | cons k0 ks =>
   cases ds with
   | nil=>cases(show _=_ from h2)
   | cons d0 ds =>
    obtain⟨v,r,e,h4,h5⟩:=h2
    simp only[aq,bZ]at h1 e
    obtain⟨rfl,rfl⟩:=e
    obtain⟨rfl,h1⟩:=h1
    rw[cP]at h3
    unfold dval at h3
    rw[bj]at h3
    by_cases hk:p.1=k
    ·simp only[hk,decide_true]at h3
     cases h3
     exact⟨p.2,valV_pos hk,h4⟩
    ·simp only[hk,decide_false]at h3
     obtain⟨v,a,b⟩:=ih h1 h5 (k:=k) (d:=d) h3
     exact⟨v,by rw[valV_neg hk];exact a,b⟩
end
section
variable {X:Cx}{N:List Str}{sc:Scope}{js:List (Option Nat)}{tg iter kx vx:Expr}{ifs:List Expr}{g:TG}{tt:TT}{tk tv:TE}
theorem pe_compD {wi:TI}{pos:Pos}(hc:CompOk X N js sc)(calm:X.calm=true)(hi:PI X tg iter wi)(hg:∀ fp s H,PG (cxE X N sc fp s H) tg g)
 (ht:∀ fp s H,PTs (cxE X N sc fp s H) ifs tt) (hk:∀ fp s H,PE (cxE X N sc fp s H) kx tk) (hv:∀ fp s H,PE (cxE X N sc fp s H) vx tv)
 (hs:∀ x,foldedSetIterable iter X.env x=pure x:=by intro _;rfl):PE X (.DictComp kx vx [⟨tg,iter,ifs,0⟩] sc pos) (tCompD wi js g tt tk tv):=by
 intro pins s σ H Q I h
 rw[show eval (.DictComp kx vx [⟨tg,iter,ifs,0⟩] sc pos) X.env=comprehension (.DictComp kx vx [⟨tg,iter,ifs,0⟩] sc pos) sc X.env (firstIterPos [⟨tg,iter,ifs,0⟩] pos) newDict (firstAsync [⟨tg,iter,ifs,0⟩]) (firstIter [⟨tg,iter,ifs,0⟩] X.env)from rfl]
 refine b8 (use:=none) rfl hs (closureFor_eq fun y hy e=>I.ok.has y.1 (hc.free y hy e)) hc.kind hc.loc (thn (hi pins s σ H _ I h) fun v s1 h1=>thn h1 fun itv s2 h2=>?_)
 obtain⟨it,fp,tn,J,H2,e,I2,T,st2,f2,q⟩:=h2
 subst e
 refine a8 (newEnv_comp ?_)
 have hD:H2 s2.heap.objs.size=none:=I2.hok.fresh (aa _)
 have I3:Inv X pins σ (upd H2 s2.heap.objs.size (.dK [])) { s2 with heap:=s2.heap.push { cls:=.type "dict",data:=.dict #[]}}:=I2.laid (t':=s2.toks) (fun _ _ q=>gxL _ q) (aa _) (dk_empty s2.heap I2.big)
 have hC:(s2.heap.push { cls:=.type "dict",data:=.dict #[]}).objs.size=s2.heap.objs.size+1:=a6 ..
 have st3:tn 0 (s2.heap.push { cls:=.type "dict",data:=.dict #[]}):=T.keep 0 _ _ st2 fun b _ o e=>gxL _ e
 have hob:∀ b∈fp,b≠s2.heap.objs.size:=fun b hb=>let ⟨o,e,_⟩:=T.obj 0 s2.heap st2 b hb;ao (gxN e)
 have f3:∀ b∈fp,FpOk X pins (upd H2 s2.heap.objs.size (.dK [])) b:=fun b hb=>⟨by rw[upd_ne (hob b hb)];exact(f2 b hb).1,(f2 b hb).2⟩
 refine compD_block (s:={ s2 with heap:=s2.heap.push { cls:=.type "dict",data:=.dict #[]}}) (tok:=s2.toks) I3 hc calm T st3 f3 (hg fp _ _) (ht fp _ _) (hk fp _ _) (hv fp _ _) (q s2.heap.objs.size hD) fun s' H' kvs m IX qf nC hn=>?_
 have hlt:s2.heap.objs.size<(s2.heap.push { cls:=.type "dict",data:=.dict #[]}).objs.size:=by rw[hC];exact bL _
 have neC:∀(b:Addr) (o:Obj),s2.heap.get? b=some o->b≠(s2.heap.push { cls:=.type "dict",data:=.dict #[]}).objs.size:=fun b o e=>ao (cY (gxN e) hlt)
 refine⟨m,nC,fun h' sb=>?_⟩
 have IY:Inv X pins σ H' { s' with heap:=h'}:=IX.turned (t':=s'.toks) (it:=(s2.heap.push { cls:=.type "dict",data:=.dict #[]}).objs.size) (fun b o hb e=>(sb.2 b hb).trans e) hn
  (aR (cY I2.lt hlt)) (.inr (Nat.le_of_lt (bV I2.sz hlt))) (fun x c e=>let ⟨v,z⟩:=I2.cell x c e;ao (cY z.lt hlt)) (fun p hp=>neC _ _ (I2.pin p hp).1)
 exact⟨.ref _,_,IY,rfl,qf⟩
variable {y:DG}{S:List Nat}{t:Dt}{wk wv:De}
end
theorem old_app {μ g:MS}(hm:∀(j:Nat) (m:MO),μ[j]?=some m->moB μ.length m):∀(j:Nat) (m:MO),j<μ.length->(μ++g)[j]?=some m->moB μ.length m:=fun j m hj e=>by
 rw[gxF hj]at e;exact hm j m e
theorem cutD_to {α:Type}(g:α->D)(ts:List α)(k:Nat):cutD (ts.map g) none (some (k:Int))=(ts.take k).map g:=by
 unfold cutD
 rw[HT.sIx_none,HT.sIx_nat,gxC,List.drop_zero,Nat.sub_zero,<- List.map_take]
 congr 1
 rcases Nat.le_total k ts.length with h | h
 ·rw[bY h]
 ·rw[Nat.min_eq_right h,aU (aa _),aU h]
end L2
namespace L2
theorem nLf {ds:List D}{μ:MS}{K:DK}(h:K (.lst ds) μ):nL false ds μ K:=h
end L2
namespace L2
open PySem PySem.Spec PyProof.Rows
theorem compW_gen {α:Type}{it:D->MS->(Option D->MS->Prop)->Prop}{c:MS->Prop}{μ:MS}(hc:c μ)(g:α->D)(f:α->Option D):∀ {xs:List α} {K:List D->MS->Prop},(∀ x∈xs,∀(K':Option D->MS->Prop),K' (f x) μ->it (g x) μ K')->K (xs.filterMap f) μ->compW it c (xs.map g) μ K
 | [],K,_,k=>⟨hc,k⟩
 | x::xs,K,h,k=>⟨hc,h x aC _ (compW_gen hc g f (fun y hy=>h y (gxI _ hy)) (by
  cases e:f x with
  | none=>rw[List.filterMap_cons_none e]at k;exact k
  | some y=>rw[List.filterMap_cons_some e]at k;exact k))⟩
theorem compW_all {α:Type}{it:D->MS->(Option D->MS->Prop)->Prop}{c:MS->Prop}{μ:MS}(hc:c μ)(g f:α->D){xs:List α}{K:List D->MS->Prop}(h:∀ x∈xs,∀(K':Option D->MS->Prop),K' (some (f x)) μ->it (g x) μ K')(k:K (xs.map f) μ):compW it c (xs.map g) μ K:=by
 refine compW_gen hc g (fun x=>some (f x)) h ?_
 rw[List.filterMap_eq_map']
 exact k
theorem atI_maps {α:Type}{g:α->D}{xs:List α}{k:Nat}{x:α}(h:xs[k]?=some x):atI (xs.map g) (k:Int)=some (g x):=atI_map h
end L2
namespace L2
end L2
namespace L2
open PySem PySem.Spec PyProof.Rows
theorem Room.le {j k:Nat}{A:Around}(r:Room k A)(h:j<=k:=by first | decide | exact aa _ | omega):Room j A:=r.mono h
theorem lo {sc:Scope}{x:Str}(h:Loc sc x:=by first | exact Or.inl rfl | exact Or.inr rfl):Loc sc x:=h
theorem mr_all {n:Nat}:∀ {ds:List D},(∀ d∈ds,mrB n d)->mrL n ds
 | [],_=>by unfold mrL;trivial
 | d::ds,h=>by unfold mrL;exact⟨h d aC,mr_all fun x hx=>h x (gxI _ hx)⟩
end L2
namespace L2
end L2
namespace L2
open PySem PySem.Spec PyProof.Rows
def joinT (a b:Tk)(p:Int):Tk:=(a.1.take p.toNat++b.1.drop p.toNat,max a.2 b.2+1)
def fJoined:DSp:=fun ds μ K=>match ds with
 | [.tup [.str z,.int a],.tup [.str y,.int b],.int p]=>∃ x u:Tk,z=txt x.1/\a=x.2/\y=txt u.1/\b=u.2/\0<=p/\x.1.length<=1000/\u.1.length<=1000/\K (tkD (joinT x u p)) μ
 | _=>False
section
variable {X:Cx}{e:Expr}{pos:Pos}
def dDNew:De:=fun _ μ K=>K (.mr μ.length) (μ++[.dic [] []])
theorem d_dnew:PD X (.Dict [] [] pos) dDNew:=pe_dnewK.imp fun σ H Q ⟨φ,ρ,μ,K,A,M,k,L⟩=>fun p hp=>by
 obtain⟨M',f⟩:=M.snoc (o:=.dK []) (m:=.dic [] []) hp ⟨[],[],upd_same,rfl,rfl,rfl⟩
 exact L _ _ _ _ _ k f M' ⟨p,by rw[gxG (by rw[M.len];exact aa _),M.len,aQ];rfl,rfl⟩
end
theorem neD_same {n:Nat}{x y:D}{μ:MS}{K:DK}(e:x=y)(h:smD n x)(hs:(sqs x x).isSome=true)(k:K (.bl false) μ):dEqD n true x y μ K:=by
 subst e
 refine⟨sm_pu h,sm_pu h,hs,?_⟩
 rw[deq_rfl x n (sm_pu h)]
 exact k
theorem kV_of {k:Key}{u:Value}(h:keyIs k u=true):RelV (kV k) u:=by
 rcases keyIs_shape h with⟨i,t,rfl,rfl⟩ | ⟨x,t,rfl,rfl⟩
 ·exact⟨t,rfl⟩
 ·exact⟨t,rfl⟩
theorem pair_at {κ:Type}{kvs:List (κ×V)}{vs:List (κ×Value)}(h:KV kvs vs):∀ {i:Nat} {p:κ×V},kvs[i]?=some p->∃ v,vs[i]?=some (p.1,v):=by
 unfold KV at h
 induction h with
 | nil=>intro i p e;simp at e
 | @cons a b as bs r _ ih =>
  intro i p e
  cases i with
  | zero =>
   simp at e
   subst e
   refine⟨b.2,?_⟩
   rw[r.1];rfl
  | succ i=>exact ih (by simpa using e)
theorem freeze {X:Cx}{pins:List (Addr×Obj)}{σ:St}{H:Hp}{s:Shared}{a:Addr}{kvs:List (Key×V)}(I:Inv X pins σ H s)(e:Rd H a (.dK kvs)):∃ o vs ep,KV kvs vs/\(∀ h:Heap,h.get? a=some o->h.DictAt (mixKind X.prog X.w) a vs ep)/\s.heap.DictAt (mixKind X.prog X.w) a vs ep/\(a==sysModules)=false/\Inv X pins σ (upd H a (.frz o (.dK kvs))) s:=by
 obtain⟨z,hd,vs,rel,dd⟩:=dk_rd I.hok e
 obtain⟨ep,da⟩:=dd.dictAt
 obtain⟨o,es,ho,r⟩:=id da
 refine⟨o,vs,ep,rel,fun h e=>⟨o,es,e,r⟩,da,hd,?_⟩
 rcases e with e | ⟨o',e⟩
 ·exact d_write (t':=s.toks) I (by rw[e];exact True.intro) ⟨rfl,fun b _=>rfl⟩ ⟨o,ho⟩ ⟨ho,dk_new z hd rel dd⟩
 ·have ho':s.heap.get? a=some o':=(show ObjOk X.prog X.w H s.heap a (.frz o' (.dK kvs))from I.hok a _ e).1
  rw[ho]at ho'
  cases ho'
  have:upd H a (.frz o (.dK kvs))=H:=by
   funext b
   unfold upd
   split
   ·rename_i q;rw[q,e]
   ·rfl
  rw[this];exact I
def keyV:Key->D
 | .inl i=>.int i
 | .inr z=>.str z
theorem keyV_is {φ:List Addr}{H:Hp}(k:Key):DIs φ H (keyV k) (kV k):=by cases k <;> rfl
def dicM (μ:MS)(k:Nat):Option (List Key×List D):=match μ[k]? with | some (.dic ks ds)=>some (ks,ds) | some (.fdic _ kvs ds)=>some (kvs.map (·.1),ds) | _=>none
theorem dicM_is {φ:List Addr}{H:Hp}{μ:MS}{k:Nat}{ks:List Key}{ds:List D}{v:V}(M:MSis φ H μ)(i:DIs φ H (.mr k) v)(h:dicM μ k=some (ks,ds)):∃ p kvs,φ[k]?=some p/\v=.ref p/\Rd H p (.dK kvs)/\kvs.map (·.1)=ks/\DAll φ H ds (kvs.map (·.2)):=by
 obtain⟨p,hp,rfl⟩:=i
 unfold dicM at h
 split at h
 ·rename_i e;cases h
  obtain⟨q,e1,kvs,vs,h1,h2,h3,h4⟩:=M.at_ k _ e
  rw[hp]at e1;cases e1
  subst h3
  exact⟨p,kvs,hp,rfl,.inl h1,h2,h4⟩
 ·rename_i e;cases h
  obtain⟨q,e1,h1,h4⟩:=M.at_ k _ e
  rw[hp]at e1;cases e1
  exact⟨p,_,hp,rfl,.inr ⟨_,h1⟩,rfl,h4⟩
 ·cases h
theorem dval_rel {φ:List Addr}{H:Hp}{ks:List Key}:∀ {ds:List D} {kvs:List (Key×V)} (k:Key),kvs.map (·.1)=ks->DAll φ H ds (kvs.map (·.2))->(dval (ks.zip ds) k=none/\valV kvs k=none)\/∃ d v,dval (ks.zip ds) k=some d/\valV kvs k=some v/\DIs φ H d v:=by
 intro ds kvs
 induction kvs generalizing ks ds with
 | nil=>intro k h1 h2;cases h1;exact .inl ⟨rfl,rfl⟩
 | cons p kvs ih =>
  intro k h1 h2
  cases ks with
  | nil=>cases h1
  | cons k0 ks =>
   cases ds with
   | nil=>cases(show _=_ from h2)
   | cons d0 ds =>
    obtain⟨v,r,e,h4,h5⟩:=h2
    simp only[aq,bZ]at h1 e
    obtain⟨rfl,rfl⟩:=e
    obtain⟨rfl,h1⟩:=h1
    rw[cP]
    unfold dval
    rw[bj]
    by_cases hk:p.1=k
    ·simp only[hk,decide_true]
     exact .inr ⟨_,_,rfl,valV_pos hk,h4⟩
    ·simp only[hk,decide_false]
     rw[valV_neg hk]
     exact ih k h1 h5
theorem dput_rel {φ:List Addr}{H:Hp}{k:Key}{d:D}{v:V}(hd:DIs φ H d v){kd:List (Key×D)}{kv:List (Key×V)}(e:kv.map (·.1)=kd.map (·.1))(ha:DAll φ H (kd.map (·.2)) (kv.map (·.2))):(putK kv k v).map (·.1)=(dput kd k d).map (·.1)/\DAll φ H ((dput kd k d).map (·.2)) ((putK kv k v).map (·.2)):=by
 have ea:(kv.any fun p=>decide (p.1=k))=kd.any fun p=>decide (p.1=k):=by
  have:(kv.map (·.1)).any (fun x=>decide (x=k))=(kd.map (·.1)).any fun x=>decide (x=k):=by rw[e]
  rw[List.any_map,List.any_map]at this
  exact this
 unfold putK dput
 rw[ea]
 by_cases q:(kd.any fun p=>decide (p.1=k))=true
 ·rw[ar q,ar q]
  clear q ea
  induction kd generalizing kv with
  | nil =>
   cases kv with
   | nil=>exact⟨rfl,rfl⟩
   | cons _ _=>cases e
  | cons p kd ih =>
   cases kv with
   | nil=>cases e
   | cons p' kv =>
    simp only[aq,bZ]at e
    obtain⟨v0,r,e2,h4,h5⟩:=ha
    simp only[aq,bZ]at e2
    obtain⟨rfl,rfl⟩:=e2
    obtain⟨i1,i2⟩:=ih e.2 h5
    by_cases hk:p.1=k
    ·have hk':p'.1=k:=by rw[e.1,hk]
     simp only[aq,ar hk,ar hk']
     exact⟨by rw[i1,e.1],_,_,rfl,hd,i2⟩
    ·have hk':¬ p'.1=k:=by rw[e.1];exact hk
     simp only[aq,aj hk,aj hk']
     exact⟨by rw[i1,e.1],_,_,rfl,h4,i2⟩
 ·rw[aj q,aj q,aS,aS,aS,aS]
  exact⟨by rw[e];rfl,ha.app ⟨v,[],rfl,hd,rfl⟩⟩
section
variable {X:Cx}{a b e:Expr}{pos:Pos}
def ixM (μ:MS)(j:Nat)(y:D):Option (Option D):=(dicM μ j).bind fun q=>(keyD y).map fun k=>dval (q.1.zip q.2) k
theorem ixM_ex {μ:MS}{j:Nat}{y:D}{o:Option D}(h:ixM μ j y=some o):∃ ks ds k,dicM μ j=some (ks,ds)/\keyD y=some k/\dval (ks.zip ds) k=o:=by
 unfold ixM at h
 cases e:dicM μ j with
 | none=>rw[e]at h;cases h
 | some q =>
  rw[e]at h
  cases e2:keyD y with
  | none=>rw[e2]at h;cases h
  | some k=>rw[e2]at h;cases h;exact⟨q.1,q.2,k,rfl,rfl,rfl⟩
def dIxKM:DOp:=fun x y μ K=>match x with
 | .mr j=>∃ d,ixM μ j y=some (some d)/\K d μ
 | _=>False
def dAsgKM (w wo wi:De):Ds:=fun N ρ μ=>w ρ μ fun d μ1=>wo ρ μ1 fun o μ2=>wi ρ μ2 fun i μ3=>match o with
 | .mr j=>∃ kd kd':List (Key×D),μ3[j]?=some (.dic (kd.map (·.1)) (kd.map (·.2)))/\kd.length<sizeLine/\(keyD i).map (fun k=>dput kd k d)=some kd'/\N.nx ρ (μ3.set j (.dic (kd'.map (·.1)) (kd'.map (·.2))))
 | _=>False
theorem s_asgKM {o i:Expr}{w wo wi:De}{pos':Pos}(hu:X.A.units+1<cLine)(he:PD X e w)(ho:PD X o wo)(hi:PD X i wi)(hs:swapsWith e (some (.Subscript o i pos')) pos.line X.env=pure false:=by rfl) :
 PDS X (.Assign [.Subscript o i pos'] e pos) (dAsgKM w wo wi):=(ps_dput hu ho hi he hs).imp fun E σ H hq=>by
 obtain⟨φ,ρ,μ,N,A,M,w,L⟩:=hq
 refine⟨φ,ρ,μ,_,A,M,w,fun d μ1 φ1 v1 H1 k1 f1 M1 i1=>?_⟩
 refine⟨φ1,ρ,μ1,_,A.mono f1,M1,k1,fun d2 μ2 φ2 v2 H2 k2 f2 M2 i2=>?_⟩
 refine⟨φ2,ρ,μ2,_,A.mono (f1.trans f2),M2,k2,fun d3 μ3 φ3 v3 H3 k3 f3 M3 i3=>?_⟩
 cases d2 with
 | mr j =>
  obtain⟨kd,kd',em,hl,ek',k3⟩:=k3
  obtain⟨k,ek,rfl⟩:=Option.map_eq_some_iff.mp ek'
  obtain⟨p,hp,rfl⟩:=i2.mono f3
  obtain⟨p',e1,kvs,vs,hv,h1,h2,ha⟩:=M3.at_ j _ em
  rw[hp]at e1;cases e1
  subst h2
  cases keyD_is ek i3
  have f4:Fr φ3 H3 φ3 (upd H3 p (.dK (putK kvs k v1))):=.put (gxD hp)
  obtain⟨g1,g2⟩:=dput_rel (k:=k) ((i1.mono (f2.trans f3)).mono f4) h1 (ha.mono f4)
  refine⟨p,_,rfl,DPut.k hv (by have:=bO List.length h1;rw[gxC,gxC]at this;omega),?_⟩
  have M4:=M3.put (k:=j) (p:=p) (o:=.dK (putK kvs k v1)) (m:=.dic ((dput kd k d).map (·.1)) ((dput kd k d).map (·.2))) hp ⟨putK kvs k v1,_,upd_same,g1,rfl,g2⟩
  exact L.nx ρ _ φ3 σ _ k3 ((f1.trans (f2.trans f3)).trans f4) (A.mono ((f1.trans (f2.trans f3)).trans f4)) M4
 | _=>exact k3.elim
def rDictC:List V->Hp->VK->Prop:=fun vs H Q=>match vs with
 | [.ref a]=>∃ kvs,Rd H a (.dK kvs)/\∀ p,H p=none->Q (.ref p) (upd H p (.dK kvs))
 | _=>False
theorem dictC:CallR X (.type "dict") rDictC:=by
 intro pins s σ H xs us Q I r h
 unfold rDictC at h
 split at h
 ·rename_i a
  obtain⟨kvs,rd,q⟩:=h
  cases r with
  | cons r1 r2 =>
   cases r2
   cases r1
   exact d_copyOf I rd fun p s' hp I'=>⟨.ref p,_,I',rfl,q p hp⟩
 ·exact h.elim
end
def jnT (l1 l2:List Nat)(p:Int):List Nat:=l1.take p.toNat++l2.drop p.toNat
theorem jnT_len {l1 l2:List Nat}{p:Int}(h0:0<=p)(h1:p<=l1.length)(h:l1.length=l2.length):(jnT l1 l2 p).length=l1.length:=by
 unfold jnT
 rw[gxE,bp,bR];omega
theorem jnT_ox {l1 l2:List Nat}{p:Int}(h1:OX l1)(h2:OX l2):OX (jnT l1 l2 p):=fun c hc=>by
 rcases List.mem_append.mp hc with q | q
 ·exact h1 c (aM q)
 ·exact h2 c (List.mem_of_mem_drop q)
end L2
namespace L2
open PySem PySem.Spec PyProof.Rows PySem.SeqAt
end L2
namespace L2
open PySem PySem.Spec PyProof.Rows
theorem cutD_from {α:Type}(g:α->D)(ts:List α)(k:Nat):cutD (ts.map g) (some (k:Int)) none=(ts.drop k).map g:=by
 unfold cutD
 rw[HT.sIx_nat,HT.sIx_none,gxC,<- List.map_drop,<- List.map_take]
 by_cases q:k<=ts.length
 ·rw[bY q,aU (by rw[bR];omega)]
 ·rw[cp (by omega),cp (by omega),List.take_nil]
def insM (C:Addr)(μ:MS)(k:Nat):Option (List Str×List D):=match μ[k]? with | some (.ins C' ns ds)=>if C'=C then some (ns,ds)else none | _=>none
theorem insM_eq {C:Addr}{μ:MS}{k:Nat}{q:List Str×List D}(h:insM C μ k=some q):μ[k]?=some (.ins C q.1 q.2):=by
 unfold insM at h
 split at h
 ·rename_i C' ns ds e
  by_cases z:C'=C
  ·rw[ar z]at h;cases h;rw[e,z]
  ·rw[aj z]at h;cases h
 ·cases h
theorem insM_of {C:Addr}{μ:MS}{k:Nat}{ns:List Str}{ds:List D}(h:μ[k]?=some (.ins C ns ds)):insM C μ k=some (ns,ds):=by unfold insM;rw[h];exact ar rfl
def lookN (f:Str):List Str->List D->Option D
 | n::ns,d::ds=>if n=f then some d else lookN f ns ds
 | _,_=>none
def putN (f:Str)(d:D):List Str->List D->List Str×List D
 | n::ns,e::ds=>if n=f then(n::ns,d::ds)else(n::(putN f d ns ds).1,e::(putN f d ns ds).2)
 | _,_=>([f],[d])
theorem lookN_is {φ:List Addr}{H:Hp}{f:Str}{d:D}:∀ {fs:List (Str×V)} {ds:List D},DAll φ H ds (fs.map (·.2))->lookN f (fs.map (·.1)) ds=some d->∃ v,fs.lookup f=some v/\DIs φ H d v
 | [],ds,h,e=>by cases ds <;> cases e
 | (n,x)::fs,ds,h,e=>by
  cases ds with
  | nil=>cases e
  | cons d0 ds =>
   obtain⟨v,r,e1,h1,h2⟩:=h
   simp only[aq,bZ]at e1
   obtain⟨rfl,rfl⟩:=e1
   simp only[aq,lookN]at e
   rw[cA]
   by_cases q:n=f
   ·rw[ar q]at e;cases e
    subst q
    exact⟨x,by simp,h1⟩
   ·rw[aj q]at e
    have:(f==n)=false:=beq_eq_false_iff_ne.mpr fun z=>q z.symm
    simp only[this]
    exact lookN_is h2 e
theorem lookN_no {φ:List Addr}{H:Hp}{f:Str}:∀ {fs:List (Str×V)} {ds:List D},DAll φ H ds (fs.map (·.2))->lookN f (fs.map (·.1)) ds=none->fs.lookup f=none
 | [],ds,h,e=>rfl
 | (n,x)::fs,ds,h,e=>by
  cases ds with
  | nil=>cases(show _=_ from h)
  | cons d0 ds =>
   obtain⟨v,r,e1,h1,h2⟩:=h
   simp only[aq,bZ]at e1
   obtain⟨rfl,rfl⟩:=e1
   simp only[aq,lookN]at e
   rw[cA]
   by_cases q:n=f
   ·rw[ar q]at e;cases e
   ·rw[aj q]at e
    have:(f==n)=false:=beq_eq_false_iff_ne.mpr fun z=>q z.symm
    simp only[this]
    exact lookN_no h2 e
theorem putN_is {φ:List Addr}{H:Hp}{f:Str}{d:D}{v:V}(hd:DIs φ H d v):∀ {fs:List (Str×V)} {ds:List D},DAll φ H ds (fs.map (·.2))->(putF f v fs).map (·.1)=(putN f d (fs.map (·.1)) ds).1/\DAll φ H (putN f d (fs.map (·.1)) ds).2 ((putF f v fs).map (·.2))
 | [],ds,h=>by cases ds <;> exact⟨rfl,v,[],rfl,hd,rfl⟩
 | (n,x)::fs,ds,h=>by
  cases ds with
  | nil=>cases(show _=_ from h)
  | cons d0 ds =>
   obtain⟨v',r,e1,h1,h2⟩:=h
   simp only[aq,bZ]at e1
   obtain⟨rfl,rfl⟩:=e1
   simp only[putF,aq,putN]
   by_cases q:n=f
   ·rw[ar q,ar q]
    exact⟨rfl,_,_,rfl,hd,h2⟩
   ·rw[aj q,aj q]
    obtain⟨i1,i2⟩:=putN_is hd h2
    exact⟨by simp only[aq,i1],_,_,rfl,h1,i2⟩
section
variable {X:Cx}{a b e o:Expr}{es:List Expr}{pos:Pos}{C:Addr}
def dFld (C:Addr)(f:Str)(w:De):De:=fun ρ μ K=>w ρ μ fun x μ1=>match x with
 | .mr k=>∃ d,(insM C μ1 k).bind (fun q=>lookN f q.1 q.2)=some d/\K d μ1
 | .obj C' ns ds=>C'=C/\∃ d,lookN f ns ds=some d/\K d μ1
 | _=>False
theorem d_fld {f:Str}{w:De}(c:Cls X.K C)(n:NoAttr X.K C f)(h:PD X e w)(hb:attributeBase e f X.env (eval e X.env)=eval e X.env:=by rfl):PD X (.Attribute e f pos) (dFld C f w):=(pe_fld h hb).imp fun σ H Q hq=>by
 obtain⟨φ,ρ,μ,K,A,M,k,L⟩:=hq
 refine⟨φ,ρ,μ,_,A,M,k,fun d1 μ1 φ1 v1 H1 k1 f1 M1 i1=>?_⟩
 cases d1 with
 | mr j =>
  obtain⟨d,e1,k1⟩:=k1
  obtain⟨q,e2,e3⟩:=Option.bind_eq_some_iff.mp e1
  obtain⟨p,hp,rfl⟩:=i1
  obtain⟨p',e4,dx,fs,h1,h2,h3⟩:=M1.at_ j _ (insM_eq e2)
  rw[hp]at e4;cases e4
  rw[<- h2]at e3
  obtain⟨v,l,iv⟩:=lookN_is h3 e3
  exact⟨p,C,dx,fs,v,rfl,h1,c,n,l,L _ μ1 φ1 v H1 k1 f1 M1 iv⟩
 | obj C' ns ds =>
  obtain⟨rfl,d,e3,k1⟩:=k1
  obtain⟨p,dx,fs,vs,rfl,_,h1,h2,rfl,h3⟩:=i1
  rw[<- h2]at e3
  obtain⟨v,l,iv⟩:=lookN_is h3 e3
  exact⟨p,_,dx,fs,v,rfl,h1,c,n,l,L _ μ1 φ1 v H1 k1 f1 M1 iv⟩
 | _=>exact k1.elim
def dSFld (C:Addr)(f:Str)(w wo:De):Ds:=fun N ρ μ=>w ρ μ fun d μ1=>wo ρ μ1 fun x μ2=>match x with
 | .mr k=>∃ q q':List Str×List D,insM C μ2 k=some q/\putN f d q.1 q.2=q'/\q.1.length<1000/\N.nx ρ (μ2.set k (.ins C q'.1 q'.2))
 | _=>False
theorem s_fld {f:Str}{w wo:De}{pos':Pos}(c:Cls X.K C)(n:NoAttr X.K C f)(he:PD X e w)(ho:PD X o wo)(hs:swapsWith e (some (.Attribute o f pos')) pos.line X.env=pure false:=by rfl):PDS X (.Assign [.Attribute o f pos'] e pos) (dSFld C f w wo) :=
 (ps_fld ho he hs).imp fun E σ H hq=>by
 obtain⟨φ,ρ,μ,N,A,M,k,L⟩:=hq
 refine⟨φ,ρ,μ,_,A,M,k,fun d μ1 φ1 v1 H1 k1 f1 M1 i1=>?_⟩
 refine⟨φ1,ρ,μ1,_,A.mono f1,M1,k1,fun d2 μ2 φ2 v2 H2 k2 f2 M2 i2=>?_⟩
 cases d2 with
 | mr j =>
  obtain⟨q,_,e2,rfl,hl,k2⟩:=k2
  obtain⟨p,hp,rfl⟩:=i2
  obtain⟨p',e4,dx,fs,h1,h2,h3⟩:=M2.at_ j _ (insM_eq e2)
  rw[hp]at e4;cases e4
  have f4:Fr φ2 H2 φ2 (upd H2 p (.ins C dx (putF f v1 fs))):=.put (gxD hp)
  obtain⟨g1,g2⟩:=putN_is (f:=f) ((i1.mono f2).mono f4) (h3.mono f4)
  rw[h2]at g1 g2
  refine⟨p,C,dx,fs,rfl,h1,c,n,by rw[<- h2,gxC]at hl;exact hl,?_⟩
  exact L.nx ρ _ φ2 σ _ k2 ((f1.trans f2).trans f4) (A.mono ((f1.trans f2).trans f4)) (M2.put hp ⟨dx,_,upd_same,g1,g2⟩)
 | _=>exact k2.elim
structure CalM (P:Program)(w:World)(K:PySem.W.Frag)(mg:Str->Option Value)(base:Heap)(C:Addr)(m:Str)(k:Nat)(ps:List Str)(sp:Sp):Prop where
 ex:∃ f fd,FnOk P w K mg base CX0 k f fd ps sp/\Meth K C m f/\Binds K fd ps []
def recvD (C:Addr)(m:Str)(μ:MS):D->Prop
 | .mr k=>(insM C μ k).map (fun q=>lookN m q.1 q.2)=some none
 | .obj C' ns es=>C'=C/\lookN m ns es=none
 | _=>False
theorem recvD_is {m:Str}{φ:List Addr}{H:Hp}{μ:MS}{d:D}{v:V}(M:MSis φ H μ)(i:DIs φ H d v)(h:recvD C m μ d):∃ p dx fs,v=.ref p/\H p=some (.ins C dx fs)/\fs.lookup m=none:=by
 cases d with
 | mr j =>
  obtain⟨q,e2,e3⟩:=Option.map_eq_some_iff.mp (show(insM C μ j).map (fun q=>lookN m q.1 q.2)=some none from h)
  obtain⟨p,hp,rfl⟩:=i
  obtain⟨p',e4,dx,fs,h1,h2,h3⟩:=M.at_ j _ (insM_eq e2)
  rw[hp]at e4;cases e4
  rw[<- h2]at e3
  exact⟨p,dx,fs,rfl,h1,lookN_no h3 e3⟩
 | obj C' ns es =>
  obtain⟨rfl,e3⟩:=(show C'=C/\lookN m ns es=none from h)
  obtain⟨p,dx,fs,vs0,rfl,_,h1,h2,rfl,h3⟩:=i
  rw[<- h2]at e3
  exact⟨p,dx,fs,rfl,h1,lookN_no h3 e3⟩
 | _=>exact(show False from h).elim
def dMeth (C:Addr)(m:Str)(f:DSp)(wo:De)(w:DA):De:=fun ρ μ K=>wo ρ μ fun x μ1=>recvD C m μ1 x/\w ρ μ1 fun ds μ2=>f (x::ds) μ2 K
theorem tD_meth {m:Str}{f:DSp}{wo:De}{w:DA}{σ:St}{H:Hp}{Q:VK}(h:tD (dMeth C m f wo w) σ H Q):tMeth C m (spD f) [] E0 (tD wo) (tDA w) σ H Q:=by
 obtain⟨φ,ρ,μ,K,A,M,k,L⟩:=h
 refine⟨φ,ρ,μ,_,A,M,k,fun d1 μ1 φ1 v1 H1 k1 f1 M1 i1=>?_⟩
 obtain⟨p,dx,fs,rfl,h1,h2⟩:=recvD_is M1 i1 k1.1
 refine⟨p,dx,fs,rfl,h1,h2,φ1,ρ,μ1,_,A.mono f1,M1,k1.2,fun ds μ2 φ2 vs H2 k2 f2 M2 i2=>?_⟩
 show spD f (.ref p::(vs++[])) H2 Q E0
 rw[aZ]
 exact⟨φ2,d1::ds,μ2,K,⟨_,vs,rfl,DIs.mono f2 i1,i2⟩,M2,k2,L.mono (f1.trans f2)⟩
theorem d_meth {m:Str}{f:DSp}{wo:De}{w:DA}{apos:Pos}{pl:Sem Bool}{k:Nat}{ps:List Str}(CM:CalM X.prog X.w X.K X.mg X.base C m k ps (spD f))(c:Cls X.K C)(hr:Room k X.A)(ho:PD X o wo)(ha:PDA X (e::es) w)
 (hst:starEach (e::es) X.env=(false,eval e X.env)::starEach es X.env:=by rfl) (hpl:(backTo pos (starEach es X.env)).any (·.1)=false:=by rfl)
 (ht:eval (.Call (.Attribute o m apos) (e::es) [] pos) X.env=(do
   let ov <- eval o X.env
   standAt apos.atName
   let (f,first) <- holding [ov] (getMethod ov m pl)
   callWith pos f first (backTo pos (starEach (e::es) X.env)) (backToKw pos (keywordEach [] X.env))):=by rfl) :
 PD X (.Call (.Attribute o m apos) (e::es) [] pos) (dMeth C m f wo w):=by
 obtain⟨f',fd,F,hm,hb⟩:=CM.ex
 exact(pe_meth ho c hm F hr hb .nil pass0 ha hst hpl ht).imp fun σ H Q hq=>tD_meth hq
theorem d_meth0 {m:Str}{f:DSp}{wo:De}{apos:Pos}{pl:Sem Bool}{k:Nat}{ps:List Str}(CM:CalM X.prog X.w X.K X.mg X.base C m k ps (spD f))(c:Cls X.K C)(hr:Room k X.A)(ho:PD X o wo)
 (ht:eval (.Call (.Attribute o m apos) [] [] pos) X.env=(do
   let ov <- eval o X.env
   standAt apos.atName
   let (f,first) <- holding [ov] (getMethod ov m pl)
   callWith pos f first (backTo pos (starEach [] X.env)) (backToKw pos (keywordEach [] X.env))):=by rfl) :
 PD X (.Call (.Attribute o m apos) [] [] pos) (dMeth C m f wo dNil):=by
 obtain⟨f',fd,F,hm,hb⟩:=CM.ex
 refine(pe_meth0 ho c hm F hr hb .nil pass0 ht).imp fun σ H Q hq=>?_
 obtain⟨φ,ρ,μ,K,A,M,k,L⟩:=hq
 refine⟨φ,ρ,μ,_,A,M,k,fun d1 μ1 φ1 v1 H1 k1 f1 M1 i1=>?_⟩
 obtain⟨p,dx,fs,rfl,h1,h2⟩:=recvD_is M1 i1 k1.1
 exact⟨p,dx,fs,rfl,h1,h2,φ1,[d1],μ1,K,⟨_,[],rfl,i1,rfl⟩,M1,k1.2,L.mono f1⟩
structure CalI (P:Program)(w:World)(K:PySem.W.Frag)(mg:Str->Option Value)(base:Heap)(x:Str)(C:Addr)(k:Nat)(ps:List Str)(sp:Sp):Prop where
 ex:∃ f fd,FnOk P w K mg base CX0 k f fd ps sp/\Mk K C f/\mg x=some (.ref C)/\Binds K fd ps []
def dMake (C:Addr)(f:DSp)(w:DA):De:=fun ρ μ K=>w ρ μ fun ds μ1=>f (.mr μ1.length::ds) (μ1++[.ins C [] []]) fun d μ2=>d=.non/\K (.mr μ1.length) μ2
theorem tD_make {f:DSp}{w:DA}{σ:St}{H:Hp}{Q:VK}(h:tD (dMake C f w) σ H Q):tMake C (spD f) [] E0 (tDA w) σ H Q:=by
 obtain⟨φ,ρ,μ,K,A,M,k,L⟩:=h
 refine⟨φ,ρ,μ,_,A,M,k,fun ds μ1 φ1 vs H1 k1 f1 M1 i1 x dx hx hdx ne=>?_⟩
 have S1:Same H1 (upd H1 dx (.own x)):=Same.upd hdx
 have hx':upd H1 dx (.own x) x=none:=by rw[upd_ne (aO ne)];exact hx
 have fa:Fr φ1 H1 φ1 (upd H1 dx (.own x)):=.same S1
 obtain⟨M2,f2⟩:=(M1.same S1).snoc (m:=.ins C [] []) (o:=.ins C dx []) hx' ⟨dx,[],upd_same,rfl,rfl⟩
 have f3:=fa.trans f2
 have hin:DIs (φ1++[x]) (upd (upd H1 dx (.own x)) x (.ins C dx [])) (.mr μ1.length) (.ref x):=⟨x,by rw[gxG (by rw[M1.len];exact aa _),M1.len,aQ];rfl,rfl⟩
 show spD f (.ref x::(vs++[])) _ _ E0
 rw[aZ]
 refine⟨φ1++[x],.mr μ1.length::ds,μ1++[.ins C [] []],_,⟨_,vs,rfl,hin,i1.mono f3⟩,M2,k1,fun d μ3 φ3 v H3 k3 f4 M3 i3=>?_⟩
 obtain⟨rfl,k3⟩:=k3
 exact⟨i3,L _ μ3 φ3 _ H3 k3 ((f1.trans f3).trans f4) M3 (hin.mono f4)⟩
theorem d_make {x:Str}{f:DSp}{w:DA}{p:Pos}{k:Nat}{ps:List Str}(CI:CalI X.prog X.w X.K X.mg X.base x C k ps (spD f))(hr:Room (k+1) X.A)(hg:Gl X x)(ha:PDA X (e::es) w)
 (hdb:(x==("__debug__" : Str))=false:=by decide) (he:starEach (e::es) X.env=(false,eval e X.env)::starEach es X.env:=by rfl) (hpl:(backTo pos (starEach es X.env)).any (·.1)=false:=by rfl) :
 PD X (.Call (.Name x p) (e::es) [] pos) (dMake C f w):=by
 obtain⟨f',fd,F,M,hm,hb⟩:=CI.ex
 exact(pe_make M F hr hg hm hb .nil pass0 ha hdb he hpl).imp fun σ H Q hq=>tD_make hq
theorem cal_of {P:Program}{w:World}{K:PySem.W.Frag}{mg:Str->Option Value}{base h:Heap}{x q:Str}{st:Stmt}{f:Addr}{fd:FuncData}{k:Nat}{ps:List Str}{sp:Sp}(G:K.In h)(N:h.Ns mainGlobals mg)(F:Fun K x q st f fd)(ok:FnOk P w K mg base CX0 k f fd ps sp)(hb:Binds K fd ps [])
 (a:PySem.W.nsIn K mainGlobals x=some (some (.ref f)):=by kernel_rfl):Cal P w K mg base x k ps sp:=⟨f,fd,ok,aP G N a,F.kp,hb⟩
theorem calm_of {P:Program}{w:World}{K:PySem.W.Frag}{mg:Str->Option Value}{base:Heap}{C:Addr}{x q:Str}{st:Stmt}{f:Addr}{fd:FuncData}{k:Nat}{ps:List Str}{sp:Sp}(F:Fun K x q st f fd)(ok:FnOk P w K mg base CX0 k f fd ps sp)(hb:Binds K fd ps [])
 (a:PySem.W.findIn K (.ref C) x=some (some (.ref f)):=by kernel_rfl) (i:PySem.W.isFn K (.ref f)=true:=by kernel_rfl):CalM P w K mg base C x k ps sp:=⟨f,fd,ok,⟨a,i,F.kp⟩,hb⟩
theorem cali_of {P:Program}{w:World}{K:PySem.W.Frag}{mg:Str->Option Value}{base h:Heap}{C:Addr}{y q:Str}{st:Stmt}{f:Addr}{fd:FuncData}{k:Nat}{ps:List Str}{sp:Sp}(G:K.In h)(N:h.Ns mainGlobals mg)(F:Fun K "__init__" q st f fd)(ok:FnOk P w K mg base CX0 k f fd ps sp)(hb:Binds K fd ps [])
 (n:PySem.W.nsIn K mainGlobals y=some (some (.ref C)):=by kernel_rfl) (a:PySem.W.findIn K (.ref C) "__init__"=some (some (.ref f)):=by kernel_rfl) (i:PySem.W.isFn K (.ref f)=true:=by kernel_rfl) (m:PySem.W.makesIn K C=true:=by kernel_rfl) (p:PySem.W.keepIn K (.ref C)=true:=by kernel_rfl):CalI P w K mg base y C k ps sp:=⟨f,fd,ok,⟨m,a,i,p⟩,aP G N n,hb⟩
end
def bmN:List Str:=["places", "rows", "tables", "whole", "counts"]
abbrev At (g:Heap)(b:Addr):Prop:=∃ u,g.get? b=some u
structure Kp (g:Heap)(l:List Env)(h h':Heap):Prop where
 other:∀ b o,h.get? b=some o->At g b->b∉frs l->h'.get? b=some o
 slot:∀ b o,h.get? b=some o->At g b->b∈frs l->∃ sl,h'.get? b=some { o with slots:=sl}
theorem Kp.trans {g:Heap}{l:List Env}{h1 h2 h3:Heap}(a:Kp g l h1 h2)(b:Kp g l h2 h3):Kp g l h1 h3 :=
 ⟨fun c o q lt hc=>b.other c o (a.other c o q lt hc) lt hc,fun c o q lt hc=>by
  obtain⟨sl,e⟩:=a.slot c o q lt hc
  obtain⟨sl',e'⟩:=b.slot c _ e lt hc
  exact⟨sl',e'⟩⟩
theorem Kp.any {g:Heap}{l:List Env}{h h':Heap}(a:Kp g l h h'){b:Addr}{o:Obj}(q:h.get? b=some o)(lt:At g b):∃ sl,h'.get? b=some { o with slots:=sl}:=by
 by_cases hb:b∈frs l
 ·exact a.slot b o q lt hb
 ·exact⟨o.slots,a.other b o q lt hb⟩
theorem Kp.of {g:Heap}{l:List Env}{h h':Heap}(k:∀ b o,h.get? b=some o->At g b->h'.get? b=some o):Kp g l h h':=⟨fun b o q lt _=>k b o q lt,fun b o q lt _=>⟨o.slots,k b o q lt⟩⟩
abbrev Gk (g h:Heap):Prop:=∀ b,At g b->At h b
theorem Kp.gk {g:Heap}{l:List Env}{h h':Heap}(a:Kp g l h h')(k:Gk g h):Gk g h':=fun b hb=>by
 obtain⟨o,e⟩:=k b hb
 obtain⟨sl,e'⟩:=a.any e hb
 exact⟨_,e'⟩
theorem Gk.fresh {g h:Heap}(k:Gk g h):g.get? h.objs.size=none:=by
 cases q:g.get? h.objs.size with
 | none=>rfl
 | some o=>obtain⟨o',e⟩:=k _ ⟨o,q⟩;exact absurd (gxN e) (bu _)
theorem at_ne {g:Heap}{b c:Addr}(h:At g b)(hc:g.get? c=none):c≠b:=fun z=>by obtain⟨u,e⟩:=h;rw[<- z,hc]at e;cases e
def ExAt (g:Heap)(e:Addr)(cls fl:Value)(h:Heap):Prop:=∃(oe:Obj) (vs:Array Value) (T:Addr) (oT:Obj) (ts:Array Value),(h.get? e=some oe/\(oe.cls=cls/\oe.dict=none)/\oe.data=.fields vs/\vs[1]?=some (.ref T)/\vs[2]?=some .none)/\(g.get? T=none/\T≠e/\h.get? T=some oT/\oT.data=.fields ts/\ts[3]?=some fl)/\g.get? e=none
section
variable {M:Model}{A:Around}{E:Value->Shared->Prop}{s:Shared}
theorem entry_new {base:Heap}{env:Env}{outer:List Env}{L e:Addr}{oe:Obj}{vs:Array Value}{head:Value}{hadNext:Bool}{g:Heap}{Q:Unit->Shared->Prop}
 (hfr:A.frames=some (env::outer)) (hl:s.heap.FunFrames base (env::outer)) (hf:env.frame=some L) (he:s.heap.get? e=some oe) (hdi:oe.dict=none) (hd:oe.data=.fields vs) (h1:1<vs.size) (h2:vs[2]?=some .none) (hn:g.get? e=none) (hs:Gk g s.heap)
 (h:∀ h',ExAt g e oe.cls (rawInt L) h'->Kp g (env::outer) s.heap h'->Q () { s with heap:=h'}) :
 wpAny M A (do let a <- frameOf env;let pl <- entryPlaceOf L hadNext;let b <- EntryCells.newEntry head a .none (rawInt L) .none pl;setField (.ref e) 1 b) Q E s:=by
 have hene:e∉(env::outer).filterMap (·.frame):=fun hm=>by
  obtain⟨_,o,ho,hnf⟩:=hl.mem hm
  rw[he]at ho;injection ho with ho;subst ho;exact hnf vs hd
 refine gxM (wpAny_frameOf_fun hfr hl hf fun m x=>?_)
 refine gxM (wpAny_entryPlaceOf fun pl hpl=>?_)
 unfold EntryCells.newEntry newFields
 refine gxM (a8 ?_ (hpl.sizeOk5 _ _ _ _ _))
 obtain⟨rec,hrec⟩:∃ rec:Obj,rec={ cls:=.type "traceback",dict:=none,data:=.fields ([head,.ref L,.none,rawInt L,.none]++(if pl.isEmpty then List.replicate 6 Value.none else pl)).toArray}:=⟨_,rfl⟩
 rw[<- hrec]
 have e1:m.get? e=some oe:=(x.2.1 e hene).trans he
 have e2:=gxL rec e1
 have hT:(m.push rec).get? m.objs.size=some rec:=ak m (by rw[hrec];rfl)
 have hTe:m.objs.size≠e:=aR (gxN e1)
 have hd3:=cO hd (·.setIfInBounds 1 (Value.ref m.objs.size))
 have e3:=aY (Obj.mapFields (·.setIfInBounds 1 (Value.ref m.objs.size))) e2 (Obj.isFreed_of_fields hd3)
 refine bT e2 hd h1 (h _ ⟨_,_,m.objs.size,rec,_,⟨e3,⟨Obj.cls_mapFields _ _,by show(Obj.mapFields _ oe).dict=none;unfold Obj.mapFields;split <;> exact hdi⟩,hd3,by simp[h1],by rw[Array.getElem?_setIfInBounds_ne (by decide)];exact h2⟩,⟨by rw[x.1];exact hs.fresh,hTe,?_,by rw[hrec],?_⟩,hn⟩ ⟨fun b o q lt hb=>?_,fun b o q lt hb=>?_⟩)
 ·rw[aL _ _ (aO hTe)];exact hT
 ·first | (simp;done) | (rcases hpl with rfl | ⟨_,_,_,_,_,_,_,rfl⟩<;> simp)
 ·rw[aL _ _ (at_ne lt hn)]
  exact gxL _ ((x.2.1 b hb).trans q)
 ·obtain⟨sl,q'⟩:=x.2.2 b o q
  exact⟨sl,by rw[aL _ _ (at_ne lt hn)];exact gxL _ q'⟩
theorem note_first {base:Heap}{env:Env}{outer:List Env}{L e:Addr}{oe:Obj}{vs:Array Value}{g:Heap}{Q:Unit->Shared->Prop}
 (hfr:A.frames=some (env::outer)) (hl:s.heap.FunFrames base (env::outer)) (hf:env.frame=some L) (he:s.heap.get? e=some oe) (hdi:oe.dict=none) (hd:oe.data=.fields vs) (h1:vs[1]?=some .none) (h2:vs[2]?=some .none) (hn:g.get? e=none) (hs:Gk g s.heap)
 (h:∀ h',ExAt g e oe.cls (rawInt L) h'->Kp g (env::outer) s.heap h'->Q () { s with heap:=h'}):wpAny M A (noteFrame (.ref e) env) Q E s:=by
 unfold noteFrame
 simp only[hf]
 refine gxM (aG he hd h1 ?_)
 rw[aj (by decide)]
 exact entry_new hfr hl hf he hdi hd (Array.getElem?_eq_some_iff.mp h1).1 h2 hn hs h
theorem note_next {base:Heap}{env:Env}{outer:List Env}{L e:Addr}{cls:Value}{g:Heap}{Q:Unit->Shared->Prop}
 (hfr:A.frames=some (env::outer)) (hl:s.heap.FunFrames base (env::outer)) (hf:env.frame=some L) (hs:Gk g s.heap) (x:ExAt g e cls .none s.heap)
 (h:∀ h',ExAt g e cls (rawInt L) h'->Kp g (env::outer) s.heap h'->Q () { s with heap:=h'}):wpAny M A (noteFrame (.ref e) env) Q E s:=by
 obtain⟨oe,vs,T,oT,ts,⟨he,hc,hd,h1,h2⟩,⟨hn,hTe,hT,hdT,h3⟩,hne⟩:=x
 unfold noteFrame
 simp only[hf]
 refine gxM (aG he hd h1 ?_)
 rw[ar (show(Value.ref T != Value.none)=true from by simp)]
 refine gxM (aG hT hdT h3 ?_)
 rw[aj (show ¬ ((Value.none==rawInt L)=true)from by simp[rawInt])]
 refine gxM (bT hT hdT (Array.getElem?_eq_some_iff.mp h3).1 ?_)
 have other:∀ b,b≠T->(s.heap.update T (Obj.mapFields (·.setIfInBounds 3 Value.none))).get? b=s.heap.get? b:=fun b hb=>aL _ _ (aO hb)
 have ff:(s.heap.update T (Obj.mapFields (·.setIfInBounds 3 Value.none))).FunFrames base (env::outer):=hl.of_keeps fun b o q nf=>⟨o,(other b fun z=>by rw[z,hT]at q;cases q;exact nf _ hdT).trans q,rfl⟩
 have k0:Kp g (env::outer) s.heap (s.heap.update T (Obj.mapFields (·.setIfInBounds 3 Value.none))):=Kp.of fun b o q lt=>(other b (aO (at_ne lt hn))).trans q
 exact entry_new (g:=g) hfr ff hf ((other e (aO hTe)).trans he) hc.2 hd (Array.getElem?_eq_some_iff.mp h1).1 h2 hne (k0.gk hs) fun h' a k=>h h' (hc.1▸a) (k0.trans k)
theorem flight_none {l:List Env}{e:Addr}{cls fl:Value}{g:Heap}{Q:Unit->Shared->Prop}(x:ExAt g e cls fl s.heap)
 (h:∀ h',ExAt g e cls .none h'->Kp g l s.heap h'->(∀ b o,s.heap.get? b=some o->(∀ vs,o.data≠.fields vs)->h'.get? b=some o)->Q () { s with heap:=h'}):wpAny M A (setFlight (.ref e) none) Q E s:=by
 obtain⟨oe,vs,T,oT,ts,⟨he,hc,hd,h1,h2⟩,⟨hn,hTe,hT,hdT,h3⟩,hne⟩:=x
 unfold setFlight
 refine gxM (aG he hd h1 ?_)
 rw[ar (show(Value.ref T != Value.none)=true from by simp)]
 have h3s:=(Array.getElem?_eq_some_iff.mp h3).1
 have hd3:=cO hdT (·.setIfInBounds 3 ((none:Option Addr).elim Value.none fun f=>rawInt f))
 have other:∀ b,b≠T->(s.heap.update T (Obj.mapFields (·.setIfInBounds 3 ((none:Option Addr).elim Value.none fun f=>rawInt f)))).get? b=s.heap.get? b:=fun b hb=>aL _ _ (aO hb)
 refine bT hT hdT h3s (h _ ⟨oe,vs,T,_,_,⟨(other e (aO hTe)).trans he,hc,hd,h1,h2⟩,⟨hn,hTe,aY _ hT (Obj.isFreed_of_fields hd3),hd3,by simp[h3s]⟩,hne⟩ (Kp.of fun b o q lt=>(other b (aO (at_ne lt hn))).trans q) fun b o q nf=>(other b fun z=>by rw[z,hT]at q;cases q;exact nf _ hdT).trans q)
end
def CX1 (P:Program)(w:World):CXT:=fun outer H s E ev s'=>∃(e:Addr) (cls:Value) (H':Hp) (g:Heap),ev=.ref e/\s'.os=s.os/\AllBare s'.gens/\Un (frs outer) [] H H' s.heap s'.heap/\HOk P w H' s'.heap/\(Gk s.heap g/\(∀ b,H' b≠none->At g b)/\Gk g s'.heap)/\ExAt g e cls .none s'.heap/\E cls none H'
theorem at_of {P:Program}{w:World}{H:Hp}{h:Heap}{a:Addr}{o:HO}(x:HOk P w H h)(e:H a=some o):At h a:=by
 have x:=x a o e
 cases o with
 | lst xs=>obtain⟨_,_,_,_,e⟩:=x;exact⟨_,e⟩
 | tup xs=>obtain⟨_,_,_,_,e,_⟩:=x;exact⟨_,e⟩
 | dK kvs=>obtain⟨_,_,_,_,o,_,_,e,_⟩:=x;exact⟨_,e⟩
 | dT kvs=>obtain⟨_,_,_,_,o,_,_,e,_⟩:=x;exact⟨_,e⟩
 | set S n=>obtain⟨o,_,_,_,e,_⟩:=x;exact⟨_,e⟩
 | ins C dx fs=>obtain⟨_,_,_,e,_⟩:=x;exact⟨_,e⟩
 | own y=>obtain⟨_,e⟩:=x;exact⟨_,e⟩
 | xd fs=>obtain⟨_,⟨_,_,_,e,_⟩,_⟩:=x;exact⟨_,e⟩
 | rng lo hi=>obtain⟨_,_,_,e⟩:=x;exact⟨_,e⟩
 | frz ob u=>obtain⟨e,_⟩:=x;exact⟨_,e⟩
 | tbl ps=>exact⟨_,(show h.get? a=some _ from x)⟩
 | met f y=>exact⟨_,(show h.get? a=some _ from x)⟩
 | ext φ=>obtain⟨_,⟨_,e⟩,_⟩:=x;exact⟨_,e⟩
theorem hok_kp {P:Program}{w:World}{g h h':Heap}{l:List Env}{H:Hp}(x:HOk P w H h)(hb:∀ b,H b≠none->At g b/\b∉frs l)(k:Kp g l h h'):HOk P w H h':=fun a o e =>
 (x a o e).stay (fun b u hb' q=>by
   have hn:H b≠none:=by rcases hb' with rfl | z <;> intro y <;> simp_all
   exact k.other b u q (hb b hn).1 (hb b hn).2) (fun _ q=>q) fun _ _ q=>q
section
variable {X:Cx}{pins:List (Addr×Obj)}{σ:St}{H H':Hp}{s:Shared}{g h1 h2:Heap}
theorem Inv.exit (I:Inv X pins σ H s)(hx:X.ex=[])(u:Un (frs X.stack) [] H H' s.heap h1)(hg:Gk s.heap g)(k:Kp g X.stack h1 h2):Un X.fs [] X.H₀ H' X.s₀.heap h2:=by
 have nx:∀ b,b∉X.ex:=fun b z=>by rw[hx]at z;cases z
 have nn:∀ b:Addr,b∉([]:List Addr):=fun b z=>by cases z
 have atg:∀ b o,X.s₀.heap.get? b=some o->At g b:=fun b o e=>by
  obtain⟨o',e'⟩:=I.base.there b o e (nx b)
  exact hg b ⟨o',e'⟩
 refine⟨fun b o e n hb _=>?_,fun b o e n hb _=>?_,fun b o e n _=>?_,fun b o e _=>?_,fun b xs e=>u.tups b xs (I.base.tups b xs e),fun b o xs e=>u.frzs b o xs (I.base.frzs b o xs e),fun b ps e=>?_⟩
 ·have e1:=I.base.keep b o e n hb (nx b)
  have n1:=I.base.free b o e n (nx b)
  have hs:b∉frs X.stack:=fun z=>by
   rcases List.mem_cons.mp (I.stkSub b z)with y | y
   ·exact absurd y (ao (aA (gxN e) I.ok.above))
   ·exact hb y
  exact k.other b o (u.keep b o e1 n1 hs (nn b)) (atg b o e) hs
 ·obtain⟨sl,e1⟩:=I.base.slot b o e n hb (nx b)
  have n1:=I.base.free b o e n (nx b)
  obtain⟨sl2,e2⟩:=u.any e1 n1 (nn b)
  obtain⟨sl3,e3⟩:=k.any e2 (atg b o e)
  exact⟨sl3,e3⟩
 ·obtain⟨o',e1⟩:=I.base.there b o e (nx b)
  exact u.free b o' e1 (I.base.free b o e n (nx b)) (nn b)
 ·obtain⟨o',e1⟩:=I.base.there b o e (nx b)
  obtain⟨o2,e2⟩:=u.there b o' e1 (nn b)
  obtain⟨sl,e3⟩:=k.any e2 (atg b o e)
  exact⟨_,e3⟩
 ·obtain⟨m1,e1⟩:=I.base.tbls b ps e
  obtain⟨m2,e2⟩:=u.tbls b _ e1
  exact⟨m1++m2,by rw[e2,Array.append_assoc]⟩
end
section
variable {P:Program}{w:World}{K:PySem.W.Frag}{mg:Str->Option Value}{base:Heap}{N:List Str}{qual:Str}{scope:Scope}{f:Addr}{cd:Value}{A:Around}{outer:List Env}{s₀ s:Shared}{H₀ H:Hp}{E:XK}{pins:List (Addr×Obj)}{σ:St}
theorem flies:Passes (CX1 P w) (cxOf (CX1 P w) P w K mg base N qual scope f cd A outer s₀ H₀ E) E:=fun pins σ H s ev s' I c=>by
 obtain⟨e,cls,H',g,rfl,os,bare,un,hok,⟨g1,g2,g3⟩,ex,hE⟩:=c
 have I2:=I.call' (s':=s') (ch:=[]) os un hok bare (fun b z=>absurd z (by simp))
 have hfr:(cxOf (CX1 P w) P w K mg base N qual scope f cd A outer s₀ H₀ E).A.frames=some (envOfC qual scope s₀.heap.objs.size f cd::outer):=I.ok.frames
 show wpAny _ _ (leaving _ (.ref e)) _ _ s'
 unfold leaving
 refine gxM (note_next hfr I2.stack rfl g3 ex fun h1 x1 k1=>?_)
 refine flight_none (l:=envOfC qual scope s₀.heap.objs.size f cd::outer) x1 fun h2 x2 k2 _=>?_
 have k:=k1.trans k2
 exact⟨e,cls,H',g,rfl,os.trans I.os,bare,I.exit rfl un g1 k,hok_kp hok (fun b hb=>⟨g2 b hb,fun z=>hb (I2.stkFree b z)⟩) k,⟨fun b hb=>by
  obtain⟨o,e0⟩:=hb
  obtain⟨o',e1⟩:=I.base.there b o e0 (by simp[cxOf])
  exact g1 b ⟨o',e1⟩,g2,k.gk g3⟩,x2,hE⟩
theorem raises {h':Heap}{e:Addr}{cls:Value}{vs:List Value}(I:Inv (cxOf (CX1 P w) P w K mg base N qual scope f cd A outer s₀ H₀ E) pins σ H s)(x:Heap.MadeExcOf s.heap h' e cls vs)(hE:E cls none H):(cxOf (CX1 P w) P w K mg base N qual scope f cd A outer s₀ H₀ E).xe (.ref e) { s with heap:=h'}:=by
 have hfr:(cxOf (CX1 P w) P w K mg base N qual scope f cd A outer s₀ H₀ E).A.frames=some (envOfC qual scope s₀.heap.objs.size f cd::outer):=I.ok.frames
 obtain⟨t,he,htn,ht⟩:=x.there
 have ff:h'.FunFrames base (envOfC qual scope s₀.heap.objs.size f cd::outer):=(show s.heap.FunFrames base _ from I.stack).of_keeps fun b o q _=>⟨o,x.keeps b o q,rfl⟩
 have gk:Gk s.heap h':=fun b hq1=>by obtain⟨o,q⟩:=hq1;exact⟨o,x.keeps b o q⟩
 show wpAny _ _ (leaving _ (.ref e)) _ _ _
 unfold leaving
 refine gxM (note_first (s:={ s with heap:=h'}) (g:=s.heap) hfr ff rfl he rfl rfl rfl rfl x.new gk fun h1 x1 k1=>?_)
 refine flight_none (l:=envOfC qual scope s₀.heap.objs.size f cd::outer) x1 fun h2 x2 k2 _=>?_
 have k:=k1.trans k2
 have un:Un (frs (envOfC qual scope s₀.heap.objs.size f cd::outer)) [] H H s.heap h':=Un.kept x.keeps
 have hok:HOk P w H h':=(show HOk P w H s.heap from I.hok).kept x.keeps
 refine⟨e,cls,H,s.heap,rfl,I.os,I.bare,I.exit rfl un (fun b hb=>hb) k,hok_kp hok (fun b hb=>⟨?_,fun z=>hb (I.stkFree b z)⟩) k,⟨fun b hb=>?_,fun b hb=>?_,k.gk gk⟩,x2,hE⟩
 ·cases q:H b with
  | none=>exact absurd q hb
  | some o=>exact at_of (show HOk P w H s.heap from I.hok) q
 ·obtain⟨o,e0⟩:=hb
  obtain⟨o',e1⟩:=I.base.there b o e0 (by simp[cxOf])
  exact⟨o',e1⟩
 ·cases q:H b with
  | none=>exact absurd q hb
  | some o=>exact at_of (show HOk P w H s.heap from I.hok) q
end
abbrev DX:=Value->MS->Prop
def LifX (φ:List Addr)(H:Hp)(Kx:DX)(E:XK):Prop:=∀ c μ' φ' H',Kx c μ'->Fr φ H φ' H'->MSis φ' H' μ'->E c none H'
theorem LifX.mono {φ φ1:List Addr}{H H1:Hp}{Kx:DX}{E:XK}(h:LifX φ H Kx E)(f:Fr φ H φ1 H1):LifX φ1 H1 Kx E:=fun c μ' φ' H' k g M=>h c μ' φ' H' k (f.trans g) M
abbrev DSpX:=List D->MS->DK->DX->Prop
def spX (f:DSpX):Sp:=fun vs H Q E=>∃ φ ds μ K Kx,DAll φ H ds vs/\MSis φ H μ/\f ds μ K Kx/\Lif φ H K Q/\LifX φ H Kx E
structure CalX (P:Program)(w:World)(K:PySem.W.Frag)(mg:Str->Option Value)(base:Heap)(x:Str)(k:Nat)(ps:List Str)(sp:Sp):Prop where
 ex:∃ f fd,FnOk P w K mg base (CX1 P w) k f fd ps sp/\mg x=some (.ref f)/\PySem.W.keepIn K (.ref f)=true/\Binds K fd ps []
structure Rz (X:Cx)(φ0:List Addr)(H0:Hp)(Kx:DX):Prop where
 ex:∃ E:XK,LifX φ0 H0 Kx E/\Passes (CX1 X.prog X.w) X E
structure Rm (X:Cx)(φ0:List Addr)(H0:Hp)(Kx:DX):Prop where
 ex:∃ E:XK,LifX φ0 H0 Kx E/\Passes (CX1 X.prog X.w) X E/\∀(pins:List (Addr×Obj)) (σ:St) (H:Hp) (s:Shared) (h':Heap) (e:Addr) (cls:Value) (vs:List Value),Inv X pins σ H s->Heap.MadeExcOf s.heap h' e cls vs->E cls none H->X.xe (.ref e) { s with heap:=h'}
theorem Rm.z {X:Cx}{φ0:List Addr}{H0:Hp}{Kx:DX}(h:Rm X φ0 H0 Kx):Rz X φ0 H0 Kx:=let ⟨E,a,b,_⟩:=h.ex;⟨E,a,b⟩
theorem MSis.hist {φ φ0:List Addr}{H H0:Hp}{μ:MS}(M:MSis φ H μ)(e:μ[0]?=some (.gx φ0 H0)):Fr φ0 H0 φ H:=let ⟨_,_,h⟩:=M.at_ 0 _ e;h.1
theorem MoIs.nt {φ:List Addr}{H:Hp}{m:MO}{p:Addr}(h:MoIs φ H m p)(zs:List V):H p≠some (.tup zs):=fun e=>by
 cases m with
 | box=>obtain⟨q,ns,i,r,z,h1,_⟩:=h;rw[e]at h1;cases h1
 | lst ds=>obtain⟨vs,h1,_⟩:=h;rw[e]at h1;cases h1
 | dic ks ds=>obtain⟨kvs,vs,h1,_⟩:=h;rw[e]at h1;cases h1
 | fdic o kvs ds=>have h1:=h.1;rw[e]at h1;cases h1
 | ins C ns ds=>obtain⟨dx,fs,h1,_⟩:=h;rw[e]at h1;cases h1
 | dtu ks ds=>obtain⟨kvs,h1,_⟩:=h;rw[e]at h1;cases h1
 | gx φ0 H0=>exact h.2.2.2 zs e
 | exc c=>rw[show _=_ from h]at e;cases e
theorem MSis.ghost {φ:List Addr}{H:Hp}{μ:MS}{m:MO}(M:MSis φ H μ)(e:μ[0]?=some m):MSis φ H (μ.set 0 (.gx φ H)):=by
 have h0:0<μ.length:=(gxB e).1
 refine⟨M.nd,by rw[aE];exact M.len,fun k n en=>?_⟩
 by_cases hk:k=0
 ·subst hk
  rw[aw h0]at en
  cases en
  obtain⟨p,e1,e2⟩:=M.at_ 0 m e
  exact⟨p,e1,.refl _ _,rfl,e2.ex,e2.nt⟩
 ·rw[ah (aO hk)]at en
  exact M.at_ k n en
theorem MSis.back {φ φ':List Addr}{H H':Hp}{μ μ':MS}{m:MO}(M:MSis φ H μ)(e:μ[0]?=some m)(M':MSis φ' H' μ')(e':μ'[0]?=some (.gx φ H)):MSis φ' H' (μ'.set 0 m):=by
 have h0:0<μ'.length:=(gxB e').1
 refine⟨M'.nd,by rw[aE];exact M'.len,fun k n en=>?_⟩
 by_cases hk:k=0
 ·subst hk
  rw[aw h0]at en
  cases en
  obtain⟨p',e1,f,hp,_⟩:=M'.at_ 0 _ e'
  obtain⟨p,e2,im⟩:=M.at_ 0 m e
  have:=f.get e2
  rw[e1]at this
  cases this
  exact⟨p',e1,im.mono f fun o q=>hp.trans q⟩
 ·rw[ah (aO hk)]at en
  exact M'.at_ k n en
def gK (φ0:List Addr)(H0:Hp)(m:MO)(K:DK):DK:=fun d μ'=>μ'[0]?=some (.gx φ0 H0)/\K d (μ'.set 0 m)
def gX (φ0:List Addr)(H0:Hp)(m:MO)(K:DX):DX:=fun c μ'=>μ'[0]?=some (.gx φ0 H0)/\K c (μ'.set 0 m)
theorem Lif.ghost {φ:List Addr}{H:Hp}{μ:MS}{m:MO}{K:DK}{Q:VK}(L:Lif φ H K Q)(M:MSis φ H μ)(e:μ[0]?=some m):Lif φ H (gK φ H m K) Q:=fun d μ' φ' v H' ⟨e',k⟩ f M' i=>L d _ φ' v H' k f (M.back e M' e') i
theorem LifX.ghost {φ:List Addr}{H:Hp}{μ:MS}{m:MO}{K:DX}{Q:XK}(L:LifX φ H K Q)(M:MSis φ H μ)(e:μ[0]?=some m):LifX φ H (gX φ H m K) Q:=fun c μ' φ' H' ⟨e',k⟩ f M'=>L c _ φ' H' k f (M.back e M' e')
section
variable {X:Cx}{e:Expr}{es:List Expr}{pos:Pos}{φ0:List Addr}{H0:Hp}{Kx:DX}
def dCallX (φ0:List Addr)(H0:Hp)(Kx:DX)(f:DSpX)(w:DA):De:=fun ρ μ K=>w ρ μ fun ds μ1=>μ1[0]?=some (.gx φ0 H0)/\f ds μ1 K Kx
theorem d_callX {f:DSpX}{w:DA}{x:Str}{p:Pos}{k:Nat}{ps:List Str}(Z:Rz X φ0 H0 Kx)(C:CalX X.prog X.w X.K X.mg X.base x k ps (spX f))(hr:Room k X.A)(hg:Gl X x)(ha:PDA X (e::es) w)
 (hdb:(x==("__debug__" : Str))=false:=by decide) (he:starEach (e::es) X.env=(false,eval e X.env)::starEach es X.env:=by rfl) (hpl:(backTo pos (starEach es X.env)).any (·.1)=false:=by rfl) :
 PD X (.Call (.Name x p) (e::es) [] pos) (dCallX φ0 H0 Kx f w):=by
 obtain⟨E,LX,hp⟩:=Z.ex
 obtain⟨f',fd,F,hm,hk,hb⟩:=C.ex
 exact(pe_call F hr hg hm hk hb .nil hp ha hdb he hpl).imp fun σ H Q ⟨φ,ρ,μ,K,Ee,M,w,L⟩ =>
  ⟨φ,ρ,μ,_,Ee,M,w,fun ds μ1 φ1 vs H1 k1 f1 M1 i1=>by show spX f (vs++[]) H1 Q E;rw[aZ];exact⟨φ1,ds,μ1,K,Kx,i1,M1,k1.2,L.mono f1,LX.mono (M1.hist k1.1)⟩⟩
def dRaise (φ0:List Addr)(H0:Hp)(Kx:DX)(C:Addr)(w:DA):Ds:=fun _ ρ μ=>w ρ μ fun ds μ1=>ds.length<=sizeLine/\μ1[0]?=some (.gx φ0 H0)/\Kx (.ref C) μ1
theorem s_raise {w:DA}{x:Str}{C:Addr}{bm bmN:List Value}{B Bn newId nid initId inN:String}{np cpos:Pos}(Z:Rm X φ0 H0 Kx)(hc:X.calm=true)(O:OwnCls x C bm newId X.mg X.base)(Fn:ExcBaseFacts Bn newId inN bmN)(hBn:bm.contains (.type Bn)=true)
 (FB:ExcBaseFacts B nid initId bm) (hg:Gl X x) (ha:PDA X (e::es) w) (hd:(x==("__debug__" : Str))=false:=by decide)
 (he:starEach (e::es) X.env=(false,eval e X.env)::starEach es X.env:=by rfl) (hpl:(backTo cpos (starEach es X.env)).any (·.1)=false:=by rfl) :
 PDS X (.Raise (some (.Call (.Name x np) (e::es) [] cpos)) none pos) (dRaise φ0 H0 Kx C w):=fun pins s σ H D I hq=>by
 obtain⟨φ,ρ,μ,N,A,M,k,L⟩:=hq
 obtain⟨E,LX,hp,mk⟩:=Z.ex
 obtain⟨tl,Na,nm,q,bs,hdct,sn,sub,ab,col,dd,k0,k1,k2,k3,k5,mN,hC,hN,hni,T⟩:=O.obj
 refine wpAny_Raise_call_subU (C:=C) (nm:=nm) (q:=q) (N:=Na) (bs:=bs) (bm:=tl) (hdct:=hdct) (sn:=sn) (sub:=sub) (ab:=ab) (col:=col) (dd:=dd) (k0:=k0) (k1:=k1) (k2:=k2) (k3:=k3) (k5:=k5)
  Fn hBn FB (mN:=mN) (T.hasType FB.hasBase) (I.ok.hd hc) (by rw[he];show(false||(backTo cpos (starEach es X.env)).any (·.1))=false;rw[hpl];rfl) hni (ld_glob I hg O.bound ⟨rfl,?_⟩ hd)
 have h:=ha cpos pins s σ H (fun vs H1=>vs.length<=sizeLine/\E (.ref C) none H1) I ⟨φ,ρ,μ,_,A,M,k,fun ds μ1 φ1 vs H1 k1 f1 M1 i1=>⟨by rw[i1.len];exact k1.1,LX (.ref C) μ1 φ1 H1 k1.2.2 (M1.hist k1.2.1) M1⟩⟩
 rw[he]at h ⊢
 refine Calls.evalArgs_plain (a9 h (fun us s2 hq2=>by obtain⟨vs,H1,I1,r1,q1⟩:=hq2;exact⟨rfl,by rw[<- r1.length];exact q1.1,I1.bk _ _ hC,hN.keeps I1.bk,T.keeps I1.bk,fun h' e' mx=>mk pins σ H1 s2 h' e' _ _ I1 mx q1.2⟩) fun _ _ y=>y)
end
def FX (n:Nat)(K:DX):DX:=fun c μ'=>K c μ'\/((∀(j:Nat) (m:MO),j<n->μ'[j]?=some m->moB n m)/\K c (μ'.take n))
theorem LifX.fx {φ:List Addr}{H:Hp}{μ:MS}{K:DX}{E:XK}(M:MSis φ H μ)(L:LifX φ H K E):LifX φ H (FX μ.length K) E:=fun c μ' φ' H' k f M'=>by
 rcases k with k | ⟨hm,k⟩
 ·exact L c μ' φ' H' k f M'
 ·have eφ:φ'.take μ.length=φ:=by
   obtain⟨⟨ψ,rfl,_⟩,_,_⟩:=f
   rw[<- M.len,bf]
  have f0:Fr φ H (φ'.take μ.length) H':=by
   rw[eφ]
   exact⟨⟨[],by simp,fun _ h=>nomatch h⟩,f.keep,f.dom⟩
  exact L c _ _ H' k f0 (M'.cutT hm)
section
variable {P:Program}{w:World}{K:PySem.W.Frag}{mg:Str->Option Value}{base:Heap}
theorem Fun.okX {x qual:Str}{st:Stmt}{f:Addr}{fd:FuncData}{N ps:List Str}{k:Nat}{fs:DSpX}(F:Fun K x qual st f fd)(S:FnScope N ps (defScope st))(len:∀ ds μ Kd Kx,fs ds μ Kd Kx->ds.length=ps.length/\∃ m,μ[0]?=some m)
 (hbody:∀(cdv:Value) (A:Around) (outer:List Env) (s:Shared) (H:Hp) (E:XK),Room k (A.deeper (envOfC qual (defScope st) s.heap.objs.size f cdv))->∀(φ0:List Addr) (Kb:DX),Rm (cxOf (CX1 P w) P w K mg base N qual (defScope st) f cdv A outer s H E) φ0 H Kb ->
   ∃ W,PDB (cxOf (CX1 P w) P w K mg base N qual (defScope st) f cdv A outer s H E) (defBody st) W/\∀ ds μ m Kd Kx,(∀(j:Nat) (m':MO),(μ.set 0 (.gx φ0 H))[j]?=some m'->moB (μ.set 0 (.gx φ0 H)).length m')->mrL (μ.set 0 (.gx φ0 H)).length ds->μ[0]?=some m->fs ds μ Kd Kx->Kb=FX (μ.set 0 (.gx φ0 H)).length (gX φ0 H m Kx) ->
    W (retN (μ.set 0 (.gx φ0 H)).length (gK φ0 H m Kd)) (startE N ds) (μ.set 0 (.gx φ0 H))):FnOk P w K mg base (CX1 P w) (k+1) f fd ps (spX fs):=by
 obtain⟨oc,od,kV,doc,pm,an,cdv,ct,osl,rfl,lk,hcd⟩:=F.ex
 refine fn_of lk hcd S (fun vs H Q E h=>?_) fun A outer s H vs Q E hr hsp=>?_
 ·obtain⟨φ,ds,μ,Kd,Kx,ha,M,hf,L,LX⟩:=h
  rw[ha.len];exact(len ds μ Kd Kx hf).1
 ·obtain⟨φ,ds,μ,Kd,Kx,ha,M,hf,L,LX⟩:=hsp
  obtain⟨_,m,em⟩:=len ds μ Kd Kx hf
  have Mg:=M.ghost em
  have Lg:=(L.ghost M em).fz Mg
  obtain⟨W,hW,q⟩:=hbody cdv A outer s H E hr φ (FX (μ.set 0 (.gx φ H)).length (gX φ H m Kx)) ⟨E,(LX.ghost M em).fx Mg,flies,fun pins σ H' s' h' e cls vs I x hE=>raises I x hE⟩
  refine⟨_,hW,φ,startE N ds,μ.set 0 (.gx φ H),retN (μ.set 0 (.gx φ H)).length (gK φ H m Kd),.start ha,Mg,q ds μ m Kd Kx Mg.bound (by rw[<- Mg.len];exact ha.bound) em hf rfl,⟨fun ρ' μ' φ' σ' H' k' f' A' M'=>?_,Lg,fun _ _ _ _ _ k' _ _ _=>k'.elim,fun _ _ _ _ _ k' _ _ _=>k'.elim⟩⟩
  exact Lg .non μ' φ' .non H' k' f' M' rfl
end
theorem entry_unchain:entryFor table "proto.unchain"=some Builtin.«proto.unchain»:=entryFor_of_tree (by kernel_rfl)
section
variable {prog:Program}{w:World}{A:Around}{E:Value->Shared->Prop}{s:Shared}
theorem raiseNew_ctx {α:Type}{e h:Addr}{oh oe:Obj}{vs ws:Array Value}{Q:α->Shared->Prop}(hh:A.handled=some (.ref h))(hne:h≠e)(ho:s.heap.get? h=some oh)(hd:oh.data=.fields vs)(h2:vs[2]?=some .none)(he:s.heap.get? e=some oe)(hde:oe.data=.fields ws)(h2e:2<ws.size)
 (hE:E (.ref e) { s with heap:=s.heap.update e (Obj.mapFields (·.setIfInBounds 2 (.ref h)))}):wpAny (model prog w) A (raiseNew (.ref e):Sem α) Q E s:=by
 unfold raiseNew
 refine gxM (wpAny_handled ?_)
 rw[hh]
 dsimp only
 rw[ar (show(Value.ref h != Value.ref e)=true from by simp[hne])]
 refine gxM (ba (wpAny_runValue (codeAny_builtin entry_unchain ?_)))
 unfold Builtin.«proto.unchain»
 dsimp only
 refine gxM (aG ho hd h2 ?_)
 rw[ar (by decide)]
 refine gxM (ae (ae ?_))
 exact gxM (show wpAny _ _ (setField (.ref e) 2 (.ref h)) _ _ _ from bT he hde h2e (wpAny_throw hE))
theorem range_endH {it h:Addr}{oh:Obj}{vs:Array Value}{x left step:Int}{Q:Option Value->Shared->Prop}(hh:A.handled=some (.ref h))(ho:s.heap.get? h=some oh)(hd:oh.data=.fields vs)(h2:vs[2]?=some .none)(hit:IsRangeIter s.heap it x left step)(hleft:left<=0)
 (hQ:∀ h',(∀ b o,s.heap.get? b=some o->h'.get? b=some o)->Q none { s with heap:=h'}):wpAny (model prog w) A (pyNext (.ref it)) Q E s:=by
 have hT:s.TypeIs (.ref it) "range_iterator":=⟨_,hit,rfl⟩
 unfold pyNext
 refine gxM (b9 (aW (name:=Str.ofString "__next__") hT F.slot_range_iterator_next
  (bt F.slot_range_iterator_next hT F.entry_range_iterator_next ?_ (F.args_range_iterator_next_1 _))))
 show wpAny _ _ (field (.ref it) 0 >>= _) _ _ s
 refine gxM (aG hit rfl (x:=rawInt x) rfl ?_)
 show wpAny _ _ (field (.ref it) 1 >>= _) _ _ s
 refine gxM (aG hit rfl (x:=rawInt left) rfl ?_)
 show wpAny _ _ (field (.ref it) 2 >>= _) _ _ s
 refine gxM (aG hit rfl (x:=rawInt step) rfl ?_)
 show wpAny _ _ (if left<=0 then _ else _) _ _ s
 rw[ar hleft]
 refine gxM (wpAny_rule (gxM ?_))
 show wpAny _ _ (newExc (.type "StopIteration") [] >>= _) _ _ _
 refine gxM ?_
 simp only[newExc,newTuple]
 refine gxM (a8 ?_ (by size_fits))
 refine gxM (m:=firstArgMember _ _) (wpAny_of_eq (a:=Value.none) (by first | rfl | (simp only[firstArgMember];rfl)) ?_)
 refine a8 ?_ (by size_fits)
 obtain⟨g,hg⟩:∃ g,g=s.heap.push { cls:=Value.type "tuple",data:=Data.seq #[]}:=⟨_,rfl⟩
 show wpAny _ _ (raiseNew (.ref (s.heap.push { cls:=Value.type "tuple",data:=Data.seq #[]}).objs.size)) _ _ { s with heap:=(s.heap.push { cls:=Value.type "tuple",data:=Data.seq #[]}).push { cls:=Value.type "StopIteration",data:=Data.fields (#[Value.ref s.heap.objs.size,Value.none,Value.none,Value.none,Value.bool false,Value.none]++ownMembersOf (Value.type "StopIteration") [])}}
 rw[<- hg]
 have k1:∀ b o,s.heap.get? b=some o->g.get? b=some o:=fun b o e=>by rw[hg];exact gxL _ e
 have k2:=fun b o (e:g.get? b=some o)=>gxL (h:=g) { cls:=Value.type "StopIteration",data:=Data.fields (#[Value.ref s.heap.objs.size,Value.none,Value.none,Value.none,Value.bool false,Value.none]++ownMembersOf (Value.type "StopIteration") [])} e
 have ne:h≠g.objs.size:=ao (gxN (k1 _ _ ho))
 have eN:=ak g (o:={ cls:=Value.type "StopIteration",data:=Data.fields (#[Value.ref s.heap.objs.size,Value.none,Value.none,Value.none,Value.bool false,Value.none]++ownMembersOf (Value.type "StopIteration") [])}) rfl
 refine raiseNew_ctx (s:={ s with heap:=g.push _}) (hh:=hh) ne (k2 _ _ (k1 _ _ ho)) hd h2 eN rfl (by rw[Array.size_append];show 2<6+_;omega) ?_
 refine gxM (wpAny_isInstance (T := "StopIteration") (b:=true) ⟨_,aY _ eN rfl,rfl⟩ isSubtype_stop ?_)
 exact ae (hQ _ fun b o e=>by
  have e2:=k2 _ _ (k1 _ _ e)
  rw[aL _ _ (aR (gxN (k1 _ _ e)))]
  exact e2)
end
structure ExF (K:PySem.W.Frag)(C:Addr):Prop where
 cl:(PySem.W.clsIn K C).isSome=true
 ga:PySem.W.findIn K (.ref C) "__getattribute__"=some (some (.builtin "BaseException.__getattribute__"))
 gn:PySem.W.findIn K (.ref C) "__getattr__"=some none
 ca:PySem.W.findIn K (.ref C) "__class__"=some (some (.builtin "object.__class__"))
 cg:PySem.W.specialIn K (.builtin "object.__class__") "__get__"=some (some (.builtin "getset_descriptor.__get__"))
 ct:PySem.W.takesIn K (.builtin "object.__class__")=some true
 mo:PySem.W.mroIn K C (.type "object")=some true
 mb:PySem.W.mroIn K C (.type "BaseException")=some true
section
variable {prog:Program}{w:World}{A:Around}{E:Value->Shared->Prop}{s:Shared}{K:PySem.W.Frag}{e C:Addr}{oe:Obj}
theorem exc_class {Q:Option Value->Shared->Prop}(X:K.In s.heap)(I:PySem.W.InstAt s.heap e oe C none)(f:ExF K C)(h:Q (some (.ref C)) { s with toks:=s.toks+1}):wpAny (model prog w) A (getAttr? (.ref e) "__class__") Q E s:=by
 obtain⟨hh,g,d,t,os⟩:=s
 have L0:=I.type (M:=model prog w)
 have L1:=PySem.W.looks_findIn (M:=model prog w) X f.ga
 have L2:=PySem.W.looks_findIn (M:=model prog w) X f.gn
 have hf:PySem.W.findObj K C none "__class__"=some (.bind (.builtin "getset_descriptor.__get__") (.builtin "object.__class__")):=by
  obtain⟨cd,hc⟩:=Option.isSome_iff_exists.mp f.cl
  unfold PySem.W.findObj
  rw[hc,Option.bind_some,f.ca,Option.bind_some]
  simp[f.cg,f.ct]
 have L3:=PySem.W.looks_find (M:=model prog w) X I hf
 have LB:=PySem.W.looks_mroIn (M:=model prog w) X f.mb
 unfold getAttr? getAttrBy? getAttrBy
 refine gxM (wpAny_mkText (gxM (b9 (ba (gxM (L0.at (gxM (L1.at ?_))))))))
 show wpAny _ _ (getAttrByItsOwn _ _ _ _ _ _) _ _ _
 unfold getAttrByItsOwn
 refine gxM (show wpAny _ _ (typeLookup (.ref C) "__getattr__") _ _ _ from L2.at ?_)
 refine gxM (b9 (ba ?_))
 show wpAny _ _ (boundAndCalled _ _ _) _ _ _
 unfold boundAndCalled
 have ga:=PySem.F.attr_ValueError.ga
 refine gxM (wpAny_of_eq (ga.bind (.ref e)) (wpAny_call (codeAny_call_builtin ga.plain F.entry_bexc_ga ?_)))
 have LI:PySem.W.Looks (model prog w) hh (isInstance (.ref e) (.type "BaseException")) true:=L0.andThen LB
 have hk:builtinKind "BaseException.__getattribute__"=some .slot:=by decide +kernel
 have hsplit:splitId "BaseException.__getattribute__"=some ("BaseException", "__getattribute__"):=by decide +kernel
 have ha:=F.args_bexc_ga (.ref e) (.str "__class__" t)
 show wpAny _ _ (checkBuiltinCall "BaseException.__getattribute__" ⟨[.ref e,.str "__class__" t],[]⟩) _ _ _
 simp only[checkBuiltinCall,hk,hsplit]
 refine gxM (LI.at ?_)
 simp only[if_true,Bool.not_true,cq,if_false]
 refine wpAny_of_eq ha ?_
 show wpAny _ _ (Builtin.«object.__getattribute__» ⟨[.ref e,.str "__class__" t],[]⟩) _ _ _
 unfold Builtin.«object.__getattribute__»
 refine gxM (ae (gxM (ae (gxM (L0.at (gxM (L3.at ?_)))))))
 show wpAny _ _ (holding [Value.builtin "object.__class__"] (call (.builtin "getset_descriptor.__get__") [.builtin "object.__class__",.ref e,.ref C]) >>= fun v=>ret v) _ _ _
 refine gxM (ba (wpAny_call (PySem.W.class_get (ox:=oe) (od:=none) X I f.mo ?_)))
 refine ae ?_
 exact PySem.W.handed_on rfl (ae h)
theorem kitx_exc (f:ExF K C):PySem.W.KitX K (.ref e) (.ref C) (fun h=>∃ oe,PySem.W.InstAt h e oe C none) where
 ty:=fun _ _ _ hq3=>by obtain⟨_,I⟩:=hq3;exact I.type
 it:=fun _ _ X _=>by
  obtain⟨cdD,hcD⟩:=Option.isSome_iff_exists.mp f.cl
  unfold PySem.W.clsIn at hcD
  split at hcD
  ·rename_i c' d' cd' sl' ho
   intro A' Q' E' s' k q
   unfold isType loadHead
   exact gxM (wpAny_loadPart (k _ _ (X _ _ ho)) (ae q))
  ·cases hcD
 ne:=fun h tp dd its n sl X htp=>by
  obtain⟨cdD,hcD⟩:=Option.isSome_iff_exists.mp f.cl
  refine Bool.eq_false_iff.mpr fun q=>?_
  have e:C=tp:=Value.ref.inj (beq_iff_eq.mp q)
  subst e
  unfold PySem.W.clsIn at hcD
  split at hcD
  ·rename_i c' d' cd' sl' ho
   have z:=(X _ _ ho).symm.trans htp
   cases z
  ·cases hcD
 ca:=fun X ⟨_,I⟩ k=>exc_class X I f k
theorem exc_match {h:Heap}{g:Array GenState}{d:Drawn}{t:Nat}{os:OsState}{B:Addr}{Q:Bool->Shared->Prop}{nB qB nC qC:Str}{NB NC:Addr}{bsB bmB bsC bmC:List Value}{hdB hdC:Bool}{snB snC:List Str}{subB subC:List Value}{abB abC:Bool}{colB colC:Option Bool}{ddB ddC:Option Addr}{b0 b1 b2 b3 b5 c0 c1 c2 c3 c5:Option Value}{idB idC:String}
 (hB:h.get? B=some (excClassObj nB qB B NB bsB bmB hdB snB subB abB colB ddB b0 b1 b2 b3 b5 idB)) (hC:h.get? C=some (excClassObj nC qC C NC bsC bmC hdC snC subC abC colC ddC c0 c1 c2 c3 c5 idC)) (he:h.get? e=some oe) (hcls:oe.cls=.ref C)
 (hbB:bmB.contains (.type "BaseException")=true) (hin:(Value.ref C::bmC).contains (.ref B)=true) (hq:Q true ⟨h,g,d,t,os⟩):wpAny (model prog w) A (excMatches (.ref e) (.ref B)) Q E ⟨h,g,d,t,os⟩:=by
 have hcB:(Value.ref B::bmB).contains (.type "BaseException")=true:=by rw[List.contains_cons,hbB,Bool.or_true]
 have f:=tc_notTuple
 unfold excMatches
 repeat (first | (with_reducible refine wpAny_loadPart_at he ?_;rw[hcls]) | with_reducible refine wpAny_loadPart_at hB ?_ | (with_reducible refine wpAny_isSubtype_exc hB ?_;rw[hcB]) | (with_reducible refine wpAny_isSubtype_exc hC ?_;rw[hin]) | wp_step)
 exact hq
end
section
variable {X:Cx}{a e:Expr}{es:List Expr}{pos:Pos}
theorem isiE {c:V}{cv:Value}(rc:∀ u,RelV c u->u=cv):CallR X (.builtin "isinstance") (fun vs H Q=>∃ e C b,vs=[.ref e,c]/\H e=some (.ext (ExcIs e (.ref C)))/\ExF X.K C/\PySem.W.kitOne X.K (.ref C) cv=some b/\Q (.bl b) H):=by
 intro pins s σ H vs us Q I r q
 obtain⟨e,C,b,rfl,he,f,hk,q⟩:=q
 obtain⟨u1,u2,rfl,r1,r2⟩:=r.two
 cases(show u1=.ref e from r1)
 have:=rc u2 r2
 subst this
 obtain⟨⟨oe,ws,h1,h2,h3,h4,_⟩,_,_⟩:=(show ObjOk X.prog X.w H s.heap e (.ext (ExcIs e (.ref C)))from I.hok e _ he)
 exact br (kitx_exc f) I.kIn ⟨oe,h1,h2,by unfold PySem.W.notCls;rw[h4],by rw[h3];trivial⟩ hk (fun z=>nomatch z) fun tk=>⟨.bl b,H,I.tok tk,rfl,q⟩
def dIsiE (K:PySem.W.Frag)(cv:Value)(w:De):De:=fun ρ μ Kd=>w ρ μ fun d μ1=>match d with
 | .mr k=>∃ C b,μ1[k]?=some (.exc (.ref C))/\ExF K C/\PySem.W.kitOne K (.ref C) cv=some b/\Kd (.bl b) μ1
 | _=>False
theorem tD_isiE {c:V}{cv:Value}{w:De}{σ:St}{H:Hp}{Q:VK}(h:tD (dIsiE X.K cv w) σ H Q):tCB (fun vs H Q=>∃ e C b,vs=[.ref e,c]/\H e=some (.ext (ExcIs e (.ref C)))/\ExF X.K C/\PySem.W.kitOne X.K (.ref C) cv=some b/\Q (.bl b) H) (tCons (tD w) (tCons (tC c) tNil)) σ H Q:=by
 obtain⟨φ,ρ,μ,K,A,M,k,L⟩:=h
 refine⟨φ,ρ,μ,_,A,M,k,fun d μ1 φ1 v1 H1 k1 f1 M1 i1=>?_⟩
 cases d with
 | mr j =>
  obtain⟨C,b,e1,f,hk,k1⟩:=k1
  obtain⟨p,hp,rfl⟩:=i1
  obtain⟨p',e2,e3⟩:=M1.at_ j _ e1
  rw[hp]at e2;cases e2
  exact⟨p,C,b,rfl,e3,f,hk,L _ μ1 φ1 _ H1 k1 f1 M1 rfl⟩
 | _=>exact k1.elim
theorem d_isiC {w:De}{B:Addr}{x:Str}{p p2:Pos}(hg:Gl X "isinstance")(hm:X.mg "isinstance"=none)(hg2:Gl X x)(hm2:X.mg x=some (.ref B))(ha:PD X a w)(hd:(x==("__debug__" : Str))=false:=by decide)
 (hs:starEach [a,.Name x p2] X.env=(false,eval a X.env)::starEach [.Name x p2] X.env:=by rfl) (hs2:starEach [.Name x p2] X.env=(false,eval (.Name x p2) X.env)::starEach [] X.env:=by rfl) (hpl:(backTo pos (starEach [.Name x p2] X.env)).any (·.1)=false:=by rfl) :
 PD X (.Call (.Name "isinstance" p) [a,.Name x p2] [] pos) (dIsiE X.K (.ref B) w) :=
 (pe_callB (isiE (c:=.ref B) (cv:=.ref B) fun u r=>r) hg hm boot_isinstance (pa_cons ha (pa_cons (pe_glob (v:=.ref B) hg2 hm2 rfl hd) pa_nil hs2) hs) (by decide) (by decide) hs hpl).imp fun σ H Q q=>tD_isiE q
theorem d_isiV {w:De}{T:String}{x:Str}{p p2:Pos}(hg:Gl X "isinstance")(hm:X.mg "isinstance"=none)(hg2:Gl X x)(hm2:X.mg x=none)(hv:bootBuiltins x=some (.type T))(ha:PD X a w)(hn:x ≠ "__name__":=by decide)(hd:(x==("__debug__" : Str))=false:=by decide)
 (hs:starEach [a,.Name x p2] X.env=(false,eval a X.env)::starEach [.Name x p2] X.env:=by rfl) (hs2:starEach [.Name x p2] X.env=(false,eval (.Name x p2) X.env)::starEach [] X.env:=by rfl) (hpl:(backTo pos (starEach [.Name x p2] X.env)).any (·.1)=false:=by rfl) :
 PD X (.Call (.Name "isinstance" p) [a,.Name x p2] [] pos) (dIsiE X.K (.type T) w) :=
 (pe_callB (isiE (c:=.ty T) (cv:=.type T) fun u r=>r) hg hm boot_isinstance (pa_cons ha (pa_cons (pe_bltn (v:=.ty T) hg2 hm2 hv rfl hn hd) pa_nil hs2) hs) (by decide) (by decide) hs hpl).imp fun σ H Q q=>tD_isiE q
end
def ItrH (lo:Int)(n:Nat)(e:Addr):It:=⟨fun i _=>i<n,fun i H x H'=>H'=H/\x=.int (lo+i),fun i H=>n<=i/\∃ c,H e=some (.ext (ExcIs e c))⟩
def HndBy (e:Addr):Cx->Prop:=fun X=>X.A.handled=some (.ref e)
theorem turn_rangeH {P:Program}{w:World}{K:PySem.W.Frag}{tg:Expr}(it:Addr)(lo:Int)(n:Nat)(e:Addr):Turn P w K tg (ItrH lo n e) [it] it (fun i h=>IsRangeIter h it (lo+(i:Nat)*1) ((n:Int) - (i:Nat)) 1) (HndBy e) where
 mem:=by simp
 obj:=(turn_range (P:=P) (w:=w) (K:=K) (tg:=tg) it lo n).obj
 keep:=(turn_range (P:=P) (w:=w) (K:=K) (tg:=tg) it lo n).keep
 item:=by
  intro X hP hw hK hc i pins s σ H E I hf st hg
  subst hP hw hK
  obtain⟨f0,f1,f2,f3,f4,f5⟩:=hf it (by simp)
  refine wpAny_pyNext_range_item st (by have:i<n:=hg;omega) fun h' st' kk=>?_
  have I1:Inv X pins σ H { s with heap:=h',toks:=s.toks+1}:=I.turned (fun b o hb e=>kk.extBut b o hb e) f0 f1 f3 f4 f5
  have st2:IsRangeIter h' it (lo+((i+1:Nat):Int)*1) ((n:Int) - ((i+1:Nat):Int)) 1:=by
   have e1:lo+((i+1:Nat):Int)*1=lo+(i:Int)*1+1:=by omega
   have e2:(n:Int) - ((i+1:Nat):Int)=(n:Int) - (i:Int) - 1:=by omega
   rw[e1,e2];exact st'
  refine⟨_,rfl,go_of (s:={ s with heap:=h',toks:=s.toks+1}) (n := "range_iterator") st' rfl rfl (by decide) ⟨.int (lo+i),H,I1,⟨s.toks,by rw[Int.mul_one]⟩,⟨rfl,rfl⟩,st2,fun b hb=>(hf b hb).1⟩⟩
 done:=by
  intro X hP hw hK hc i pins s σ H E I hf st hg
  subst hP hw hK
  obtain⟨f0,f1,f2,f3,f4,f5⟩:=hf it (by simp)
  obtain⟨hg,c,he⟩:=hg
  obtain⟨⟨oe,ws,h1,h2,h3,h4,h5⟩,_,_⟩:=(show ObjOk X.prog X.w H s.heap e (.ext (ExcIs e c))from I.hok e _ he)
  exact range_endH hc h1 h4 h5 st (by omega) fun h' k=>⟨rfl,I.kept (t':=s.toks) k⟩
 self:=(turn_range (P:=P) (w:=w) (K:=K) (tg:=tg) it lo n).self
section
variable {X:Cx}{tg:Expr}{CM:Cx->Prop}
def PIH (X:Cx)(CM:Cx->Prop)(tg iter:Expr)(wi:TI):Prop :=
 ∀(pins:List (Addr×Obj)) (s:Shared) (σ:St) (H:Hp) (R:It->Hp->Prop),Inv X pins σ H s->wi σ H R ->
  wpAny (model X.prog X.w) X.A (eval iter X.env) (fun v s1=>wpAny (model X.prog X.w) X.A (pyIter v) (fun itv s2=>∃(it:Addr) (fp:List Addr) (tn:Nat->Heap->Prop) (J:It) (H':Hp),itv=.ref it/\Inv X pins σ H' s2/\Turn X.prog X.w X.K tg J fp it tn CM/\tn 0 s2.heap/\(∀ b∈fp,FpOk X pins H' b)/\R J H') X.xe s1) X.xe s
theorem PIH.imp {iter:Expr}{t t':TI}(h:PIH X CM tg iter t)(hi:∀ σ H Q,t' σ H Q->t σ H Q):PIH X CM tg iter t':=fun pins s σ H R I q=>h pins s σ H R I (hi σ H R q)
def iRngH (e:Addr)(ta:TA):TI:=fun σ H R=>ta σ H fun vs H1=>∃ j:Int,vs=[.int j] /\ -(2 ^ 62)<=j/\j<2 ^ 62/\R (ItrH 0 j.toNat e) H1
theorem pi_rangeH {a:Expr}{ta:TA}{e:Addr}{p pos:Pos}(hg:Gl X "range")(hm:X.mg "range"=none)(ha:PA X [a] ta)(hs:starEach [a] X.env=[(false,eval a X.env)]:=by rfl):PIH X (HndBy e) tg (.Call (.Name "range" p) [a] [] pos) (iRngH e ta):=by
 intro pins s σ H R I h
 refine Call_ (ld_blt I hg hm boot_range (bh (thn (ha pos pins s σ H _ I h) fun us s1 hq4=>?_) hs rfl))
 obtain⟨vs,H1,I1,r1,q1⟩:=hq4
 obtain⟨j,e',q1,q2,q⟩:=q1
 subst e'
 cases r1 with
 | cons r rr =>
  cases rr
  obtain⟨t,rfl⟩:=r
  refine call_range_1 ?_
  refine wpAny_pyIter_range (IsRange.new ..) (small_one (by omega) (by omega) q1 q2) ?_
  obtain⟨o,ho⟩:∃ o:Obj,o={ cls:=.type "range",data:=.fields #[.int 0 s1.toks,.int j t,.int 1 (s1.toks+1)]}:=⟨_,rfl⟩
  have I2:Inv X pins σ H1 { s1 with heap:=s1.heap.push o,toks:=s1.toks+1+1}:=I1.kept fun b u e=>gxL _ e
  rw[<- ho]
  refine⟨(s1.heap.push o).objs.size,[(s1.heap.push o).objs.size],_,_,H1,rfl,I2.kept (t':=s1.toks+1+1) fun b u e=>gxL _ e,turn_rangeH _ 0 j.toNat e,?_,fun b hb=>?_,q⟩
  ·have e1:(0:Int)+((0:Nat):Int)*1=0:=by simp
   have e2:((j.toNat:Nat):Int) - ((0:Nat):Int)=Builtin.Range.rangeSize 0 j 1:=by rw[rangeSize_one];split <;> omega
   show IsRangeIter _ _ ((0:Int)+((0:Nat):Int)*1) (((j.toNat:Nat):Int) - ((0:Nat):Int)) 1
   rw[e1,e2]
   exact ak _ rfl
  ·have e':b=(s1.heap.push o).objs.size:=by simpa using hb
   subst e'
   exact I2.fpOk (aa _) (I2.hok.fresh (aa _))
variable {N:List Str}{js:List (Option Nat)}{sc:Scope}{elt iter:Expr}{ifs:List Expr}{g:TG}{tt:TT}{te:TE}
theorem pe_compH {wi:TI}{pos:Pos}(hc:CompOk X N js sc)(calm:∀ fp s H,CM (cxC X N sc fp s H))(hi:PIH X CM tg iter wi)(hg:∀ fp s H,PG (cxC X N sc fp s H) tg g)(ht:∀ fp s H,PTs (cxC X N sc fp s H) ifs tt)(he:∀ fp s H,PE (cxC X N sc fp s H) elt te)
 (hs:∀ x,foldedSetIterable iter X.env x=pure x:=by intro _;rfl):PE X (.ListComp elt [⟨tg,iter,ifs,0⟩] sc pos) (tComp wi js g tt te):=by
 intro pins s σ H Q I h
 rw[eval_ListComp]
 refine b8 (use:=none) rfl hs (closureFor_eq fun y hy e=>I.ok.has y.1 (hc.free y hy e)) hc.kind hc.loc (thn (hi pins s σ H _ I h) fun v s1 h1=>thn h1 fun itv s2 h2=>?_)
 obtain⟨it,fp,tn,J,H2,e,I2,T,st2,f2,q⟩:=h2
 subst e
 refine a8 (newEnv_comp ?_)
 have hC:(s2.heap.push { cls:=.type "list",dict:=none,data:=.seq ([]:List Value).toArray}).objs.size=s2.heap.objs.size+1:=a6 ..
 simp only[hC]
 refine comp_block (tk:=s2.toks) I2 hc (calm fp s2 H2) T st2 f2 (hg fp s2 H2) (ht fp s2 H2) (he fp s2 H2) q fun s' H' ys m IX nD qf nC hn=>?_
 refine⟨m,nC,fun h' sb=>?_⟩
 have neC:∀(b:Addr) (o:Obj),s2.heap.get? b=some o->b≠s2.heap.objs.size+1:=fun b o e=>ao (bc (gxN e))
 have IY:Inv X pins σ (upd H' s2.heap.objs.size (.lst ys)) { s' with heap:=h'}:=IX.turned (t':=s'.toks) (it:=s2.heap.objs.size+1) (fun b o hb e=>(sb.2 b hb).trans e) (by rw[upd_ne (aR (bL _))];exact hn)
  (aR (bc I2.lt)) (.inr (bP I2.sz)) (fun x c e=>let ⟨v,z⟩:=I2.cell x c e;ao (bc z.lt)) (fun p hp=>neC _ _ (I2.pin p hp).1)
 exact⟨.ref _,_,IY,rfl,qf _ nD⟩
end
abbrev hC (φ0:List Addr)(H0:Hp)(k:Nat):MS->Prop:=fun μ=>μ[0]?=some (.gx φ0 H0)/\∃ c,μ[k]?=some (.exc c)
theorem hC_ext {φ0 φ:List Addr}{H0 H:Hp}{k:Nat}{μ:MS}{e:Addr}(hk:φ0[k]?=some e)(M:MSis φ H μ)(h:hC φ0 H0 k μ):φ[k]?=some e/\∃ c,H e=some (.ext (ExcIs e c)):=by
 obtain⟨h1,c,h2⟩:=h
 have:=(M.hist h1).get hk
 obtain⟨p,e1,e2⟩:=M.at_ k _ h2
 rw[this]at e1;cases e1
 exact⟨this,c,e2⟩
theorem wk_rangeH {lo:Int}{n k:Nat}{φ φ0:List Addr}{H H0:Hp}{e:Addr}(hk:φ0[k]?=some e):Wk (ItrH lo n e) φ H (rngD lo n) (hC φ0 H0 k):=fun φ' H' μ' f M c i=>by
 have hl:(rngD lo n).length=n:=by unfold rngD;rw[gxC,gxJ]
 refine⟨fun d hd=>?_,fun hi=>⟨by rw[hl]at hi;exact Nat.le_of_eq hi.symm,(hC_ext hk M c).2⟩⟩
 have hi:i<n:=by have:=(gxB hd).1;omega
 refine⟨hi,fun x H'' hy=>?_⟩
 obtain⟨rfl,rfl⟩:=hy
 refine⟨.refl _ _,M,?_⟩
 unfold rngD at hd
 rw[gxH,List.getElem?_range hi]at hd
 cases hd
 rfl
def dItRH (φ0:List Addr)(H0:Hp)(k:Nat)(w:DA):DI:=fun ρ μ K=>w ρ μ fun ds μ1=>match ds with
 | [.int j] => -(2 ^ 62)<=j/\j<2 ^ 62/\K (rngD 0 j.toNat) (hC φ0 H0 k) μ1
 | _=>False
section
variable {X:Cx}{a:Expr}{pos:Pos}{N:List Str}{js:List (Option Nat)}{sc:Scope}{tg elt iter:Expr}{ifs:List Expr}{g:TG}{y:DG}{S:List Nat}{t:Dt}{w:De}{φ0:List Addr}{H0:Hp}{k:Nat}{e:Addr}
theorem i_rangeH {w:DA}{p:Pos}(hk:φ0[k]?=some e)(hg:Gl X "range")(hm:X.mg "range"=none)(ha:PDA X [a] w)(hs:starEach [a] X.env=[(false,eval a X.env)]:=by rfl):PIH X (HndBy e) tg (.Call (.Name "range" p) [a] [] pos) (tDI (dItRH φ0 H0 k w)):=(pi_rangeH hg hm ha hs).imp fun σ H Q hq=>by
 obtain⟨φ,ρ,μ,K,A,M,k,L⟩:=hq
 refine⟨φ,ρ,μ,_,A,M,k,fun ds μ1 φ1 vs H1 k1 f1 M1 i1=>?_⟩
 split at k1
 ·obtain⟨v,r,rfl,h1,h2⟩:=i1
  cases(show v=_ from h1);cases(show r=[]from h2)
  exact⟨_,rfl,k1.1,k1.2.1,L _ _ μ1 φ1 _ H1 k1.2.2 f1 M1 (wk_rangeH hk)⟩
 ·exact k1.elim
theorem d_compH (m:Bool){wi:DI}(hc:CompOk X N js sc)(hh:X.A.handled=some (.ref e))(so:SoG g y S)(mo:MonoG g)(ho:ownJs S js=true)(hi:PIH X (HndBy e) tg iter (tDI wi))(hg:∀ fp s H,PG (cxC X N sc fp s H) tg g)(ht:∀ fp s H,PDTs (cxC X N sc fp s H) ifs t)(he:∀ fp s H,PD (cxC X N sc fp s H) elt w)
 (hs:∀ x,foldedSetIterable iter X.env x=pure x:=by intro _;rfl):PD X (.ListComp elt [⟨tg,iter,ifs,0⟩] sc pos) (dComp m wi js y t w):=(pe_compH hc (fun _ _ _=>hh) hi hg ht he hs).imp fun σ H Q q=>tD_comp so mo ho q
end
structure RoomH (k:Nat)(A:Around):Prop where
 dp:A.depth+3*k+5<recursionLimit
 un:A.units+16*k+200<cLine
theorem RoomH.deeper {k:Nat}{A:Around}(r:RoomH (k+1) A)(env:Env):RoomH k (A.deeper env) :=
 ⟨by have:=r.dp;show A.depth+1+3*k+5<_;omega,by have:=r.un;show A.units+3+16*k+200<_;omega⟩
theorem RoomH.depth {k:Nat}{A:Around}(r:RoomH k A):A.depth<recursionLimit:=by have:=r.dp;omega
abbrev Cx.hnd (X:Cx)(A:Around):Cx:={ X with A:=A,calm:=false,xe:=fun _ _=>False}
theorem Inv.hnd {X:Cx}{pins:List (Addr×Obj)}{σ:St}{H:Hp}{s:Shared}(I:Inv X pins σ H s){A:Around}(hf:A.frames=some X.stack):Inv (X.hnd A) pins σ H s :=
 ⟨⟨I.ok.mod,I.ok.kind,I.ok.glob,I.ok.blt,I.ok.above,I.ok.inj,I.ok.has,I.ok.cab,(fun z=>by cases z),hf,I.ok.stk,I.ok.exf,I.ok.bs,I.ok.bsz,I.ok.noex,I.ok.exfs,I.ok.funs,I.ok.frf⟩,I.os,I.bare,I.base,I.loc,I.cell,I.free,I.freeC,I.pin,I.hok,I.len⟩
structure FnOkH (P:Program)(w:World)(K:PySem.W.Frag)(mg:Str->Option Value)(base:Heap)(k:Nat)(f:Addr)(fd:FuncData)(ps:List Str)(fs:DSp):Prop where
 len:∀ ds μ Kd,fs ds μ Kd->ds.length=ps.length
 run:∀(A:Around) (outer:List Env) (s:Shared) (H:Hp) (args:Args) (us:List Value) (vs:List V) (Q:VK) (e:Addr),RoomH k A->A.handled=some (.ref e)->Env0 P w K mg base A outer s H->BindsTo s fd args (ps.zip us)->Vals vs us ->
  (∃ φ ds μ Kd kx,DAll φ H ds vs/\MSis φ H μ/\φ[kx]?=some e/\kx≠0/\(∃ c,μ[kx]?=some (.exc c))/\fs ds μ Kd/\Lif φ H Kd Q)->codeAny (model P w) A (.call (.ref f) args) (CR CX0 outer P w H s Q E0) s
section
variable {P:Program}{w:World}{K:PySem.W.Frag}{mg:Str->Option Value}{base:Heap}
abbrev cxH (P:Program)(w:World)(K:PySem.W.Frag)(mg:Str->Option Value)(base:Heap)(N:List Str)(qual:Str)(scope:Scope)(f:Addr)(cd:Value)(A:Around)(outer:List Env)(s:Shared)(H:Hp):Cx :=
 (cxOf CX0 P w K mg base N qual scope f cd { A with handled:=none} outer s H E0).hnd (A.deeper (envOfC qual scope s.heap.objs.size f cd))
theorem Fun.okH {x qual:Str}{st:Stmt}{f:Addr}{fd:FuncData}{N ps:List Str}{k:Nat}{fs:DSp}(F:Fun K x qual st f fd)(S:FnScope N ps (defScope st))(len:∀ ds μ Kd,fs ds μ Kd->ds.length=ps.length/\∃ m,μ[0]?=some m)
 (hbody:∀(cdv:Value) (A:Around) (outer:List Env) (s:Shared) (H:Hp),RoomH k (A.deeper (envOfC qual (defScope st) s.heap.objs.size f cdv))->∀(φ0:List Addr) (kx:Nat) (e:Addr),φ0[kx]?=some e->A.handled=some (.ref e) ->
   ∃ W,PDB (cxH P w K mg base N qual (defScope st) f cdv A outer s H) (defBody st) W/\∀ ds μ m Kd,(∀(j:Nat) (m':MO),(μ.set 0 (.gx φ0 H))[j]?=some m'->moB (μ.set 0 (.gx φ0 H)).length m')->mrL (μ.set 0 (.gx φ0 H)).length ds->μ[0]?=some m->hC φ0 H kx (μ.set 0 (.gx φ0 H))->fs ds μ Kd ->
    W (retN (μ.set 0 (.gx φ0 H)).length (gK φ0 H m Kd)) (startE N ds) (μ.set 0 (.gx φ0 H))):FnOkH P w K mg base (k+1) f fd ps fs:=by
 obtain⟨oc,od,kV,doc,pm,an,cdv,ct,osl,rfl,lk,hcd⟩:=F.ex
 refine⟨fun ds μ Kd h=>(len ds μ Kd h).1,fun A outer s H args us vs Q e hr hh e0 hb r hsp=>?_⟩
 obtain⟨φ,ds,μ,Kd,kx,ha,M,hk,hk0,hex,hf,L⟩:=hsp
 obtain⟨hl',m,em⟩:=len ds μ Kd hf
 have hl:vs.length=ps.length:=by rw[ha.len];exact hl'
 have KX:K.In s.heap:=e0.mod.kin.keeps fun b o e=>(e0.bs b o e).1
 have lim:s.heap.NoLimit:=e0.mod.nolimit.keeps fun b o e=>(e0.bs b o e).1
 have hkind:∀ y∈ps.zip us,(defScope st).names.lookup y.1=some .local\/((defScope st).names.lookup y.1=some .cell/\((cellsFrom (s.heap.objs.size+1) (defScope st).names []).lookup y.1).isSome=true):=fun⟨n,v⟩ hy=>by
  rcases S.par n (List.of_mem_zip hy).1 with q | q
  ·exact .inl q
  ·exact .inr ⟨q,cX _ _ _ (.inl q)⟩
 refine codeAny_call_function hr.depth (KX _ _ lk) rfl S.co S.gen rfl (PySem.W.codeRec_of KX hcd) (hb _ _ _ _ ?_)
 refine wpAny_newFunctionEnv_cells S.kind hkind fun env he s1 x=>?_
 subst he
 refine⟨lim.keeps x.toInCall.keep,codeAny_func ?_⟩
 have e1:Env0 P w K mg base { A with handled:=none} outer s H:=⟨e0.frames,e0.mod,e0.bs,e0.bsz,e0.funs,e0.frf,e0.hok,e0.bare⟩
 have I0:Inv (cxOf CX0 P w K mg base N qual (defScope st) f cdv { A with handled:=none} outer s H E0) [] (start N vs) H s1:=inv_start S rfl e1 hl r x
 have I:Inv (cxH P w K mg base N qual (defScope st) f cdv A outer s H) [] (start N vs) H s1:=I0.hnd (Around.frames_deeper e0.frames)
 have Mg:=M.ghost em
 have Lg:=(L.ghost M em).fz Mg
 have hc:hC φ H kx (μ.set 0 (.gx φ H)):=⟨aw (gxB em).1,by rw[ah (aO hk0)];exact hex⟩
 obtain⟨W,hW,q⟩:=hbody cdv A outer s H (hr.deeper _) φ kx e hk hh
 refine a9 (hW [] s1 (start N vs) H { nx:=fun _ H'=>Q .non H',rt:=Q} I ⟨φ,startE N ds,μ.set 0 (.gx φ H),retN (μ.set 0 (.gx φ H)).length (gK φ H m Kd),.start ha,Mg,q ds μ m Kd Mg.bound (by rw[<- Mg.len];exact ha.bound) em hc hf,⟨fun ρ' μ' φ' σ' H' k' f' A' M'=>Lg .non μ' φ' .non H' k' f' M' rfl,Lg,fun _ _ _ _ _ k' _ _ _=>k'.elim,fun _ _ _ _ _ k' _ _ _=>k'.elim⟩⟩) (fun fl s' hs=>?_) fun e s' hs=>hs.elim
 have fin:∀ {σ':St} {H':Hp} {v:V} {u:Value},Inv (cxH P w K mg base N qual (defScope st) f cdv A outer s H) [] σ' H' s'->RelV v u->Q v H'->CE outer P w H s Q u s' :=
  fun {σ' H' v u} J rv q=>⟨v,H',J.os,J.bare,J.base,J.hok,rv,q⟩
 cases fl with
 | ret u =>
  obtain⟨v,σ',H',J,rv,q⟩:=hs
  exact fin J rv q
 | next =>
  obtain⟨σ',H',J,q⟩:=hs
  exact fin (v:=V.non) (u:=Value.none) J rfl q
 | brk =>
  obtain⟨_,_,_,q⟩:=hs
  exact False.elim q
 | cont =>
  obtain⟨_,_,_,q⟩:=hs
  exact False.elim q
end
structure CalH (P:Program)(w:World)(K:PySem.W.Frag)(mg:Str->Option Value)(base:Heap)(x:Str)(k:Nat)(ps:List Str)(fs:DSp):Prop where
 ex:∃ f fd,FnOkH P w K mg base k f fd ps fs/\mg x=some (.ref f)/\PySem.W.keepIn K (.ref f)=true/\Binds K fd ps []
section
variable {X:Cx}{e:Expr}{es:List Expr}{pos:Pos}{φ0:List Addr}{H0:Hp}{kx:Nat}{ea:Addr}
def dCallH (φ0:List Addr)(H0:Hp)(kx:Nat)(f:DSp)(w:DA):De:=fun ρ μ K=>w ρ μ fun ds μ1=>hC φ0 H0 kx μ1/\f ds μ1 K
theorem d_callH {f:DSp}{w:DA}{x:Str}{p:Pos}{k:Nat}{ps:List Str}(hk:φ0[kx]?=some ea)(hk0:kx≠0)(hh:X.A.handled=some (.ref ea))(C:CalH X.prog X.w X.K X.mg X.base x k ps f)(hr:RoomH k X.A)(hg:Gl X x)(ha:PDA X (e::es) w)
 (hdb:(x==("__debug__" : Str))=false:=by decide) (he:starEach (e::es) X.env=(false,eval e X.env)::starEach es X.env:=by rfl) (hpl:(backTo pos (starEach es X.env)).any (·.1)=false:=by rfl) :
 PD X (.Call (.Name x p) (e::es) [] pos) (dCallH φ0 H0 kx f w):=by
 obtain⟨f',fd,F,hm,hkp,hb⟩:=C.ex
 intro pins s σ H Q I h
 obtain⟨φ,ρ,μ,K,A,M,w,L⟩:=h
 refine bE (ld_glob I hg hm ?_ hdb)
 refine cm (h₀:=X.base) I.ok.mod.kin hkp (thn (ha pos pins s σ H (fun vs H1=>∃ φ ds μ Kd kx,DAll φ H1 ds vs/\MSis φ H1 μ/\φ[kx]?=some ea/\kx≠0/\(∃ c,μ[kx]?=some (.exc c))/\f ds μ Kd/\Lif φ H1 Kd Q) I ⟨φ,ρ,μ,_,A,M,w,fun ds μ1 φ1 vs H1 k1 f1 M1 i1=>⟨φ1,ds,μ1,K,kx,i1,M1,(hC_ext hk M1 k1.1).1,hk0,k1.1.2,k1.2,L.mono f1⟩⟩) fun us s1 hq6=>?_) he hpl
 obtain⟨vs,H1,I1,r,q⟩:=hq6
 refine⟨I1.kIn,?_⟩
 have hl:us.length=ps.length:=by
  obtain⟨φ1,ds,μ1,Kd,kx1,i1,_,_,_,_,hf,_⟩:=q
  rw[<- r.length,i1.len];exact F.len _ _ _ hf
 refine wpAny_call (codeAny_mono (F.run X.A X.stack s1 H1 ⟨us,[]⟩ us vs Q ea hr hh I1.env0 (by have:=hb s1 us I1.kIn (by rw[aZ];exact hl);rwa [aZ]at this) r q) fun r s' hq=>?_)
 cases r with
 | error e=>exact hq.elim
 | ok fl =>
  cases fl with
  | ret u=>exact I1.after hq
  | next=>exact False.elim hq
  | brk=>exact False.elim hq
  | cont=>exact False.elim hq
end
structure ExSub (K:PySem.W.Frag)(C B:Addr):Prop where
 ex:∃(nB qB:Str) (NB:Addr) (bsB bmB:List Value) (hdB:Bool) (snB:List Str) (subB:List Value) (abB:Bool) (colB:Option Bool) (ddB:Option Addr) (b0 b1 b2 b3 b5:Option Value) (idB:String) (nC qC:Str) (NC:Addr) (bsC bmC:List Value) (hdC:Bool) (snC:List Str) (subC:List Value) (abC:Bool) (colC:Option Bool) (ddC:Option Addr) (c0 c1 c2 c3 c5:Option Value) (idC:String),
  K.lookup B=some (excClassObj nB qB B NB bsB bmB hdB snB subB abB colB ddB b0 b1 b2 b3 b5 idB)/\K.lookup C=some (excClassObj nC qC C NC bsC bmC hdC snC subC abC colC ddC c0 c1 c2 c3 c5 idC)/\bmB.contains (.type "BaseException")=true/\(Value.ref C::bmC).contains (.ref B)=true
section
variable {X:Cx}{pins:List (Addr×Obj)}{σ:St}{H:Hp}{s:Shared}
theorem Inv.track (I:Inv X pins σ H s){e:Addr}{c:Value}(hn:H e=none)(x:ExcIs e c s.heap)(h0:X.s₀.heap.get? e=none)(hl:e≠X.env.locals)(hc:∀ y a,X.env.cells.lookup y=some a->a≠e)(hp:∀ p∈X.pn++pins,p.1≠e) :
 Inv X pins σ (upd H e (.ext (ExcIs e c))) s:=by
 have ne0:∀ b o,X.s₀.heap.get? b=some o->b≠e:=fun b o q z=>by rw[z,h0]at q;cases q
 have ne1:∀ b o,H b=some o->b≠e:=fun b o q z=>by rw[z,hn]at q;cases q
 refine⟨I.ok,I.os,I.bare,⟨I.base.keep,I.base.slot,fun b o q n hx=>?_,I.base.there,fun b xs q=>?_,fun b o xs q=>?_,fun b ps q=>?_⟩,I.loc,I.cell,?_,fun y a q=>?_,fun p hq=>?_,fun a o q=>?_,I.len⟩
 ·rw[upd_ne (ne0 b o q)];exact I.base.free b o q n hx
 ·have:=I.base.tups b xs q
  rw[upd_ne (ne1 b _ this)];exact this
 ·have:=I.base.frzs b o xs q
  rw[upd_ne (ne1 b _ this)];exact this
 ·obtain⟨m,this⟩:=I.base.tbls b ps q
  exact⟨m,by rw[upd_ne (ne1 b _ this)];exact this⟩
 ·rw[upd_ne (aO hl)];exact I.free
 ·rw[upd_ne (hc y a q)];exact I.freeC y a q
 ·obtain⟨h1,h2,h3⟩:=I.pin p hq
  exact⟨h1,by rw[upd_ne (hp p hq)];exact h2,h3⟩
 ·by_cases z:a=e
  ·subst z
   rw[upd_same]at q
   cases q
   obtain⟨oe,vs,q1,q2⟩:=x
   exact⟨⟨oe,vs,q1,q2⟩,⟨oe,q1⟩,fun h1 h2 ⟨o,v,e1,e2⟩ k=>⟨o,v,k o e1,e2⟩⟩
  ·rw[upd_ne z]at q
   exact(I.hok a o q).stay (fun _ _ _ k=>k) (fun b k=>by rw[upd_ne (ne1 b _ k)];exact k) fun b xs k=>by rw[upd_ne (ne1 b _ k)];exact k
theorem Inv.forget (I:Inv X pins σ H s){h':Heap}{m':Str->Option Value}{t:Nat}(hn:h'.Ns X.env.locals m')(hs:Heap.SameBut X.env.locals s.heap h'):Inv X pins (σ.map fun _=>none) H { s with heap:=h',toks:=t}:=by
 have ne:∀ b o,X.s₀.heap.get? b=some o->b≠X.env.locals:=fun b o e=>ao (aA (gxN e) I.ok.above)
 refine⟨I.ok,I.os,I.bare,⟨fun b o e n hb hx=>?_,fun b o e n hb hx=>?_,I.base.free,fun b o e hx=>?_,I.base.tups,I.base.frzs,I.base.tbls⟩,⟨m',hn,fun j y v' e1 e2 e3=>?_⟩,fun y c e=>?_,I.free,I.freeC,fun p hp=>?_,fun b ob e=>?_,by rw[gxC];exact I.len⟩
 ·exact(hs.2 b (ne b o e)).trans (I.base.keep b o e n hb hx)
 ·obtain⟨sl,e1⟩:=I.base.slot b o e n hb hx
  exact⟨sl,(hs.2 b (ne b o e)).trans e1⟩
 ·obtain⟨o',e1⟩:=I.base.there b o e hx
  exact⟨o',(hs.2 b (ne b o e)).trans e1⟩
 ·rw[gxH]at e2
  cases q:σ[j]? <;> rw[q]at e2 <;> cases e2
 ·obtain⟨w',z⟩:=I.cell y c e
  exact⟨w',z.sameBut hs (I.cne y c e)⟩
 ·obtain⟨e,n,ne,nf,d⟩:=I.pin p hp
  exact⟨(hs.2 p.1 ne).trans e,n,ne,nf,d⟩
 ·refine(I.hok b ob e).stay (fun c w' hc q=>(hs.2 c ?_).trans q) (fun _ q=>q) fun _ _ q=>q
  rintro rfl
  rcases hc with rfl | hc
  ·rw[I.free]at e;cases e
  ·rw[I.free]at hc;cases hc
theorem Un.kp {fs:List Addr}{l:List Env}{H H':Hp}{h h1 h2 g:Heap}(u:Un fs [] H H' h h1)(k:Kp g l h1 h2)(hg:Gk h g)(hl:∀ b,b∈frs l->b∈fs):Un fs [] H H' h h2:=by
 refine⟨fun b o e n hb hx=>k.other b o (u.keep b o e n hb hx) (hg b ⟨o,e⟩) fun z=>hb (hl b z),fun b o e n hb hx=>?_,u.free,fun b o e hx=>?_,u.tups,u.frzs,u.tbls⟩
 ·obtain⟨sl,e1⟩:=u.slot b o e n hb hx
  obtain⟨sl2,e2⟩:=k.any e1 (hg b ⟨o,e⟩)
  exact⟨sl2,e2⟩
 ·obtain⟨o',e1⟩:=u.there b o e hx
  obtain⟨sl,e2⟩:=k.any e1 (hg b ⟨o,e⟩)
  exact⟨_,e2⟩
end
theorem LiS.ghost {φ:List Addr}{H:Hp}{μ:MS}{m:MO}{k:DE->MS->Prop}{q:St->Hp->Prop}(L:LiS φ H k q)(M:MSis φ H μ)(e:μ[0]?=some m):LiS φ H (fun ρ' μ'=>μ'[0]?=some (.gx φ H)/\k ρ' (μ'.set 0 m)) q:=fun ρ' μ' φ' σ' H' ⟨e',k'⟩ f A M'=>L ρ' _ φ' σ' H' k' f A (M.back e M' e')
theorem Inv.caught {X:Cx}{pins:List (Addr×Obj)}{σ:St}{H H':Hp}{s s':Shared}{g h2:Heap}(I:Inv X pins σ H s)(os:s'.os=s.os)(bare:AllBare s'.gens)(un:Un (frs X.stack) [] H H' s.heap s'.heap)(hok:HOk X.prog X.w H' s'.heap)(g1:Gk s.heap g)(g2:∀ b,H' b≠none->At g b)(k:Kp g X.stack s'.heap h2) :
 Inv X pins σ H' { s' with heap:=h2}:=by
 have I2:=I.call' (s':=s') (ch:=[]) os un hok bare (fun b z=>absurd z (by simp))
 exact I.call' (s':={ s' with heap:=h2}) (ch:=[]) os (un.kp k g1 fun b z=>z) (hok_kp hok (fun b hb=>⟨g2 b hb,fun z=>hb (I2.stkFree b z)⟩) k) bare (fun b z=>absurd z (by simp))
theorem ExAt.is {g h:Heap}{e:Addr}{cls fl:Value}(x:ExAt g e cls fl h):ExcIs e cls h:=by
 obtain⟨oe,vs,T,oT,ts,⟨h1,⟨h2,h3⟩,h4,_,h5⟩,_⟩:=x
 exact⟨oe,vs,h1,h2,h3,h4,h5⟩
abbrev veB:List Value:=[.type "ValueError",.type "Exception",.type "BaseException",.type "object"]
theorem cls_of {K:PySem.W.Frag}{C:Addr}{bmB:List Value}{newId:String}(q:PySem.W.excIn K C bmB newId=true):∃(bm:List Value) (ns:Addr) (nm qn:Str) (bs:List Value) (hd:Bool) (sn:List Str) (sub:List Value) (ab:Bool) (col:Option Bool) (dd:Option Addr) (k0 k1 k2 k3 k5:Option Value),
 K.lookup C=some (excClassObj nm qn C ns bs bm hd sn sub ab col dd k0 k1 k2 k3 k5 newId)/\PySem.W.nsOkIn K ns=true/\PySem.W.nsIn K ns "__init__"=some none/\PySem.W.tailIn K bmB bm=true:=by
 unfold PySem.W.excIn at q
 split at q
 ·rename_i dd cd sl ho
  split at q
  ·rename_i C' bm k0 k1 k2 k3 n k5 hm hs
   simp only[bz,beq_iff_eq,Bool.not_eq_true']at q
   obtain⟨⟨⟨⟨⟨rfl,rfl⟩,hdel⟩,ht⟩,hok⟩,hni⟩:=q
   obtain⟨nm,bs,mro,ns,qn,hd,sn,sub,ab,col,del⟩:=cd
   dsimp only at hm hdel hok hni
   subst hm hdel
   have hsl:sl=#[k0,k1,k2,k3,some (.builtin n),k5]:=by
    obtain⟨l⟩:=sl
    simp only at hs
    rw[hs]
   subst hsl
   exact⟨bm,ns,nm,qn,bs,hd,sn,sub,ab,col,dd,k0,k1,k2,k3,k5,ho,hok,hni,ht⟩
  ·cases q
 ·cases q
theorem own_of {K:PySem.W.Frag}{h:Heap}{mg:Str->Option Value}{x:Str}{C:Addr}(X:K.In h)(G:h.Ns mainGlobals mg)(e:PySem.W.nsIn K mainGlobals x=some (some (.ref C)))(q:PySem.W.excIn K C veB "ValueError.__new__"=true):OwnCls x C veB "ValueError.__new__" mg h:=by
 obtain⟨bm,ns,nm,qn,bs,hd,sn,sub,ab,col,dd,k0,k1,k2,k3,k5,h1,h2,h3,h4⟩:=cls_of q
 exact⟨aP X G e,bm,ns,nm,qn,bs,hd,sn,sub,ab,col,dd,k0,k1,k2,k3,k5,_,X _ _ h1,.of_isNs (PySem.W.isNs_of_in X h2),PySem.W.nsMap_none_of_in X h2 h3,PySem.W.tail_of_in X h4⟩
def subIn (K:PySem.W.Frag)(C B:Addr):Bool:=match K.lookup C with
 | some ⟨_,_,.cls cd,_⟩=>cd.mro.contains (.ref B)
 | _=>false
theorem sub_of {K:PySem.W.Frag}{C B:Addr}(qB:PySem.W.excIn K B veB "ValueError.__new__"=true)(qC:PySem.W.excIn K C veB "ValueError.__new__"=true)(s:subIn K C B=true):ExSub K C B:=by
 obtain⟨bm,ns,nm,qn,bs,hd,sn,sub,ab,col,dd,k0,k1,k2,k3,k5,h1,h2,h3,h4⟩:=cls_of qB
 obtain⟨bm',ns',nm',qn',bs',hd',sn',sub',ab',col',dd',k0',k1',k2',k3',k5',h1',h2',h3',h4'⟩:=cls_of qC
 refine⟨nm,qn,ns,bs,bm,hd,sn,sub,ab,col,dd,k0,k1,k2,k3,k5,_,nm',qn',ns',bs',bm',hd',sn',sub',ab',col',dd',k0',k1',k2',k3',k5',_,h1,h1',?_,?_⟩
 ·have tl:∀ l,PySem.W.tailIn K veB l=true->l.contains (.type "BaseException")=true:=fun l=>by
   induction l with
   | nil=>intro z;exact absurd (show(veB==[])=true from z) (by decide)
   | cons v r ih =>
    intro z
    unfold PySem.W.tailIn at z
    rcases Bool.or_eq_true_iff.mp z with q | q
    ·rw[beq_iff_eq.mp q];decide
    ·rw[List.contains_cons]
     have:PySem.W.tailIn K veB r=true:=by
      split at q
      ·split at q
       ·simp only[bz]at q;exact q.2
       ·cases q
      ·cases q
     rw[ih this,Bool.or_true]
  exact tl _ h4
 ·unfold subIn at s
  rw[h1']at s
  exact s
theorem roomM {k:Nat}{A:Around}{h:Option Value}(r:Room k A):RoomH k (A.mark h):=⟨r.dp,r.un⟩
theorem calx_of {P:Program}{w:World}{K:PySem.W.Frag}{mg:Str->Option Value}{base h:Heap}{x q:Str}{st:Stmt}{f:Addr}{fd:FuncData}{k:Nat}{ps:List Str}{sp:Sp}(G:K.In h)(N:h.Ns mainGlobals mg)(F:Fun K x q st f fd)(ok:FnOk P w K mg base (CX1 P w) k f fd ps sp)(hb:Binds K fd ps [])
 (a:PySem.W.nsIn K mainGlobals x=some (some (.ref f)):=by kernel_rfl):CalX P w K mg base x k ps sp:=⟨f,fd,ok,aP G N a,F.kp,hb⟩
theorem calh_of {P:Program}{w:World}{K:PySem.W.Frag}{mg:Str->Option Value}{base h:Heap}{x q:Str}{st:Stmt}{f:Addr}{fd:FuncData}{k:Nat}{ps:List Str}{sp:DSp}(G:K.In h)(N:h.Ns mainGlobals mg)(F:Fun K x q st f fd)(ok:FnOkH P w K mg base k f fd ps sp)(hb:Binds K fd ps [])
 (a:PySem.W.nsIn K mainGlobals x=some (some (.ref f)):=by kernel_rfl):CalH P w K mg base x k ps sp:=⟨f,fd,ok,aP G N a,F.kp,hb⟩
theorem gx_at {μ:MS}{m n:MO}(em:μ[0]?=some m):(μ.set 0 n)[0]?=some n:=aw (gxB em).1
theorem gx_back {μ:MS}{m n:MO}(em:μ[0]?=some m):(μ.set 0 n).set 0 m=μ:=by
 cases μ with
 | nil=>cases em
 | cons a r=>cases em;rfl
theorem gX_of {μ:MS}{m:MO}{n:Nat}{φ0:List Addr}{H:Hp}{c:Value}{Kb Kx:DX}(hK:Kb=FX n (gX φ0 H m Kx))(em:μ[0]?=some m)(k:Kx c μ):(μ.set 0 (.gx φ0 H))[0]?=some (.gx φ0 H)/\Kb c (μ.set 0 (.gx φ0 H)):=⟨gx_at em,by rw[hK];exact .inl ⟨gx_at em,by rw[gx_back em];exact k⟩⟩
theorem gK_of {μ:MS}{m:MO}{φ0:List Addr}{H:Hp}{d:D}{K:DK}(em:μ[0]?=some m)(k:K d μ):gK φ0 H m K d (μ.set 0 (.gx φ0 H)):=⟨gx_at em,by rw[gx_back em];exact k⟩
def runOk (n e a b:Int):Prop:=e<a/\a<b/\b<=n
instance (n e a b:Int):Decidable (runOk n e a b):=by unfold runOk;infer_instance
def kitB (K:PySem.W.Frag)(cs:List Addr)(j:Nat):Bool:=(List.range 17).all fun i=>PySem.W.kitOne K (.ref (cs.getD j 0)) (.ref (cs.getD i 0))==some (decide (i=j))
structure KinB (K:PySem.W.Frag)(cs:List Addr)(cH:Addr)(j:Nat):Prop where
 ef:ExF K (cs.getD j 0)
 kit:kitB K cs j=true
 kv:PySem.W.kitOne K (.ref (cs.getD j 0)) (.type "ValueError")=some true
 sub:ExSub K (cs.getD j 0) cH
theorem KinB.at_ {K:PySem.W.Frag}{cs:List Addr}{cH:Addr}{j:Nat}(h:KinB K cs cH j)(i:Nat)(hi:i<17):PySem.W.kitOne K (.ref (cs.getD j 0)) (.ref (cs.getD i 0))=some (decide (i=j)):=by
 have:=List.all_eq_true.mp h.kit i (List.mem_range.mpr hi)
 simpa using this
def kWord (j:Nat):Str:=(["BadBars", "BadMake", "BadNumber", "BadText", "BadName", "BadAge", "BadBar", "BadPlace", "BadSize", "Taken", "Full", "NoTake", "Shut", "Joined", "Needed", "NothingLeft", "NoWay"]:List Str).getD j ""
structure OwnB (x:Str)(C:Addr)(mg:Str->Option Value):Prop where
 bound:mg x=some (.ref C)
section
variable {X:Cx}{a b e o:Expr}{es:List Expr}{pos:Pos}
def dFz (w:De):De:=fun ρ μ K=>w ρ μ (Fz μ.length K)
theorem d_fz {w:De}(h:PD X e w):PD X e (dFz w):=h.imp fun σ H Q hq=>by
 obtain⟨φ,ρ,μ,K,A,M,k,L⟩:=hq
 exact⟨φ,ρ,μ,_,A,M,k,L.fz M⟩
def tFrz (t:TE):TE:=fun σ H Q=>t σ H fun v H1=>∃ a kvs,v=.ref a/\H1 a=some (.dK kvs)/\∀ o,Q v (upd H1 a (.frz o (.dK kvs)))
theorem pe_frz {t:TE}(h:PE X e t):PE X e (tFrz t):=fun pins s σ H Q I q =>
 thn (h pins s σ H _ I q) fun v s1 hq=>by
  obtain⟨x,H1,I1,r1,a,kvs,ex,e1,q1⟩:=hq
  subst ex
  obtain⟨o,vs,ep,kv,hd,da,hs,I2⟩:=freeze I1 (.inl e1)
  exact⟨_,_,I2,r1,q1 o⟩
def dFrz (w:De):De:=fun ρ μ K=>w ρ μ fun x μ1=>match x with
 | .mr j=>∃ ks ds,μ1[j]?=some (.dic ks ds)/\∀(o:Obj) (kvs:List (Key×V)),kvs.map (·.1)=ks->K (.mr j) (μ1.set j (.fdic o kvs ds))
 | _=>False
theorem d_frz {w:De}(h:PD X e w):PD X e (dFrz w):=(pe_frz h).imp fun σ H Q hq=>by
 obtain⟨φ,ρ,μ,K,A,M,k,L⟩:=hq
 refine⟨φ,ρ,μ,_,A,M,k,fun d μ1 φ1 v1 H1 k1 f1 M1 i1=>?_⟩
 cases d with
 | mr k =>
  have i1':=i1
  obtain⟨p,hp,rfl⟩:=i1
  obtain⟨ks,ds,em,k1⟩:=k1
  obtain⟨p',e1,kvs,vs,h1,h2,h3,h4⟩:=M1.at_ k _ em
  rw[hp]at e1;cases e1
  subst h3
  refine⟨p,kvs,rfl,h1,fun o=>?_⟩
  have f2:Fr φ1 H1 φ1 (upd H1 p (.frz o (.dK kvs))):=.put (gxD hp)
  have M2:=M1.put (k:=k) (p:=p) (o:=.frz o (.dK kvs)) (m:=.fdic o kvs ds) hp ⟨upd_same,h4.mono f2⟩
  exact L _ _ φ1 _ _ (k1 o kvs h2) (f1.trans f2) M2 (i1'.mono f2)
 | _=>exact k1.elim
def dNewF:De:=fun _ μ K=>K (.fdc [] []) μ
theorem d_dnewF:PD X (.Dict [] [] pos) dNewF:=(d_fz (d_frz d_dnew)).imp fun σ H Q hq=>by
 obtain⟨φ,ρ,μ,K,A,M,k,L⟩:=hq
 refine⟨φ,ρ,μ,K,A,M,⟨[],[],by rw[gxG (aa _),aQ];rfl,fun o kvs hk=>?_⟩,L⟩
 have e0:(μ++[MO.dic [] []]).set μ.length (.fdic o kvs [])=μ++[.fdic o kvs []]:=set_end
 rw[e0]
 refine Fz.fdc (aa _) (by rw[gxG (aa _),aQ];rfl) (show mrL _ []from True.intro) (old_app M.bound) ?_
 rw[bf,hk]
 exact k
theorem fdc_is {φ:List Addr}{H:Hp}{ks:List Key}{ds:List D}{v:V}(i:DIs φ H (.fdc ks ds) v):∃ p o kvs,v=.ref p/\H p=some (.frz o (.dK kvs))/\kvs.map (·.1)=ks/\DAll φ H ds (kvs.map (·.2)):=by
 obtain⟨p,o,kvs,vs,rfl,_,h1,h2,rfl,h3⟩:=i
 exact⟨p,o,kvs,rfl,h1,h2,h3⟩
def ixF (ks:List Key)(ds:List D)(y:D):Option (Option D):=(keyD y).map fun k=>dval (ks.zip ds) k
def dIxF:DOp:=fun x y μ K=>match x with
 | .fdc ks ds=>∃ d,ixF ks ds y=some (some d)/\K d μ
 | .mr j=>∃ d,ixM μ j y=some (some d)/\K d μ
 | _=>False
theorem d_ixF {wa wb:De}(hu:X.A.units+1<cLine)(ha:PD X a wa)(hb:PD X b wb)(hs:NoSl b):PD X (.Subscript a b pos) (dOp dIxF wa wb):=(pe_dget hu ha hb hs).imp fun σ H Q hq=>by
 obtain⟨φ,ρ,μ,K,A,M,k,L⟩:=hq
 refine⟨φ,ρ,μ,_,A,M,k,fun d1 μ1 φ1 v1 H1 k1 f1 M1 i1=>?_⟩
 refine⟨φ1,ρ,μ1,_,A.mono f1,M1,k1,fun d2 μ2 φ2 v2 H2 k2 f2 M2 i2=>?_⟩
 cases d1 with
 | fdc ks ds =>
  obtain⟨d,ex,k2⟩:=k2
  obtain⟨k,ek,ed⟩:=Option.map_eq_some_iff.mp ex
  obtain⟨p,o,kvs,rfl,rd,e1,ha⟩:=fdc_is (i1.mono f2)
  cases keyD_is ek i2
  obtain⟨v,ev,iv⟩:=dval_get e1 ha ed
  exact⟨p,v,rfl,.inl ⟨kvs,k,.inr ⟨o,rd⟩,rfl,ev.symm⟩,(L.mono (f1.trans f2)).val M2 k2 iv⟩
 | mr j =>
  obtain⟨d,ex,k2⟩:=k2
  obtain⟨ks,ds,k,em,ek,ed⟩:=ixM_ex ex
  obtain⟨p,kvs,hp,rfl,rd,e1,ha⟩:=dicM_is M2 (i1.mono f2) em
  cases keyD_is ek i2
  obtain⟨v,ev,iv⟩:=dval_get e1 ha ed
  exact⟨p,v,rfl,.inl ⟨kvs,k,rd,rfl,ev.symm⟩,(L.mono (f1.trans f2)).val M2 k2 iv⟩
 | _=>exact k2.elim
def dInF (neg:Bool):DOp:=fun x y μ K=>match y with
 | .fdc ks ds=>∃ o,ixF ks ds x=some o/\K (.bl (neg != o.isSome)) μ
 | .mr j=>∃ o,ixM μ j x=some o/\K (.bl (neg != o.isSome)) μ
 | _=>False
theorem inF_ex {neg:Bool}{φ:List Addr}{H:Hp}{μ:MS}{x y:D}{vx vy:V}{K:DK}{Q:VK}(M:MSis φ H μ)(ix:DIs φ H x vx)(iy:DIs φ H y vy)(k:dInF neg x y μ K)(L:Lif φ H K Q):∃ p o,vy=.ref p/\DGet H p vx o/\Q (.bl (neg != o.isSome)) H:=by
 cases y with
 | fdc ks ds =>
  obtain⟨oo,ex,k2⟩:=k
  obtain⟨k,ek,rfl⟩:=Option.map_eq_some_iff.mp ex
  obtain⟨p,o,kvs,rfl,rd,e1,ha⟩:=fdc_is iy
  cases keyD_is ek ix
  refine⟨p,valV kvs k,rfl,.inl ⟨kvs,k,.inr ⟨o,rd⟩,rfl,rfl⟩,?_⟩
  have es:(valV kvs k).isSome=(dval (ks.zip ds) k).isSome:=by
   rcases dval_rel k e1 ha with⟨g1,g2⟩ | ⟨d,v,g1,g2,_⟩<;> (rw[g1,g2];rfl)
  rw[es]
  exact L.val M k2 rfl
 | mr j =>
  obtain⟨oo,ex,k2⟩:=k
  obtain⟨ks,ds,k,em,ek,rfl⟩:=ixM_ex ex
  obtain⟨p,kvs,hp,rfl,rd,e1,ha⟩:=dicM_is M iy em
  cases keyD_is ek ix
  refine⟨p,valV kvs k,rfl,.inl ⟨kvs,k,rd,rfl,rfl⟩,?_⟩
  have es:(valV kvs k).isSome=(dval (ks.zip ds) k).isSome:=by
   rcases dval_rel k e1 ha with⟨g1,g2⟩ | ⟨d,v,g1,g2,_⟩<;> (rw[g1,g2];rfl)
  rw[es]
  exact L.val M k2 rfl
 | _=>exact(show False from k).elim
theorem tD_inF {wa wb:De}{σ:St}{H:Hp}{Q:VK}(h:tD (dOp (dInF false) wa wb) σ H Q):tDIn (tD wa) (tD wb) σ H Q:=by
 obtain⟨φ,ρ,μ,K,A,M,k,L⟩:=h
 refine⟨φ,ρ,μ,_,A,M,k,fun d1 μ1 φ1 v1 H1 k1 f1 M1 i1=>?_⟩
 refine⟨φ1,ρ,μ1,_,A.mono f1,M1,k1,fun d2 μ2 φ2 v2 H2 k2 f2 M2 i2=>?_⟩
 obtain⟨p,o,e,g,q⟩:=inF_ex M2 (i1.mono f2) i2 k2 (L.mono (f1.trans f2))
 rw[fne]at q
 exact⟨p,o,e,g,q⟩
theorem tD_notinF {wa wb:De}{σ:St}{H:Hp}{Q:VK}(h:tD (dOp (dInF true) wa wb) σ H Q):tDNotIn (tD wa) (tD wb) σ H Q:=by
 obtain⟨φ,ρ,μ,K,A,M,k,L⟩:=h
 refine⟨φ,ρ,μ,_,A,M,k,fun d1 μ1 φ1 v1 H1 k1 f1 M1 i1=>?_⟩
 refine⟨φ1,ρ,μ1,_,A.mono f1,M1,k1,fun d2 μ2 φ2 v2 H2 k2 f2 M2 i2=>?_⟩
 obtain⟨p,o,e,g,q⟩:=inF_ex M2 (i1.mono f2) i2 k2 (L.mono (f1.trans f2))
 rw[tne]at q
 exact⟨p,o,e,g,q⟩
theorem t_inF {wa wb:De}(hu:X.A.units+1<cLine)(ha:PD X a wa)(hb:PD X b wb)(hmk:behindInMarks .In b=false):PDT X (.Compare a [.In] [b] pos) (dTst (dOp (dInF false) wa wb)):=(pt_cmp (pc_din hu ha hb) hmk).imp fun σ H Q hq=>tB_of (fun Q q=>tD_inF q) hq
theorem t_notinF {wa wb:De}(hu:X.A.units+1<cLine)(ha:PD X a wa)(hb:PD X b wb)(hmk:behindInMarks .NotIn b=false):PDT X (.Compare a [.NotIn] [b] pos) (dTst (dOp (dInF true) wa wb)):=(pt_cmp (pc_dnotin hu ha hb) hmk).imp fun σ H Q hq=>tB_of (fun Q q=>tD_notinF q) hq
def dcv (μ:MS):D->Option (List Key×List D)
 | .fdc ks ds=>some (ks,ds)
 | .mr j=>dicM μ j
 | _=>none
theorem dcv_is {φ:List Addr}{H:Hp}{μ:MS}{d:D}{v:V}{q:List Key×List D}(M:MSis φ H μ)(i:DIs φ H d v)(h:dcv μ d=some q):∃ p kvs,v=.ref p/\Rd H p (.dK kvs)/\kvs.map (·.1)=q.1/\DAll φ H q.2 (kvs.map (·.2)):=by
 cases d with
 | fdc ks ds =>
  cases h
  obtain⟨p,o,kvs,rfl,rd,e1,ha⟩:=fdc_is i
  exact⟨p,kvs,rfl,.inr ⟨o,rd⟩,e1,ha⟩
 | mr j =>
  obtain⟨p,kvs,hp,rfl,rd,e1,ha⟩:=dicM_is M i (ks:=q.1) (ds:=q.2) h
  exact⟨p,kvs,rfl,rd,e1,ha⟩
 | _=>cases h
def fDictF:DSp:=fun ds μ K=>match ds with
 | [x]=>opt (dcv μ x) fun q=>K (.mr μ.length) (μ++[.dic q.1 q.2])
 | _=>False
theorem so_dictF:SoCall rDictC fDictF:=fun φ H vs ds μ K Q M h k L=>by
 unfold fDictF at k
 split at k
 ·obtain⟨v,r,rfl,h1,h2⟩:=h;cases(show r=[]from h2)
  obtain⟨q,em,k⟩:=opt_ex k
  obtain⟨p,kvs,rfl,rd,e1,ha⟩:=dcv_is M h1 em
  refine⟨kvs,rd,fun p' hp'=>?_⟩
  have f:Fr φ H (φ++[p']) (upd H p' (.dK kvs)):=⟨(Fr.snoc (φ:=φ) hp').ext,fun c u _ e=>Same.upd hp' _ _ e,fun c e=>(Same.upd hp').free e⟩
  obtain⟨M',f'⟩:=M.snoc (o:=.dK kvs) (m:=.dic q.1 q.2) hp' ⟨kvs,_,upd_same,e1,rfl,ha.mono f⟩
  exact L _ _ _ _ _ k f' M' ⟨p',by rw[gxG (by rw[M.len];exact aa _),M.len,aQ];rfl,rfl⟩
 ·exact k.elim
def rLenD:List V->Hp->VK->Prop:=fun vs H Q=>match vs with
 | [.ref a]=>∃ kvs,Rd H a (.dK kvs)/\Q (.int kvs.length) H
 | _=>False
theorem lenD:CallR X (.builtin "len") rLenD:=by
 intro pins s σ H xs us Q I r h
 unfold rLenD at h
 split at h
 ·obtain⟨kvs,rd,q⟩:=h
  obtain⟨u,rfl,ru⟩:=r.one
  cases ru
  exact d_len I rd fun t s' I'=>⟨.int _,H,I',⟨t,rfl⟩,q⟩
 ·exact h.elim
def fLenD:DSp:=fun ds μ K=>match ds with
 | [x]=>opt (dcv μ x) fun q=>K (.int q.1.length) μ
 | _=>False
theorem so_lenD:SoCall rLenD fLenD:=fun φ H vs ds μ K Q M h k L=>by
 unfold fLenD at k
 split at k
 ·obtain⟨v,r,rfl,h1,h2⟩:=h;cases(show r=[]from h2)
  obtain⟨q,em,k⟩:=opt_ex k
  obtain⟨p,kvs,rfl,rd,e1,ha⟩:=dcv_is M h1 em
  have el:kvs.length=q.1.length:=by rw[<- e1,gxC]
  exact⟨kvs,rd,by rw[el];exact L.val M k rfl⟩
 ·exact k.elim
def rListD:List V->Hp->VK->Prop:=fun vs H Q=>match vs with
 | [.ref a]=>∃ kvs,Rd H a (.dK kvs)/\∀ p,H p=none->Q (.ref p) (upd H p (.lst (kvs.map fun kv=>kV kv.1)))
 | _=>False
theorem _root_.L2.Vals.ofGet:∀ {xs:List V} {us:List Value},xs.length=us.length->(∀(i:Nat) (x:V) (u:Value),xs[i]?=some x->us[i]?=some u->RelV x u)->Vals xs us
 | [],us,hl,_=>by cases us with
  | nil=>exact .nil
  | cons v r=>simp at hl
 | d::ds,us,hl,h=>by cases us with
  | nil=>simp at hl
  | cons v r=>exact .cons (h 0 d v rfl rfl) (Vals.ofGet (by simpa using hl) fun i a b e1 e2=>h (i+1) a b (by simpa using e1) (by simpa using e2))
theorem items_rel {kvs:List (Key×V)}{vs:List (Key×Value)}{acc:Array Value}(kv:KV kvs vs)(h:ItemsOf (fun i v=>∃ k x,vs[i]?=some (k,x)/\(mixKind X.prog X.w).is k v=true) acc vs.length):Vals (kvs.map fun kv=>kV kv.1) acc.toList:=by
 refine Vals.ofGet (by rw[gxC,kv.length,<- h.1];exact(bQ (xs:=acc)).symm) fun i x u e1 e2=>?_
 rw[gxH]at e1
 cases q:kvs[i]? with
 | none=>rw[q]at e1;cases e1
 | some p =>
  rw[q]at e1;cases e1
  obtain⟨v,hv⟩:=pair_at kv q
  obtain⟨k,x,e3,e4⟩:=h.2 i u (by rw[<- Array.getElem?_toList];exact e2)
  rw[hv]at e3;cases e3
  exact kV_of e4
theorem listD (calm:X.calm=true):CallR X (.type "list") rListD:=by
 intro pins s σ H xs us Q I r h
 unfold rListD at h
 split at h
 ·rename_i a
  obtain⟨kvs,rd,q⟩:=h
  obtain⟨u,rfl,ru⟩:=r.one
  cases ru
  obtain⟨z,hd,vs,rel,dd⟩:=dk_rd I.hok rd
  obtain⟨ep,da⟩:=dd.dictAt
  refine PySem.W.kdl_call (PySem.W.kdl_dict (knd:=mixKind X.prog X.w) (kvs:=vs) (ep:=ep) hd) (I.ok.hd calm) da (by rw[<- rel.length];exact z) fun h' tk acc' c' kp hl it=>?_
  have I2:Inv X pins σ (upd H s.heap.objs.size (.lst (kvs.map fun kv=>kV kv.1))) { s with heap:=h',toks:=tk}:=I.laid (a:=s.heap.objs.size) (o:=.lst _) (t':=tk) kp (aa _) ⟨by rw[gxC];exact z,acc'.toList,c',items_rel (X:=X) rel it,hl⟩
  exact⟨.ref s.heap.objs.size,_,I2,rfl,q _ (I.hok.fresh (aa _))⟩
 ·exact h.elim
def fListD (m:Bool):DSp:=fun ds μ K=>match ds with
 | [x]=>opt (dcv μ x) fun q=>nL m (q.1.map keyV) μ K
 | _=>False
theorem keyVs_is {φ:List Addr}{H:Hp}:∀(kvs:List (Key×V)),DAll φ H ((kvs.map (·.1)).map keyV) (kvs.map fun kv=>kV kv.1)
 | []=>rfl
 | p::kvs=>⟨_,_,rfl,keyV_is _,keyVs_is kvs⟩
theorem so_listD {m:Bool}:SoCall rListD (fListD m):=fun φ H vs ds μ K Q M h k L=>by
 unfold fListD at k
 split at k
 ·obtain⟨v,r,rfl,h1,h2⟩:=h;cases(show r=[]from h2)
  obtain⟨q,em,k⟩:=opt_ex k
  obtain⟨p,kvs,rfl,rd,e1,ha⟩:=dcv_is M h1 em
  refine⟨kvs,rd,fun p' hp'=>?_⟩
  rw[<- e1]at k
  exact al_n L M (keyVs_is kvs) k hp'
 ·exact k.elim
def Itvf (a:Addr)(o:Obj)(kvs:List (Key×V)):It:=⟨fun i H=>i<kvs.length/\H a=some (.frz o (.dK kvs)),fun i H x H'=>H'=H/\∃ p,kvs[i]?=some p/\x=p.2,fun i H=>kvs.length<=i/\H a=some (.frz o (.dK kvs))⟩
theorem pair_rel {κ:Type}{kvs:List (κ×V)}{vs:List (κ×Value)}(h:KV kvs vs):∀ {i:Nat} {p:κ×V},kvs[i]?=some p->∃ v,vs[i]?=some (p.1,v)/\RelV p.2 v:=by
 unfold KV at h
 induction h with
 | nil=>intro i p e;simp at e
 | @cons a b as bs r _ ih =>
  intro i p e
  cases i with
  | zero =>
   simp at e
   subst e
   refine⟨b.2,?_,r.2⟩
   rw[r.1];rfl
  | succ i=>exact ih (by simpa using e)
theorem turn_valuesF {P:Program}{w:World}{K:PySem.W.Frag}{tg:Expr}(a it:Addr){o:Obj}{kvs:List (Key×V)}{vs:List (Key×Value)}{ep:Nat}(kv:KV kvs vs)(hd:∀ h:Heap,h.get? a=some o->h.DictAt (mixKind P w) a vs ep) :
 Turn P w K tg (Itvf a o kvs) [it] it (fun i h=>h.IsValIter it a i vs.length ep) where
 mem:=by simp
 obj:=fun i h st b hb=>by
  have e:b=it:=by simpa using hb
  subst e
  obtain⟨o,e,c,d⟩:=st
  exact⟨o,e,fun v z=>by rw[d]at z;cases z⟩
 keep:=fun i h h' st k=>by
  obtain⟨o,e,c⟩:=st
  exact⟨o,k it (by simp) o e,c⟩
 item:=by
  intro X hP hw hK hc i pins s σ H E I hf st hg
  subst hP hw hK
  obtain⟨hi,hq⟩:=hg
  obtain⟨p,hp⟩:∃ p,kvs[i]?=some p:=⟨_,gxA hi⟩
  obtain⟨v,hv,rv⟩:=pair_rel kv hp
  have ho:s.heap.get? a=some o:=(show ObjOk X.prog X.w H s.heap a (.frz o (.dK kvs))from I.hok a _ hq).1
  obtain⟨f0,f1,f2,f3,f4,f5⟩:=hf it (by simp)
  refine wpAny_pyNext_values_item st (hd _ ho) hv fun h' st' sb=>?_
  have I1:Inv X pins σ H { s with heap:=h'}:=I.turned (t':=s.toks) (fun b o hb e=>(sb.2 b hb).trans e) f0 f1 f3 f4 f5
  obtain⟨oi,e,c,d⟩:=id st'
  exact⟨v,rfl,go_of (s:={ s with heap:=h'}) e c d (by decide) ⟨p.2,H,I1,rv,⟨rfl,p,hp,rfl⟩,st',fun b hb=>(hf b hb).1⟩⟩
 done:=by
  intro X hP hw hK hc i pins s σ H E I hf st hg
  subst hP hw hK
  obtain⟨hi,hq⟩:=hg
  have ho:s.heap.get? a=some o:=(show ObjOk X.prog X.w H s.heap a (.frz o (.dK kvs))from I.hok a _ hq).1
  obtain⟨f0,f1,f2,f3,f4,f5⟩:=hf it (by simp)
  have hl:=KV.length kv
  exact wpAny_pyNext_values_end (I.ok.hd hc) st (hd _ ho) (List.getElem?_eq_none_iff.mpr (by omega)) fun h' eb=>⟨rfl,I.turned (t':=s.toks) (fun b o hb e=>eb b o hb e) f0 f1 f3 f4 f5⟩
 self:=fun _ _ _ _ _ st h=>wpAny_pyIter_valiter st h
end
section
variable {X:Cx}{a b e o:Expr}{es:List Expr}{pos apos cpos:Pos}{tg:Expr}
theorem dict_at {pins:List (Addr×Obj)}{σ:St}{H:Hp}{s:Shared}{p:Addr}{kvs:List (Key×V)}(I:Inv X pins σ H s)(rd:Rd H p (.dK kvs)):s.TypeIs (.ref p) "dict"/\∀ a,Value.ref p=.ref a->∃ ob,s.heap.get? a=some ob/\ob.dict=none:=by
 obtain⟨_,_,_,_,ob,_,_,e,ex,_⟩:=dk_rd I.hok rd
 exact⟨⟨ob,e,ex.1⟩,fun a e2=>by cases e2;exact⟨ob,e,ex.2.1⟩⟩
theorem pe_values {t:TE}{pins:List (Addr×Obj)}{σ:St}{H:Hp}{s:Shared}{Q:Value->Shared->Prop}(ho:PE X o t)(I:Inv X pins σ H s)
 (h:t σ H fun x H1=>∃ d kvs,x=.ref d/\Rd H1 d (.dK kvs)/\∀ s1,Inv X pins σ H1 s1->∀ v,v<s1.heap.objs.size->(∀ b,H1 b≠none->b≠v)->H1 v=none->s1.heap.IsValuesView v d->Q (.ref v) s1)
 (hbase:attributeBase o "values" X.env (eval o X.env)=eval o X.env:=by rfl) (hline:(apos.endLine==cpos.line)=true:=by rfl):wpAny (model X.prog X.w) X.A (eval (.Call (.Attribute o "values" apos) [] [] cpos) X.env) Q X.xe s:=by
 refine wpAny_Call_method0_late hbase hline (thn (ho pins s σ H _ I h) fun v s1 hq=>?_)
 obtain⟨x,H1,I1,r1,d,kvs,ex,rd,q⟩:=hq
 subst ex
 cases r1
 obtain⟨z,hd,vs,rel,dd⟩:=dk_rd I1.hok rd
 obtain⟨h1,h2⟩:=dict_at I1 rd
 refine⟨"dict", "dict.values",F.plainAttrs_dict,F.slot_dict_values,F.type_dict_values,h1,h2,c6 rfl (PySem.evalArgs_none ?_)⟩
 refine call_meetsIn F.slot_dict_values h1 F.entry_dict_values (F.args_dict_values_1 _) (meets_dict_values (mixKind X.prog X.w) d hd) ⟨⟨vs,dd⟩,?_⟩
 exact q _ (I1.kept (t':=s1.toks) fun b o e=>gxL _ e) s1.heap.objs.size (by show _<(s1.heap.objs.push _).size;rw[Array.size_push];exact bL _) (fun b hb e=>hb (by rw[e];exact I1.hok.fresh (aa _))) (I1.hok.fresh (aa _)) ⟨_,ak _ rfl,rfl,rfl⟩
def dItVF (w:De):DI:=fun ρ μ K=>w ρ μ fun d μ1=>match d with
 | .fdc ks ds=>ks.length=ds.length->K ds (fun _=>True) μ1
 | _=>False
theorem i_valuesF {w:De}(h:PD X o w)(hbase:attributeBase o "values" X.env (eval o X.env)=eval o X.env:=by rfl)(hline:(apos.endLine==cpos.line)=true:=by rfl):PDI X tg (.Call (.Attribute o "values" apos) [] [] cpos) (dItVF w):=by
 intro pins s σ H R I hq
 obtain⟨φ,ρ,μ,K,A,M,k,L⟩:=hq
 refine pe_values h I ⟨φ,ρ,μ,_,A,M,k,fun d μ1 φ1 v1 H1 k1 f1 M1 i1=>?_⟩ hbase hline
 cases d with
 | fdc ks ds =>
  obtain⟨p,oo,kvs,vs,rfl,hn,h1,rfl,rfl,h3⟩:=i1
  refine⟨p,kvs,rfl,.inr ⟨oo,h1⟩,fun s1 I1 v hv hne hvn view=>?_⟩
  obtain⟨o',vs',ep,kv,hd,da,hs,I2⟩:=freeze I1 (.inr ⟨oo,h1⟩)
  have ho:s1.heap.get? p=some oo:=(show ObjOk X.prog X.w H1 s1.heap p (.frz oo (.dK kvs))from I1.hok p _ h1).1
  have ho':s1.heap.get? p=some o':=(show ObjOk X.prog X.w _ s1.heap p (.frz o' (.dK kvs))from I2.hok p _ upd_same).1
  rw[ho]at ho'
  cases ho'
  refine wpAny_pyIter_values view da ?_
  have hl:ds.length=kvs.length:=by have:=h3.len;rw[gxC]at this;exact this.symm
  refine⟨s1.heap.objs.size,[s1.heap.objs.size],_,_,H1,rfl,I1.kept (t':=s1.toks) fun b o e=>gxL _ e,turn_valuesF p _ kv hd,⟨_,ak _ rfl,rfl,rfl⟩,fun b hb=>?_,?_⟩
  ·have e:b=s1.heap.objs.size:=by simpa using hb
   subst e
   exact I1.fpOk (aa _) (I1.hok.fresh (aa _))
  ·refine L _ _ _ φ1 _ _ (k1 (by rw[gxC,hl])) f1 M1 fun φ' H' μ' f' M' c i=>?_
   have h1':=f'.keep _ _ hn h1
   refine⟨fun d hd=>⟨⟨?_,h1'⟩,fun x H'' hy=>?_⟩,fun hi=>⟨by omega,h1'⟩⟩
   ·have:=(gxB hd).1
    omega
   ·obtain⟨rfl,q,hq,rfl⟩:=hy
    obtain⟨v',e1,e2⟩:=(h3.mono f').get hd
    rw[gxH,hq]at e1
    cases e1
    exact⟨.refl _ _,M',e2⟩
 | _=>exact k1.elim
def dListV (m:Bool)(w:De):De:=fun ρ μ K=>w ρ μ fun d μ1=>opt (dcv μ1 d) fun q=>nL m q.2 μ1 K
theorem vals_rel {kvs:List (Key×V)}{vs:List (Key×Value)}{acc:Array Value}(kv:KV kvs vs)(h:ItemsOf (fun i v=>∃ k,vs[i]?=some (k,v)) acc vs.length):Vals (kvs.map (·.2)) acc.toList:=by
 refine Vals.ofGet (by rw[gxC,kv.length,<- h.1];exact(bQ (xs:=acc)).symm) fun i x u e1 e2=>?_
 rw[gxH]at e1
 cases q:kvs[i]? with
 | none=>rw[q]at e1;cases e1
 | some p =>
  rw[q]at e1;cases e1
  obtain⟨v,hv,rv⟩:=pair_rel kv q
  obtain⟨k,e3⟩:=h.2 i u (by rw[<- Array.getElem?_toList];exact e2)
  rw[hv]at e3;cases e3
  exact rv
theorem d_listVals (m:Bool){w:De}{p:Pos}(calm:X.calm=true)(hg:Gl X "list")(hm:X.mg "list"=none)(h:PD X o w)(hbase:attributeBase o "values" X.env (eval o X.env)=eval o X.env:=by rfl)(hline:(apos.endLine==cpos.line)=true:=by rfl)
 (hs3:starEach [.Call (.Attribute o "values" apos) [] [] cpos] X.env=[(false,eval (.Call (.Attribute o "values" apos) [] [] cpos) X.env)]:=by rfl) :
 PD X (.Call (.Name "list" p) [.Call (.Attribute o "values" apos) [] [] cpos] [] pos) (dListV m w):=by
 intro pins s σ H Q I hq
 refine bE (ld_blt I hg hm boot_list ?_)
 obtain⟨φ,ρ,μ,K,A,M,k,L⟩:=hq
 refine bh ?_ hs3 rfl
 rw[hs3]
 show wpAny _ _ (spliced ((false,eval (.Call (.Attribute o "values" apos) [] [] cpos) X.env)::backTo pos [])) _ _ s
 refine Calls.spliced_cons ?_
 refine pe_values h I ⟨φ,ρ,μ,_,A,M,k,fun d μ1 φ1 v1 H1 k1 f1 M1 i1=>?_⟩ hbase hline
 obtain⟨q,em,k1⟩:=opt_ex k1
 obtain⟨p',kvs,rfl,rd,e1,ha⟩:=dcv_is M1 i1 em
 refine⟨p',kvs,rfl,rd,fun s1 I1 v hv hne hvn view=>Calls.spliced_nil ?_⟩
 obtain⟨z,hd,vs,rel,dd⟩:=dk_rd I1.hok rd
 obtain⟨ep,da⟩:=dd.dictAt
 refine PySem.W.kdl_call (PySem.W.kdl_values (knd:=mixKind X.prog X.w) (kvs:=vs) (ep:=ep)) (I1.ok.hd calm) ⟨view,da⟩ (by rw[<- rel.length];exact z) fun h' tk acc' c' kp hl it=>?_
 have I2:Inv X pins σ (upd H1 s1.heap.objs.size (.lst (kvs.map (·.2)))) { s1 with heap:=h',toks:=tk}:=I1.laid (a:=s1.heap.objs.size) (o:=.lst _) (t':=tk) kp (aa _) ⟨by rw[gxC];exact z,acc'.toList,c',vals_rel rel it,hl⟩
 exact⟨.ref s1.heap.objs.size,_,I2,rfl,al_n (L.mono f1) M1 ha k1 (I1.hok.fresh (aa _))⟩
end
theorem entry_item_iter:entryFor table "dict_itemiterator.__iter__"=some Builtin.«dict_keyiterator.__iter__»:=entryFor_alias (id (Eq.refl (fastTable "dict_itemiterator.__iter__"))) rfl (by decide +kernel) (id (Eq.refl (fastTable "dict_keyiterator.__iter__")))
theorem pyIter_item {prog:Program}{w:World}{A:Around}{E:Value->Shared->Prop}{s:Shared}{it d:Addr}{i n ep:Nat}{ok ov:Value}{Q:Value->Shared->Prop}(st:IsItemIter s.heap it d i n ep ok ov)(h:Q (.ref it) s):wpAny (model prog w) A (pyIter (.ref it)) Q E s:=by
 have hT:s.TypeIs (.ref it) "dict_itemiterator":=⟨_,st,rfl⟩
 refine wpAny_pyIter_slot hT F.slot_dict_itemiterator_iter ?_
 refine bt F.slot_dict_itemiterator_iter hT entry_item_iter ?_ (F.args_dict_itemiterator_iter_1 _)
 unfold Builtin.«dict_keyiterator.__iter__»
 have hn:typeLookup (.type "dict_itemiterator") "__next__"=pure (some (.builtin "dict_itemiterator.__next__")):=F.slot_dict_itemiterator_next.lookup
 exact ae ⟨.ref it,rfl,_,_,hT,hn,h⟩
def Iti (a:Addr)(o:Obj)(kvs:List (Key×V)):It:=⟨fun i H=>i<kvs.length/\H a=some (.frz o (.dK kvs)),fun i H x H'=>∃ T p,x=.ref T/\H T=none/\kvs[i]?=some p/\H'=upd H T (.tup [kV p.1,p.2]),fun i H=>kvs.length<=i/\H a=some (.frz o (.dK kvs))⟩
theorem turn_items {P:Program}{w:World}{K:PySem.W.Frag}{elts:List Expr}{kk:Nat}{tpos:Pos}(a it:Addr){o:Obj}{kvs:List (Key×V)}{vs:List (Key×Value)}{ep:Nat}(kv:KV kvs vs)(hd:∀ h:Heap,h.get? a=some o->h.DictAt (mixKind P w) a vs ep) :
 Turn P w K (.Tuple elts kk tpos) (Iti a o kvs) [it] it (fun i h=>∃ ok ov,IsItemIter h it a i vs.length ep ok ov) where
 mem:=by simp
 obj:=fun i h st b hb=>by
  have e:b=it:=by simpa using hb
  subst e
  obtain⟨ok,ov,e⟩:=st
  exact⟨_,e,fun v z=>by cases z⟩
 keep:=fun i h h' st k=>by
  obtain⟨ok,ov,e⟩:=st
  exact⟨ok,ov,k it (by simp) _ e⟩
 item:=by
  intro X hP hw hK hc i pins s σ H E I hf st hg
  subst hP hw hK
  obtain⟨ok,ov,st⟩:=st
  obtain⟨hi,hq⟩:=hg
  obtain⟨p,hp⟩:∃ p,kvs[i]?=some p:=⟨_,gxA hi⟩
  obtain⟨v,hv,rv⟩:=pair_rel kv hp
  have ho:s.heap.get? a=some o:=(show ObjOk X.prog X.w H s.heap a (.frz o (.dK kvs))from I.hok a _ hq).1
  refine wpAny_pyNext_items_item st (hd _ ho) hv fun key h1 hkey out hT hsz kp1=>?_
  refine⟨_,rfl,wpAny_letOwnedTupleGo_items (s:={ s with heap:=h1}) out fun h2 st2 hs2=>?_⟩
  have lte:it<s.heap.objs.size:=gxN st
  have ne1:s.heap.objs.size≠it:=aR lte
  have hT2:IsPair h2 s.heap.objs.size key v:=(hs2.2 _ ne1).trans hT
  have kp:∀ b o,b∉[it]->s.heap.get? b=some o->h2.get? b=some o:=fun b o hb q=>by
   have b1:b≠it:=fun z=>hb (by simp[z])
   exact(hs2.2 b b1).trans (kp1 b o b1 q)
  have hn:H s.heap.objs.size=none:=I.hok.fresh (aa _)
  have I1:=I.turnT (ch:=[it]) (h'':=h2) (x:=kV p.1) (y:=p.2) hf kp hT2 (kV_of hkey) rv
  refine⟨.ref s.heap.objs.size,_,I1,rfl,⟨_,p,rfl,hn,hp,rfl⟩,⟨_,_,st2⟩,fun b hb=>?_⟩
  rw[upd_ne]
  ·exact(hf b hb).1
  ·have e:b=it:=by simpa using hb
   rw[e];exact ao lte
 done:=by
  intro X hP hw hK hc i pins s σ H E I hf st hg
  subst hP hw hK
  obtain⟨ok,ov,st⟩:=st
  obtain⟨hi,hq⟩:=hg
  have ho:s.heap.get? a=some o:=(show ObjOk X.prog X.w H s.heap a (.frz o (.dK kvs))from I.hok a _ hq).1
  obtain⟨f0,f1,f2,f3,f4,f5⟩:=hf it (by simp)
  have hl:=KV.length kv
  exact wpAny_pyNext_items_end (I.ok.hd hc) st (hd _ ho) (List.getElem?_eq_none_iff.mpr (by omega)) fun h' eb=>⟨rfl,I.turned (t':=s.toks) (fun b o hb e=>eb b o hb e) f0 f1 f3 f4 f5⟩
 self:=fun _ _ _ _ _ st h=>let ⟨_,_,e⟩:=st;pyIter_item e h
section
variable {X:Cx}{a b e o:Expr}{es:List Expr}{pos apos cpos:Pos}{tg:Expr}
theorem pe_items {t:TE}{pins:List (Addr×Obj)}{σ:St}{H:Hp}{s:Shared}{Q:Value->Shared->Prop}(ho:PE X o t)(I:Inv X pins σ H s)
 (h:t σ H fun x H1=>∃ d kvs,x=.ref d/\Rd H1 d (.dK kvs)/\∀ s1,Inv X pins σ H1 s1->∀ v,s1.heap.IsItemsView v d->Q (.ref v) s1)
 (hbase:attributeBase o "items" X.env (eval o X.env)=eval o X.env:=by rfl) (hline:(apos.endLine==cpos.line)=true:=by rfl):wpAny (model X.prog X.w) X.A (eval (.Call (.Attribute o "items" apos) [] [] cpos) X.env) Q X.xe s:=by
 refine wpAny_Call_method0_late hbase hline (thn (ho pins s σ H _ I h) fun v s1 hq=>?_)
 obtain⟨x,H1,I1,r1,d,kvs,ex,rd,q⟩:=hq
 subst ex
 cases r1
 obtain⟨z,hd,vs,rel,dd⟩:=dk_rd I1.hok rd
 obtain⟨h1,h2⟩:=dict_at I1 rd
 refine⟨"dict", "dict.items",F.plainAttrs_dict,F.slot_dict_items,F.type_dict_items,h1,h2,c6 rfl (PySem.evalArgs_none ?_)⟩
 refine call_meetsIn F.slot_dict_items h1 F.entry_dict_items (F.args_dict_items_1 _) (meets_dict_items (mixKind X.prog X.w) d hd) ⟨⟨vs,dd⟩,?_⟩
 exact q _ (I1.kept (t':=s1.toks) fun b o e=>gxL _ e) s1.heap.objs.size ⟨_,ak _ rfl,rfl,rfl⟩
def dItI (w:De):DI:=fun ρ μ K=>w ρ μ fun d μ1=>match d with
 | .fdc ks ds=>ks.length=ds.length->K (List.zipWith (fun k d=>D.tup [keyV k,d]) ks ds) (fun _=>True) μ1
 | _=>False
theorem i_itemsF {elts:List Expr}{kk:Nat}{tpos:Pos}{w:De}(h:PD X o w)(hbase:attributeBase o "items" X.env (eval o X.env)=eval o X.env:=by rfl)(hline:(apos.endLine==cpos.line)=true:=by rfl):PDI X (.Tuple elts kk tpos) (.Call (.Attribute o "items" apos) [] [] cpos) (dItI w):=by
 intro pins s σ H R I hq
 obtain⟨φ,ρ,μ,K,A,M,k,L⟩:=hq
 refine pe_items h I ⟨φ,ρ,μ,_,A,M,k,fun d μ1 φ1 v1 H1 k1 f1 M1 i1=>?_⟩ hbase hline
 cases d with
 | fdc ks ds =>
  obtain⟨p,oo,kvs,vs,rfl,hn,h1,rfl,rfl,h3⟩:=i1
  refine⟨p,kvs,rfl,.inr ⟨oo,h1⟩,fun s1 I1 v view=>?_⟩
  obtain⟨o',vs',ep,kv,hd,da,hs,I2⟩:=freeze I1 (.inr ⟨oo,h1⟩)
  have ho:s1.heap.get? p=some oo:=(show ObjOk X.prog X.w H1 s1.heap p (.frz oo (.dK kvs))from I1.hok p _ h1).1
  have ho':s1.heap.get? p=some o':=(show ObjOk X.prog X.w _ s1.heap p (.frz o' (.dK kvs))from I2.hok p _ upd_same).1
  rw[ho]at ho'
  cases ho'
  refine wpAny_pyIter_items view da ?_
  have hl:ds.length=kvs.length:=by have:=h3.len;rw[gxC]at this;exact this.symm
  refine⟨s1.heap.objs.size,[s1.heap.objs.size],_,_,H1,rfl,I1.kept (t':=s1.toks) fun b o e=>gxL _ e,turn_items p _ kv hd,⟨_,_,ak _ rfl⟩,fun b hb=>?_,?_⟩
  ·have e:b=s1.heap.objs.size:=by simpa using hb
   subst e
   exact I1.fpOk (aa _) (I1.hok.fresh (aa _))
  ·refine L _ _ _ φ1 _ _ (k1 (by rw[gxC,hl])) f1 M1 fun φ' H' μ' f' M' c i=>?_
   have h1':=f'.keep _ _ hn h1
   have lz:(List.zipWith (fun k d=>D.tup [keyV k,d]) (kvs.map (·.1)) ds).length=kvs.length:=by rw[List.length_zipWith,gxC,hl,Nat.min_self]
   refine⟨fun d hd=>⟨⟨?_,h1'⟩,fun x H'' hy=>?_⟩,fun hi=>⟨by omega,h1'⟩⟩
   ·have:=(gxB hd).1
    omega
   ·obtain⟨T,q,rfl,hT,hq,rfl⟩:=hy
    rw[List.getElem?_zipWith,gxH,hq]at hd
    cases e1:ds[i]? with
    | none=>rw[e1]at hd;cases hd
    | some dd =>
     rw[e1]at hd
     cases hd
     obtain⟨v',e2,e3⟩:=(h3.mono f').get e1
     rw[gxH,hq]at e2
     cases e2
     have fn:=Fr.new (φ:=φ') (o:=.tup [kV q.1,q.2]) hT
     exact⟨fn,M'.same (Same.upd hT),T,_,rfl,M'.fresh hT,upd_same,_,_,rfl,keyV_is _,_,_,rfl,e3.mono fn,rfl⟩
 | _=>exact k1.elim
end
section
variable {prog:Program}{w:World}{A:Around}{E:Value->Shared->Prop}{s:Shared}
theorem bounds_runE {a c n:Nat}(hac:a<=c)(hc:c=n):sliceBounds (some (a:Int)) none none n=((a:Int),(c:Int),1):=by
 simp only[sliceBounds,Option.getD_none]
 have h1:¬ ((a:Int)<0):=by omega
 simp only[h1,if_false,show(1:Int)>0 by decide,if_true]
 congr 1
 ·omega
 ·congr 1;omega
set_option maxRecDepth 100000 in
theorem setItem_sliceE {l b sl:Addr}{items new:Array Value}{n n2:Nat}{vl vu:Value}{a c:Nat}{Q:Unit->Shared->Prop}
 (e:s.heap.get? l=some { cls:=.type "list",data:=.seq items n}) (e2:s.heap.get? b=some { cls:=.type "list",data:=.seq new n2}) (hne:l≠b)
 (hs:s.heap.IsSliceOf sl vl vu .none) (pl:IsPart vl (some (a:Int))) (pu:IsPart vu none) (hcc:c=items.size) (hac:a<=c) (hc:c<=items.size)
 (hsz:items.size+new.size<=sizeLine) (h:Q () { s with heap:=s.heap.update l (Obj.mapSeq fun xs=>xs.extract 0 a++new++xs.extract c xs.size)}) :
 wpAny (model prog w) A (setItem (.ref l) (.ref sl) (.ref b)) Q E s:=by
 have hl:s.heap.IsList l items:=PySem.IsL.isList e
 have hb:s.heap.IsList b new:=PySem.IsL.isList e2
 obtain⟨os,hos,hcs,hds⟩:=id hs
 have hTs:s.TypeIs (.ref sl) "slice":=⟨os,hos,hcs⟩
 have hstep:¬ ((rawPart none==rawInt 0)=true):=av
 have hsame:Builtin.List.listSameRef (.ref l) (.ref b)=false:=by
  unfold Builtin.List.listSameRef
  exact beq_eq_false_iff_ne.mpr hne
 have hmax:(max (a:Int) (c:Int)).toNat=c:=by omega
 have hz':((fun xs:Array Value=>xs.extract 0 a++new++xs.extract c xs.size) items).size<=sizeLine+1:=by
  simp only[Array.size_append,Array.size_extract]
  omega
 unfold setItem
 try with_reducible refine ba ?_
 first | refine gxM (ae ?_) | skip
 refine gxM (wpAny_sequenceKey hl.typeIs (by decide) ?_)
 refine gxM (aW (name:=Str.ofString "__setitem__") hl.typeIs slot_list_setitem
  (bt slot_list_setitem hl.typeIs entry_list_setitem ?_ (args_list_setitem _ _ _)))
 show wpAny _ _ (Builtin.List.listSubscript? (.ref sl) >>= _) _ _ s
 refine gxM ?_
 unfold Builtin.List.listSubscript?
 refine gxM (wpAny_specialOf hTs slice_no_index ?_)
 simp only[Option.isNone_none,if_true]
 refine ae ?_
 show wpAny _ _ (typeOf (.ref sl) >>= _) _ _ s
 refine gxM (wpAny_typeOf hTs ?_)
 first
  | rw[aj (by decide)]
  | refine PySem.W.KFB.if_not (by decide) ?_
 rw[listSliceParts_eq]
 refine gxM (gxM (aG hos hds (x:=.none) rfl (gxM (wpAny_listPart .none ?_))))
 rw[aj hstep]
 refine gxM (aG hos hds (x:=vl) rfl (gxM (wpAny_listPart pl ?_)))
 refine gxM (aG hos hds (x:=vu) rfl (gxM (wpAny_listPart pu (ae ?_))))
 first
  | simp only[hsame,cq,if_false]
  | refine PySem.W.KFB.if_not hsame ?_
  | (dsimp only
     rw[aj (by rw[hsame];exact av)])
 refine gxM (m:=Builtin.List.listAllItems (.ref b) "must assign iterable to extended slice") ?_
 unfold Builtin.List.listAllItems
 refine gxM (wpAny_typeOf hb.typeIs ?_)
 first
  | refine PySem.W.KFB.if_so (by decide) ?_
  | rw[ar (by decide)]
  | simp only[cz,Bool.true_or,if_true]
 unfold Builtin.List.listItems
 refine gxM (bo e2 rfl (ae ?_))
 refine gxM (gxM (bo e rfl (ae ?_)))
 refine gxM (wpAny_of_eq ((sliceIndices_raw (some (a:Int)) none none items.size (by simp)).trans (bO (pure:Int×Int×Int->Sem (Int×Int×Int)) (bounds_runE (c:=c) hac hcc))) ?_)
 show wpAny _ _ (if((1:Int)==1)=true then _ else _) _ _ s
 rw[ar (by decide)]
 refine gxM (wpAny_rule ?_)
 first
  | simp only[notLongL hsz,cq,if_false]
  | refine PySem.W.KFB.if_not (notLongL hsz) ?_
 first | refine gxM (ae ?_) | skip
 show wpAny _ _ (updateSeq l (fun xs=>xs.extract 0 ((a:Int)).toNat++new++xs.extract (max (a:Int) (c:Int)).toNat xs.size) >>= _) _ _ s
 rw[hmax,gxK]
 refine gxM (cJ (hz:=aB (aX _ _) hsz) (_hz':=hz') e rfl ?_)
 refine gxM (wpAny_letGo ?_)
 first
  | exact gxM (ae (ae ⟨.none,rfl,ae h⟩))
  | exact ae ⟨.none,rfl,ae h⟩
end
def dcompX (it:D->MS->(Option (Key×D)->MS->Prop)->Prop)(c:MS->Prop)(μ:MS):List D->List (Key×D)->(List (Key×D)->Prop)->Prop
 | [],kvs,K=>c (μ++[.dic (kvs.map (·.1)) (kvs.map (·.2))])/\K kvs
 | d::ds,kvs,K=>c (μ++[.dic (kvs.map (·.1)) (kvs.map (·.2))])/\it d (μ++[.dic (kvs.map (·.1)) (kvs.map (·.2))]) fun o μ'=>μ'=μ++[.dic (kvs.map (·.1)) (kvs.map (·.2))]/\(match o with
  | some (k,y)=>dcompX it c μ ds (dput kvs k y) K
  | none=>dcompX it c μ ds kvs K)
def dCompM (wi:DI)(js:List (Option Nat))(y:DG)(t:Dt)(wk wv:De):De:=fun ρ μ K=>wi ρ μ fun ds c μ1=>ds.length<=sizeLine/\dcompX (dItemD (startD js ρ) y t wk wv) c μ1 ds [] fun kvs=>K (.mr μ1.length) (μ1++[.dic (kvs.map (·.1)) (kvs.map (·.2))])
theorem tD_compM {wi:DI}{js:List (Option Nat)}{g:TG}{y:DG}{S:List Nat}{t:Dt}{wk wv:De}(so:SoG g y S)(mo:MonoG g)(ho:ownJs S js=true){σ:St}{H:Hp}{Q:VK}(h:tD (dCompM wi js y t wk wv) σ H Q):tCompD (tDI wi) js g (tDT t) (tD wk) (tD wv) σ H Q:=by
 obtain⟨φ,ρ,μ,K,A,M,k,L⟩:=h
 refine⟨φ,ρ,μ,_,A,M,k,fun ds c μ1 φ1 J H1 k1 f1 M1 wk' D hD=>?_⟩
 obtain⟨hz,k1⟩:=k1
 have hDf:D∉φ1:=M1.fresh hD
 have fD:Fr φ1 H1 (φ1++[D]) (upd H1 D (.dK [])):=⟨(Fr.snoc (φ:=φ1) hD).ext,fun c u _ e=>Same.upd hD _ _ e,fun c e=>(Same.upd hD).free e⟩
 obtain⟨MD,_⟩:=M1.snoc (m:=.dic [] []) (o:=.dK []) hD ⟨[],[],upd_same,rfl,rfl,rfl⟩
 have hp:(φ1++[D])[μ1.length]?=some D:=by rw[gxG (by rw[M1.len];exact aa _),M1.len,aQ];rfl
 refine⟨fun i n kv H'=>n=ds.length - i/\i<=ds.length/\∃ kvs:List (Key×L2.D),kvs.length<=i/\Fr φ1 H1 (φ1++[D]) H'/\MSis (φ1++[D]) H' (μ1++[.dic (kvs.map (·.1)) (kvs.map (·.2))])/\dcompX (dItemD (startD js ρ) y t wk wv) c μ1 (ds.drop i) kvs fun kvs=>K (.mr μ1.length) (μ1++[MO.dic (kvs.map (·.1)) (kvs.map (·.2))]),
  ⟨ds.length,rfl,aV _,[],aV _,fD,MD,k1⟩,?_⟩
 rintro i n kv H' ⟨rfl,hi,kvs,hkl,f',M',w'⟩
 by_cases hlt:i<ds.length
 ·rw[cD hlt]at w'
  obtain⟨c',w'⟩:=w'
  obtain⟨go,yld⟩:=(wk' _ H' _ f' M' c' i).1 ds[i] (gxA hlt)
  refine .inr ⟨go,fun x H2 hy2=>?_⟩
  obtain⟨f2,M2,i2⟩:=yld x H2 hy2
  have E2:DEnv (φ1++[D]) H2 (startD js ρ) (startC js σ):=((A.mono (f1.trans (f'.trans f2))).startC js)
  refine mo _ _ _ _ _ (fun σ3 H3 hq0=>?_) (so _ H2 _ _ _ _ x _ E2 M2 i2 w')
  obtain⟨e3,l3,n3,ρ3,E3,k3⟩:=hq0
  refine⟨ext_of ho l3 n3,?_⟩
  subst e3
  refine⟨_,ρ3,_,_,E3,M2,k3,fun b μ4 φ4 H4 k4 f4 M4=>?_⟩
  cases b with
  | true =>
   refine⟨φ4,ρ3,μ4,_,E3.mono f4,M4,k4,fun d5 μ5 φ5 v5 H5 k5 f5 M5 i5=>?_⟩
   obtain⟨kk,ekk,k5⟩:=opt_ex k5
   refine⟨φ5,ρ3,μ5,_,E3.mono (f4.trans f5),M5,k5,fun d6 μ6 φ6 v6 H6 k6 f6 M6 i6=>?_⟩
   obtain⟨e6,w6⟩:=k6
   subst e6
   have ff:=f2.trans (f4.trans (f5.trans f6))
   have ef:φ6=φ1++[D]:=ff.noext (by rw[M6.len,M'.len])
   subst ef
   obtain⟨p,e1,kv',vs,e2,e3',e4,e5⟩:=M6.at_ μ1.length _ (by rw[gxG (aa _),aQ];rfl)
   rw[hp]at e1
   cases e1
   subst e4
   have hl':kv'.length=kvs.length:=by have:=bO List.length e3';rwa [gxC,gxC]at this
   have f7:Fr (φ1++[D]) H6 (φ1++[D]) (upd H6 D (.dK (putK kv' kk v6))):=.put (aF _ (List.mem_singleton.mpr rfl))
   obtain⟨g1,g2⟩:=dput_rel (k:=kk) (i6.mono f7) e3' (e5.mono f7)
   refine⟨kk,kv',keyD_is ekk i5,e2,by omega,ds.length - (i+1),by omega,rfl,hlt,dput kvs kk d6,by have:=dput_len kvs kk d6;omega,(f'.trans ff).trans f7,?_,w6⟩
   have q:=M6.put (k:=μ1.length) (p:=D) (o:=.dK (putK kv' kk v6)) (m:=.dic ((dput kvs kk d6).map (·.1)) ((dput kvs kk d6).map (·.2))) hp ⟨putK kv' kk v6,_,upd_same,g1,rfl,g2⟩
   have e:(μ1++[MO.dic (kvs.map (·.1)) (kvs.map (·.2))]).set μ1.length (.dic ((dput kvs kk d6).map (·.1)) ((dput kvs kk d6).map (·.2)))=μ1++[.dic ((dput kvs kk d6).map (·.1)) ((dput kvs kk d6).map (·.2))]:=set_end
   rw[e]at q
   exact q
  | false =>
   obtain⟨e4,w4⟩:=k4
   subst e4
   have ff:=f2.trans f4
   have ef:φ4=φ1++[D]:=ff.noext (by rw[M4.len,M'.len])
   subst ef
   exact⟨ds.length - (i+1),by omega,rfl,hlt,kvs,by omega,f'.trans ff,M4,w4⟩
 ·have e:i=ds.length:=by omega
  subst e
  rw[List.drop_length]at w'
  exact .inl ⟨(wk' _ H' _ f' M' w'.1 _).2 rfl,L _ _ _ _ H' w'.2 (f1.trans f') M' ⟨D,hp,rfl⟩⟩
section
variable {X:Cx}{N:List Str}{sc:Scope}{js:List (Option Nat)}{tg iter kx vx:Expr}{ifs:List Expr}{g:TG}{y:DG}{S:List Nat}{t:Dt}{wk wv:De}
theorem d_compM {wi:DI}{pos:Pos}(hc:CompOk X N js sc)(calm:X.calm=true)(so:SoG g y S)(mo:MonoG g)(ho:ownJs S js=true)(hi:PDI X tg iter wi)(hg:∀ fp s H,PG (cxE X N sc fp s H) tg g)
 (ht:∀ fp s H,PDTs (cxE X N sc fp s H) ifs t) (hk:∀ fp s H,PD (cxE X N sc fp s H) kx wk) (hv:∀ fp s H,PD (cxE X N sc fp s H) vx wv)
 (hs:∀ x,foldedSetIterable iter X.env x=pure x:=by intro _;rfl):PD X (.DictComp kx vx [⟨tg,iter,ifs,0⟩] sc pos) (dCompM wi js y t wk wv):=(pe_compD hc calm hi hg ht hk hv hs).imp fun σ H Q h=>tD_compM so mo ho h
end
section
variable {X:Cx}{a b e o:Expr}{es:List Expr}{pos:Pos}
def sSlE (to tl tv:TE):TS:=fun D σ H=>tv σ H fun v H1=>to σ H1 fun x H2=>tl σ H2 fun i H3=>∃ l b xs ys k,x=.ref l/\v=.ref b/\i=.int k/\H3 l=some (.lst xs)/\H3 b=some (.lst ys)/\l≠b/\0<=k/\k<=xs.length/\xs.length+ys.length<=sizeLine/\D.nx σ (upd H3 l (.lst (xs.take k.toNat++ys)))
theorem ps_slE {to tl tv:TE}{lo value:Expr}{p pos':Pos}(ho:PE X o to)(hl:PE X lo tl)(hv:PE X value tv)(hs:swapsWith value (some (.Subscript o (.Slice (some lo) none none p) pos')) pos.line X.env=pure false:=by rfl) :
 PS X (.Assign [.Subscript o (.Slice (some lo) none none p) pos'] value pos) (sSlE to tl tv):=by
 intro pins s σ H D I h
 refine wpAny_Assign_Subscript (thn (hv pins s σ H _ I h) fun r s1 hq1=>?_) hs
 obtain⟨v,H1,I1,rv,q1⟩:=hq1
 refine thn (ho pins s1 σ H1 _ I1 q1) fun u s2 hq2=>?_
 obtain⟨x,H2,I2,rx,q2⟩:=hq2
 refine wpAny_Slice (thn (hl pins s2 σ H2 _ I2 q2) fun iv s3 hq3=>?_)
 obtain⟨i,H3,I3,ri,l,b,xs,ys,k,ex,ev,ei,hH,hB,hne,h0,hk,hz,q⟩:=hq3
 subst ex ev ei
 cases rx
 cases rv
 obtain⟨t,rfl⟩:=ri
 refine ae (ae ?_)
 have I4:Inv X pins σ H3 { s3 with heap:=s3.heap.push { cls:=.type "slice",data:=.fields #[.int k t,.none,.none]}}:=I3.kept (t':=s3.toks) fun b o e=>gxL _ e
 obtain⟨z,its,n,r,hl,e⟩:=I4.lstM hH
 obtain⟨z2,its2,n2,r2,hl2,e2⟩:=I4.lstM hB
 obtain⟨a',rfl⟩:=Int.eq_ofNat_of_zero_le h0
 refine setItem_sliceE (a:=a') (c:=its.length) (sl:=s3.heap.objs.size) (vl:=.int a' t) (vu:=.none) e e2 hne ⟨_,ak _ rfl,rfl,rfl⟩ (.int _ _) .none (by rw[ag]) (by omega) (by rw[ag];exact aa _) (by rw[ag,ag];omega) ?_
 have I5:=I4.lset (its':=its.take a'++its2) (ys:=xs.take a'++ys) (t':=s3.toks) hH e (f:=fun xs=>xs.extract 0 a'++its2.toArray++xs.extract its.length xs.size) (by
  have:=splice_eq its its2 a' its.length
  rw[List.drop_length,aZ]at this
  exact this) (Vals.append (r.take _) r2) (by rw[gxE,bp];omega)
 exact⟨σ,_,I5,by simpa using q⟩
def dSlE (wo wl wv:De):Ds:=fun N ρ μ=>wv ρ μ fun v μ1=>wo ρ μ1 fun x μ2=>wl ρ μ2 fun i μ3=>match x,v,i with
 | .mr j,.lst ys,.int k=>∃ xs,lvM μ3 j=some xs/\0<=k/\k<=xs.length/\xs.length+ys.length<=sizeLine/\N.nx ρ (μ3.set j (.lst (xs.take k.toNat++ys)))
 | _,_,_=>False
theorem s_slE {wo wl wv:De}{lo value:Expr}{p pos':Pos}(ho:PD X o wo)(hl:PD X lo wl)(hv:PD X value wv)(hs:swapsWith value (some (.Subscript o (.Slice (some lo) none none p) pos')) pos.line X.env=pure false:=by rfl) :
 PDS X (.Assign [.Subscript o (.Slice (some lo) none none p) pos'] value pos) (dSlE wo wl wv):=(ps_slE ho hl hv hs).imp fun E σ H hq=>by
 obtain⟨φ,ρ,μ,N,A,M,w,L⟩:=hq
 refine⟨φ,ρ,μ,_,A,M,w,fun d1 μ1 φ1 v1 H1 k1 f1 M1 i1=>?_⟩
 refine⟨φ1,ρ,μ1,_,A.mono f1,M1,k1,fun d2 μ2 φ2 v2 H2 k2 f2 M2 i2=>?_⟩
 refine⟨φ2,ρ,μ2,_,A.mono (f1.trans f2),M2,k2,fun d3 μ3 φ3 v3 H3 k3 f3 M3 i3=>?_⟩
 split at k3
 ·rename_i j ys k
  obtain⟨xs,ex,h0,hk,hz,k3⟩:=k3
  cases(show v3=_ from i3)
  have i1':=i1.mono (f2.trans f3)
  obtain⟨pb,vb,rfl,nb,hb,ab⟩:=i1'
  obtain⟨p,hp,rfl⟩:=i2.mono f3
  obtain⟨p',e1,vs,hv,ha⟩:=M3.at_ j _ (lvM_eq ex)
  rw[hp]at e1;cases e1
  have ne:p≠pb:=fun z=>nb (by rw[<- z];exact gxD hp)
  have f4:Fr φ3 H3 φ3 (upd H3 p (.lst (vs.take k.toNat++vb))):=.put (gxD hp)
  have M4:=M3.put (k:=j) (p:=p) (o:=.lst (vs.take k.toNat++vb)) (m:=.lst (xs.take k.toNat++ys)) hp ⟨_,upd_same,((ha.take _).app ab).mono f4⟩
  exact⟨p,pb,vs,vb,k,rfl,rfl,rfl,hv,hb,ne,h0,by rw[ha.len];exact hk,by rw[ha.len,ab.len];exact hz,L.nx ρ _ φ3 σ _ k3 ((f1.trans (f2.trans f3)).trans f4) (A.mono ((f1.trans (f2.trans f3)).trans f4)) M4⟩
 ·exact k3.elim
def dAugF (C:Addr)(f:Str)(g:Int->Int->Int)(wo w:De):Ds:=fun N ρ μ=>wo ρ μ fun x μ1=>match x with
 | .mr k=>∃ i,(insM C μ1 k).bind (fun q=>lookN f q.1 q.2)=some (.int i)/\w ρ μ1 fun y μ2=>match y with
  | .int j=>∃ q q':List Str×List D,insM C μ2 k=some q/\putN f (.int (g i j)) q.1 q.2=q'/\q.1.length<1000/\N.nx ρ (μ2.set k (.ins C q'.1 q'.2))
  | _=>False
 | _=>False
theorem tD_augF {C:Addr}{f:Str}{g:Int->Int->Int}{wo w:De}{rd:V->V->Hp->VK->Prop}(c:Cls X.K C)(n:NoAttr X.K C f)(hrd:∀ i j H Q,Q (.int (g i j)) H->rd (.int i) (.int j) H Q){E:Ends}{σ:St}{H:Hp}(hq:tDS (dAugF C f g wo w) E σ H):sFldAug X.K (tD wo) (tD w) rd f E σ H:=by
 obtain⟨φ,ρ,μ,N,A,M,k,L⟩:=hq
 refine⟨φ,ρ,μ,_,A,M,k,fun d1 μ1 φ1 v1 H1 k1 f1 M1 i1=>?_⟩
 cases d1 with
 | mr k =>
  obtain⟨i,e1,k1⟩:=k1
  obtain⟨q,e2,e3⟩:=Option.bind_eq_some_iff.mp e1
  obtain⟨p,hp,rfl⟩:=i1
  obtain⟨p',e4,dx,fs,h1,h2,h3⟩:=M1.at_ k _ (insM_eq e2)
  rw[hp]at e4;cases e4
  rw[<- h2]at e3
  obtain⟨v,l,iv⟩:=lookN_is h3 e3
  cases(show v=_ from iv)
  refine⟨p,C,dx,fs,.int i,rfl,h1,c,n,l,?_⟩
  refine⟨φ1,ρ,μ1,_,A.mono f1,M1,k1,fun d2 μ2 φ2 v2 H2 k2 f2 M2 i2=>?_⟩
  cases d2 with
  | int j =>
   cases(show v2=_ from i2)
   obtain⟨q',_,e5,rfl,hl,k2⟩:=k2
   have hp2:=f2.get hp
   obtain⟨p',e4,dx',fs',g1,g2,g3⟩:=M2.at_ k _ (insM_eq e5)
   rw[hp2]at e4;cases e4
   refine hrd _ _ _ _ ⟨dx',fs',g1,by rw[<- g2,gxC]at hl;exact hl,?_⟩
   have f4:Fr φ2 H2 φ2 (upd H2 p (.ins C dx' (putF f (.int (g i j)) fs'))):=.put (gxD hp2)
   obtain⟨y1,y2⟩:=putN_is (f:=f) (d:=.int (g i j)) (v:=.int (g i j)) (show DIs φ2 (upd H2 p (.ins C dx' (putF f (.int (g i j)) fs'))) (.int (g i j)) (.int (g i j))from rfl) (g3.mono f4)
   rw[g2]at y1 y2
   exact L.nx ρ _ φ2 σ _ k2 ((f1.trans f2).trans f4) (A.mono ((f1.trans f2).trans f4)) (M2.put hp2 ⟨dx',_,upd_same,y1,y2⟩)
  | _=>exact k2.elim
 | _=>exact k1.elim
theorem s_augFA {C:Addr}{f:Str}{wo w:De}{tpos:Pos}(c:Cls X.K C)(n:NoAttr X.K C f)(ho:PD X o wo)(hv:PD X e w):PDS X (.AugAssign (.Attribute o f tpos) .Add e pos) (dAugF C f (·+·) wo w):=(ps_fldaug ho hv in_add).imp fun E σ H hq=>tD_augF c n (fun i j H Q q=>⟨i,j,rfl,rfl,q⟩) hq
end
structure CalMX (P:Program)(w:World)(K:PySem.W.Frag)(mg:Str->Option Value)(base:Heap)(C:Addr)(m:Str)(k:Nat)(ps:List Str)(sp:Sp):Prop where
 ex:∃ f fd,FnOk P w K mg base (CX1 P w) k f fd ps sp/\Meth K C m f/\Binds K fd ps []
structure CalIX (P:Program)(w:World)(K:PySem.W.Frag)(mg:Str->Option Value)(base:Heap)(x:Str)(C:Addr)(k:Nat)(ps:List Str)(sp:Sp):Prop where
 ex:∃ f fd,FnOk P w K mg base (CX1 P w) k f fd ps sp/\Mk K C f/\mg x=some (.ref C)/\Binds K fd ps []
theorem pass1 {X:Cx}:Passes (CX1 X.prog X.w) X (fun _ _ _=>False):=fun pins σ H s e s' I c=>by
 obtain⟨_,_,_,_,_,_,_,_,_,_,_,z⟩:=c
 exact z.elim
section
variable {X:Cx}{a b e o:Expr}{es:List Expr}{pos:Pos}{C:Addr}{φ0:List Addr}{H0:Hp}{Kx:DX}
theorem tD_methX {m:Str}{f:DSpX}{wo:De}{w:DA}{σ:St}{H:Hp}{Q:VK}{E:XK}{ok:MS->Prop}{Kx:DX}(hE:∀ φ μ H,MSis φ H μ->ok μ->LifX φ H Kx E)(h:tD (fun ρ μ K=>wo ρ μ fun x μ1=>recvD C m μ1 x/\w ρ μ1 fun ds μ2=>ok μ2/\f (x::ds) μ2 K Kx) σ H Q):tMeth C m (spX f) [] E (tD wo) (tDA w) σ H Q:=by
 obtain⟨φ,ρ,μ,K,A,M,k,L⟩:=h
 refine⟨φ,ρ,μ,_,A,M,k,fun d1 μ1 φ1 v1 H1 k1 f1 M1 i1=>?_⟩
 obtain⟨p,dx,fs,rfl,h1,h2⟩:=recvD_is M1 i1 k1.1
 refine⟨p,dx,fs,rfl,h1,h2,φ1,ρ,μ1,_,A.mono f1,M1,k1.2,fun ds μ2 φ2 vs H2 k2 f2 M2 i2=>?_⟩
 show spX f (.ref p::(vs++[])) H2 Q E
 rw[aZ]
 exact⟨φ2,d1::ds,μ2,K,Kx,⟨_,vs,rfl,DIs.mono f2 i1,i2⟩,M2,k2.2,L.mono (f1.trans f2),hE φ2 μ2 H2 M2 k2.1⟩
def dMethX (φ0:List Addr)(H0:Hp)(Kx:DX)(C:Addr)(m:Str)(f:DSpX)(wo:De)(w:DA):De:=fun ρ μ K=>wo ρ μ fun x μ1=>recvD C m μ1 x/\w ρ μ1 fun ds μ2=>μ2[0]?=some (.gx φ0 H0)/\f (x::ds) μ2 K Kx
theorem d_methX {m:Str}{f:DSpX}{wo:De}{w:DA}{apos:Pos}{pl:Sem Bool}{k:Nat}{ps:List Str}(Z:Rz X φ0 H0 Kx)(CM:CalMX X.prog X.w X.K X.mg X.base C m k ps (spX f))(c:Cls X.K C)(hr:Room k X.A)(ho:PD X o wo)(ha:PDA X (e::es) w)
 (hst:starEach (e::es) X.env=(false,eval e X.env)::starEach es X.env:=by rfl) (hpl:(backTo pos (starEach es X.env)).any (·.1)=false:=by rfl)
 (ht:eval (.Call (.Attribute o m apos) (e::es) [] pos) X.env=(do
   let ov <- eval o X.env
   standAt apos.atName
   let (f,first) <- holding [ov] (getMethod ov m pl)
   callWith pos f first (backTo pos (starEach (e::es) X.env)) (backToKw pos (keywordEach [] X.env))):=by rfl) :
 PD X (.Call (.Attribute o m apos) (e::es) [] pos) (dMethX φ0 H0 Kx C m f wo w):=by
 obtain⟨E,LX,hp⟩:=Z.ex
 obtain⟨f',fd,F,hm,hb⟩:=CM.ex
 exact(pe_meth ho c hm F hr hb .nil hp ha hst hpl ht).imp fun σ H Q hq=>tD_methX (ok:=fun μ=>μ[0]?=some (MO.gx φ0 H0)) (fun φ μ H M e=>LX.mono (M.hist e)) hq
def dMethXc (C:Addr)(m:Str)(f:DSpX)(wo:De)(w:DA):De:=fun ρ μ K=>wo ρ μ fun x μ1=>recvD C m μ1 x/\w ρ μ1 fun ds μ2=>True/\f (x::ds) μ2 K fun _ _=>False
theorem d_methXc {m:Str}{f:DSpX}{wo:De}{w:DA}{apos:Pos}{pl:Sem Bool}{k:Nat}{ps:List Str}(CM:CalMX X.prog X.w X.K X.mg X.base C m k ps (spX f))(c:Cls X.K C)(hr:Room k X.A)(ho:PD X o wo)(ha:PDA X (e::es) w)
 (hst:starEach (e::es) X.env=(false,eval e X.env)::starEach es X.env:=by rfl) (hpl:(backTo pos (starEach es X.env)).any (·.1)=false:=by rfl)
 (ht:eval (.Call (.Attribute o m apos) (e::es) [] pos) X.env=(do
   let ov <- eval o X.env
   standAt apos.atName
   let (f,first) <- holding [ov] (getMethod ov m pl)
   callWith pos f first (backTo pos (starEach (e::es) X.env)) (backToKw pos (keywordEach [] X.env))):=by rfl) :
 PD X (.Call (.Attribute o m apos) (e::es) [] pos) (dMethXc C m f wo w):=by
 obtain⟨f',fd,F,hm,hb⟩:=CM.ex
 exact(pe_meth ho c hm F hr hb .nil pass1 ha hst hpl ht).imp fun σ H Q hq=>tD_methX (ok:=fun _=>True) (Kx:=fun _ _=>False) (fun φ μ H M e=>fun _ _ _ _ z _ _=>z.elim) hq
theorem tD_makeX {f:DSpX}{w:DA}{σ:St}{H:Hp}{Q:VK}{E:XK}{ok:MS->Prop}{Kx:DX}(hE:∀ φ μ H,MSis φ H μ->ok μ->LifX φ H Kx E)(h:tD (fun ρ μ K=>w ρ μ fun ds μ1=>ok μ1/\f (.mr μ1.length::ds) (μ1++[.ins C [] []]) (fun d μ2=>d=.non/\K (.mr μ1.length) μ2) Kx) σ H Q):tMake C (spX f) [] E (tDA w) σ H Q:=by
 obtain⟨φ,ρ,μ,K,A,M,k,L⟩:=h
 refine⟨φ,ρ,μ,_,A,M,k,fun ds μ1 φ1 vs H1 k1 f1 M1 i1 x dx hx hdx ne=>?_⟩
 have S1:Same H1 (upd H1 dx (.own x)):=Same.upd hdx
 have hx':upd H1 dx (.own x) x=none:=by rw[upd_ne (aO ne)];exact hx
 have fa:Fr φ1 H1 φ1 (upd H1 dx (.own x)):=.same S1
 obtain⟨M2,f2⟩:=(M1.same S1).snoc (m:=.ins C [] []) (o:=.ins C dx []) hx' ⟨dx,[],upd_same,rfl,rfl⟩
 have f3:=fa.trans f2
 have hin:DIs (φ1++[x]) (upd (upd H1 dx (.own x)) x (.ins C dx [])) (.mr μ1.length) (.ref x):=⟨x,by rw[gxG (by rw[M1.len];exact aa _),M1.len,aQ];rfl,rfl⟩
 show spX f (.ref x::(vs++[])) _ _ E
 rw[aZ]
 refine⟨φ1++[x],.mr μ1.length::ds,μ1++[.ins C [] []],_,Kx,⟨_,vs,rfl,hin,i1.mono f3⟩,M2,k1.2,fun d μ3 φ3 v H3 k3 f4 M3 i3=>?_,(hE φ1 μ1 H1 M1 k1.1).mono f3⟩
 obtain⟨rfl,k3⟩:=k3
 exact⟨i3,L _ μ3 φ3 _ H3 k3 ((f1.trans f3).trans f4) M3 (hin.mono f4)⟩
def dMakeX (φ0:List Addr)(H0:Hp)(Kx:DX)(C:Addr)(f:DSpX)(w:DA):De:=fun ρ μ K=>w ρ μ fun ds μ1=>μ1[0]?=some (.gx φ0 H0)/\f (.mr μ1.length::ds) (μ1++[.ins C [] []]) (fun d μ2=>d=.non/\K (.mr μ1.length) μ2) Kx
theorem d_makeX {x:Str}{f:DSpX}{w:DA}{p:Pos}{k:Nat}{ps:List Str}(Z:Rz X φ0 H0 Kx)(CI:CalIX X.prog X.w X.K X.mg X.base x C k ps (spX f))(hr:Room (k+1) X.A)(hg:Gl X x)(ha:PDA X (e::es) w)
 (hdb:(x==("__debug__" : Str))=false:=by decide) (he:starEach (e::es) X.env=(false,eval e X.env)::starEach es X.env:=by rfl) (hpl:(backTo pos (starEach es X.env)).any (·.1)=false:=by rfl) :
 PD X (.Call (.Name x p) (e::es) [] pos) (dMakeX φ0 H0 Kx C f w):=by
 obtain⟨E,LX,hp⟩:=Z.ex
 obtain⟨f',fd,F,M,hm,hb⟩:=CI.ex
 exact(pe_make M F hr hg hm hb .nil hp ha hdb he hpl).imp fun σ H Q hq=>tD_makeX (ok:=fun μ=>μ[0]?=some (MO.gx φ0 H0)) (fun φ μ H M e=>LX.mono (M.hist e)) hq
def dMakeXc (C:Addr)(f:DSpX)(w:DA):De:=fun ρ μ K=>w ρ μ fun ds μ1=>True/\f (.mr μ1.length::ds) (μ1++[.ins C [] []]) (fun d μ2=>d=.non/\K (.mr μ1.length) μ2) fun _ _=>False
theorem d_makeXc {x:Str}{f:DSpX}{w:DA}{p:Pos}{k:Nat}{ps:List Str}(CI:CalIX X.prog X.w X.K X.mg X.base x C k ps (spX f))(hr:Room (k+1) X.A)(hg:Gl X x)(ha:PDA X (e::es) w)
 (hdb:(x==("__debug__" : Str))=false:=by decide) (he:starEach (e::es) X.env=(false,eval e X.env)::starEach es X.env:=by rfl) (hpl:(backTo pos (starEach es X.env)).any (·.1)=false:=by rfl) :
 PD X (.Call (.Name x p) (e::es) [] pos) (dMakeXc C f w):=by
 obtain⟨f',fd,F,M,hm,hb⟩:=CI.ex
 exact(pe_make M F hr hg hm hb .nil pass1 ha hdb he hpl).imp fun σ H Q hq=>tD_makeX (ok:=fun _=>True) (Kx:=fun _ _=>False) (fun φ μ H M e=>fun _ _ _ _ z _ _=>z.elim) hq
end
theorem calmx_of {P:Program}{w:World}{K:PySem.W.Frag}{mg:Str->Option Value}{base:Heap}{C:Addr}{x q:Str}{st:Stmt}{f:Addr}{fd:FuncData}{k:Nat}{ps:List Str}{sp:Sp}(F:Fun K x q st f fd)(ok:FnOk P w K mg base (CX1 P w) k f fd ps sp)(hb:Binds K fd ps [])
 (a:PySem.W.findIn K (.ref C) x=some (some (.ref f)):=by kernel_rfl) (i:PySem.W.isFn K (.ref f)=true:=by kernel_rfl):CalMX P w K mg base C x k ps sp:=⟨f,fd,ok,⟨a,i,F.kp⟩,hb⟩
theorem calix_of {P:Program}{w:World}{K:PySem.W.Frag}{mg:Str->Option Value}{base h:Heap}{C:Addr}{y q:Str}{st:Stmt}{f:Addr}{fd:FuncData}{k:Nat}{ps:List Str}{sp:Sp}(G:K.In h)(N:h.Ns mainGlobals mg)(F:Fun K "__init__" q st f fd)(ok:FnOk P w K mg base (CX1 P w) k f fd ps sp)(hb:Binds K fd ps [])
 (n:PySem.W.nsIn K mainGlobals y=some (some (.ref C)):=by kernel_rfl) (a:PySem.W.findIn K (.ref C) "__init__"=some (some (.ref f)):=by kernel_rfl) (i:PySem.W.isFn K (.ref f)=true:=by kernel_rfl) (m:PySem.W.makesIn K C=true:=by kernel_rfl) (p:PySem.W.keepIn K (.ref C)=true:=by kernel_rfl):CalIX P w K mg base y C k ps sp:=⟨f,fd,ok,⟨m,a,i,p⟩,aP G N n,hb⟩
section
variable {X:Cx}{a b c e o:Expr}{es:List Expr}{pos:Pos}
theorem op_le_str:OpR X (compareOp .LtE) (fun x y H Q=>∃ i j,x=.str i/\y=.str j/\Q (.bl (!decide (j.cps.toList<i.cps.toList))) H):=by
 intro pins s σ H x y v u Q I rx ry h
 obtain⟨i,j,rfl,rfl,q⟩:=h
 obtain⟨t,rfl⟩:=rx
 obtain⟨t',rfl⟩:=ry
 exact compareOp_gives (typeIs_str s i t) (typeIs_str s j t') F.slot_str_le F.entry_str_le (F.args_str_le_2 _ _) (gives_str_le i j t t') (by first | rfl | simp[Made.takes] | decide) (fin_bl I q rfl)
def dLeS:DOp:=fun x y μ K=>match x,y with
 | .str a,.str b=>K (.bl (!decide (b.cps.toList<a.cps.toList))) μ
 | _,_=>False
theorem so_leS:SoOp (fun x y H Q=>∃ i j,x=.str i/\y=.str j/\Q (.bl (!decide (j.cps.toList<i.cps.toList))) H) dLeS:=fun φ H x y dx dy μ K Q M hx hy k L=>by
 unfold dLeS at k
 split at k
 ·cases(show x=_ from hx);cases(show y=_ from hy)
  exact⟨_,_,rfl,rfl,L.val M k rfl⟩
 ·exact k.elim
def dChain (ro ro':DOp)(wa wb wc:De):De:=fun ρ μ K=>wa ρ μ fun x μ1=>wb ρ μ1 fun y μ2=>ro x y μ2 fun z μ3=>match z with
 | .bl k=>if k=true then wc ρ μ3 fun w' μ4=>ro' y w' μ4 K else K (.bl false) μ3
 | _=>False
theorem d_chain {op op':CmpOp}{r r':R2}{ro ro':DOp}{wa wb wc:De}(ho:OpR X (compareOp op) r)(ho':OpR X (compareOp op') r')(so:SoOp r ro)(so':SoOp r' ro')(ha:PD X a wa)(hb:PD X b wb)(hc:PD X c wc)
 (hm:lastMarks [op,op'] [b,c]=false:=by with_unfolding_all rfl):PD X (.Compare a [op,op'] [b,c] pos) (dChain ro ro' wa wb wc):=(pe_chain ho ho' ha hb hc hm).imp fun σ H Q hq=>by
 obtain⟨φ,ρ,μ,K,A,M,k,L⟩:=hq
 refine⟨φ,ρ,μ,_,A,M,k,fun d1 μ1 φ1 v1 H1 k1 f1 M1 i1=>?_⟩
 refine⟨φ1,ρ,μ1,_,A.mono f1,M1,k1,fun d2 μ2 φ2 v2 H2 k2 f2 M2 i2=>?_⟩
 refine so φ2 H2 v1 v2 d1 d2 μ2 _ _ M2 (i1.mono f2) i2 k2 fun d3 μ3 φ3 v3 H3 k3 f3 M3 i3=>?_
 cases d3 with
 | bl k =>
  cases(show v3=_ from i3)
  refine⟨k,rfl,?_⟩
  cases k with
  | false=>exact L _ μ3 φ3 _ H3 k3 (f1.trans (f2.trans f3)) M3 rfl
  | true=>exact⟨φ3,ρ,μ3,_,A.mono (f1.trans (f2.trans f3)),M3,k3,fun d4 μ4 φ4 v4 H4 k4 f4 M4 i4=>so' φ4 H4 v2 v4 d2 d4 μ4 K Q M4 (i2.mono (f3.trans f4)) i4 k4 (L.mono (f1.trans (f2.trans (f3.trans f4))))⟩
 | _=>exact k3.elim
def GInt (mg:Str->Option Value)(x:Str)(i:Int):Prop:=∃ t,mg x=some (.int i t)
theorem d_gint {x:Str}{i:Int}(hg:Gl X x)(hm:GInt X.mg x i)(hd:(x==("__debug__" : Str))=false:=by decide):PD X (.Name x pos) (dC (.int i)):=by
 obtain⟨t,hm⟩:=hm
 exact(pe_glob (v:=.int i) hg hm ⟨t,rfl⟩ hd).imp fun σ H Q hq=>by
  obtain⟨φ,ρ,μ,K,A,M,k,L⟩:=hq
  exact L _ _ φ _ H k (.refl _ _) M rfl
structure Tab (P:Program)(w:World)(K:PySem.W.Frag)(mg:Str->Option Value)(x:Str)(ts:List (Str×Addr)):Prop where
 ex:∃ d,mg x=some (.ref d)/\∀ h:Heap,K.In h->h.DictOf (mixKind P w) d (ts.map fun p=>(Sum.inr p.1,Value.ref p.2))
def dTab (ts:List (Str×Addr))(w:De):De:=fun ρ μ K=>w ρ μ fun d μ1=>match d with
 | .str z=>∃ a,(ts.find? fun p=>decide (p.1=z)).map (·.2)=some a/\K (.fn a) μ1
 | _=>False
theorem valueAt_tab {z:Str}{a:Addr}:∀ {ts:List (Str×Addr)},(ts.find? fun p=>decide (p.1=z)).map (·.2)=some a->valueAt (ts.map fun p=>((Sum.inr p.1:Key),Value.ref p.2)) (Sum.inr z)=some (.ref a)
 | [],h=>by cases h
 | p::ts,h=>by
  unfold valueAt
  rw[aq,bj]
  rw[bj]at h
  by_cases q:p.1=z
  ·rw[au q]at h
   cases h
   rw[show decide ((Sum.inr p.1:Key)=Sum.inr z)=true from au (by rw[q])]
   rfl
  ·rw[ai q]at h
   rw[show decide ((Sum.inr p.1:Key)=Sum.inr z)=false from ai fun y=>q (Sum.inr.inj y)]
   exact valueAt_tab (ts:=ts) h
theorem d_tab {ts:List (Str×Addr)}{x:Str}{w:De}{p:Pos}(T:Tab X.prog X.w X.K X.mg x ts)(hg:Gl X x)(hb:PD X b w)(hs:NoSl b)(hd:(x==("__debug__" : Str))=false:=by decide):PD X (.Subscript (.Name x p) b pos) (dTab ts w):=by
 intro pins s σ H Q I hq
 obtain⟨φ,ρ,μ,K,A,M,k,L⟩:=hq
 obtain⟨d,hm,T⟩:=T.ex
 refine subD_of PySem.F.slot_dict_getitem.lookup hs (ld_glob I hg hm ?_ hd)
 refine thn (hb pins s σ H (fun v H1=>∃ z a,v=.str z/\(ts.find? fun p=>decide (p.1=z)).map (·.2)=some a/\Q (.ref a) H1) I ⟨φ,ρ,μ,_,A,M,k,fun d1 μ1 φ1 v1 H1 k1 f1 M1 i1=>?_⟩) fun u s1 hq1=>?_
 ·cases d1 with
  | str z =>
   cases(show v1=_ from i1)
   obtain⟨a,e,k1⟩:=k1
   exact⟨z,a,rfl,e,L _ μ1 φ1 _ H1 k1 f1 M1 rfl⟩
  | _=>exact k1.elim
 ·obtain⟨x,H1,I1,rx,z,a,rfl,e,q⟩:=hq1
  have dd:=T _ I1.kIn
  obtain⟨ob,_,_,eb,ex,_⟩:=id dd
  exact⟨⟨ob,eb,ex.1⟩,wpAny_getItem_of (kV_is (k:=Sum.inr z) rx) dd.mapOf (valueAt_tab e) ⟨.ref a,H1,I1.tok _,rfl,q⟩⟩
theorem tab_of {P:Program}{w:World}{K:PySem.W.Frag}{mg:Str->Option Value}{x:Str}{d:Addr}{n:Nat}{h:Heap}(es:List (Str×Nat×Addr))(X:K.In h)(G:h.Ns mainGlobals mg)(e:PySem.W.nsIn K mainGlobals x=some (some (.ref d)))
 (l:K.lookup d=some ⟨.type "dict",none,.dict ((es.map fun p=>enP w.params p.1 p.2.1 (.ref p.2.2)).toArray) n,#[]⟩) (nd:(es.map (·.1)).Nodup):Tab P w K mg x (es.map fun p=>(p.1,p.2.2)):=by
 refine⟨d,aP X G e,fun h' I=>⟨_,_,_,I _ _ l,⟨rfl,rfl,rfl⟩,rfl,?_,?_,?_⟩⟩
 ·intro y hy
  obtain⟨p,_,rfl⟩:=List.mem_map.mp (List.mem_toArray.mp hy)
  exact⟨Sum.inr p.1,keyIs_str p.1 p.2.1,rfl⟩
 ·clear l nd
  induction es with
  | nil=>exact .nil
  | cons p es ih=>exact .cons (keyIs_str p.1 p.2.1) rfl ih
 ·rw[aK,aK]
  show(List.map ((fun z:Str=>(Sum.inr z:Key)) ∘ fun p:Str×Nat×Addr=>p.1) es).Nodup
  rw[<- aK]
  exact nd.map (f:=fun z:Str=>(Sum.inr z:Key)) fun a b h z=>h (Sum.inr.inj z)
structure CalV (P:Program)(w:World)(K:PySem.W.Frag)(mg:Str->Option Value)(base:Heap)(T:List (Addr×DSpX))(k:Nat)(ps:List Str):Prop where
 ex:∀ p∈T,∃ fd,FnOk P w K mg base (CX1 P w) k p.1 fd ps (spX p.2)/\PySem.W.keepIn K (.ref p.1)=true/\Binds K fd ps []
def dCallV (φ0:List Addr)(H0:Hp)(Kx:DX)(T:List (Addr×DSpX))(i:Nat)(w:DA):De:=fun ρ μ K=>match ρ[i]? with
 | some (some (.fn a))=>∃ f,(a,f)∈T/\w ρ μ fun ds μ1=>μ1[0]?=some (.gx φ0 H0)/\f ds μ1 K Kx
 | _=>False
theorem d_callV {φ0:List Addr}{H0:Hp}{Kx:DX}{T:List (Addr×DSpX)}{i:Nat}{w:DA}{x:Str}{p:Pos}{k:Nat}{ps:List Str}(Z:Rz X φ0 H0 Kx)(CV:CalV X.prog X.w X.K X.mg X.base T k ps)(hr:Room k X.A)(hN:X.N[i]?=some x)(hv:Vis X.env.scope x)(ha:PDA X (e::es) w)
 (hdb:(x==("__debug__" : Str))=false:=by decide) (hcd:(x==("__classdict__" : Str))=false:=by decide) (he:starEach (e::es) X.env=(false,eval e X.env)::starEach es X.env:=by rfl) (hpl:(backTo pos (starEach es X.env)).any (·.1)=false:=by rfl) :
 PD X (.Call (.Name x p) (e::es) [] pos) (dCallV φ0 H0 Kx T i w):=by
 intro pins s σ H Q I hq
 obtain⟨φ,ρ,μ,K,A,M,k,L⟩:=hq
 obtain⟨E,LX,hp⟩:=Z.ex
 unfold dCallV at k
 split at k
 ·rename_i a ea
  obtain⟨f,hf,k⟩:=k
  obtain⟨v,ev,iv⟩:=A.2 i _ ea
  cases(show v=_ from iv)
  obtain⟨fd,F,hk,hb⟩:=CV.ex _ hf
  refine bE (thn (pe_var hN hv hdb hcd pins s σ H (fun u H1=>u=.ref a/\H1=H) I ⟨_,ev,rfl,rfl⟩) fun u s1 hq1=>?_)
  obtain⟨x1,H1,I1,r1,rfl,rfl⟩:=hq1
  cases r1
  refine cm (h₀:=X.base) I.ok.mod.kin hk (thn (ha pos pins s1 σ H1 (fun vs H2=>spX f vs H2 Q E) I1 ⟨φ,ρ,μ,_,A,M,k,fun ds μ1 φ1 vs H2 k1 f1 M1 i1=>?_⟩) fun us s2 hq2=>?_) he hpl
  ·exact⟨φ1,ds,μ1,K,Kx,i1,M1,k1.2,L.mono f1,LX.mono (M1.hist k1.1)⟩
  ·obtain⟨vs,H2,I2,r2,q2⟩:=hq2
   exact⟨I2.kIn,run_fn (dvs:=[]) F hr hb .nil hp I2 r2 (by rw[aZ];exact q2)⟩
 ·exact k.elim
end
section
variable {X:Cx}{a b c e o:Expr}{es:List Expr}{pos apos cpos:Pos}
def dSlT (w:De)(l h:DO):De:=fun ρ μ K=>w ρ μ fun x μ1=>l ρ μ1 fun lo μ2=>h ρ μ2 fun hi μ3=>match x with
 | .tup ds=>¬ (HT.sIx ds.length 0 lo=0/\HT.sIx ds.length ds.length hi=ds.length)/\K (.tup (cutD ds lo hi)) μ3
 | _=>False
theorem d_sliceT {lo hi:Option Expr}{w:De}{l h:DO}{p:Pos}(ha:PD X a w)(hl:PO X lo (tDO l))(hh:PO X hi (tDO h)):PD X (.Subscript a (.Slice lo hi none p) pos) (dSlT w l h):=(pe_slice sl_tup ha hl hh).imp fun σ H Q hq=>by
 obtain⟨φ,ρ,μ,K,A,M,k,L⟩:=hq
 refine⟨φ,ρ,μ,_,A,M,k,fun d μ1 φ1 v1 H1 k1 f1 M1 i1=>?_⟩
 refine⟨φ1,ρ,μ1,_,A.mono f1,M1,k1,fun lo μ2 φ2 H2 k2 f2 M2=>?_⟩
 refine⟨φ2,ρ,μ2,_,A.mono (f1.trans f2),M2,k2,fun hi μ3 φ3 H3 k3 f3 M3=>?_⟩
 have i3:=i1.mono (f2.trans f3)
 have L3:=L.mono (f1.trans (f2.trans f3))
 split at k3
 ·obtain⟨p,vs,rfl,_,hp,ha⟩:=i3
  exact⟨p,vs,rfl,SqT.of hp,by rw[ha.len];exact k3.1,fun l hl=>al_tup L3 M3 (ha.cut lo hi) k3.2 hl⟩
 ·exact k3.elim
def dInT (neg:Bool):DOp:=fun x y μ K=>match y with
 | .tup ds=>fltD x=true/\ds.all fltD=true/\K (.bl (neg != ds.any fun d=>deq d x)) μ
 | _=>False
theorem so_inT {neg:Bool}:SoOp (rInC neg) (dInT neg):=fun φ H x y dx dy μ K Q M hx hy k L=>by
 unfold dInT at k
 split at k
 ·obtain⟨f1,f2,k⟩:=k
  obtain⟨p,vs,rfl,_,hp,ha⟩:=hy
  obtain⟨a,b⟩:=flt_all hx f1 ha f2
  have fx:=flt_is hx f1
  have key:∃ xs,(H p=some (.lst xs)\/H p=some (.tup xs))/\flatV x=true/\xs.all flatV=true/\Q (.bl (neg != inV x xs)) H:=⟨vs,.inr hp,fx,a,by rw[b];exact L.val M k rfl⟩
  unfold rInC
  cases x <;> exact key
 ·exact k.elim
end
inductive Pt where
 | fst (b:List Nat) (a:Int)
 | jn (l r:Str) (p:Int)
structure RS where
 n:Int
 kept:List (Str×Pt)
 shut:List (Int×Unit)
inductive Dd where
 | put (nm b:Str) (a:Int) | join (nm l r:Str) (p:Int) | found (nm:Str) (bar:Int) (sg:Str) | aged (nm:Str) (a:Int) | drop (nm:Str) | free (p:Int) | shut (p:Int)
section
variable {α β:Type}[DecidableEq α]
def aget (l:List (α×β))(k:α):Option β:=(l.find? fun p=>decide (p.1=k)).map (·.2)
def aput (l:List (α×β))(k:α)(v:β):List (α×β):=if(l.any fun p=>decide (p.1=k))=true then l.map (fun p=>if p.1=k then(p.1,v)else p)else l++[(k,v)]
def adrop (l:List (α×β))(k:α):List (α×β):=l.filter fun p=>decide (p.1≠k)
theorem aget_cons {p:α×β}{l:List (α×β)}{k:α}:aget (p::l) k=if p.1=k then some p.2 else aget l k:=by
 unfold aget
 rw[bj]
 by_cases h:p.1=k
 ·rw[au h,ar h];rfl
 ·rw[ai h,aj h]
theorem aget_any {l:List (α×β)}{k:α}:(l.any fun p=>decide (p.1=k))=(aget l k).isSome:=by
 induction l with
 | nil=>rfl
 | cons p l ih =>
  rw[bN,aget_cons,ih]
  by_cases h:p.1=k
  ·rw[au h,ar h];rfl
  ·rw[ai h,aj h];rfl
theorem aget_mem {l:List (α×β)}{k:α}{v:β}(h:aget l k=some v):(k,v)∈l:=by
 induction l with
 | nil=>cases h
 | cons p l ih =>
  rw[aget_cons]at h
  by_cases q:p.1=k
  ·rw[ar q]at h;cases h
   rw[<- q];exact aC
  ·rw[aj q]at h;exact gxI _ (ih h)
theorem aget_some {l:List (α×β)}{k:α}:(aget l k).isSome=true↔k∈l.map (·.1):=by
 rw[<- aget_any,List.any_eq_true,List.mem_map]
 constructor
 ·rintro⟨p,hp,e⟩;exact⟨p,hp,cV e⟩
 ·rintro⟨p,hp,e⟩;exact⟨p,hp,au e⟩
theorem aget_of_mem {l:List (α×β)}{k:α}{v:β}(nd:(l.map (·.1)).Nodup)(h:(k,v)∈l):aget l k=some v:=by
 induction l with
 | nil=>cases h
 | cons p l ih =>
  rw[aq,List.nodup_cons]at nd
  rw[aget_cons]
  rcases List.mem_cons.mp h with q | q
  ·subst q;rw[ar rfl]
  ·rw[aj]
   ·exact ih nd.2 q
   ·intro e
    exact nd.1 (by rw[e];exact List.mem_map.mpr ⟨_,q,rfl⟩)
theorem aget_app {l m:List (α×β)}{k:α}:aget (l++m) k=(aget l k).or (aget m k):=by
 induction l with
 | nil=>rfl
 | cons p l ih =>
  rw[List.cons_append,aget_cons,aget_cons,ih]
  by_cases q:p.1=k
  ·rw[ar q,ar q];rfl
  ·rw[aj q,aj q]
theorem aput_keys {l:List (α×β)}{k:α}{v:β}:(aput l k v).map (·.1)=if k∈l.map (·.1)then l.map (·.1)else l.map (·.1)++[k]:=by
 unfold aput
 have e:((l.any fun p=>decide (p.1=k))=true)↔k∈l.map (·.1):=by rw[aget_any];exact aget_some
 by_cases h:k∈l.map (·.1)
 ·rw[ar (e.mpr h),ar h,aK]
  refine cf fun p _=>?_
  simp only[Function.comp]
  split <;> rfl
 ·rw[aj (fun z=>h (e.mp z)),aj h,aS];rfl
theorem aget_put {l:List (α×β)}{k j:α}{v:β}:aget (aput l k v) j=if j=k then some v else aget l j:=by
 unfold aput
 split
 ·rename_i h
  induction l with
  | nil=>cases h
  | cons p l ih =>
   rw[aq,aget_cons,aget_cons]
   by_cases q:p.1=k
   ·rw[ar q]
    by_cases z:j=k
    ·rw[ar z,ar (by show p.1=j;rw[q,z])]
    ·rw[aj z,aj (show ¬ p.1=j from fun y=>z (by rw[<- y,q])),aj (fun y=>z (by rw[<- y,q]))]
     clear ih h
     induction l with
     | nil=>rfl
     | cons r l ih =>
      rw[aq,aget_cons,aget_cons,ih]
      by_cases y:r.1=k
      ·rw[ar y,aj (show ¬ r.1=j from fun x=>z (by rw[<- x,y])),aj (fun x=>z (by rw[<- x,y]))]
      ·rw[aj y]
   ·rw[aj q]
    have h':(l.any fun p=>decide (p.1=k))=true:=by
     rw[bN,ai q]at h;exact h
    rw[ih h']
    by_cases z:j=k
    ·rw[ar z,aj (fun y=>q (by rw[y,z])),ar z]
    ·rw[aj z,aj z]
 ·rename_i h
  rw[aget_app]
  have hn:aget l k=none:=by
   cases e:aget l k with
   | none=>rfl
   | some x=>exact absurd (by rw[aget_any,e];rfl) h
  by_cases z:j=k
  ·subst z;rw[ar rfl,hn,aget_cons,ar rfl];rfl
  ·rw[aj z,aget_cons,aj (fun y=>z y.symm)]
   cases aget l j <;> rfl
theorem aget_drop {l:List (α×β)}{k j:α}(h:j≠k):aget (adrop l k) j=aget l j:=by
 unfold adrop
 induction l with
 | nil=>rfl
 | cons p l ih =>
  rw[bM,aget_cons]
  by_cases q:p.1=k
  ·rw[aj (by simp[q]),ih,aj (fun y=>h (by rw[<- y,q]))]
  ·rw[ar (by simp[q]),aget_cons,ih]
end
def skey (z:Str):Key:=Sum.inr z
def ikey (i:Int):Key:=Sum.inl i
theorem skey_inj:∀ a b,skey a=skey b->a=b:=fun _ _ h=>Sum.inr.inj h
theorem ikey_inj:∀ a b,ikey a=ikey b->a=b:=fun _ _ h=>Sum.inl.inj h
def dcG {α β:Type}(κ:α->Key)(f:β->D)(l:List (α×β)):D:=.fdc (l.map fun p=>κ p.1) (l.map fun p=>f p.2)
theorem zip_map2 {α β γ:Type}(f:α->β)(g:α->γ):∀ l:List α,(l.map f).zip (l.map g)=l.map fun a=>(f a,g a)
 | []=>rfl
 | a::l=>by rw[aq,aq,cP,zip_map2 f g l];rfl
section
variable {α β:Type}[DecidableEq α]{κ:α->Key}(hi:∀ a b,κ a=κ b->a=b)(f:β->D)
include hi
theorem dval_k (k:α):∀ l:List (α×β),dval (l.map fun p=>(κ p.1,f p.2)) (κ k)=(aget l k).map f
 | []=>rfl
 | p::l=>by
  have ih:=dval_k k l
  rw[aget_cons]
  unfold dval at ih ⊢
  rw[aq,bj]
  by_cases h:p.1=k
  ·rw[show decide ((κ p.1,f p.2).1=κ k)=true from au (by rw[h]),ar h];rfl
  ·rw[show decide ((κ p.1,f p.2).1=κ k)=false from ai fun z=>h (hi _ _ z),aj h];exact ih
theorem dput_k (k:α)(v:β)(l:List (α×β)):dput (l.map fun p=>(κ p.1,f p.2)) (κ k) (f v)=(aput l k v).map fun p=>(κ p.1,f p.2):=by
 have e:((l.map fun p=>(κ p.1,f p.2)).any fun kv=>decide (kv.1=κ k))=l.any fun p=>decide (p.1=k):=by
  rw[List.any_map]
  congr 1
  funext p
  show decide (κ p.1=κ k)=_
  by_cases h:p.1=k
  ·rw[au h,au (by rw[h])]
  ·rw[ai h,ai (fun z=>h (hi _ _ z))]
 unfold dput aput
 rw[e]
 split
 ·rw[aK,aK]
  refine cf fun p _=>?_
  show(if κ p.1=κ k then(κ p.1,f v)else(κ p.1,f p.2))=_
  simp only[Function.comp]
  by_cases h:p.1=k
  ·rw[ar h,ar (by rw[h])]
  ·rw[aj h,aj (fun z=>h (hi _ _ z))]
 ·rw[aS];rfl
theorem dropF_k (k:α)(l:List (α×β)):((l.map fun p=>(κ p.1,f p.2)).filter fun p=>decide (p.1≠κ k))=(adrop l k).map fun p=>(κ p.1,f p.2):=by
 unfold adrop
 rw[List.filter_map]
 congr 1
 refine List.filter_congr fun p _=>?_
 show decide (κ p.1≠κ k)=_
 by_cases h:p.1=k
 ·rw[ai (by simp[h]),ai (by simp[h])]
 ·rw[au (show κ p.1≠κ k from fun z=>h (hi _ _ z)),au h]
theorem ixF_k {d:D}(k:α)(l:List (α×β))(hd:keyD d=some (κ k)):ixF (l.map fun p=>κ p.1) (l.map fun p=>f p.2) d=some ((aget l k).map f):=by
 unfold ixF
 rw[hd]
 show some (dval _ (κ k))=_
 rw[zip_map2,dval_k hi]
theorem ixM_k {d:D}(k:α)(l:List (α×β))(hd:keyD d=some (κ k)){μ:MS}{j:Nat}(h:dicM μ j=some (l.map (fun p=>κ p.1),l.map fun p=>f p.2)):ixM μ j d=some ((aget l k).map f):=by
 unfold ixM
 rw[h]
 show(keyD d).map _=_
 rw[hd]
 show some (dval _ (κ k))=_
 rw[zip_map2,dval_k hi]
end
def evF {γ:Type}(gf:Str->List Nat->Int->γ)(gj:γ->γ->Int->γ)(z:γ)(kept:List (Str×Pt)):Nat->Str->γ
 | 0,_=>z
 | f+1,nm=>match aget kept nm with
  | some (.fst b a)=>gf nm b a
  | some (.jn l r p)=>gj (evF gf gj z kept f l) (evF gf gj z kept f r) p
  | none=>z
def idxN (kept:List (Str×Pt))(nm:Str):Nat:=(kept.map (·.1)).idxOf nm
structure Kpt (kept:List (Str×Pt)):Prop where
 nd:(kept.map (·.1)).Nodup
 low:∀ nm l r p,aget kept nm=some (.jn l r p)->idxN kept l<idxN kept nm/\idxN kept r<idxN kept nm
theorem idx_in {kept:List (Str×Pt)}{nm:Str}:idxN kept nm<kept.length↔nm∈kept.map (·.1):=by
 unfold idxN
 rw[show kept.length=(kept.map (·.1)).length from(gxC _).symm]
 exact List.idxOf_lt_length_iff
theorem Kpt.there {kept:List (Str×Pt)}(h:Kpt kept){nm l r:Str}{p:Int}(e:aget kept nm=some (.jn l r p)):(∃ x,aget kept l=some x)/\∃ x,aget kept r=some x:=by
 have hn:idxN kept nm<kept.length:=idx_in.mpr (aget_some.mp (by rw[e];rfl))
 obtain⟨h1,h2⟩:=h.low nm l r p e
 exact⟨Option.isSome_iff_exists.mp (aget_some.mpr (idx_in.mp (by omega))),Option.isSome_iff_exists.mp (aget_some.mpr (idx_in.mp (by omega)))⟩
section
variable {γ:Type}{gf:Str->List Nat->Int->γ}{gj:γ->γ->Int->γ}{z:γ}{kept:List (Str×Pt)}
theorem evF_more (h:Kpt kept):∀(f:Nat) (nm:Str),idxN kept nm<f->f<=kept.length->evF gf gj z kept f nm=evF gf gj z kept kept.length nm:=by
 have key:∀(i f g:Nat) (nm:Str),idxN kept nm=i->i<f->i<g->evF gf gj z kept f nm=evF gf gj z kept g nm:=by
  intro i
  induction i using Nat.strongRecOn with
  | ind i ih =>
   intro f g nm hi hf hg
   obtain⟨f,rfl⟩:∃ f',f=f'+1:=⟨f - 1,by omega⟩
   obtain⟨g,rfl⟩:∃ g',g=g'+1:=⟨g - 1,by omega⟩
   unfold evF
   cases e:aget kept nm with
   | none=>rfl
   | some x =>
    cases x with
    | fst b a=>rfl
    | jn l r p =>
     obtain⟨h1,h2⟩:=h.low nm l r p e
     dsimp only
     rw[ih _ (by omega) f g l rfl (by omega) (by omega),ih _ (by omega) f g r rfl (by omega) (by omega)]
 intro f nm h1 h2
 exact key _ f kept.length nm rfl h1 (by omega)
def ev (gf:Str->List Nat->Int->γ)(gj:γ->γ->Int->γ)(z:γ)(kept:List (Str×Pt))(nm:Str):γ:=evF gf gj z kept kept.length nm
theorem ev_fst {nm:Str}{b:List Nat}{a:Int}(e:aget kept nm=some (.fst b a)):ev gf gj z kept nm=gf nm b a:=by
 have hn:idxN kept nm<kept.length:=idx_in.mpr (aget_some.mp (by rw[e];rfl))
 unfold ev
 obtain⟨m,hm⟩:∃ m,kept.length=m+1:=⟨kept.length - 1,by omega⟩
 rw[hm]
 unfold evF
 rw[e]
theorem ev_jn (h:Kpt kept){nm l r:Str}{p:Int}(e:aget kept nm=some (.jn l r p)):ev gf gj z kept nm=gj (ev gf gj z kept l) (ev gf gj z kept r) p:=by
 have hn:idxN kept nm<kept.length:=idx_in.mpr (aget_some.mp (by rw[e];rfl))
 obtain⟨h1,h2⟩:=h.low nm l r p e
 obtain⟨m,hm⟩:∃ m,kept.length=m+1:=⟨kept.length - 1,by omega⟩
 have e1:=evF_more (gf:=gf) (gj:=gj) (z:=z) h m l (by omega) (by omega)
 have e2:=evF_more (gf:=gf) (gj:=gj) (z:=z) h m r (by omega) (by omega)
 have e3:evF gf gj z kept (m+1) nm=gj (evF gf gj z kept m l) (evF gf gj z kept m r) p:=by
  conv=>lhs;unfold evF
  rw[e]
 unfold ev
 rw[<- e1,<- e2,<- e3,<- hm]
theorem ev_ind (h:Kpt kept)(P:Str->Prop)(hf:∀ nm b a,aget kept nm=some (.fst b a)->P nm)(hj:∀ nm l r p,aget kept nm=some (.jn l r p)->P l->P r->P nm):∀ nm x,aget kept nm=some x->P nm:=by
 have key:∀(i:Nat) (nm:Str) (x:Pt),idxN kept nm=i->aget kept nm=some x->P nm:=by
  intro i
  induction i using Nat.strongRecOn with
  | ind i ih =>
   intro nm x hi e
   cases x with
   | fst b a=>exact hf nm b a e
   | jn l r p =>
    obtain⟨h1,h2⟩:=h.low nm l r p e
    obtain⟨⟨y,ey⟩,⟨w,ew⟩⟩:=h.there e
    exact hj nm l r p e (ih _ (by omega) l y rfl ey) (ih _ (by omega) r w rfl ew)
 exact fun nm x e=>key _ nm x rfl e
end
def tkOf (kept:List (Str×Pt))(nm:Str):List Nat×Int:=ev (fun _ b a=>(b,a)) (fun x y p=>(jnT x.1 y.1 p,max x.2 y.2+1)) ([],0) kept nm
def srcOf (kept:List (Str×Pt))(nm:Str):Int->Str×Nat:=ev (fun nm _ _ _=>(nm,0)) (fun x y p bar=>if bar<p then((x bar).1,(x bar).2+1)else((y bar).1,(y bar).2+1)) (fun _=>("",0)) kept nm
def namedB (z:Str):Bool:=decide (1<=z.length)&&decide (z.length<=8)&&z.cps.toList.all fun c=>decide (97<=c)&&decide (c<=122)
def oxB (z:Str):Bool:=z.cps.toList.all fun c=>decide (c=111)||decide (c=120)
def hasN (S:RS)(nm:Str):Bool:=(aget S.kept nm).isSome
def isNeed (nm:Str):Pt->Bool
 | .fst _ _=>false
 | .jn l r _=>decide (l=nm)||decide (r=nm)
def needN (S:RS)(nm:Str):Bool:=S.kept.any fun p=>isNeed nm p.2
def newW (S:RS)(nm:Str):Option Nat:=if namedB nm=false then some 4 else if hasN S nm=true then some 9 else if 20<=S.kept.length then some 10 else none
def placeW (S:RS)(p:Int):Option Nat:=if 1<=p/\p<S.n then none else some 7
def ageW (a:Int):Option Nat:=if 0<=a/\a<=20 then none else some 5
def refW (S:RS):Dd->Option Nat
 | .put nm b a=>(newW S nm).or (if((b.length:Nat):Int)=S.n/\oxB b=true then ageW a else some 0)
 | .join nm l r p=>(newW S nm).or (if hasN S l=false then some 11 else if hasN S r=false then some 11 else(placeW S p).or (if(aget S.shut p).isSome=true then some 12 else none))
 | .found nm bar sg=>if hasN S nm=false then some 11 else if 0<=bar/\bar<S.n then(if sg = "o"\/sg = "x" then none else some 0)else some 6
 | .aged nm a=>match aget S.kept nm with
  | none=>some 11
  | some (.jn _ _ _)=>some 13
  | some (.fst _ _)=>ageW a
 | .drop nm=>if hasN S nm=false then some 11 else if needN S nm=true then some 14 else none
 | .free p=>placeW S p
 | .shut p=>placeW S p
def hearB (b:List Nat)(bar:Int)(sg:Str):List Nat:=b.take bar.toNat++(sg.cps.toList++b.drop (bar.toNat+1))
def hear (kept:List (Str×Pt))(nm:Str)(bar:Int)(sg:Str):List (Str×Pt):=match aget kept nm with
 | some (.fst b a)=>aput kept nm (.fst (hearB b bar sg) a)
 | _=>kept
def doD (S:RS):Dd->RS
 | .put nm b a=>{ S with kept:=aput S.kept nm (.fst b.cps.toList a)}
 | .join nm l r p=>{ S with kept:=aput S.kept nm (.jn l r p)}
 | .found nm bar sg=>{ S with kept:=hear S.kept (srcOf S.kept nm bar).1 bar sg}
 | .aged nm a=>match aget S.kept nm with
  | some (.fst b _)=>{ S with kept:=aput S.kept nm (.fst b a)}
  | _=>S
 | .drop nm=>{ S with kept:=adrop S.kept nm}
 | .free p=>{ S with shut:=adrop S.shut p}
 | .shut p=>{ S with shut:=aput S.shut p ()}
structure RWf (S:RS)(m:Nat):Prop where
 n1:1<=S.n
 n2:S.n<=40
 kp:Kpt S.kept
 few:S.kept.length<=20
 fs:∀ nm b a,aget S.kept nm=some (.fst b a)->(b.length:Int)=S.n/\OX b/\0<=a/\a<=20
 js:∀ nm l r p,aget S.kept nm=some (.jn l r p)->1<=p/\p<S.n
 nms:∀ p∈S.kept,namedB p.1=true
 shl:S.shut.length<=m
 shn:(S.shut.map (·.1)).Nodup
theorem idx_app {l:List (Str×Pt)}{x:Str×Pt}{nm:Str}(h:nm∈l.map (·.1)):idxN (l++[x]) nm=idxN l nm:=by
 unfold idxN
 rw[aS,c4,ar h]
theorem idx_new {l:List (Str×Pt)}{x:Str×Pt}(h:x.1∉l.map (·.1)):idxN (l++[x]) x.1=l.length:=by
 unfold idxN
 rw[aS,c4,aj h,aq,bB,show(x.1==x.1)=true from cz _,gxC]
 simp
theorem idx_filter {p:Str->Bool}{a b:Str}:∀ {l:List Str},p a=true->p b=true->l.idxOf a<l.idxOf b->(l.filter p).idxOf a<(l.filter p).idxOf b
 | [],_,_,h=>by simp at h
 | x::t,ha,hb,h=>by
  by_cases e1:x=a
  ·subst e1
   have e2:¬ x=b:=fun e2=>by subst e2;exact absurd h (bu _)
   rw[bM,ar ha,bB,bB,show(x==x)=true from cz _,show(x==b)=false from cu e2]
   simp
  ·have e2:¬ x=b:=fun e2=>by
    subst e2
    rw[bB,bB,show(x==x)=true from cz _]at h
    simp at h
   rw[bB,bB,show(x==a)=false from cu e1,show(x==b)=false from cu e2]at h
   have h':t.idxOf a<t.idxOf b:=by simpa using h
   have ih:=idx_filter ha hb h'
   rw[bM]
   split
   ·rw[bB,bB,show(x==a)=false from cu e1,show(x==b)=false from cu e2]
    simpa using ih
   ·exact ih
theorem Kpt.push {l:List (Str×Pt)}(h:Kpt l){nm:Str}{x:Pt}(hn:nm∉l.map (·.1))(hx:∀ a b p,x=.jn a b p->a∈l.map (·.1)/\b∈l.map (·.1)):Kpt (l++[(nm,x)]):=by
 refine⟨?_,fun z a b p e=>?_⟩
 ·rw[aS,bI]
  exact⟨h.nd,by simp,fun a ha b hb e=>by rw[aq,List.map_nil,List.mem_singleton]at hb;have hb:b=nm:=hb;exact hn (by rw[<- hb,<- e];exact ha)⟩
 ·rw[aget_app]at e
  cases q:aget l z with
  | some y =>
   rw[q]at e
   cases e
   obtain⟨h1,h2⟩:=h.low z a b p q
   have hz:=aget_some.mp (show(aget l z).isSome=true by rw[q];rfl)
   obtain⟨⟨y1,e1⟩,⟨y2,e2⟩⟩:=h.there q
   rw[idx_app hz,idx_app (aget_some.mp (by rw[e1];rfl)),idx_app (aget_some.mp (by rw[e2];rfl))]
   exact⟨h1,h2⟩
  | none =>
   rw[q]at e
   have e':aget [(nm,x)] z=some (.jn a b p):=e
   rw[aget_cons]at e'
   split at e'
   ·rename_i y
    have y:nm=z:=y
    subst y
    have e3:x=.jn a b p:=aI e'
    obtain⟨h1,h2⟩:=hx a b p e3
    have en:=idx_new (x:=(nm,x)) hn
    rw[show idxN (l++[(nm,x)]) nm=l.length from en,idx_app h1,idx_app h2]
    exact⟨idx_in.mpr h1,idx_in.mpr h2⟩
   ·cases e'
theorem Kpt.same {l l':List (Str×Pt)}(h:Kpt l)(hk:l'.map (·.1)=l.map (·.1))(hx:∀ z a b p,aget l' z=some (.jn a b p)->aget l z=some (.jn a b p)):Kpt l':=by
 refine⟨by rw[hk];exact h.nd,fun z a b p e=>?_⟩
 unfold idxN
 rw[hk]
 exact h.low z a b p (hx z a b p e)
theorem Kpt.drop {l:List (Str×Pt)}(h:Kpt l){nm:Str}(hx:∀ z a b p,aget l z=some (.jn a b p)->a≠nm/\b≠nm):Kpt (adrop l nm):=by
 have hk:(adrop l nm).map (·.1)=(l.map (·.1)).filter fun z=>decide (z≠nm):=by
  unfold adrop
  rw[List.filter_map]
  rfl
 refine⟨by rw[hk];exact h.nd.sublist (List.filter_sublist),fun z a b p e=>?_⟩
 have hz:z≠nm:=fun y=>by
  subst y
  have:=aget_mem e
  unfold adrop at this
  rw[List.mem_filter]at this
  simpa using this.2
 rw[aget_drop hz]at e
 obtain⟨h1,h2⟩:=h.low z a b p e
 obtain⟨n1,n2⟩:=hx z a b p e
 unfold idxN at h1 h2 ⊢
 rw[hk]
 exact⟨idx_filter (au n1) (au hz) h1,idx_filter (au n2) (au hz) h2⟩
theorem aput_new {α β:Type}[DecidableEq α]{l:List (α×β)}{k:α}{v:β}(h:aget l k=none):aput l k v=l++[(k,v)]:=by
 unfold aput
 rw[aj]
 rw[aget_any,h]
 exact av
theorem aput_len {α β:Type}[DecidableEq α]{l:List (α×β)}{k:α}{v:β}:(aput l k v).length<=l.length+1:=by
 unfold aput
 split
 ·rw[gxC];omega
 ·rw[gxE,aN];exact aa _
theorem aput_old {α β:Type}[DecidableEq α]{l:List (α×β)}{k:α}{v x:β}(h:aget l k=some x):(aput l k v).map (·.1)=l.map (·.1)/\(aput l k v).length=l.length:=by
 have:k∈l.map (·.1):=aget_some.mp (by rw[h];rfl)
 have e:=aput_keys (l:=l) (k:=k) (v:=v)
 rw[ar this]at e
 exact⟨e,by have:=bO List.length e;rwa [gxC,gxC]at this⟩
theorem hasN_no {S:RS}{nm:Str}(h:hasN S nm=false):aget S.kept nm=none:=by
 unfold hasN at h
 cases e:aget S.kept nm with
 | none=>rfl
 | some x=>rw[e]at h;cases h
theorem hasN_yes {S:RS}{nm:Str}(h:¬ hasN S nm=false):∃ x,aget S.kept nm=some x:=by
 unfold hasN at h
 cases e:aget S.kept nm with
 | none=>rw[e]at h;exact absurd rfl h
 | some x=>exact⟨x,rfl⟩
theorem newW_none {S:RS}{nm:Str}(h:newW S nm=none):namedB nm=true/\aget S.kept nm=none/\S.kept.length<20:=by
 unfold newW at h
 split at h
 ·cases h
 ·rename_i h1
  split at h
  ·cases h
  ·rename_i h2
   split at h
   ·cases h
   ·rename_i h3
    exact⟨by cases e:namedB nm with | true=>rfl | false=>exact absurd e h1,hasN_no (by cases e:hasN S nm with | false=>rfl | true=>exact absurd e h2),by omega⟩
theorem or_none {α:Type}{a b:Option α}(h:a.or b=none):a=none/\b=none:=by
 cases a with
 | none=>exact⟨rfl,h⟩
 | some x=>cases h
theorem placeW_none {S:RS}{p:Int}(h:placeW S p=none):1<=p/\p<S.n:=by
 unfold placeW at h
 split at h
 ·assumption
 ·cases h
theorem ageW_none {a:Int}(h:ageW a=none):0<=a/\a<=20:=by
 unfold ageW at h
 split at h
 ·assumption
 ·cases h
theorem oxB_ox {z:Str}(h:oxB z=true):OX z.cps.toList:=fun c hc=>by
 have:=List.all_eq_true.mp h c hc
 rcases Bool.or_eq_true_iff.mp this with q | q
 ·exact .inl (cV q)
 ·exact .inr (cV q)
theorem src_fst {kept:List (Str×Pt)}(h:Kpt kept)(bar:Int):∀ nm x,aget kept nm=some x->∃ b a,aget kept (srcOf kept nm bar).1=some (.fst b a):=by
 refine ev_ind h (fun nm=>∃ b a,aget kept (srcOf kept nm bar).1=some (.fst b a)) (fun nm b a e=>?_) (fun nm l r p e h1 h2=>?_)
 ·unfold srcOf;rw[ev_fst e];exact⟨b,a,e⟩
 ·unfold srcOf
  rw[ev_jn h e]
  show ∃ b a,aget kept (if bar<p then _ else _:Str×Nat).1=_
  split
  ·exact h1
  ·exact h2
theorem hearB_len {b:List Nat}{bar n:Int}{sg:Str}(hb:(b.length:Int)=n)(h0:0<=bar)(h1:bar<n)(hs:sg.cps.toList.length=1):((hearB b bar sg).length:Int)=n:=by
 unfold hearB
 rw[gxE,gxE,bp,bR,hs]
 omega
theorem hearB_ox {b:List Nat}{bar:Int}{sg:Str}(hb:OX b)(hs:OX sg.cps.toList):OX (hearB b bar sg):=fun c hc=>by
 unfold hearB at hc
 rcases List.mem_append.mp hc with q | q
 ·exact hb c (aM q)
 ·rcases List.mem_append.mp q with q | q
  ·exact hs c q
  ·exact hb c (List.mem_of_mem_drop q)
theorem sgn_ox {sg:Str}(h:sg = "o"\/sg = "x"):OX sg.cps.toList/\sg.cps.toList.length=1:=by
 rcases h with rfl | rfl
 ·exact⟨OX.of (by decide +kernel),rfl⟩
 ·exact⟨OX.of (by decide +kernel),rfl⟩
theorem RWf.again {S:RS}{m:Nat}(h:RWf S m){nm:Str}{b b':List Nat}{a a':Int}(e:aget S.kept nm=some (.fst b a))(hb:(b'.length:Int)=S.n)(ho:OX b')(h0:0<=a')(h1:a'<=20):RWf { S with kept:=aput S.kept nm (.fst b' a')} (m+1):=by
 obtain⟨k1,k2⟩:=aput_old (v:=Pt.fst b' a') e
 refine⟨h.n1,h.n2,h.kp.same k1 fun z a b p q=>?_,by show(aput _ _ _).length<=20;rw[k2];exact h.few,fun z b a q=>?_,fun z l r p q=>?_,fun p hp=>?_,bP h.shl,h.shn⟩
 ·rw[aget_put]at q;split at q
  ·cases q
  ·exact q
 ·have q:aget (aput S.kept nm (.fst b' a')) z=some (.fst b a):=q
  rw[aget_put]at q;split at q
  ·cases q;exact⟨hb,ho,h0,h1⟩
  ·exact h.fs z b a q
 ·have q:aget (aput S.kept nm (.fst b' a')) z=some (.jn l r p):=q
  rw[aget_put]at q;split at q
  ·cases q
  ·exact h.js z l r p q
 ·have:p.1∈(aput S.kept nm (.fst b' a')).map (·.1):=List.mem_map.mpr ⟨p,hp,rfl⟩
  rw[k1]at this
  obtain⟨q,hq,e2⟩:=List.mem_map.mp this
  rw[<- e2];exact h.nms q hq
theorem RWf.more {S:RS}{m:Nat}(h:RWf S m){nm:Str}{x:Pt}(hn:newW S nm=none)(hx:∀ a b p,x=.jn a b p->(∃ y,aget S.kept a=some y)/\(∃ y,aget S.kept b=some y)/\1<=p/\p<S.n)(hf:∀ b a,x=.fst b a->(b.length:Int)=S.n/\OX b/\0<=a/\a<=20):RWf { S with kept:=aput S.kept nm x} (m+1):=by
 obtain⟨n1,n2,n3⟩:=newW_none hn
 have e:=aput_new (v:=x) n2
 rw[e]
 have nin:nm∉S.kept.map (·.1):=fun z=>by have:=aget_some.mpr z;rw[n2]at this;cases this
 have get:∀ z y,aget (S.kept++[(nm,x)]) z=some y->aget S.kept z=some y\/(z=nm/\y=x):=fun z y q=>by
  rw[<- e,aget_put]at q
  split at q
  ·rename_i w;exact .inr ⟨w,(aI q).symm⟩
  ·exact .inl q
 refine⟨h.n1,h.n2,h.kp.push nin fun a b p q=>?_,by show(S.kept++[(nm,x)]).length<=20;rw[gxE,aN];omega,fun z b a q=>?_,fun z l r p q=>?_,fun p hp=>?_,bP h.shl,h.shn⟩
 ·obtain⟨⟨y,e1⟩,⟨w,e2⟩,_⟩:=hx a b p q
  exact⟨aget_some.mp (by rw[e1];rfl),aget_some.mp (by rw[e2];rfl)⟩
 ·rcases get z _ q with q | ⟨_,q⟩
  ·exact h.fs z b a q
  ·exact hf b a q.symm
 ·rcases get z _ q with q | ⟨_,q⟩
  ·exact h.js z l r p q
  ·exact(hx l r p q.symm).2.2
 ·rcases List.mem_append.mp hp with q | q
  ·exact h.nms p q
  ·rw[List.mem_singleton.mp q];exact n1
theorem RWf.do {S:RS}{m:Nat}{d:Dd}(h:RWf S m)(hr:refW S d=none):RWf (doD S d) (m+1):=by
 cases d with
 | put nm b a =>
  obtain⟨h1,h2⟩:=or_none hr
  split at h2
  ·rename_i q
   obtain⟨a0,a1⟩:=ageW_none h2
   exact h.more h1 (fun _ _ _ e=>by cases e) fun b' a' e=>by cases e;exact⟨q.1,oxB_ox q.2,a0,a1⟩
  ·cases h2
 | join nm l r p =>
  obtain⟨h1,h2⟩:=or_none hr
  split at h2
  ·cases h2
  ·rename_i q1
   split at h2
   ·cases h2
   ·rename_i q2
    obtain⟨h3,_⟩:=or_none h2
    obtain⟨p1,p2⟩:=placeW_none h3
    exact h.more h1 (fun a b p' e=>by cases e;exact⟨hasN_yes q1,hasN_yes q2,p1,p2⟩) fun _ _ e=>by cases e
 | found nm bar sg =>
  have hr:(if hasN S nm=false then some 11 else if 0<=bar/\bar<S.n then(if sg = "o"\/sg = "x" then none else some 0)else some 6)=(none:Option Nat):=hr
  split at hr
  ·cases hr
  ·rename_i q1
   split at hr
   ·rename_i q2
    split at hr
    ·rename_i q3
     obtain⟨x,ex⟩:=hasN_yes q1
     obtain⟨b,a,e⟩:=src_fst h.kp bar nm x ex
     obtain⟨f1,f2,f3,f4⟩:=h.fs _ b a e
     obtain⟨o1,o2⟩:=sgn_ox q3
     have:=h.again e (hearB_len f1 q2.1 q2.2 o2) (hearB_ox (bar:=bar) f2 o1) f3 f4
     unfold doD hear
     dsimp only
     rw[e]
     exact this
    ·cases hr
   ·cases hr
 | aged nm a =>
  have hr:(match aget S.kept nm with | none=>some 11 | some (.jn _ _ _)=>some 13 | some (.fst _ _)=>ageW a)=(none:Option Nat):=hr
  show RWf (match aget S.kept nm with | some (.fst b _)=>{ S with kept:=aput S.kept nm (.fst b a)} | _=>S) _
  cases e:aget S.kept nm with
  | none=>rw[e]at hr;cases hr
  | some x =>
   rw[e]at hr
   cases x with
   | jn l r p=>cases hr
   | fst b a0 =>
    obtain⟨a1,a2⟩:=ageW_none hr
    obtain⟨f1,f2,_⟩:=h.fs nm b a0 e
    exact h.again e f1 f2 a1 a2
 | drop nm =>
  have hr:(if hasN S nm=false then some 11 else if needN S nm=true then some 14 else none)=(none:Option Nat):=hr
  split at hr
  ·cases hr
  ·split at hr
   ·cases hr
   ·rename_i q
    have hx:∀ z a b p,aget S.kept z=some (.jn a b p)->a≠nm/\b≠nm:=fun z a b p e=>by
     have nq:¬ isNeed nm (.jn a b p)=true:=fun y=>q (List.any_eq_true.mpr ⟨_,aget_mem e,y⟩)
     exact⟨fun y=>nq (by show(decide (a=nm)||decide (b=nm))=true;rw[au y];rfl),fun y=>nq (by show(decide (a=nm)||decide (b=nm))=true;rw[au y,Bool.or_true])⟩
    have get:∀ z y,aget (adrop S.kept nm) z=some y->aget S.kept z=some y:=fun z y e=>by
     by_cases hz:z=nm
     ·subst hz
      have:=aget_mem e
      unfold adrop at this
      rw[List.mem_filter]at this
      exact absurd this.2 (by simp)
     ·rw[aget_drop hz]at e;exact e
    refine⟨h.n1,h.n2,h.kp.drop hx,aB (List.length_filter_le _ _) h.few,fun z b a e=>h.fs z b a (get z _ e),fun z l r p e=>h.js z l r p (get z _ e),fun p hp=>h.nms p (List.mem_filter.mp hp).1,bP h.shl,h.shn⟩
 | free p=>exact⟨h.n1,h.n2,h.kp,h.few,h.fs,h.js,h.nms,bP (aB (List.length_filter_le _ _) h.shl),h.shn.sublist (List.Sublist.map _ List.filter_sublist)⟩
 | shut p=>exact⟨h.n1,h.n2,h.kp,h.few,h.fs,h.js,h.nms,aB aput_len (Nat.succ_le_succ h.shl),by
  show((aput S.shut p ()).map (·.1)).Nodup
  rw[aput_keys]
  split
  ·exact h.shn
  ·rename_i q
   rw[bI]
   exact⟨h.shn,by simp,fun a ha b hb e=>q (by rw[<- List.mem_singleton.mp hb,<- e];exact ha)⟩⟩
def ptD:Pt->D
 | .fst _ _=>.non
 | .jn l r p=>.tup [.str l,.str r,.int p]
def fstOf:Str×Pt->Option (Str×Tk)
 | (nm,.fst b a)=>some (nm,(b,a))
 | (_,.jn _ _ _)=>none
def firsts (kept:List (Str×Pt)):List (Str×Tk):=kept.filterMap fstOf
def shD (sh:List (Int×Unit)):D:=dcG ikey (fun _=>.bl true) sh
def sdN:List Str:=["length", "made_of", "firsts", "closed"]
def sdD (cS:Addr)(S:RS):D:=.obj cS sdN [.int S.n,dcG skey ptD S.kept,dcG skey tkD (firsts S.kept),shD S.shut]
def ddD:Dd->D
 | .put nm b a=>.tup [.str "put",.str nm,.str b,.int a]
 | .join nm l r p=>.tup [.str "join",.str nm,.str l,.str r,.int p]
 | .found nm bar sg=>.tup [.str "found",.str nm,.int bar,.str sg]
 | .aged nm a=>.tup [.str "aged",.str nm,.int a]
 | .drop nm=>.tup [.str "drop",.str nm]
 | .free p=>.tup [.str "free",.int p]
 | .shut p=>.tup [.str "shut",.int p]
def ddW:Dd->Nat
 | .put _ _ _=>0 | .join _ _ _ _=>1 | .found _ _ _=>2 | .aged _ _=>3 | .drop _=>4 | .free _=>5 | .shut _=>6
def ddOk:Dd->Prop
 | .put nm b _=>nm.length<=1000/\b.length<=1000
 | .join nm _ _ _=>nm.length<=1000
 | _=>True
def orX (cs:List Addr)(K:DK)(Kx:DX)(o:Option Nat)(d:D)(μ:MS):Prop:=match o with
 | some i=>Kx (.ref (cs.getD i 0)) μ
 | none=>K d μ
def fWith:DSp:=fun ds μ K=>match ds with
 | [.fdc ks es,y,v]=>∃(kd:List (Key×D)) (k:Key),ks=kd.map (·.1)/\es=kd.map (·.2)/\kd.length<=100000/\keyD y=some k/\K (.fdc ((dput kd k v).map (·.1)) ((dput kd k v).map (·.2))) μ
 | _=>False
def fWithout:DSp:=fun ds μ K=>match ds with
 | [.fdc ks es,y]=>∃(kd:List (Key×D)) (k:Key),ks=kd.map (·.1)/\es=kd.map (·.2)/\kd.length<=100000/\(kd.map (·.1)).Nodup/\keyD y=some k/\(∀ p∈kd,(∃ i j,p.1=ikey i/\k=ikey j)\/∃ i j,p.1=skey i/\k=skey j)/\K (.fdc ((kd.filter fun p=>decide (p.1≠k)).map (·.1)) ((kd.filter fun p=>decide (p.1≠k)).map (·.2))) μ
 | _=>False
def fIsBars:DSp:=fun ds μ K=>match ds with
 | [.int n,.str z]=>z.length<=1000/\K (.bl (decide (((z.length:Nat):Int)=n/\oxB z=true))) μ
 | _=>False
def fThere (cS:Addr)(cs:List Addr):DSpX:=fun ds μ K Kx=>match ds with
 | [x,.str nm]=>(∃ m,μ[0]?=some m)/\∃ S,x=sdD cS S/\(match aget S.kept nm with | some _=>K .non μ | none=>Kx (.ref (cs.getD 11 0)) μ)
 | _=>False
theorem fThere_len {cS:Addr}{cs:List Addr}{ds:List D}{μ:MS}{K:DK}{Kx:DX}(h:fThere cS cs ds μ K Kx):ds.length=2/\∃ m,μ[0]?=some m:=by
 unfold fThere at h
 split at h
 ·exact⟨rfl,h.1⟩
 ·exact h.elim
def fPartsS (cS:Addr)(cs:List Addr):DSpX:=fun ds μ K Kx=>match ds with
 | [x,.str nm]=>(∃ m,μ[0]?=some m)/\∃ S,x=sdD cS S/\(match aget S.kept nm with | some y=>K (ptD y) μ | none=>Kx (.ref (cs.getD 11 0)) μ)
 | _=>False
theorem fPartsS_len {cS:Addr}{cs:List Addr}{ds:List D}{μ:MS}{K:DK}{Kx:DX}(h:fPartsS cS cs ds μ K Kx):ds.length=2/\∃ m,μ[0]?=some m:=by
 unfold fPartsS at h
 split at h
 ·exact⟨rfl,h.1⟩
 ·exact h.elim
def srcD (p:Str×Nat):D:=.tup [.str p.1,.int p.2]
def fSourceS (cS:Addr)(cs:List Addr):DSpX:=fun ds μ K Kx=>match ds with
 | [x,.str nm,.int bar]=>(∃ m,μ[0]?=some m)/\∃ S,x=sdD cS S/\Kpt S.kept/\(match aget S.kept nm with | some _=>(if 0<=bar/\bar<S.n then K (srcD (srcOf S.kept nm bar)) μ else Kx (.ref (cs.getD 6 0)) μ) | none=>Kx (.ref (cs.getD 11 0)) μ)
 | _=>False
theorem fSourceS_len {cS:Addr}{cs:List Addr}{ds:List D}{μ:MS}{K:DK}{Kx:DX}(h:fSourceS cS cs ds μ K Kx):ds.length=3/\∃ m,μ[0]?=some m:=by
 unfold fSourceS at h
 split at h
 ·exact⟨rfl,h.1⟩
 ·exact h.elim
def tkAll (kept:List (Str×Pt)):List (Str×Tk):=kept.map fun p=>(p.1,tkOf kept p.1)
def fByNames (cS:Addr):DSp:=fun ds μ K=>match ds with
 | [x]=>∃ S m,x=sdD cS S/\RWf S m/\K (dcG skey tkD (tkAll S.kept)) μ
 | _=>False
def openP (S:RS):List Int:=((List.range (S.n - 1).toNat).map fun i=>1+((i:Nat):Int)).filter fun p=>!(aget S.shut p).isSome
def takesR (S:RS):List Tk:=S.kept.map fun p=>tkOf S.kept p.1
def fShelfS (cS:Addr):DSp:=fun ds μ K=>match ds with
 | [x]=>∃ S m,x=sdD cS S/\RWf S m/\K (.tup [.int S.n,.lst ((openP S).map D.int),.lst ((takesR S).map tkD)]) μ
 | _=>False
def fStInit (cS:Addr):DSp:=fun ds μ K=>match ds with
 | [.mr k,.int n,a,b,c]=>μ[k]?=some (.ins cS [] [])/\K .non (μ.set k (.ins cS sdN [.int n,a,b,c]))
 | _=>False
def fDeed1 (cS:Addr)(cs:List Addr)(w:Nat):DSpX:=fun ds μ K Kx=>match ds with
 | [x,y]=>(∃ m,μ[0]?=some m)/\∃ S d m,x=sdD cS S/\y=ddD d/\ddW d=w/\RWf S m/\m<=1000/\ddOk d/\orX cs K Kx (refW S d) (sdD cS (doD S d)) μ
 | _=>False
theorem fDeed1_len {cS:Addr}{cs:List Addr}{w:Nat}{ds:List D}{μ:MS}{K:DK}{Kx:DX}(h:fDeed1 cS cs w ds μ K Kx):ds.length=2/\∃ m,μ[0]?=some m:=by
 unfold fDeed1 at h
 split at h
 ·exact⟨rfl,h.1⟩
 ·exact h.elim
def fBehindS (cS:Addr)(cs:List Addr):DSpX:=fun ds μ K Kx=>match ds with
 | [x,y]=>(∃ m,μ[0]?=some m)/\∃ S d m,x=sdD cS S/\y=ddD d/\RWf S m/\m<=1000/\ddOk d/\orX cs K Kx (refW S d) (sdD cS (doD S d)) μ
 | _=>False
theorem fBehindS_len {cS:Addr}{cs:List Addr}{ds:List D}{μ:MS}{K:DK}{Kx:DX}(h:fBehindS cS cs ds μ K Kx):ds.length=2/\∃ m,μ[0]?=some m:=by
 unfold fBehindS at h
 split at h
 ·exact⟨rfl,h.1⟩
 ·exact h.elim
def fNew (cS:Addr)(cs:List Addr):DSpX:=fun ds μ K Kx=>match ds with
 | [x,.str nm]=>(∃ m,μ[0]?=some m)/\nm.length<=1000/\∃ S,x=sdD cS S/\orX cs K Kx (newW S nm) .non μ
 | _=>False
theorem fNew_len {cS:Addr}{cs:List Addr}{ds:List D}{μ:MS}{K:DK}{Kx:DX}(h:fNew cS cs ds μ K Kx):ds.length=2/\∃ m,μ[0]?=some m:=by
 unfold fNew at h
 split at h
 ·exact⟨rfl,h.1⟩
 ·exact h.elim
def fAgeC (cs:List Addr):DSpX:=fun ds μ K Kx=>match ds with
 | [.int a]=>(∃ m,μ[0]?=some m)/\orX cs K Kx (ageW a) .non μ
 | _=>False
theorem fAgeC_len {cs:List Addr}{ds:List D}{μ:MS}{K:DK}{Kx:DX}(h:fAgeC cs ds μ K Kx):ds.length=1/\∃ m,μ[0]?=some m:=by
 unfold fAgeC at h
 split at h
 ·exact⟨rfl,h.1⟩
 ·exact h.elim
def fPlaceC (cS:Addr)(cs:List Addr):DSpX:=fun ds μ K Kx=>match ds with
 | [x,.int p]=>(∃ m,μ[0]?=some m)/\∃ S,x=sdD cS S/\orX cs K Kx (placeW S p) .non μ
 | _=>False
theorem fPlaceC_len {cS:Addr}{cs:List Addr}{ds:List D}{μ:MS}{K:DK}{Kx:DX}(h:fPlaceC cS cs ds μ K Kx):ds.length=2/\∃ m,μ[0]?=some m:=by
 unfold fPlaceC at h
 split at h
 ·exact⟨rfl,h.1⟩
 ·exact h.elim
theorem calv_nil {P:Program}{w:World}{K:PySem.W.Frag}{mg:Str->Option Value}{base:Heap}{k:Nat}{ps:List Str}:CalV P w K mg base [] k ps:=⟨fun _ h=>nomatch h⟩
theorem calv_cons {P:Program}{w:World}{K:PySem.W.Frag}{mg:Str->Option Value}{base:Heap}{x:Str}{k:Nat}{ps:List Str}{f:DSpX}{a:Addr}{T:List (Addr×DSpX)}(C:CalX P w K mg base x k ps (spX f))(hm:mg x=some (.ref a))(R:CalV P w K mg base T k ps):CalV P w K mg base ((a,f)::T) k ps:=⟨fun p hp=>by
 rcases List.mem_cons.mp hp with rfl | q
 ·obtain⟨f',fd,F,hm',hk,hb⟩:=C.ex
  rw[hm]at hm'
  cases hm'
  exact⟨fd,F,hk,hb⟩
 ·exact R.ex p q⟩
theorem end_at {μ:MS}{x:MO}:(μ++[x])[μ.length]?=some x:=by rw[gxG (aa _),aQ];rfl
theorem end_dic {μ:MS}{ks:List Key}{ds:List D}:dicM (μ++[.dic ks ds]) μ.length=some (ks,ds):=by unfold dicM;rw[end_at]
theorem mrL_mem {n:Nat}:∀ {ds:List D} {d:D},mrL n ds->d∈ds->mrB n d
 | _::_,d,h,hd=>by
  rcases List.mem_cons.mp hd with rfl | q
  ·exact h.1
  ·exact mrL_mem h.2 q
theorem dput_mem {kd:List (Key×D)}{k:Key}{v d:D}(h:d∈(dput kd k v).map (·.2)):d∈kd.map (·.2)\/d=v:=by
 unfold dput at h
 split at h
 ·rw[aK]at h
  obtain⟨p,hp,rfl⟩:=List.mem_map.mp h
  simp only[Function.comp]
  split
  ·exact .inr rfl
  ·exact .inl (List.mem_map.mpr ⟨p,hp,rfl⟩)
 ·rw[aS]at h
  rcases List.mem_append.mp h with q | q
  ·exact .inl q
  ·exact .inr (List.mem_singleton.mp q)
theorem mr_dput {n:Nat}{kd:List (Key×D)}{k:Key}{v:D}(h:mrL n (kd.map (·.2)))(hv:mrB n v):mrL n ((dput kd k v).map (·.2)):=mr_all fun d hd=>by
 rcases dput_mem hd with q | q
 ·exact mrL_mem h q
 ·rw[q];exact hv
theorem dput_new {kd:List (Key×D)}{k:Key}{v:D}(h:k∉kd.map (·.1)):dput kd k v=kd++[(k,v)]:=by
 unfold dput
 rw[aj]
 intro z
 obtain⟨p,hp,e⟩:=List.any_eq_true.mp z
 exact h (List.mem_map.mpr ⟨p,hp,cV e⟩)
theorem items_map {kd:List (Key×D)}:List.zipWith (fun k d=>D.tup [keyV k,d]) (kd.map (·.1)) (kd.map (·.2))=kd.map fun p=>D.tup [keyV p.1,p.2]:=by
 induction kd with
 | nil=>rfl
 | cons p kd ih=>rw[aq,aq,List.zipWith_cons_cons,ih];rfl
theorem dcompX_filter {it:D->MS->(Option (Key×D)->MS->Prop)->Prop}{μ:MS}(t:Key×D->Bool):∀(kd acc:List (Key×D)) (K:List (Key×D)->Prop),((acc++kd).map (·.1)).Nodup ->
 (∀ p∈kd,∀(μ':MS) (K':Option (Key×D)->MS->Prop),K' (if t p=true then some p else none) μ'->it (.tup [keyV p.1,p.2]) μ' K')->K (acc++kd.filter t)->dcompX it (fun _=>True) μ (kd.map fun p=>D.tup [keyV p.1,p.2]) acc K
 | [],acc,K,_,_,k=>by rw[List.filter_nil,aZ]at k;exact⟨trivial,k⟩
 | p::kd,acc,K,nd,h,k=>by
  refine⟨trivial,h p aC _ _ ⟨rfl,?_⟩⟩
  rw[bM]at k
  have nd2:((acc++kd).map (·.1)).Nodup:=nd.sublist (List.Sublist.map _ (List.Sublist.append_left (List.sublist_cons_self _ _) _))
  by_cases q:t p=true
  ·rw[ar q]at k ⊢
   have hn:p.1∉acc.map (·.1):=fun z=>by
    rw[aS,bI]at nd
    exact nd.2.2 p.1 z p.1 (List.mem_map.mpr ⟨p,aC,rfl⟩) rfl
   show dcompX it _ μ _ (dput acc p.1 p.2) K
   rw[dput_new hn]
   exact dcompX_filter t kd (acc++[p]) K (by rw[bx];exact nd) (fun p' hp'=>h p' (gxI _ hp')) (by rw[bx];exact k)
  ·rw[aj q]at k ⊢
   exact dcompX_filter t kd acc K nd2 (fun p' hp'=>h p' (gxI _ hp')) k
theorem cnt_ox:∀ l:List Nat,l.count 111+l.count 120=l.length↔(l.all fun c=>decide (c=111)||decide (c=120))=true
 | []=>by simp
 | c::l=>by
  have ih:=cnt_ox l
  have le:l.count 111+l.count 120<=l.length:=by
   clear ih
   induction l with
   | nil=>simp
   | cons d l ih2 =>
    rw[cM,cM,aJ]
    by_cases e1:d=111
    ·subst e1;simp;omega
    ·by_cases e2:d=120
     ·subst e2;simp;omega
     ·rw[aj (by simpa using e1),aj (by simpa using e2)];omega
  rw[cM,cM,aJ,cI]
  by_cases e1:c=111
  ·subst e1
   rw[Bool.and_eq_true_iff,<- ih]
   simp
   omega
  ·by_cases e2:c=120
   ·subst e2
    rw[Bool.and_eq_true_iff,<- ih]
    simp
    omega
   ·rw[aj (by simpa using e1),aj (by simpa using e2),ai e1,ai e2]
    simp
    omega
theorem firsts_cons (p:Str×Pt)(l:List (Str×Pt)):firsts (p::l)=match fstOf p with | some q=>q::firsts l | none=>firsts l:=by
 unfold firsts
 rw[ck]
 cases fstOf p <;> rfl
theorem firsts_get {l:List (Str×Pt)}{nm:Str}(nd:(l.map (·.1)).Nodup):aget (firsts l) nm=match aget l nm with | some (.fst b a)=>some (b,a) | _=>none:=by
 induction l with
 | nil=>rfl
 | cons p l ih =>
  obtain⟨z,x⟩:=p
  rw[aq,List.nodup_cons]at nd
  have ih:=ih nd.2
  rw[firsts_cons,aget_cons]
  by_cases e:z=nm
  ·rw[ar e]
   have hn:aget l nm=none:=by
    cases q:aget l nm with
    | none=>rfl
    | some y=>exact absurd (aget_some.mp (show(aget l nm).isSome=true by rw[q];rfl)) (by rw[<- e];exact nd.1)
   cases x with
   | fst b a=>show aget ((z,(b,a))::firsts l) nm=_;rw[aget_cons,ar e]
   | jn a b p=>show aget (firsts l) nm=_;rw[ih,hn]
  ·rw[aj e]
   cases x with
   | fst b a=>show aget ((z,(b,a))::firsts l) nm=_;rw[aget_cons,aj e,ih]
   | jn a b p=>show aget (firsts l) nm=_;rw[ih]
theorem firsts_sub {l:List (Str×Pt)}:((firsts l).map (·.1)).Sublist (l.map (·.1)):=by
 induction l with
 | nil=>exact .slnil
 | cons p l ih =>
  obtain⟨z,x⟩:=p
  rw[firsts_cons]
  cases x with
  | fst b a=>exact ih.cons₂ _
  | jn a b q=>exact ih.cons _
theorem firsts_drop {l:List (Str×Pt)}{nm:Str}:firsts (adrop l nm)=adrop (firsts l) nm:=by
 unfold adrop
 induction l with
 | nil=>rfl
 | cons p l ih =>
  obtain⟨z,x⟩:=p
  rw[bM,firsts_cons]
  by_cases e:z=nm
  ·rw[aj (by simp[e]),ih]
   cases x with
   | fst b a=>show _=List.filter _ ((z,(b,a))::firsts l);rw[bM,aj (by simp[e])]
   | jn a b q=>rfl
  ·rw[ar (by simp[e]),firsts_cons,ih]
   cases x with
   | fst b a=>show _=List.filter _ ((z,(b,a))::firsts l);rw[bM,ar (by simp[e])];rfl
   | jn a b q=>rfl
theorem firsts_app {l m:List (Str×Pt)}:firsts (l++m)=firsts l++firsts m:=List.filterMap_append
theorem firsts_jn {l:List (Str×Pt)}{nm a b:Str}{p:Int}(h:aget l nm=none):firsts (aput l nm (.jn a b p))=firsts l:=by
 rw[aput_new h,firsts_app]
 exact aZ _
theorem firsts_new {l:List (Str×Pt)}{nm:Str}{b:List Nat}{a:Int}(nd:(l.map (·.1)).Nodup)(h:aget l nm=none):firsts (aput l nm (.fst b a))=aput (firsts l) nm (b,a):=by
 rw[aput_new h,aput_new (by rw[firsts_get nd,h]),firsts_app]
 rfl
theorem aput_nil {α β:Type}[DecidableEq α]{l:List (α×β)}{k:α}{v:β}(h:k∉l.map (·.1)):(l.map fun p=>if p.1=k then(p.1,v)else p)=l:=by
 conv=>rhs;rw[<- List.map_id l]
 refine cf fun p hp=>?_
 rw[aj]
 ·rfl
 ·exact fun e=>h (List.mem_map.mpr ⟨p,hp,e⟩)
theorem firsts_old {l:List (Str×Pt)}{nm:Str}{b b0:List Nat}{a a0:Int}(nd:(l.map (·.1)).Nodup)(h:aget l nm=some (.fst b0 a0)):firsts (aput l nm (.fst b a))=aput (firsts l) nm (b,a):=by
 have h2:aget (firsts l) nm=some (b0,a0):=by rw[firsts_get nd,h]
 unfold aput
 rw[ar (by rw[aget_any,h];rfl),ar (by rw[aget_any,h2];rfl)]
 clear h2
 induction l with
 | nil=>cases h
 | cons p l ih =>
  obtain⟨z,x⟩:=p
  rw[aq,List.nodup_cons]at nd
  rw[aget_cons]at h
  rw[aq]
  by_cases e:z=nm
  ·subst e
   rw[ar rfl]at h
   cases(show x=.fst b0 a0 from aI h)
   rw[ar rfl,aput_nil (k:=z) nd.1,firsts_cons,firsts_cons]
   show(z,(b,a))::firsts l=List.map _ ((z,(b0,a0))::firsts l)
   rw[aq,ar rfl,aput_nil (k:=z) (fun q=>nd.1 (firsts_sub.subset q))]
  ·rw[aj (show ¬ z=nm from e)]at h
   rw[aj (show ¬ (z,x).1=nm from e),firsts_cons,firsts_cons,ih nd.2 h]
   cases x with
   | fst b1 a1=>show _=List.map _ ((z,(b1,a1))::firsts l);rw[aq,aj (show ¬ z=nm from e)];rfl
   | jn _ _ _=>rfl
theorem tk_ok {S:RS}{m:Nat}(h:RWf S m):∀ nm x,aget S.kept nm=some x->((tkOf S.kept nm).1.length:Int)=S.n/\OX (tkOf S.kept nm).1/\0<=(tkOf S.kept nm).2:=by
 refine ev_ind h.kp (fun nm=>((tkOf S.kept nm).1.length:Int)=S.n/\OX (tkOf S.kept nm).1/\0<=(tkOf S.kept nm).2) (fun nm b a e=>?_) (fun nm l r p e h1 h2=>?_)
 ·unfold tkOf
  rw[ev_fst e]
  obtain⟨f1,f2,f3,_⟩:=h.fs nm b a e
  exact⟨f1,f2,f3⟩
 ·obtain⟨p1,p2⟩:=h.js nm l r p e
  unfold tkOf at h1 h2 ⊢
  rw[ev_jn h.kp e]
  obtain⟨a1,a2,a3⟩:=h1
  obtain⟨b1,b2,b3⟩:=h2
  refine⟨?_,jnT_ox a2 b2,?_⟩
  ·have:=jnT_len (l1:=(ev (fun _ b a=>(b,a)) (fun x y p=>(jnT x.1 y.1 p,max x.2 y.2+1)) ([],0) S.kept l:List Nat×Int).1) (l2:=(ev (fun _ b a=>(b,a)) (fun x y p=>(jnT x.1 y.1 p,max x.2 y.2+1)) ([],0) S.kept r:List Nat×Int).1) (p:=p) (by omega) (by omega) (by omega)
   show((jnT _ _ p).length:Int)=_
   rw[this];exact a1
  ·show 0<=max _ _+1
   omega
theorem tk_jn {S:RS}(h:Kpt S.kept){nm l r:Str}{p:Int}(e:aget S.kept nm=some (.jn l r p)):tkOf S.kept nm=joinT (tkOf S.kept l) (tkOf S.kept r) p:=by
 unfold tkOf
 rw[ev_jn h e]
 rfl
theorem tk_fst {kept:List (Str×Pt)}{nm:Str}{b:List Nat}{a:Int}(e:aget kept nm=some (.fst b a)):tkOf kept nm=(b,a):=by
 unfold tkOf
 rw[ev_fst e]
theorem kd_of {α β:Type}(κ:α->Key)(f:β->D)(l:List (α×β)):(l.map fun p=>κ p.1)=(l.map fun p=>(κ p.1,f p.2)).map (·.1)/\(l.map fun p=>f p.2)=(l.map fun p=>(κ p.1,f p.2)).map (·.2):=by
 rw[aK,aK]
 exact⟨rfl,rfl⟩
theorem src_fstE {kept:List (Str×Pt)}{nm:Str}{b:List Nat}{a bar:Int}(e:aget kept nm=some (.fst b a)):srcOf kept nm bar=(nm,0):=by
 unfold srcOf
 rw[ev_fst e]
theorem src_jn {kept:List (Str×Pt)}(h:Kpt kept){nm l r:Str}{p:Int}(e:aget kept nm=some (.jn l r p))(bar:Int):srcOf kept nm bar=if bar<p then((srcOf kept l bar).1,(srcOf kept l bar).2+1)else((srcOf kept r bar).1,(srcOf kept r bar).2+1):=by
 unfold srcOf
 rw[ev_jn h e]
theorem mr_g {α β:Type}{n:Nat}{κ:α->Key}{f:β->D}(hf:∀ b,mrB n (f b))(l:List (α×β)):mrL n ((l.map fun p=>(κ p.1,f p.2)).map (·.2)):=mr_all fun d hd=>by
 rw[aK]at hd
 obtain⟨p,_,rfl⟩:=List.mem_map.mp hd
 exact hf _
theorem pt_mr {n:Nat}:∀ x,mrB n (ptD x)
 | .fst _ _=>trivial
 | .jn _ _ _=>⟨trivial,trivial,trivial,trivial⟩
theorem tk_mr {n:Nat}(t:Tk):mrB n (tkD t):=⟨trivial,trivial,trivial⟩
theorem mr_dc {α β:Type}{n:Nat}{κ:α->Key}{f:β->D}(hf:∀ b,mrB n (f b))(l:List (α×β)):mrB n (dcG κ f l):=mr_all fun d hd=>by
 obtain⟨p,_,rfl⟩:=List.mem_map.mp hd
 exact hf _
theorem mr_sh {n:Nat}(l:List (Int×Unit)):mrB n (shD l):=mr_dc (n:=n) (f:=fun _:Unit=>D.bl true) (fun _=>True.intro) l
section
variable {α β:Type}[DecidableEq α]{κ:α->Key}(hi:∀ a b,κ a=κ b->a=b)(f:β->D)
include hi
theorem wput (k:α)(v:β)(l:List (α×β)):D.fdc ((dput (l.map fun p=>(κ p.1,f p.2)) (κ k) (f v)).map (·.1)) ((dput (l.map fun p=>(κ p.1,f p.2)) (κ k) (f v)).map (·.2))=dcG κ f (aput l k v):=by
 rw[dput_k hi f k v l,<- (kd_of κ f _).1,<- (kd_of κ f _).2]
 rfl
theorem wdrop (k:α)(l:List (α×β)):D.fdc (((l.map fun p=>(κ p.1,f p.2)).filter fun p=>decide (p.1≠κ k)).map (·.1)) (((l.map fun p=>(κ p.1,f p.2)).filter fun p=>decide (p.1≠κ k)).map (·.2))=dcG κ f (adrop l k):=by
 rw[dropF_k hi f k l,<- (kd_of κ f _).1,<- (kd_of κ f _).2]
 rfl
theorem kd_nd {l:List (α×β)}(nd:(l.map (·.1)).Nodup):((l.map fun p=>(κ p.1,f p.2)).map (·.1)).Nodup:=by
 rw[aK]
 show(l.map (κ ∘ fun p=>p.1)).Nodup
 rw[<- aK]
 exact nd.map (f:=κ) fun a b h z=>h (hi _ _ z)
end
theorem kd_len {α β:Type}{κ:α->Key}{f:β->D}{l:List (α×β)}:(l.map fun p=>(κ p.1,f p.2)).length=l.length:=gxC _
theorem iteNot {c:Prop}[Decidable c]{A B:Prop}(h1:¬ c->A)(h2:c->B):if(!decide c)=true then A else B:=by
 by_cases q:c
 ·rw[au q];exact h2 q
 ·rw[ai q];exact h1 q
theorem cmp1 {a b:Nat}:decide (([a]:List Nat)<[b])=decide (a<b):=by
 by_cases h:a<b
 ·rw[au h,au (show([a]:List Nat)<[b]from List.Lex.rel h)]
 ·rw[ai h,ai]
  intro z
  cases z with
  | rel q=>exact h q
  | cons q=>cases q
theorem nameB_of {nm:Str}(h1:¬ ((nm.length:Nat):Int)<1)(h2:¬ (8:Int)<((nm.length:Nat):Int)):namedB nm=(nm.cps.toList.all fun c=>decide (97<=c)&&decide (c<=122)):=by
 unfold namedB
 rw[au (show 1<=nm.length by omega),au (show nm.length<=8 by omega)]
 rfl
theorem open_map (S:RS):(((List.range (S.n - 1).toNat).map fun i=>1+((i:Nat):Int)).filterMap fun p=>if(aget S.shut p).isSome=true then none else some (D.int p))=(openP S).map D.int:=by
 unfold openP
 generalize ((List.range (S.n - 1).toNat).map fun i=>1+((i:Nat):Int))=l
 induction l with
 | nil=>rfl
 | cons p l ih =>
  rw[ck,bM]
  cases(aget S.shut p).isSome with
  | true=>exact ih
  | false=>show D.int p::_=D.int p::_;rw[ih]
theorem pt_again {l:List (Str×Pt)}{nm:Str}{b b0:List Nat}{a a0:Int}(h:aget l nm=some (.fst b0 a0))(nd:(l.map (·.1)).Nodup:=by assumption):dcG skey ptD (aput l nm (.fst b a))=dcG skey ptD l:=by
 unfold dcG
 have k1:=(aput_old (v:=Pt.fst b a) h).1
 have e1:(aput l nm (.fst b a)).map (fun p=>skey p.1)=l.map fun p=>skey p.1:=by
  have:=bO (List.map skey) k1
  rw[aK,aK]at this
  exact this
 rw[e1]
 congr 1
 unfold aput
 rw[ar (by rw[aget_any,h];rfl),aK]
 refine cf fun p hp=>?_
 simp only[Function.comp]
 by_cases e:p.1=nm
 ·rw[ar e]
  have:aget l nm=some p.2:=aget_of_mem nd (by rw[<- e];exact hp)
  rw[h]at this
  rw[<- aI this]
  rfl
 ·rw[aj e]
theorem app_sg {l:List Nat}{sg:Str}:(⟨l.toArray⟩++sg:Str)=⟨(l++sg.cps.toList).toArray⟩:=app_str l sg.cps.toList
theorem iteNn {c1 c2:Prop}[Decidable c1][Decidable c2]{A B:Prop}(hB:c1\/c2->B)(hA:¬ (c1\/c2)->A):if(true != decide c1)=true then(if(true != decide c2)=true then A else B)else B:=by
 by_cases q1:c1
 ·rw[au q1];exact hB (.inl q1)
 ·by_cases q2:c2
  ·rw[ai q1,au q2];exact hB (.inr q2)
  ·rw[ai q1,ai q2];exact hA fun z=>z.elim q1 q2
def roN:List Str:=["stands", "rows", "done"]
structure RoomAt (cR cS:Addr)(μ:MS)(k j1 j2:Nat)(ss:List RS)(rs:List Dd)(d:Nat):Prop where
 k0:k≠0
 a0:j1≠0
 b0:j2≠0
 ka:k≠j1
 kb:k≠j2
 ab:j1≠j2
 ins:μ[k]?=some (.ins cR roN [.mr j1,.mr j2,.int (d:Int)])
 l1:μ[j1]?=some (.lst (ss.map (sdD cS)))
 l2:μ[j2]?=some (.lst (rs.map ddD))
 len:ss.length=rs.length+1
 le:d<=rs.length
 wf:∀ i S,ss[i]?=some S->RWf S i
 few:rs.length<=900
def putR (cR cS:Addr)(μ:MS)(k j1 j2:Nat)(ss:List RS)(rs:List Dd)(d:Nat):MS:=((μ.set j1 (.lst (ss.map (sdD cS)))).set j2 (.lst (rs.map ddD))).set k (.ins cR roN [.mr j1,.mr j2,.int (d:Int)])
section
variable {cR cS:Addr}{μ:MS}{k j1 j2:Nat}{ss:List RS}{rs:List Dd}{d:Nat}
theorem RoomAt.lk (h:RoomAt cR cS μ k j1 j2 ss rs d):k<μ.length/\j1<μ.length/\j2<μ.length:=⟨(gxB h.ins).1,(gxB h.l1).1,(gxB h.l2).1⟩
theorem RoomAt.now (h:RoomAt cR cS μ k j1 j2 ss rs d):∃ S,ss[d]?=some S/\RWf S d:=by
 have:d<ss.length:=by have:=h.len;have:=h.le;omega
 exact⟨_,gxA this,h.wf d _ (gxA this)⟩
theorem RoomAt.other (h:RoomAt cR cS μ k j1 j2 ss rs d){i:Nat}{m:MO}(hk:i≠k)(h1:i≠j1)(h2:i≠j2):RoomAt cR cS (μ.set i m) k j1 j2 ss rs d :=
 ⟨h.k0,h.a0,h.b0,h.ka,h.kb,h.ab,by rw[ah hk];exact h.ins,by rw[ah h1];exact h.l1,by rw[ah h2];exact h.l2,h.len,h.le,h.wf,h.few⟩
theorem RoomAt.gx (h:RoomAt cR cS μ k j1 j2 ss rs d){m:MO}:RoomAt cR cS (μ.set 0 m) k j1 j2 ss rs d:=h.other (aO h.k0) (aO h.a0) (aO h.b0)
theorem RoomAt.more (h:RoomAt cR cS μ k j1 j2 ss rs d){g:MS}:RoomAt cR cS (μ++g) k j1 j2 ss rs d:=by
 obtain⟨a,b,c⟩:=h.lk
 exact⟨h.k0,h.a0,h.b0,h.ka,h.kb,h.ab,by rw[gxF a];exact h.ins,by rw[gxF b];exact h.l1,by rw[gxF c];exact h.l2,h.len,h.le,h.wf,h.few⟩
theorem RoomAt.put (h:RoomAt cR cS μ k j1 j2 ss rs d){ss':List RS}{rs':List Dd}{d':Nat}(len:ss'.length=rs'.length+1)(le:d'<=rs'.length)(wf:∀ i S,ss'[i]?=some S->RWf S i)(few:rs'.length<=900):RoomAt cR cS (putR cR cS μ k j1 j2 ss' rs' d') k j1 j2 ss' rs' d':=by
 obtain⟨a,b,c⟩:=h.lk
 refine⟨h.k0,h.a0,h.b0,h.ka,h.kb,h.ab,?_,?_,?_,len,le,wf,few⟩
 ·unfold putR;rw[aw (by rw[aE,aE];exact a)]
 ·unfold putR;rw[ah h.ka,ah (aO h.ab),aw b]
 ·unfold putR;rw[ah h.kb,aw (by rw[aE];exact c)]
theorem set_same {μ:MS}{i:Nat}{m:MO}(h:μ[i]?=some m):μ.set i m=μ:=by
 refine List.ext_getElem? fun j=>?_
 by_cases e:i=j
 ·subst e;rw[aw (gxB h).1,h]
 ·rw[ah e]
theorem putR_gx (h:RoomAt cR cS μ k j1 j2 ss rs d){m m0:MO}{ss':List RS}{rs':List Dd}{d':Nat}(em:μ[0]?=some m0):(putR cR cS (μ.set 0 m) k j1 j2 ss' rs' d').set 0 m0=putR cR cS μ k j1 j2 ss' rs' d'/\(putR cR cS (μ.set 0 m) k j1 j2 ss' rs' d')[0]?=some m:=by
 have h0:0<μ.length:=(gxB em).1
 unfold putR
 refine⟨?_,?_⟩
 ·rw[List.set_comm _ _ h.k0,List.set_comm _ _ h.b0,List.set_comm _ _ h.a0,cZ,set_same em]
 ·rw[ah h.k0,ah h.b0,ah h.a0,aw h0]
end
section
variable (cR cS:Addr)(cs:List Addr)
def fRoInit:DSpX:=fun ds μ K Kx=>match ds with
 | [.mr k,.int n]=>(∃ m,μ[0]?=some m)/\k≠0/\μ[k]?=some (.ins cR [] [])/\(if 1<=n/\n<=40 then K .non (μ.set k (.ins cR roN [.mr μ.length,.mr (μ.length+1),.int 0])++[.lst [sdD cS ⟨n,[],[]⟩],.lst []])else Kx (.ref (cs.getD 8 0)) μ)
 | _=>False
def fNow:DSp:=fun ds μ K=>match ds with
 | [.mr k]=>∃ j1 j2 ss rs d S,RoomAt cR cS μ k j1 j2 ss rs d/\ss[d]?=some S/\K (sdD cS S) μ
 | _=>False
def fDeedR:DSpX:=fun ds μ K Kx=>match ds with
 | [.mr k,y]=>(∃ m,μ[0]?=some m)/\∃ j1 j2 ss rs d S e,RoomAt cR cS μ k j1 j2 ss rs d/\ss[d]?=some S/\y=ddD e/\ddOk e/\rs.length<900/\(match refW S e with | some i=>Kx (.ref (cs.getD i 0)) μ | none=>K .non (putR cR cS μ k j1 j2 (ss.take (d+1)++[doD S e]) (rs.take d++[e]) (d+1)))
 | _=>False
def fRowsR (b:Bool):DSp:=fun ds μ K=>match ds with
 | [.mr k]=>∃ j1 j2 ss rs d,RoomAt cR cS μ k j1 j2 ss rs d/\K (.lst ((if b=true then rs.take d else rs.drop d).map ddD)) μ
 | _=>False
def fOfNow (g:RS->D):DSp:=fun ds μ K=>match ds with
 | [.mr k]=>∃ j1 j2 ss rs d S,RoomAt cR cS μ k j1 j2 ss rs d/\ss[d]?=some S/\K (g S) μ
 | _=>False
end
def gSize (S:RS):D:=.int S.n
def gNames (S:RS):D:=.lst (S.kept.map fun p=>.str p.1)
def gCuts (S:RS):D:=.lst ((openP S).map D.int)
def gTakes (S:RS):D:=.lst ((takesR S).map tkD)
section
variable {cR cS:Addr}{cs:List Addr}{ds:List D}{μ:MS}{K:DK}{Kx:DX}
theorem fRoInit_len (h:fRoInit cR cS cs ds μ K Kx):ds.length=2/\∃ m,μ[0]?=some m:=by
 unfold fRoInit at h
 split at h
 ·exact⟨rfl,h.1⟩
 ·exact h.elim
theorem fDeedR_len (h:fDeedR cR cS cs ds μ K Kx):ds.length=2/\∃ m,μ[0]?=some m:=by
 unfold fDeedR at h
 split at h
 ·exact⟨rfl,h.1⟩
 ·exact h.elim
end
theorem RWf.new {n:Int}(h1:1<=n)(h2:n<=40):RWf ⟨n,[],[]⟩ 0 :=
 ⟨h1,h2,⟨.nil,fun _ _ _ _ e=>(by cases e)⟩,aV _,fun _ _ _ e=>(by cases e),fun _ _ _ _ e=>(by cases e),fun _ h=>(nomatch h),aa _,.nil⟩
theorem RoomAt.made {cR cS:Addr}{μ:MS}{n:Int}(h0:μ≠[])(h1:1<=n)(h2:n<=40):RoomAt cR cS (μ++[.ins cR roN [.mr (μ.length+1),.mr (μ.length+2),.int 0],.lst [sdD cS ⟨n,[],[]⟩],.lst []]) μ.length (μ.length+1) (μ.length+2) [⟨n,[],[]⟩] [] 0:=by
 have hl:0<μ.length:=List.length_pos_iff.mpr h0
 refine⟨by omega,by omega,by omega,by omega,by omega,by omega,?_,?_,?_,rfl,aa _,fun i S e=>?_,aV _⟩
 ·rw[gxG (aa _),aQ];rfl
 ·rw[gxG (by omega),Nat.add_sub_cancel_left];rfl
 ·rw[gxG (by omega),Nat.add_sub_cancel_left];rfl
 ·cases i with
  | zero=>cases e;exact .new h1 h2
  | succ i=>cases e
end L2
namespace L2
open PySem PySem.Spec PyProof.Rows PyProof
end L2
namespace L2
open PySem PySem.Spec PyProof.Rows PyProof
def TV (c:Dt)(ρ:DE)(μ:MS)(b:Bool):Prop:=∀ K:Bool->MS->Prop,K b μ->c ρ μ K
section
variable {a c:Dt}{t u:Ds}{N:DN}{ρ:DE}{μ:MS}{x y b:Bool}{e:De}
theorem TV.tst (h:∀ K:DK,K (.bl b) μ->e ρ μ K):TV (dTst e) ρ μ b:=fun K k=>h _ k
theorem TV.or (h1:TV a ρ μ x)(h2:x=false->TV c ρ μ y):TV (dtOr a c) ρ μ (x||y):=fun K k=>h1 _ (by
 cases x with
 | true=>rw[ar rfl];exact k
 | false=>rw[aj (by decide)];exact h2 rfl K k)
theorem TV.not (h1:TV a ρ μ x):TV (dtNot a) ρ μ (!x):=fun K k=>h1 _ k
theorem dIf_of (b:Bool)(h:TV c ρ μ b)(ht:b=true->t N ρ μ)(hu:b=false->u N ρ μ):dIfS c t u N ρ μ:=h _ (by
 cases b with
 | true=>rw[ar rfl];exact ht rfl
 | false=>rw[aj (by decide)];exact hu rfl)
end
theorem dNx_of {N:DN}{ρ:DE}{μ:MS}(h:N.nx ρ μ):dNx N ρ μ:=h
section
variable {α β:Type}[DecidableEq α]{κ:α->Key}(hi:∀ a b,κ a=κ b->a=b){f:β->D}{μ:MS}{j:Nat}{l:List (α×β)}
include hi
end
theorem or_no {a b:Option Nat}(h1:a=none)(h2:b=none):a.or b=none:=by rw[h1,h2];rfl
theorem age_ok {a:Int}(h1:0<=a)(h2:a<=20):ageW a=none:=by unfold ageW;rw[ar ⟨h1,h2⟩]
theorem ref_put {S:RS}{z:Str}{l:List Nat}{a:Int}(h:newW S z=none)(hl:(l.length:Int)=S.n)(ho:OX l)(a0:0<=a)(a1:a<=20):refW S (.put z (txt l) a)=none:=by
 refine or_no h ?_
 have:oxB (txt l)=true:=by
  unfold oxB
  refine List.all_eq_true.mpr fun c hc=>?_
  rcases ho c hc with q | q <;> rw[q]<;> rfl
 show(if(((txt l).length:Nat):Int)=S.n/\oxB (txt l)=true then ageW a else some 0)=none
 rw[ar ⟨by rw[txt_len];exact hl,this⟩]
 exact age_ok a0 a1
end L2
namespace L2
open PySem PySem.W PyProof.Rows
noncomputable abbrev twStepT:=Fast.tw10156331382660048174
noncomputable abbrev twDen:=Fast.tw11892475500146522536
noncomputable def runT (p:Program)(w:World)(n₀:Nat)(ann:Option Value):Nat->SharedT->Thread->Option SharedT
 | 0,_,_=>none
 | n+1,s,t=>match through t with
  | true=>some s
  | false=>match stepOk n₀ ann t with
   | false=>none
   | true=>match twStepT (twDen twTab) p w s t with
    | some (s',t')=>runT p w n₀ ann n s' t'
    | none=>none
theorem runT_of {p:Program}{w:World}{n₀:Nat}{ann:Option Value}:∀ {n:Nat} {s s':SharedT} {t:Thread},runT p w n₀ ann n s t=some s'->topRun treeTable p w n₀ ann n s.abs t=some s'.abs
 | 0,_,_,_,h=>by cases h
 | n+1,s,s',t,h=>by
  unfold runT at h
  unfold topRun
  cases he:through t with
  | true=>rw[he]at h;cases h;rfl
  | false =>
   rw[he]at h
   cases hk:stepOk n₀ ann t with
   | false=>rw[hk]at h;cases h
   | true =>
    rw[hk]at h
    cases hs:twStepT (twDen twTab) p w s t with
    | none=>rw[hs]at h;cases h
    | some r =>
     obtain⟨s2,t2⟩:=r
     rw[hs]at h
     have hs':stepT (denote treeTable) p w s t=some (s2,t2):=by
      rw[show stepT=twStepT from Fast.te10156331382660048174,show denote=twDen from Fast.te11892475500146522536,show treeTable=twTab from Fast.te14364793385576792824];exact hs
     rw[stepT_spec hs'];exact runT_of h
noncomputable def boT (P:Params):BT:=(.node (boot_o_0 P) (.node (boot_o_1 P) (.node (boot_o_3 P) (.node (boot_o_7 P) .nil .nil) .nil) (.node (boot_o_5 P) (.node (boot_o_9 P) .nil .nil) .nil)) (.node (boot_o_2 P) (.node (boot_o_4 P) (.node (boot_o_8 P) .nil .nil) .nil) (.node (boot_o_6 P) (.node (boot_o_10 P) .nil .nil) .nil)))
noncomputable abbrev ST0 (w:World)(os:OsState):SharedT:=⟨boT w.params,11,(boot_heap w.params).life,#[],boot_drawn,boot_toks,os⟩
theorem boT_abs (w:World)(os:OsState):(ST0 w os).abs=S00 w os:=by kernel_rfl
end L2
namespace L2
open PySem PySem.Spec PyProof.Rows PyProof PySem.W
def LeftAt (p q:Program)(loose:List Str)(Xt:Shared->Bool){α:Type}(Yf:Shared->α)(Ya:World->α)(M:Nat)(row:String)(b:Bool):Prop:=∀(w:World) (os:OsState),(twRun twTab p (w.withFollow row b) 11 (some (.ref 6)) M (S00 w os) (topStub p)).map (fun s =>
 (W.staticsOk (importedModules p.main.body) (W.boot_heap w.params) s.heap&&W.namesBound p s.heap&&W.gensDone s&&W.laidKept (W.boot_heap w.params) s.heap,twSeen q loose (importedModules p.main.body) Xt true s,Yf s))=some (true,W.openGood q loose,Ya w)
theorem left_ofR {p q:Program}{loose:List Str}{Xt:Shared->Bool}{α:Type}{Yf:Shared->α}{Ya:World->α}{N M:Nat}{row:String}
 (e:W.opening p=W.plainProg p.main.scope.names) (hN:Nat.ble 600 N=true) (f:∀ s,fenceModules? p s=some s) (le:Nat.ble M N=true)
 (h0:LeftAt p q loose Xt Yf Ya M row false) (h1:LeftAt p q loose Xt Yf Ya M row true):W.LeftO p q loose Xt Yf Ya N:=left_of e hN f le fun w os=>by
 have h:∀ b,LeftAt p q loose Xt Yf Ya M row b:=fun b=>by cases b;exact h0;exact h1
 have:=h (w.params.followText row) w os
 rwa [World.withFollow_self]at this
def LeftT (p q:Program)(loose:List Str)(Xt:Shared->Bool){α:Type}(Yf:Shared->α)(Ya:World->α)(M:Nat)(row:String)(b:Bool):Prop:=∀(w:World) (os:OsState),(runT p (w.withFollow row b) 11 (some (.ref 6)) M (ST0 w os) (topStub p)).map (fun s =>
 (W.staticsOk (importedModules p.main.body) (W.boot_heap w.params) s.abs.heap&&W.namesBound p s.abs.heap&&W.gensDone s.abs&&W.laidKept (W.boot_heap w.params) s.abs.heap,twSeen q loose (importedModules p.main.body) Xt true s.abs,Yf s.abs))=some (true,W.openGood q loose,Ya w)
theorem LeftT.at {p q:Program}{loose:List Str}{Xt:Shared->Bool}{α:Type}{Yf:Shared->α}{Ya:World->α}{M:Nat}{row:String}{b:Bool}(h:LeftT p q loose Xt Yf Ya M row b):LeftAt p q loose Xt Yf Ya M row b:=fun w os=>by
 obtain⟨sT,r,e⟩:=Option.map_eq_some_iff.mp (h w os)
 have r2:=runT_of r
 rw[boT_abs,show topRun=twRun from Fast.te14082659384304107361,show treeTable=twTab from Fast.te14364793385576792824]at r2
 rw[r2]
 exact bO some e
section
variable {cR cS:Addr}{μ:MS}{k j1 j2:Nat}{ss:List RS}{rs:List Dd}{S:RS}{e:Dd}
theorem RoomAt.grow (ra:RoomAt cR cS μ k j1 j2 ss rs rs.length)(es:ss[rs.length]?=some S)(hr:refW S e=none)(few:rs.length<900) :
 ss.take (rs.length+1)=ss/\rs.take rs.length=rs/\RoomAt cR cS (putR cR cS μ k j1 j2 (ss++[doD S e]) (rs++[e]) (rs.length+1)) k j1 j2 (ss++[doD S e]) (rs++[e]) (rs.length+1)/\(ss++[doD S e])[rs.length+1]?=some (doD S e):=by
 have hl:=ra.len
 refine⟨aU (by omega),aU (aa _),ra.put ?_ ?_ (fun i T ei=>?_) ?_,?_⟩
 ·rw[gxE,gxE,hl];rfl
 ·rw[gxE];exact aa _
 ·by_cases h:i<ss.length
  ·rw[gxF h]at ei;exact ra.wf i T ei
  ·rw[gxG (by omega)]at ei
   have h2:=(gxB ei).1
   rw[aN]at h2
   have:i=rs.length+1:=by omega
   subst this
   rw[hl,aQ]at ei
   cases ei
   exact(ra.wf _ S es).do hr
 ·rw[gxE,aN];omega
 ·rw[gxG (by omega),hl,aQ];rfl
end
theorem room_recv {cR cS:Addr}{μ:MS}{k j1 j2 d:Nat}{ss:List RS}{rs:List Dd}(ra:RoomAt cR cS μ k j1 j2 ss rs d){nm:Str}(hn:lookN nm roN [.mr j1,.mr j2,.int (d:Int)]=none):recvD cR nm μ (.mr k):=by
 show(insM _ _ _).map _=_
 rw[insM_of ra.ins]
 exact bO some hn
end L2
namespace L2
open PySem PySem.Spec PyProof.Rows PyProof
end L2
namespace L2
open PySem PySem.Spec PyProof.Rows PyProof
end L2
namespace L2
open PySem PySem.Spec PyProof.Rows PyProof
end L2
namespace L2
open PySem PySem.Spec PyProof.Rows PyProof
end L2
namespace L2
open PySem PySem.Spec PyProof.Rows PyProof
section
variable {kept:List (Str×Pt)}{z:Str}{b b':List Nat}{a:Int}(h:aget kept z=some (.fst b a))
include h
end
end L2
namespace L2
open PySem PySem.Spec PyProof.Rows PyProof
theorem zs {n:Nat}(h:Nat.ble n 100=true:=by rfl):n<=sizeLine:=aB (Nat.le_of_ble_eq_true h) (sz (by decide))
section
variable {X:Cx}{a b e e1 e2 e3:Expr}{wa wb w w1 w2 w3:De}{pos p:Pos}
theorem a1 (h:PD X e w)(s:starEach [e] X.env=(false,eval e X.env)::starEach [] X.env:=by rfl):PDA X [e] (dCons w dNil):=da_cons h da_nil s
theorem a2 (h:PD X e w)(h1:PD X e1 w1)(s:starEach [e,e1] X.env=(false,eval e X.env)::starEach [e1] X.env:=by rfl)(s1:starEach [e1] X.env=(false,eval e1 X.env)::starEach [] X.env:=by rfl):PDA X [e,e1] (dCons w (dCons w1 dNil)):=da_cons h (a1 h1 s1) s
theorem a3 (h:PD X e w)(h1:PD X e1 w1)(h2:PD X e2 w2)(s:starEach [e,e1,e2] X.env=(false,eval e X.env)::starEach [e1,e2] X.env:=by rfl)(s1:starEach [e1,e2] X.env=(false,eval e1 X.env)::starEach [e2] X.env:=by rfl)(s2:starEach [e2] X.env=(false,eval e2 X.env)::starEach [] X.env:=by rfl):PDA X [e,e1,e2] (dCons w (dCons w1 (dCons w2 dNil))):=da_cons h (a2 h1 h2 s1 s2) s
theorem dIX (ha:PD X a wa)(hb:PD X b wb)(hs:PlainIx b:=by exact fun _ _=>rfl):PD X (.Subscript a b pos) (dOp dIx wa wb):=d_ix ixC so_ix ha hb hs
theorem dPl (ha:PD X a wa)(hb:PD X b wb):PD X (.BinOp a .Add b pos) (dOp (dAdd false) wa wb):=d_op addC so_add ha hb
theorem dMi (ha:PD X a wa)(hb:PD X b wb):PD X (.BinOp a .Sub b pos) (dOp (dI2' fun i j=>.int (i - j)) wa wb):=d_op subC so_i2' ha hb
theorem qLt (ha:PD X a wa)(hb:PD X b wb):PT X (.Compare a [.Lt] [b] pos) (tDT (dTst (dOp (dI2' fun i j=>.bl (decide (i<j))) wa wb))):=d_testC ltC so_b2' ha hb (nomark _)
theorem qGt (ha:PD X a wa)(hb:PD X b wb):PT X (.Compare a [.Gt] [b] pos) (tDT (dTst (dOp (dI2' fun i j=>.bl (decide (j<i))) wa wb))):=d_testC gtC so_b2' ha hb (nomark _)
theorem qGe (ha:PD X a wa)(hb:PD X b wb):PT X (.Compare a [.GtE] [b] pos) (tDT (dTst (dOp (dI2' fun i j=>.bl (decide (j<=i))) wa wb))):=d_testC geC so_b2' ha hb (nomark _)
theorem qNe (ha:PD X a wa)(hb:PD X b wb):PT X (.Compare a [.NotEq] [b] pos) (tDT (dTst (dOp (dEqS true) wa wb))):=d_testC neC so_eqS ha hb (nomark _)
theorem dLn (T:Bi2 X.mg)(h:PD X e w)(hg:Gl X "len":=by rfl)(he:starEach [e] X.env=(false,eval e X.env)::starEach [] X.env:=by rfl)(hpl:(backTo pos (starEach [] X.env)).any (·.1)=false:=by rfl):PD X (.Call (.Name "len" p) [e] [] pos) (dCall fLen (dCons w dNil)):=d_blt lenC so_len hg T.len cW (a1 h he) (by decide) (by decide) he hpl
section
variable {es:List Expr}{x:Str}{k k0:Nat}{ps:List Str}{f:DSp}{fx:DSpX}{u:DA}
theorem qC (C:Cal X.prog X.w X.K X.mg X.base x k ps (spD f))(hr:Room k0 X.A)(ha:PDA X (e::es) u)(hk:k<=k0:=by first | decide | exact aa _ | omega)(hg:Gl X x:=by rfl)(hdb:(x==("__debug__" : Str))=false:=by decide)(he:starEach (e::es) X.env=(false,eval e X.env)::starEach es X.env:=by rfl)(hpl:(backTo pos (starEach es X.env)).any (·.1)=false:=by rfl) :
 PD X (.Call (.Name x p) (e::es) [] pos) (dCall f u):=d_call C (hr.mono hk) hg ha hdb he hpl
end
theorem qS (i:Nat){x:Str}{pos':Pos}(hN:X.N.Nodup)(he:PD X e w)(hi:X.N[i]?=some x:=by rfl)(hx:Loc X.env.scope x:=by first | exact Or.inl rfl | exact Or.inr rfl)(hf:X.fn x=true\/X.env.scope.names.lookup x=some .local:=by first | exact .inl rfl | exact .inr rfl | assumption)
 (hsw:swapsWith e (some (.Name x pos')) pos.line X.env=pure false:=by rfl):PDS X (.Assign [.Name x pos'] e pos) (dSet i w):=s_set hN hi hx he hf hsw
theorem qN (i:Nat){x:Str}(hN:X.N.Nodup)(hi:X.N[i]?=some x:=by rfl)(hx:Loc X.env.scope x:=by first | exact Or.inl rfl | exact Or.inr rfl)(hf:X.fn x=true\/X.env.scope.names.lookup x=some .local:=by first | exact .inl rfl | exact .inr rfl | assumption):PG X (.Name x pos) (gName i):=pg_name hN hi hx hf
theorem cOk {N0 ps N:List Str}{js:List (Option Nat)}{sc sc0:Scope}(S:FnScope N0 ps sc0)(h:compChk N0 sc0 N js sc=true)(hN:X.N=N0:=by rfl)(hs:X.env.scope=sc0:=by rfl):CompOk X N js sc:=compOk h hN hs
section
variable {tg iter elt:Expr}{ifs:List Expr}{sc:Scope}{N:List Str}{js:List (Option Nat)}{g:TG}{y:DG}{S:List Nat}{t:Dt}{wi:DI}
theorem sCp (i:Nat)(m:Bool){pos' spos:Pos}{x:Str}(hN:X.N.Nodup)(hc:CompOk X N js sc)(so:SoG g y S)(mo:MonoG g)(hi:PDI X tg iter wi)(hg:∀ fp s H,N.Nodup->PG (cxC X N sc fp s H) tg g)
 (ht:∀ fp s H,PDTs (cxC X N sc fp s H) ifs t) (he:∀ fp s H,PD (cxC X N sc fp s H) elt w) (ho:ownJs S js=true:=by rfl) (calm:X.calm=true:=by rfl) (hx':X.N[i]?=some x:=by rfl) (hx:Loc X.env.scope x:=by first | exact Or.inl rfl | exact Or.inr rfl) (hsw:swapsWith (.ListComp elt [⟨tg,iter,ifs,0⟩] sc pos) (some (.Name x pos')) spos.line X.env=pure true:=by rfl)
 (hs:∀ x,foldedSetIterable iter X.env x=pure x:=by intro _;rfl) (hf:X.fn x=true\/X.env.scope.names.lookup x=some .local:=by first | exact .inl rfl | exact .inr rfl | assumption) :
 PDS X (.Assign [.Name x pos'] (.ListComp elt [⟨tg,iter,ifs,0⟩] sc pos) spos) (dSet i (dComp m wi js y t w)):=s_setComp m hc calm so mo ho hN hx' hx hi (fun fp s H=>hg fp s H hc.nd) ht he hsw hs hf
theorem dCp (m:Bool)(hc:CompOk X N js sc)(so:SoG g y S)(mo:MonoG g)(hi:PDI X tg iter wi)(hg:∀ fp s H,N.Nodup->PG (cxC X N sc fp s H) tg g)(ht:∀ fp s H,PDTs (cxC X N sc fp s H) ifs t)(he:∀ fp s H,PD (cxC X N sc fp s H) elt w)(ho:ownJs S js=true:=by rfl)(calm:X.calm=true:=by rfl)
 (hs:∀ x,foldedSetIterable iter X.env x=pure x:=by intro _;rfl):PD X (.ListComp elt [⟨tg,iter,ifs,0⟩] sc pos) (dComp m wi js y t w):=d_comp m hc calm so mo ho hi (fun fp s H=>hg fp s H hc.nd) ht he hs
theorem sC1 (i:Nat)(m:Bool){pos' spos:Pos}{x:Str}(hN:X.N.Nodup)(hc:CompOk X N js sc)(hi:PDI X tg iter wi)(hg:∀ fp s H,N.Nodup->PG (cxC X N sc fp s H) tg (gName 0))
 (ht:∀ fp s H,PDTs (cxC X N sc fp s H) ifs t) (he:∀ fp s H,PD (cxC X N sc fp s H) elt w) (ho:ownJs [0] js=true:=by rfl) (calm:X.calm=true:=by rfl) (hx':X.N[i]?=some x:=by rfl) (hx:Loc X.env.scope x:=by first | exact Or.inl rfl | exact Or.inr rfl) (hsw:swapsWith (.ListComp elt [⟨tg,iter,ifs,0⟩] sc pos) (some (.Name x pos')) spos.line X.env=pure true:=by rfl)
 (hs:∀ x,foldedSetIterable iter X.env x=pure x:=by intro _;rfl) (hf:X.fn x=true\/X.env.scope.names.lookup x=some .local:=by first | exact .inl rfl | exact .inr rfl | assumption) :
 PDS X (.Assign [.Name x pos'] (.ListComp elt [⟨tg,iter,ifs,0⟩] sc pos) spos) (dSet i (dComp m wi js (dgName 0) t w)):=sCp i m hN hc (so_name 0) (mo_name 0) hi hg ht he ho calm hx' hx hsw hs hf
theorem dC1 (m:Bool)(hc:CompOk X N js sc)(hi:PDI X tg iter wi)(hg:∀ fp s H,N.Nodup->PG (cxC X N sc fp s H) tg (gName 0))(ht:∀ fp s H,PDTs (cxC X N sc fp s H) ifs t)(he:∀ fp s H,PD (cxC X N sc fp s H) elt w)(ho:ownJs [0] js=true:=by rfl)(calm:X.calm=true:=by rfl)
 (hs:∀ x,foldedSetIterable iter X.env x=pure x:=by intro _;rfl):PD X (.ListComp elt [⟨tg,iter,ifs,0⟩] sc pos) (dComp m wi js (dgName 0) t w):=dCp m hc (so_name 0) (mo_name 0) hi hg ht he ho calm hs
end
end
end L2
namespace L2
open PySem PySem.Spec PyProof.Rows PyProof PySem.W
abbrev pA (s:Stmt):List Str:=(defArgs s).args.map (·.arg)
theorem mkSc {N P:List Str}{sc:Scope}(h1:sc.kind=.function:=by rfl)(h2:sc.isCoroutine=false:=by rfl)(h3:sc.isGenerator=false:=by rfl)(h4:N.Nodup:=by decide +kernel)(h5:N.take P.length=P:=by rfl)
 (h6:∀ x∈P,sc.names.lookup x=some .local\/sc.names.lookup x=some .cell:=by decide +kernel) (h7:∀ y∈sc.names,y.2≠.free:=by decide +kernel):FnScope N P sc:=⟨h1,h2,h3,h4,h5,h6,h7⟩
def kf (f c:Addr)(x q:Str)(s:Stmt)(pm:Value)(t l a r1 r2:Nat)(v1 v2:Value)(r3 t2:Nat):List (Addr×Obj):=[ko f (fnQ x q s pm c),ko c (coQ x q t l a r1 r2 v1 v2 r3 t2)]
def kf1 (f c:Addr)(x:Str)(s:Stmt)(pm:Value)(t l a r1 r2:Nat)(v1 v2:Value)(r3 t2:Nat):List (Addr×Obj):=kf f c x x s pm t l a r1 r2 v1 v2 r3 t2
def kx (P:Params)(a n h:Addr)(x:Str)(sl:Option Value)(t u:Nat)(m:Value)(i l:Nat)(st:Addr)(sub:List Value:=[])(bs:List Value:=[.ref h])(mro:List Value:=[.ref a,.ref h,.type "ValueError",.type "Exception",.type "BaseException",.type "object"]):List (Addr×Obj) :=
 [ko a ⟨.type "type",none,.cls ⟨x,bs,mro,n,x,true,[],sub,false,none,false⟩,#[sl,none,some (.str x t),some (.str x u),some (.builtin "ValueError.__new__"),some (.bool true)]⟩,
  ko n ⟨.type "dict",none,.dict #[enP P "__module__" i m,enP P "__firstlineno__" (i+4) (.int l (i+3)),enP P "__static_attributes__" (i+5) (.ref st),enP P "__doc__" (i+6) .none] 2,#[]⟩]
section
variable {K:Frag}{x q:Str}{s:Stmt}{f:Addr}{fd:FuncData}{ps:List Str}(F:Fun K x q s f fd)
include F
theorem bd1 (hl:ps.length=1:=by rfl)(h:∀(kV doc pm:Value) (an:Option Addr) (cdv ct a:Value),bindArgs (fnOf x q (defArgs s) (defBody s) (defScope s) .none kV doc pm an cdv ct) ⟨[a],[]⟩=pure (ps.zip [a]):=by intros;rfl):Binds K fd ps []:=F.binds fun k d p n c t=>by rw[hl];exact bn1 fun a=>h k d p n c t a
theorem bd2 (hl:ps.length=2:=by rfl)(h:∀(kV doc pm:Value) (an:Option Addr) (cdv ct a b:Value),bindArgs (fnOf x q (defArgs s) (defBody s) (defScope s) .none kV doc pm an cdv ct) ⟨[a,b],[]⟩=pure (ps.zip [a,b]):=by intros;rfl):Binds K fd ps []:=F.binds fun k d p n c t=>by rw[hl];exact bnS fun a=>bn1 fun b=>h k d p n c t a b
theorem bd3 (hl:ps.length=3:=by rfl)(h:∀(kV doc pm:Value) (an:Option Addr) (cdv ct a b e:Value),bindArgs (fnOf x q (defArgs s) (defBody s) (defScope s) .none kV doc pm an cdv ct) ⟨[a,b,e],[]⟩=pure (ps.zip [a,b,e]):=by intros;rfl):Binds K fd ps []:=F.binds fun k d p n c t=>by rw[hl];exact bnS fun a=>bnS fun b=>bn1 fun e=>h k d p n c t a b e
theorem bd4 (hl:ps.length=4:=by rfl)(h:∀(kV doc pm:Value) (an:Option Addr) (cdv ct a b e g:Value),bindArgs (fnOf x q (defArgs s) (defBody s) (defScope s) .none kV doc pm an cdv ct) ⟨[a,b,e,g],[]⟩=pure (ps.zip [a,b,e,g]):=by intros;rfl):Binds K fd ps []:=F.binds fun k d p n c t=>by rw[hl];exact bnS fun a=>bnS fun b=>bnS fun e=>bn1 fun g=>h k d p n c t a b e g
theorem bd5 (hl:ps.length=5:=by rfl)(h:∀(kV doc pm:Value) (an:Option Addr) (cdv ct a b e g i:Value),bindArgs (fnOf x q (defArgs s) (defBody s) (defScope s) .none kV doc pm an cdv ct) ⟨[a,b,e,g,i],[]⟩=pure (ps.zip [a,b,e,g,i]):=by intros;rfl):Binds K fd ps []:=F.binds fun k d p n c t=>by rw[hl];exact bnS fun a=>bnS fun b=>bnS fun e=>bnS fun g=>bn1 fun i=>h k d p n c t a b e g i
end
end L2
namespace L2
open PySem PySem.Spec PyProof.Rows PyProof
def intT (i:Int):Str:=toString i
def ddT:Dd->List Str
 | .put nm b a=>["put",nm,b,intT a]
 | .join nm l r p=>["join",nm,l,r,intT p]
 | .found nm bar sg=>["found",nm,intT bar,sg]
 | .aged nm a=>["aged",nm,intT a]
 | .drop nm=>["drop",nm]
 | .free p=>["free",intT p]
 | .shut p=>["shut",intT p]
def thD:Dd->List D
 | .put nm b a=>[.str "put",.str nm,.str b,.int a]
 | .join nm l r p=>[.str "join",.str nm,.str l,.str r,.int p]
 | .found nm bar sg=>[.str "found",.str nm,.int bar,.str sg]
 | .aged nm a=>[.str "aged",.str nm,.int a]
 | .drop nm=>[.str "drop",.str nm]
 | .free p=>[.str "free",.int p]
 | .shut p=>[.str "shut",.int p]
end L2
namespace L2
open PySem PySem.Spec PyProof.Rows PyProof
end L2
namespace L2
open PySem PySem.Spec PyProof.Rows PyProof
def fKindsJ (K:PySem.W.Frag)(cs:List Addr)(cH:Addr):DSp:=fun ds μ Kd=>match ds with
 | [.mr k]=>(∃ m,μ[0]?=some m)/\k≠0/\∃ j,j<17/\μ[k]?=some (.exc (.ref (cs.getD j 0)))/\KinB K cs cH j/\Kd (.lst [.str (kWord j)]) μ
 | _=>False
theorem fKindsJ_len {K:PySem.W.Frag}{cs:List Addr}{cH:Addr}{ds:List D}{μ:MS}{Kd:DK}(h:fKindsJ K cs cH ds μ Kd):ds.length=1/\∃ m,μ[0]?=some m:=by
 unfold fKindsJ at h
 split at h
 ·exact⟨rfl,h.1⟩
 ·exact h.elim
def kWords:List Str:=["BadBars", "BadMake", "BadNumber", "BadText", "BadName", "BadAge", "BadBar", "BadPlace", "BadSize", "Taken", "Full", "NoTake", "Shut", "Joined", "Needed", "NothingLeft", "NoWay", "no ValueError"]
def kBits (j:Nat):List D:=(List.range 17).map (fun i=>D.bl (decide (i=j)))++[.bl false]
theorem kBits_at {j i:Nat}(hj:j<17)(hi:i<18):(kBits j)[i]?=some (.bl (decide (i=j))):=by
 unfold kBits
 by_cases h:i<17
 ·rw[gxF (by rw[gxC,gxJ];exact h),gxH,List.getElem?_range h];rfl
 ·rw[gxG (by rw[gxC,gxJ];omega),gxC,gxJ,show i - 17=0 by omega,ai (by omega)];rfl
theorem kOne:∀ j:Nat,j<17->((List.range 18).filterMap fun i=>if i=j then some (kWords.getD i "")else none)=[kWord j]:=by
 decide +kernel
theorem kWords_at {i:Nat}(hi:i<18):kWords[i]?=some (kWords.getD i ""):=by
 rw[bq]
 cases e:kWords[i]? with
 | none=>exact absurd (List.getElem?_eq_none_iff.mp e) (by show ¬ 18<=i;omega)
 | some x=>rfl
theorem compW_kinds {it:D->MS->(Option D->MS->Prop)->Prop}{c:MS->Prop}{μ:MS}{j:Nat}(hj:j<17)(hc:c μ){K:List D->MS->Prop}(h:∀(i:Nat) (K':Option D->MS->Prop),i<18->(kBits j)[i]?=some (.bl (decide (i=j)))->kWords[i]?=some (kWords.getD i "")->(i=j->K' (some (.str (kWords.getD i ""))) μ)->(i≠j->K' none μ)->it (.int (0+(i:Int))) μ K')(k:K [.str (kWord j)] μ):compW it c (rngD 0 18) μ K:=by
 refine compW_gen hc (fun i:Nat=>D.int (0+(i:Int))) (fun i=>if i=j then some (D.str (kWords.getD i ""))else none) (fun i hi K' k'=>?_) ?_
 ·have hi:=List.mem_range.mp hi
  refine h i K' hi (kBits_at hj hi) (kWords_at hi) (fun e=>?_) (fun e=>?_)
  ·rw[ar e]at k';exact k'
  ·rw[aj e]at k';exact k'
 ·have e:((List.range 18).filterMap fun i=>if i=j then some (D.str (kWords.getD i ""))else none)=[.str (kWord j)]:=by
   have t:=bO (List.map D.str) (kOne j hj)
   rw[List.map_filterMap]at t
   refine Eq.trans ?_ t
   congr 1
   funext i
   split <;> rfl
  rw[e]
  exact k
def w0 (n:Nat):Bool:=n==0
def w1 (n:Nat):Bool:=n==1
def ddWord:Dd->Str
 | .put _ _ _ => "put" | .join _ _ _ _ => "join" | .found _ _ _ => "found" | .aged _ _ => "aged" | .drop _ => "drop" | .free _ => "free" | .shut _ => "shut"
theorem k16 {K:PySem.W.Frag}{cs:List Addr}{cH:Addr}(h0:KinB K cs cH 0)(h1:KinB K cs cH 1)(h2:KinB K cs cH 2)(h3:KinB K cs cH 3)(h4:KinB K cs cH 4)(h5:KinB K cs cH 5)(h6:KinB K cs cH 6)(h7:KinB K cs cH 7)(h8:KinB K cs cH 8)(h9:KinB K cs cH 9)(ha:KinB K cs cH 10)(hb:KinB K cs cH 11)(hc:KinB K cs cH 12)(hd:KinB K cs cH 13)(he:KinB K cs cH 14)(hf:KinB K cs cH 15):∀ j,j<16->KinB K cs cH j
 | 0,_=>h0 | 1,_=>h1 | 2,_=>h2 | 3,_=>h3 | 4,_=>h4 | 5,_=>h5 | 6,_=>h6 | 7,_=>h7 | 8,_=>h8 | 9,_=>h9 | 10,_=>ha | 11,_=>hb | 12,_=>hc | 13,_=>hd | 14,_=>he | 15,_=>hf
 | n+16,h=>absurd h (by omega)
theorem kB {K:PySem.W.Frag}{cs:List Addr}{cH:Addr}{j:Nat}(e1:(PySem.W.clsIn K (cs.getD j 0)).isSome=true:=by kernel_rfl)(e2:PySem.W.findIn K (.ref (cs.getD j 0)) "__getattribute__"=some (some (.builtin "BaseException.__getattribute__")):=by kernel_rfl)(e3:PySem.W.findIn K (.ref (cs.getD j 0)) "__getattr__"=some none:=by kernel_rfl)
 (e4:PySem.W.findIn K (.ref (cs.getD j 0)) "__class__"=some (some (.builtin "object.__class__")):=by kernel_rfl) (e5:PySem.W.specialIn K (.builtin "object.__class__") "__get__"=some (some (.builtin "getset_descriptor.__get__")):=by kernel_rfl) (e6:PySem.W.takesIn K (.builtin "object.__class__")=some true:=by kernel_rfl) (e7:PySem.W.mroIn K (cs.getD j 0) (.type "object")=some true:=by kernel_rfl) (e8:PySem.W.mroIn K (cs.getD j 0) (.type "BaseException")=some true:=by kernel_rfl)
 (k:kitB K cs j=true:=by kernel_rfl) (v:PySem.W.kitOne K (.ref (cs.getD j 0)) (.type "ValueError")=some true:=by kernel_rfl) (q1:PySem.W.excIn K cH veB "ValueError.__new__"=true:=by kernel_rfl) (q2:PySem.W.excIn K (cs.getD j 0) veB "ValueError.__new__"=true:=by kernel_rfl) (q3:subIn K (cs.getD j 0) cH=true:=by kernel_rfl):KinB K cs cH j:=⟨⟨e1,e2,e3,e4,e5,e6,e7,e8⟩,k,v,sub_of q1 q2 q3⟩
end L2
namespace L2
open PySem PySem.Spec PyProof.Rows PyProof
def fMethR (cR cS:Addr)(cs:List Addr)(w n:Nat):DSpX:=fun ds μ K Kx=>(ds.length=n/\∃ m,μ[0]?=some m)/\match ds with
 | .mr k::xs=>∃ e,ddW e=w/\thD e=.str (ddWord e)::xs/\fDeedR cR cS cs [.mr k,ddD e] μ K Kx
 | _=>False
theorem fMethR_len {cR cS:Addr}{cs:List Addr}{w n:Nat}{ds:List D}{μ:MS}{K:DK}{Kx:DX}(h:fMethR cR cS cs w n ds μ K Kx):ds.length=n/\∃ m,μ[0]?=some m:=h.1
section
variable {cR cS:Addr}{μ:MS}{k j1 j2 k' a' b':Nat}{ss ss':List RS}{rs rs':List Dd}{d d':Nat}
theorem RoomAt.putO (h:RoomAt cR cS μ k j1 j2 ss rs d)(x:∀ i∈[k',a',b'],i≠k/\i≠j1/\i≠j2):RoomAt cR cS (putR cR cS μ k' a' b' ss' rs' d') k j1 j2 ss rs d:=by
 have h1:=x k' (by simp)
 have h2:=x a' (by simp)
 have h3:=x b' (by simp)
 unfold putR
 exact((h.other h2.1 h2.2.1 h2.2.2).other h3.1 h3.2.1 h3.2.2).other h1.1 h1.2.1 h1.2.2
end
end L2
namespace L2
open PySem PySem.Spec PyProof.Rows PyProof
end L2
namespace L2
open PySem PySem.Spec PyProof.Rows
def dTryF (K:PySem.W.Frag)(B:Addr)(n i:Nat)(u:List Addr->Hp->DX->Ds)(v:List Addr->Hp->Nat->Ds):Ds:=fun N ρ μ=>∃ m,μ[0]?=some m/\∀ φ0 H0,
 u φ0 H0 (gX φ0 H0 m fun c μ'=>∃ C,c=.ref C/\ExSub K C B/\∀ φ1 H1,v φ1 H1 μ'.length { nx:=fun ρ' ν=>ν[0]?=some (.gx φ1 H1)/\N.nx (ρ'.set i none) (ν.set 0 m),rt:=gK φ1 H1 m N.rt} ((List.replicate n none).set i (some (.mr μ'.length))) ((μ'++[MO.exc c]).set 0 (.gx φ1 H1)))
  { nx:=fun ρ' μ'=>μ'[0]?=some (.gx φ0 H0)/\N.nx ρ' (μ'.set 0 m),rt:=gK φ0 H0 m N.rt,bk:=fun ρ' μ'=>μ'[0]?=some (.gx φ0 H0)/\N.bk ρ' (μ'.set 0 m),ct:=fun ρ' μ'=>μ'[0]?=some (.gx φ0 H0)/\N.ct ρ' (μ'.set 0 m)} ρ (μ.set 0 (.gx φ0 H0))
theorem DEnv.gone {φ:List Addr}{H:Hp}{ρ:DE}{σ:St}(A:DEnv φ H ρ σ)(i:Nat):DEnv φ H (ρ.set i none) (σ.set i none):=by
 obtain⟨a,b⟩:=A
 refine⟨by rw[aE,aE];exact a,fun j d q=>?_⟩
 by_cases z:i=j
 ·subst z
  rw[List.getElem?_set]at q
  split at q
  ·split at q <;> cases q
  ·rename_i h;exact absurd rfl h
 ·rw[ah z]at q ⊢
  exact b j d q
theorem Inv.gone {X:Cx}{pins:List (Addr×Obj)}{σ:St}{H:Hp}{s:Shared}{i:Nat}{n:Str}{vv:Option Value}{mm:Str->Option Value}(I:Inv X pins σ H s)(hN:X.N.Nodup)(hi:X.N[i]?=some n)(hl:∀(i:Nat) (x:Str) (v:V),X.N[i]?=some x->σ[i]?=some (some v)->Vis X.env.scope x->∃ u,RelV v u/\Look X.env s.heap mm x u){h':Heap}{t:Nat}(hn:h'.Ns X.env.locals (fun x=>if x=n then vv else mm x))(hs:Heap.SameBut X.env.locals s.heap h'):Inv X pins (σ.set i none) H { s with heap:=h',toks:=t}:=by
 have J:=I.forget (t:=t) hn hs
 refine⟨J.ok,J.os,J.bare,J.base,⟨_,hn,fun j y v' e1 e2 e3=>?_⟩,J.cell,J.free,J.freeC,J.pin,J.hok,by rw[aE];exact I.len⟩
 by_cases hj:i=j
 ·subst hj
  rw[List.getElem?_set]at e2
  split at e2
  ·split at e2 <;> cases e2
  ·rename_i h;exact absurd rfl h
 ·rw[ah hj]at e2
  obtain⟨u',r',q⟩:=hl j y v' e1 e2 e3
  refine⟨u',r',?_⟩
  rcases q with⟨k,e⟩ | ⟨k,c,e,z⟩
  ·refine .inl ⟨k,?_⟩
   have:y≠n:=fun e=>hj (nodup_ix hN hi (e▸e1))
   simp[this,e]
  ·exact .inr ⟨k,c,e,z.sameBut hs (I.cne y c e)⟩
section
variable {X:Cx}{body suite:List Stmt}{b0:Stmt}{x n:Str}{np hpos pos:Pos}{B:Addr}{i:Nat}{u:List Addr->Hp->DX->Ds}{v:List Addr->Hp->Nat->Ds}
theorem s_tryF (hex:X.ex=[])(hst:X.stack=X.env::X.outer)(hfm:X.env.frame=some X.env.locals)(hN:X.N.Nodup)(hi:X.N[i]?=some n)(hn:X.env.scope.names.lookup n=some .local)(hg:Gl X x)(hm:X.mg x=some (.ref B))
 (hb:∀(pn:List (Addr×Obj)) (xe:Value->Shared->Prop) (φ0:List Addr) (H0:Hp) (Kx:DX),Rz { X with pn:=pn,xe:=xe} φ0 H0 Kx->PDB { X with pn:=pn,xe:=xe} body (u φ0 H0 Kx))
 (hs:∀(pn:List (Addr×Obj)) (e:Addr) (φ1:List Addr) (H1:Hp) (kx:Nat),φ1[kx]?=some e->kx≠0->PDB (Cx.hnd { X with pn:=pn} (X.A.mark (some (.ref e)))) (b0::suite) (v φ1 H1 kx)) (hd:(x==("__debug__" : Str))=false:=by decide) :
 PDS X (.Try body [.ExceptHandler (some (.Name x np)) (some n) (b0::suite) hpos] [] [] pos) (dTryF X.K B X.N.length i u v):=fun pins s σ H D I hq=>by
 obtain⟨φ,ρ,μ,N,A,M,⟨m,em,w⟩,L⟩:=hq
 have w:=w φ H
 refine wpAny_Try_except ?_
 obtain⟨xe,hxe⟩:∃ xe:Value->Shared->Prop,xe=fun ev s₁=>wpAny (model X.prog X.w) X.A (noteFrame ev X.env) (fun _ s₂=>wpAny (model X.prog X.w) X.A (setFlight ev none) (fun _ s₃=>wpAny (model X.prog X.w) X.A (handleBy ev X.env [.ExceptHandler (some (.Name x np)) (some n) (b0::suite) hpos]) (SP X pins D) X.xe s₃) X.xe s₂) X.xe s₁:=⟨_,rfl⟩
 have I':Inv { X with pn:=X.pn++pins,xe:=xe} [] σ H s:=⟨⟨I.ok.mod,I.ok.kind,I.ok.glob,I.ok.blt,I.ok.above,I.ok.inj,I.ok.has,I.ok.cab,I.ok.hd,I.ok.frames,I.ok.stk,I.ok.exf,I.ok.bs,I.ok.bsz,I.ok.noex,I.ok.exfs,I.ok.funs,I.ok.frf⟩,I.os,I.bare,I.base,I.loc,I.cell,I.free,I.freeC,(fun p hp=>I.pin p (by simpa using hp)),I.hok,I.len⟩
 have back:∀ {pins1:List (Addr×Obj)} {σ1:St} {H1:Hp} {s1:Shared},Inv { X with pn:=X.pn++pins,xe:=xe} pins1 σ1 H1 s1->Inv X pins σ1 H1 s1:=fun J=>⟨I.ok,J.os,J.bare,J.base,J.loc,J.cell,J.free,J.freeC,(fun p hp=>J.pin p (bF _ hp)),J.hok,J.len⟩
 have Mg:=M.ghost em
 have hfr:X.A.frames=some (X.env::X.outer):=by rw[<- hst];exact I.ok.frames
 obtain⟨Kx,hKx⟩:∃ Kx:DX,Kx=fun c μ'=>∃ C,c=.ref C/\ExSub X.K C B/\∀ φ1 H1,v φ1 H1 μ'.length { nx:=fun ρ' ν=>ν[0]?=some (.gx φ1 H1)/\N.nx (ρ'.set i none) (ν.set 0 m),rt:=gK φ1 H1 m N.rt} ((List.replicate X.N.length none).set i (some (.mr μ'.length))) ((μ'++[MO.exc c]).set 0 (.gx φ1 H1)):=⟨_,rfl⟩
 rw[<- hKx]at w
 have Z:Rz { X with pn:=X.pn++pins,xe:=xe} φ H (gX φ H m Kx):=by
  refine⟨fun c _ H'=>∃ φ' μ',gX φ H m Kx c μ'/\Fr φ H φ' H'/\MSis φ' H' μ',fun c μ' φ' H' k f M=>⟨φ',μ',k,f,M⟩,fun pins1 σ1 H1 s1 ev s' J c=>?_⟩
  obtain⟨e,cls,H',g,rfl,os,bare,un,hok,⟨g1,g2,g3⟩,ex,φ',μ',⟨e0,hK⟩,f',M'⟩:=c
  rw[hKx]at hK
  obtain⟨C,rfl,sub,hv⟩:=hK
  show xe (.ref e) s'
  rw[hxe]
  have J2:=J.call' (s':=s') (ch:=[]) os un hok bare (fun b z=>absurd z (by simp))
  have ff:s'.heap.FunFrames X.base (X.env::X.outer):=by rw[<- hst];exact J2.stack
  refine note_next hfr ff hfm g3 ex fun h1 x1 k1=>?_
  refine flight_none (l:=X.env::X.outer) x1 fun h2 x2 k2 _=>?_
  have k12:Kp g X.stack s'.heap h2:=by rw[hst];exact k1.trans k2
  have J3:=(J.caught os bare un hok g1 g2 k12).pins_of (pins':=[]) (fun p hp=>absurd hp (by simp))
  have eN:g.get? e=none:=by obtain⟨_,_,_,_,_,_,_,z⟩:=ex;exact z
  have hHe:H' e=none:=by
   cases q:H' e with
   | none=>rfl
   | some o=>obtain⟨u,z⟩:=g2 e (by rw[q];simp);rw[eN]at z;cases z
  have J4:Inv (Cx.hnd { X with pn:=X.pn++pins} (X.A.mark (some (.ref e)))) [] σ1 H' { s' with heap:=h2}:=J3.hnd I.ok.frames
  refine wpAny_handleBy_cons (codeAny_handlers_test (ld_glob J4 hg hm ?_ hd)) (by intro q;cases q)
  obtain⟨nB,qB,NB,bsB,bmB,hdB,snB,subB,abB,colB,ddB,b0',b1,b2,b3,b5,idB,nC,qC,NC,bsC,bmC,hdC,snC,subC,abC,colC,ddC,c0,c1,c2,c3,c5,idC,lB,lC,hbB,hin⟩:=sub.ex
  obtain⟨oe,vs,q1,q2,q3,q4,q5⟩:=x2.is
  refine exc_match (J4.kIn _ _ lB) (J4.kIn _ _ lC) q1 q2 hbB hin ?_
  refine codeAny_handlers_suite_as (flight_none (l:=X.env::X.outer) (s:={ s' with heap:=h2}) x2 fun h3 x3 k3 _=>?_)
  have k13:Kp g X.stack s'.heap h3:=k12.trans (by rw[hst];exact k3)
  have J5:=(J.caught os bare un hok g1 g2 k13).pins_of (pins':=[]) (fun p hp=>absurd hp (by simp))
  have atg:∀ b o,s1.heap.get? b=some o->b≠e:=fun b o q z=>by
   obtain⟨u,y⟩:=g1 b ⟨o,q⟩
   rw[z,eN]at y;cases y
  have J6:=J5.track hHe x3.is (by
   cases q:X.s₀.heap.get? e with
   | none=>rfl
   | some o =>
    obtain⟨o',y⟩:=J.base.there e o q (by show e∉X.ex;rw[hex];simp)
    exact absurd rfl (atg e o' y)) (by
   obtain⟨mm,⟨oo,_,_,y,_⟩,_⟩:=J.loc
   exact fun z=>atg _ oo y z.symm) (fun y a q=>by
   obtain⟨w',o,z,_⟩:=J.cell y a q
   exact atg a o z) (fun p hp=>atg p.1 p.2 (J.pin p (bF _ (by simpa using hp))).1)
  have J7:Inv (Cx.hnd { X with pn:=X.pn++pins} (X.A.mark (some (.ref e)))) [] σ1 (upd H' e (.ext (ExcIs e (.ref C)))) { s' with heap:=h3}:=J6.hnd I.ok.frames
  refine store_ok (X:=Cx.hnd { X with pn:=X.pn++pins} (X.A.mark (some (.ref e)))) J7 hN hi (.inl hn) (v:=.ref e) (u:=.ref e) rfl (fun s8 J8=>?_) (.inr hn)
  have Mb:=M.back em M' e0
  obtain⟨μ1,hμ1⟩:∃ μ1,μ1=μ'.set 0 m:=⟨_,rfl⟩
  rw[<- hμ1]at Mb hv
  have h0l:0<μ'.length:=(gxB e0).1
  have em1:μ1[0]?=some m:=by rw[hμ1];exact aw h0l
  have l1:μ1.length≠0:=by rw[hμ1,aE];omega
  obtain⟨Msn,f2⟩:=Mb.snoc (m:=.exc (.ref C)) (o:=.ext (ExcIs e (.ref C))) hHe upd_same
  have em2:(μ1++[MO.exc (.ref C)])[0]?=some m:=by rw[gxF (by omega)];exact em1
  have hk:(φ'++[e])[μ1.length]?=some e:=by rw[gxG (by rw[Mb.len];exact aa _),Mb.len,aQ];rfl
  have ls:σ1.length=X.N.length:=J.len
  have hil:i<σ1.length:=by rw[ls];exact(gxB hi).1
  have A2:DEnv (φ'++[e]) (upd H' e (.ext (ExcIs e (.ref C)))) ((List.replicate X.N.length none).set i (some (.mr μ1.length))) (σ1.set i (some (.ref e))):=by
   refine⟨by rw[aE,aE,bA,ls],fun j d q=>?_⟩
   by_cases z:i=j
   ·subst z
    rw[aw (by rw[bA,<- ls];exact hil)]at q
    cases q
    exact⟨.ref e,aw hil,e,hk,rfl⟩
   ·rw[ah z,List.getElem?_replicate]at q
    split at q <;> cases q
  have L2:LiN (φ'++[e]) (upd H' e (.ext (ExcIs e (.ref C)))) { nx:=fun ρ' ν=>ν[0]?=some (.gx (φ'++[e]) (upd H' e (.ext (ExcIs e (.ref C)))))/\N.nx (ρ'.set i none) (ν.set 0 m),rt:=gK (φ'++[e]) (upd H' e (.ext (ExcIs e (.ref C)))) m N.rt} { nx:=fun σ' H'=>D.nx (σ'.set i none) H',rt:=D.rt} :=
   ⟨fun ρ' ν φ2 σ' H2 ⟨e',k'⟩ f A M'=>(L.nx.mono (f'.trans f2)) (ρ'.set i none) _ φ2 (σ'.set i none) H2 k' f (A.gone i) (Msn.back em2 M' e'),(L.rt.mono (f'.trans f2)).ghost Msn em2,fun _ _ _ _ _ k' _ _ _=>k'.elim,fun _ _ _ _ _ k' _ _ _=>k'.elim⟩
  refine a9 (hs (X.pn++pins) e (φ'++[e]) (upd H' e (.ext (ExcIs e (.ref C)))) μ1.length hk l1 [] s8 _ _ { nx:=fun σ' H'=>D.nx (σ'.set i none) H',rt:=D.rt} J8 ⟨φ'++[e],_,_,_,A2,Msn.ghost em2,hv _ _,L2⟩) (fun f s9 q=>?_) (fun _ _ z=>z.elim)
  cases f with
  | next =>
   obtain⟨σ9,H9,J9,q9⟩:=q
   have J9x:Inv X pins σ9 H9 s9:=⟨I.ok,J9.os,J9.bare,J9.base,J9.loc,J9.cell,J9.free,J9.freeC,(fun p hp=>J9.pin p (bF _ hp)),J9.hok,J9.len⟩
   obtain⟨mm,hns,hlk⟩:=id J9x.loc
   show wpAny _ _ (do bindName X.env n .none;unbindBehindTheSuite X.env n hpos) _ _ _
   refine wpAny_nameGoes_keeps hn hns (by rw[I.ok.kind];rfl) fun h' vv hns' hsb=>?_
   exact⟨_,H9,J9x.gone hN hi hlk hns' hsb,q9⟩
  | brk=>obtain⟨_,_,_,q⟩:=q;exact q.elim
  | cont=>obtain⟨_,_,_,q⟩:=q;exact q.elim
  | ret r =>
   obtain⟨v',σ9,H9,J9,rv,qr⟩:=q
   have J9x:Inv X pins σ9 H9 s9:=⟨I.ok,J9.os,J9.bare,J9.base,J9.loc,J9.cell,J9.free,J9.freeC,(fun p hp=>J9.pin p (bF _ hp)),J9.hok,J9.len⟩
   obtain⟨mm,hns,_⟩:=J9.loc
   show wpAny _ _ (do bindName X.env n .none;unbindBehindTheSuite X.env n hpos) _ _ _
   refine wpAny_nameGoes hn hns (by rw[I.ok.kind];rfl) fun h' m' hns' hsb=>?_
   exact⟨v',_,H9,J9x.forget hns' hsb,rv,qr⟩
 have hbody:=hb _ _ φ H _ Z [] s σ H D I' ⟨φ,ρ,μ.set 0 (.gx φ H),_,A,Mg,w,⟨L.nx.ghost M em,L.rt.ghost M em,L.bk.ghost M em,L.ct.ghost M em⟩⟩
 refine a9 hbody (fun f s1 q=>?_) (fun ev s1 q=>by have q:xe ev s1:=q;rw[hxe]at q;exact q)
 cases f with
 | next=>obtain⟨σ',H',J,q⟩:=q;exact cK ⟨σ',H',back J,q⟩
 | brk=>obtain⟨σ',H',J,q⟩:=q;exact⟨σ',H',back J,q⟩
 | cont=>obtain⟨σ',H',J,q⟩:=q;exact⟨σ',H',back J,q⟩
 | ret u=>obtain⟨v',σ',H',J,r,q⟩:=q;exact⟨v',σ',H',back J,r,q⟩
end
end L2
namespace L2
open PySem PySem.Spec PyProof.Rows PyProof
end L2
namespace L2
open PySem PySem.Spec PyProof.Rows PyProof
def fDead:DSp:=fun _ _ _=>False
theorem fn_dead {P:Program}{w:World}{K:PySem.W.Frag}{mg:Str->Option Value}{base:Heap}{k:Nat}{f:Addr}{fd:FuncData}{ps:List Str}:FnOk P w K mg base CX0 k f fd ps (spD fDead) :=
 ⟨fun vs H Q E h=>by obtain⟨_,_,_,_,_,_,h,_⟩:=h;exact h.elim,fun A outer s H args us vs Q E _ _ _ _ h=>by obtain⟨_,_,_,_,_,_,h,_⟩:=h;exact h.elim⟩
theorem cala_of {P:Program}{w:World}{K:PySem.W.Frag}{mg:Str->Option Value}{base h:Heap}{x y q:Str}{st:Stmt}{f:Addr}{fd:FuncData}{k:Nat}{ps:List Str}{sp:Sp}(G:K.In h)(N:h.Ns mainGlobals mg)(F:Fun K x q st f fd)(ok:FnOk P w K mg base CX0 k f fd ps sp)(hb:Binds K fd ps [])
 (a:PySem.W.nsIn K mainGlobals y=some (some (.ref f)):=by kernel_rfl):Cal P w K mg base y k ps sp:=⟨f,fd,ok,aP G N a,F.kp,hb⟩
theorem bar_new {n:Int}(h1:1<=n):barOf (endsOf n (openP ⟨n,[],[]⟩)) []=some (0,1):=by
 have key:∀ m:Nat,∀ n:Int,(n - 1).toNat=m->1<=n->∃ r,endsOf n (openP ⟨n,[],[]⟩)=0::1::r:=fun m n hm hn=>by
  have ef:openP ⟨n,[],[]⟩=(List.range (n - 1).toNat).map fun i=>1+((i:Nat):Int):=List.filter_eq_self.mpr (fun _ _=>rfl)
  unfold endsOf
  rw[ef,hm]
  cases m with
  | zero=>exact⟨[],by rw[show n=1 by omega];rfl⟩
  | succ m=>exact⟨_,by rw[List.range_succ_eq_map,aq];rfl⟩
 obtain⟨r,e⟩:=key _ n rfl h1
 rw[e]
 rfl
theorem openP_new (n:Int):openP ⟨n,[],[]⟩=(List.range (n - 1).toNat).map fun i=>1+((i:Nat):Int):=List.filter_eq_self.mpr (fun _ _=>rfl)
theorem openP_len {n:Int}(h:n<=40){sh:List (Int×Unit)}{ke:List (Str×Pt)}:(openP ⟨n,ke,sh⟩).length<=1000:=by
 unfold openP
 refine aB (List.length_filter_le _ _) ?_
 rw[gxC,gxJ]
 show(n - 1).toNat<=1000
 omega
def fAnsw0:DSp:=fun ds μ K=>match ds with
 | [.int n,.lst c,.lst y]=>1<=n/\n<=40/\c=(openP ⟨n,[],[]⟩).map D.int/\y=[]/\K (.tup [.str "bar",.int 0,.int 1]) μ
 | _=>False
def fLeast0:DSp:=fun ds μ K=>match ds with
 | [.int n,.lst c,.lst y]=>1<=n/\n<=40/\c=(openP ⟨n,[],[]⟩).map D.int/\y=[]/\K .non μ
 | _=>False
def fLaf0 (cS:Addr):DSp:=fun ds μ K=>match ds with
 | [x]=>∃ n:Int,1<=n/\n<=40/\x=sdD cS ⟨n,[],[]⟩/\K .non μ
 | _=>False
def fRoom0 (cR cS:Addr)(x:D):DSp:=fun ds μ K=>match ds with
 | [.mr k]=>∃(n:Int) (j1 j2:Nat) (ss:List RS) (rs:List Dd) (d:Nat),RoomAt cR cS μ k j1 j2 ss rs d/\ss[d]?=some ⟨n,[],[]⟩/\K x μ
 | _=>False
def fRefSz (K:PySem.W.Frag)(cs:List Addr)(cH:Addr):DSp:=fun ds μ Kd=>match ds with
 | [.int n]=>(∃ m,μ[0]?=some m)/\(∀ j,j<16->KinB K cs cH j)/\¬ (1<=n/\n<=40)/\Kd (.lst [.str "BadSize"]) μ
 | _=>False
def fEmpty (cR cS:Addr):DSp:=fun ds μ K=>match ds with
 | [.mr k,.int n]=>(∃ m,μ[0]?=some m)/\∃ j1 j2,RoomAt cR cS μ k j1 j2 [⟨n,[],[]⟩] [] 0/\K (.bl true) μ
 | _=>False
end L2
namespace Pf
open PySem L2 PyProof.Rows
def top (i:Nat):Stmt:=PySem.Challenge.pw_hissroom_k31_rooms_of_a_size.main.body.getD i (.Pass ⟨0,0,0,0⟩)
def met (i j:Nat):Stmt:=(clsBody (top i)).getD j (.Pass ⟨0,0,0,0⟩)
abbrev s_box:Stmt:=top 75
abbrev s_take:Stmt:=top 76
abbrev s_same:Stmt:=top 77
abbrev s_ends:Stmt:=top 2
abbrev s_pieces:Stmt:=top 3
abbrev s_bar_of:Stmt:=top 5
abbrev s_is_bars:Stmt:=top 42
abbrev s_joined:Stmt:=top 43
abbrev s_with_key:Stmt:=top 68
abbrev s_without_key:Stmt:=top 69
abbrev s_Stand___init__:Stmt:=met 55 0
abbrev s_Stand_check_there:Stmt:=met 55 1
abbrev s_Stand_parts:Stmt:=met 55 2
abbrev s_Stand_source:Stmt:=met 55 3
abbrev s_Stand_takes_by_names:Stmt:=met 55 4
abbrev s_Stand_shelf:Stmt:=met 55 6
abbrev s_check_new:Stmt:=top 65
abbrev s_check_age:Stmt:=top 66
abbrev s_check_place:Stmt:=top 67
abbrev s_put:Stmt:=top 56
abbrev s_join:Stmt:=top 57
abbrev s_found:Stmt:=top 58
abbrev s_aged:Stmt:=top 59
abbrev s_drop:Stmt:=top 60
abbrev s_free:Stmt:=top 61
abbrev s_shut:Stmt:=top 62
abbrev s_stand_behind:Stmt:=top 64
abbrev s_Room___init__:Stmt:=met 72 0
abbrev s_Room_now:Stmt:=met 72 1
abbrev s_Room_deed:Stmt:=met 72 9
abbrev s_Room_deeds:Stmt:=met 72 12
abbrev s_Room_ahead:Stmt:=met 72 13
abbrev s_Room_size:Stmt:=met 72 14
abbrev s_Room_names:Stmt:=met 72 15
abbrev s_Room_cuts:Stmt:=met 72 20
abbrev s_Room_takes:Stmt:=met 72 21
abbrev s_Room_put:Stmt:=met 72 2
abbrev s_take_rows:Stmt:=top 28
abbrev s_youngest:Stmt:=top 27
abbrev s_next_reach:Stmt:=top 30
abbrev s_fewest:Stmt:=top 38
abbrev s_best_of:Stmt:=top 39
abbrev s_young_paper:Stmt:=top 45
abbrev s_few_paper:Stmt:=top 46
abbrev s_least_age:Stmt:=top 26
abbrev s_answer:Stmt:=top 49
abbrev s_least_and_few:Stmt:=top 73
abbrev s_Room_answer:Stmt:=met 72 22
abbrev s_Room_least:Stmt:=met 72 23
abbrev s_Room_few:Stmt:=met 72 24
abbrev s_kinds:Stmt:=top 78
abbrev s_refused:Stmt:=top 79
abbrev s_empty:Stmt:=top 80
abbrev s_law:Stmt:=top 81
structure ZStand (K:PySem.W.Frag)(C:Addr):Prop where
 cl:Cls K C
 n_length:PySem.W.findIn K (.ref C) "length"=some none
 n_made_of:PySem.W.findIn K (.ref C) "made_of"=some none
 n_firsts:PySem.W.findIn K (.ref C) "firsts"=some none
 n_closed:PySem.W.findIn K (.ref C) "closed"=some none
structure ZRoom (K:PySem.W.Frag)(C:Addr):Prop where
 cl:Cls K C
 n_stands:PySem.W.findIn K (.ref C) "stands"=some none
 n_rows:PySem.W.findIn K (.ref C) "rows"=some none
 n_done:PySem.W.findIn K (.ref C) "done"=some none
theorem sc_box:FnScope ["_law_script"] (pA s_box) (defScope s_box):=mkSc
theorem sc_take:FnScope ["_law_box_here", "_law_many", "_law_rest", "_law_cell", "_law_one", "_law_two"] (pA s_take) (defScope s_take):=mkSc
theorem sc_same:FnScope ["_law_found", "_law_due"] (pA s_same) (defScope s_same):=mkSc
theorem sc_ends:FnScope ["size", "cuts"] (pA s_ends) (defScope s_ends):=mkSc
theorem sc_pieces:FnScope ["size", "cuts", "places"] (pA s_pieces) (defScope s_pieces):=mkSc
theorem sc_bar_of:FnScope ["size", "cuts", "takes", "first", "behind"] (pA s_bar_of) (defScope s_bar_of):=mkSc
theorem sc_is_bars:FnScope ["size", "text"] (pA s_is_bars) (defScope s_is_bars):=mkSc
theorem sc_joined:FnScope ["one", "other", "place", "bars", "age", "other_bars", "other_age", "cut"] (pA s_joined) (defScope s_joined):=mkSc
theorem sc_with_key:FnScope ["table", "key", "thing", "told"] (pA s_with_key) (defScope s_with_key):=mkSc
theorem sc_without_key:FnScope ["table", "key"] (pA s_without_key) (defScope s_without_key):=mkSc
theorem sc_Stand___init__:FnScope ["self", "length", "made_of", "firsts", "closed"] (pA s_Stand___init__) (defScope s_Stand___init__):=mkSc
theorem sc_Stand_check_there:FnScope ["self", "name"] (pA s_Stand_check_there) (defScope s_Stand_check_there):=mkSc
theorem sc_Stand_parts:FnScope ["self", "name"] (pA s_Stand_parts) (defScope s_Stand_parts):=mkSc
theorem sc_Stand_source:FnScope ["self", "name", "bar", "parts", "copies", "left", "right", "place"] (pA s_Stand_source) (defScope s_Stand_source):=mkSc
theorem sc_Stand_takes_by_names:FnScope ["self", "told", "name", "parts", "left", "right", "place"] (pA s_Stand_takes_by_names) (defScope s_Stand_takes_by_names):=mkSc
theorem sc_Stand_shelf:FnScope ["self", "cuts"] (pA s_Stand_shelf) (defScope s_Stand_shelf):=mkSc
theorem sc_check_new:FnScope ["stand", "name"] (pA s_check_new) (defScope s_check_new):=mkSc
theorem sc_check_age:FnScope ["age"] (pA s_check_age) (defScope s_check_age):=mkSc
theorem sc_check_place:FnScope ["stand", "place"] (pA s_check_place) (defScope s_check_place):=mkSc
theorem sc_put:FnScope ["stand", "row", "word", "name", "bars", "age", "made_of"] (pA s_put) (defScope s_put):=mkSc
theorem sc_join:FnScope ["stand", "row", "word", "name", "left", "right", "place"] (pA s_join) (defScope s_join):=mkSc
theorem sc_found:FnScope ["stand", "row", "word", "name", "bar", "sign", "first", "copies", "bars", "age", "heard"] (pA s_found) (defScope s_found):=mkSc
theorem sc_aged:FnScope ["stand", "row", "word", "name", "age", "bars", "before"] (pA s_aged) (defScope s_aged):=mkSc
theorem sc_drop:FnScope ["stand", "row", "word", "name", "made_of"] (pA s_drop) (defScope s_drop):=mkSc
theorem sc_free:FnScope ["stand", "row", "word", "place"] (pA s_free) (defScope s_free):=mkSc
theorem sc_shut:FnScope ["stand", "row", "word", "place"] (pA s_shut) (defScope s_shut):=mkSc
theorem sc_stand_behind:FnScope ["stand", "row", "deed"] (pA s_stand_behind) (defScope s_stand_behind):=mkSc
theorem sc_Room___init__:FnScope ["self", "size"] (pA s_Room___init__) (defScope s_Room___init__):=mkSc
theorem sc_Room_now:FnScope ["self"] (pA s_Room_now) (defScope s_Room_now):=mkSc
theorem sc_Room_deed:FnScope ["self", "row", "stand"] (pA s_Room_deed) (defScope s_Room_deed):=mkSc
theorem sc_Room_deeds:FnScope ["self"] (pA s_Room_deeds) (defScope s_Room_deeds):=mkSc
theorem sc_Room_ahead:FnScope ["self"] (pA s_Room_ahead) (defScope s_Room_ahead):=mkSc
theorem sc_Room_size:FnScope ["self"] (pA s_Room_size) (defScope s_Room_size):=mkSc
theorem sc_Room_names:FnScope ["self"] (pA s_Room_names) (defScope s_Room_names):=mkSc
theorem sc_Room_cuts:FnScope ["self", "size", "cuts", "takes"] (pA s_Room_cuts) (defScope s_Room_cuts):=mkSc
theorem sc_Room_takes:FnScope ["self", "size", "cuts", "takes"] (pA s_Room_takes) (defScope s_Room_takes):=mkSc
theorem sc_Room_put:FnScope ["self", "name", "bars", "age"] (pA s_Room_put) (defScope s_Room_put):=mkSc
theorem sc_take_rows:FnScope ["size", "cuts", "takes", "places"] (pA s_take_rows) (defScope s_take_rows):=mkSc
theorem sc_youngest:FnScope ["takes"] (pA s_youngest) (defScope s_youngest):=mkSc
theorem sc_next_reach:FnScope ["places", "rows", "before", "age", "where", "clean"] (pA s_next_reach) (defScope s_next_reach):=mkSc
theorem sc_fewest:FnScope ["size", "cuts", "takes", "age", "many"] (pA s_fewest) (defScope s_fewest):=mkSc
theorem sc_best_of:FnScope ["size", "cuts", "takes", "number", "best"] (pA s_best_of) (defScope s_best_of):=mkSc
theorem sc_young_paper:FnScope ["size", "cuts", "takes", "age", "places", "rows", "told", "row", "now"] (pA s_young_paper) (defScope s_young_paper):=mkSc
theorem sc_few_paper:FnScope ["size", "cuts", "takes", "age", "many", "places", "tables"] (pA s_few_paper) (defScope s_few_paper):=mkSc
theorem sc_least_age:FnScope ["size", "cuts", "takes", "places", "rows", "age", "told"] (pA s_least_age) (defScope s_least_age):=mkSc
theorem sc_answer:FnScope ["size", "cuts", "takes", "bar", "age", "many", "make"] (pA s_answer) (defScope s_answer):=mkSc
theorem sc_least_and_few:FnScope ["stand", "size", "cuts", "takes", "age"] (pA s_least_and_few) (defScope s_least_and_few):=mkSc
theorem sc_Room_answer:FnScope ["self", "size", "cuts", "takes"] (pA s_Room_answer) (defScope s_Room_answer):=mkSc
theorem sc_Room_least:FnScope ["self", "size", "cuts", "takes"] (pA s_Room_least) (defScope s_Room_least):=mkSc
theorem sc_Room_few:FnScope ["self", "told"] (pA s_Room_few) (defScope s_Room_few):=mkSc
theorem sc_kinds:FnScope ["_law_e", "_law_found", "_law_words"] (pA s_kinds) (defScope s_kinds):=mkSc
theorem sc_refused:FnScope ["_law_size", "_law_told", "_law_e"] (pA s_refused) (defScope s_refused):=mkSc
theorem sc_empty:FnScope ["_law_room", "_law_size"] (pA s_empty) (defScope s_empty):=mkSc
theorem sc_law:FnScope ["_law_script", "_law_box_here", "_law_size", "_law_room", "_law_other", "_law_bad"] (pA s_law) (defScope s_law):=mkSc
def cStand:Addr:=505
def cRoom:Addr:=801
def cNoTake:Addr:=188
def cBadBar:Addr:=140
def cBadName:Addr:=116
def cTaken:Addr:=164
def cFull:Addr:=176
def cBadAge:Addr:=128
def cBadPlace:Addr:=152
def cBadBars:Addr:=68
def cShut:Addr:=200
def cJoined:Addr:=212
def cNeeded:Addr:=224
def cBadSize:Addr:=248
def cBadMake:Addr:=80
def cBadNumber:Addr:=92
def cBadText:Addr:=104
def cNothingLeft:Addr:=236
def cNoWay:Addr:=267
def cHissError:Addr:=55
def a_put:Addr:=516
def a_join:Addr:=523
def a_found:Addr:=530
def a_aged:Addr:=537
def a_drop:Addr:=542
def a_free:Addr:=549
def a_shut:Addr:=556
abbrev rcs:List Addr:=[cBadBars,cBadMake,cBadNumber,cBadText,cBadName,cBadAge,cBadBar,cBadPlace,cBadSize,cTaken,cFull,cNoTake,cShut,cJoined,cNeeded,cNothingLeft,cNoWay]
section
variable (P:Program)(w:World)(K:PySem.W.Frag)(mg:Str->Option Value)(base:Heap)
abbrev c_box:Prop:=Cal P w K mg base "_law_box" 1 (pA s_box) (spBoxQ K)
abbrev c_take:Prop:=Cal P w K mg base "_law_take" 1 (pA s_take) (spD fTake)
abbrev c_same:Prop:=Cal P w K mg base "_law_same" 6 (pA s_same) (spD fSame)
abbrev c_ends:Prop:=Cal P w K mg base "ends" 1 (pA s_ends) (spD fEnds)
abbrev c_pieces:Prop:=Cal P w K mg base "pieces" 2 (pA s_pieces) (spD fPieces)
abbrev c_bar_of:Prop:=Cal P w K mg base "bar_of" 3 (pA s_bar_of) (spD fBarOf)
abbrev c_is_bars:Prop:=Cal P w K mg base "is_bars" 1 (pA s_is_bars) (spD fIsBars)
abbrev c_joined:Prop:=Cal P w K mg base "joined" 1 (pA s_joined) (spD fJoined)
abbrev c_with_key:Prop:=Cal P w K mg base "with_key" 1 (pA s_with_key) (spD fWith)
abbrev c_without_key:Prop:=Cal P w K mg base "without_key" 1 (pA s_without_key) (spD fWithout)
abbrev c_Stand___init__:Prop:=CalI P w K mg base "Stand" cStand 1 (pA s_Stand___init__) (spD (fStInit cStand))
abbrev c_Stand_check_there:Prop:=CalMX P w K mg base cStand "check_there" 1 (pA s_Stand_check_there) (spX (fThere cStand rcs))
abbrev c_Stand_parts:Prop:=CalMX P w K mg base cStand "parts" 2 (pA s_Stand_parts) (spX (fPartsS cStand rcs))
abbrev c_Stand_source:Prop:=CalMX P w K mg base cStand "source" 3 (pA s_Stand_source) (spX (fSourceS cStand rcs))
abbrev c_Stand_takes_by_names:Prop:=CalM P w K mg base cStand "takes_by_names" 2 (pA s_Stand_takes_by_names) (spD (fByNames cStand))
abbrev c_Stand_shelf:Prop:=CalM P w K mg base cStand "shelf" 3 (pA s_Stand_shelf) (spD (fShelfS cStand))
abbrev c_check_new:Prop:=CalX P w K mg base "check_new" 1 (pA s_check_new) (spX (fNew cStand rcs))
abbrev c_check_age:Prop:=CalX P w K mg base "check_age" 1 (pA s_check_age) (spX (fAgeC rcs))
abbrev c_check_place:Prop:=CalX P w K mg base "check_place" 1 (pA s_check_place) (spX (fPlaceC cStand rcs))
abbrev c_put:Prop:=CalX P w K mg base "put" 6 (pA s_put) (spX (fDeed1 cStand rcs 0))
abbrev c_join:Prop:=CalX P w K mg base "join" 6 (pA s_join) (spX (fDeed1 cStand rcs 1))
abbrev c_found:Prop:=CalX P w K mg base "found" 6 (pA s_found) (spX (fDeed1 cStand rcs 2))
abbrev c_aged:Prop:=CalX P w K mg base "aged" 6 (pA s_aged) (spX (fDeed1 cStand rcs 3))
abbrev c_drop:Prop:=CalX P w K mg base "drop" 6 (pA s_drop) (spX (fDeed1 cStand rcs 4))
abbrev c_free:Prop:=CalX P w K mg base "free" 6 (pA s_free) (spX (fDeed1 cStand rcs 5))
abbrev c_shut:Prop:=CalX P w K mg base "shut" 6 (pA s_shut) (spX (fDeed1 cStand rcs 6))
abbrev c_stand_behind:Prop:=CalX P w K mg base "stand_behind" 7 (pA s_stand_behind) (spX (fBehindS cStand rcs))
abbrev c_Room___init__:Prop:=CalIX P w K mg base "Room" cRoom 3 (pA s_Room___init__) (spX (fRoInit cRoom cStand rcs))
abbrev c_Room_now:Prop:=CalM P w K mg base cRoom "now" 1 (pA s_Room_now) (spD (fNow cRoom cStand))
abbrev c_Room_deed:Prop:=CalMX P w K mg base cRoom "deed" 8 (pA s_Room_deed) (spX (fDeedR cRoom cStand rcs))
abbrev c_Room_deeds:Prop:=CalM P w K mg base cRoom "deeds" 1 (pA s_Room_deeds) (spD (fRowsR cRoom cStand true))
abbrev c_Room_ahead:Prop:=CalM P w K mg base cRoom "ahead" 1 (pA s_Room_ahead) (spD (fRowsR cRoom cStand false))
abbrev c_Room_size:Prop:=CalM P w K mg base cRoom "size" 2 (pA s_Room_size) (spD (fOfNow cRoom cStand gSize))
abbrev c_Room_names:Prop:=CalM P w K mg base cRoom "names" 2 (pA s_Room_names) (spD (fOfNow cRoom cStand gNames))
abbrev c_Room_cuts:Prop:=CalM P w K mg base cRoom "cuts" 5 (pA s_Room_cuts) (spD (fOfNow cRoom cStand gCuts))
abbrev c_Room_takes:Prop:=CalM P w K mg base cRoom "takes" 5 (pA s_Room_takes) (spD (fOfNow cRoom cStand gTakes))
abbrev c_Room_put:Prop:=CalMX P w K mg base cRoom "put" 9 (pA s_Room_put) (spX (fMethR cRoom cStand rcs 0 4))
abbrev c_take_rows:Prop:=Cal P w K mg base "take_rows" 1 (pA s_take_rows) (spD fDead)
abbrev c_youngest:Prop:=Cal P w K mg base "youngest" 1 (pA s_youngest) (spD fDead)
abbrev c_next_reach:Prop:=Cal P w K mg base "next_reach" 1 (pA s_next_reach) (spD fDead)
abbrev c_fewest:Prop:=Cal P w K mg base "fewest" 1 (pA s_fewest) (spD fDead)
abbrev c_best_of:Prop:=Cal P w K mg base "best_of" 1 (pA s_best_of) (spD fDead)
abbrev c_young_paper:Prop:=Cal P w K mg base "young_paper" 1 (pA s_young_paper) (spD fDead)
abbrev c_few_paper:Prop:=Cal P w K mg base "few_paper" 1 (pA s_few_paper) (spD fDead)
abbrev c_least_age:Prop:=Cal P w K mg base "least_age" 4 (pA s_least_age) (spD fLeast0)
abbrev c_answer:Prop:=Cal P w K mg base "answer_papers" 5 (pA s_answer) (spD fAnsw0)
abbrev c_least_and_few:Prop:=Cal P w K mg base "least_and_few" 5 (pA s_least_and_few) (spD (fLaf0 cStand))
abbrev c_Room_answer:Prop:=CalM P w K mg base cRoom "answer" 7 (pA s_Room_answer) (spD (fRoom0 cRoom cStand (.tup [.str "bar",.int 0,.int 1])))
abbrev c_Room_least:Prop:=CalM P w K mg base cRoom "least" 7 (pA s_Room_least) (spD (fRoom0 cRoom cStand .non))
abbrev c_Room_few:Prop:=CalM P w K mg base cRoom "few" 7 (pA s_Room_few) (spD (fRoom0 cRoom cStand .non))
abbrev c_kinds:Prop:=CalH P w K mg base "_law_kinds" 1 (pA s_kinds) (fKindsJ K rcs cHissError)
abbrev c_refused:Prop:=Cal P w K mg base "_law_refused" 5 (pA s_refused) (spD (fRefSz K rcs cHissError))
abbrev c_empty:Prop:=Cal P w K mg base "_law_empty" 8 (pA s_empty) (spD (fEmpty cRoom cStand))
end
section
variable {P:Program}{w:World}{K:PySem.W.Frag}{mg:Str->Option Value}{base:Heap}{f:Addr}{fd:FuncData}
theorem ok_box (F:Fun K "_law_box" "_law_box" s_box f fd)(T:Bi2 mg)  : FnOk P w K mg base CX0 1 f fd (pA s_box) (spBoxQ K):=by
 refine F.ok sc_box (fun vs H Q E h=>?_) (fun cdv A outer s H vs Q E hr h=>?_)
 ·unfold spBoxQ at h;split at h
  ·rfl
  ·exact h.elim
 ·unfold spBoxQ at h;split at h
  ·rename_i a
   obtain⟨ns,hs,k⟩:=h
   refine⟨_,(pss_one (ps_ret (pe_lst (pa_cons (pe_callTy listC (by rfl) T.list bH (pa_cons (pvC 0) pa_nil)) (pa_cons pe_int (pa_cons pe_int (pa_cons pe_int pa_nil))))))),?_⟩
   refine⟨_,hs,fun l hl=>?_⟩
   refine⟨(zs),fun b hb=>?_⟩
   have hlb:l≠b:=ne_of_none (o:=.lst (ns.map V.int)) upd_same hb
   have hb0:H b=none:=by rw[upd_ne hlb.symm]at hb;exact hb
   refine k b l _ ⟨ns,0,0,1,upd_same,by rw[upd_ne hlb];exact upd_same,hlb,by decide,by decide,by decide⟩ hb0 hl fun c o e=>?_
   rw[upd_ne (ne_of_none e hb0),upd_ne (ne_of_none e hl)]
   exact e
  ·exact h.elim
theorem ok_take (F:Fun K "_law_take" "_law_take" s_take f fd)(T:Bi2 mg)  : FnOk P w K mg base CX0 1 f fd (pA s_take) (spD fTake):=by
 refine FnOk.imp (sp:=spTakeQ) ?_ fun vs H Q E h=>take_imp h
 refine F.ok sc_take (fun vs H Q E h=>?_) (fun cdv A outer s H vs Q E hr h=>?_)
 ·obtain⟨b,n,q,rfl,_⟩:=spTakeQ_inv h;rfl
 ·obtain⟨b,n,q,rfl,⟨ns,i,r,z,hb,hq,nqb,hi,hz,hz2⟩,hn,hn2,k⟩:=spTakeQ_inv h
  refine⟨_,(pss_cons (ps_if (pt_cmpC gtC (pe_ix ixC (pvC 0) pe_int (fun _ _=>rfl)) pe_int (nomark _))
   (pss_cons (ps_set (i:=2) sc_take.nd rfl (by first | exact Or.inl rfl | exact Or.inr rfl) (pe_ix ixC (pvC 0) pe_int (fun _ _=>rfl)))
   (pss_cons (ps_asg (pe_op divC (pvC 2) (pvC 1)) (pg_sub (pvC 0) pe_int setC))
   (pss_one (ps_ret (pe_op modC (pvC 2) (pvC 1))))))
   pss_nil)
   (pss_cons (ps_asg (pe_op modC (pe_op addC (pe_op mulC (pe_ix ixC (pvC 0) pe_int (fun _ _=>rfl)) pe_int) pe_int) pe_int) (pg_sub (pvC 0) pe_int setC))
   (pss_cut (ps_if (pt_cmpC ltC (pe_ix ixC (pvC 0) pe_int (fun _ _=>rfl)) (pe_callB lenC (by rfl) T.len cW (pa_cons (pe_ix ixC (pvC 0) pe_int (fun _ _=>rfl)) pa_nil)) (nomark _))
   (pss_cons (ps_set (i:=3) sc_take.nd rfl (by first | exact Or.inl rfl | exact Or.inr rfl) (pe_ix ixC (pe_ix ixC (pvC 0) pe_int (fun _ _=>rfl)) (pe_ix ixC (pvC 0) pe_int (fun _ _=>rfl)) (fun _ _=>rfl)))
   (pss_cons (ps_augS (pvC 0) pe_int getC pe_int ip_addC setC)
   (pss_cons (ps_if (pt_cmpC geC (pvC 3) (pe_op powC pe_int pe_int) (nomark _))
   (pss_cons (ps_asg (pe_op divC (pvC 3) (pvC 1)) (pg_sub (pvC 0) pe_int setC))
   (pss_one (ps_ret (pe_op modC (pvC 3) (pvC 1)))))
   pss_nil)
   (pss_one (ps_asg (pe_op modC (pe_op addC (pe_ix ixC (pvC 0) pe_int (fun _ _=>rfl)) (pe_op mulC (pvC 3) pe_int)) pe_int) (pg_sub (pvC 0) pe_int setC))))))
   pss_nil)
   (pss_cons (ps_set (i:=4) sc_take.nd rfl (by first | exact Or.inl rfl | exact Or.inr rfl) (pe_ix ixC (pvC 0) pe_int (fun _ _=>rfl)))
   (pss_cons (ps_set (i:=5) sc_take.nd rfl (by first | exact Or.inl rfl | exact Or.inr rfl) (pe_op modC (pe_op addC (pe_op mulC (pvC 4) (pvC 4)) (pe_op divC (pvC 4) pe_int)) pe_int))
   (pss_one (ps_ret (pe_op modC (pe_op modC (pe_op addC (pe_op mulC (pvC 5) pe_int) (pvC 4)) pe_int) (pvC 1))))))))),?_⟩
  have fin:∀(v:Int) (H':Hp) (i' r' z':Int),OB b H H'->H' b=some (.lst [.ref q,.int i',.int r',.int z'])->0<=i'->0<=z'->z'<2147483647->Q (.int (v%n)) H':=fun v H' i' r' z' ob hb' h1 h2 h3 =>
   k _ _ (Int.emod_nonneg _ (by omega)) (Int.emod_lt_of_pos _ hn) ⟨ns,i',r',z',hb',(ob q nqb).trans hq,nqb,h1,h2,h3⟩ ob
  have md:∀ x:Int,0<=x%2147483647/\x%2147483647<2147483647:=fun x=>⟨Int.emod_nonneg _ (by decide),Int.emod_lt_of_pos _ (by decide)⟩
  refine⟨_,.inl hb,?_⟩
  refine iteD (fun h1=>?_) (fun h1=>?_)
  ·refine⟨_,.inl hb,⟨hn,hn2⟩,_,hb,hn,?_⟩
   exact fin _ _ _ _ _ OB.refl.upd upd_same hi hz hz2
  ·refine⟨_,.inl hb,.inr ⟨by decide,by decide⟩,pM,_,hb,?_⟩
   have ob1:∀ o,OB b H (upd H b o):=fun o=>OB.refl.upd
   refine⟨fun σ' H'=>∃(c:Option V) (i' r' z':Int),σ'=[some (.ref b),some (.int n),none,c,none,none]/\OB b H H'/\H' b=some (.lst [.ref q,.int i',.int r',.int z'])/\0<=i'/\0<=z'/\z'<2147483647,?_,?_⟩
   ·refine⟨_,.inl upd_same,_,.inl upd_same,_,.inl ((ob1 _ q nqb).trans hq),?_⟩
    refine iteD (fun h2=>?_) (fun h2=>?_)
    ·have h2':i<(ns.length:Int):=by simpa using h2
     obtain⟨c,hc⟩:∃ c,ns[i.toNat]?=some c:=⟨ns[i.toNat]'(by omega),gxA _⟩
     have e:atI (ns.map V.int) i=some (.int c):=by
      have q:=atI_nat (xs:=ns.map V.int) (j:=i.toNat) (v:=.int c) (by rw[gxH,hc];rfl)
      rwa [Int.toNat_of_nonneg hi]at q
     refine⟨_,.inl upd_same,_,.inl upd_same,_,.inl ((ob1 _ q nqb).trans hq),opt_of e ?_⟩
     refine⟨_,upd_same,by decide,_,upd_same,?_⟩
     refine⟨⟨by decide,by decide,by decide⟩,?_⟩
     refine iteD (fun h3=>?_) (fun h3=>?_)
     ·refine⟨⟨hn,hn2⟩,_,upd_same,hn,?_⟩
      exact fin _ _ (i+1) _ _ OB.refl.upd.upd.upd upd_same (by omega) (md _).1 (md _).2
     ·refine⟨_,.inl upd_same,.inr ⟨by decide,by decide⟩,pM,_,upd_same,?_⟩
      exact⟨_,i+1,_,_,rfl,OB.refl.upd.upd.upd,upd_same,by omega,(md _).1,(md _).2⟩
    ·exact⟨_,i,_,_,rfl,OB.refl.upd,upd_same,hi,(md _).1,(md _).2⟩
   ·rintro σ' H' ⟨c,i',r',z',rfl,ob,hb',h1,h2,h3⟩
    refine⟨_,.inl hb',.inl ⟨by omega,by omega⟩,⟨by decide,by decide⟩,pN,.inr ⟨by decide,by decide⟩,pM,hn,?_⟩
    exact fin _ _ i' _ _ ob hb' h1 h2 h3
theorem inv_ends {ds:List D}{μ:MS}{Kd:DK}(h:fEnds ds μ Kd):∃ v0 v1,ds=[.int v0,v1]:=by
 unfold fEnds at h
 rcases ds with _ | ⟨z0,ds⟩
 ·exact False.elim h
 cases z0 <;> first | exact False.elim h | skip
 rcases ds with _ | ⟨z1,ds⟩
 ·exact False.elim h
 rcases ds with _ | ⟨zz,zs⟩
 ·exact⟨_,_,rfl⟩
 ·exact False.elim h
theorem ok_ends (F:Fun K "ends" "ends" s_ends f fd)(T:Bi2 mg)  : FnOk P w K mg base CX0 1 f fd (pA s_ends) (spD fEnds):=by
 refine F.okD sc_ends (fun ds μ Kd h=>by obtain⟨_,_,rfl⟩:=inv_ends h;rfl) (fun cdv A outer s H E hr=>⟨_,(b_one (s_ret (dPl (dPl (d_lst false (a1 d_int)) (d_ty listC (so_list (m:=false)) (by rfl) T.list bH (a1 (dv 1)))) (d_lst false (a1 (dv 0)))))),fun ds μ Kd hm hl h=>?_⟩)
 obtain⟨n,x,rfl⟩:=inv_ends h
 unfold fEnds at h
 ·skip
  obtain⟨cs,ex,hc,kk⟩:=h
  refine⟨zs,opt_of ex ⟨by rw[gxC];exact sz (by show 1+cs.length<=_;omega),zs,by rw[gxE,gxC];exact sz (by show 1+cs.length+1<=_;omega),?_⟩⟩
  rw[ends_map]
  exact .keep kk
theorem prs_zip (es:List Int):List.zipWith (fun a b=>D.tup [a,b]) (es.map D.int) (L2.cutD (es.map D.int) (some 1) none)=(prs es).map prD:=by
 have e:L2.cutD (es.map D.int) (some 1) none=es.tail.map D.int:=by
  unfold L2.cutD
  rw[show(1:Int)=((1:Nat):Int)from rfl,HT.sIx_nat,HT.sIx_none,gxC]
  cases es with
  | nil=>rfl
  | cons a es=>rw[aJ,bY (by omega)];simp[aU]
 rw[e]
 unfold prs
 have key:∀(xs ys:List Int),List.zipWith (fun a b=>D.tup [a,b]) (xs.map D.int) (ys.map D.int)=(xs.zip ys).map prD:=by
  intro xs
  induction xs with
  | nil=>intro ys;simp
  | cons x xs ih =>
   intro ys
   cases ys with
   | nil=>simp
   | cons y ys=>rw[aq,aq,List.zipWith_cons_cons,ih,cP,aq];rfl
 exact key es es.tail
theorem inv_pieces {ds:List D}{μ:MS}{Kd:DK}(h:fPieces ds μ Kd):∃ v0 v1,ds=[.int v0,v1]:=by
 unfold fPieces at h
 rcases ds with _ | ⟨z0,ds⟩
 ·exact False.elim h
 cases z0 <;> first | exact False.elim h | skip
 rcases ds with _ | ⟨z1,ds⟩
 ·exact False.elim h
 rcases ds with _ | ⟨zz,zs⟩
 ·exact⟨_,_,rfl⟩
 ·exact False.elim h
theorem ok_pieces (F:Fun K "pieces" "pieces" s_pieces f fd)(T:Bi2 mg)(C_ends:c_ends P w K mg base):FnOk P w K mg base CX0 2 f fd (pA s_pieces) (spD fPieces):=by
 refine F.okD sc_pieces (fun ds μ Kd h=>by obtain⟨_,_,rfl⟩:=inv_pieces h;rfl) (fun cdv A outer s H E hr=>⟨_,(b_cons (qS 2 sc_pieces.nd (qC C_ends hr (a2 (dv 0) (dv 1))))
  (b_one (s_ret (d_listZip false rfl (by rfl) T.list (by rfl) T.zip (a2 (dv 2) (d_slice false (dv 2) (o_some d_int) o_no)))))),fun ds μ Kd hm hl h=>?_⟩)
 obtain⟨n,x,rfl⟩:=inv_pieces h
 unfold fPieces at h
 ·skip
  obtain⟨cs,ex,hc,kk⟩:=h
  refine⟨cs,ex,hc,?_⟩
  show Fz _ _ (.lst (List.zipWith (fun a b=>D.tup [a,b]) ((endsOf n cs).map D.int) (L2.cutD ((endsOf n cs).map D.int) (some 1) none))) μ
  rw[prs_zip]
  exact .keep kk
theorem inv_bar_of {ds:List D}{μ:MS}{Kd:DK}(h:fBarOf ds μ Kd):∃ v0 v1 v2,ds=[.int v0,v1,v2]:=by
 unfold fBarOf at h
 rcases ds with _ | ⟨z0,ds⟩
 ·exact False.elim h
 cases z0 <;> first | exact False.elim h | skip
 rcases ds with _ | ⟨z1,ds⟩
 ·exact False.elim h
 rcases ds with _ | ⟨z2,ds⟩
 ·exact False.elim h
 rcases ds with _ | ⟨zz,zs⟩
 ·exact⟨_,_,_,rfl⟩
 ·exact False.elim h
theorem ok_bar_of (F:Fun K "bar_of" "bar_of" s_bar_of f fd)(T:Bi2 mg)(C_pieces:c_pieces P w K mg base):FnOk P w K mg base CX0 3 f fd (pA s_bar_of) (spD fBarOf):=by
 refine F.okD sc_bar_of (fun ds μ Kd h=>by obtain⟨_,_,_,rfl⟩:=inv_bar_of h;rfl) (fun cdv A outer s H E hr=>⟨_,(b_cons (s_for PassesOwn.never rfl (i_list (qC C_pieces hr (a2 (dv 0) (dv 1)))) ⟨(pg_tupC (n:=2) rfl (pgs_consC (qN 3 sc_bar_of.nd) (pgs_consC (qN 4 sc_bar_of.nd) pgs_nilC))),(so_tup (so_cons (so_name 3) (mo_name 3) (so_cons (so_name 4) (mo_name 4) so_nil mo_nil) (mo_cons (mo_name 4) mo_nil))),(mo_tup (mo_cons (mo_name 3) (mo_cons (mo_name 4) mo_nil)))⟩
  (b_one (s_if (d_testV (d_blt (allC rfl) so_all (by rfl) T.all cx (a1 (dCp false (cOk (N:=["text", "age", "first", "behind"]) (js:=[none,none,some 3,some 4]) sc_bar_of (by decide +kernel)) (so_tup (so_cons (so_name 0) (mo_name 0) (so_cons (so_name 1) (mo_name 1) so_nil mo_nil) (mo_cons (mo_name 1) mo_nil))) (mo_tup (mo_cons (mo_name 0) (mo_cons (mo_name 1) mo_nil))) (i_list (dv 2)) (fun _ _ _ nd=>(pg_tupC (n:=2) rfl (pgs_consC (qN 0 nd) (pgs_consC (qN 1 nd) pgs_nilC)))) (fun _ _ _=>ts_nil) (fun _ _ _=>(d_cmp inC so_in d_str (d_slice false (dv 0) (o_some (dv 2)) (o_some (dv 3))) (by with_unfolding_all rfl)))))))
  (b_one (s_ret (d_tup (a2 (dv 3) (dv 4)))))
  b_nil)))
  (b_one (s_ret d_non))),fun ds μ Kd hm hl h=>?_⟩)
 obtain⟨n,x,y,rfl⟩:=inv_bar_of h
 unfold fBarOf at h
 ·skip
  obtain⟨cs,ts,ex,ey,hc,ht,hn,kk⟩:=h
  refine⟨cs,ex,hc,?_⟩
  refine forW_inv (fun ds ρ μ'=>∃(ps:List (Int×Int)) (a b:Option D),ds=ps.map prD/\barOf (endsOf n cs) ts=ps.find? (bad ts)/\ρ=[some (.int n),some x,some y,a,b]/\μ'=μ) ⟨_,none,none,rfl,rfl,rfl,rfl⟩ ?_ ?_
  ·rintro d ds' ρ μ' ⟨ps,a,b,e,hf,rfl,rfl⟩
   refine⟨trivial,fun nx hnx=>?_⟩
   cases ps with
   | nil=>cases e
   | cons p ps =>
    cases e
    refine⟨rfl,?_⟩
    refine opt_of ey ⟨by rw[gxC];exact sz (by have:=ht.few;omega),?_⟩
    refine compW_map (lc_of ey) (fun d=>match d with | .tup [.str z,_]=>some (.bl (decide (120∈cutL z.cps.toList (some p.1) (some p.2)))) | _=>none) (fun d hd K' k'=>?_) ?_
    ·obtain⟨t,ht',rfl⟩:=List.mem_map.mp hd
     have hz:=ht.ok t ht'
     refine⟨rfl,?_⟩
     refine⟨by rw[txt_len];exact sz (by omega),120,rfl,?_⟩
     rw[fne]
     exact k'
    ·refine⟨ts.map fun t=>decide (120∈cutN t.1 p.1 p.2),?_,?_⟩
     ·show some _=_
      rw[List.filterMap_map,aK]
      congr 1
      rw[<- List.filterMap_eq_map]
      rfl
     ·have eb:(ts.map fun t=>decide (120∈cutN t.1 p.1 p.2)).all id=bad ts p:=by unfold bad;rw[List.all_map];rfl
      rw[bj,<- eb]at hf
      refine iteB (b:=(ts.map fun t=>decide (120∈cutN t.1 p.1 p.2)).all id) (fun hb=>?_) (fun hb=>?_)
      ·refine⟨zs,.keep ?_⟩
       rw[hb]at hf
       rw[hf]at kk
       exact kk
      ·rw[hb]at hf
       exact hnx _ _ ⟨ps,_,_,rfl,hf,rfl,rfl⟩
  ·rintro ρ μ' ⟨ps,a,b,e,hf,rfl,rfl⟩
   cases ps with
   | nil =>
    rw[hf]at kk
    exact⟨trivial,.keep kk⟩
   | cons p ps=>cases e
theorem ok_same1 (n:Nat){f:Addr}{fd:FuncData}(F:Fun K "_law_same" "_law_same" s_same f fd)(T:Bi2 mg)(C_same:Cal P w K mg base "_law_same" n ["_law_found", "_law_due"] (spS n)):FnOk P w K mg base CX0 (n+1) f fd ["_law_found", "_law_due"] (spSame n):=by
 refine F.ok sc_same (fun vs H Q E h=>?_) (fun cdv A outer s H vs Q E hr h=>?_)
 ·unfold spSame at h;split at h
  ·rfl
  ·exact h.elim
 ·unfold spSame at h;split at h
  ·rename_i x y
   obtain⟨d,hd,hw,hx,hy,k⟩:=h
   refine⟨_,(pss_cons (ps_if (PW.pt (pw_or (pt_valC (pe_callB isiC (by rfl) T.isinstance aD (pa_cons (pvC 1) (pa_cons (pe_bltn (v:=.ty "bool") rfl T.bool cn rfl) pa_nil)))) (pw_or1 (pt_valC (pe_callB isiC (by rfl) T.isinstance aD (pa_cons (pvC 0) (pa_cons (pe_bltn (v:=.ty "bool") rfl T.bool cn rfl) pa_nil)))))))
   (pss_one (ps_ret (pe_andC (pe_callB isiC (by rfl) T.isinstance aD (pa_cons (pvC 1) (pa_cons (pe_bltn (v:=.ty "bool") rfl T.bool cn rfl) pa_nil))) (pe_andC (pe_callB isiC (by rfl) T.isinstance aD (pa_cons (pvC 0) (pa_cons (pe_bltn (v:=.ty "bool") rfl T.bool cn rfl) pa_nil))) (pe_one (pe_cmpR eqN (pvC 0) (pvC 1) (nomark _)))))))
   pss_nil)
   (pss_cons (ps_if (PW.pt (pw_or (pt_valC (pe_callB isiC (by rfl) T.isinstance aD (pa_cons (pvC 1) (pa_cons (pe_bltn (v:=.ty "list") rfl T.list bH rfl) pa_nil)))) (pw_or1 (pt_valC (pe_callB isiC (by rfl) T.isinstance aD (pa_cons (pvC 1) (pa_cons (pe_bltn (v:=.ty "tuple") rfl T.tuple cU rfl) pa_nil)))))))
   (pss_cons (ps_if (PW.pt (pw_or (pt_cmpC neC (pe_callB isiC (by rfl) T.isinstance aD (pa_cons (pvC 1) (pa_cons (pe_bltn (v:=.ty "list") rfl T.list bH rfl) pa_nil))) (pe_callB isiC (by rfl) T.isinstance aD (pa_cons (pvC 0) (pa_cons (pe_bltn (v:=.ty "list") rfl T.list bH rfl) pa_nil))) (nomark _)) (pw_or1 (pt_cmpC neC (pe_callB isiC (by rfl) T.isinstance aD (pa_cons (pvC 1) (pa_cons (pe_bltn (v:=.ty "tuple") rfl T.tuple cU rfl) pa_nil))) (pe_callB isiC (by rfl) T.isinstance aD (pa_cons (pvC 0) (pa_cons (pe_bltn (v:=.ty "tuple") rfl T.tuple cU rfl) pa_nil))) (nomark _)))))
   (pss_one (ps_ret pe_bl))
   pss_nil)
   (pss_one (ps_ret (pe_andC (pe_cmpR eqC (pe_callB lenC (by rfl) T.len cW (pa_cons (pvC 0) pa_nil)) (pe_callB lenC (by rfl) T.len cW (pa_cons (pvC 1) pa_nil)) (nomark _)) (pe_one (pe_callB (allC rfl) (by rfl) T.all cx (pa_cons (pe_comp (compOk (XN:=["_law_found", "_law_due"]) (xsc:=(defScope s_same)) (N:=["_law_one", "_law_other"]) (js:=[none,none]) (by decide +kernel)) rfl (pi_zip rfl T.zip (pa_cons (pvC 0) (pa_cons (pvC 1) pa_nil))) (fun _ _ _=>(pg_tupC (n:=2) rfl (pgs_consC (pg_name (i:=0) (show List.Nodup (["_law_one", "_law_other"]:List Str) by decide +kernel) rfl (by first | exact Or.inl rfl | exact Or.inr rfl)) (pgs_consC (pg_name (i:=1) (show List.Nodup (["_law_one", "_law_other"]:List Str) by decide +kernel) rfl (by first | exact Or.inl rfl | exact Or.inr rfl)) pgs_nilC)))) (fun _ _ _=>pts_nil) (fun _ _ _=>(pe_callC C_same (hr.mono (by first | decide | exact aa _ | omega)) rfl (pa_cons (pvC 0) (pa_cons (pvC 1) pa_nil))))) pa_nil)))))))
   pss_nil)
   (pss_cons (ps_if (PW.pt (pw_or (pt_cmpC neC (pe_callB isiC (by rfl) T.isinstance aD (pa_cons (pvC 1) (pa_cons (pe_bltn (v:=.ty "str") rfl T.str PyProof.Rows.boot_str rfl) pa_nil))) (pe_callB isiC (by rfl) T.isinstance aD (pa_cons (pvC 0) (pa_cons (pe_bltn (v:=.ty "str") rfl T.str PyProof.Rows.boot_str rfl) pa_nil))) (nomark _)) (pw_or1 (pt_cmpC neC (pe_callB isiC (by rfl) T.isinstance aD (pa_cons (pvC 1) (pa_cons (pe_bltn (v:=.ty "int") rfl T.int PyProof.Rows.boot_int rfl) pa_nil))) (pe_callB isiC (by rfl) T.isinstance aD (pa_cons (pvC 0) (pa_cons (pe_bltn (v:=.ty "int") rfl T.int PyProof.Rows.boot_int rfl) pa_nil))) (nomark _)))))
   (pss_one (ps_ret pe_bl))
   pss_nil)
   (pss_one (ps_ret (pe_cmpR eqN (pvC 0) (pvC 1) (nomark _))))))),?_⟩
   cases d with
   | bl b =>
    obtain rfl:x=.bl b:=hx
    obtain rfl:y=.bl b:=hy
    refine⟨_,true,TyOf.bl b,kit_same K _,_,true,TyOf.bl b,kit_same K _,_,true,TyOf.bl b,kit_same K _,?_⟩
    show Q (.bl (decide (b=b))) H
    rw[au rfl]
    exact k H (Same.refl H)
   | int i =>
    obtain rfl:x=.int i:=hx
    obtain rfl:y=.int i:=hy
    refine⟨_,false,.int i,rfl,_,false,.int i,rfl,_,false,.int i,rfl,_,false,.int i,rfl,_,false,.int i,rfl,_,false,.int i,rfl,_,true,.int i,kit_same K _,_,true,.int i,kit_same K _,?_⟩
    show Q (.bl (decide (i=i))) H
    rw[au rfl]
    exact k H (Same.refl H)
   | str z =>
    obtain rfl:x=.str z:=hx
    obtain rfl:y=.str z:=hy
    refine⟨_,false,.str z,rfl,_,false,.str z,rfl,_,false,.str z,rfl,_,false,.str z,rfl,_,true,.str z,kit_same K _,_,true,.str z,kit_same K _,_,false,.str z,rfl,_,false,.str z,rfl,?_⟩
    show Q (.bl (decide (z=z))) H
    rw[au rfl]
    exact k H (Same.refl H)
   | non =>
    obtain rfl:x=.non:=hx
    obtain rfl:y=.non:=hy
    refine⟨_,false,.non,rfl,_,false,.non,rfl,_,false,.non,rfl,_,false,.non,rfl,_,false,.non,rfl,_,false,.non,rfl,_,false,.non,rfl,_,false,.non,rfl,?_⟩
    exact k H (Same.refl H)
   | lst ds =>
    obtain⟨p,vs,rfl,hp,qp⟩:=hx
    obtain⟨q,ws,rfl,hq,qq⟩:=hy
    obtain⟨m,rfl⟩:∃ m,n=m+1:=⟨n - 1,by unfold dep at hd;omega⟩
    have hd':depL ds<=m:=by unfold dep at hd;omega
    have hw1:ds.length<sizeLine:=by unfold wid at hw;omega
    have hw2:widL ds<sizeLine:=by unfold wid at hw;omega
    have len:vs.length=ws.length:=by rw[qp.len,qq.len]
    refine⟨_,false,TyOf.lst hq,rfl,_,false,TyOf.lst hp,rfl,_,true,TyOf.lst hq,kit_same K _,_,true,TyOf.lst hq,kit_same K _,_,true,TyOf.lst hp,kit_same K _,_,false,TyOf.lst hq,rfl,_,false,TyOf.lst hp,rfl,?_⟩
    refine⟨_,.inl hp,_,.inl hq,?_⟩
    refine iteDf (fun _=>?_) (fun h=>(h (by rw[len])).elim)
    refine⟨false,_,_,hp,hq,?_⟩
    refine compZip len (fun i ys H'=>ys=List.replicate i (V.bl true)/\Same H H') ⟨rfl,Same.refl H⟩ (fun i ys H' h=>⟨h.2 _ _ hp,h.2 _ _ hq⟩) ?_ ?_
    ·rintro i x' y' ys H' T' hi ex ey ⟨rfl,S⟩ hT
     refine⟨_,upd_same,rfl,Ext.own2,?_⟩
     obtain⟨d1,e1,i1⟩:=qp.get ex
     obtain⟨d2,e2,i2⟩:=qq.get ey
     rw[e1]at e2;cases e2
     have S2:Same H (upd H' T' (.tup [x',y'])):=S.trans (Same.upd hT)
     refine⟨d1,aB (depL_get e1) hd',bV (widL_get e1) hw2,i1.mono S2 _ _,i2.mono S2 _ _,fun H3 S3=>?_⟩
     exact cnx hi (by rw[bA];have:=qp.len;omega) ⟨by rw[List.replicate_succ'],S2.trans S3⟩
    ·rintro ys H' ⟨rfl,S⟩ D hD
     refine⟨List.replicate vs.length true,by rw[upd_same,List.map_replicate],?_⟩
     have e:(List.replicate vs.length true).all id=true:=by rw[bS];intro b hb;rw[(List.mem_replicate.mp hb).2];rfl
     show Q (.bl ((List.replicate vs.length true).all id)) (upd H' D (.lst (List.replicate vs.length (V.bl true))))
     rw[e]
     exact k _ (S.trans (Same.upd hD))
   | tup ds =>
    obtain⟨p,vs,rfl,hp,qp⟩:=hx
    obtain⟨q,ws,rfl,hq,qq⟩:=hy
    obtain⟨m,rfl⟩:∃ m,n=m+1:=⟨n - 1,by unfold dep at hd;omega⟩
    have hd':depL ds<=m:=by unfold dep at hd;omega
    have hw1:ds.length<sizeLine:=by unfold wid at hw;omega
    have hw2:widL ds<sizeLine:=by unfold wid at hw;omega
    have len:vs.length=ws.length:=by rw[qp.len,qq.len]
    refine⟨_,false,TyOf.tup hq,rfl,_,false,TyOf.tup hp,rfl,_,false,TyOf.tup hq,rfl,_,true,TyOf.tup hq,kit_same K _,_,false,TyOf.tup hq,rfl,_,false,TyOf.tup hp,rfl,_,true,TyOf.tup hq,kit_same K _,_,true,TyOf.tup hp,kit_same K _,?_⟩
    refine⟨_,.inr hp,_,.inr hq,?_⟩
    refine iteDf (fun _=>?_) (fun h=>(h (by rw[len])).elim)
    refine⟨true,_,_,hp,hq,?_⟩
    refine compZip len (fun i ys H'=>ys=List.replicate i (V.bl true)/\Same H H') ⟨rfl,Same.refl H⟩ (fun i ys H' h=>⟨h.2 _ _ hp,h.2 _ _ hq⟩) ?_ ?_
    ·rintro i x' y' ys H' T' hi ex ey ⟨rfl,S⟩ hT
     refine⟨_,upd_same,rfl,Ext.own2,?_⟩
     obtain⟨d1,e1,i1⟩:=qp.get ex
     obtain⟨d2,e2,i2⟩:=qq.get ey
     rw[e1]at e2;cases e2
     have S2:Same H (upd H' T' (.tup [x',y'])):=S.trans (Same.upd hT)
     refine⟨d1,aB (depL_get e1) hd',bV (widL_get e1) hw2,i1.mono S2 _ _,i2.mono S2 _ _,fun H3 S3=>?_⟩
     exact cnx hi (by rw[bA];have:=qp.len;omega) ⟨by rw[List.replicate_succ'],S2.trans S3⟩
    ·rintro ys H' ⟨rfl,S⟩ D hD
     refine⟨List.replicate vs.length true,by rw[upd_same,List.map_replicate],?_⟩
     have e:(List.replicate vs.length true).all id=true:=by rw[bS];intro b hb;rw[(List.mem_replicate.mp hb).2];rfl
     show Q (.bl ((List.replicate vs.length true).all id)) (upd H' D (.lst (List.replicate vs.length (V.bl true))))
     rw[e]
     exact k _ (S.trans (Same.upd hD))
  ·exact h.elim
theorem ok_same {f:Addr}{fd:FuncData}(F:Fun K "_law_same" "_law_same" s_same f fd)(T:Bi2 mg)(hm:mg "_law_same"=some (.ref f))(hk:PySem.W.keepIn K (.ref f)=true)(hb:Binds K fd ["_law_found", "_law_due"] []):∀ n,FnOk P w K mg base CX0 (n+1) f fd ["_law_found", "_law_due"] (spSame n)
 | 0=>ok_same1 0 F T ⟨f,fd,⟨fun _ _ _ _ h=>h.elim,fun _ _ _ _ _ _ _ _ _ _ _ _ _ h=>h.elim⟩,hm,hk,hb⟩
 | n+1=>ok_same1 (n+1) F T ⟨f,fd,ok_same F T hm hk hb n,hm,hk,hb⟩
theorem ok_joined (F:Fun K "joined" "joined" s_joined f fd)(T:Bi2 mg)  : FnOk P w K mg base CX0 1 f fd (pA s_joined) (spD fJoined):=by
 refine F.okD sc_joined (fun ds μ Kd h=>by unfold fJoined at h;split at h <;> first | rfl | exact h.elim) (fun cdv A outer s H E hr=>⟨_,(b_cons (s_asg (dv 0) ⟨(pg_tupC (n:=2) rfl (pgs_consC (qN 3 sc_joined.nd) (pgs_consC (qN 4 sc_joined.nd) pgs_nilC))),(so_tup (so_cons (so_name 3) (mo_name 3) (so_cons (so_name 4) (mo_name 4) so_nil mo_nil) (mo_cons (mo_name 4) mo_nil))),(mo_tup (mo_cons (mo_name 3) (mo_cons (mo_name 4) mo_nil)))⟩)
  (b_cons (s_asg (dv 1) ⟨(pg_tupC (n:=2) rfl (pgs_consC (qN 5 sc_joined.nd) (pgs_consC (qN 6 sc_joined.nd) pgs_nilC))),(so_tup (so_cons (so_name 5) (mo_name 5) (so_cons (so_name 6) (mo_name 6) so_nil mo_nil) (mo_cons (mo_name 6) mo_nil))),(mo_tup (mo_cons (mo_name 5) (mo_cons (mo_name 6) mo_nil)))⟩)
  (b_cons (qS 7 sc_joined.nd (d_blt (maxC rfl) so_max (by rfl) T.max PyProof.Rows.boot_max (a2 (dv 2) d_int)))
  (b_one (s_ret (d_tup (a2 (dPl (d_slice false (dv 3) o_no (o_some (dv 7))) (d_slice false (dv 5) (o_some (dv 7)) o_no)) (dPl (d_blt (maxC rfl) so_max (by rfl) T.max PyProof.Rows.boot_max (a2 (dv 4) (dv 6))) d_int)))))))),fun ds μ Kd hm hl h=>?_⟩)
 unfold fJoined at h
 split at h
 ·rename_i z a y b p
  obtain⟨x,u,rfl,rfl,rfl,rfl,hp,hx,hu,kk⟩:=h
  have lz1:(txt x.1).length<=sizeLine:=by rw[txt_len];exact sz (by omega)
  have lz2:(txt u.1).length<=sizeLine:=by rw[txt_len];exact sz (by omega)
  have c1:=cutL_le x.1 none (some (max p 0))
  have c2:=cutL_le u.1 (some (max p 0)) none
  refine⟨rfl,rfl,lz1,lz2,?_,zs,.keep ?_⟩
  ·show(txt (cutL x.1 none (some (max p 0)))).length+(txt (cutL u.1 (some (max p 0)) none)).length<=sizeLine
   rw[txt_len,txt_len];exact sz (by omega)
  ·show Kd (.tup [.str (txt (cutL x.1 none (some (max p 0)))++txt (cutL u.1 (some (max p 0)) none)),.int (max x.2 u.2+1)]) μ
   rw[show max p 0=p by omega,app_str,cutL_to hp,cutL_from hp]
   exact kk
 ·exact h.elim
theorem inv_is_bars {ds:List D}{μ:MS}{Kd:DK}(h:fIsBars ds μ Kd):∃ v0 v1,ds=[.int v0,.str v1]:=by
 unfold fIsBars at h
 rcases ds with _ | ⟨z0,ds⟩
 ·exact False.elim h
 cases z0 <;> first | exact False.elim h | skip
 rcases ds with _ | ⟨z1,ds⟩
 ·exact False.elim h
 cases z1 <;> first | exact False.elim h | skip
 rcases ds with _ | ⟨zz,zs⟩
 ·exact⟨_,_,rfl⟩
 ·exact False.elim h
theorem ok_is_bars (F:Fun K "is_bars" "is_bars" s_is_bars f fd)(T:Bi2 mg)  : FnOk P w K mg base CX0 1 f fd (pA s_is_bars) (spD fIsBars):=by
 refine F.okD sc_is_bars (fun ds μ Kd h=>by obtain⟨_,_,rfl⟩:=inv_is_bars h;rfl) (fun cdv A outer s H E hr=>⟨_,(b_one (s_ret (d_and (d_cmp eqC so_eqS (dLn T (dv 1)) (dv 0) (nomark _)) (d_one (d_cmp eqC so_eqS (dPl (d_mt PySem.F.plainAttrs_str PySem.F.slot_str_count PySem.F.type_str_count countC so_count (dv 1) (a1 d_str)) (d_mt PySem.F.plainAttrs_str PySem.F.slot_str_count PySem.F.type_str_count countC so_count (dv 1) (a1 d_str))) (dv 0) (nomark _)))))),fun ds μ Kd hm hl h=>?_⟩)
 obtain⟨n,z,rfl⟩:=inv_is_bars h
 unfold fIsBars at h
 ·skip
  obtain⟨hz,kk⟩:=h
  refine⟨sz (by omega),?_⟩
  have ox:(((z.cps.toList.count 111:Nat):Int)+((z.cps.toList.count 120:Nat):Int)=n/\((z.length:Nat):Int)=n)↔(((z.length:Nat):Int)=n/\oxB z=true):=by
   have:=cnt_ox z.cps.toList
   have lz:z.length=z.cps.toList.length:=(bQ (xs:=z.cps)).symm
   constructor
   ·rintro⟨h1,h2⟩;exact⟨h2,this.mp (by omega)⟩
   ·rintro⟨h1,h2⟩;have:=this.mpr h2;exact⟨by omega,h1⟩
  refine iteDf (c:=((z.length:Nat):Int)=n) (fun e=>?_) (fun e=>?_)
  ·refine⟨rfl,111,rfl,rfl,120,rfl,?_⟩
   have:decide (((z.length:Nat):Int)=n/\oxB z=true)=decide (((z.cps.toList.count 111:Nat):Int)+((z.cps.toList.count 120:Nat):Int)=n):=by
    by_cases q:((z.cps.toList.count 111:Nat):Int)+((z.cps.toList.count 120:Nat):Int)=n
    ·rw[au q,au (ox.mp ⟨q,e⟩)]
    ·rw[ai q,ai fun y=>q (ox.mpr y).1]
   rw[this]at kk
   show Fz _ Kd (.bl (false != decide (((z.cps.toList.count 111:Nat):Int)+((z.cps.toList.count 120:Nat):Int)=n))) μ
   rw[fne]
   exact .keep kk
  ·rw[ai (fun y=>e y.1)]at kk
   exact .keep kk
theorem inv_with_key {ds:List D}{μ:MS}{Kd:DK}(h:fWith ds μ Kd):∃ v0 v1 v2 v3,ds=[.fdc v0 v1,v2,v3]:=by
 unfold fWith at h
 rcases ds with _ | ⟨z0,ds⟩
 ·exact False.elim h
 cases z0 <;> first | exact False.elim h | skip
 rcases ds with _ | ⟨z1,ds⟩
 ·exact False.elim h
 rcases ds with _ | ⟨z2,ds⟩
 ·exact False.elim h
 rcases ds with _ | ⟨zz,zs⟩
 ·exact⟨_,_,_,_,rfl⟩
 ·exact False.elim h
theorem ok_with_key (F:Fun K "with_key" "with_key" s_with_key f fd)(T:Bi2 mg)  : FnOk P w K mg base CX0 1 f fd (pA s_with_key) (spD fWith):=by
 refine F.okD sc_with_key (fun ds μ Kd h=>by obtain⟨_,_,_,_,rfl⟩:=inv_with_key h;rfl) (fun cdv A outer s H E hr=>⟨_,(b_cons (qS 3 sc_with_key.nd (d_ty dictC so_dictF (by rfl) T.dict PyProof.Rows.boot_dict (a1 (dv 0))))
  (b_cons (s_asgKM (hu_of hr) (dv 2) (dv 3) (dv 1))
  (b_one (s_ret (d_frz (dv 3)))))),fun ds μ Kd hm hl h=>?_⟩)
 obtain⟨ks,es,y,v,rfl⟩:=inv_with_key h
 unfold fWith at h
 ·skip
  obtain⟨kd,k,rfl,rfl,hl2,hk,kk⟩:=h
  refine opt_of rfl ?_
  refine⟨kd,dput kd k v,end_at,bV hl2 (by decide),by rw[hk];rfl,?_⟩
  rw[set_end]
  refine⟨_,_,end_at,fun o kvs hks=>?_⟩
  rw[set_end]
  refine Fz.fdc (aa _) end_at (mr_dput hl.1 hl.2.2.1) (old_app hm) ?_
  rw[bf,hks]
  exact kk
theorem inv_without_key {ds:List D}{μ:MS}{Kd:DK}(h:fWithout ds μ Kd):∃ v0 v1 v2,ds=[.fdc v0 v1,v2]:=by
 unfold fWithout at h
 rcases ds with _ | ⟨z0,ds⟩
 ·exact False.elim h
 cases z0 <;> first | exact False.elim h | skip
 rcases ds with _ | ⟨z1,ds⟩
 ·exact False.elim h
 rcases ds with _ | ⟨zz,zs⟩
 ·exact⟨_,_,_,rfl⟩
 ·exact False.elim h
theorem ok_without_key (F:Fun K "without_key" "without_key" s_without_key f fd)(T:Bi2 mg)  : FnOk P w K mg base CX0 1 f fd (pA s_without_key) (spD fWithout):=by
 refine F.okD sc_without_key (fun ds μ Kd h=>by obtain⟨_,_,_,rfl⟩:=inv_without_key h;rfl) (fun cdv A outer s H E hr=>⟨_,(b_one (s_ret (d_frz (d_compM (cOk (N:=["other", "thing", "key"]) (js:=[none,none,some 1]) sc_without_key (by decide +kernel)) rfl (so_tup (so_cons (so_name 0) (mo_name 0) (so_cons (so_name 1) (mo_name 1) so_nil mo_nil) (mo_cons (mo_name 1) mo_nil))) (mo_tup (mo_cons (mo_name 0) (mo_cons (mo_name 1) mo_nil))) rfl (i_itemsF (dv 0)) (fun _ _ _=>(pg_tupC (n:=2) rfl (pgs_consC (qN 0 (show List.Nodup (["other", "thing", "key"]:List Str) by decide +kernel)) (pgs_consC (qN 1 (show List.Nodup (["other", "thing", "key"]:List Str) by decide +kernel)) pgs_nilC)))) (fun _ _ _=>(ts_one (qNe (dv 0) (dv 2)))) (fun _ _ _=>(dv 0)) (fun _ _ _=>(dv 1)))))),fun ds μ Kd hm hl h=>?_⟩)
 obtain⟨ks,es,y,rfl⟩:=inv_without_key h
 unfold fWithout at h
 ·skip
  obtain⟨kd,k,rfl,rfl,hl2,nd,hk,hs,kk⟩:=h
  intro hlen
  rw[items_map]
  refine⟨by rw[gxC];exact sz (by omega),?_⟩
  refine dcompX_filter (fun p=>decide (p.1≠k)) kd [] _ nd (fun p hp μ' K' k'=>?_) ?_
  ·refine⟨rfl,?_⟩
   rcases hs p hp with⟨i,j,e1,rfl⟩ | ⟨i,j,e1,rfl⟩
   ·obtain⟨pk,pv⟩:=p
    cases e1
    cases y with
    | int y =>
     cases hk
     refine iteDn (c:=i=j) (fun q=>?_) (fun q=>?_)
     ·have k':K' (if decide (ikey i≠ikey j)=true then some (ikey i,pv)else none) μ':=k'
      rw[au (show ikey i≠ikey j from fun z=>q (ikey_inj _ _ z))]at k';exact k'
     ·have k':K' (if decide (ikey i≠ikey j)=true then some (ikey i,pv)else none) μ':=k'
      rw[ai (show ¬ ikey i≠ikey j from fun z=>z (by rw[q]))]at k';exact k'
    | _=>cases hk
   ·obtain⟨pk,pv⟩:=p
    cases e1
    cases y with
    | str y =>
     cases hk
     refine iteDn (c:=i=j) (fun q=>?_) (fun q=>?_)
     ·have k':K' (if decide (skey i≠skey j)=true then some (skey i,pv)else none) μ':=k'
      rw[au (show skey i≠skey j from fun z=>q (skey_inj _ _ z))]at k';exact k'
     ·have k':K' (if decide (skey i≠skey j)=true then some (skey i,pv)else none) μ':=k'
      rw[ai (show ¬ skey i≠skey j from fun z=>z (by rw[q]))]at k';exact k'
    | _=>cases hk
  ·refine⟨_,_,end_at,fun o kvs hks=>?_⟩
   rw[set_end]
   refine Fz.fdc (aa _) end_at (mr_all fun d hd=>?_) (old_app hm) ?_
   ·obtain⟨p,hp,rfl⟩:=List.mem_map.mp hd
    exact mrL_mem hl.1 (List.mem_map.mpr ⟨p,(List.mem_filter.mp hp).1,rfl⟩)
   ·rw[bf,hks]
    exact kk
theorem ok_Stand___init__ (F:Fun K "__init__" "Stand.__init__" s_Stand___init__ f fd)(T:Bi2 mg)(Z_Stand:ZStand K cStand):FnOk P w K mg base CX0 1 f fd (pA s_Stand___init__) (spD (fStInit cStand)):=by
 refine F.okD sc_Stand___init__ (fun ds μ Kd h=>by unfold fStInit at h;split at h <;> first | rfl | exact h.elim) (fun cdv A outer s H E hr=>⟨_,(b_cons (s_fld Z_Stand.cl Z_Stand.n_length (dv 1) (dv 0))
  (b_cons (s_fld Z_Stand.cl Z_Stand.n_made_of (dv 2) (dv 0))
  (b_cons (s_fld Z_Stand.cl Z_Stand.n_firsts (dv 3) (dv 0))
  (b_one (s_fld Z_Stand.cl Z_Stand.n_closed (dv 4) (dv 0)))))),fun ds μ Kd hm hl h=>?_⟩)
 unfold fStInit at h
 split at h
 ·rename_i k n a b c
  obtain⟨em,kk⟩:=h
  have hk:k<μ.length:=(gxB em).1
  have st:∀ ns ds,(μ.set k (.ins cStand ns ds))[k]?=some (.ins cStand ns ds):=fun ns ds=>aw hk
  refine⟨_,_,insM_of em,rfl,by decide,?_⟩
  refine⟨_,_,insM_of (st _ _),rfl,by show 1<1000;decide,?_⟩
  rw[cZ]
  refine⟨_,_,insM_of (st _ _),rfl,by show 2<1000;decide,?_⟩
  rw[cZ]
  refine⟨_,_,insM_of (st _ _),rfl,by show 3<1000;decide,?_⟩
  rw[cZ]
  exact .keep kk
 ·exact h.elim
theorem ok_Stand_check_there (F:Fun K "check_there" "Stand.check_there" s_Stand_check_there f fd)(T:Bi2 mg)(Z_Stand:ZStand K cStand)(O_NoTake:OwnCls "NoTake" cNoTake veB "ValueError.__new__" mg base):FnOk P w K mg base (CX1 P w) 1 f fd (pA s_Stand_check_there) (spX (fThere cStand rcs)):=by
 refine F.okX sc_Stand_check_there (fun ds μ Kd Kx h=>fThere_len h) (fun cdv A outer s H E hr φ0 Kb Z=>⟨_,(b_one (s_if (t_notinF (hu_of hr) (dv 1) (d_fld Z_Stand.cl Z_Stand.n_made_of (dv 0)) (by with_unfolding_all rfl))
  (b_one (s_raise Z rfl O_NoTake af (by decide) af rfl (a1 d_str)))
  b_nil)),fun ds μ m Kd Kx hm hl em h hK=>?_⟩)
 unfold fThere at h
 split at h
 ·rename_i x nm
  obtain⟨_,S,rfl,kk⟩:=h
  refine⟨rfl,_,rfl,_,ixF_k skey_inj ptD nm S.kept rfl,?_⟩
  cases e:aget S.kept nm with
  | none=>rw[e]at kk;exact⟨zs,gX_of hK em kk⟩
  | some x=>rw[e]at kk;exact .keep (gK_of em kk)
 ·exact h.elim
theorem ok_Stand_parts (F:Fun K "parts" "Stand.parts" s_Stand_parts f fd)(T:Bi2 mg)(Z_Stand:ZStand K cStand)(C_Stand_check_there:c_Stand_check_there P w K mg base):FnOk P w K mg base (CX1 P w) 2 f fd (pA s_Stand_parts) (spX (fPartsS cStand rcs)):=by
 refine F.okX sc_Stand_parts (fun ds μ Kd Kx h=>fPartsS_len h) (fun cdv A outer s H E hr φ0 Kb Z=>⟨_,(b_cons (s_expr (d_methX Z.z C_Stand_check_there Z_Stand.cl hr.le (dv 0) (a1 (dv 1))))
  (b_one (s_ret (d_ixF (hu_of hr) (d_fld Z_Stand.cl Z_Stand.n_made_of (dv 0)) (dv 1) (fun _ _=>rfl))))),fun ds μ m Kd Kx hm hl em h hK=>?_⟩)
 unfold fPartsS at h
 split at h
 ·rename_i x nm
  obtain⟨_,S,rfl,kk⟩:=h
  refine⟨⟨rfl,rfl⟩,gx_at em,⟨_,gx_at em⟩,S,rfl,?_⟩
  cases e:aget S.kept nm with
  | none=>rw[e]at kk;exact(gX_of hK em kk).2
  | some x =>
   rw[e]at kk
   exact⟨rfl,_,rfl,ptD x,by rw[ixF_k skey_inj ptD nm S.kept rfl,e];rfl,.keep (gK_of em kk)⟩
 ·exact h.elim
theorem ok_Stand_source (F:Fun K "source" "Stand.source" s_Stand_source f fd)(T:Bi2 mg)(Z_Stand:ZStand K cStand)(O_BadBar:OwnCls "BadBar" cBadBar veB "ValueError.__new__" mg base)(C_Stand_parts:c_Stand_parts P w K mg base):FnOk P w K mg base (CX1 P w) 3 f fd (pA s_Stand_source) (spX (fSourceS cStand rcs)):=by
 refine F.okX sc_Stand_source (fun ds μ Kd Kx h=>fSourceS_len h) (fun cdv A outer s H E hr φ0 Kb Z=>⟨_,(b_cons (qS 3 sc_Stand_source.nd (d_methX Z.z C_Stand_parts Z_Stand.cl hr.le (dv 0) (a1 (dv 1))))
  (b_cons (s_if (PW.pt (t_or (qLt (dv 2) d_int) (t_or1 (qGe (dv 2) (d_fld Z_Stand.cl Z_Stand.n_length (dv 0))))))
  (b_one (s_raise Z rfl O_BadBar af (by decide) af rfl (a1 d_str)))
  b_nil)
  (b_cons (qS 4 sc_Stand_source.nd d_int)
  (b_cons (s_while PassesOwn.leaving (t_notN (dv 3))
  (b_cons (s_asg (dv 3) ⟨(pg_tupC (n:=3) rfl (pgs_consC (qN 5 sc_Stand_source.nd) (pgs_consC (qN 6 sc_Stand_source.nd) (pgs_consC (qN 7 sc_Stand_source.nd) pgs_nilC)))),(so_tup (so_cons (so_name 5) (mo_name 5) (so_cons (so_name 6) (mo_name 6) (so_cons (so_name 7) (mo_name 7) so_nil mo_nil) (mo_cons (mo_name 7) mo_nil)) (mo_cons (mo_name 6) (mo_cons (mo_name 7) mo_nil)))),(mo_tup (mo_cons (mo_name 5) (mo_cons (mo_name 6) (mo_cons (mo_name 7) mo_nil))))⟩)
  (b_cons (qS 1 sc_Stand_source.nd (d_if (qLt (dv 2) (dv 7)) (dv 5) (dv 6)))
  (b_cons (qS 3 sc_Stand_source.nd (d_ixF (hu_of hr) (d_fld Z_Stand.cl Z_Stand.n_made_of (dv 0)) (dv 1) (fun _ _=>rfl)))
  (b_one (s_aug (i:=4) sc_Stand_source.nd rfl lo d_int ip_addC so_ipI))))))
  (b_one (s_ret (d_tup (a2 (dv 1) (dv 4))))))))),fun ds μ m Kd Kx hm hl em h hK=>?_⟩)
 unfold fSourceS at h
 split at h
 ·rename_i x nm bar
  obtain⟨_,S,rfl,kp,kk⟩:=h
  refine⟨⟨rfl,rfl⟩,gx_at em,⟨_,gx_at em⟩,S,rfl,?_⟩
  cases e:aget S.kept nm with
  | none=>rw[e]at kk;exact(gX_of hK em kk).2
  | some x =>
   rw[e]at kk
   refine iteD (c:=bar<0) (fun q=>⟨zs,gX_of hK em ?_⟩) (fun q1=>⟨rfl,_,rfl,iteD (c:=S.n<=bar) (fun q=>⟨zs,gX_of hK em ?_⟩) (fun q2=>?_)⟩)
   ·have kk:(if 0<=bar/\bar<S.n then Kd (srcD (srcOf S.kept nm bar)) μ else _):=kk
    rw[aj (by omega)]at kk;exact kk
   ·have kk:(if 0<=bar/\bar<S.n then Kd (srcD (srcOf S.kept nm bar)) μ else _):=kk
    rw[aj (by omega)]at kk;exact kk
   ·have kk:(if 0<=bar/\bar<S.n then Kd (srcD (srcOf S.kept nm bar)) μ else _):=kk
    rw[ar (by omega)]at kk
    refine⟨fun i ρ μ'=>∃(z:Str) (y:Pt) (c:Nat) (v1 v2 v3:Option D),i=idxN S.kept z/\aget S.kept z=some y/\srcOf S.kept nm bar=((srcOf S.kept z bar).1,(srcOf S.kept z bar).2+c)/\ρ=[some (sdD cStand S),some (.str z),some (.int bar),some (ptD y),some (.int (c:Int)),v1,v2,v3]/\μ'=μ.set 0 (.gx φ0 H),⟨_,nm,x,0,none,none,none,rfl,e,rfl,rfl,rfl⟩,?_⟩
    rintro i ρ μ' ⟨z,y,c,v1,v2,v3,rfl,ez,es,rfl,rfl⟩
    cases y with
    | fst b a =>
     refine⟨zs,.keep (gK_of em ?_)⟩
     rw[es,src_fstE ez,Nat.zero_add]at kk
     exact kk
    | jn l r p =>
     obtain⟨⟨yl,el⟩,⟨yr,er⟩⟩:=kp.there ez
     obtain⟨i1,i2⟩:=kp.low z l r p ez
     refine⟨rfl,?_⟩
     have ej:=src_jn kp ez bar
     refine iteD (c:=bar<p) (fun q=>?_) (fun q=>?_)
     ·rw[ar q]at ej
      exact⟨rfl,_,rfl,ptD yl,by rw[ixF_k skey_inj ptD l S.kept rfl,el];rfl,idxN S.kept l,i1,l,yl,c+1,_,_,_,rfl,el,by rw[es,ej];congr 1;show _+1+c=_;omega,rfl,rfl⟩
     ·rw[aj q]at ej
      exact⟨rfl,_,rfl,ptD yr,by rw[ixF_k skey_inj ptD r S.kept rfl,er];rfl,idxN S.kept r,i2,r,yr,c+1,_,_,_,rfl,er,by rw[es,ej];congr 1;show _+1+c=_;omega,rfl,rfl⟩
 ·exact h.elim
theorem ok_Stand_takes_by_names (F:Fun K "takes_by_names" "Stand.takes_by_names" s_Stand_takes_by_names f fd)(T:Bi2 mg)(Z_Stand:ZStand K cStand)(C_joined:c_joined P w K mg base):FnOk P w K mg base CX0 2 f fd (pA s_Stand_takes_by_names) (spD (fByNames cStand)):=by
 refine F.okD sc_Stand_takes_by_names (fun ds μ Kd h=>by unfold fByNames at h;split at h <;> first | rfl | exact h.elim) (fun cdv A outer s H E hr=>⟨_,(b_cons (qS 1 sc_Stand_takes_by_names.nd d_dnew)
  (b_cons (s_for PassesOwn.never rfl (i_itemsF (d_fld Z_Stand.cl Z_Stand.n_made_of (dv 0))) ⟨(pg_tupC (n:=2) rfl (pgs_consC (qN 2 sc_Stand_takes_by_names.nd) (pgs_consC (qN 3 sc_Stand_takes_by_names.nd) pgs_nilC))),(so_tup (so_cons (so_name 2) (mo_name 2) (so_cons (so_name 3) (mo_name 3) so_nil mo_nil) (mo_cons (mo_name 3) mo_nil))),(mo_tup (mo_cons (mo_name 2) (mo_cons (mo_name 3) mo_nil)))⟩
  (b_one (s_if (t_isN (dv 3))
  (b_one (s_asgKM (hu_of hr) (d_ixF (hu_of hr) (d_fld Z_Stand.cl Z_Stand.n_firsts (dv 0)) (dv 2) (fun _ _=>rfl)) (dv 1) (dv 2)))
  (b_cons (s_asg (dv 3) ⟨(pg_tupC (n:=3) rfl (pgs_consC (qN 4 sc_Stand_takes_by_names.nd) (pgs_consC (qN 5 sc_Stand_takes_by_names.nd) (pgs_consC (qN 6 sc_Stand_takes_by_names.nd) pgs_nilC)))),(so_tup (so_cons (so_name 4) (mo_name 4) (so_cons (so_name 5) (mo_name 5) (so_cons (so_name 6) (mo_name 6) so_nil mo_nil) (mo_cons (mo_name 6) mo_nil)) (mo_cons (mo_name 5) (mo_cons (mo_name 6) mo_nil)))),(mo_tup (mo_cons (mo_name 4) (mo_cons (mo_name 5) (mo_cons (mo_name 6) mo_nil))))⟩)
  (b_one (s_asgKM (hu_of hr) (qC C_joined hr (a3 (d_ixF (hu_of hr) (dv 1) (dv 4) (fun _ _=>rfl)) (d_ixF (hu_of hr) (dv 1) (dv 5) (fun _ _=>rfl)) (dv 6))) (dv 1) (dv 2)))))))
  (b_one (s_ret (d_frz (dv 1)))))),fun ds μ Kd hm hl h=>?_⟩)
 unfold fByNames at h
 split at h
 ·rename_i x
  obtain⟨S,m,rfl,wf,kk⟩:=h
  refine⟨rfl,_,rfl,fun _=>?_⟩
  have nd:=wf.kp.nd
  have few:=wf.few
  have ei:List.zipWith (fun k d=>D.tup [keyV k,d]) (S.kept.map fun p=>skey p.1) (S.kept.map fun p=>ptD p.2)=S.kept.map fun p=>D.tup [.str p.1,ptD p.2]:=by
   obtain⟨e1,e2⟩:=kd_of skey ptD S.kept
   rw[e1,e2,items_map,aK]
   rfl
  show forW _ _ _ _ (List.zipWith (fun k d=>D.tup [keyV k,d]) (S.kept.map fun p=>skey p.1) (S.kept.map fun p=>ptD p.2)) _ _
  rw[ei]
  refine forW_inv (fun ds ρ μ'=>∃(pre post:List (Str×Pt)) (v1 v2 v3 v4 v5:Option D),S.kept=pre++post/\ds=post.map (fun p=>D.tup [.str p.1,ptD p.2])/\ρ=[some (sdD cStand S),some (.mr μ.length),v1,v2,v3,v4,v5]/\μ'=μ++[.dic ((pre.map fun p=>(p.1,tkOf S.kept p.1)).map fun p=>skey p.1) ((pre.map fun p=>(p.1,tkOf S.kept p.1)).map fun p=>tkD p.2)]) ⟨[],S.kept,none,none,none,none,none,rfl,rfl,rfl,rfl⟩ ?_ ?_
  ·rintro d ds' ρ μ' ⟨pre,post,v1,v2,v3,v4,v5,hs,e1,rfl,rfl⟩
   refine⟨trivial,fun nx hnx=>?_⟩
   cases post with
   | nil=>cases e1
   | cons p post =>
    obtain⟨z,y⟩:=p
    cases e1
    have hz:z∉pre.map (·.1):=fun q=>by
     rw[hs,aS,bI]at nd
     exact nd.2.2 z q z (List.mem_map.mpr ⟨_,aC,rfl⟩) rfl
    have ez:aget S.kept z=some y:=aget_of_mem nd (by rw[hs];exact aF _ aC)
    have ix:idxN S.kept z=pre.length:=by
     unfold idxN
     rw[hs,aS,c4,aj hz,aq,bB,show((z,y).1==z)=true from cz _,gxC]
     simp
    have lp:pre.length<S.kept.length:=by rw[hs,gxE,aJ];omega
    have inpre:∀ w:Str,idxN S.kept w<pre.length->aget (pre.map fun p=>(p.1,tkOf S.kept p.1)) w=some (tkOf S.kept w):=fun w hw=>by
     have hm2:w∈pre.map (·.1):=by
      unfold idxN at hw
      rw[hs,aS,c4]at hw
      by_cases q:w∈pre.map (·.1)
      ·exact q
      ·rw[aj q,gxC]at hw;omega
     obtain⟨p,hp,rfl⟩:=List.mem_map.mp hm2
     have nd2:((pre.map fun p=>(p.1,tkOf S.kept p.1)).map (·.1)).Nodup:=by
      rw[aK]
      rw[hs,aS,bI]at nd
      exact nd.1
     exact aget_of_mem nd2 (List.mem_map.mpr ⟨p,hp,rfl⟩)
    have hn:aget (pre.map fun p=>(p.1,tkOf S.kept p.1)) z=none:=by
     cases q:aget (pre.map fun p=>(p.1,tkOf S.kept p.1)) z with
     | none=>rfl
     | some w =>
      have:=aget_some.mp (show(aget (pre.map fun p=>(p.1,tkOf S.kept p.1)) z).isSome=true by rw[q];rfl)
      rw[aK]at this
      exact absurd this hz
    have fin:∀(v:Tk) (w1 w2 w3 w4 w5:Option D),v=tkOf S.kept z->∃ kd kd':List (Key×D),(μ++[MO.dic ((pre.map fun p=>(p.1,tkOf S.kept p.1)).map fun p=>skey p.1) ((pre.map fun p=>(p.1,tkOf S.kept p.1)).map fun p=>tkD p.2)])[μ.length]?=some (.dic (kd.map (·.1)) (kd.map (·.2)))/\kd.length<sizeLine/\(keyD (.str z)).map (fun k=>dput kd k (tkD v))=some kd'/\nx [some (sdD cStand S),some (.mr μ.length),w1,w2,w3,w4,w5] ((μ++[MO.dic ((pre.map fun p=>(p.1,tkOf S.kept p.1)).map fun p=>skey p.1) ((pre.map fun p=>(p.1,tkOf S.kept p.1)).map fun p=>tkD p.2)]).set μ.length (.dic (kd'.map (·.1)) (kd'.map (·.2)))):=fun v w1 w2 w3 w4 w5 hv=>by
     obtain⟨e1,e2⟩:=kd_of skey tkD (pre.map fun p=>(p.1,tkOf S.kept p.1))
     refine⟨_,_,by rw[end_at,e1,e2],?_,rfl,?_⟩
     ·rw[gxC,gxC];exact aA lp (sz (by omega))
     ·show nx _ ((_++[_]).set _ (.dic ((dput _ (skey z) (tkD v)).map (·.1)) ((dput _ (skey z) (tkD v)).map (·.2))))
      rw[dput_k skey_inj tkD z v,aput_new hn,set_end]
      refine hnx _ _ ⟨pre++[(z,y)],post,_,_,_,_,_,by rw[hs,bx];rfl,rfl,rfl,?_⟩
      have e3:(pre++[(z,y)]).map (fun p=>(p.1,tkOf S.kept p.1))=pre.map (fun p=>(p.1,tkOf S.kept p.1))++[(z,v)]:=by rw[aS,hv];rfl
      rw[e3,<- (kd_of skey tkD _).1,<- (kd_of skey tkD _).2]
    refine⟨rfl,?_⟩
    cases y with
    | fst b a =>
     refine⟨rfl,_,rfl,tkD (b,a),by rw[ixF_k skey_inj tkD z (firsts S.kept) rfl,firsts_get nd,ez];rfl,fin (b,a) _ _ _ _ _ (tk_fst ez).symm⟩
    | jn l r p =>
     obtain⟨i1,i2⟩:=wf.kp.low z l r p ez
     obtain⟨⟨yl,el⟩,⟨yr,er⟩⟩:=wf.kp.there ez
     obtain⟨p1,p2⟩:=wf.js z l r p ez
     obtain⟨t1,_⟩:=tk_ok wf l yl el
     obtain⟨t2,_⟩:=tk_ok wf r yr er
     have n2:=wf.n2
     refine⟨rfl,tkD (tkOf S.kept l),by rw[ixM_k skey_inj tkD l _ rfl end_dic,inpre l (by omega)];rfl,tkD (tkOf S.kept r),by rw[ixM_k skey_inj tkD r _ rfl end_dic,inpre r (by omega)];rfl,?_⟩
     exact⟨tkOf S.kept l,tkOf S.kept r,rfl,rfl,rfl,rfl,by omega,by omega,by omega,fin _ _ _ _ _ _ (tk_jn wf.kp ez).symm⟩
  ·rintro ρ μ' ⟨pre,post,v1,v2,v3,v4,v5,hs,e1,rfl,rfl⟩
   cases post with
   | cons p post=>cases e1
   | nil =>
    rw[aZ]at hs
    refine⟨trivial,_,_,end_at,fun o kvs hks=>?_⟩
    rw[set_end]
    refine Fz.fdc (aa _) end_at (mr_all fun d hd=>by obtain⟨q,_,rfl⟩:=List.mem_map.mp hd;exact⟨trivial,trivial,trivial⟩) (old_app hm) ?_
    rw[bf,hks,<- hs]
    exact kk
 ·exact h.elim
theorem ok_Stand_shelf (F:Fun K "shelf" "Stand.shelf" s_Stand_shelf f fd)(T:Bi2 mg)(Z_Stand:ZStand K cStand)(C_Stand_takes_by_names:c_Stand_takes_by_names P w K mg base):FnOk P w K mg base CX0 3 f fd (pA s_Stand_shelf) (spD (fShelfS cStand)):=by
 refine F.okD sc_Stand_shelf (fun ds μ Kd h=>by unfold fShelfS at h;split at h <;> first | rfl | exact h.elim) (fun cdv A outer s H E hr=>⟨_,(b_cons (sC1 1 false sc_Stand_shelf.nd (cOk (N:=["place", "self"]) (js:=[none,some 0]) sc_Stand_shelf (by decide +kernel)) (i_range2 rfl T.range (a2 d_int (d_fld Z_Stand.cl Z_Stand.n_length (dv 0)))) (fun _ _ _ nd=>(qN 0 nd)) (fun _ _ _=>(ts_one (t_notinF (hu_of hr) (dv 0) (d_fld Z_Stand.cl Z_Stand.n_closed (dv 1)) (by with_unfolding_all rfl)))) (fun _ _ _=>(dv 0)))
  (b_one (s_ret (d_tup (a3 (d_fld Z_Stand.cl Z_Stand.n_length (dv 0)) (dv 1) (d_listVals false rfl (by rfl) T.list (d_meth0 C_Stand_takes_by_names Z_Stand.cl hr.le (dv 0)))))))),fun ds μ Kd hm hl h=>?_⟩)
 unfold fShelfS at h
 split at h
 ·rename_i x
  obtain⟨S,m,rfl,wf,kk⟩:=h
  have n1:=wf.n1
  have n2:=wf.n2
  refine⟨rfl,_,rfl,⟨by decide,by decide,by omega,by omega⟩,sz (by rw[rngD_len];omega),?_⟩
  rw[rngD_eq]
  refine compW_gen trivial D.int (fun p=>if(aget S.shut p).isSome=true then none else some (D.int p)) (fun p _ K' k'=>?_) ?_
  ·refine⟨rfl,_,rfl,_,ixF_k ikey_inj (fun _=>.bl true) p S.shut rfl,?_⟩
   cases e:aget S.shut p with
   | none=>rw[e]at k';exact k'
   | some x=>rw[e]at k';exact k'
  ·rw[open_map]
   refine⟨rfl,_,rfl,⟨rfl,rfl⟩,S,m,rfl,wf,opt_of rfl ⟨zs,.keep ?_⟩⟩
   have e:(tkAll S.kept).map (fun p=>tkD p.2)=(takesR S).map tkD:=by unfold tkAll takesR;rw[aK,aK];rfl
   rw[e]
   exact kk
 ·exact h.elim
theorem ok_check_age (F:Fun K "check_age" "check_age" s_check_age f fd)(T:Bi2 mg)(O_BadAge:OwnCls "BadAge" cBadAge veB "ValueError.__new__" mg base)(G_OLDEST:GInt mg "OLDEST" 20):FnOk P w K mg base (CX1 P w) 1 f fd (pA s_check_age) (spX (fAgeC rcs)):=by
 refine F.okX sc_check_age (fun ds μ Kd Kx h=>fAgeC_len h) (fun cdv A outer s H E hr φ0 Kb Z=>⟨_,(b_one (s_if (PW.pt (t_or (qLt (dv 0) d_int) (t_or1 (qGt (dv 0) (d_gint rfl G_OLDEST)))))
  (b_one (s_raise Z rfl O_BadAge af (by decide) af rfl (a1 d_str)))
  b_nil)),fun ds μ m Kd Kx hm hl em h hK=>?_⟩)
 unfold fAgeC at h
 split at h
 ·rename_i a
  obtain⟨_,kk⟩:=h
  unfold ageW at kk
  refine iteD (c:=a<0) (fun q=>⟨zs,gX_of hK em (by rw[aj (by omega)]at kk;exact kk)⟩) (fun q1=>iteD (c:=20<a) (fun q=>⟨zs,gX_of hK em (by rw[aj (by omega)]at kk;exact kk)⟩) (fun q2=>.keep (gK_of em (by rw[ar (by omega)]at kk;exact kk))))
 ·exact h.elim
theorem ok_check_place (F:Fun K "check_place" "check_place" s_check_place f fd)(T:Bi2 mg)(Z_Stand:ZStand K cStand)(O_BadPlace:OwnCls "BadPlace" cBadPlace veB "ValueError.__new__" mg base):FnOk P w K mg base (CX1 P w) 1 f fd (pA s_check_place) (spX (fPlaceC cStand rcs)):=by
 refine F.okX sc_check_place (fun ds μ Kd Kx h=>fPlaceC_len h) (fun cdv A outer s H E hr φ0 Kb Z=>⟨_,(b_one (s_if (PW.pt (t_or (qLt (dv 1) d_int) (t_or1 (qGe (dv 1) (d_fld Z_Stand.cl Z_Stand.n_length (dv 0))))))
  (b_one (s_raise Z rfl O_BadPlace af (by decide) af rfl (a1 d_str)))
  b_nil)),fun ds μ m Kd Kx hm hl em h hK=>?_⟩)
 unfold fPlaceC at h
 split at h
 ·rename_i x p
  obtain⟨_,S,rfl,kk⟩:=h
  unfold placeW at kk
  refine iteD (c:=p<1) (fun q=>⟨zs,gX_of hK em (by rw[aj (by omega)]at kk;exact kk)⟩) (fun q1=>⟨rfl,_,rfl,iteD (c:=S.n<=p) (fun q=>⟨zs,gX_of hK em (by rw[aj (by omega)]at kk;exact kk)⟩) (fun q2=>.keep (gK_of em (by rw[ar (by omega)]at kk;exact kk)))⟩)
 ·exact h.elim
theorem ok_check_new (F:Fun K "check_new" "check_new" s_check_new f fd)(T:Bi2 mg)(Z_Stand:ZStand K cStand)(O_BadName:OwnCls "BadName" cBadName veB "ValueError.__new__" mg base)(O_Taken:OwnCls "Taken" cTaken veB "ValueError.__new__" mg base)(O_Full:OwnCls "Full" cFull veB "ValueError.__new__" mg base)(G_MOST_TAKES:GInt mg "MOST_TAKES" 20)(G_MOST_LETTERS:GInt mg "MOST_LETTERS" 8):FnOk P w K mg base (CX1 P w) 1 f fd (pA s_check_new) (spX (fNew cStand rcs)):=by
 refine F.okX sc_check_new (fun ds μ Kd Kx h=>fNew_len h) (fun cdv A outer s H E hr φ0 Kb Z=>⟨_,(b_cons (s_if (PW.pt (t_or (qLt (dLn T (dv 1)) d_int) (t_or (qGt (dLn T (dv 1)) (d_gint rfl G_MOST_LETTERS)) (t_or1 (t_not (d_testV (d_blt (allC rfl) so_all (by rfl) T.all cx (a1 (dC1 false (cOk (N:=["sign"]) (js:=[none]) sc_check_new (by decide +kernel)) (i_str (dv 1)) (fun _ _ _ nd=>(qN 0 nd)) (fun _ _ _=>ts_nil) (fun _ _ _=>(d_chain op_le_str op_le_str so_leS so_leS d_str (dv 0) d_str)))))))))))
  (b_one (s_raise Z rfl O_BadName af (by decide) af rfl (a1 d_str)))
  b_nil)
  (b_cons (s_if (t_inF (hu_of hr) (dv 1) (d_fld Z_Stand.cl Z_Stand.n_made_of (dv 0)) (by with_unfolding_all rfl))
  (b_one (s_raise Z rfl O_Taken af (by decide) af rfl (a1 d_str)))
  b_nil)
  (b_one (s_if (qGe (d_blt lenD so_lenD (by rfl) T.len cW (a1 (d_fld Z_Stand.cl Z_Stand.n_made_of (dv 0)))) (d_gint rfl G_MOST_TAKES))
  (b_one (s_raise Z rfl O_Full af (by decide) af rfl (a1 d_str)))
  b_nil)))),fun ds μ m Kd Kx hm hl em h hK=>?_⟩)
 unfold fNew at h
 split at h
 ·rename_i x nm
  obtain⟨_,hz,S,rfl,kk⟩:=h
  have sl:nm.length<=sizeLine:=sz (by omega)
  unfold newW at kk
  have bad:namedB nm=false->Kx (.ref cBadName) μ:=fun q=>by rw[ar q]at kk;exact kk
  refine⟨sl,iteD (c:=((nm.length:Nat):Int)<1) (fun q=>⟨zs,gX_of hK em (bad ?_)⟩) (fun q1=>⟨sl,iteD (c:=(8:Int)<((nm.length:Nat):Int)) (fun q=>⟨zs,gX_of hK em (bad ?_)⟩) (fun q2=>?_)⟩)⟩
  ·unfold namedB;rw[ai (show ¬ 1<=nm.length by omega)];rfl
  ·unfold namedB;rw[ai (show ¬ nm.length<=8 by omega),c7];rfl
  refine⟨by rw[gxC];exact sl,?_⟩
  refine compW_all trivial (fun c:Nat=>D.str ⟨#[c]⟩) (fun c=>D.bl (decide (97<=c)&&decide (c<=122))) (fun c _ K' k'=>?_) ?_
  ·have e1:(!decide (([c]:List Nat)<[97]))=decide (97<=c):=by rw[cmp1];by_cases q:97<=c <;> simp[q]<;> omega
   have e2:(!decide (([122]:List Nat)<[c]))=decide (c<=122):=by rw[cmp1];by_cases q:c<=122 <;> simp[q]<;> omega
   show if(!decide (([c]:List Nat)<[97]))=true then K' (some (.bl (!decide (([122]:List Nat)<[c])))) _ else K' (some (.bl false)) _
   rw[e1,e2]
   cases q:decide (97<=c)with
   | true=>rw[q]at k';exact k'
   | false=>rw[q]at k';exact k'
  ·refine⟨nm.cps.toList.map fun c=>decide (97<=c)&&decide (c<=122),by rw[aK];rfl,?_⟩
   have eb:((nm.cps.toList.map fun c=>decide (97<=c)&&decide (c<=122)).all id)=namedB nm:=by rw[nameB_of q1 q2,List.all_map];rfl
   show if(!((nm.cps.toList.map fun c=>decide (97<=c)&&decide (c<=122)).all id))=true then _ else _
   rw[eb]
   cases q3:namedB nm with
   | false=>exact⟨zs,gX_of hK em (bad q3)⟩
   | true =>
    rw[aj (by rw[q3];exact fun z=>nomatch z)]at kk
    refine⟨rfl,_,rfl,_,ixF_k skey_inj ptD nm S.kept rfl,?_⟩
    unfold hasN at kk
    cases e:aget S.kept nm with
    | some x=>rw[e]at kk;exact⟨zs,gX_of hK em kk⟩
    | none =>
     rw[e]at kk
     refine⟨rfl,_,rfl,opt_of rfl ?_⟩
     have kk:orX _ Kd Kx (if 20<=S.kept.length then some 10 else none) .non μ:=kk
     refine iteD (c:=(20:Int)<=((S.kept.map fun p=>skey p.1).length:Nat)) (fun q=>⟨zs,gX_of hK em ?_⟩) (fun q=>.keep (gK_of em ?_))
     ·rw[gxC]at q;rw[ar (by omega)]at kk;exact kk
     ·rw[gxC]at q;rw[aj (by omega)]at kk;exact kk
 ·exact h.elim
theorem ok_put (F:Fun K "put" "put" s_put f fd)(T:Bi2 mg)(Z_Stand:ZStand K cStand)(O_BadBars:OwnCls "BadBars" cBadBars veB "ValueError.__new__" mg base)(C_check_new:c_check_new P w K mg base)(C_is_bars:c_is_bars P w K mg base)(C_check_age:c_check_age P w K mg base)(C_with_key:c_with_key P w K mg base)(C_Stand___init__:c_Stand___init__ P w K mg base):FnOk P w K mg base (CX1 P w) 6 f fd (pA s_put) (spX (fDeed1 cStand rcs 0)):=by
 refine F.okX sc_put (fun ds μ Kd Kx h=>fDeed1_len h) (fun cdv A outer s H E hr φ0 Kb Z=>⟨_,(b_cons (s_asg (dv 1) ⟨(pg_tupC (n:=4) rfl (pgs_consC (qN 2 sc_put.nd) (pgs_consC (qN 3 sc_put.nd) (pgs_consC (qN 4 sc_put.nd) (pgs_consC (qN 5 sc_put.nd) pgs_nilC))))),(so_tup (so_cons (so_name 2) (mo_name 2) (so_cons (so_name 3) (mo_name 3) (so_cons (so_name 4) (mo_name 4) (so_cons (so_name 5) (mo_name 5) so_nil mo_nil) (mo_cons (mo_name 5) mo_nil)) (mo_cons (mo_name 4) (mo_cons (mo_name 5) mo_nil))) (mo_cons (mo_name 3) (mo_cons (mo_name 4) (mo_cons (mo_name 5) mo_nil))))),(mo_tup (mo_cons (mo_name 2) (mo_cons (mo_name 3) (mo_cons (mo_name 4) (mo_cons (mo_name 5) mo_nil)))))⟩)
  (b_cons (s_expr (d_callX Z.z C_check_new hr.le rfl (a2 (dv 0) (dv 3))))
  (b_cons (s_if (t_not (d_testV (qC C_is_bars hr (a2 (d_fld Z_Stand.cl Z_Stand.n_length (dv 0)) (dv 4)))))
  (b_one (s_raise Z rfl O_BadBars af (by decide) af rfl (a1 d_str)))
  b_nil)
  (b_cons (s_expr (d_callX Z.z C_check_age hr.le rfl (a1 (dv 5))))
  (b_cons (qS 6 sc_put.nd (qC C_with_key hr (a3 (d_fld Z_Stand.cl Z_Stand.n_made_of (dv 0)) (dv 3) d_non)))
  (b_one (s_ret (d_fz (d_make C_Stand___init__ hr.le rfl (da_cons (d_fld Z_Stand.cl Z_Stand.n_length (dv 0)) (da_cons (dv 6) (da_cons (qC C_with_key hr (a3 (d_fld Z_Stand.cl Z_Stand.n_firsts (dv 0)) (dv 3) (d_tup (a2 (dv 4) (dv 5))))) (da_cons (d_fld Z_Stand.cl Z_Stand.n_closed (dv 0)) da_nil))))))))))))),fun ds μ m Kd Kx hm hl em h hK=>?_⟩)
 unfold fDeed1 at h
 split at h
 ·rename_i x y
  obtain⟨_,S,d,m',rfl,rfl,hw,wf,hm',hok,kk⟩:=h
  obtain⟨nm,b,a,rfl⟩:∃ nm b a,d=.put nm b a:=by cases d <;> first | exact⟨_,_,_,rfl⟩ | cases hw
  have few:=wf.few
  refine⟨rfl,gx_at em,⟨_,gx_at em⟩,hok.1,S,rfl,?_⟩
  have kk:orX _ Kd Kx ((newW S nm).or (if((b.length:Nat):Int)=S.n/\oxB b=true then ageW a else some 0)) (sdD cStand (doD S (.put nm b a))) μ:=kk
  cases e:newW S nm with
  | some i=>rw[e]at kk;exact(gX_of hK em kk).2
  | none =>
   rw[e]at kk
   refine⟨rfl,_,rfl,hok.2,iteNot (c:=((b.length:Nat):Int)=S.n/\oxB b=true) (fun q=>⟨zs,gX_of hK em ?_⟩) (fun q=>?_)⟩
   ·have kk:orX _ Kd Kx (if((b.length:Nat):Int)=S.n/\oxB b=true then ageW a else some 0) (sdD cStand (doD S (.put nm b a))) μ:=kk
    rw[aj q]at kk;exact kk
   ·have kk:orX _ Kd Kx (if((b.length:Nat):Int)=S.n/\oxB b=true then ageW a else some 0) (sdD cStand (doD S (.put nm b a))) μ:=kk
    rw[ar q]at kk
    refine⟨gx_at em,⟨_,gx_at em⟩,?_⟩
    cases e2:ageW a with
    | some i=>rw[e2]at kk;exact(gX_of hK em kk).2
    | none =>
     rw[e2]at kk
     obtain⟨n1,n2,n3⟩:=newW_none e
     refine⟨rfl,_,rfl,_,_,(kd_of skey ptD S.kept).1,(kd_of skey ptD S.kept).2,by rw[kd_len];omega,rfl,?_⟩
     have lf:(firsts S.kept).length<=20:=aB (cb _ _) few
     refine⟨rfl,_,rfl,rfl,_,rfl,zs,_,_,(kd_of skey tkD (firsts S.kept)).1,(kd_of skey tkD (firsts S.kept)).2,by rw[kd_len];omega,rfl,rfl,_,rfl,end_at,rfl,?_⟩
     rw[set_end]
     refine Fz.obj (aa _) end_at ⟨trivial,mr_dput (mr_g pt_mr _) trivial,mr_dput (mr_g tk_mr _) (tk_mr (b.cps.toList,a)),mr_sh _,trivial⟩ (old_app hm) ?_
     rw[bf]
     have kk:Kd (.obj cStand sdN [.int S.n,dcG skey ptD (aput S.kept nm (.fst b.cps.toList a)),dcG skey tkD (firsts (aput S.kept nm (.fst b.cps.toList a))),shD S.shut]) μ:=kk
     rw[firsts_new wf.kp.nd n2,<- wput skey_inj ptD,<- wput skey_inj tkD]at kk
     exact .keep (gK_of em kk)
 ·exact h.elim
theorem ok_join (F:Fun K "join" "join" s_join f fd)(T:Bi2 mg)(Z_Stand:ZStand K cStand)(O_Shut:OwnCls "Shut" cShut veB "ValueError.__new__" mg base)(C_check_new:c_check_new P w K mg base)(C_Stand_check_there:c_Stand_check_there P w K mg base)(C_check_place:c_check_place P w K mg base)(C_with_key:c_with_key P w K mg base)(C_Stand___init__:c_Stand___init__ P w K mg base):FnOk P w K mg base (CX1 P w) 6 f fd (pA s_join) (spX (fDeed1 cStand rcs 1)):=by
 refine F.okX sc_join (fun ds μ Kd Kx h=>fDeed1_len h) (fun cdv A outer s H E hr φ0 Kb Z=>⟨_,(b_cons (s_asg (dv 1) ⟨(pg_tupC (n:=5) rfl (pgs_consC (qN 2 sc_join.nd) (pgs_consC (qN 3 sc_join.nd) (pgs_consC (qN 4 sc_join.nd) (pgs_consC (qN 5 sc_join.nd) (pgs_consC (qN 6 sc_join.nd) pgs_nilC)))))),(so_tup (so_cons (so_name 2) (mo_name 2) (so_cons (so_name 3) (mo_name 3) (so_cons (so_name 4) (mo_name 4) (so_cons (so_name 5) (mo_name 5) (so_cons (so_name 6) (mo_name 6) so_nil mo_nil) (mo_cons (mo_name 6) mo_nil)) (mo_cons (mo_name 5) (mo_cons (mo_name 6) mo_nil))) (mo_cons (mo_name 4) (mo_cons (mo_name 5) (mo_cons (mo_name 6) mo_nil)))) (mo_cons (mo_name 3) (mo_cons (mo_name 4) (mo_cons (mo_name 5) (mo_cons (mo_name 6) mo_nil)))))),(mo_tup (mo_cons (mo_name 2) (mo_cons (mo_name 3) (mo_cons (mo_name 4) (mo_cons (mo_name 5) (mo_cons (mo_name 6) mo_nil))))))⟩)
  (b_cons (s_expr (d_callX Z.z C_check_new hr.le rfl (a2 (dv 0) (dv 3))))
  (b_cons (s_expr (d_methX Z.z C_Stand_check_there Z_Stand.cl hr.le (dv 0) (a1 (dv 4))))
  (b_cons (s_expr (d_methX Z.z C_Stand_check_there Z_Stand.cl hr.le (dv 0) (a1 (dv 5))))
  (b_cons (s_expr (d_callX Z.z C_check_place hr.le rfl (a2 (dv 0) (dv 6))))
  (b_cons (s_if (t_inF (hu_of hr) (dv 6) (d_fld Z_Stand.cl Z_Stand.n_closed (dv 0)) (by with_unfolding_all rfl))
  (b_one (s_raise Z rfl O_Shut af (by decide) af rfl (a1 d_str)))
  b_nil)
  (b_one (s_ret (d_fz (d_make C_Stand___init__ hr.le rfl (da_cons (d_fld Z_Stand.cl Z_Stand.n_length (dv 0)) (da_cons (qC C_with_key hr (a3 (d_fld Z_Stand.cl Z_Stand.n_made_of (dv 0)) (dv 3) (d_tup (a3 (dv 4) (dv 5) (dv 6))))) (da_cons (d_fld Z_Stand.cl Z_Stand.n_firsts (dv 0)) (da_cons (d_fld Z_Stand.cl Z_Stand.n_closed (dv 0)) da_nil)))))))))))))),fun ds μ m Kd Kx hm hl em h hK=>?_⟩)
 unfold fDeed1 at h
 split at h
 ·rename_i x y
  obtain⟨_,S,d,m',rfl,rfl,hw,wf,hm',hok,kk⟩:=h
  obtain⟨nm,l,r,p,rfl⟩:∃ nm l r p,d=.join nm l r p:=by cases d <;> first | exact⟨_,_,_,_,rfl⟩ | cases hw
  have few:=wf.few
  refine⟨rfl,gx_at em,⟨_,gx_at em⟩,hok,S,rfl,?_⟩
  have kk:orX _ Kd Kx ((newW S nm).or (if hasN S l=false then some 11 else if hasN S r=false then some 11 else(placeW S p).or (if(aget S.shut p).isSome=true then some 12 else none))) (sdD cStand (doD S (.join nm l r p))) μ:=kk
  cases e:newW S nm with
  | some i=>rw[e]at kk;exact(gX_of hK em kk).2
  | none =>
   rw[e]at kk
   have kk:orX _ Kd Kx (if hasN S l=false then some 11 else if hasN S r=false then some 11 else(placeW S p).or (if(aget S.shut p).isSome=true then some 12 else none)) (sdD cStand (doD S (.join nm l r p))) μ:=kk
   refine⟨⟨rfl,rfl⟩,gx_at em,⟨_,gx_at em⟩,S,rfl,?_⟩
   unfold hasN at kk
   cases el:aget S.kept l with
   | none=>rw[el]at kk;exact(gX_of hK em kk).2
   | some yl =>
    rw[el]at kk
    refine⟨⟨rfl,rfl⟩,gx_at em,⟨_,gx_at em⟩,S,rfl,?_⟩
    cases er:aget S.kept r with
    | none=>rw[er]at kk;exact(gX_of hK em kk).2
    | some yr =>
     rw[er]at kk
     have kk:orX _ Kd Kx ((placeW S p).or (if(aget S.shut p).isSome=true then some 12 else none)) (sdD cStand (doD S (.join nm l r p))) μ:=kk
     refine⟨gx_at em,⟨_,gx_at em⟩,S,rfl,?_⟩
     cases e2:placeW S p with
     | some i=>rw[e2]at kk;exact(gX_of hK em kk).2
     | none =>
      rw[e2]at kk
      refine⟨rfl,_,rfl,_,ixF_k ikey_inj (fun _=>.bl true) p S.shut rfl,?_⟩
      cases e3:aget S.shut p with
      | some u=>rw[e3]at kk;exact⟨zs,gX_of hK em kk⟩
      | none =>
       rw[e3]at kk
       obtain⟨n1,n2,n3⟩:=newW_none e
       refine⟨rfl,_,rfl,rfl,_,rfl,zs,_,_,(kd_of skey ptD S.kept).1,(kd_of skey ptD S.kept).2,by rw[kd_len];omega,rfl,rfl,_,rfl,rfl,_,rfl,end_at,rfl,?_⟩
       rw[set_end]
       refine Fz.obj (aa _) end_at ⟨trivial,mr_dput (mr_g pt_mr _) (pt_mr (.jn l r p)),mr_dc tk_mr _,mr_sh _,trivial⟩ (old_app hm) ?_
       rw[bf]
       have kk:Kd (.obj cStand sdN [.int S.n,dcG skey ptD (aput S.kept nm (.jn l r p)),dcG skey tkD (firsts (aput S.kept nm (.jn l r p))),shD S.shut]) μ:=kk
       rw[firsts_jn n2,<- wput skey_inj ptD]at kk
       exact .keep (gK_of em kk)
 ·exact h.elim
theorem ok_found (F:Fun K "found" "found" s_found f fd)(T:Bi2 mg)(Z_Stand:ZStand K cStand)(O_BadBars:OwnCls "BadBars" cBadBars veB "ValueError.__new__" mg base)(C_Stand_source:c_Stand_source P w K mg base)(C_with_key:c_with_key P w K mg base)(C_Stand___init__:c_Stand___init__ P w K mg base):FnOk P w K mg base (CX1 P w) 6 f fd (pA s_found) (spX (fDeed1 cStand rcs 2)):=by
 refine F.okX sc_found (fun ds μ Kd Kx h=>fDeed1_len h) (fun cdv A outer s H E hr φ0 Kb Z=>⟨_,(b_cons (s_asg (dv 1) ⟨(pg_tupC (n:=4) rfl (pgs_consC (qN 2 sc_found.nd) (pgs_consC (qN 3 sc_found.nd) (pgs_consC (qN 4 sc_found.nd) (pgs_consC (qN 5 sc_found.nd) pgs_nilC))))),(so_tup (so_cons (so_name 2) (mo_name 2) (so_cons (so_name 3) (mo_name 3) (so_cons (so_name 4) (mo_name 4) (so_cons (so_name 5) (mo_name 5) so_nil mo_nil) (mo_cons (mo_name 5) mo_nil)) (mo_cons (mo_name 4) (mo_cons (mo_name 5) mo_nil))) (mo_cons (mo_name 3) (mo_cons (mo_name 4) (mo_cons (mo_name 5) mo_nil))))),(mo_tup (mo_cons (mo_name 2) (mo_cons (mo_name 3) (mo_cons (mo_name 4) (mo_cons (mo_name 5) mo_nil)))))⟩)
  (b_cons (s_asg (d_methX Z.z C_Stand_source Z_Stand.cl hr.le (dv 0) (a2 (dv 3) (dv 4))) ⟨(pg_tupC (n:=2) rfl (pgs_consC (qN 6 sc_found.nd) (pgs_consC (qN 7 sc_found.nd) pgs_nilC))),(so_tup (so_cons (so_name 6) (mo_name 6) (so_cons (so_name 7) (mo_name 7) so_nil mo_nil) (mo_cons (mo_name 7) mo_nil))),(mo_tup (mo_cons (mo_name 6) (mo_cons (mo_name 7) mo_nil)))⟩)
  (b_cons (s_if (PW.pt (t_and (qNe (dv 5) d_str) (t_and1 (qNe (dv 5) d_str))))
  (b_one (s_raise Z rfl O_BadBars af (by decide) af rfl (a1 d_str)))
  b_nil)
  (b_cons (s_asg (d_ixF (hu_of hr) (d_fld Z_Stand.cl Z_Stand.n_firsts (dv 0)) (dv 6) (fun _ _=>rfl)) ⟨(pg_tupC (n:=2) rfl (pgs_consC (qN 8 sc_found.nd) (pgs_consC (qN 9 sc_found.nd) pgs_nilC))),(so_tup (so_cons (so_name 8) (mo_name 8) (so_cons (so_name 9) (mo_name 9) so_nil mo_nil) (mo_cons (mo_name 9) mo_nil))),(mo_tup (mo_cons (mo_name 8) (mo_cons (mo_name 9) mo_nil)))⟩)
  (b_cons (qS 10 sc_found.nd (d_tup (a2 (dPl (dPl (d_slice false (dv 8) o_no (o_some (dv 4))) (dv 5)) (d_slice false (dv 8) (o_some (dPl (dv 4) d_int)) o_no)) (dv 9))))
  (b_one (s_ret (d_fz (d_make C_Stand___init__ hr.le rfl (da_cons (d_fld Z_Stand.cl Z_Stand.n_length (dv 0)) (da_cons (d_fld Z_Stand.cl Z_Stand.n_made_of (dv 0)) (da_cons (qC C_with_key hr (a3 (d_fld Z_Stand.cl Z_Stand.n_firsts (dv 0)) (dv 6) (dv 10))) (da_cons (d_fld Z_Stand.cl Z_Stand.n_closed (dv 0)) da_nil))))))))))))),fun ds μ m Kd Kx hm hl em h hK=>?_⟩)
 unfold fDeed1 at h
 split at h
 ·rename_i x y
  obtain⟨_,S,d,m',rfl,rfl,hw,wf,hm',hok,kk⟩:=h
  obtain⟨nm,bar,sg,rfl⟩:∃ nm bar sg,d=.found nm bar sg:=by cases d <;> first | exact⟨_,_,_,rfl⟩ | cases hw
  have few:=wf.few
  have n2:=wf.n2
  refine⟨rfl,⟨rfl,rfl⟩,gx_at em,⟨_,gx_at em⟩,S,rfl,wf.kp,?_⟩
  have kk:orX _ Kd Kx (if hasN S nm=false then some 11 else if 0<=bar/\bar<S.n then(if sg = "o"\/sg = "x" then none else some 0)else some 6) (sdD cStand (doD S (.found nm bar sg))) μ:=kk
  unfold hasN at kk
  cases e:aget S.kept nm with
  | none=>rw[e]at kk;exact(gX_of hK em kk).2
  | some x =>
   rw[e]at kk
   have kk:orX _ Kd Kx (if 0<=bar/\bar<S.n then(if sg = "o"\/sg = "x" then none else some 0)else some 6) (sdD cStand (doD S (.found nm bar sg))) μ:=kk
   by_cases hb:0<=bar/\bar<S.n
   ·rw[ar hb]at kk
    show(if 0<=bar/\bar<S.n then _ else _)
    rw[ar hb]
    refine⟨rfl,?_⟩
    by_cases hs:sg = "o"\/sg = "x"
    ·rw[ar hs]at kk
     obtain⟨b,a,ef⟩:=src_fst wf.kp bar nm x e
     obtain⟨f1,f2,f3,f4⟩:=wf.fs _ b a ef
     obtain⟨o1,o2⟩:=sgn_ox hs
     have lf:(firsts S.kept).length<=20:=aB (cb _ _) few
     have kk:Kd (.obj cStand sdN [.int S.n,dcG skey ptD (hear S.kept (srcOf S.kept nm bar).1 bar sg),dcG skey tkD (firsts (hear S.kept (srcOf S.kept nm bar).1 bar sg)),shD S.shut]) μ:=kk
     unfold hear at kk
     rw[ef]at kk
     dsimp only at kk
     rw[firsts_old wf.kp.nd ef,<- wput skey_inj tkD,pt_again ef wf.kp.nd]at kk
     have sl:sg.length=1:=o2
     have lb:(txt b).length<=sizeLine:=by rw[txt_len];exact sz (by omega)
     have c1:=cutL_le b none (some bar)
     have c2:=cutL_le b (some (bar+1)) none
     have eh:(⟨(cutL b none (some bar)).toArray⟩++sg++⟨(cutL b (some (bar+1)) none).toArray⟩:Str)=txt (hearB b bar sg):=by
      rw[cutL_to hb.1,cutL_from (show 0<=bar+1 by omega),show(bar+1).toNat=bar.toNat+1 by omega]
      rw[app_sg,app_str,bx]
      rfl
     have l1:(⟨(cutL b none (some bar)).toArray⟩:Str).length+sg.length<=sizeLine:=by rw[sl];show(cutL b none (some bar)).length+1<=_;exact sz (by omega)
     have l2:(⟨(cutL b none (some bar)).toArray⟩++sg:Str).length+(⟨(cutL b (some (bar+1)) none).toArray⟩:Str).length<=sizeLine:=by
      rw[app_sg]
      show(cutL b none (some bar)++sg.cps.toList).length+(cutL b (some (bar+1)) none).length<=_
      rw[gxE,o2]
      exact sz (by omega)
     have eg:ixF ((firsts S.kept).map fun p=>skey p.1) ((firsts S.kept).map fun p=>tkD p.2) (.str (srcOf S.kept nm bar).1)=some (some (tkD (b,a))):=by rw[ixF_k skey_inj tkD _ (firsts S.kept) rfl,firsts_get wf.kp.nd,ef];rfl
     refine iteNn (c1:=sg = "o") (c2:=sg = "x") (fun _=>?_) (fun z=>absurd hs z)
     refine⟨rfl,_,rfl,tkD (b,a),eg,rfl,lb,l1,lb,l2,zs,?_⟩
     refine⟨rfl,_,rfl,rfl,_,rfl,rfl,_,rfl,_,_,(kd_of skey tkD (firsts S.kept)).1,(kd_of skey tkD (firsts S.kept)).2,by rw[kd_len];omega,rfl,rfl,_,rfl,end_at,rfl,?_⟩
     rw[set_end]
     refine Fz.obj (aa _) end_at ⟨trivial,mr_dc pt_mr _,mr_dput (mr_g tk_mr _) ⟨trivial,trivial,trivial⟩,mr_sh _,trivial⟩ (old_app hm) ?_
     rw[bf]
     refine .keep (gK_of em ?_)
     show Kd (.obj cStand sdN [.int S.n,dcG skey ptD S.kept,.fdc ((dput _ _ (.tup [.str (⟨(cutL b none (some bar)).toArray⟩++sg++⟨(cutL b (some (bar+1)) none).toArray⟩),.int a])).map (·.1)) ((dput _ _ (.tup [.str (⟨(cutL b none (some bar)).toArray⟩++sg++⟨(cutL b (some (bar+1)) none).toArray⟩),.int a])).map (·.2)),shD S.shut]) μ
     rw[eh]
     exact kk
    ·rw[aj hs]at kk
     exact iteDn (c:=sg = "o") (fun q1=>iteDn (c:=sg = "x") (fun q2=>⟨zs,gX_of hK em kk⟩) (fun q2=>absurd (.inr q2) hs)) (fun q1=>absurd (.inl q1) hs)
   ·rw[aj hb]at kk
    show(if 0<=bar/\bar<S.n then _ else _)
    rw[aj hb]
    exact(gX_of hK em kk).2
 ·exact h.elim
theorem ok_aged (F:Fun K "aged" "aged" s_aged f fd)(T:Bi2 mg)(Z_Stand:ZStand K cStand)(O_Joined:OwnCls "Joined" cJoined veB "ValueError.__new__" mg base)(C_Stand_parts:c_Stand_parts P w K mg base)(C_check_age:c_check_age P w K mg base)(C_with_key:c_with_key P w K mg base)(C_Stand___init__:c_Stand___init__ P w K mg base):FnOk P w K mg base (CX1 P w) 6 f fd (pA s_aged) (spX (fDeed1 cStand rcs 3)):=by
 refine F.okX sc_aged (fun ds μ Kd Kx h=>fDeed1_len h) (fun cdv A outer s H E hr φ0 Kb Z=>⟨_,(b_cons (s_asg (dv 1) ⟨(pg_tupC (n:=3) rfl (pgs_consC (qN 2 sc_aged.nd) (pgs_consC (qN 3 sc_aged.nd) (pgs_consC (qN 4 sc_aged.nd) pgs_nilC)))),(so_tup (so_cons (so_name 2) (mo_name 2) (so_cons (so_name 3) (mo_name 3) (so_cons (so_name 4) (mo_name 4) so_nil mo_nil) (mo_cons (mo_name 4) mo_nil)) (mo_cons (mo_name 3) (mo_cons (mo_name 4) mo_nil)))),(mo_tup (mo_cons (mo_name 2) (mo_cons (mo_name 3) (mo_cons (mo_name 4) mo_nil))))⟩)
  (b_cons (s_if (t_notN (d_methX Z.z C_Stand_parts Z_Stand.cl hr.le (dv 0) (a1 (dv 3))))
  (b_one (s_raise Z rfl O_Joined af (by decide) af rfl (a1 d_str)))
  b_nil)
  (b_cons (s_expr (d_callX Z.z C_check_age hr.le rfl (a1 (dv 4))))
  (b_cons (s_asg (d_ixF (hu_of hr) (d_fld Z_Stand.cl Z_Stand.n_firsts (dv 0)) (dv 3) (fun _ _=>rfl)) ⟨(pg_tupC (n:=2) rfl (pgs_consC (qN 5 sc_aged.nd) (pgs_consC (qN 6 sc_aged.nd) pgs_nilC))),(so_tup (so_cons (so_name 5) (mo_name 5) (so_cons (so_name 6) (mo_name 6) so_nil mo_nil) (mo_cons (mo_name 6) mo_nil))),(mo_tup (mo_cons (mo_name 5) (mo_cons (mo_name 6) mo_nil)))⟩)
  (b_one (s_ret (d_fz (d_make C_Stand___init__ hr.le rfl (da_cons (d_fld Z_Stand.cl Z_Stand.n_length (dv 0)) (da_cons (d_fld Z_Stand.cl Z_Stand.n_made_of (dv 0)) (da_cons (qC C_with_key hr (a3 (d_fld Z_Stand.cl Z_Stand.n_firsts (dv 0)) (dv 3) (d_tup (a2 (dv 5) (dv 4))))) (da_cons (d_fld Z_Stand.cl Z_Stand.n_closed (dv 0)) da_nil)))))))))))),fun ds μ m Kd Kx hm hl em h hK=>?_⟩)
 unfold fDeed1 at h
 split at h
 ·rename_i x y
  obtain⟨_,S,d,m',rfl,rfl,hw,wf,hm',hok,kk⟩:=h
  obtain⟨nm,a,rfl⟩:∃ nm a,d=.aged nm a:=by cases d <;> first | exact⟨_,_,rfl⟩ | cases hw
  have few:=wf.few
  have lf:(firsts S.kept).length<=20:=aB (cb _ _) few
  refine⟨rfl,⟨rfl,rfl⟩,gx_at em,⟨_,gx_at em⟩,S,rfl,?_⟩
  have kk:orX _ Kd Kx (match aget S.kept nm with | none=>some 11 | some (.jn _ _ _)=>some 13 | some (.fst _ _)=>ageW a) (sdD cStand (match aget S.kept nm with | some (.fst b _)=>{ S with kept:=aput S.kept nm (.fst b a)} | _=>S)) μ:=kk
  cases e:aget S.kept nm with
  | none=>rw[e]at kk;exact(gX_of hK em kk).2
  | some x =>
   rw[e]at kk
   cases x with
   | jn l r p=>exact⟨zs,gX_of hK em kk⟩
   | fst b a0 =>
    refine⟨gx_at em,⟨_,gx_at em⟩,?_⟩
    have kk:orX _ Kd Kx (ageW a) (sdD cStand { S with kept:=aput S.kept nm (.fst b a)}) μ:=kk
    cases e2:ageW a with
    | some i=>rw[e2]at kk;exact(gX_of hK em kk).2
    | none =>
     rw[e2]at kk
     refine⟨rfl,_,rfl,tkD (b,a0),by rw[ixF_k skey_inj tkD nm (firsts S.kept) rfl,firsts_get wf.kp.nd,e];rfl,rfl,?_⟩
     refine⟨rfl,_,rfl,rfl,_,rfl,rfl,_,rfl,zs,_,_,(kd_of skey tkD (firsts S.kept)).1,(kd_of skey tkD (firsts S.kept)).2,by rw[kd_len];omega,rfl,rfl,_,rfl,end_at,rfl,?_⟩
     rw[set_end]
     refine Fz.obj (aa _) end_at ⟨trivial,mr_dc pt_mr _,mr_dput (mr_g tk_mr _) (tk_mr (b,a)),mr_sh _,trivial⟩ (old_app hm) ?_
     rw[bf]
     have kk:Kd (.obj cStand sdN [.int S.n,dcG skey ptD (aput S.kept nm (.fst b a)),dcG skey tkD (firsts (aput S.kept nm (.fst b a))),shD S.shut]) μ:=kk
     rw[firsts_old wf.kp.nd e,<- wput skey_inj tkD,pt_again e wf.kp.nd]at kk
     exact .keep (gK_of em kk)
 ·exact h.elim
theorem ok_drop (F:Fun K "drop" "drop" s_drop f fd)(T:Bi2 mg)(Z_Stand:ZStand K cStand)(O_Needed:OwnCls "Needed" cNeeded veB "ValueError.__new__" mg base)(C_Stand_check_there:c_Stand_check_there P w K mg base)(C_without_key:c_without_key P w K mg base)(C_Stand___init__:c_Stand___init__ P w K mg base):FnOk P w K mg base (CX1 P w) 6 f fd (pA s_drop) (spX (fDeed1 cStand rcs 4)):=by
 refine F.okX sc_drop (fun ds μ Kd Kx h=>fDeed1_len h) (fun cdv A outer s H E hr φ0 Kb Z=>⟨_,(b_cons (s_asg (dv 1) ⟨(pg_tupC (n:=2) rfl (pgs_consC (qN 2 sc_drop.nd) (pgs_consC (qN 3 sc_drop.nd) pgs_nilC))),(so_tup (so_cons (so_name 2) (mo_name 2) (so_cons (so_name 3) (mo_name 3) so_nil mo_nil) (mo_cons (mo_name 3) mo_nil))),(mo_tup (mo_cons (mo_name 2) (mo_cons (mo_name 3) mo_nil)))⟩)
  (b_cons (s_expr (d_methX Z.z C_Stand_check_there Z_Stand.cl hr.le (dv 0) (a1 (dv 3))))
  (b_cons (s_if (d_testV (d_blt (anyC rfl) so_all (by rfl) T.any PyProof.Rows.boot_any (a1 (dC1 false (cOk (N:=["parts", "name"]) (js:=[none,some 3]) sc_drop (by decide +kernel)) (i_valuesF (d_fld Z_Stand.cl Z_Stand.n_made_of (dv 0))) (fun _ _ _ nd=>(qN 0 nd)) (fun _ _ _=>ts_nil) (fun _ _ _=>(d_and (d_notN (dv 0)) (d_one (d_cmp inC so_inT (dv 1) (d_sliceT (dv 0) o_no (o_some d_int)) (by with_unfolding_all rfl)))))))))
  (b_one (s_raise Z rfl O_Needed af (by decide) af rfl (a1 d_str)))
  b_nil)
  (b_cons (qS 4 sc_drop.nd (qC C_without_key hr (a2 (d_fld Z_Stand.cl Z_Stand.n_made_of (dv 0)) (dv 3))))
  (b_one (s_ret (d_fz (d_make C_Stand___init__ hr.le rfl (da_cons (d_fld Z_Stand.cl Z_Stand.n_length (dv 0)) (da_cons (dv 4) (da_cons (qC C_without_key hr (a2 (d_fld Z_Stand.cl Z_Stand.n_firsts (dv 0)) (dv 3))) (da_cons (d_fld Z_Stand.cl Z_Stand.n_closed (dv 0)) da_nil)))))))))))),fun ds μ m Kd Kx hm hl em h hK=>?_⟩)
 unfold fDeed1 at h
 split at h
 ·rename_i x y
  obtain⟨_,S,d,m',rfl,rfl,hw,wf,hm',hok,kk⟩:=h
  obtain⟨nm,rfl⟩:∃ nm,d=.drop nm:=by cases d <;> first | exact⟨_,rfl⟩ | cases hw
  have few:=wf.few
  have lf:(firsts S.kept).length<=20:=aB (cb _ _) few
  refine⟨rfl,⟨rfl,rfl⟩,gx_at em,⟨_,gx_at em⟩,S,rfl,?_⟩
  have kk:orX _ Kd Kx (if hasN S nm=false then some 11 else if needN S nm=true then some 14 else none) (sdD cStand { S with kept:=adrop S.kept nm}) μ:=kk
  unfold hasN at kk
  cases e:aget S.kept nm with
  | none=>rw[e]at kk;exact(gX_of hK em kk).2
  | some x =>
   rw[e]at kk
   have kk:orX _ Kd Kx (if needN S nm=true then some 14 else none) (sdD cStand { S with kept:=adrop S.kept nm}) μ:=kk
   refine⟨rfl,_,rfl,fun _=>⟨by rw[gxC];exact sz (by omega),?_⟩⟩
   refine compW_all trivial (fun p:Str×Pt=>ptD p.2) (fun p=>D.bl (isNeed nm p.2)) (fun p _ K' k'=>?_) ?_
   ·obtain⟨z,y⟩:=p
    cases y with
    | fst b a=>exact k'
    | jn l r q =>
     refine⟨fun y=>absurd y.2 (show ¬ (2:Nat)=3 by decide),rfl,rfl,?_⟩
     have eb:(false != ([D.str l,D.str r].any fun d=>deq d (.str nm)))=isNeed nm (.jn l r q):=by
      rw[fne]
      simp only[bN,List.any_nil,deq,Bool.or_false]
      rfl
     show K' (some (.bl (false != ([D.str l,D.str r].any fun d=>deq d (.str nm))))) _
     rw[eb]
     exact k'
   ·refine⟨S.kept.map fun p=>isNeed nm p.2,by rw[aK];rfl,?_⟩
    have eb:((S.kept.map fun p=>isNeed nm p.2).any id)=needN S nm:=by rw[List.any_map];rfl
    show if((S.kept.map fun p=>isNeed nm p.2).any id)=true then _ else _
    rw[eb]
    by_cases q:needN S nm=true
    ·rw[ar q]at kk ⊢
     exact⟨zs,gX_of hK em kk⟩
    ·rw[aj q]at kk ⊢
     have sk:∀ {β:Type} {f:β->D} {l:List (Str×β)},∀ p∈(l.map fun p=>(skey p.1,f p.2)),(∃ i j,p.1=ikey i/\skey nm=ikey j)\/∃ i j,p.1=skey i/\skey nm=skey j:=fun p hp=>by
      obtain⟨z,_,rfl⟩:=List.mem_map.mp hp;exact .inr ⟨_,_,rfl,rfl⟩
     have nf:((firsts S.kept).map (·.1)).Nodup:=wf.kp.nd.sublist firsts_sub
     refine⟨rfl,_,rfl,_,_,(kd_of skey ptD S.kept).1,(kd_of skey ptD S.kept).2,by rw[kd_len];omega,kd_nd skey_inj ptD wf.kp.nd,rfl,sk,?_⟩
     refine⟨rfl,_,rfl,rfl,_,rfl,_,_,(kd_of skey tkD (firsts S.kept)).1,(kd_of skey tkD (firsts S.kept)).2,by rw[kd_len];omega,kd_nd skey_inj tkD nf,rfl,sk,rfl,_,rfl,end_at,rfl,?_⟩
     rw[set_end]
     have mf:∀ {β:Type} {n:Nat} {f:β->D} (hf:∀ b,mrB n (f b)) (l:List (Str×β)),mrL n (((l.map fun p=>(skey p.1,f p.2)).filter fun p=>decide (p.1≠skey nm)).map (·.2)):=fun hf l=>mr_all fun d hd=>by
      obtain⟨z,hz,rfl⟩:=List.mem_map.mp hd
      obtain⟨z2,_,rfl⟩:=List.mem_map.mp (List.mem_filter.mp hz).1
      exact hf _
     refine Fz.obj (aa _) end_at ⟨trivial,mf pt_mr _,mf tk_mr _,mr_sh _,trivial⟩ (old_app hm) ?_
     rw[bf]
     have kk:Kd (.obj cStand sdN [.int S.n,dcG skey ptD (adrop S.kept nm),dcG skey tkD (firsts (adrop S.kept nm)),shD S.shut]) μ:=kk
     rw[firsts_drop,<- wdrop skey_inj,<- wdrop skey_inj]at kk
     exact .keep (gK_of em kk)
 ·exact h.elim
theorem ok_free (F:Fun K "free" "free" s_free f fd)(T:Bi2 mg)(Z_Stand:ZStand K cStand)(C_check_place:c_check_place P w K mg base)(C_without_key:c_without_key P w K mg base)(C_Stand___init__:c_Stand___init__ P w K mg base):FnOk P w K mg base (CX1 P w) 6 f fd (pA s_free) (spX (fDeed1 cStand rcs 5)):=by
 refine F.okX sc_free (fun ds μ Kd Kx h=>fDeed1_len h) (fun cdv A outer s H E hr φ0 Kb Z=>⟨_,(b_cons (s_asg (dv 1) ⟨(pg_tupC (n:=2) rfl (pgs_consC (qN 2 sc_free.nd) (pgs_consC (qN 3 sc_free.nd) pgs_nilC))),(so_tup (so_cons (so_name 2) (mo_name 2) (so_cons (so_name 3) (mo_name 3) so_nil mo_nil) (mo_cons (mo_name 3) mo_nil))),(mo_tup (mo_cons (mo_name 2) (mo_cons (mo_name 3) mo_nil)))⟩)
  (b_cons (s_expr (d_callX Z.z C_check_place hr.le rfl (a2 (dv 0) (dv 3))))
  (b_one (s_ret (d_fz (d_make C_Stand___init__ hr.le rfl (da_cons (d_fld Z_Stand.cl Z_Stand.n_length (dv 0)) (da_cons (d_fld Z_Stand.cl Z_Stand.n_made_of (dv 0)) (da_cons (d_fld Z_Stand.cl Z_Stand.n_firsts (dv 0)) (da_cons (qC C_without_key hr (a2 (d_fld Z_Stand.cl Z_Stand.n_closed (dv 0)) (dv 3))) da_nil)))))))))),fun ds μ m Kd Kx hm hl em h hK=>?_⟩)
 unfold fDeed1 at h
 split at h
 ·rename_i x y
  obtain⟨_,S,d,m',rfl,rfl,hw,wf,hm',hok,kk⟩:=h
  obtain⟨p,rfl⟩:∃ p,d=.free p:=by cases d <;> first | exact⟨_,rfl⟩ | cases hw
  have shl:=wf.shl
  refine⟨rfl,gx_at em,⟨_,gx_at em⟩,S,rfl,?_⟩
  have kk:orX _ Kd Kx (placeW S p) (sdD cStand { S with shut:=adrop S.shut p}) μ:=kk
  cases e:placeW S p with
  | some i=>rw[e]at kk;exact(gX_of hK em kk).2
  | none =>
   rw[e]at kk
   refine⟨rfl,_,rfl,rfl,_,rfl,rfl,_,rfl,rfl,_,rfl,_,_,(kd_of ikey (fun _=>.bl true) S.shut).1,(kd_of ikey (fun _=>.bl true) S.shut).2,by rw[gxC];omega,kd_nd ikey_inj (fun _:Unit=>D.bl true) wf.shn,rfl,fun q hq=>?_,end_at,rfl,?_⟩
   ·obtain⟨z,_,rfl⟩:=List.mem_map.mp hq;exact .inl ⟨_,_,rfl,rfl⟩
   rw[set_end]
   refine Fz.obj (aa _) end_at ⟨trivial,mr_dc pt_mr _,mr_dc tk_mr _,mr_all fun d hd=>?_,trivial⟩ (old_app hm) ?_
   ·obtain⟨z,hz,rfl⟩:=List.mem_map.mp hd
    obtain⟨z2,_,rfl⟩:=List.mem_map.mp (List.mem_filter.mp hz).1
    exact True.intro
   rw[bf]
   have kk:Kd (.obj cStand sdN [.int S.n,dcG skey ptD S.kept,dcG skey tkD (firsts S.kept),dcG ikey (fun _=>.bl true) (adrop S.shut p)]) μ:=kk
   rw[<- wdrop ikey_inj]at kk
   exact .keep (gK_of em kk)
 ·exact h.elim
theorem ok_shut (F:Fun K "shut" "shut" s_shut f fd)(T:Bi2 mg)(Z_Stand:ZStand K cStand)(C_check_place:c_check_place P w K mg base)(C_with_key:c_with_key P w K mg base)(C_Stand___init__:c_Stand___init__ P w K mg base):FnOk P w K mg base (CX1 P w) 6 f fd (pA s_shut) (spX (fDeed1 cStand rcs 6)):=by
 refine F.okX sc_shut (fun ds μ Kd Kx h=>fDeed1_len h) (fun cdv A outer s H E hr φ0 Kb Z=>⟨_,(b_cons (s_asg (dv 1) ⟨(pg_tupC (n:=2) rfl (pgs_consC (qN 2 sc_shut.nd) (pgs_consC (qN 3 sc_shut.nd) pgs_nilC))),(so_tup (so_cons (so_name 2) (mo_name 2) (so_cons (so_name 3) (mo_name 3) so_nil mo_nil) (mo_cons (mo_name 3) mo_nil))),(mo_tup (mo_cons (mo_name 2) (mo_cons (mo_name 3) mo_nil)))⟩)
  (b_cons (s_expr (d_callX Z.z C_check_place hr.le rfl (a2 (dv 0) (dv 3))))
  (b_one (s_ret (d_fz (d_make C_Stand___init__ hr.le rfl (da_cons (d_fld Z_Stand.cl Z_Stand.n_length (dv 0)) (da_cons (d_fld Z_Stand.cl Z_Stand.n_made_of (dv 0)) (da_cons (d_fld Z_Stand.cl Z_Stand.n_firsts (dv 0)) (da_cons (qC C_with_key hr (a3 (d_fld Z_Stand.cl Z_Stand.n_closed (dv 0)) (dv 3) d_bl)) da_nil)))))))))),fun ds μ m Kd Kx hm hl em h hK=>?_⟩)
 unfold fDeed1 at h
 split at h
 ·rename_i x y
  obtain⟨_,S,d,m',rfl,rfl,hw,wf,hm',hok,kk⟩:=h
  obtain⟨p,rfl⟩:∃ p,d=.shut p:=by cases d <;> first | exact⟨_,rfl⟩ | cases hw
  have shl:=wf.shl
  refine⟨rfl,gx_at em,⟨_,gx_at em⟩,S,rfl,?_⟩
  have kk:orX _ Kd Kx (placeW S p) (sdD cStand { S with shut:=aput S.shut p ()}) μ:=kk
  cases e:placeW S p with
  | some i=>rw[e]at kk;exact(gX_of hK em kk).2
  | none =>
   rw[e]at kk
   refine⟨rfl,_,rfl,rfl,_,rfl,rfl,_,rfl,rfl,_,rfl,_,_,(kd_of ikey (fun _=>.bl true) S.shut).1,(kd_of ikey (fun _=>.bl true) S.shut).2,by rw[gxC];omega,rfl,end_at,rfl,?_⟩
   rw[set_end]
   refine Fz.obj (aa _) end_at ⟨trivial,mr_dc pt_mr _,mr_dc tk_mr _,mr_dput (mr_g (f:=fun _:Unit=>D.bl true) (fun _=>True.intro) _) True.intro,trivial⟩ (old_app hm) ?_
   rw[bf]
   have kk:Kd (.obj cStand sdN [.int S.n,dcG skey ptD S.kept,dcG skey tkD (firsts S.kept),dcG ikey (fun _=>.bl true) (aput S.shut p ())]) μ:=kk
   rw[<- wput ikey_inj (fun _:Unit=>D.bl true)]at kk
   exact .keep (gK_of em kk)
 ·exact h.elim
theorem ok_stand_behind (F:Fun K "stand_behind" "stand_behind" s_stand_behind f fd)(T:Bi2 mg)(T_DEEDS:Tab P w K mg "DEEDS" [("put",a_put),("join",a_join),("found",a_found),("aged",a_aged),("drop",a_drop),("free",a_free),("shut",a_shut)])(M_put:mg "put"=some (.ref a_put))(M_join:mg "join"=some (.ref a_join))(M_found:mg "found"=some (.ref a_found))(M_aged:mg "aged"=some (.ref a_aged))(M_drop:mg "drop"=some (.ref a_drop))(M_free:mg "free"=some (.ref a_free))(M_shut:mg "shut"=some (.ref a_shut))(C_put:c_put P w K mg base)(C_join:c_join P w K mg base)(C_found:c_found P w K mg base)(C_aged:c_aged P w K mg base)(C_drop:c_drop P w K mg base)(C_free:c_free P w K mg base)(C_shut:c_shut P w K mg base):FnOk P w K mg base (CX1 P w) 7 f fd (pA s_stand_behind) (spX (fBehindS cStand rcs)):=by
 have CV:=calv_cons C_put M_put (calv_cons C_join M_join (calv_cons C_found M_found (calv_cons C_aged M_aged (calv_cons C_drop M_drop (calv_cons C_free M_free (calv_cons C_shut M_shut calv_nil))))))
 refine F.okX sc_stand_behind (fun ds μ Kd Kx h=>fBehindS_len h) (fun cdv A outer s H E hr φ0 Kb Z=>⟨_,(b_cons (qS 2 sc_stand_behind.nd (d_tab T_DEEDS rfl (dIX (dv 1) d_int) (fun _ _=>rfl)))
  (b_one (s_ret (d_callV (i:=2) Z.z CV hr.le rfl (by first | exact Or.inl rfl | exact Or.inr (Or.inl rfl) | exact Or.inr (Or.inr rfl)) (a2 (dv 0) (dv 1)))))),fun ds μ m Kd Kx hm hl em h hK=>?_⟩)
 unfold fBehindS at h
 split at h
 ·rename_i x y
  obtain⟨_,S,d,m',rfl,rfl,wf,hm',hok,kk⟩:=h
  have kk:orX rcs (gK φ0 H m Kd) Kb (refW S d) (sdD cStand (doD S d)) (μ.set 0 (.gx φ0 H)):=by
   unfold orX at kk ⊢
   cases e:refW S d with
   | some i=>rw[e]at kk;exact(gX_of hK em kk).2
   | none=>rw[e]at kk;exact gK_of em kk
  have fin:∀ w,ddW d=w->fDeed1 cStand rcs w [sdD cStand S,ddD d] (μ.set 0 (.gx φ0 H)) (retN (μ.set 0 (.gx φ0 H)).length (gK φ0 H m Kd)).rt Kb:=fun w hw=>⟨⟨_,gx_at em⟩,S,d,m',rfl,rfl,hw,wf,hm',hok,by
   unfold orX at kk ⊢
   cases e:refW S d with
   | some i=>rw[e]at kk;exact kk
   | none=>rw[e]at kk;exact .keep kk⟩
  cases d with
  | put nm b a=>exact opt_of rfl ⟨a_put,rfl,_,aC,gx_at em,fin 0 rfl⟩
  | join nm l r p=>exact opt_of rfl ⟨a_join,rfl,_,gxI _ aC,gx_at em,fin 1 rfl⟩
  | found nm b a=>exact opt_of rfl ⟨a_found,rfl,_,gxI _ (gxI _ aC),gx_at em,fin 2 rfl⟩
  | aged nm b=>exact opt_of rfl ⟨a_aged,rfl,_,gxI _ (gxI _ (gxI _ aC)),gx_at em,fin 3 rfl⟩
  | drop nm=>exact opt_of rfl ⟨a_drop,rfl,_,gxI _ (gxI _ (gxI _ (gxI _ aC))),gx_at em,fin 4 rfl⟩
  | free nm=>exact opt_of rfl ⟨a_free,rfl,_,gxI _ (gxI _ (gxI _ (gxI _ (gxI _ aC)))),gx_at em,fin 5 rfl⟩
  | shut nm=>exact opt_of rfl ⟨a_shut,rfl,_,gxI _ (gxI _ (gxI _ (gxI _ (gxI _ (gxI _ aC))))),gx_at em,fin 6 rfl⟩
 ·exact h.elim
theorem ok_Room___init__ (F:Fun K "__init__" "Room.__init__" s_Room___init__ f fd)(T:Bi2 mg)(Z_Room:ZRoom K cRoom)(Z_Stand:ZStand K cStand)(O_BadSize:OwnCls "BadSize" cBadSize veB "ValueError.__new__" mg base)(G_LONGEST:GInt mg "LONGEST" 40)(C_Stand___init__:c_Stand___init__ P w K mg base):FnOk P w K mg base (CX1 P w) 3 f fd (pA s_Room___init__) (spX (fRoInit cRoom cStand rcs)):=by
 refine F.okX sc_Room___init__ (fun ds μ Kd Kx h=>fRoInit_len h) (fun cdv A outer s H E hr φ0 Kb Z=>⟨_,(b_cons (s_if (PW.pt (t_or (qLt (dv 1) d_int) (t_or1 (qGt (dv 1) (d_gint rfl G_LONGEST)))))
  (b_one (s_raise Z rfl O_BadSize af (by decide) af rfl (a1 d_str)))
  b_nil)
  (b_cons (s_fld Z_Room.cl Z_Room.n_stands (d_lst true (a1 (d_fz (d_make C_Stand___init__ hr.le rfl (da_cons (dv 1) (da_cons d_dnewF (da_cons d_dnewF (da_cons d_dnewF da_nil)))))))) (dv 0))
  (b_cons (s_fld Z_Room.cl Z_Room.n_rows (d_lst true da_nil) (dv 0))
  (b_one (s_fld Z_Room.cl Z_Room.n_done d_int (dv 0)))))),fun ds μ m Kd Kx hm hl em h hK=>?_⟩)
 unfold fRoInit at h
 split at h
 ·rename_i k n
  obtain⟨_,k0,ek,kk⟩:=h
  refine iteD (c:=n<1) (fun q=>⟨zs,gX_of hK em (by rw[aj (by omega)]at kk;exact kk)⟩) (fun q1=>iteD (c:=(40:Int)<n) (fun q=>⟨zs,gX_of hK em (by rw[aj (by omega)]at kk;exact kk)⟩) (fun q2=>?_))
  rw[ar (by omega)]at kk
  have hk:k<μ.length:=(gxB ek).1
  have hkg:k<(μ.set 0 (.gx φ0 H)).length:=by rw[aE];exact hk
  have eg:(μ.set 0 (.gx φ0 H))[k]?=some (.ins cRoom [] []):=by rw[ah (aO k0)];exact ek
  refine⟨end_at,rfl,?_⟩
  rw[set_end]
  refine Fz.obj (aa _) end_at ⟨trivial,trivial,trivial,trivial,trivial⟩ (old_app hm) ?_
  rw[bf]
  refine⟨zs,?_⟩
  refine⟨_,_,insM_of (by rw[gxF hkg];exact eg),rfl,by decide,?_⟩
  rw[b7 _ _ hkg]
  refine⟨zs,?_⟩
  have hk2:∀ X:MO,k<((μ.set 0 (.gx φ0 H)).set k X).length:=fun X=>by rw[aE];exact hkg
  refine⟨_,_,insM_of (by rw[bx,gxF (hk2 _),aw hkg]),rfl,by show 1<1000;decide,?_⟩
  rw[bx,b7 _ _ (hk2 _),cZ]
  refine⟨_,_,insM_of (by rw[gxF (hk2 _),aw hkg]),rfl,by show 2<1000;decide,.keep ?_⟩
  rw[b7 _ _ (hk2 _),cZ]
  have h0:0<μ.length:=(gxB em).1
  refine⟨by rw[gxF (by rw[aE,aE];exact h0),ah k0,aw h0],?_⟩
  rw[b7 _ _ (by rw[aE,aE];exact h0),List.set_comm _ _ k0,gx_back em]
  have l0:(μ.set 0 (.gx φ0 H)).length=μ.length:=aE
  show Kd .non (μ.set k (.ins cRoom roN [.mr (μ.set 0 (.gx φ0 H)).length,.mr ((μ.set 0 (.gx φ0 H)).set k _++[_]).length,.int 0])++[.lst [sdD cStand ⟨n,[],[]⟩],.lst []])
  simp only[gxE,aE,aN]
  exact kk
 ·exact h.elim
theorem ok_Room_now (F:Fun K "now" "Room.now" s_Room_now f fd)(T:Bi2 mg)(Z_Room:ZRoom K cRoom):FnOk P w K mg base CX0 1 f fd (pA s_Room_now) (spD (fNow cRoom cStand)):=by
 refine F.okD sc_Room_now (fun ds μ Kd h=>by unfold fNow at h;split at h <;> first | rfl | exact h.elim) (fun cdv A outer s H E hr=>⟨_,(b_one (s_ret (dIX (d_fld Z_Room.cl Z_Room.n_stands (dv 0)) (d_fld Z_Room.cl Z_Room.n_done (dv 0))))),fun ds μ Kd hm hl h=>?_⟩)
 unfold fNow at h
 split at h
 ·rename_i k
  obtain⟨j1,j2,ss,rs,d,S,ra,es,kk⟩:=h
  exact⟨.mr j1,by rw[insM_of ra.ins];rfl,.int d,by rw[insM_of ra.ins];rfl,opt_of (lvM_of ra.l1) (opt_of (atI_maps es) (Fz.keep kk))⟩
 ·exact h.elim
theorem ok_Room_deed (F:Fun K "deed" "Room.deed" s_Room_deed f fd)(T:Bi2 mg)(Z_Room:ZRoom K cRoom)(C_Room_now:c_Room_now P w K mg base)(C_stand_behind:c_stand_behind P w K mg base):FnOk P w K mg base (CX1 P w) 8 f fd (pA s_Room_deed) (spX (fDeedR cRoom cStand rcs)):=by
 refine F.okX sc_Room_deed (fun ds μ Kd Kx h=>fDeedR_len h) (fun cdv A outer s H E hr φ0 Kb Z=>⟨_,(b_cons (qS 2 sc_Room_deed.nd (d_callX Z.z C_stand_behind hr.le rfl (a2 (d_meth0 C_Room_now Z_Room.cl hr.le (dv 0)) (dv 1))))
  (b_cons (s_slE (d_fld Z_Room.cl Z_Room.n_stands (dv 0)) (dPl (d_fld Z_Room.cl Z_Room.n_done (dv 0)) d_int) (d_lst false (a1 (dv 2))))
  (b_cons (s_slE (d_fld Z_Room.cl Z_Room.n_rows (dv 0)) (d_fld Z_Room.cl Z_Room.n_done (dv 0)) (d_lst false (a1 (dv 1))))
  (b_one (s_augFA Z_Room.cl Z_Room.n_done (dv 0) d_int))))),fun ds μ m Kd Kx hm hl em h hK=>?_⟩)
 unfold fDeedR at h
 split at h
 ·rename_i k y
  obtain⟨_,j1,j2,ss,rs,d,S,e,ra,es,rfl,hok,few,kk⟩:=h
  have rg:=ra.gx (m:=.gx φ0 H)
  obtain⟨S',es',wf⟩:=ra.now
  rw[es]at es'
  cases es'
  have:=ra.le
  have:=ra.len
  have rc:recvD cRoom "now" (μ.set 0 (.gx φ0 H)) (.mr k):=by show(insM _ _ _).map _=_;rw[insM_of rg.ins];rfl
  refine⟨rc,j1,j2,ss,rs,d,S,rg,es,gx_at em,⟨_,gx_at em⟩,S,e,d,rfl,rfl,wf,by omega,hok,?_⟩
  unfold orX
  cases er:refW S e with
  | some i=>rw[er]at kk;exact(gX_of hK em kk).2
  | none =>
   rw[er]at kk
   obtain⟨lk,la,lb⟩:=rg.lk
   have few2:=ra.few
   have f1:∀ {ν:MS},ν[k]?=some (.ins cRoom roN [.mr j1,.mr j2,.int (d:Int)])->insM cRoom ν k=some (roN,[.mr j1,.mr j2,.int (d:Int)]):=fun h=>insM_of h
   refine⟨zs,.mr j1,by rw[f1 rg.ins];rfl,.int d,by rw[f1 rg.ins];rfl,_,lvM_of rg.l1,by omega,by rw[gxC];omega,by rw[gxC];exact sz (by show _+1<=_;omega),?_⟩
   have i1:∀ X,((μ.set 0 (.gx φ0 H)).set j1 X)[k]?=some (.ins cRoom roN [.mr j1,.mr j2,.int (d:Int)]):=fun X=>by rw[ah (aO ra.ka)];exact rg.ins
   refine⟨zs,.mr j2,by rw[f1 (i1 _)];rfl,.int d,by rw[f1 (i1 _)];rfl,_,lvM_of (by rw[ah ra.ab];exact rg.l2),by omega,by rw[gxC];omega,by rw[gxC];exact sz (by show _+1<=_;omega),?_⟩
   have i2:∀ X Y,(((μ.set 0 (.gx φ0 H)).set j1 X).set j2 Y)[k]?=some (.ins cRoom roN [.mr j1,.mr j2,.int (d:Int)]):=fun X Y=>by rw[ah (aO ra.kb)];exact i1 X
   refine⟨d,by rw[f1 (i2 _ _)];rfl,_,_,f1 (i2 _ _),rfl,by show 3<1000;decide,.keep ?_⟩
   obtain⟨g1,g2⟩:=putR_gx ra (m:=.gx φ0 H) (ss':=ss.take (d+1)++[doD S e]) (rs':=rs.take d++[e]) (d':=d+1) em
   have eq:((((μ.set 0 (.gx φ0 H)).set j1 (.lst ((ss.map (sdD cStand)).take ((d:Int)+1).toNat++[sdD cStand (doD S e)]))).set j2 (.lst ((rs.map ddD).take (d:Int).toNat++[ddD e]))).set k (.ins cRoom roN [.mr j1,.mr j2,.int ((d:Int)+1)]))=putR cRoom cStand (μ.set 0 (.gx φ0 H)) k j1 j2 (ss.take (d+1)++[doD S e]) (rs.take d++[e]) (d+1):=by
    unfold putR
    rw[aS,aS,List.map_take,List.map_take,show((d:Int)+1).toNat=d+1 by omega,gxK]
    rfl
   show gK φ0 H m Kd .non ((((μ.set 0 (.gx φ0 H)).set j1 (.lst ((ss.map (sdD cStand)).take ((d:Int)+1).toNat++[sdD cStand (doD S e)]))).set j2 (.lst ((rs.map ddD).take (d:Int).toNat++[ddD e]))).set k (.ins cRoom roN [.mr j1,.mr j2,.int ((d:Int)+1)]))
   rw[eq]
   exact⟨g2,by rw[g1];exact kk⟩
 ·exact h.elim
theorem ok_Room_deeds (F:Fun K "deeds" "Room.deeds" s_Room_deeds f fd)(T:Bi2 mg)(Z_Room:ZRoom K cRoom):FnOk P w K mg base CX0 1 f fd (pA s_Room_deeds) (spD (fRowsR cRoom cStand true)):=by
 refine F.okD sc_Room_deeds (fun ds μ Kd h=>by unfold fRowsR at h;split at h <;> first | rfl | exact h.elim) (fun cdv A outer s H E hr=>⟨_,(b_one (s_ret (d_slice false (d_fld Z_Room.cl Z_Room.n_rows (dv 0)) o_no (o_some (d_fld Z_Room.cl Z_Room.n_done (dv 0)))))),fun ds μ Kd hm hl h=>?_⟩)
 unfold fRowsR at h
 split at h
 ·rename_i k
  obtain⟨j1,j2,ss,rs,d,ra,kk⟩:=h
  refine⟨_,by rw[insM_of ra.ins];rfl,_,by rw[insM_of ra.ins];rfl,opt_of (lvM_of ra.l2) ?_⟩
  rw[cutD_to]
  rw[ar rfl]at kk
  exact .keep kk
 ·exact h.elim
theorem ok_Room_ahead (F:Fun K "ahead" "Room.ahead" s_Room_ahead f fd)(T:Bi2 mg)(Z_Room:ZRoom K cRoom):FnOk P w K mg base CX0 1 f fd (pA s_Room_ahead) (spD (fRowsR cRoom cStand false)):=by
 refine F.okD sc_Room_ahead (fun ds μ Kd h=>by unfold fRowsR at h;split at h <;> first | rfl | exact h.elim) (fun cdv A outer s H E hr=>⟨_,(b_one (s_ret (d_slice false (d_fld Z_Room.cl Z_Room.n_rows (dv 0)) (o_some (d_fld Z_Room.cl Z_Room.n_done (dv 0))) o_no))),fun ds μ Kd hm hl h=>?_⟩)
 unfold fRowsR at h
 split at h
 ·rename_i k
  obtain⟨j1,j2,ss,rs,d,ra,kk⟩:=h
  refine⟨_,by rw[insM_of ra.ins];rfl,_,by rw[insM_of ra.ins];rfl,opt_of (lvM_of ra.l2) ?_⟩
  rw[cutD_from]
  rw[aj (by decide)]at kk
  exact .keep kk
 ·exact h.elim
theorem ok_Room_size (F:Fun K "size" "Room.size" s_Room_size f fd)(T:Bi2 mg)(Z_Room:ZRoom K cRoom)(Z_Stand:ZStand K cStand)(C_Room_now:c_Room_now P w K mg base):FnOk P w K mg base CX0 2 f fd (pA s_Room_size) (spD (fOfNow cRoom cStand gSize)):=by
 refine F.okD sc_Room_size (fun ds μ Kd h=>by unfold fOfNow at h;split at h <;> first | rfl | exact h.elim) (fun cdv A outer s H E hr=>⟨_,(b_one (s_ret (d_fld Z_Stand.cl Z_Stand.n_length (d_meth0 C_Room_now Z_Room.cl hr.le (dv 0))))),fun ds μ Kd hm hl h=>?_⟩)
 unfold fOfNow at h
 split at h
 ·rename_i k
  obtain⟨j1,j2,ss,rs,d,S,ra,es,kk⟩:=h
  exact⟨by show(insM _ _ _).map _=_;rw[insM_of ra.ins];rfl,j1,j2,ss,rs,d,S,ra,es,rfl,_,rfl,.keep kk⟩
 ·exact h.elim
theorem ok_Room_names (F:Fun K "names" "Room.names" s_Room_names f fd)(T:Bi2 mg)(Z_Room:ZRoom K cRoom)(Z_Stand:ZStand K cStand)(C_Room_now:c_Room_now P w K mg base):FnOk P w K mg base CX0 2 f fd (pA s_Room_names) (spD (fOfNow cRoom cStand gNames)):=by
 refine F.okD sc_Room_names (fun ds μ Kd h=>by unfold fOfNow at h;split at h <;> first | rfl | exact h.elim) (fun cdv A outer s H E hr=>⟨_,(b_one (s_ret (d_ty (listD rfl) (so_listD (m:=false)) (by rfl) T.list bH (a1 (d_fld Z_Stand.cl Z_Stand.n_made_of (d_meth0 C_Room_now Z_Room.cl hr.le (dv 0))))))),fun ds μ Kd hm hl h=>?_⟩)
 unfold fOfNow at h
 split at h
 ·rename_i k
  obtain⟨j1,j2,ss,rs,d,S,ra,es,kk⟩:=h
  refine⟨by show(insM _ _ _).map _=_;rw[insM_of ra.ins];rfl,j1,j2,ss,rs,d,S,ra,es,rfl,_,rfl,opt_of rfl ?_⟩
  unfold gNames at kk
  show Fz _ Kd (.lst ((S.kept.map fun p=>skey p.1).map keyV)) μ
  rw[aK]
  exact .keep kk
 ·exact h.elim
theorem ok_Room_cuts (F:Fun K "cuts" "Room.cuts" s_Room_cuts f fd)(T:Bi2 mg)(Z_Room:ZRoom K cRoom)(Z_Stand:ZStand K cStand)(C_Room_now:c_Room_now P w K mg base)(C_Stand_shelf:c_Stand_shelf P w K mg base):FnOk P w K mg base CX0 5 f fd (pA s_Room_cuts) (spD (fOfNow cRoom cStand gCuts)):=by
 refine F.okD sc_Room_cuts (fun ds μ Kd h=>by unfold fOfNow at h;split at h <;> first | rfl | exact h.elim) (fun cdv A outer s H E hr=>⟨_,(b_cons (s_asg (d_meth0 C_Stand_shelf Z_Stand.cl hr.le (d_meth0 C_Room_now Z_Room.cl hr.le (dv 0))) ⟨(pg_tupC (n:=3) rfl (pgs_consC (qN 1 sc_Room_cuts.nd) (pgs_consC (qN 2 sc_Room_cuts.nd) (pgs_consC (qN 3 sc_Room_cuts.nd) pgs_nilC)))),(so_tup (so_cons (so_name 1) (mo_name 1) (so_cons (so_name 2) (mo_name 2) (so_cons (so_name 3) (mo_name 3) so_nil mo_nil) (mo_cons (mo_name 3) mo_nil)) (mo_cons (mo_name 2) (mo_cons (mo_name 3) mo_nil)))),(mo_tup (mo_cons (mo_name 1) (mo_cons (mo_name 2) (mo_cons (mo_name 3) mo_nil))))⟩)
  (b_one (s_ret (dv 2)))),fun ds μ Kd hm hl h=>?_⟩)
 unfold fOfNow at h
 split at h
 ·rename_i k
  obtain⟨j1,j2,ss,rs,d,S,ra,es,kk⟩:=h
  obtain⟨S',es',wf⟩:=ra.now
  rw[es]at es'
  cases es'
  exact⟨by show(insM _ _ _).map _=_;rw[insM_of ra.ins];rfl,j1,j2,ss,rs,d,S,ra,es,⟨rfl,rfl⟩,S,d,rfl,wf,rfl,.keep kk⟩
 ·exact h.elim
theorem ok_Room_takes (F:Fun K "takes" "Room.takes" s_Room_takes f fd)(T:Bi2 mg)(Z_Room:ZRoom K cRoom)(Z_Stand:ZStand K cStand)(C_Room_now:c_Room_now P w K mg base)(C_Stand_shelf:c_Stand_shelf P w K mg base):FnOk P w K mg base CX0 5 f fd (pA s_Room_takes) (spD (fOfNow cRoom cStand gTakes)):=by
 refine F.okD sc_Room_takes (fun ds μ Kd h=>by unfold fOfNow at h;split at h <;> first | rfl | exact h.elim) (fun cdv A outer s H E hr=>⟨_,(b_cons (s_asg (d_meth0 C_Stand_shelf Z_Stand.cl hr.le (d_meth0 C_Room_now Z_Room.cl hr.le (dv 0))) ⟨(pg_tupC (n:=3) rfl (pgs_consC (qN 1 sc_Room_takes.nd) (pgs_consC (qN 2 sc_Room_takes.nd) (pgs_consC (qN 3 sc_Room_takes.nd) pgs_nilC)))),(so_tup (so_cons (so_name 1) (mo_name 1) (so_cons (so_name 2) (mo_name 2) (so_cons (so_name 3) (mo_name 3) so_nil mo_nil) (mo_cons (mo_name 3) mo_nil)) (mo_cons (mo_name 2) (mo_cons (mo_name 3) mo_nil)))),(mo_tup (mo_cons (mo_name 1) (mo_cons (mo_name 2) (mo_cons (mo_name 3) mo_nil))))⟩)
  (b_one (s_ret (dv 3)))),fun ds μ Kd hm hl h=>?_⟩)
 unfold fOfNow at h
 split at h
 ·rename_i k
  obtain⟨j1,j2,ss,rs,d,S,ra,es,kk⟩:=h
  obtain⟨S',es',wf⟩:=ra.now
  rw[es]at es'
  cases es'
  exact⟨by show(insM _ _ _).map _=_;rw[insM_of ra.ins];rfl,j1,j2,ss,rs,d,S,ra,es,⟨rfl,rfl⟩,S,d,rfl,wf,rfl,.keep kk⟩
 ·exact h.elim
theorem ok_kinds (F:Fun K "_law_kinds" "_law_kinds" s_kinds f fd)(T:Bi2 mg)(TV:mg "ValueError"=none)(O_BadBars:OwnCls "BadBars" cBadBars veB "ValueError.__new__" mg base)(O_BadMake:OwnCls "BadMake" cBadMake veB "ValueError.__new__" mg base)(O_BadNumber:OwnCls "BadNumber" cBadNumber veB "ValueError.__new__" mg base)(O_BadText:OwnCls "BadText" cBadText veB "ValueError.__new__" mg base)(O_BadName:OwnCls "BadName" cBadName veB "ValueError.__new__" mg base)(O_BadAge:OwnCls "BadAge" cBadAge veB "ValueError.__new__" mg base)(O_BadBar:OwnCls "BadBar" cBadBar veB "ValueError.__new__" mg base)(O_BadPlace:OwnCls "BadPlace" cBadPlace veB "ValueError.__new__" mg base)(O_BadSize:OwnCls "BadSize" cBadSize veB "ValueError.__new__" mg base)(O_Taken:OwnCls "Taken" cTaken veB "ValueError.__new__" mg base)(O_Full:OwnCls "Full" cFull veB "ValueError.__new__" mg base)(O_NoTake:OwnCls "NoTake" cNoTake veB "ValueError.__new__" mg base)(O_Shut:OwnCls "Shut" cShut veB "ValueError.__new__" mg base)(O_Joined:OwnCls "Joined" cJoined veB "ValueError.__new__" mg base)(O_Needed:OwnCls "Needed" cNeeded veB "ValueError.__new__" mg base)(O_NothingLeft:OwnCls "NothingLeft" cNothingLeft veB "ValueError.__new__" mg base)(O_NoWay:OwnB "NoWay" cNoWay mg):FnOkH P w K mg base 1 f fd (pA s_kinds) (fKindsJ K rcs cHissError):=by
 refine F.okH sc_kinds (fun ds μ Kd h=>fKindsJ_len h) (fun cdv A outer s H hr φ0 kx e hk hh=>⟨_,(b_cons (qS 1 sc_kinds.nd (d_lst false (da_cons (d_isiC (by rfl) T.isinstance (by rfl) O_BadBars.bound (dv 0)) (da_cons (d_isiC (by rfl) T.isinstance (by rfl) O_BadMake.bound (dv 0)) (da_cons (d_isiC (by rfl) T.isinstance (by rfl) O_BadNumber.bound (dv 0)) (da_cons (d_isiC (by rfl) T.isinstance (by rfl) O_BadText.bound (dv 0)) da_nil))))))
  (b_cons (qS 1 sc_kinds.nd (dPl (dv 1) (d_lst false (da_cons (d_isiC (by rfl) T.isinstance (by rfl) O_BadName.bound (dv 0)) (da_cons (d_isiC (by rfl) T.isinstance (by rfl) O_BadAge.bound (dv 0)) (da_cons (d_isiC (by rfl) T.isinstance (by rfl) O_BadBar.bound (dv 0)) (da_cons (d_isiC (by rfl) T.isinstance (by rfl) O_BadPlace.bound (dv 0)) da_nil)))))))
  (b_cons (qS 1 sc_kinds.nd (dPl (dv 1) (d_lst false (da_cons (d_isiC (by rfl) T.isinstance (by rfl) O_BadSize.bound (dv 0)) (da_cons (d_isiC (by rfl) T.isinstance (by rfl) O_Taken.bound (dv 0)) (da_cons (d_isiC (by rfl) T.isinstance (by rfl) O_Full.bound (dv 0)) (da_cons (d_isiC (by rfl) T.isinstance (by rfl) O_NoTake.bound (dv 0)) da_nil)))))))
  (b_cons (qS 1 sc_kinds.nd (dPl (dv 1) (d_lst false (da_cons (d_isiC (by rfl) T.isinstance (by rfl) O_Shut.bound (dv 0)) (da_cons (d_isiC (by rfl) T.isinstance (by rfl) O_Joined.bound (dv 0)) (da_cons (d_isiC (by rfl) T.isinstance (by rfl) O_Needed.bound (dv 0)) (da_cons (d_isiC (by rfl) T.isinstance (by rfl) O_NothingLeft.bound (dv 0)) da_nil)))))))
  (b_cons (qS 1 sc_kinds.nd (dPl (dv 1) (d_lst false (a2 (d_isiC (by rfl) T.isinstance (by rfl) O_NoWay.bound (dv 0)) (d_not (d_isiV (by rfl) T.isinstance (by rfl) TV PyProof.Rows.Boot.«ValueError» (dv 0)))))))
  (b_cons (qS 2 sc_kinds.nd (d_lst false (da_cons d_str (da_cons d_str (da_cons d_str (da_cons d_str (da_cons d_str (da_cons d_str (da_cons d_str (da_cons d_str (da_cons d_str da_nil)))))))))))
  (b_cons (qS 2 sc_kinds.nd (dPl (dv 2) (d_lst false (da_cons d_str (da_cons d_str (da_cons d_str (da_cons d_str (da_cons d_str (da_cons d_str (da_cons d_str (da_cons d_str (da_cons d_str da_nil))))))))))))
  (b_one (s_ret (d_compH false (cOk (N:=["_law_k", "_law_words", "_law_found"]) (js:=[none,some 2,some 1]) sc_kinds (by decide +kernel)) hh (so_name 0) (mo_name 0) rfl (i_rangeH (H0:=H) hk rfl T.range (a1 d_int)) (fun _ _ _=>(qN 0 (show List.Nodup (["_law_k", "_law_words", "_law_found"]:List Str) by decide +kernel))) (fun _ _ _=>(ts_one (d_testV (dIX (dv 2) (dv 0))))) (fun _ _ _=>(dIX (dv 1) (dv 0))))))))))))),fun ds μ m Kd hm hl em hc h=>?_⟩)
 unfold fKindsJ at h
 split at h
 ·rename_i k
  obtain⟨_,hk1,j,hj,hx,KB,kk⟩:=h
  have hx2:(μ.set 0 (MO.gx φ0 H))[k]?=some (.exc (.ref (rcs.getD j 0))):=by rw[ah (aO hk1)];exact hx
  refine⟨_,_,hx2,KB.ef,KB.at_ 0 (by decide),_,_,hx2,KB.ef,KB.at_ 1 (by decide),_,_,hx2,KB.ef,KB.at_ 2 (by decide),_,_,hx2,KB.ef,KB.at_ 3 (by decide),zs,?_⟩
  refine⟨_,_,hx2,KB.ef,KB.at_ 4 (by decide),_,_,hx2,KB.ef,KB.at_ 5 (by decide),_,_,hx2,KB.ef,KB.at_ 6 (by decide),_,_,hx2,KB.ef,KB.at_ 7 (by decide),zs,opt_of rfl (opt_of rfl ⟨zs,?_⟩)⟩
  refine⟨_,_,hx2,KB.ef,KB.at_ 8 (by decide),_,_,hx2,KB.ef,KB.at_ 9 (by decide),_,_,hx2,KB.ef,KB.at_ 10 (by decide),_,_,hx2,KB.ef,KB.at_ 11 (by decide),zs,opt_of rfl (opt_of rfl ⟨zs,?_⟩)⟩
  refine⟨_,_,hx2,KB.ef,KB.at_ 12 (by decide),_,_,hx2,KB.ef,KB.at_ 13 (by decide),_,_,hx2,KB.ef,KB.at_ 14 (by decide),_,_,hx2,KB.ef,KB.at_ 15 (by decide),zs,opt_of rfl (opt_of rfl ⟨zs,?_⟩)⟩
  refine⟨_,_,hx2,KB.ef,KB.at_ 16 (by decide),_,_,hx2,KB.ef,KB.kv,zs,opt_of rfl (opt_of rfl ⟨zs,?_⟩)⟩
  refine⟨zs,zs,opt_of rfl (opt_of rfl ⟨zs,?_⟩)⟩
  refine⟨by decide,by decide,zs,?_⟩
  refine compW_kinds hj hc (fun i K' hi h1 h2 k1 k2=>?_) (.keep (gK_of em kk))
  rw[Int.zero_add]
  refine opt_of (v:=D.bl (decide (i=j))) (atI_nat h1) ?_
  show(if decide (i=j)=true then _ else _)
  by_cases q:i=j
  ·rw[ar (au q)]
   refine opt_of (v:=D.str (kWords.getD i "")) (atI_nat ?_) (k1 q)
   have:=bO (Option.map D.str) h2
   rw[<- gxH]at this
   exact this
  ·rw[aj (by simpa using q)]
   exact k2 q
 ·exact h.elim
theorem ok_Room_put (F:Fun K "put" "Room.put" s_Room_put f fd)(T:Bi2 mg)(Z_Room:ZRoom K cRoom)(C_Room_deed:c_Room_deed P w K mg base):FnOk P w K mg base (CX1 P w) 9 f fd (pA s_Room_put) (spX (fMethR cRoom cStand rcs 0 4)):=by
 refine F.okX sc_Room_put (fun ds μ Kd Kx h=>fMethR_len h) (fun cdv A outer s H E hr φ0 Kb Z=>⟨_,(b_one (s_expr (d_methX Z.z C_Room_deed Z_Room.cl hr.le (dv 0) (a1 (d_tup (da_cons d_str (da_cons (dv 1) (da_cons (dv 2) (da_cons (dv 3) da_nil))))))))),fun ds μ m Kd Kx hm hl em h hK=>?_⟩)
 unfold fMethR at h
 obtain⟨_,h⟩:=h
 split at h
 ·rename_i k xs
  obtain⟨e,hw,hx,_,j1,j2,ss,rs,d,S,e',ra,es,he,hok,few,kk⟩:=h
  cases e <;> cases hw
  cases hx
  have rg:=ra.gx (m:=.gx φ0 H)
  refine⟨room_recv rg rfl,zs,gx_at em,⟨_,gx_at em⟩,j1,j2,ss,rs,d,S,e',rg,es,he,hok,few,?_⟩
  cases er:refW S e' with
  | some i=>rw[er]at kk;exact(gX_of hK em kk).2
  | none =>
   rw[er]at kk
   obtain⟨g1,g2⟩:=putR_gx ra (m:=.gx φ0 H) (ss':=ss.take (d+1)++[doD S e']) (rs':=rs.take d++[e']) (d':=d+1) em
   exact .keep ⟨g2,by rw[g1];exact kk⟩
 ·exact h.elim
theorem ok_least_age (F:Fun K "least_age" "least_age" s_least_age f fd)(T:Bi2 mg)(C_bar_of:c_bar_of P w K mg base)(C_ends:c_ends P w K mg base)(C_take_rows:c_take_rows P w K mg base)(C_youngest:c_youngest P w K mg base)(C_next_reach:c_next_reach P w K mg base):FnOk P w K mg base CX0 4 f fd (pA s_least_age) (spD fLeast0):=by
 refine F.okD sc_least_age (fun ds μ Kd h=>by unfold fLeast0 at h;split at h <;> first | rfl | exact h.elim) (fun cdv A outer s H E hr=>⟨_,(b_cons (s_if (t_notN (qC C_bar_of hr (a3 (dv 0) (dv 1) (dv 2))))
  (b_one (s_ret d_non))
  b_nil)
  (b_cons (qS 3 sc_least_age.nd (qC C_ends hr (a2 (dv 0) (dv 1))))
  (b_cons (qS 4 sc_least_age.nd (qC C_take_rows hr (a3 (dv 0) (dv 1) (dv 2))))
  (b_cons (qS 5 sc_least_age.nd (qC C_youngest hr (a1 (dv 2))))
  (b_cons (qS 6 sc_least_age.nd (qC C_next_reach hr (da_cons (dv 3) (da_cons (dv 4) (da_cons (dv 3) (da_cons (dv 5) da_nil))))))
  (b_cons (s_while PassesOwn.never (qNe (dIX (dv 6) d_int) (dv 0))
  (b_cons (s_aug (i:=5) sc_least_age.nd rfl lo d_int ip_addC so_ipI)
  (b_one (qS 6 sc_least_age.nd (qC C_next_reach hr (da_cons (dv 3) (da_cons (dv 4) (da_cons (dv 6) (da_cons (dv 5) da_nil)))))))))
  (b_one (s_ret (dv 5))))))))),fun ds μ Kd hm hl h=>?_⟩)
 unfold fLeast0 at h
 split at h
 ·rename_i n c y
  obtain⟨n1,n2,rfl,rfl,kk⟩:=h
  refine⟨openP ⟨n,[],[]⟩,[],rfl,rfl,openP_len n2,⟨by decide,fun _ h=>(nomatch h)⟩,by omega,?_⟩
  rw[bar_new n1]
  exact .keep kk
 ·exact h.elim
theorem ok_answer (F:Fun K "answer" "answer" s_answer f fd)(T:Bi2 mg)(C_bar_of:c_bar_of P w K mg base)(C_least_age:c_least_age P w K mg base)(C_fewest:c_fewest P w K mg base)(C_best_of:c_best_of P w K mg base)(C_young_paper:c_young_paper P w K mg base)(C_few_paper:c_few_paper P w K mg base):FnOk P w K mg base CX0 5 f fd (pA s_answer) (spD fAnsw0):=by
 refine F.okD sc_answer (fun ds μ Kd h=>by unfold fAnsw0 at h;split at h <;> first | rfl | exact h.elim) (fun cdv A outer s H E hr=>⟨_,(b_cons (qS 3 sc_answer.nd (qC C_bar_of hr (a3 (dv 0) (dv 1) (dv 2))))
  (b_cons (s_if (t_notN (dv 3))
  (b_one (s_ret (d_tup (a3 d_str (dIX (dv 3) d_int) (dIX (dv 3) d_int)))))
  b_nil)
  (b_cons (qS 4 sc_answer.nd (qC C_least_age hr (a3 (dv 0) (dv 1) (dv 2))))
  (b_cons (qS 5 sc_answer.nd (qC C_fewest hr (da_cons (dv 0) (da_cons (dv 1) (da_cons (dv 2) (da_cons (dv 4) da_nil))))))
  (b_cons (qS 6 sc_answer.nd (qC C_best_of hr (da_cons (dv 0) (da_cons (dv 1) (da_cons (dv 2) (da_cons d_int da_nil))))))
  (b_one (s_ret (d_tup (da_cons d_str (da_cons (dv 6) (da_cons (qC C_young_paper hr (da_cons (dv 0) (da_cons (dv 1) (da_cons (dv 2) (da_cons (dv 4) da_nil))))) (da_cons (qC C_few_paper hr (da_cons (dv 0) (da_cons (dv 1) (da_cons (dv 2) (da_cons (dv 4) (da_cons (dv 5) da_nil)))))) da_nil)))))))))))),fun ds μ Kd hm hl h=>?_⟩)
 unfold fAnsw0 at h
 split at h
 ·rename_i n c y
  obtain⟨n1,n2,rfl,rfl,kk⟩:=h
  refine⟨openP ⟨n,[],[]⟩,[],rfl,rfl,openP_len n2,⟨by decide,fun _ h=>(nomatch h)⟩,by omega,?_⟩
  rw[bar_new n1]
  exact⟨zs,.keep kk⟩
 ·exact h.elim
theorem ok_least_and_few (F:Fun K "least_and_few" "least_and_few" s_least_and_few f fd)(T:Bi2 mg)(Z_Stand:ZStand K cStand)(C_Stand_shelf:c_Stand_shelf P w K mg base)(C_least_age:c_least_age P w K mg base)(C_fewest:c_fewest P w K mg base):FnOk P w K mg base CX0 5 f fd (pA s_least_and_few) (spD (fLaf0 cStand)):=by
 refine F.okD sc_least_and_few (fun ds μ Kd h=>by unfold fLaf0 at h;split at h <;> first | rfl | exact h.elim) (fun cdv A outer s H E hr=>⟨_,(b_cons (s_asg (d_meth0 C_Stand_shelf Z_Stand.cl hr.le (dv 0)) ⟨(pg_tupC (n:=3) rfl (pgs_consC (qN 1 sc_least_and_few.nd) (pgs_consC (qN 2 sc_least_and_few.nd) (pgs_consC (qN 3 sc_least_and_few.nd) pgs_nilC)))),(so_tup (so_cons (so_name 1) (mo_name 1) (so_cons (so_name 2) (mo_name 2) (so_cons (so_name 3) (mo_name 3) so_nil mo_nil) (mo_cons (mo_name 3) mo_nil)) (mo_cons (mo_name 2) (mo_cons (mo_name 3) mo_nil)))),(mo_tup (mo_cons (mo_name 1) (mo_cons (mo_name 2) (mo_cons (mo_name 3) mo_nil))))⟩)
  (b_cons (qS 4 sc_least_and_few.nd (qC C_least_age hr (a3 (dv 1) (dv 2) (dv 3))))
  (b_cons (s_if (t_isN (dv 4))
  (b_one (s_ret d_non))
  b_nil)
  (b_one (s_ret (d_tup (a2 (dv 4) (qC C_fewest hr (da_cons (dv 1) (da_cons (dv 2) (da_cons (dv 3) (da_cons (dv 4) da_nil)))))))))))),fun ds μ Kd hm hl h=>?_⟩)
 unfold fLaf0 at h
 split at h
 ·rename_i x
  obtain⟨n,n1,n2,rfl,kk⟩:=h
  exact⟨⟨rfl,rfl⟩,_,0,rfl,.new n1 n2,rfl,n1,n2,rfl,rfl,.keep kk⟩
 ·exact h.elim
theorem ok_Room_answer (F:Fun K "answer" "Room.answer" s_Room_answer f fd)(T:Bi2 mg)(Z_Room:ZRoom K cRoom)(Z_Stand:ZStand K cStand)(C_Room_now:c_Room_now P w K mg base)(C_Stand_shelf:c_Stand_shelf P w K mg base)(C_answer:c_answer P w K mg base):FnOk P w K mg base CX0 7 f fd (pA s_Room_answer) (spD (fRoom0 cRoom cStand (.tup [.str "bar",.int 0,.int 1]))):=by
 refine F.okD sc_Room_answer (fun ds μ Kd h=>by unfold fRoom0 at h;split at h <;> first | rfl | exact h.elim) (fun cdv A outer s H E hr=>⟨_,(b_cons (s_asg (d_meth0 C_Stand_shelf Z_Stand.cl hr.le (d_meth0 C_Room_now Z_Room.cl hr.le (dv 0))) ⟨(pg_tupC (n:=3) rfl (pgs_consC (qN 1 sc_Room_answer.nd) (pgs_consC (qN 2 sc_Room_answer.nd) (pgs_consC (qN 3 sc_Room_answer.nd) pgs_nilC)))),(so_tup (so_cons (so_name 1) (mo_name 1) (so_cons (so_name 2) (mo_name 2) (so_cons (so_name 3) (mo_name 3) so_nil mo_nil) (mo_cons (mo_name 3) mo_nil)) (mo_cons (mo_name 2) (mo_cons (mo_name 3) mo_nil)))),(mo_tup (mo_cons (mo_name 1) (mo_cons (mo_name 2) (mo_cons (mo_name 3) mo_nil))))⟩)
  (b_one (s_ret (qC C_answer hr (a3 (dv 1) (dv 2) (dv 3)))))),fun ds μ Kd hm hl h=>?_⟩)
 unfold fRoom0 at h
 split at h
 ·rename_i k
  obtain⟨n,j1,j2,ss,rs,d,ra,es,kk⟩:=h
  have wf:=ra.wf _ _ es
  refine⟨by show(insM _ _ _).map _=_;rw[insM_of ra.ins];rfl,j1,j2,ss,rs,d,_,ra,es,⟨rfl,rfl⟩,_,_,rfl,wf,rfl,wf.n1,wf.n2,rfl,rfl,.keep kk⟩
 ·exact h.elim
theorem ok_Room_least (F:Fun K "least" "Room.least" s_Room_least f fd)(T:Bi2 mg)(Z_Room:ZRoom K cRoom)(Z_Stand:ZStand K cStand)(C_Room_now:c_Room_now P w K mg base)(C_Stand_shelf:c_Stand_shelf P w K mg base)(C_least_age:c_least_age P w K mg base):FnOk P w K mg base CX0 7 f fd (pA s_Room_least) (spD (fRoom0 cRoom cStand .non)):=by
 refine F.okD sc_Room_least (fun ds μ Kd h=>by unfold fRoom0 at h;split at h <;> first | rfl | exact h.elim) (fun cdv A outer s H E hr=>⟨_,(b_cons (s_asg (d_meth0 C_Stand_shelf Z_Stand.cl hr.le (d_meth0 C_Room_now Z_Room.cl hr.le (dv 0))) ⟨(pg_tupC (n:=3) rfl (pgs_consC (qN 1 sc_Room_least.nd) (pgs_consC (qN 2 sc_Room_least.nd) (pgs_consC (qN 3 sc_Room_least.nd) pgs_nilC)))),(so_tup (so_cons (so_name 1) (mo_name 1) (so_cons (so_name 2) (mo_name 2) (so_cons (so_name 3) (mo_name 3) so_nil mo_nil) (mo_cons (mo_name 3) mo_nil)) (mo_cons (mo_name 2) (mo_cons (mo_name 3) mo_nil)))),(mo_tup (mo_cons (mo_name 1) (mo_cons (mo_name 2) (mo_cons (mo_name 3) mo_nil))))⟩)
  (b_one (s_ret (qC C_least_age hr (a3 (dv 1) (dv 2) (dv 3)))))),fun ds μ Kd hm hl h=>?_⟩)
 unfold fRoom0 at h
 split at h
 ·rename_i k
  obtain⟨n,j1,j2,ss,rs,d,ra,es,kk⟩:=h
  have wf:=ra.wf _ _ es
  refine⟨by show(insM _ _ _).map _=_;rw[insM_of ra.ins];rfl,j1,j2,ss,rs,d,_,ra,es,⟨rfl,rfl⟩,_,_,rfl,wf,rfl,wf.n1,wf.n2,rfl,rfl,.keep kk⟩
 ·exact h.elim
theorem ok_Room_few (F:Fun K "few" "Room.few" s_Room_few f fd)(T:Bi2 mg)(Z_Room:ZRoom K cRoom)(Z_Stand:ZStand K cStand)(C_Room_now:c_Room_now P w K mg base)(C_least_and_few:c_least_and_few P w K mg base):FnOk P w K mg base CX0 7 f fd (pA s_Room_few) (spD (fRoom0 cRoom cStand .non)):=by
 refine F.okD sc_Room_few (fun ds μ Kd h=>by unfold fRoom0 at h;split at h <;> first | rfl | exact h.elim) (fun cdv A outer s H E hr=>⟨_,(b_cons (qS 1 sc_Room_few.nd (qC C_least_and_few hr (a1 (d_meth0 C_Room_now Z_Room.cl hr.le (dv 0)))))
  (b_one (s_ret (d_if (t_isN (dv 1)) d_non (dIX (dv 1) d_int))))),fun ds μ Kd hm hl h=>?_⟩)
 unfold fRoom0 at h
 split at h
 ·rename_i k
  obtain⟨n,j1,j2,ss,rs,d,ra,es,kk⟩:=h
  have wf:=ra.wf _ _ es
  refine⟨by show(insM _ _ _).map _=_;rw[insM_of ra.ins];rfl,j1,j2,ss,rs,d,_,ra,es,n,wf.n1,wf.n2,rfl,?_⟩
  exact .keep kk
 ·exact h.elim
theorem ok_refused (F:Fun K "_law_refused" "_law_refused" s_refused f fd)(T:Bi2 mg)(O_HissError:OwnCls "HissError" cHissError veB "ValueError.__new__" mg base)(C_Room___init__:c_Room___init__ P w K mg base)(C_kinds:c_kinds P w K mg base):FnOk P w K mg base CX0 5 f fd (pA s_refused) (spD (fRefSz K rcs cHissError)):=by
 refine F.okD sc_refused (fun ds μ Kd h=>by unfold fRefSz at h;split at h <;> first | rfl | exact h.elim) (fun cdv A outer s H E hr=>⟨_,(b_cons (qS 1 sc_refused.nd (d_lst false da_nil))
  (b_cons (s_tryF rfl rfl rfl sc_refused.nd (i:=2) rfl rfl rfl O_HissError.bound (fun pn xe φ0 H0 Kx Zt=>(b_one (s_expr (d_makeX Zt C_Room___init__ hr.le rfl (a1 (dv 0))))))
  (fun pn e φ1 H1 kx hk hk0=>(b_one (qS 1 sc_refused.nd (d_callH (H0:=H1) hk hk0 rfl C_kinds (roomM hr.le) rfl (a1 (dv 2)))))))
  (b_one (s_ret (dv 1))))),fun ds μ Kd hm hl h=>?_⟩)
 unfold fRefSz at h
 split at h
 ·rename_i n
  obtain⟨⟨m,em⟩,KA,hn,kk⟩:=h
  have h0:0<μ.length:=(gxB em).1
  refine⟨zs,m,em,fun φ0 H0=>?_⟩
  have e1:(μ.set 0 (.gx φ0 H0)++[MO.ins cRoom [] []])[0]?=some (.gx φ0 H0):=by rw[gxF (by rw[aE];exact h0)];exact gx_at em
  refine⟨gx_at em,⟨_,e1⟩,by rw[aE];omega,end_at,?_⟩
  rw[aj hn]
  refine⟨e1,?_⟩
  have e2:(μ.set 0 (.gx φ0 H0)++[MO.ins cRoom [] []]).set 0 m=μ++[MO.ins cRoom [] []]:=by rw[b7 _ _ (by rw[aE];exact h0),gx_back em]
  rw[e2]
  have KB:=KA 8 (by decide)
  refine⟨rcs.getD 8 0,rfl,KB.sub,fun φ1 H1=>?_⟩
  have lm:(μ++[MO.ins cRoom [] []]).length=μ.length+1:=by rw[gxE];rfl
  have em2:((μ++[MO.ins cRoom [] []])++[MO.exc (.ref (rcs.getD 8 0))])[0]?=some m:=by rw[bx,gxF h0];exact em
  have ex2:(((μ++[MO.ins cRoom [] []])++[MO.exc (.ref (rcs.getD 8 0))]).set 0 (.gx φ1 H1))[(μ++[MO.ins cRoom [] []]).length]?=some (.exc (.ref (rcs.getD 8 0))):=by
   rw[ah (by omega),gxG (aa _),aQ];rfl
  refine⟨⟨gx_at em2,_,ex2⟩,⟨_,gx_at em2⟩,by omega,8,by decide,ex2,KB,gx_at em2,?_⟩
  rw[gx_back em2,bx]
  refine .drop ?_ (old_app hm) ?_
  ·exact⟨trivial,trivial⟩
  ·rw[bf];exact kk
 ·exact h.elim
theorem ok_empty (F:Fun K "_law_empty" "_law_empty" s_empty f fd)(T:Bi2 mg)(Z_Room:ZRoom K cRoom)(C_same:c_same P w K mg base)(C_Room_size:c_Room_size P w K mg base)(C_Room_names:c_Room_names P w K mg base)(C_Room_takes:c_Room_takes P w K mg base)(C_Room_deeds:c_Room_deeds P w K mg base)(C_Room_ahead:c_Room_ahead P w K mg base)(C_Room_cuts:c_Room_cuts P w K mg base)(C_Room_answer:c_Room_answer P w K mg base)(C_Room_least:c_Room_least P w K mg base)(C_Room_few:c_Room_few P w K mg base):FnOk P w K mg base CX0 8 f fd (pA s_empty) (spD (fEmpty cRoom cStand)):=by
 refine F.okD sc_empty (fun ds μ Kd h=>by unfold fEmpty at h;split at h <;> first | rfl | exact h.elim) (fun cdv A outer s H E hr=>⟨_,(b_cons (s_if (t_not (d_testV (qC C_same hr (a2 (d_lst false (da_cons (d_meth0 C_Room_size Z_Room.cl hr.le (dv 0)) (da_cons (d_meth0 C_Room_names Z_Room.cl hr.le (dv 0)) (da_cons (d_meth0 C_Room_takes Z_Room.cl hr.le (dv 0)) (da_cons (d_meth0 C_Room_deeds Z_Room.cl hr.le (dv 0)) (da_cons (d_meth0 C_Room_ahead Z_Room.cl hr.le (dv 0)) da_nil)))))) (d_lst false (da_cons (dv 1) (da_cons (d_lst false da_nil) (da_cons (d_lst false da_nil) (da_cons (d_lst false da_nil) (da_cons (d_lst false da_nil) da_nil))))))))))
  (b_one (s_ret d_bl))
  b_nil)
  (b_cons (s_if (t_not (d_testV (qC C_same hr (a2 (d_meth0 C_Room_cuts Z_Room.cl hr.le (dv 0)) (dC1 false (cOk (N:=["_law_place"]) (js:=[none]) sc_empty (by decide +kernel)) (i_range2 rfl T.range (a2 d_int (dv 1))) (fun _ _ _ nd=>(qN 0 nd)) (fun _ _ _=>ts_nil) (fun _ _ _=>(dv 0)))))))
  (b_one (s_ret d_bl))
  b_nil)
  (b_one (s_ret (d_and (qC C_same hr (a2 (d_meth0 C_Room_answer Z_Room.cl hr.le (dv 0)) (d_tup (a3 d_str d_int d_int)))) (d_and (d_isN (d_meth0 C_Room_least Z_Room.cl hr.le (dv 0))) (d_one (d_isN (d_meth0 C_Room_few Z_Room.cl hr.le (dv 0)))))))))),fun ds μ Kd hm hl h=>?_⟩)
 unfold fEmpty at h
 split at h
 ·rename_i k n
  obtain⟨⟨m,em⟩,j1,j2,ra,kk⟩:=h
  have es:([⟨n,[],[]⟩]:List RS)[0]?=some ⟨n,[],[]⟩:=rfl
  have wf:=ra.wf 0 _ es
  have n1:1<=n:=wf.n1
  have n2:n<=40:=wf.n2
  have sl:∀ {m:Nat},smD (m+1) (.lst []):=fun {m}=>sm_lst (by decide) fun _ h=>nomatch h
  refine dIf_of (!true) (.not (.tst fun K k=>⟨room_recv ra rfl,j1,j2,_,_,_,_,ra,es,room_recv ra rfl,j1,j2,_,_,_,_,ra,es,room_recv ra rfl,j1,j2,_,_,_,_,ra,es,room_recv ra rfl,j1,j2,_,_,_,ra,room_recv ra rfl,j1,j2,_,_,_,ra,zs,zs,zs,zs,zs,zs,.lst [.int n,.lst [],.lst [],.lst [],.lst []],rfl,rfl,sm_lst (by simp only[aJ,List.length_nil];omega) (fun d hd=>?_),k⟩)) (fun q=>by cases q) (fun _=>?_)
  ·simp only[bg,aT,bU]at hd
   rcases hd with rfl | rfl | rfl | rfl | rfl
   ·exact sm_int
   all_goals exact sl
  refine dNx_of ?_
  dsimp only
  refine dIf_of (!true) (.not (.tst fun K k=>⟨room_recv ra rfl,j1,j2,_,_,_,_,ra,es,⟨by decide,by decide,by omega,by omega⟩,sz (by rw[rngD_len];omega),?_⟩)) (fun q=>by cases q) (fun _=>?_)
  ·refine compW_all trivial (fun i:Nat=>D.int (1+(i:Int))) (fun i=>D.int (1+(i:Int))) (fun i _ K' k'=>k') (nLf ⟨.lst ((openP ⟨n,[],[]⟩).map D.int),rfl,?_,sm_ints (aB (openP_len n2) (by decide)),k⟩)
   show some (D.lst _)=_
   rw[openP_new,aK];rfl
  refine dNx_of ?_
  refine⟨room_recv ra rfl,n,j1,j2,_,_,_,ra,es,zs,.tup [.str "bar",.int 0,.int 1],rfl,rfl,sm_tup (by simp only[aJ,List.length_nil];omega) (fun d hd=>?_),?_⟩
  ·simp only[bg,aT,bU]at hd
   rcases hd with rfl | rfl | rfl
   ·exact sm_str
   ·exact sm_int
   ·exact sm_int
  exact⟨room_recv ra rfl,n,j1,j2,_,_,_,ra,es,room_recv ra rfl,n,j1,j2,_,_,_,ra,es,.keep kk⟩
 ·exact h.elim
set_option maxHeartbeats 8000000 in
theorem ok_law (F:Fun K "law" "law" s_law f fd)(T:Bi2 mg)(Z_Room:ZRoom K cRoom)(KA:∀ j,j<16->KinB K rcs cHissError j)(C_box:c_box P w K mg base)(C_take:c_take P w K mg base)(C_Room___init__:c_Room___init__ P w K mg base)(C_empty:c_empty P w K mg base)(C_Room_put:c_Room_put P w K mg base)(C_Room_names:c_Room_names P w K mg base)(C_refused:c_refused P w K mg base):FnOk P w K mg base CX0 12 f fd (pA s_law) (spLaw K):=by
 refine F.ok sc_law (fun vs H Q E h=>?_) (fun cdv A outer s H vs Q E hr h=>?_)
 ·obtain⟨a,ns,rfl,_⟩:=h;rfl
 ·obtain⟨a,ns,rfl,hs,hl,k⟩:=h
  refine⟨_,pss_cons (ps_set (i:=1) sc_law.nd rfl (by first | exact Or.inl rfl | exact Or.inr rfl) (pe_callC C_box (hr.mono (by first | decide | exact aa _ | omega)) rfl (pa_cons (pvC 0) pa_nil))) (b_cons (qS 2 sc_law.nd (dPl d_int (qC C_take hr (a2 (dv 1) d_int))))
   (b_cons (qS 3 sc_law.nd (d_makeXc C_Room___init__ hr.le rfl (a1 (dv 2))))
   (b_cons (qS 4 sc_law.nd (d_makeXc C_Room___init__ hr.le rfl (a1 (dv 2))))
   (b_cons (s_if (t_not (d_testV (qC C_empty hr (a2 (dv 3) (dv 2)))))
   (b_one (s_ret d_bl))
   b_nil)
   (b_cons (s_expr (d_methXc C_Room_put Z_Room.cl hr.le (dv 4) (a3 d_str (d_op mulC so_mul d_str (dv 2)) (qC C_take hr (a2 (dv 1) d_int)))))
   (b_cons (s_if (PW.pt (t_or (t_not (d_testV (qC C_empty hr (a2 (dv 3) (dv 2))))) (t_or1 (d_testC (neDeep (n:=4) (un_of hr (by decide))) so_eqD (d_meth0 C_Room_names Z_Room.cl hr.le (dv 4)) (d_lst false (a1 d_str)) (nomark _)))))
   (b_one (s_ret d_bl))
   b_nil)
   (b_cons (qS 5 sc_law.nd (d_lst false (da_cons d_int (da_cons d_int (da_cons (dMi (d_neg d_int) (qC C_take hr (a2 (dv 1) d_int))) (da_cons (dPl d_int (qC C_take hr (a2 (dv 1) d_int))) (da_cons (d_op powC so_i2 d_int d_int) (da_cons (d_neg (d_op powC so_i2 d_int d_int)) da_nil))))))))
   (b_one (s_ret (d_blt (allC rfl) so_all (by rfl) T.all cx (a1 (dC1 false (cOk (N:=["_law_one"]) (js:=[none]) sc_law (by decide +kernel)) (i_list (dv 5)) (fun _ _ _ nd=>(qN 0 nd)) (fun _ _ _=>ts_nil) (fun _ _ _=>(d_cmp (eqDeep (n:=4) (un_of hr (by decide))) so_eqD (qC C_refused hr (a1 (dv 0))) (d_lst false (a1 d_str)) (nomark _))))))))))))))),?_⟩
  refine⟨ns,hs,fun b q H0 B0 hb0 hq0 S0=>?_⟩
  refine law_go (m:=4) B0 ?_ k
  refine⟨rfl,by decide,by decide,fun t t0 t1=>?_⟩
  obtain⟨n,hn⟩:∃ n:Int,n=1+t:=⟨_,rfl⟩
  have n1:1<=n:=by omega
  have n2:n<=40:=by omega
  dsimp only [dAdd]
  rw[<- hn]
  refine⟨trivial,⟨_,rfl⟩,by decide,rfl,?_⟩
  rw[ar (show 1<=n/\n<=40 by omega)]
  refine⟨rfl,trivial,⟨_,rfl⟩,by show(4:Nat)≠0;decide,rfl,?_⟩
  rw[ar (show 1<=n/\n<=40 by omega)]
  refine⟨rfl,?_⟩
  have ra0:RoomAt cRoom cStand ([MO.box]++[.ins cRoom roN [.mr 2,.mr 3,.int 0],.lst [sdD cStand ⟨n,[],[]⟩],.lst []]) 1 2 3 [⟨n,[],[]⟩] [] 0:=RoomAt.made (by decide) n1 (by omega)
  have rb0:RoomAt cRoom cStand (([MO.box]++[.ins cRoom roN [.mr 2,.mr 3,.int 0],.lst [sdD cStand ⟨n,[],[]⟩],.lst []])++[.ins cRoom roN [.mr 5,.mr 6,.int 0],.lst [sdD cStand ⟨n,[],[]⟩],.lst []]) 4 5 6 [⟨n,[],[]⟩] [] 0:=RoomAt.made (by simp) n1 (by omega)
  have ra1:=ra0.more (g:=[.ins cRoom roN [.mr 5,.mr 6,.int 0],.lst [sdD cStand ⟨n,[],[]⟩],.lst []])
  dsimp only
  refine dIf_of (!true) (.not (.tst fun K k=>⟨⟨_,rfl⟩,2,3,ra1,k⟩)) (fun q=>by cases q) (fun _=>?_)
  refine dNx_of ?_
  have hz:((List.replicate n.toNat 111).length:Int)=n:=by rw[bA];omega
  have hw:newW ⟨n,[],[]⟩ "a"=none:=by
   unfold newW
   rw[aj (by decide +kernel)];rfl
  refine⟨room_recv rb0 rfl,111,rfl,by omega,by omega,rfl,by decide,by decide,fun a a0 a1=>?_⟩
  have href:refW ⟨n,[],[]⟩ (.put "a" (txt (List.replicate n.toNat 111)) a)=none:=ref_put hw hz (OX.of (by rw[bS];intro c hc;rw[cG hc];rfl)) a0 (by omega)
  refine⟨trivial,⟨rfl,_,rfl⟩,.put "a" (txt (List.replicate n.toNat 111)) a,rfl,rfl,⟨_,rfl⟩,5,6,[⟨n,[],[]⟩],[],0,⟨n,[],[]⟩,_,rb0,rfl,rfl,⟨by decide +kernel,by show(List.replicate n.toNat 111).toArray.size<=1000;rw[ag,bA];omega⟩,by decide,?_⟩
  rw[href]
  obtain⟨S,hS⟩:∃ S,S=doD ⟨n,[],[]⟩ (.put "a" (txt (List.replicate n.toNat 111)) a):=⟨_,rfl⟩
  obtain⟨_,_,g3,g4⟩:=rb0.grow (S:=⟨n,[],[]⟩) (e:=.put "a" (txt (List.replicate n.toNat 111)) a) rfl href (by decide)
  have g1:=ra1.putO (k':=4) (a':=5) (b':=6) (ss':=[⟨n,[],[]⟩]++[S]) (rs':=[]++[.put "a" (txt (List.replicate n.toNat 111)) a]) (d':=1) (by decide)
  rw[<- hS]at g3 g4 ⊢
  dsimp only
  refine dIf_of (!true||false) (.or (.not (.tst fun K k=>⟨⟨_,rfl⟩,2,3,g1,k⟩)) fun _=>.tst fun K k=>⟨room_recv g3 rfl,5,6,_,_,_,_,g3,g4,zs,neD_same (by rw[hS];rfl) (sm_lst (by rw[hS];show 1<=100000;decide) fun d hd=>?_) rfl k⟩) (fun q=>by cases q) (fun _=>?_)
  ·obtain⟨q,_,rfl⟩:=List.mem_map.mp hd;exact sm_str
  refine dNx_of ?_
  have pw:CPow 10 20:=⟨by decide,by decide,by decide⟩
  refine⟨rfl,by decide,by decide,fun x x0 x1=>⟨rfl,by decide,by decide,fun y y0 y1=>⟨pw,pw,zs,?_⟩⟩⟩
  obtain⟨xs,hx⟩:∃ xs:List Int,xs=[0,41,-1 - x,41+y,10 ^ 20,-10 ^ 20]:=⟨_,rfl⟩
  have eb:∀ z∈xs,¬ (1<=z/\z<=40):=fun z hz=>by
   rw[hx]at hz
   simp only[bg,aT,bU]at hz
   rcases hz with rfl | rfl | rfl | rfl | rfl | rfl <;> omega
  have el:[D.int 0,D.int 41,D.int (-1 - x),D.int (41+y),D.int (10 ^ 20),D.int (-10 ^ 20)]=xs.map D.int:=by rw[hx];rfl
  refine⟨zs,?_⟩
  show compW _ _ [D.int 0,D.int 41,D.int (-1 - x),D.int (41+y),D.int (10 ^ 20),D.int (-10 ^ 20)] _ _
  rw[el]
  refine compW_all trivial D.int (fun _=>D.bl true) (fun z hz K' k'=>⟨⟨_,rfl⟩,KA,eb z hz,zs,nLf (eqD_same rfl (sm_lst (by simp only[aJ,List.length_nil];omega) fun d hd=>by rw[List.mem_singleton.mp hd];exact sm_str) rfl k')⟩) ⟨xs.map fun _=>true,by rw[aK];rfl,?_⟩
  show D.bl (List.all _ id)=D.bl true
  rw[show(xs.map fun _=>true).all id=true by rw[bS];intro b hb;obtain⟨_,_,rfl⟩:=List.mem_map.mp hb;rfl]
end
def kM0:Value:=(.str "hissroom.errors" 225)
def kM1:Value:=(.str "law_hissroom_k31_rooms_of_a_size" 1316)
def kM2:Value:=(.str "hissroom.ends" 194)
def kM3:Value:=(.str "hissroom.bars" 726)
def kM4:Value:=(.str "hissroom.stand" 802)
def kM5:Value:=(.str "hissroom.room" 1045)
def kM6:Value:=(.str "hissroom.reach" 528)
def kM7:Value:=(.str "hissroom.few" 600)
def kM8:Value:=(.str "hissroom.papers" 750)
def kk (P:Params):PySem.W.Frag:=List.flatten [[ko 3 (mainO P "law_hissroom_k31_rooms_of_a_size" 1316 [me "_wall" 193 (.ref 21),me "ends" 203 (.ref 28),me "pieces" 212 (.ref 35),me "farthest" 218 (.ref 40),me "bar_of" 224 (.ref 45),me "HissError" 244 (.ref 55),me "BadBars" 260 (.ref 68),me "BadMake" 276 (.ref 80),me "BadNumber" 292 (.ref 92),me "BadText" 308 (.ref 104),me "BadName" 324 (.ref 116),me "BadAge" 340 (.ref 128),me "BadBar" 356 (.ref 140),me "BadPlace" 372 (.ref 152),me "Taken" 388 (.ref 164),me "Full" 404 (.ref 176),me "NoTake" 420 (.ref 188),me "Shut" 436 (.ref 200),me "Joined" 452 (.ref 212),me "Needed" 468 (.ref 224),me "NothingLeft" 484 (.ref 236),me "BadSize" 500 (.ref 248),me "NoWay" 527 (.ref 267),me "least_age" 542 (.ref 276),me "youngest" 548 (.ref 281),me "take_rows" 554 (.ref 286),me "clean_row" 560 (.ref 291),me "next_reach" 566 (.ref 296),me "few_tables" 574 (.ref 301),me "no_make" 581 (.ref 308),me "bare_table" 587 (.ref 313),me "next_table" 593 (.ref 318),me "fewest_joined" 599 (.ref 323),me "fewest" 612 (.ref 330),me "best_of" 623 (.ref 337),me "BestMakes" 725 (.ref 399),me "is_bars" 735 (.ref 410),me "joined" 749 (.ref 417),me "young_paper" 766 (.ref 424),me "few_paper" 772 (.ref 429),me "few_rows" 778 (.ref 434),me "go_on" 787 (.ref 441),me "answer" 800 (.ref 448),me "answer_papers" 801 (.ref 448),me "MOST_LETTERS" 805 (.int 8 804),me "MOST_TAKES" 807 (.int 20 806),me "OLDEST" 809 (.int 20 808),me "Stand" 901 (.ref 505),me "put" 914 (.ref 516),me "join" 927 (.ref 523),me "found" 944 (.ref 530),me "aged" 957 (.ref 537),me "drop" 963 (.ref 542),me "free" 973 (.ref 549),me "shut" 983 (.ref 556),me "DEEDS" 998 (.ref 557),me "stand_behind" 1007 (.ref 564),me "check_new" 1013 (.ref 569),me "check_age" 1020 (.ref 576),me "check_place" 1028 (.ref 583),me "with_key" 1038 (.ref 590),me "without_key" 1044 (.ref 595),me "LONGEST" 1048 (.int 40 1047),me "Room" 1304 (.ref 801),me "least_and_few" 1315 (.ref 812),me "_law_box" 1324 (.ref 819),me "_law_take" 1336 (.ref 826),me "_law_same" 1342 (.ref 831),me "_law_kinds" 1348 (.ref 836),me "_law_refused" 1357 (.ref 843),me "_law_empty" 1363 (.ref 848),me "law" 1369 (.ref 853)])],[ko 505 ⟨.type "type",none,(.cls ⟨"Stand",[.type "object"],[.ref 505,.type "object"],504, "Stand",true,[],[],false,none,false⟩),#[none,none,(some (.str "Stand" 810)),(some (.str "Stand" 818)),(some (.builtin "object.__new__")),(some (.bool true))]⟩,ko 504 ⟨.type "dict",none,(.dict #[enP P "__module__" 817 (.str "hissroom.stand" 802),enP P "__firstlineno__" 821 (.int 223 820),enP P "__init__" 832 (.ref 462),enP P "check_there" 840 (.ref 469),enP P "parts" 848 (.ref 476),enP P "source" 862 (.ref 483),enP P "takes_by_names" 875 (.ref 490),enP P "take" 883 (.ref 497),enP P "shelf" 889 (.ref 502),enP P "__static_attributes__" 894 (.ref 503),enP P "__dict__" 896 (.ref 506),enP P "__weakref__" 898 (.ref 507),enP P "__doc__" 899 (.none)] 4),#[]⟩],[ko 801 ⟨.type "type",none,(.cls ⟨"Room",[.type "object"],[.ref 801,.type "object"],800, "Room",true,[],[],false,none,false⟩),#[none,none,(some (.str "Room" 1049)),(some (.str "Room" 1057)),(some (.builtin "object.__new__")),(some (.bool true))]⟩,ko 800 ⟨.type "dict",none,(.dict #[enP P "__module__" 1056 (.str "hissroom.room" 1045),enP P "__firstlineno__" 1060 (.int 340 1059),enP P "__init__" 1068 (.ref 609),enP P "now" 1075 (.ref 616),enP P "put" 1085 (.ref 623),enP P "join" 1096 (.ref 630),enP P "found" 1106 (.ref 637),enP P "aged" 1115 (.ref 644),enP P "drop" 1123 (.ref 651),enP P "free" 1131 (.ref 658),enP P "shut" 1139 (.ref 665),enP P "deed" 1148 (.ref 672),enP P "undo" 1155 (.ref 679),enP P "redo" 1162 (.ref 686),enP P "deeds" 1169 (.ref 693),enP P "ahead" 1176 (.ref 700),enP P "size" 1183 (.ref 707),enP P "names" 1190 (.ref 714),enP P "bars" 1198 (.ref 721),enP P "age" 1206 (.ref 728),enP P "parts" 1214 (.ref 735),enP P "source" 1223 (.ref 742),enP P "cuts" 1233 (.ref 749),enP P "takes" 1243 (.ref 756),enP P "answer" 1253 (.ref 763),enP P "least" 1263 (.ref 770),enP P "few" 1271 (.ref 777),enP P "after" 1279 (.ref 784),enP P "coming" 1286 (.ref 791),enP P "twin" 1293 (.ref 798),enP P "__static_attributes__" 1297 (.ref 799),enP P "__dict__" 1299 (.ref 802),enP P "__weakref__" 1301 (.ref 803),enP P "__doc__" 1302 (.none)] 4),#[]⟩],kx P 188 187 55 "NoTake" (some (.ref 179)) 405 413 kM0 412 42 186,kx P 140 139 55 "BadBar" (some (.ref 131)) 341 349 kM0 348 34 138,kx P 116 115 55 "BadName" (some (.ref 107)) 309 317 kM0 316 30 114,kx P 164 163 55 "Taken" (some (.ref 155)) 373 381 kM0 380 38 162,kx P 176 175 55 "Full" (some (.ref 167)) 389 397 kM0 396 40 174,kx P 128 127 55 "BadAge" (some (.ref 119)) 325 333 kM0 332 32 126,kx P 152 151 55 "BadPlace" (some (.ref 143)) 357 365 kM0 364 36 150,kx P 68 67 55 "BadBars" (some (.ref 59)) 245 253 kM0 252 22 66,kx P 200 199 55 "Shut" (some (.ref 191)) 421 429 kM0 428 44 198,kx P 212 211 55 "Joined" (some (.ref 203)) 437 445 kM0 444 46 210,kx P 224 223 55 "Needed" (some (.ref 215)) 453 461 kM0 460 48 222,kx P 248 247 55 "BadSize" (some (.ref 239)) 485 493 kM0 492 52 246,kx P 80 79 55 "BadMake" (some (.ref 71)) 261 269 kM0 268 24 78,kx P 92 91 55 "BadNumber" (some (.ref 83)) 277 285 kM0 284 26 90,kx P 104 103 55 "BadText" (some (.ref 95)) 293 301 kM0 300 28 102,kx P 236 235 55 "NothingLeft" (some (.ref 227)) 469 477 kM0 476 50 234,[ko 267 ⟨.type "type",none,(.cls ⟨"NoWay",[.ref 55],[.ref 267,.ref 55,.type "ValueError",.type "Exception",.type "BaseException",.type "object"],266, "NoWay",true,[],[],false,none,false⟩),#[(some (.ref 251)),none,(some (.str "NoWay" 501)),(some (.str "NoWay" 509)),(some (.builtin "ValueError.__new__")),(some (.bool true))]⟩,ko 266 ⟨.type "dict",none,(.dict #[enP P "__module__" 508 (.str "hissroom.errors" 225),enP P "__firstlineno__" 512 (.int 54 511),enP P "__init__" 521 (.ref 264),enP P "__static_attributes__" 524 (.ref 265),enP P "__doc__" 525 (.none)] 2),#[]⟩],[ko 55 ⟨.type "type",none,(.cls ⟨"HissError",[.type "ValueError"],[.ref 55,.type "ValueError",.type "Exception",.type "BaseException",.type "object"],54, "HissError",true,[],[.ref 68,.ref 80,.ref 92,.ref 104,.ref 116,.ref 128,.ref 140,.ref 152,.ref 164,.ref 176,.ref 188,.ref 200,.ref 212,.ref 224,.ref 236,.ref 248,.ref 267],false,none,false⟩),#[(some (.ref 46)),none,(some (.str "HissError" 227)),(some (.str "HissError" 235)),(some (.builtin "ValueError.__new__")),(some (.bool true))]⟩,ko 54 ⟨.type "dict",none,(.dict #[enP P "__module__" 234 (.str "hissroom.errors" 225),enP P "__firstlineno__" 238 (.int 20 237),enP P "__static_attributes__" 239 (.ref 53),enP P "__weakref__" 241 (.ref 56),enP P "__doc__" 242 (.none)] 3),#[]⟩],kf1 819 818 "_law_box" s_box kM1 1318 447 1 813 814 (.ref 815) (.ref 816) 817 1322,kf1 826 825 "_law_take" s_take kM1 1325 449 2 820 821 (.ref 822) (.ref 823) 824 1334,kf1 831 830 "_law_same" s_same kM1 1337 465 2 827 828 .none .none 829 1340,kf1 28 27 "ends" s_ends kM2 196 5 2 22 23 (.ref 24) (.ref 25) 26 201,kf1 35 34 "pieces" s_pieces kM2 204 7 2 29 30 (.ref 31) (.ref 32) 33 210,kf1 45 44 "bar_of" s_bar_of kM2 219 14 3 41 42 .none .none 43 222,kf1 410 409 "is_bars" s_is_bars kM3 728 177 2 404 405 (.ref 406) (.ref 407) 408 733,kf1 417 416 "joined" s_joined kM3 736 179 3 411 412 (.ref 413) (.ref 414) 415 747,kf1 590 589 "with_key" s_with_key kM4 1029 332 3 584 585 (.ref 586) (.ref 587) 588 1036,kf1 595 594 "without_key" s_without_key kM4 1039 336 2 591 592 .none .none 593 1042,kf 462 461 "__init__" "Stand.__init__" s_Stand___init__ kM4 822 225 5 456 457 (.ref 458) (.ref 459) 460 830,kf 469 468 "check_there" "Stand.check_there" s_Stand_check_there kM4 833 231 2 463 464 (.ref 465) (.ref 466) 467 838,kf 476 475 "parts" "Stand.parts" s_Stand_parts kM4 841 235 2 470 471 (.ref 472) (.ref 473) 474 846,kf 483 482 "source" "Stand.source" s_Stand_source kM4 849 239 3 477 478 (.ref 479) (.ref 480) 481 860,kf 490 489 "takes_by_names" "Stand.takes_by_names" s_Stand_takes_by_names kM4 863 251 1 484 485 (.ref 486) (.ref 487) 488 873,kf 502 501 "shelf" "Stand.shelf" s_Stand_shelf kM4 884 265 1 498 499 .none .none 500 887,kf1 569 568 "check_new" s_check_new kM4 1008 319 2 565 566 .none .none 567 1011,kf1 576 575 "check_age" s_check_age kM4 1014 326 1 570 571 (.ref 572) (.ref 573) 574 1018,kf1 583 582 "check_place" s_check_place kM4 1021 329 2 577 578 (.ref 579) (.ref 580) 581 1026,kf1 516 515 "put" s_put kM4 902 268 2 510 511 (.ref 512) (.ref 513) 514 912,kf1 523 522 "join" s_join kM4 915 276 2 517 518 (.ref 519) (.ref 520) 521 925,kf1 530 529 "found" s_found kM4 928 285 2 524 525 (.ref 526) (.ref 527) 528 942,kf1 537 536 "aged" s_aged kM4 945 293 2 531 532 (.ref 533) (.ref 534) 535 955,kf1 542 541 "drop" s_drop kM4 958 300 2 538 539 .none .none 540 961,kf1 549 548 "free" s_free kM4 964 307 2 543 544 (.ref 545) (.ref 546) 547 971,kf1 556 555 "shut" s_shut kM4 974 311 2 550 551 (.ref 552) (.ref 553) 554 981,kf1 564 563 "stand_behind" s_stand_behind kM4 999 316 2 558 559 (.ref 560) (.ref 561) 562 1005,kf 609 608 "__init__" "Room.__init__" s_Room___init__ kM5 1061 342 2 603 604 (.ref 605) (.ref 606) 607 1066,kf 616 615 "now" "Room.now" s_Room_now kM5 1069 349 1 610 611 (.ref 612) (.ref 613) 614 1073,kf 672 671 "deed" "Room.deed" s_Room_deed kM5 1140 373 2 666 667 (.ref 668) (.ref 669) 670 1146,kf 693 692 "deeds" "Room.deeds" s_Room_deeds kM5 1163 388 1 687 688 (.ref 689) (.ref 690) 691 1167,kf 700 699 "ahead" "Room.ahead" s_Room_ahead kM5 1170 391 1 694 695 (.ref 696) (.ref 697) 698 1174,kf 707 706 "size" "Room.size" s_Room_size kM5 1177 394 1 701 702 (.ref 703) (.ref 704) 705 1181,kf 714 713 "names" "Room.names" s_Room_names kM5 1184 397 1 708 709 (.ref 710) (.ref 711) 712 1188,kf 749 748 "cuts" "Room.cuts" s_Room_cuts kM5 1224 412 1 743 744 (.ref 745) (.ref 746) 747 1231,kf 756 755 "takes" "Room.takes" s_Room_takes kM5 1234 416 1 750 751 (.ref 752) (.ref 753) 754 1241,kf 623 622 "put" "Room.put" s_Room_put kM5 1076 352 4 617 618 (.ref 619) (.ref 620) 621 1083,kf1 286 285 "take_rows" s_take_rows kM6 549 73 3 282 283 .none .none 284 552,kf1 281 280 "youngest" s_youngest kM6 543 71 1 277 278 .none .none 279 546,kf1 296 295 "next_reach" s_next_reach kM6 561 82 4 292 293 .none .none 294 564,kf1 330 329 "fewest" s_fewest kM7 602 116 4 324 325 (.ref 326) (.ref 327) 328 610,kf1 337 336 "best_of" s_best_of kM7 613 119 4 331 332 (.ref 333) (.ref 334) 335 621,kf1 424 423 "young_paper" s_young_paper kM8 752 185 4 418 419 (.ref 420) (.ref 421) 422 764,kf1 429 428 "few_paper" s_few_paper kM8 767 194 5 425 426 .none .none 427 770,kf1 276 275 "least_age" s_least_age kM6 530 60 3 270 271 (.ref 272) (.ref 273) 274 540,kf1 448 447 "answer" s_answer kM8 788 210 3 442 443 (.ref 444) (.ref 445) 446 798,kf1 812 811 "least_and_few" s_least_and_few kM5 1305 440 1 806 807 (.ref 808) (.ref 809) 810 1313,kf 763 762 "answer" "Room.answer" s_Room_answer kM5 1244 420 1 757 758 (.ref 759) (.ref 760) 761 1251,kf 770 769 "least" "Room.least" s_Room_least kM5 1254 424 1 764 765 (.ref 766) (.ref 767) 768 1261,kf 777 776 "few" "Room.few" s_Room_few kM5 1264 428 1 771 772 (.ref 773) (.ref 774) 775 1269,kf1 836 835 "_law_kinds" s_kinds kM1 1343 475 1 832 833 .none .none 834 1346,kf1 843 842 "_law_refused" s_refused kM1 1349 484 1 837 838 (.ref 839) (.ref 840) 841 1355,kf1 848 847 "_law_empty" s_empty kM1 1358 491 2 844 845 .none .none 846 1361,kf1 853 852 "law" s_law kM1 1364 497 1 849 850 .none .none 851 1367,[ko 557 ⟨.type "dict",none,(.dict #[enP P "put" 984 (.ref 516),enP P "join" 985 (.ref 523),enP P "found" 986 (.ref 530),enP P "aged" 987 (.ref 537),enP P "drop" 988 (.ref 542),enP P "free" 989 (.ref 549),enP P "shut" 990 (.ref 556)] 7),#[]⟩]]
def hk:PySem.W.Hook:=PySem.W.kHook kk [3,505,504,801,800,188,187,140,139,116,115,164,163,176,175,128,127,152,151,68,67,200,199,212,211,224,223,248,247,80,79,92,91,104,103,236,235,267,266,55,54,819,818,826,825,831,830,28,27,35,34,45,44,410,409,417,416,590,589,595,594,462,461,469,468,476,475,483,482,490,489,502,501,569,568,576,575,583,582,516,515,523,522,530,529,537,536,542,541,549,548,556,555,564,563,609,608,616,615,672,671,693,692,700,699,707,706,714,713,749,748,756,755,623,622,286,285,281,280,296,295,330,329,337,336,424,423,429,428,276,275,448,447,812,811,763,762,770,769,777,776,836,835,843,842,848,847,853,852,557] (fun _=>by kernel_rfl)
def lw:PySem.W.OpenLaw:=PySem.Challenge.rw_hissroom_k31_rooms_of_a_size
def qq:Program:={ lw.prog with main:={ lw.prog.main with body:=[s_law]}}
def ll:List Str:=[sS "_wall",sS "ends",sS "pieces",sS "farthest",sS "bar_of",sS "HissError",sS "BadBars",sS "BadMake",sS "BadNumber",sS "BadText",sS "BadName",sS "BadAge",sS "BadBar",sS "BadPlace",sS "Taken",sS "Full",sS "NoTake",sS "Shut",sS "Joined",sS "Needed",sS "NothingLeft",sS "BadSize",sS "NoWay",sS "least_age",sS "youngest",sS "take_rows",sS "clean_row",sS "next_reach",sS "few_tables",sS "no_make",sS "bare_table",sS "next_table",sS "fewest_joined",sS "fewest",sS "best_of",sS "BestMakes",sS "is_bars",sS "joined",sS "young_paper",sS "few_paper",sS "few_rows",sS "go_on",sS "answer",sS "answer_papers",sS "MOST_LETTERS",sS "MOST_TAKES",sS "OLDEST",sS "Stand",sS "put",sS "join",sS "found",sS "aged",sS "drop",sS "free",sS "shut",sS "DEEDS",sS "stand_behind",sS "check_new",sS "check_age",sS "check_place",sS "with_key",sS "without_key",sS "LONGEST",sS "Room",sS "least_and_few",sS "_law_box",sS "_law_take",sS "_law_same",sS "_law_kinds",sS "_law_refused",sS "_law_empty"]
def xt (s:Shared):Bool:=PySem.W.xlAt qq [] s&&PySem.W.recOk (PySem.W.RowW.records lw.row.toRowW) s
theorem left0:LeftT lw.prog qq ll xt hk.obs hk.val 7437 "special-get-raises" false:=fun w os=>by kernel_rfl
theorem left1:LeftT lw.prog qq ll xt hk.obs hk.val 7437 "special-get-raises" true:=fun w os=>by kernel_rfl
theorem left:PySem.W.LeftO lw.prog qq ll xt hk.obs hk.val 7437:=left_ofR (by kernel_rfl) rfl (fun s=>by kernel_rfl) rfl left0.at left1.at
theorem said:lw.wellSaid=true:=(congrFun PySem.W.Fast.te9446332074065402090 lw).trans (by kernel_rfl)
def dd:DefRec:=⟨"law",defArgs s_law,defBody s_law,defScope s_law,defPos s_law⟩
theorem holds (F:PySem.W.WalkO qq ll (PySem.W.XL qq []) hk.says lw.row.toRowW dd [] (fun f vs=>PySem.call f vs)):lw.Holds:=PySem.W.holds_law said fun k1=>PySem.W.holds_open (q:=qq) (loose:=ll) (Xt:=xt) (XP:=PySem.W.XL qq []) (d:=dd) (kwd:=[]) left hk.of hk.keeps (fun s e=>PySem.W.xl_of s (Bool.and_eq_true_iff.mp e).1) PySem.W.XL.keeps (by kernel_rfl) (by kernel_rfl) rfl (fun s e=>PySem.W.recFacts_of (Bool.and_eq_true_iff.mp e).2) rfl k1 (by kernel_rfl) ⟨rfl,rfl,rfl,rfl,rfl,by kernel_rfl⟩ ⟨[.list []],by kernel_rfl,by kernel_rfl⟩ F
abbrev lx (f:Program->World->PySem.W.Frag->(Str->Option Value)->Heap->Prop)(w:World)(mg:Str->Option Value)(base:Heap):Prop:=f lw.prog w (kk w.params) mg base
def fq (w:World)(x q:Str)(s:Stmt)(f:Addr)(pm:Value)(c:Addr)(l:(kk w.params).lookup f=some (fnQ x q s pm c):=by kernel_rfl)(c':PySem.W.codeIn (kk w.params) (.ref c) q=true:=by kernel_rfl)(k:PySem.W.keepIn (kk w.params) (.ref f)=true:=by kernel_rfl):=fun_of l c' k
def fq1 (w:World)(x:Str)(s:Stmt)(f:Addr)(pm:Value)(c:Addr)(l:(kk w.params).lookup f=some (fnQ x x s pm c):=by kernel_rfl)(c':PySem.W.codeIn (kk w.params) (.ref c) x=true:=by kernel_rfl)(k:PySem.W.keepIn (kk w.params) (.ref f)=true:=by kernel_rfl):=fun_of l c' k
set_option maxHeartbeats 40000000 in
theorem fin:PySem.W.WalkO qq ll (PySem.W.XL qq []) hk.says lw.row.toRowW dd [] (fun f vs=>PySem.call f vs):=by
 refine L2.walk_of (l:=lw) (d:=dd) (n:=63) (k:=12) (x := "_law_script") (K:=kk) (CX:=fun _=>CX0) (sp:=fun w=>spLaw (kk w.params)) rfl (by decide) rfl ⟨rfl,by decide,by decide⟩ (fun w h Y=>PySem.W.kIn_of Y) (fun w mg fa h X G hfa=>?_) (fun _ _ a ns hl _ hS=>⟨a,ns,rfl,hS,hl,fun _=>rfl⟩) fun _ _ _ _ _ z=>z
 have e:=hfa.symm.trans (aP X G (show PySem.W.nsIn (kk w.params) mainGlobals "law"=sr 853 by kernel_rfl))
 cases e
 have T:Bi2 mg:=⟨aH X G (by kernel_rfl),aH X G (by kernel_rfl),aH X G (by kernel_rfl),aH X G (by kernel_rfl),aH X G (by kernel_rfl),aH X G (by kernel_rfl),aH X G (by kernel_rfl),aH X G (by kernel_rfl),aH X G (by kernel_rfl),aH X G (by kernel_rfl),aH X G (by kernel_rfl),aH X G (by kernel_rfl),aH X G (by kernel_rfl),aH X G (by kernel_rfl),aH X G (by kernel_rfl),aH X G (by kernel_rfl),aH X G (by kernel_rfl)⟩
 have TV:mg "ValueError"=none:=aH X G (by kernel_rfl)
 have Z_Stand:ZStand (kk w.params) cStand:=⟨⟨by kernel_rfl,by kernel_rfl,by kernel_rfl,by kernel_rfl⟩,by kernel_rfl,by kernel_rfl,by kernel_rfl,by kernel_rfl⟩
 have Z_Room:ZRoom (kk w.params) cRoom:=⟨⟨by kernel_rfl,by kernel_rfl,by kernel_rfl,by kernel_rfl⟩,by kernel_rfl,by kernel_rfl,by kernel_rfl⟩
 have F0:=fq1 w "_law_box" s_box 819 kM1 818
 have F1:=fq1 w "_law_take" s_take 826 kM1 825
 have F2:=fq1 w "_law_same" s_same 831 kM1 830
 have F3:=fq1 w "ends" s_ends 28 kM2 27
 have F4:=fq1 w "pieces" s_pieces 35 kM2 34
 have F5:=fq1 w "bar_of" s_bar_of 45 kM2 44
 have F6:=fq1 w "is_bars" s_is_bars 410 kM3 409
 have F7:=fq1 w "joined" s_joined 417 kM3 416
 have F8:=fq1 w "with_key" s_with_key 590 kM4 589
 have F9:=fq1 w "without_key" s_without_key 595 kM4 594
 have F10:=fq w "__init__" "Stand.__init__" s_Stand___init__ 462 kM4 461
 have F11:=fq w "check_there" "Stand.check_there" s_Stand_check_there 469 kM4 468
 have F12:=fq w "parts" "Stand.parts" s_Stand_parts 476 kM4 475
 have F13:=fq w "source" "Stand.source" s_Stand_source 483 kM4 482
 have F14:=fq w "takes_by_names" "Stand.takes_by_names" s_Stand_takes_by_names 490 kM4 489
 have F15:=fq w "shelf" "Stand.shelf" s_Stand_shelf 502 kM4 501
 have F16:=fq1 w "check_new" s_check_new 569 kM4 568
 have F17:=fq1 w "check_age" s_check_age 576 kM4 575
 have F18:=fq1 w "check_place" s_check_place 583 kM4 582
 have F19:=fq1 w "put" s_put 516 kM4 515
 have F20:=fq1 w "join" s_join 523 kM4 522
 have F21:=fq1 w "found" s_found 530 kM4 529
 have F22:=fq1 w "aged" s_aged 537 kM4 536
 have F23:=fq1 w "drop" s_drop 542 kM4 541
 have F24:=fq1 w "free" s_free 549 kM4 548
 have F25:=fq1 w "shut" s_shut 556 kM4 555
 have F26:=fq1 w "stand_behind" s_stand_behind 564 kM4 563
 have F27:=fq w "__init__" "Room.__init__" s_Room___init__ 609 kM5 608
 have F28:=fq w "now" "Room.now" s_Room_now 616 kM5 615
 have F29:=fq w "deed" "Room.deed" s_Room_deed 672 kM5 671
 have F30:=fq w "deeds" "Room.deeds" s_Room_deeds 693 kM5 692
 have F31:=fq w "ahead" "Room.ahead" s_Room_ahead 700 kM5 699
 have F32:=fq w "size" "Room.size" s_Room_size 707 kM5 706
 have F33:=fq w "names" "Room.names" s_Room_names 714 kM5 713
 have F34:=fq w "cuts" "Room.cuts" s_Room_cuts 749 kM5 748
 have F35:=fq w "takes" "Room.takes" s_Room_takes 756 kM5 755
 have F36:=fq w "put" "Room.put" s_Room_put 623 kM5 622
 have F37:=fq1 w "take_rows" s_take_rows 286 kM6 285
 have F38:=fq1 w "youngest" s_youngest 281 kM6 280
 have F39:=fq1 w "next_reach" s_next_reach 296 kM6 295
 have F40:=fq1 w "fewest" s_fewest 330 kM7 329
 have F41:=fq1 w "best_of" s_best_of 337 kM7 336
 have F42:=fq1 w "young_paper" s_young_paper 424 kM8 423
 have F43:=fq1 w "few_paper" s_few_paper 429 kM8 428
 have F44:=fq1 w "least_age" s_least_age 276 kM6 275
 have F45:=fq1 w "answer" s_answer 448 kM8 447
 have F46:=fq1 w "least_and_few" s_least_and_few 812 kM5 811
 have F47:=fq w "answer" "Room.answer" s_Room_answer 763 kM5 762
 have F48:=fq w "least" "Room.least" s_Room_least 770 kM5 769
 have F49:=fq w "few" "Room.few" s_Room_few 777 kM5 776
 have F50:=fq1 w "_law_kinds" s_kinds 836 kM1 835
 have F51:=fq1 w "_law_refused" s_refused 843 kM1 842
 have F52:=fq1 w "_law_empty" s_empty 848 kM1 847
 have F53:=fq1 w "law" s_law 853 kM1 852
 refine⟨PySem.W.fnOf "law" "law" (defArgs s_law) (defBody s_law) (defScope s_law) .none .none .none kM1 none (.ref 852) .none,fun s v=>.of_eq rfl,fun base X0 G0=>?_⟩
 have O_NoTake:=own_of (x := "NoTake") (C:=cNoTake) (h:=base) X0 G0 (by kernel_rfl) (by kernel_rfl)
 have O_BadBar:=own_of (x := "BadBar") (C:=cBadBar) (h:=base) X0 G0 (by kernel_rfl) (by kernel_rfl)
 have O_BadName:=own_of (x := "BadName") (C:=cBadName) (h:=base) X0 G0 (by kernel_rfl) (by kernel_rfl)
 have O_Taken:=own_of (x := "Taken") (C:=cTaken) (h:=base) X0 G0 (by kernel_rfl) (by kernel_rfl)
 have O_Full:=own_of (x := "Full") (C:=cFull) (h:=base) X0 G0 (by kernel_rfl) (by kernel_rfl)
 have O_BadAge:=own_of (x := "BadAge") (C:=cBadAge) (h:=base) X0 G0 (by kernel_rfl) (by kernel_rfl)
 have O_BadPlace:=own_of (x := "BadPlace") (C:=cBadPlace) (h:=base) X0 G0 (by kernel_rfl) (by kernel_rfl)
 have O_BadBars:=own_of (x := "BadBars") (C:=cBadBars) (h:=base) X0 G0 (by kernel_rfl) (by kernel_rfl)
 have O_Shut:=own_of (x := "Shut") (C:=cShut) (h:=base) X0 G0 (by kernel_rfl) (by kernel_rfl)
 have O_Joined:=own_of (x := "Joined") (C:=cJoined) (h:=base) X0 G0 (by kernel_rfl) (by kernel_rfl)
 have O_Needed:=own_of (x := "Needed") (C:=cNeeded) (h:=base) X0 G0 (by kernel_rfl) (by kernel_rfl)
 have O_BadSize:=own_of (x := "BadSize") (C:=cBadSize) (h:=base) X0 G0 (by kernel_rfl) (by kernel_rfl)
 have O_BadMake:=own_of (x := "BadMake") (C:=cBadMake) (h:=base) X0 G0 (by kernel_rfl) (by kernel_rfl)
 have O_BadNumber:=own_of (x := "BadNumber") (C:=cBadNumber) (h:=base) X0 G0 (by kernel_rfl) (by kernel_rfl)
 have O_BadText:=own_of (x := "BadText") (C:=cBadText) (h:=base) X0 G0 (by kernel_rfl) (by kernel_rfl)
 have O_NothingLeft:=own_of (x := "NothingLeft") (C:=cNothingLeft) (h:=base) X0 G0 (by kernel_rfl) (by kernel_rfl)
 have O_NoWay:OwnB "NoWay" cNoWay mg:=⟨aP X G (by kernel_rfl)⟩
 have O_HissError:=own_of (x := "HissError") (C:=cHissError) (h:=base) X0 G0 (by kernel_rfl) (by kernel_rfl)
 have G_LONGEST:GInt mg "LONGEST" 40:=⟨1047,aP X G (by kernel_rfl)⟩
 have G_MOST_LETTERS:GInt mg "MOST_LETTERS" 8:=⟨804,aP X G (by kernel_rfl)⟩
 have G_MOST_TAKES:GInt mg "MOST_TAKES" 20:=⟨806,aP X G (by kernel_rfl)⟩
 have G_OLDEST:GInt mg "OLDEST" 20:=⟨808,aP X G (by kernel_rfl)⟩
 have T_DEEDS:Tab lw.prog w (kk w.params) mg "DEEDS" [("put",a_put),("join",a_join),("found",a_found),("aged",a_aged),("drop",a_drop),("free",a_free),("shut",a_shut)]:=tab_of (x := "DEEDS") (d:=557) (n:=7) [("put",984,516),("join",985,523),("found",986,530),("aged",987,537),("drop",988,542),("free",989,549),("shut",990,556)] X G (by kernel_rfl) (by kernel_rfl) (by decide)
 have M_put:mg "put"=some (.ref a_put):=aP X G (by kernel_rfl)
 have M_join:mg "join"=some (.ref a_join):=aP X G (by kernel_rfl)
 have M_found:mg "found"=some (.ref a_found):=aP X G (by kernel_rfl)
 have M_aged:mg "aged"=some (.ref a_aged):=aP X G (by kernel_rfl)
 have M_drop:mg "drop"=some (.ref a_drop):=aP X G (by kernel_rfl)
 have M_free:mg "free"=some (.ref a_free):=aP X G (by kernel_rfl)
 have M_shut:mg "shut"=some (.ref a_shut):=aP X G (by kernel_rfl)
 have KA:∀ j,j<16->KinB (kk w.params) rcs cHissError j:=k16 kB kB kB kB kB kB kB kB kB kB kB kB kB kB kB kB
 have C0:lx c_box w mg base:=cal_of X G F0 (ok_box F0 T ) (bd1 F0)
 have C1:lx c_take w mg base:=cal_of X G F1 (ok_take F1 T ) (bd2 F1)
 have C2:lx c_same w mg base:=cal_of X G F2 ((ok_same F2 T  (aP X G (by kernel_rfl)) F2.kp (bd2 F2)  5).imp fun vs H Q E h=>same_imp h) (bd2 F2)
 have C3:lx c_ends w mg base:=cal_of X G F3 (ok_ends F3 T ) (bd2 F3)
 have C4:lx c_pieces w mg base:=cal_of X G F4 (ok_pieces F4 T  C3) (bd2 F4)
 have C5:lx c_bar_of w mg base:=cal_of X G F5 (ok_bar_of F5 T  C4) (bd3 F5)
 have C6:lx c_is_bars w mg base:=cal_of X G F6 (ok_is_bars F6 T ) (bd2 F6)
 have C7:lx c_joined w mg base:=cal_of X G F7 (ok_joined F7 T ) (bd3 F7)
 have C8:lx c_with_key w mg base:=cal_of X G F8 (ok_with_key F8 T ) (bd3 F8)
 have C9:lx c_without_key w mg base:=cal_of X G F9 (ok_without_key F9 T ) (bd2 F9)
 have C10:lx c_Stand___init__ w mg base:=cali_of X G F10 (ok_Stand___init__ F10 T Z_Stand) (bd5 F10)
 have C11:lx c_Stand_check_there w mg base:=calmx_of F11 (ok_Stand_check_there F11 T Z_Stand O_NoTake) (bd2 F11)
 have C12:lx c_Stand_parts w mg base:=calmx_of F12 (ok_Stand_parts F12 T Z_Stand C11) (bd2 F12)
 have C13:lx c_Stand_source w mg base:=calmx_of F13 (ok_Stand_source F13 T Z_Stand O_BadBar C12) (bd3 F13)
 have C14:lx c_Stand_takes_by_names w mg base:=calm_of F14 (ok_Stand_takes_by_names F14 T Z_Stand C7) (bd1 F14)
 have C15:lx c_Stand_shelf w mg base:=calm_of F15 (ok_Stand_shelf F15 T Z_Stand C14) (bd1 F15)
 have C16:lx c_check_new w mg base:=calx_of X G F16 (ok_check_new F16 T Z_Stand O_BadName O_Taken O_Full G_MOST_TAKES G_MOST_LETTERS) (bd2 F16)
 have C17:lx c_check_age w mg base:=calx_of X G F17 (ok_check_age F17 T O_BadAge G_OLDEST) (bd1 F17)
 have C18:lx c_check_place w mg base:=calx_of X G F18 (ok_check_place F18 T Z_Stand O_BadPlace) (bd2 F18)
 have C19:lx c_put w mg base:=calx_of X G F19 (ok_put F19 T Z_Stand O_BadBars C16 C6 C17 C8 C10) (bd2 F19)
 have C20:lx c_join w mg base:=calx_of X G F20 (ok_join F20 T Z_Stand O_Shut C16 C11 C18 C8 C10) (bd2 F20)
 have C21:lx c_found w mg base:=calx_of X G F21 (ok_found F21 T Z_Stand O_BadBars C13 C8 C10) (bd2 F21)
 have C22:lx c_aged w mg base:=calx_of X G F22 (ok_aged F22 T Z_Stand O_Joined C12 C17 C8 C10) (bd2 F22)
 have C23:lx c_drop w mg base:=calx_of X G F23 (ok_drop F23 T Z_Stand O_Needed C11 C9 C10) (bd2 F23)
 have C24:lx c_free w mg base:=calx_of X G F24 (ok_free F24 T Z_Stand C18 C9 C10) (bd2 F24)
 have C25:lx c_shut w mg base:=calx_of X G F25 (ok_shut F25 T Z_Stand C18 C8 C10) (bd2 F25)
 have C26:lx c_stand_behind w mg base:=calx_of X G F26 (ok_stand_behind F26 T T_DEEDS M_put M_join M_found M_aged M_drop M_free M_shut C19 C20 C21 C22 C23 C24 C25) (bd2 F26)
 have C27:lx c_Room___init__ w mg base:=calix_of X G F27 (ok_Room___init__ F27 T Z_Room Z_Stand O_BadSize G_LONGEST C10) (bd2 F27)
 have C28:lx c_Room_now w mg base:=calm_of F28 (ok_Room_now F28 T Z_Room) (bd1 F28)
 have C29:lx c_Room_deed w mg base:=calmx_of F29 (ok_Room_deed F29 T Z_Room C28 C26) (bd2 F29)
 have C30:lx c_Room_deeds w mg base:=calm_of F30 (ok_Room_deeds F30 T Z_Room) (bd1 F30)
 have C31:lx c_Room_ahead w mg base:=calm_of F31 (ok_Room_ahead F31 T Z_Room) (bd1 F31)
 have C32:lx c_Room_size w mg base:=calm_of F32 (ok_Room_size F32 T Z_Room Z_Stand C28) (bd1 F32)
 have C33:lx c_Room_names w mg base:=calm_of F33 (ok_Room_names F33 T Z_Room Z_Stand C28) (bd1 F33)
 have C34:lx c_Room_cuts w mg base:=calm_of F34 (ok_Room_cuts F34 T Z_Room Z_Stand C28 C15) (bd1 F34)
 have C35:lx c_Room_takes w mg base:=calm_of F35 (ok_Room_takes F35 T Z_Room Z_Stand C28 C15) (bd1 F35)
 have C36:lx c_Room_put w mg base:=calmx_of F36 (ok_Room_put F36 T Z_Room C29) (bd4 F36)
 have C37:lx c_take_rows w mg base:=cal_of X G F37 (fn_dead) (bd3 F37)
 have C38:lx c_youngest w mg base:=cal_of X G F38 (fn_dead) (bd1 F38)
 have C39:lx c_next_reach w mg base:=cal_of X G F39 (fn_dead) (bd4 F39)
 have C40:lx c_fewest w mg base:=cal_of X G F40 (fn_dead) (bd4 F40)
 have C41:lx c_best_of w mg base:=cal_of X G F41 (fn_dead) (bd4 F41)
 have C42:lx c_young_paper w mg base:=cal_of X G F42 (fn_dead) (bd4 F42)
 have C43:lx c_few_paper w mg base:=cal_of X G F43 (fn_dead) (bd5 F43)
 have C44:lx c_least_age w mg base:=cal_of X G F44 (ok_least_age F44 T  C5 C3 C37 C38 C39) (bd3 F44)
 have C45:lx c_answer w mg base:=cala_of X G F45 (ok_answer F45 T  C5 C44 C40 C41 C42 C43) (bd3 F45)
 have C46:lx c_least_and_few w mg base:=cal_of X G F46 (ok_least_and_few F46 T Z_Stand C15 C44 C40) (bd1 F46)
 have C47:lx c_Room_answer w mg base:=calm_of F47 (ok_Room_answer F47 T Z_Room Z_Stand C28 C15 C45) (bd1 F47)
 have C48:lx c_Room_least w mg base:=calm_of F48 (ok_Room_least F48 T Z_Room Z_Stand C28 C15 C44) (bd1 F48)
 have C49:lx c_Room_few w mg base:=calm_of F49 (ok_Room_few F49 T Z_Room Z_Stand C28 C46) (bd1 F49)
 have C50:lx c_kinds w mg base:=calh_of X G F50 (ok_kinds F50 T TV O_BadBars O_BadMake O_BadNumber O_BadText O_BadName O_BadAge O_BadBar O_BadPlace O_BadSize O_Taken O_Full O_NoTake O_Shut O_Joined O_Needed O_NothingLeft O_NoWay) (bd1 F50)
 have C51:lx c_refused w mg base:=cal_of X G F51 (ok_refused F51 T O_HissError C27 C50) (bd1 F51)
 have C52:lx c_empty w mg base:=cal_of X G F52 (ok_empty F52 T Z_Room C2 C32 C33 C35 C30 C31 C34 C47 C48 C49) (bd2 F52)
 exact ok_law F53 T Z_Room KA C0 C1 C27 C52 C36 C33 C51
end Pf
theorem PySem.Challenge.cw_hissroom_k31_rooms_of_a_size_holds : PySem.Challenge.rw_hissroom_k31_rooms_of_a_size.Holds :=
 Pf.holds Pf.fin