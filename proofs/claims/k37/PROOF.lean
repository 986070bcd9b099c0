import PyProof.Rows.All
import Wide.All
import OpenK.AllK
import Wide.FinOn
import Lean
import PyProof.EqAt
import PyProof.EqKinds
import PyProof.TupleCall
import PyProof.NeKinds
import PyProof.ListRange
import PyProof.MaxThree
import PyProof.DictWalks
import PyProof.Rows.SortWalk
import PyProof.Rows.TopTwo
import PyProof.RangeIter
import PyProof.ExcArgsOwn
import PyProof.ExcBaseAll.ValueError
import PyProof.ExcAttrAll.ValueError
import KE.KIsAll
import OpenK.KOwn
import PyProof.StrBlock
import PyProof.DictItems
import PyProof.DictItemsLoops
import PyProof.DictValues
import PySem.Challenge.RW_hissroom_k37_undone_and_done_again
set_option Elab.async false
set_option linter.all false
set_option maxRecDepth 100000
set_option genSizeOf false
set_option maxHeartbeats 4000000
theorem sP {α:Type _}{l:List α}{i:Nat}(h:i<l.length):l[i]?=some l[i]:=List.getElem?_eq_getElem h
theorem l8 {α:Type _}{l:List α}{i:Nat}{a:α}(h:l[i]?=some a):∃ h:i<l.length,l[i]=a:=List.getElem?_eq_some_iff.mp h
theorem fH {α β:Type _}{as:List α}(f:α->β):(as.map f).length=as.length:=List.length_map f
theorem A1 {α:Type _}{l:List α}{i:Nat}{a:α}(e:l[i]?=some a):a∈l:=List.mem_of_getElem? e
theorem j3 {α:Type _}{as bs:List α}:(as++bs).length=as.length+bs.length:=List.length_append
theorem uv {α:Type _}{l₁ l₂:List α}{i:Nat}(h:i<l₁.length):(l₁++l₂)[i]?=l₁[i]?:=List.getElem?_append_left h
theorem oP {α:Type _}{l₁ l₂:List α}{i:Nat}(h:l₁.length<=i):(l₁++l₂)[i]?=l₂[i - l₁.length]?:=List.getElem?_append_right h
theorem oO {α:Type _}{a:α}(b:α){l:List α}(h:a∈l):a∈b::l:=List.mem_cons_of_mem b h
theorem MJ {n:Nat}:(List.range n).length=n:=List.length_range
theorem Ow (n:Nat):(n:Int).toNat=n:=Int.toNat_natCast n
theorem j0 {h:PySem.Heap}{a:PySem.Addr}{u:PySem.Obj}(v:PySem.Obj)(e:h.get? a=some u):(h.push v).get? a=some u:=PySem.Heap.get?_push_of_some v e
theorem fb {α β:Type}{M:PySem.Model}{A:PySem.Around}{E:PySem.Value->PySem.Shared->Prop}{s:PySem.Shared}{m:PySem.Sem α}{f:α->PySem.Sem β}{Q:β->PySem.Shared->Prop}(h:PySem.wpAny M A m (fun a s=>PySem.wpAny M A (f a) Q E s) E s):PySem.wpAny M A (m >>= f) Q E s:=PySem.wpAny_bind h
theorem kK {h:PySem.Heap}{a:PySem.Addr}{o:PySem.Obj}(e:h.get? a=some o):a<h.objs.size:=PySem.Heap.lt_size e
theorem vB {α β:Type _}{f:α->β}{l:List α}{i:Nat}:(l.map f)[i]?=(l[i]?).map f:=List.getElem?_map ..
abbrev aa:=PySem.W.Frag
abbrev ae:=PySem.Program
abbrev af:=PySem.World
abbrev ag:=PySem.FuncData
abbrev ah:=PySem.Shared
abbrev ai:=PySem.Addr
abbrev aj:=@Nat.le_refl
abbrev ak:=@List.getElem?_set_ne
abbrev ao:=@PySem.F.excBase_ValueError
abbrev aq:=@if_neg
abbrev ar:=@decide_eq_true
abbrev au:=@if_pos
abbrev av:=@PySem.wpAny_pure
abbrev aw:=@List.map_cons
abbrev az:=@decide_eq_false
abbrev aA:=@Nat.lt_of_lt_of_le
abbrev aB:=@List.size_toArray
abbrev aC:=@List.getElem?_set_self
abbrev aD:=@PySem.Heap.get?_push_size
abbrev aE:=@Nat.le_trans
abbrev aF:=@List.map_append
abbrev aG:=@List.length_set
abbrev aH:=@List.mem_cons_self
abbrev aI:=@List.length_cons
abbrev aJ:=@List.map_map
abbrev aK:=@Bool.false_ne_true
abbrev aL:=@Nat.ne_of_lt
abbrev aM:=@List.length_take
abbrev aN:=@List.length_singleton
abbrev aO:=@List.mem_append_right
abbrev aP:=@PyProof.Rows.boot_isinstance
abbrev aQ:=@List.append_assoc
abbrev aR:=@Nat.sub_self
abbrev aS:=@Option.some.inj
abbrev aT:=@Bool.and_eq_true
abbrev aU:=@List.length_replicate
abbrev aV:=@List.append_nil
abbrev aW:=@List.take_left
abbrev aX:=@List.mem_of_mem_take
abbrev aY:=@PySem.wpAny_field
abbrev aZ:=@List.getElem?_take_of_lt
abbrev a6:=@Nat.zero_le
abbrev a9:=@List.getD_eq_getElem?_getD
abbrev ba:=@PySem.wpAny_newObj_type
abbrev bb:=@Nat.le_add_right
abbrev bc:=@PySem.Heap.size_push
abbrev bf:=@List.take_of_length_le
abbrev bg:=@List.filter_cons
abbrev bh:=@decide_eq_true_eq
abbrev bj:=@Ne.symm
abbrev bo:=@PySem.wpAny_mono
abbrev bp:=@List.not_mem_nil
abbrev bq:=@PySem.W.mg_none_of
abbrev br:=@PyProof.Rows.boot_list
abbrev bt:=@Nat.ne_of_gt
abbrev bu:=@Nat.lt_succ_of_lt
abbrev bw:=@PySem.Heap.get?_update_other
abbrev bx:=@congrArg
abbrev bz:=@List.any_cons
abbrev bA:=@List.find?_cons
abbrev bB:=@Nat.lt_irrefl
abbrev bC:=@List.length_drop
abbrev bD:=@PyProof.Rows.callWith_type1
abbrev bE:=@Option.isSome_map
abbrev bF:=@Nat.le_succ_of_le
abbrev bG:=@PySem.wpAny_callSpecial?_slot
abbrev bH:=@List.mem_cons
abbrev bI:=@List.idxOf_cons
abbrev bJ:=@PySem.F.plainAttrs_str
abbrev bL:=@List.nodup_append
abbrev bM:=@List.length_filter_le
abbrev bN:=@List.length_nil
abbrev bO:=@PySem.F.plainAttrs_list
abbrev bP:=@PySem.wpAny_holding
abbrev bQ:=@PySem.wpAny_truthy_bool
abbrev bR:=@List.drop_of_length_le
abbrev bS:=@List.filterMap_cons
abbrev bT:=@PySem.PassesOwn.never
abbrev bU:=@List.cons.injEq
abbrev bV:=@PySem.wpAny_call_entry
abbrev bW:=@PySem.wpAny_Call_Name_kw
abbrev bX:=@Nat.lt_succ_self
abbrev bY:=@PySem.wpAny_seqItems
abbrev bZ:=@List.mem_append_left
abbrev b7:=@PySem.W.mg_of
abbrev b8:=@Nat.add_sub_cancel_left
abbrev b9:=@Nat.min_eq_left
abbrev cb:=@List.map_congr_left
abbrev cc:=@Array.length_toList
abbrev cf:=@PySem.Calls.callWith_builtin
abbrev cj:=@Nat.lt_of_le_of_lt
abbrev ck:=@PySem.F.slot_tuple_iterator_next
abbrev cm:=@PySem.F.type_str_join
abbrev cn:=@PySem.F.slot_str_join
abbrev cp:=@PySem.Heap.get?_update_self
abbrev cq:=@List.drop_eq_getElem_cons
abbrev cu:=@PySem.wpAny_passesOwn
abbrev cw:=@List.reverse_cons
abbrev cx:=@List.idxOf_append
abbrev cy:=@PySem.wpAny_comprehension_free
abbrev cz:=@PySem.F.type_list_append
abbrev cA:=@PySem.F.slot_list_append
abbrev cC:=@List.length_filterMap_le
abbrev cD:=@PySem.mem_of_lookup
abbrev cE:=@List.getElem_of_mem
abbrev cF:=@beq_self_eq_true
abbrev cG:=@PySem.W.kia_one
abbrev cI:=@List.all_eq_true
abbrev cJ:=@PySem.wpAny_setField_rec
abbrev cK:=@PyProof.Rows.boot_bool
abbrev cL:=@or_false
abbrev cM:=@Bool.eq_iff_iff
abbrev cO:=@List.set_comm
abbrev cP:=@List.getElem?_eq_none
abbrev cQ:=@List.filterMap_eq_map
abbrev cU:=@of_decide_eq_true
abbrev cV:=@PySem.wpAny_setField
abbrev cW:=@PySem.boot_len
abbrev cX:=@List.set_append_left
abbrev cY:=@Bool.and_false
abbrev cZ:=@List.lookup_cons
abbrev c4:=@List.getElem_mem
abbrev c6:=@List.cons_append
abbrev c7:=@List.getElem?_range
abbrev c8:=@PySem.wpAny_standAt
abbrev c9:=@List.all_cons
abbrev dc:=@PySem.wpAny_execs_nil
abbrev de:=@PySem.pushCells_keeps
abbrev df:=@beq_false_of_ne
abbrev dg:=@List.count_cons
abbrev dh:=@PySem.tupleKind_room_in1
abbrev dj:=@PyProof.Rows.assignInOrder_cons
abbrev dk:=@PySem.Obj.data_mapFields
abbrev dm:=@List.zip_cons_cons
abbrev dn:=@List.lookup_append
abbrev dq:=@Bool.false_eq_true
abbrev dr:=@PySem.wpAny_Call_method0_late
abbrev dt:=@PyProof.Rows.boot_tuple
abbrev du:=@PyProof.Rows.boot_dict
abbrev dw:=@List.set_set
abbrev dz:=@List.map_id'
namespace L2
open PySem PySem.Spec PyProof.Rows
abbrev Key:=Sum Int Str
def xX:Key->Value->Bool
 | .inl k,v=>Value.isInt k v
 | .inr x,v=>Value.isStrOf x v
def X1 (w:af):Key->Int
 | .inl k=>hashInt k
 | .inr x=>hashStr w x
def gV:∀ {k:Key} {v:Value},xX k v=true->(∃ i t,k=Sum.inl i/\v=Value.int i t)\/(∃ x t,k=Sum.inr x/\v=Value.str x t)
 | .inl i,v,h=>by
  obtain⟨t,e⟩:=Value.isInt_shape (k:=i) (v:=v) h
  exact .inl ⟨i,t,rfl,e⟩
 | .inr x,v,h=>by
  obtain⟨t,e⟩:=Value.isStrOf_shape (x:=x) (v:=v) h
  exact .inr ⟨x,t,rfl,e⟩
def Ia (i:Int)(t:Tok):xX (.inl i) (.int i t)=true:=by simp[xX,Value.isInt]
def uL (x:Str)(t:Tok):xX (.inr x) (.str x t)=true:=by simp[xX,Value.isStrOf]
def RW (a b:Int):decide ((Sum.inl a:Key)=Sum.inl b)=(a==b):=by
 by_cases e:a=b
 .subst e;simp
 .have h:¬ (Sum.inl a:Key)=Sum.inl b:=fun q=>e (Sum.inl.inj q)
  rw[az h]
  exact(beq_eq_false_iff_ne.mpr e).symm
def RT (a b:Str):decide ((Sum.inr a:Key)=Sum.inr b)=decide (a=b):=by
 by_cases e:a=b
 .subst e;simp
 .have h:¬ (Sum.inr a:Key)=Sum.inr b:=fun q=>e (Sum.inr.inj q)
  rw[az h,az e]
def RV (a:Int)(b:Str):decide ((Sum.inl a:Key)=Sum.inr b)=false:=az (fun q=>nomatch q)
def RU (a:Str)(b:Int):decide ((Sum.inr a:Key)=Sum.inl b)=false:=az (fun q=>nomatch q)
def fK (prog:ae)(w:af):PySem.KeyKind prog w Key where
 is:=xX
 hash:=X1 w
 inj:=fun v a b ha hb=>by
  rcases gV ha with⟨i,t,rfl,rfl⟩ | ⟨x,t,rfl,rfl⟩
  .rcases gV hb with⟨j,u,rfl,e⟩ | ⟨y,u,rfl,e⟩
   .injection e with e1 _;rw[e1]
   .exact nomatch e
  .rcases gV hb with⟨j,u,rfl,e⟩ | ⟨y,u,rfl,e⟩
   .exact nomatch e
   .injection e with e1 _;rw[e1]
 byValue:=fun k v h=>by
  rcases gV h with⟨i,t,rfl,rfl⟩ | ⟨x,t,rfl,rfl⟩<;> rfl
 pyHash:=fun hv h=>by
  rcases gV hv with⟨i,t,rfl,rfl⟩ | ⟨x,t,rfl,rfl⟩
  .exact wpAny_pyHash_int h
  .exact wpAny_pyHash_str h
 eqBool:=fun hu hv h=>by
  rcases gV hu with⟨i,t,rfl,rfl⟩ | ⟨x,t,rfl,rfl⟩
  .rcases gV hv with⟨j,u,rfl,rfl⟩ | ⟨y,u,rfl,rfl⟩
   .rw[RW]at h;exact wpAny_eqBool_int h
   .rw[RV]at h;exact SeqAt.EqAt.int_str i t y u _ _ _ _ h
  .rcases gV hv with⟨j,u,rfl,rfl⟩ | ⟨y,u,rfl,rfl⟩
   .rw[RU]at h;exact SeqAt.EqAt.str_int x t j u _ _ _ _ h
   .rw[RT]at h;exact wpAny_eqBool_str h
 «strs»:=fun k x t v h=>by
  rcases gV h with⟨i,u,rfl,e⟩ | ⟨y,u,rfl,e⟩
  .exact nomatch e
  .injection e with e1 _
   subst e1
   cases v <;> rfl
def CH (prog:ae)(w:af)(i:Int)(t:Tok):(fK prog w).is (.inl i) (.int i t)=true:=Ia i t
def CG (prog:ae)(w:af)(x:Str)(t:Tok):(fK prog w).is (.inr x) (.str x t)=true:=uL x t
inductive V where
 | gy | bl (b:Bool) | int (i:Int) | str (x:Str) | II (b:Array UInt8) | Qk (b:UInt64) | ref (a:ai) | ty (n:String)
 deriving DecidableEq
def fm:V->Value->Prop
 | .gy,u=>u=Value.none
 | .bl b,u=>u=Value.bool b
 | .int i,u=>∃ t,u=Value.int i t
 | .str x,u=>∃ t,u=Value.str x t
 | .II b,u=>∃ t,u=Value.bytes b t
 | .Qk b,u=>∃ t,u=Value.float b t
 | .ref a,u=>u=Value.ref a
 | .ty n,u=>u=Value.type n
abbrev fj:List V->List Value->Prop:=Paired fm
def fj.length {xs:List V}{us:List Value}(r:fj xs us):xs.length=us.length:=Paired.length r
def fj.get:∀ {xs:List V} {us:List Value} {i:Nat} {x:V},fj xs us->xs[i]?=some x->∃ u,us[i]?=some u/\fm x u
 | _,_,_,_,.nil,e=>by simp at e
 | _,_,0,_,.cons r _,e=>by simp at e;subst e;exact⟨_,rfl,r⟩
 | _,_,i+1,x,.cons _ t,e=>by
  obtain⟨u,h1,h2⟩:=fj.get (i:=i) (x:=x) t (by simpa using e)
  exact⟨u,by simpa using h1,h2⟩
def fj.set {x:V}{u:Value}(r:fm x u):∀ {xs:List V} {us:List Value} (i:Nat),fj xs us->fj (xs.set i x) (us.set i u)
 | _,_,_,.nil=>.nil
 | _,_,0,.cons _ t=>.cons r t
 | _,_,i+1,.cons q t=>.cons q (fj.set r i t)
def fj.append {xs ys:List V}{us ws:List Value}(h:fj xs us)(s:fj ys ws):fj (xs++ys) (us++ws):=by
 induction h with
 | nil=>exact s
 | cons r t ih=>exact .cons r ih
def fj.take:∀ {xs:List V} {us:List Value} (n:Nat),fj xs us->fj (xs.take n) (us.take n)
 | _,_,0,_=>.nil
 | _,_,_+1,.nil=>.nil
 | _,_,n+1,.cons r t=>.cons r (fj.take n t)
def fj.drop:∀ {xs:List V} {us:List Value} (n:Nat),fj xs us->fj (xs.drop n) (us.drop n)
 | _,_,0,r=>r
 | _,_,_+1,.nil=>.nil
 | _,_,n+1,.cons _ t=>fj.drop n t
def fj.none_of:∀ {xs:List V} {us:List Value} {i:Nat},fj xs us->xs[i]?=none->us[i]?=none:=fun {xs us i} r e=>by
 have h1:=r.length
 have h2:xs.length<=i:=List.getElem?_eq_none_iff.mp e
 exact List.getElem?_eq_none_iff.mpr (by lia)
def qO:Option V->Option Value->Prop
 | some v,some u=>fm v u
 | none,none=>True
 | _,_=>False
def KV {κ:Type}:List (κ×V)->List (κ×Value)->Prop:=Paired fun(p:κ×V) (q:κ×Value)=>p.1=q.1/\fm p.2 q.2
def kV:Key->V
 | .inl i=>.int i
 | .inr x=>.str x
inductive HO where
 | lst (xs:List V)
 | tup (xs:List V)
 | dK (kvs:List (Key×V)) | dT (kvs:List (List Key×V))
 | set (S:Int->Bool) (n:Nat)
 | ins (C dx:ai) (fs:List (Str×V))
 | own (x:ai)
 | xd (fs:List (Str×V))
 | met (f x:ai)
 | WK (lo hi:Int)
 | mC (o:Obj) (u:HO)
 | Pk (ps:Array Value)
 | ext (φ:Heap->Prop)
abbrev Hp:=ai->Option HO
def upd (H:Hp)(a:ai)(o:HO):Hp:=fun b=>if b=a then some o else H b
def eI {H:Hp}{a:ai}{o:HO}:upd H a o a=some o:=by unfold upd;rw[au rfl]
def eP {H:Hp}{a b:ai}{o:HO}(h:b≠a):upd H a o b=H b:=by unfold upd;rw[aq h]
def UX {H:Hp}{a b:ai}{o u:HO}(h:H a=some o)(h':H b=some u)(d:o≠u):a≠b:=by
 intro e;subst e;rw[h]at h';exact d (aS h')
def fC {H:Hp}{a b:ai}{o:HO}(h:H a=some o)(h':H b=none):a≠b:=by
 intro e;subst e;rw[h]at h';cases h'
section
variable (P:ae)(w:af)
def gh (H:Hp)(h:Heap)(a:ai):HO->Prop
 | .lst xs=>xs.length<=sizeLine/\∃(eW:List Value) (n:Nat),fj xs eW/\h.get? a=some { cls:=.type "list",data:=.seq eW.toArray n}
 | .tup xs=>xs.length<=sizeLine/\∃ eW:List Value,fj xs eW/\IsTup h a eW.toArray
 | .dK kvs=>kvs.length<=sizeLine/\(a==sysModules)=false/\∃ vs,KV kvs vs/\h.DictOf (fK P w) a vs
 | .dT kvs=>kvs.length<=sizeLine/\(a==sysModules)=false/\∃ xs:List (List Key×ai×Value),
  Paired (fun(p:List Key×V) (q:List Key×ai×Value)=>p.1=q.1/\H q.2.1=some (.tup (p.1.map kV))/\fm p.2 q.2.2) kvs xs /\
  ∃ o es ep,h.get? a=some o/\o.ExactDict/\o.data=.dict es ep/\es.toList=xs.map (entryOfKey (tupleKind (fK P w)))/\(xs.map (·.1)).Nodup
 | .set S n=>h.SetOf (intKind P w) a S n
 | .ins C dx fs=>H dx=some (.own a)/\fs.length<=1000/\dx≠a/\h.get? a=some (W.instObj C dx) /\
  ∃ mA,h.Ns1 dx mA/\(∀ f,qO (fs.lookup f) (mA f))/\PySem.Within mA (fs.map (·.1))
 | .own _=>∃ o,h.get? a=some o
 | .xd fs=>∃ mA,h.Ns1 a mA/\∀ f,qO (fs.lookup f) (mA f)
 | .WK lo hi=>∃ t u v,h.get? a=some { cls:=.type "range",data:=.fields #[.int lo t,.int hi u,.int 1 v]}
 | .mC o u=>h.get? a=some o/\gh H h a u
 | .Pk ps=>h.get? a=some { cls:=.none,data:=.fields ps}
 | .met f x=>h.get? a=some (W.methodObj (.ref f) (.ref x))
 | .ext φ=>φ h/\(∃ o,h.get? a=some o)/\∀ h1 h2:Heap,φ h1->(∀ o,h1.get? a=some o->h2.get? a=some o)->φ h2
def o7 (H:Hp)(h:Heap):Prop:=∀ a o,H a=some o->gh P w H h a o
end
section
variable {P:ae}{w:af}{H H':Hp}{h h':Heap}{a:ai}{o:HO}
def gh.lt (x:gh P w H h a o):a<h.objs.size:=by
 cases o with
 | lst xs=>obtain⟨_,_,_,_,e⟩:=x;exact kK e
 | tup xs=>obtain⟨_,_,_,p⟩:=x;exact p.lt
 | dK kvs=>obtain⟨_,_,_,_,o,_,_,e,_⟩:=x;exact kK e
 | dT kvs=>obtain⟨_,_,_,_,o,_,_,e,_⟩:=x;exact kK e
 | set S n=>obtain⟨o,_,_,_,e,_⟩:=x;exact kK e
 | ins C dx fs=>obtain⟨_,_,_,e,_⟩:=x;exact kK e
 | own y=>obtain⟨_,e⟩:=x;exact kK e
 | xd fs=>obtain⟨_,⟨_,_,_,e,_⟩,_⟩:=x;exact kK e
 | WK lo hi=>obtain⟨_,_,_,e⟩:=x;exact kK e
 | mC ob u=>obtain⟨e,_⟩:=x;exact kK e
 | Pk ps=>exact kK (show h.get? a=some _ from x)
 | met f y=>exact kK (show h.get? a=some _ from x)
 | ext φ=>obtain⟨_,⟨_,e⟩,_⟩:=x;exact kK e
def Paired.UZ {α β:Type}{F G:α->β->Prop}{l₁:List α}{l₂:List β}(h:Paired F l₁ l₂)(f:∀ a b,F a b->G a b):Paired G l₁ l₂:=by
 induction h with
 | nil=>exact .nil
 | cons r t ih=>exact .cons (f _ _ r) ih
def gh.xj (x:gh P w H h a o)(k:∀ b u,(b=a\/H b=some (.own a))->h.get? b=some u->h'.get? b=some u)
 (ho:∀ b,H b=some (.own a)->H' b=some (.own a)) (ht:∀ b xs,H b=some (.tup xs)->H' b=some (.tup xs)):gh P w H' h' a o:=by
 induction o with
 | lst xs=>obtain⟨z,eW,n,r,e⟩:=x;exact⟨z,eW,n,r,k _ _ (.inl rfl) e⟩
 | tup xs=>obtain⟨z,eW,r,ob,e,c⟩:=x;exact⟨z,eW,r,ob,k _ _ (.inl rfl) e,c⟩
 | dK kvs=>obtain⟨z,y,vs,r,ob,es,ep,e,c⟩:=x;exact⟨z,y,vs,r,ob,es,ep,k _ _ (.inl rfl) e,c⟩
 | dT kvs =>
  obtain⟨z,y,xs,r,ob,es,ep,e,c⟩:=x
  exact⟨z,y,xs,Paired.UZ r fun p q z=>⟨z.1,ht _ _ z.2.1,z.2.2⟩,ob,es,ep,k _ _ (.inl rfl) e,c⟩
 | set S n=>obtain⟨ob,es,ep,t,e,c⟩:=x;exact⟨ob,es,ep,t,k _ _ (.inl rfl) e,c⟩
 | ins C dx fs =>
  obtain⟨d,z,ne,e,mA,⟨od,es,ep,e2,c⟩,r⟩:=x
  exact⟨ho _ d,z,ne,k _ _ (.inl rfl) e,mA,⟨od,es,ep,k _ _ (.inr d) e2,c⟩,r⟩
 | own y=>obtain⟨ob,e⟩:=x;exact⟨ob,k _ _ (.inl rfl) e⟩
 | xd fs=>obtain⟨mA,⟨od,es,ep,e,c⟩,r⟩:=x;exact⟨mA,⟨od,es,ep,k _ _ (.inl rfl) e,c⟩,r⟩
 | WK lo hi=>obtain⟨t,u,v,e⟩:=x;exact⟨t,u,v,k _ _ (.inl rfl) e⟩
 | mC ob u ih=>obtain⟨e,q⟩:=x;exact⟨k _ _ (.inl rfl) e,ih q⟩
 | Pk ps =>
  have e:h.get? a=some { cls:=.none,data:=.fields ps}:=x
  show h'.get? a=some { cls:=.none,data:=.fields ps}
  exact k a _ (.inl rfl) e
 | met f y =>
  have e:h.get? a=some (W.methodObj (.ref f) (.ref y)):=x
  show h'.get? a=some (W.methodObj (.ref f) (.ref y))
  exact k a _ (.inl rfl) e
 | ext φ=>obtain⟨p,⟨o,e⟩,st⟩:=x;exact⟨st _ _ p fun o q=>k _ _ (.inl rfl) q,⟨o,k _ _ (.inl rfl) e⟩,st⟩
def o7.lt (x:o7 P w H h)(e:H a=some o):a<h.objs.size:=(x a o e).lt
def o7.fresh (x:o7 P w H h)(e:h.objs.size<=a):H a=none:=by
 cases q:H a with
 | none=>rfl
 | some u=>exact absurd (aA (x.lt q) e) (bB _)
def o7.dE (x:o7 P w H h)(k:∀ b u,h.get? b=some u->h'.get? b=some u):o7 P w H h':=fun a o e =>
 (x a o e).xj (fun b u _ q=>k b u q) (fun _ q=>q) fun _ _ q=>q
def o7.laid (x:o7 P w H h)(k:∀ b u,h.get? b=some u->h'.get? b=some u)(hp:h.objs.size<=a)(new:gh P w (upd H a o) h' a o):o7 P w (upd H a o) h':=fun b u e=>by
 have hn:=x.fresh hp
 by_cases hb:b=a
 .subst hb;rw[eI]at e;cases e;exact new
 .rw[eP hb]at e
  exact(x b u e).xj (fun c v _ q=>k c v q) (fun c q=>by rw[eP (fC q hn)];exact q) fun c xs q=>by rw[eP (fC q hn)];exact q
end
def Rd (H:Hp)(a:ai)(u:HO):Prop:=H a=some u\/∃ o,H a=some (.mC o u)
def Rd.ok {P:ae}{w:af}{H:Hp}{h:Heap}{a:ai}{u:HO}(r:Rd H a u)(x:o7 P w H h):gh P w H h a u:=by
 rcases r with r | ⟨o,r⟩
 .exact x a u r
 .obtain⟨_,q⟩:=x a _ r
  exact q
def Wo:Option HO->Prop
 | some (.lst _)=>True
 | some (.dK _)=>True
 | some (.dT _)=>True
 | some (.set _ _)=>True
 | some (.ins _ _ _)=>True
 | some (.ext _)=>True
 | _=>False
section
variable {P:ae}{w:af}{H:Hp}{h h':Heap}{x e:ai}{o':HO}
def o7.write (ok:o7 P w H h)(mu:Wo (H x))(he:e=x\/H e=some (.own x))(k:∀ b u,b≠e->h.get? b=some u->h'.get? b=some u)(TX:∃ u,h'.get? e=some u)
 (new:gh P w (upd H x o') h' x o'):o7 P w (upd H x o') h':=fun b u q=>by
 have UU:∀ c y,H c=some (.own y)->c≠x:=fun c y r z=>by subst z;rw[r]at mu;exact mu
 have XM:∀ c xs,H c=some (.tup xs)->c≠x:=fun c xs r z=>by subst z;rw[r]at mu;exact mu
 by_cases hb:b=x
 .subst hb;rw[eI]at q;cases q;exact new
 .rw[eP hb]at q
  by_cases Sn:b=e
  .have q':H b=some (.own x):=by
    rcases he with z | z
    .exact absurd (Sn.trans z) hb
    .rw[Sn];exact z
   rw[q]at q';cases q'
   obtain⟨v,hv⟩:=TX
   exact⟨v,by rw[Sn];exact hv⟩
  .refine(ok b u q).xj (fun c v hc r=>k c v ?_ r) (fun c r=>by rw[eP (UU c b r)];exact r) fun c xs r=>by rw[eP (XM c xs r)];exact r
   rcases hc with rfl | hc
   .exact Sn
   .rintro rfl
    rcases he with z | z
    .exact UU c b hc z
    .rw[hc]at z;cases z;exact hb rfl
end
structure Un (fs ex:List ai)(H H':Hp)(h h':Heap):Prop where
 keep:∀ b o,h.get? b=some o->H b=none->b∉fs->b∉ex->h'.get? b=some o
 slot:∀ b o,h.get? b=some o->H b=none->b∈fs->b∉ex->∃ sl,h'.get? b=some { o with slots:=sl}
 free:∀ b o,h.get? b=some o->H b=none->b∉ex->H' b=none
 there:∀ b o,h.get? b=some o->b∉ex->∃ o',h'.get? b=some o'
 pW:∀ b xs,H b=some (.tup xs)->H' b=some (.tup xs)
 pG:∀ b o u,H b=some (.mC o u)->H' b=some (.mC o u)
 p4:∀ b ps,H b=some (.Pk ps)->∃ more,H' b=some (.Pk (ps++more))
section
variable {fs IU ex ex':List ai}{H H1 H2:Hp}{h h1 h2 h':Heap}{a x e:ai}{o:HO}
def Un.any (u:Un fs ex H H1 h h1){b:ai}{ob:Obj}(q:h.get? b=some ob)(n:H b=none)(hx:b∉ex):∃ sl,h1.get? b=some { ob with slots:=sl}:=by
 by_cases hb:b∈fs
 .exact u.slot b ob q n hb hx
 .exact⟨ob.slots,u.keep b ob q n hb hx⟩
def Un.trans (a:Un fs ex H H1 h h1)(b:Un fs ex H1 H2 h1 h2):Un fs ex H H2 h h2 where
 keep:=fun c ob q n hc hx=>b.keep c ob (a.keep c ob q n hc hx) (a.free c ob q n hx) hc hx
 slot:=fun c ob q n hc hx=>by
  obtain⟨sl,e1⟩:=a.slot c ob q n hc hx
  obtain⟨QZ,e2⟩:=b.slot c _ e1 (a.free c ob q n hx) hc hx
  exact⟨QZ,e2⟩
 free:=fun c ob q n hx=>by
  obtain⟨o',e1⟩:=a.there c ob q hx
  exact b.free c o' e1 (a.free c ob q n hx) hx
 there:=fun c ob q hx=>by
  obtain⟨o',e1⟩:=a.there c ob q hx
  exact b.there c o' e1 hx
 pW:=fun c xs q=>b.pW c xs (a.pW c xs q)
 pG:=fun c ob xs q=>b.pG c ob xs (a.pG c ob xs q)
 p4:=fun c ps q=>by
  obtain⟨m1,e1⟩:=a.p4 c ps q
  obtain⟨m2,e2⟩:=b.p4 c _ e1
  exact⟨m1++m2,by rw[e2,Array.append_assoc]⟩
def Un.dE (k:∀ b u,h.get? b=some u->h'.get? b=some u):Un fs ex H H h h' :=
 ⟨fun b ob q _ _ _=>k b ob q,fun b ob q _ _ _=>⟨ob.slots,k b ob q⟩,fun _ _ _ n _=>n,fun b ob q _=>⟨ob,k b ob q⟩,fun _ _ q=>q,fun _ _ _ q=>q,fun _ ps q=>⟨#[],by rw[q];simp⟩⟩
def Un.refl:Un fs ex H H h h:=Un.dE fun _ _ q=>q
def Un.laid (k:∀ b u,h.get? b=some u->h'.get? b=some u)(hp:h.objs.size<=a)(hn:H a=none):Un fs ex H (upd H a o) h h' where
 keep:=fun b u q _ _ _=>k b u q
 slot:=fun b u q _ _ _=>⟨u.slots,k b u q⟩
 free:=fun b u q n _=>by rw[eP (aL (aA (kK q) hp))];exact n
 there:=fun b u q _=>⟨u,k b u q⟩
 pW:=fun b xs q=>by rw[eP (fC q hn)];exact q
 pG:=fun b u xs q=>by rw[eP (fC q hn)];exact q
 p4:=fun b ps q=>⟨#[],by rw[eP (fC q hn),q];simp⟩
def Un.write (mu:Wo (H x))(he:e=x\/H e=some (.own x))(k:∀ b u,b≠e->h.get? b=some u->h'.get? b=some u)(TX:∃ u,h'.get? e=some u):Un fs ex H (upd H x o) h h':=by
 have hx:∀ b,H b=none->b≠x:=fun b n z=>by subst z;rw[n]at mu;exact mu
 have hb:∀ b,H b=none->b≠e:=fun b n z=>by
  subst z
  rcases he with r | r
  .exact hx b n r
  .rw[n]at r;cases r
 have hm:∀ b u,H b=some u->¬ Wo (some u)->b≠x:=fun b u q nm z=>by subst z;rw[q]at mu;exact nm mu
 refine⟨fun b u q n _ _=>k b u (hb b n) q,fun b u q n _ _=>⟨u.slots,k b u (hb b n) q⟩,fun b u q n _=>by rw[eP (hx b n)];exact n,fun b u q _=>?_,
  fun b xs q=>by rw[eP (hm b _ q fun z=>z)];exact q,fun b u xs q=>by rw[eP (hm b _ q fun z=>z)];exact q,fun b ps q=>⟨#[],by rw[eP (hm b _ q fun z=>z),q];simp⟩⟩
 by_cases Sn:b=e
 .subst Sn;exact TX
 .exact⟨u,k b u Sn q⟩
def Un.mono (u:Un fs ex H H1 h h1)(hs:∀ b∈fs,b∈IU)(hx:∀ b∈ex,b∈ex'):Un IU ex' H H1 h h1 :=
 ⟨fun b ob q n hb he=>u.keep b ob q n (fun z=>hb (hs b z)) fun z=>he (hx b z),fun _ _ q n _ he=>u.any q n fun z=>he (hx _ z),fun b ob q n he=>u.free b ob q n fun z=>he (hx b z),fun b ob q he=>u.there b ob q fun z=>he (hx b z),u.pW,u.pG,u.p4⟩
end
def Wy (h:Heap)(H:Hp):List ai:=(List.range h.objs.size).filter fun a=>(H a).isSome
def A0 (h:Heap)(H:Hp):Heap:=W.hideAll h (Wy h H)
def Ip (h:Heap)(H:Hp):(A0 h H).objs.size=h.objs.size:=W.hideAll_size _ _
def KZ {h:Heap}{H:Hp}{b:ai}{o:Obj}(e:h.get? b=some o)(n:H b=none):(A0 h H).get? b=some o :=
 W.hideAll_get _ e fun hm=>by
  have q:(H b).isSome=true:=(List.mem_filter.mp hm).2
  rw[n]at q;simp at q
def N3 {h:Heap}{H:Hp}{b:ai}{o:Obj}(e:(A0 h H).get? b=some o):h.get? b=some o/\H b=none:=by
 have e':h.get? b=some o:=W.of_hideAll (Wy h H) e
 refine⟨e',?_⟩
 cases q:H b with
 | none=>rfl
 | some x =>
  have hm:b∈Wy h H:=List.mem_filter.mpr ⟨List.mem_range.mpr (kK e'),by simp[q]⟩
  have z:(A0 h H).get? b=none:=W.hideAll_none (Wy h H) hm
  rw[z]at e;cases e
def O1 (g h:Heap)(L:ai):List (ai×Obj):=(List.range h.objs.size).filterMap fun a=>if a=L\/(g.get? a).isSome=true then none else(h.get? a).map fun o=>(a,o)
def rest (g h:Heap)(L d:ai):List (ai×Obj):=(O1 g h L).filter fun p=>decide (p.1≠d)
structure Mod (K:aa)(mg:Str->Option Value)(dD:Heap):Prop where
 PZ:K.In dD
 glob:dD.Ns mainGlobals mg
 blt:∃ mb,dD.Ns builtinsNs mb/\∀ x:Str,x ≠ "__name__"->mb x=bootBuiltins x
 nolimit:dD.NoLimit
structure Cx where
 prog:ae
 w:af
 K:aa
 mg:Str->Option Value
 dD:Heap
 A:Around
 N:List Str
 s₀:ah
 H₀:Hp
 env:Env
 dW:List Env
 stack:List Env
 ex:List ai
 fn:Str->Bool
 gg:Bool
 pn:List (ai×Obj)
 xe:Value->ah->Prop
def ze (l:List Env):List ai:=l.filterMap (·.frame)
abbrev Cx.fs (X:Cx):List ai:=ze X.dW
def Tb (sc:Scope)(x:Str):Prop:=sc.names.lookup x=some .local\/sc.names.lookup x=some .cell\/sc.names.lookup x=some .free
def Loc (sc:Scope)(x:Str):Prop:=sc.names.lookup x=some .local\/sc.names.lookup x=some .cell
def Look (env:Env)(h:Heap)(m:Str->Option Value)(x:Str)(u:Value):Prop :=
 (env.kindOf x=some .local/\m x=some u)\/((env.kindOf x=some .cell\/env.kindOf x=some .free)/\∃ c,env.cells.lookup x=some c/\h.IsCell c (some u))
structure Cx.Ok (X:Cx):Prop where
 mod:Mod X.K X.mg X.dD
 kind:X.env.scope.kind=.function
 glob:X.env.globals=mainGlobals
 blt:X.env.builtins=builtinsNs
 above:X.s₀.heap.objs.size<=X.env.locals
 inj:∀ x y c,X.env.cells.lookup x=some c->X.env.cells.lookup y=some c->x=y
 has:∀ x,(X.env.kindOf x=some .cell\/X.env.kindOf x=some .free)->∃ c,X.env.cells.lookup x=some c
 SV:∀ x c,X.fn x=true->X.env.cells.lookup x=some c->X.s₀.heap.objs.size<=c
 hd:X.gg=true->X.A.handled=none
 frames:X.A.frames=some X.stack
 TL:X.stack=X.dW\/(X.stack=X.env::X.dW/\X.env.frame=some X.env.locals)
 Qn:∀ b∈X.ex,b≠X.env.locals/\∀ x c,X.env.cells.lookup x=some c->c≠b
 bs:∀ b o,X.dD.get? b=some o->X.s₀.heap.get? b=some o/\X.H₀ b=none
 Fj:X.dD.objs.size<=X.s₀.heap.objs.size
 CA:∀ b o,X.dD.get? b=some o->b∉X.ex
 Du:∀ b∈X.ex,b∉X.fs
 rH:X.s₀.heap.FunFrames X.dD X.dW
 MK:∀ b∈X.fs,X.H₀ b=none
structure Inv (X:Cx)(dA:List (ai×Obj))(σ:List (Option V))(H:Hp)(s:ah):Prop where
 ok:X.Ok
 os:s.os=X.s₀.os
 bare:AllBare s.gens
 dD:Un X.fs X.ex X.H₀ H X.s₀.heap s.heap
 loc:∃ m,s.heap.Ns X.env.locals m/\∀(i:Nat) (x:Str) (v:V),X.N[i]?=some x->σ[i]?=some (some v)->Tb X.env.scope x->∃ u,fm v u/\Look X.env s.heap m x u
 cell:∀ x c,X.env.cells.lookup x=some c->∃ v,s.heap.IsCell c v
 free:H X.env.locals=none
 kO:∀ x c,X.env.cells.lookup x=some c->H c=none
 pin:∀ p∈X.pn++dA,s.heap.get? p.1=some p.2/\H p.1=none/\p.1≠X.env.locals/\p.1∉X.fs/\∀ v,p.2.data≠.cell v
 fc:o7 X.prog X.w H s.heap
 len:σ.length=X.N.length
section
variable {X:Cx}{dA:List (ai×Obj)}{σ:List (Option V)}{H H':Hp}{s:ah}{h':Heap}
def Cx.Ok.XS (ok:X.Ok){b:ai}{o:Obj}(e:X.dD.get? b=some o):b∉X.fs:=fun hb=>by
 have:=(ok.rH.mem hb).1
 rw[e]at this;cases this
def Inv.bs (I:Inv X dA σ H s):∀ b o,X.dD.get? b=some o->s.heap.get? b=some o/\H b=none:=fun b o e =>
 ⟨I.dD.keep b o (I.ok.bs b o e).1 (I.ok.bs b o e).2 (I.ok.XS e) (I.ok.CA b o e),I.dD.free b o (I.ok.bs b o e).1 (I.ok.bs b o e).2 (I.ok.CA b o e)⟩
def Inv.bk (I:Inv X dA σ H s):∀ b o,X.dD.get? b=some o->s.heap.get? b=some o:=fun b o e=>(I.bs b o e).1
def Inv.mod (I:Inv X dA σ H s):Mod X.K X.mg X.dD:=I.ok.mod
def Inv.rN (I:Inv X dA σ H s):X.K.In s.heap:=I.ok.mod.PZ.keeps I.bk
def Inv.fr (I:Inv X dA σ H s):∃ m,Fr X.dD X.env.locals s.heap m :=
 let ⟨m,hn,_⟩:=I.loc
 ⟨m,hn,I.bk,aE I.ok.Fj I.ok.above⟩
def Inv.lt (I:Inv X dA σ H s):X.env.locals<s.heap.objs.size:=let ⟨_,hn,_⟩:=I.loc;hn.lt
def Inv.sz (I:Inv X dA σ H s):X.s₀.heap.objs.size<=s.heap.objs.size:=aE I.ok.above (Nat.le_of_lt I.lt)
def Inv.XR (I:Inv X dA σ H s){a:ai}(h:s.heap.objs.size<=a):a∉X.fs:=fun hb=>by
 obtain⟨_,o,ho,_⟩:=I.ok.rH.mem hb
 exact absurd (aA (kK ho) (aE I.sz h)) (bB _)
def Inv.Qy (I:Inv X dA σ H s):∀ x c,X.env.cells.lookup x=some c->c≠X.env.locals:=fun x c e z=>by
 obtain⟨v,o,ho,hd⟩:=I.cell x c e
 obtain⟨m,⟨o',es,ep,x6,K3,_⟩,_⟩:=I.loc
 rw[z,x6]at ho;cases ho;rw[K3]at hd;cases hd
def Inv.rH (I:Inv X dA σ H s):s.heap.FunFrames X.dD X.dW:=by
 have all:∀(l:List Env),(∀ b∈ze l,b∈X.fs)->X.s₀.heap.FunFrames X.dD l->s.heap.FunFrames X.dD l:=by
  intro l
  induction l with
  | nil=>intro _ _;trivial
  | cons env r ih =>
   intro hs hl
   obtain⟨hk,⟨L,o,hf,hn,ho,hd⟩,hr⟩:=hl
   have hL:L∈X.fs:=hs L (by unfold ze;rw[bS,hf];exact aH)
   obtain⟨sl,e⟩:=I.dD.slot L o ho (I.ok.MK L hL) hL fun z=>I.ok.Du L z hL
   exact⟨hk,⟨L,_,hf,hn,e,hd⟩,ih (fun b hb=>hs b (by unfold ze;rw[bS,hf];exact oO _ hb)) hr⟩
 exact all X.dW (fun _ hb=>hb) I.ok.rH
def Inv.stack (I:Inv X dA σ H s):s.heap.FunFrames X.dD X.stack:=by
 rcases I.ok.TL with e | ⟨e,hf⟩
 .rw[e];exact I.rH
 .rw[e]
  obtain⟨m,hn,_⟩:=I.loc
  refine .cons (by rw[I.ok.kind];decide) hf hn ?_ I.rH
  exact Heap.get?_none_of_le (aE I.ok.Fj I.ok.above)
def Inv.xi (I:Inv X dA σ H s):∀ b∈ze X.stack,b∈X.env.locals::X.fs:=fun b hb=>by
 rcases I.ok.TL with e | ⟨e,hf⟩
 .rw[e]at hb;exact oO _ hb
 .rw[e]at hb
  unfold ze at hb
  rw[bS,hf]at hb
  exact hb
def Inv.qX (I:Inv X dA σ H s):∀ b∈ze X.stack,H b=none:=fun b hb=>by
 rcases List.mem_cons.mp (I.xi b hb)with e | hb
 .rw[e];exact I.free
 .obtain⟨_,o,ho,_⟩:=I.ok.rH.mem hb
  exact I.dD.free b o ho (I.ok.MK b hb) fun z=>I.ok.Du b z hb
def Inv.step {g':Array GenState}{t':Nat}{d':Drawn}{ch:List ai}(I:Inv X dA σ H s)
 (MF:∀ b∈ch,(b∈X.ex\/X.s₀.heap.objs.size<=b)/\b≠X.env.locals/\(∀ x c,X.env.cells.lookup x=some c->c≠b)/\∀ p∈X.pn++dA,p.1≠b)
 (keep:∀ b o,b≠X.env.locals->b∉X.fs->b∉ch->s.heap.get? b=some o->H b=none->h'.get? b=some o)
 (slot:∀ b o,b≠X.env.locals->b∈X.fs->b∉ch->s.heap.get? b=some o->H b=none->∃ sl,h'.get? b=some { o with slots:=sl}) (free:∀ b o,b∉ch->s.heap.get? b=some o->H b=none->H' b=none)
 (there:∀ b o,b∉ch->s.heap.get? b=some o->∃ o',h'.get? b=some o')
 (pW:∀ b xs,H b=some (.tup xs)->H' b=some (.tup xs)) (pG:∀ b o u,H b=some (.mC o u)->H' b=some (.mC o u)) (p4:∀ b ps,H b=some (.Pk ps)->∃ more,H' b=some (.Pk (ps++more)))
 (ns:∀ m,s.heap.Ns X.env.locals m->h'.Ns X.env.locals m) (fc:o7 X.prog X.w H' h') (hg:AllBare g') :
 Inv X dA σ H' { s with heap:=h',gens:=g',drawn:=d',toks:=t'}:=by
 have neL:∀ b o,X.s₀.heap.get? b=some o->b≠X.env.locals:=fun b o e=>aL (aA (kK e) I.ok.above)
 have BP:∀ b o,X.s₀.heap.get? b=some o->b∉X.ex->b∉ch:=fun b o e hx hb=>by
  rcases(MF b hb).1 with z | z
  .exact hx z
  .exact absurd (aA (kK e) z) (bB _)
 have cellK:∀ x c,X.env.cells.lookup x=some c->∀ v,s.heap.IsCell c v->h'.IsCell c v:=fun x c e v ⟨o,ho,hd⟩=>by
  have UY:c∉ch:=fun z=>(MF c z).2.2.1 x c e rfl
  by_cases hc:c∈X.fs
  .obtain⟨sl,q⟩:=slot c o (I.Qy x c e) hc UY ho (I.kO x c e)
   exact⟨_,q,hd⟩
  .exact⟨o,keep c o (I.Qy x c e) hc UY ho (I.kO x c e),hd⟩
 refine⟨I.ok,I.os,hg,⟨fun b o e n hb hx=>?_,fun b o e n hb hx=>?_,fun b o e n hx=>?_,fun b o e hx=>?_,fun b xs e=>pW b xs (I.dD.pW b xs e),fun b o xs e=>pG b o xs (I.dD.pG b o xs e),fun b ps e=>?_⟩,?_,fun x c e=>?_,?_,fun x c e=>?_,fun p hp=>?_,fc,I.len⟩
 .exact keep b o (neL b o e) hb (BP b o e hx) (I.dD.keep b o e n hb hx) (I.dD.free b o e n hx)
 .obtain⟨sl,e1⟩:=I.dD.slot b o e n hb hx
  obtain⟨QZ,e2⟩:=slot b _ (neL b o e) hb (BP b o e hx) e1 (I.dD.free b o e n hx)
  exact⟨QZ,e2⟩
 .obtain⟨o',e1⟩:=I.dD.there b o e hx
  exact free b o' (BP b o e hx) e1 (I.dD.free b o e n hx)
 .obtain⟨o',e1⟩:=I.dD.there b o e hx
  exact there b o' (BP b o e hx) e1
 .obtain⟨m1,e1⟩:=I.dD.p4 b ps e
  obtain⟨m2,e2⟩:=p4 b _ e1
  exact⟨m1++m2,by rw[e2,Array.append_assoc]⟩
 .obtain⟨m,hn,hl⟩:=I.loc
  refine⟨m,ns m hn,fun i x v e1 e2 e3=>?_⟩
  obtain⟨u,r,l⟩:=hl i x v e1 e2 e3
  refine⟨u,r,?_⟩
  rcases l with l | ⟨k,c,e,z⟩
  .exact .inl l
  .exact .inr ⟨k,c,e,cellK x c e _ z⟩
 .obtain⟨v,z⟩:=I.cell x c e
  exact⟨v,cellK x c e v z⟩
 .obtain⟨m,⟨o,_,_,ho,_⟩,_⟩:=I.loc
  exact free _ o (fun z=>(MF _ z).2.1 rfl) ho I.free
 .obtain⟨v,o,ho,hd⟩:=I.cell x c e
  exact free c o (fun z=>(MF c z).2.2.1 x c e rfl) ho (I.kO x c e)
 .obtain⟨e,n,ne,nf,d⟩:=I.pin p hp
  have UY:p.1∉ch:=fun z=>(MF p.1 z).2.2.2 p hp rfl
  exact⟨keep p.1 p.2 ne nf UY e n,free p.1 p.2 UY e n,ne,nf,d⟩
def Inv.un {t':Nat}(I:Inv X dA σ H s)(u:Un X.fs [] H H' s.heap h')(fc:o7 X.prog X.w H' h'):Inv X dA σ H' { s with heap:=h',toks:=t'}:=by
 obtain⟨m,⟨o,es,ep,ho,r⟩,_⟩:=id I.loc
 obtain⟨sl,hL⟩:=u.any ho I.free (by simp)
 exact I.step (g':=s.gens) (d':=s.drawn) (ch:=[]) (fun _ z=>nomatch z) (fun b o _ hb _ e n=>u.keep b o e n hb (by simp)) (fun b o _ hb _ e n=>u.slot b o e n hb (by simp)) (fun b o _ e n=>u.free b o e n (by simp)) (fun b o _ e=>u.there b o e (by simp)) u.pW u.pG u.p4 (fun m' hm=>by
  obtain⟨o',wO,YL,x6,r'⟩:=hm
  rw[ho]at x6;cases x6
  exact⟨_,wO,YL,hL,r'⟩) fc I.bare
def Inv.call {g':Array GenState}{t':Nat}{d':Drawn}{ch:List ai}(I:Inv X dA σ H s)(u:Un (ze X.stack) ch H H' s.heap h')(fc:o7 X.prog X.w H' h')(hg:AllBare g')
 (MF:∀ b∈ch,(b∈X.ex\/X.s₀.heap.objs.size<=b)/\b≠X.env.locals/\(∀ x c,X.env.cells.lookup x=some c->c≠b)/\∀ p∈X.pn++dA,p.1≠b) :
 Inv X dA σ H' { s with heap:=h',gens:=g',drawn:=d',toks:=t'}:=by
 obtain⟨m,⟨o,es,ep,ho,r⟩,_⟩:=id I.loc
 obtain⟨sl,hL⟩:=u.any ho I.free fun z=>(MF _ z).2.1 rfl
 exact I.step (ch:=ch) MF (fun b o hL hb hc e n=>u.keep b o e n (fun z=>(List.mem_cons.mp (I.xi b z)).elim hL hb) hc) (fun b o _ _ hc e n=>u.any e n hc) (fun b o hc e n=>u.free b o e n hc) (fun b o hc e=>u.there b o e hc) u.pW u.pG u.p4 (fun m' hm=>by
  obtain⟨o',wO,YL,x6,r'⟩:=hm
  rw[ho]at x6;cases x6
  exact⟨_,wO,YL,hL,r'⟩) fc hg
def Inv.turned {t':Nat}{it:ai}(I:Inv X dA σ H s)(k:∀ b o,b≠it->s.heap.get? b=some o->h'.get? b=some o)(hn:H it=none)(hL:it≠X.env.locals)
 (h1:it∈X.ex\/X.s₀.heap.objs.size<=it) (h2:∀ x c,X.env.cells.lookup x=some c->c≠it) (h3:∀ p∈X.pn++dA,p.1≠it):Inv X dA σ H { s with heap:=h',toks:=t'}:=by
 have nit:∀ b u,H b=some u->b≠it:=fun b u e z=>by rw[z,hn]at e;cases e
 refine I.step (g':=s.gens) (d':=s.drawn) (ch:=[it]) (fun b hb=>?_) (fun b o _ _ hc e _=>k b o (fun z=>hc (by simp[z])) e) (fun b o _ _ hc e _=>⟨o.slots,k b o (fun z=>hc (by simp[z])) e⟩) (fun _ _ _ _ n=>n)
  (fun b o hc e=>⟨o,k b o (fun z=>hc (by simp[z])) e⟩) (fun _ _ e=>e) (fun _ _ _ e=>e) (fun b ps e=>⟨#[],by rw[e];simp⟩) (fun m hm=>?_) (fun b u e=>?_) I.bare
 .have e:b=it:=by simpa using hb
  subst e
  exact⟨h1,hL,h2,h3⟩
 .obtain⟨o,es,ep,ho,r⟩:=hm
  exact⟨o,es,ep,k _ o (bj hL) ho,r⟩
 .refine(I.fc b u e).xj (fun c v hc q=>k c v ?_ q) (fun _ q=>q) fun _ _ q=>q
  rcases hc with z | z
  .rw[z];exact nit b u e
  .exact nit c _ z
def Inv.tok (I:Inv X dA σ H s)(t:Nat):Inv X dA σ H { s with toks:=t}:=I.un (h':=s.heap) (t':=t) Un.refl I.fc
def Inv.dE {t':Nat}(I:Inv X dA σ H s)(k:∀ b u,s.heap.get? b=some u->h'.get? b=some u):Inv X dA σ H { s with heap:=h',toks:=t'}:=I.un (Un.dE k) (I.fc.dE k)
def Inv.laid {a:ai}{o:HO}{t':Nat}(I:Inv X dA σ H s)(k:∀ b u,s.heap.get? b=some u->h'.get? b=some u)(hp:s.heap.objs.size<=a)(new:gh X.prog X.w (upd H a o) h' a o) :
 Inv X dA σ (upd H a o) { s with heap:=h',toks:=t'}:=I.un (Un.laid k hp (I.fc.fresh hp)) (I.fc.laid k hp new)
def Inv.write {x e:ai}{o:HO}{t':Nat}(I:Inv X dA σ H s)(mu:Wo (H x))(he:e=x\/H e=some (.own x))(k:∀ b u,b≠e->s.heap.get? b=some u->h'.get? b=some u)(TX:∃ u,h'.get? e=some u)
 (new:gh X.prog X.w (upd H x o) h' x o):Inv X dA σ (upd H x o) { s with heap:=h',toks:=t'}:=I.un (Un.write mu he k TX) (I.fc.write mu he k TX new)
def Inv.weak {gH:List (Option V)}(I:Inv X dA σ H s)(hl:gH.length=σ.length)(w:∀(i:Nat) v,gH[i]?=some (some v)->σ[i]?=some (some v)):Inv X dA gH H s :=
 ⟨I.ok,I.os,I.bare,I.dD,let ⟨m,hn,ME⟩:=I.loc;⟨m,hn,fun i x v e1 e2 e3=>ME i x v e1 (w i v e2) e3⟩,I.cell,I.free,I.kO,I.pin,I.fc,hl.trans I.len⟩
def Inv.oF {pins':List (ai×Obj)}(I:Inv X dA σ H s)(h:∀ p∈pins',s.heap.get? p.1=some p.2/\H p.1=none/\p.1≠X.env.locals/\p.1∉X.fs/\∀ v,p.2.data≠.cell v):Inv X pins' σ H s :=
 ⟨I.ok,I.os,I.bare,I.dD,I.loc,I.cell,I.free,I.kO,fun p hp=>(List.mem_append.mp hp).elim (fun z=>I.pin p (bZ _ z)) (h p),I.fc,I.len⟩
def CB {N:List Str}(hN:N.Nodup){i j:Nat}{x:Str}(a:N[i]?=some x)(b:N[j]?=some x):i=j:=by
 obtain⟨h1,e1⟩:=l8 a
 obtain⟨h2,e2⟩:=l8 b
 exact(List.getElem_inj hN).mp (e1.trans e2.symm)
def zr {M:Model}{A:Around}{E:Value->ah->Prop}{i:Nat}{x:Str}{v:V}{u:Value}{Q:Unit->ah->Prop}(I:Inv X dA σ H s)(hN:X.N.Nodup)(hi:X.N[i]?=some x)(hx:Loc X.env.scope x)(r:fm v u)
 (h:∀ s',Inv X dA (σ.set i (some v)) H s'->(∃ a,Heap.SameBut a s.heap s'.heap/\(a=X.env.locals\/X.env.cells.lookup x=some a))->Q () s') (hf:X.fn x=true\/X.env.scope.names.lookup x=some .local:=by first | exact .inl rfl | exact .inr rfl | assumption):wpAny M A (storeName X.env x u) Q E s:=by
 obtain⟨m,hn,hl⟩:=id I.loc
 have Sm:(X.env.scope.kind==.class||(X.env.scope.kind==.module&&X.env.locals != X.env.globals))=false:=by rw[I.ok.kind];rfl
 have Vn:i<σ.length:=by rw[I.len];exact(l8 hi).1
 have Qy:=I.Qy
 have tracked:∀ {a:ai} {h':Heap},(∃ o,s.heap.get? a=some o/\H a=none)->Heap.SameBut a s.heap h'->o7 X.prog X.w H h':=fun {a h'} ha hs b ob e=>by
  obtain⟨_,_,Qe⟩:=ha
  refine(I.fc b ob e).xj (fun c w' hc q=>(hs.2 c ?_).trans q) (fun _ q=>q) fun _ _ q=>q
  rintro rfl
  rcases hc with rfl | hc
  .rw[Qe]at e;cases e
  .rw[Qe]at hc;cases hc
 rcases hx with hk | hk
 .refine wpAny_storeName_local hk hn (fun h' hn' hs=>?_) Sm
  obtain⟨oL,_,_,hoL,_⟩:=id hn
  refine h _ ⟨I.ok,I.os,I.bare,⟨fun b o e n hb hx=>?_,fun b o e n hb hx=>?_,I.dD.free,fun b o e hx=>?_,I.dD.pW,I.dD.pG,I.dD.p4⟩,⟨_,hn',fun j y v' e1 e2 e3=>?_⟩,fun y c e=>?_,I.free,I.kO,fun p hp=>?_,tracked ⟨oL,hoL,I.free⟩ hs,by simpa using I.len⟩ ⟨_,hs,.inl rfl⟩
  .exact(hs.2 b (aL (aA (kK e) I.ok.above))).trans (I.dD.keep b o e n hb hx)
  .obtain⟨sl,e1⟩:=I.dD.slot b o e n hb hx
   exact⟨sl,(hs.2 b (aL (aA (kK e) I.ok.above))).trans e1⟩
  .obtain⟨o',e1⟩:=I.dD.there b o e hx
   exact⟨o',(hs.2 b (aL (aA (kK e) I.ok.above))).trans e1⟩
  .by_cases hj:j=i
   .subst hj
    rw[hi]at e1;cases e1
    rw[aC Vn]at e2
    cases e2
    exact⟨u,r,.inl ⟨hk,by simp⟩⟩
   .rw[ak (bj hj)]at e2
    obtain⟨u',r',q⟩:=hl j y v' e1 e2 e3
    refine⟨u',r',?_⟩
    rcases q with⟨k,e⟩ | ⟨k,c,e,z⟩
    .refine .inl ⟨k,?_⟩
     have:y≠x:=fun e=>hj (CB hN e1 (e▸hi))
     simp[this,e]
    .exact .inr ⟨k,c,e,z.sameBut hs (Qy y c e)⟩
  .obtain⟨w',z⟩:=I.cell y c e
   exact⟨w',z.sameBut hs (Qy y c e)⟩
  .obtain⟨e,n,ne,nf,d⟩:=I.pin p hp
   exact⟨(hs.2 p.1 ne).trans e,n,ne,nf,d⟩
 .have Yu:X.fn x=true:=by
   rcases hf with z | z
   .exact z
   .rw[z]at hk;cases hk
  obtain⟨c,hc⟩:=I.ok.has x (.inl hk)
  obtain⟨w',z⟩:=I.cell x c hc
  refine wpAny_storeName_cell I.ok.kind hk hc z (fun h' uO hs=>?_)
  obtain⟨oc,hoc,Yi⟩:=id z
  refine h { s with heap:=h'} ⟨I.ok,I.os,I.bare,⟨fun b o e n hb hx=>?_,fun b o e n hb hx=>?_,I.dD.free,fun b o e hx=>?_,I.dD.pW,I.dD.pG,I.dD.p4⟩,⟨m,hn.sameBut hs (bj (Qy x c hc)),fun j y v' e1 e2 e3=>?_⟩,fun y c' e=>?_,I.free,I.kO,fun p hp=>?_,tracked ⟨oc,hoc,I.kO x c hc⟩ hs,by simpa using I.len⟩ ⟨c,hs,.inr hc⟩
  .exact(hs.2 b (aL (aA (kK e) (I.ok.SV x c Yu hc)))).trans (I.dD.keep b o e n hb hx)
  .obtain⟨sl,e1⟩:=I.dD.slot b o e n hb hx
   exact⟨sl,(hs.2 b (aL (aA (kK e) (I.ok.SV x c Yu hc)))).trans e1⟩
  .obtain⟨o',e1⟩:=I.dD.there b o e hx
   exact⟨o',(hs.2 b (aL (aA (kK e) (I.ok.SV x c Yu hc)))).trans e1⟩
  .by_cases hj:j=i
   .subst hj
    rw[hi]at e1;cases e1
    rw[aC Vn]at e2
    cases e2
    exact⟨u,r,.inr ⟨.inl hk,c,hc,uO⟩⟩
   .rw[ak (bj hj)]at e2
    obtain⟨u',r',q⟩:=hl j y v' e1 e2 e3
    refine⟨u',r',?_⟩
    rcases q with q | ⟨k,c',e,z'⟩
    .exact .inl q
    .refine .inr ⟨k,c',e,z'.sameBut hs ?_⟩
     rintro rfl
     exact hj (CB hN e1 (I.ok.inj _ _ _ e hc▸hi))
  .by_cases MG:c'=c
   .subst MG;exact⟨_,uO⟩
   .obtain⟨w2,z2⟩:=I.cell y c' e
    exact⟨w2,z2.sameBut hs MG⟩
  .obtain⟨e,n,ne,nf,d⟩:=I.pin p hp
   refine⟨(hs.2 p.1 ?_).trans e,n,ne,nf,d⟩
   intro q
   rw[q,hoc]at e
   have q':oc=p.2:=aS e
   exact d w' (by rw[<- q'];exact Yi)
def mi {M:Model}{A:Around}{E:Value->ah->Prop}{i:Nat}{x:Str}{v:V}{u:Value}{Q:Unit->ah->Prop}(I:Inv X dA σ H s)(hN:X.N.Nodup)(hi:X.N[i]?=some x)(hx:Loc X.env.scope x)(r:fm v u)
 (h:∀ s',Inv X dA (σ.set i (some v)) H s'->Q () s') (hf:X.fn x=true\/X.env.scope.names.lookup x=some .local:=by first | exact .inl rfl | exact .inr rfl | assumption):wpAny M A (storeName X.env x u) Q E s :=
 zr I hN hi hx r (fun s' I' _=>h s' I') hf
def Inv.zU {s':ah}{ch:List ai}(I:Inv X dA σ H s)(ho:s'.os=s.os)(u:Un (ze X.stack) ch H H' s.heap s'.heap)(fc:o7 X.prog X.w H' s'.heap)(hg:AllBare s'.gens)
 (MF:∀ b∈ch,(b∈X.ex\/X.s₀.heap.objs.size<=b)/\b≠X.env.locals/\(∀ x c,X.env.cells.lookup x=some c->c≠b)/\∀ p∈X.pn++dA,p.1≠b):Inv X dA σ H' s':=by
 obtain⟨h',g',d',t',o'⟩:=s'
 have e:o'=s.os:=ho
 subst e
 exact I.call (g':=g') (t':=t') (d':=d') u fc hg MF
end
abbrev XK:=Value->Option ai->Hp->Prop
abbrev St:=List (Option V)
abbrev VK:=V->Hp->Prop
abbrev TE:=St->Hp->VK->Prop
abbrev TT:=St->Hp->(Bool->Hp->Prop)->Prop
abbrev TA:=St->Hp->(List V->Hp->Prop)->Prop
structure Ends where
 nx:St->Hp->Prop
 rt:VK
 bk:St->Hp->Prop:=fun _ _=>False
 ct:St->Hp->Prop:=fun _ _=>False
abbrev TS:=Ends->St->Hp->Prop
def EP (X:Cx)(dA:List (ai×Obj))(σ:St)(Q:VK)(u:Value)(s':ah):Prop:=∃ v H',Inv X dA σ H' s'/\fm v u/\Q v H'
def TP (X:Cx)(dA:List (ai×Obj))(σ:St)(Q:Bool->Hp->Prop)(b:Bool)(s':ah):Prop:=∃ H',Inv X dA σ H' s'/\Q b H'
def AP (X:Cx)(dA:List (ai×Obj))(σ:St)(Q:List V->Hp->Prop)(us:List Value)(s':ah):Prop:=∃ vs H',Inv X dA σ H' s'/\fj vs us/\Q vs H'
def SP (X:Cx)(dA:List (ai×Obj))(D:Ends)(f:Flow)(s':ah):Prop :=
 match f with
 | .next=>∃ gH H',Inv X dA gH H' s'/\D.nx gH H'
 | .brk=>∃ gH H',Inv X dA gH H' s'/\D.bk gH H'
 | .cont=>∃ gH H',Inv X dA gH H' s'/\D.ct gH H'
 | .ret u=>∃ v gH H',Inv X dA gH H' s'/\fm v u/\D.rt v H'
def PE (X:Cx)(e:Expr)(t:TE):Prop :=
 ∀(dA:List (ai×Obj)) (s:ah) (σ:St) (H:Hp) (Q:VK),Inv X dA σ H s->t σ H Q->wpAny (model X.prog X.w) X.A (eval e X.env) (EP X dA σ Q) X.xe s
def PT (X:Cx)(e:Expr)(t:TT):Prop :=
 ∀(dA:List (ai×Obj)) (s:ah) (σ:St) (H:Hp) (Q:Bool->Hp->Prop),Inv X dA σ H s->t σ H Q->wpAny (model X.prog X.w) X.A (isTrue e X.env (eval e X.env)) (TP X dA σ Q) X.xe s
def PW (X:Cx)(e:Expr)(t:TT):Prop :=
 ∀(whole:Sem Value) (dA:List (ai×Obj)) (s:ah) (σ:St) (H:Hp) (Q:Bool->Hp->Prop),Inv X dA σ H s->t σ H Q->wpAny (model X.prog X.w) X.A (isTrue e X.env whole) (TP X dA σ Q) X.xe s
def PW.pt {X:Cx}{e:Expr}{t:TT}(h:PW X e t):PT X e t:=h _
def PA (X:Cx)(es:List Expr)(t:TA):Prop :=
 ∀(pos:Pos) (dA:List (ai×Obj)) (s:ah) (σ:St) (H:Hp) (Q:List V->Hp->Prop),Inv X dA σ H s->t σ H Q->wpAny (model X.prog X.w) X.A (spliced (backTo pos (starEach es X.env))) (AP X dA σ Q) X.xe s
def PS (X:Cx)(st:Stmt)(t:TS):Prop :=
 ∀(dA:List (ai×Obj)) (s:ah) (σ:St) (H:Hp) (D:Ends),Inv X dA σ H s->t D σ H->wpAny (model X.prog X.w) X.A (exec st X.env) (SP X dA D) X.xe s
def BC (X:Cx)(st:List Stmt)(t:TS):Prop :=
 ∀(dA:List (ai×Obj)) (s:ah) (σ:St) (H:Hp) (D:Ends),Inv X dA σ H s->t D σ H->wpAny (model X.prog X.w) X.A (execs st X.env) (SP X dA D) X.xe s
def gc {α:Type}{t:Sem α}{Q Q':α->ah->Prop}{M:Model}{A:Around}{E:Value->ah->Prop}{s:ah}(h:wpAny M A t Q E s)(hQ:∀ a s,Q a s->Q' a s):wpAny M A t Q' E s:=bo h hQ fun _ _ x=>x
section
variable {X:Cx}
def bin {a b:Expr}{ta tb:TE}(ha:PE X a ta)(hb:PE X b tb){dA:List (ai×Obj)}{s:ah}{σ:St}{H:Hp}{R:V->V->Hp->Prop}(I:Inv X dA σ H s)(h:ta σ H fun x H1=>tb σ H1 fun y H2=>R x y H2)
 {α:Type} {Q:α->ah->Prop} {f:Value->Value->Sem α}
 (hf:∀ v u s2 x y H2,Inv X dA σ H2 s2->fm x v->fm y u->R x y H2->wpAny (model X.prog X.w) X.A (f v u) Q X.xe s2) :
 wpAny (model X.prog X.w) X.A (eval a X.env) (fun v s₁=>wpAny (model X.prog X.w) X.A (eval b X.env) (fun u s₂=>wpAny (model X.prog X.w) X.A (f v u) Q X.xe s₂) X.xe s₁) X.xe s:=by
 refine gc (ha dA s σ H _ I h) fun v s1 oN=>?_
 obtain⟨x,H1,I1,r1,q1⟩:=oN
 refine gc (hb dA s1 σ H1 _ I1 q1) fun u s2 tO=>?_
 obtain⟨y,H2,I2,r2,q2⟩:=tO
 exact hf v u s2 x y H2 I2 r1 r2 q2
def Ud (i:Nat):TE:=fun σ H Q=>∃ v,σ[i]?=some (some v)/\Q v H
def tC (v:V):TE:=fun _ H Q=>Q v H
def AB {i:Nat}{x:Str}{pos:Pos}(hN:X.N[i]?=some x)(hv:Tb X.env.scope x)(hd:(x==("__debug__" : Str))=false:=by decide)(zd:(x==("__classdict__" : Str))=false:=by decide):PE X (.Name x pos) (Ud i):=by
 intro dA s σ H Q I h
 obtain⟨v,e,h⟩:=h
 obtain⟨m,hn,hl⟩:=I.loc
 obtain⟨u,r,l⟩:=hl i x v hN e hv
 have fin:EP X dA σ Q u s:=⟨v,H,I,r,h⟩
 rcases l with⟨hk,hm⟩ | ⟨hk,c,hc,vA⟩
 .exact wpAny_Name (wpAny_loadName_local I.ok.kind hk hn hm fin) hd
 .rcases hk with hk | hk
  .exact wpAny_Name (wpAny_loadName_cell I.ok.kind hk hc vA fin) hd
  .exact wpAny_Name (wpAny_loadName_free I.ok.kind hk hc vA fin zd) hd
def gm {i j pos}:PE X (.Constant (.int i) j pos) (tC (.int i)):=fun _ _ _ H _ I h=>wpAny_Constant_int ⟨.int i,H,I.tok _,⟨_,rfl⟩,h⟩
def J0 {b j pos}:PE X (.Constant (.bool b) j pos) (tC (.bl b)):=fun _ _ _ H _ I h=>Constant_bool ⟨.bl b,H,I,rfl,h⟩
def Rp {j pos}:PE X (.Constant .none j pos) (tC .gy):=fun _ _ _ H _ I h=>Constant_none ⟨.gy,H,I,rfl,h⟩
def Rn {x j pos}:PE X (.Constant (.str x) j pos) (tC (.str x)):=fun _ _ _ H _ I h=>Calls.Constant_str ⟨.str x,H,I.tok _,⟨_,rfl⟩,h⟩
def Gl (X:Cx)(x:Str):Prop:=X.env.kindOf x=some .globalImplicit
def oI {E:Value->ah->Prop}{dA:List (ai×Obj)}{s:ah}{σ:St}{H:Hp}{x:Str}{u:Value}{pos:Pos}{Q:Value->ah->Prop}(I:Inv X dA σ H s)(hg:Gl X x)(hm:X.mg x=some u)(h:Q u s)
 (hd:(x==("__debug__" : Str))=false:=by decide):wpAny (model X.prog X.w) X.A (eval (.Name x pos) X.env) Q E s :=
 Calls.Name_function_global I.ok.kind hg (Calls.loadGlobal_global (by rw[I.ok.glob];exact I.mod.glob.keeps I.bk) hm h) hd
def qt {E:Value->ah->Prop}{dA:List (ai×Obj)}{s:ah}{σ:St}{H:Hp}{x:Str}{u:Value}{pos:Pos}{Q:Value->ah->Prop}(I:Inv X dA σ H s)(hg:Gl X x)(hm:X.mg x=none)(hv:bootBuiltins x=some u)(h:Q u s)
 (hn:x ≠ "__name__":=by decide) (hd:(x==("__debug__" : Str))=false:=by decide):wpAny (model X.prog X.w) X.A (eval (.Name x pos) X.env) Q E s:=by
 obtain⟨mb,h1,h2⟩:=I.mod.blt
 exact Calls.Name_function_global I.ok.kind hg (Calls.loadGlobal_builtin (by rw[I.ok.glob];exact I.mod.glob.keeps I.bk) hm (by rw[I.ok.blt];exact h1.keeps I.bk) ((h2 x hn).trans hv) h) hd
def Gm {x:Str}{v:V}{u:Value}{pos:Pos}(hg:Gl X x)(hm:X.mg x=some u)(r:fm v u)(hd:(x==("__debug__" : Str))=false:=by decide):PE X (.Name x pos) (tC v) :=
 fun _ _ _ H _ I h=>oI I hg hm ⟨v,H,I,r,h⟩ hd
def iU {x:Str}{v:V}{u:Value}{pos:Pos}(hg:Gl X x)(hm:X.mg x=none)(hv:bootBuiltins x=some u)(r:fm v u)(hn:x ≠ "__name__":=by decide)(hd:(x==("__debug__" : Str))=false:=by decide):PE X (.Name x pos) (tC v) :=
 fun _ _ _ H _ I h=>qt I hg hm hv ⟨v,H,I,r,h⟩ hn hd
variable {a b:Expr}{ta tb:TE}{pos:Pos}
def PC (X:Cx)(op:CmpOp)(a b:Expr)(t:TE):Prop :=
 ∀(dA:List (ai×Obj)) (s:ah) (σ:St) (H:Hp) (Q:VK),Inv X dA σ H s->t σ H Q ->
  wpAny (model X.prog X.w) X.A (eval a X.env) (fun v s₁=>wpAny (model X.prog X.w) X.A (eval b X.env) (fun u s₂=>wpAny (model X.prog X.w) X.A (compareOp op v u) (EP X dA σ Q) X.xe s₂) X.xe s₁) X.xe s
def CC (b:Expr){op:CmpOp}(h:op≠.In)(h2:op≠.NotIn):behindInMarks op b=false:=by
 have e1:(op==CmpOp.In)=false:=by cases op <;> first | rfl | exact absurd rfl h
 have e2:(op==CmpOp.NotIn)=false:=by cases op <;> first | rfl | exact absurd rfl h2
 cases b <;> simp[behindInMarks,e1,e2]
def Ui (ta:TE):TE:=fun σ H Q=>ta σ H fun x H1=>Q (.bl (decide (x=.gy))) H1
def Pn (ta:TE):TE:=fun σ H Q=>ta σ H fun x H1=>Q (.bl (!decide (x=.gy))) H1
def fm.Cz {x:V}{v:Value}(r:fm x v):(v==Value.none)=decide (x=.gy):=by
 cases x with
 | gy=>cases r;rfl
 | bl _=>cases r;rfl
 | int _=>obtain⟨t,rfl⟩:=r;rfl
 | str _=>obtain⟨t,rfl⟩:=r;rfl
 | II _=>obtain⟨t,rfl⟩:=r;rfl
 | Qk _=>obtain⟨t,rfl⟩:=r;rfl
 | ref _=>cases r;rfl
 | ty _=>cases r;rfl
def Rv {j pos'}(ha:PE X a ta):PC X .Is a (.Constant .none j pos') (Ui ta):=by
 intro dA s σ H Q I h
 refine gc (ha dA s σ H _ I h) fun v s1 sD=>?_
 obtain⟨x,H1,I1,r1,q1⟩:=sD
 exact Constant_none (is_none_gen ⟨.bl _,H1,I1,by rw[r1.Cz];rfl,q1⟩)
def Gq {j pos'}(ha:PE X a ta):PC X .IsNot a (.Constant .none j pos') (Pn ta):=by
 intro dA s σ H Q I h
 refine gc (ha dA s σ H _ I h) fun v s1 qu=>?_
 obtain⟨x,H1,I1,r1,q1⟩:=qu
 exact Constant_none (isnot_none_gen ⟨.bl _,H1,I1,by rw[r1.Cz];rfl,q1⟩)
def tB (t:TE):TT:=fun σ H Q=>t σ H fun x H1=>∃ c,x=.bl c/\Q c H1
def Rt {op:CmpOp}{t:TE}(h:PC X op a b t)(h1:behindInMarks op b=false:=by first | exact CC _ (by decide) (by decide) | rfl):PE X (.Compare a [op] [b] pos) t:=fun dA s σ H Q I hw=>wpAny_Compare1 (h dA s σ H Q I hw) h1
def AA {op:CmpOp}{t:TE}(h:PC X op a b t)(h1:behindInMarks op b=false:=by first | exact CC _ (by decide) (by decide) | rfl):PT X (.Compare a [op] [b] pos) (tB t):=by
 intro dA s σ H Q I hw
 refine wpAny_isTrue_Compare1 (gc (h dA s σ H _ I hw) fun v s1 h1=>gc h1 fun u s2 h2=>gc h2 fun c s3 sC=>?_) h1
 obtain⟨x,H1,I1,r1,q1⟩:=sC
 obtain⟨d,rfl,q⟩:=q1
 cases r1
 exact bQ ⟨H1,I1,q⟩
variable {tA WC:TT}{rest:List Expr}
def Up (t u:TT):TT:=fun σ H Q=>t σ H fun c H1=>if c=true then u σ H1 Q else Q false H1
def tOr (t u:TT):TT:=fun σ H Q=>t σ H fun c H1=>if c=true then Q true H1 else u σ H1 Q
def Xl (t:TT):TT:=fun σ H Q=>t σ H fun c H1=>Q (!c) H1
def pw_and1 (ha:PT X a tA):PW X (.BoolOp .And [a] pos) tA:=by
 intro wh dA s σ H Q I h
 refine isTrue_and (gc (ha dA s σ H Q I h) fun c s1 e=>?_)
 cases c with
 | true=>exact isTrue_and_nil e
 | false=>exact e
def pw_or1 (ha:PT X a tA):PW X (.BoolOp .Or [a] pos) tA:=by
 intro wh dA s σ H Q I h
 refine isTrue_or (gc (ha dA s σ H Q I h) fun c s1 e=>?_)
 cases c with
 | false=>exact isTrue_or_nil e
 | true=>exact e
def pw_and (ha:PT X a tA)(hb:PW X (.BoolOp .And (b::rest) pos) WC):PW X (.BoolOp .And (a::b::rest) pos) (Up tA WC):=by
 intro wh dA s σ H Q I h
 refine isTrue_and (gc (ha dA s σ H _ I h) fun c s1 rl=>?_)
 obtain⟨H1,I1,q1⟩:=rl
 cases c with
 | true=>exact hb wh dA s1 σ H1 Q I1 q1
 | false=>exact⟨H1,I1,q1⟩
def pw_or (ha:PT X a tA)(hb:PW X (.BoolOp .Or (b::rest) pos) WC):PW X (.BoolOp .Or (a::b::rest) pos) (tOr tA WC):=by
 intro wh dA s σ H Q I h
 refine isTrue_or (gc (ha dA s σ H _ I h) fun c s1 pF=>?_)
 obtain⟨H1,I1,q1⟩:=pF
 cases c with
 | true=>exact⟨H1,I1,q1⟩
 | false=>exact hb wh dA s1 σ H1 Q I1 q1
def Q8 (ha:PT X a tA):PT X (.UnaryOp .Not a pos) (Xl tA):=by
 intro dA s σ H Q I h
 exact isTrue_not (ha dA s σ H (fun c H1=>Q (!c) H1) I h)
def EC {op}{t:TE}(h:PE X a t):PE X (.BoolOp op [a] pos) t:=fun dA s σ H Q I hw=>BoolOp_one (h dA s σ H Q I hw)
def tIf (t:TT)(ta tb:TE):TE:=fun σ H Q=>t σ H fun c H1=>if c=true then ta σ H1 Q else tb σ H1 Q
def JU {c:Expr}(hc:PT X c tA)(ha:PE X a ta)(hb:PE X b tb):PE X (.IfExp c a b pos) (tIf tA ta tb):=by
 intro dA s σ H Q I h
 refine wpAny_IfExp (gc (hc dA s σ H _ I h) fun d s1 oN=>?_)
 obtain⟨H1,I1,q1⟩:=oN
 cases d with
 | true=>exact ha dA s1 σ H1 Q I1 q1
 | false=>exact hb dA s1 σ H1 Q I1 q1
end
def pK (K:aa)(H:Hp)(a:ai)(xs:List V):Prop :=
 Rd H a (.lst xs) \/
  ∃(o:Obj) (eW:Array Value) (n:Nat),K.lookup a=some o/\o.cls=.type "list"/\o.dict=none/\o.data=.seq eW n/\eW.size<=sizeLine/\fj xs eW.toList
def BA (K:aa)(H:Hp)(a:ai)(xs:List V):Prop :=
 Rd H a (.tup xs) \/
  ∃(o:Obj) (eW:Array Value) (n:Nat),K.lookup a=some o/\o.cls=.type "tuple"/\o.data=.seq eW n/\eW.size<=sizeLine/\fj xs eW.toList
def Zn:Value->Option V
 | .none=>some .gy
 | .bool b=>some (.bl b)
 | .int i _=>some (.int i)
 | .str x _=>some (.str x)
 | .bytes b _=>some (.II b)
 | .float b _=>some (.Qk b)
 | .ref a=>some (.ref a)
 | .type n=>some (.ty n)
 | _=>none
def fm.abs {x:V}{u:Value}(r:fm x u):Zn u=some x:=by
 cases x with
 | gy=>cases r;rfl
 | bl _=>cases r;rfl
 | int _=>obtain⟨t,rfl⟩:=r;rfl
 | str _=>obtain⟨t,rfl⟩:=r;rfl
 | II _=>obtain⟨t,rfl⟩:=r;rfl
 | Qk _=>obtain⟨t,rfl⟩:=r;rfl
 | ref _=>cases r;rfl
 | ty _=>cases r;rfl
def fm.inj {x y:V}{u:Value}(r:fm x u)(q:fm y u):x=y:=aS (r.abs.symm.trans q.abs)
def fj.inj {xs ys:List V}{us:List Value}(h:fj xs us)(g:fj ys us):xs=ys:=by
 induction h generalizing ys with
 | nil=>cases g;rfl
 | cons r t ih =>
  cases g with
  | cons r' t'=>rw[r.inj r',ih t']
section
variable {X:Cx}{dA:List (ai×Obj)}{σ:St}{H:Hp}{s:ah}{a:ai}{xs ys:List V}
def pK.of {K:aa}(h:H a=some (.lst xs)):pK K H a xs:=.inl (.inl h)
def BA.of {K:aa}(h:H a=some (.tup xs)):BA K H a xs:=.inl (.inl h)
def Inv.list (I:Inv X dA σ H s)(h:pK X.K H a xs):∃ eW:List Value,fj xs eW/\PlainL s.heap a eW.toArray/\xs.length<=sizeLine:=by
 rcases h with h | ⟨o,eW,n,hk,hc,hd,hs,hz,r⟩
 .obtain⟨z,eW,n,r,e⟩:=h.ok I.fc
  exact⟨eW,r,⟨_,n,e,rfl,rfl,rfl⟩,z⟩
 .refine⟨eW.toList,r,⟨o,n,I.rN a o hk,hc,hd,by simpa using hs⟩,?_⟩
  have e:=r.length
  simp only[cc]at e
  lia
def Inv.tuple (I:Inv X dA σ H s)(h:BA X.K H a xs):∃ eW:List Value,fj xs eW/\IsTup s.heap a eW.toArray/\xs.length<=sizeLine:=by
 rcases h with h | ⟨o,eW,n,hk,hc,hs,hz,r⟩
 .obtain⟨z,eW,r,p⟩:=h.ok I.fc
  exact⟨eW,r,p,z⟩
 .refine⟨eW.toList,r,⟨o,I.rN a o hk,hc,n,by simpa using hs⟩,?_⟩
  have e:=r.length
  simp only[cc]at e
  lia
def Inv.Kr (I:Inv X dA σ H s)(h:pK X.K H a xs)(h':pK X.K H a ys):xs=ys:=by
 obtain⟨eW,r,⟨o,n,e,_,_,d⟩,_⟩:=I.list h
 obtain⟨its',r',⟨o',n',e',_,_,d'⟩,_⟩:=I.list h'
 rw[e]at e';cases e'
 rw[d]at d'
 injection d' with d1 _
 have:eW=its':=by simpa using bx Array.toList d1
 subst this
 exact r.inj r'
end
abbrev Cx.yR (X:Cx)(E:Value->ah->Prop):Cx:={ X with xe:=E}
abbrev Cx.UT (X:Cx):Cx:=X.yR fun _ _=>False
def Cx.Ok.yR {X:Cx}(ok:X.Ok)(E:Value->ah->Prop):(X.yR E).Ok :=
 ⟨ok.mod,ok.kind,ok.glob,ok.blt,ok.above,ok.inj,ok.has,ok.SV,ok.hd,ok.frames,ok.TL,ok.Qn,ok.bs,ok.Fj,ok.CA,ok.Du,ok.rH,ok.MK⟩
def Cx.Ok.pU {X:Cx}{E:Value->ah->Prop}(ok:(X.yR E).Ok):X.Ok :=
 ⟨ok.mod,ok.kind,ok.glob,ok.blt,ok.above,ok.inj,ok.has,ok.SV,ok.hd,ok.frames,ok.TL,ok.Qn,ok.bs,ok.Fj,ok.CA,ok.Du,ok.rH,ok.MK⟩
section
variable {X:Cx}{dA:List (ai×Obj)}{σ:St}{H:Hp}{s:ah}{E:Value->ah->Prop}
def Inv.yR (I:Inv X dA σ H s)(E:Value->ah->Prop):Inv (X.yR E) dA σ H s:=⟨I.ok.yR E,I.os,I.bare,I.dD,I.loc,I.cell,I.free,I.kO,I.pin,I.fc,I.len⟩
def Inv.pU (I:Inv (X.yR E) dA σ H s):Inv X dA σ H s:=⟨I.ok.pU,I.os,I.bare,I.dD,I.loc,I.cell,I.free,I.kO,I.pin,I.fc,I.len⟩
def SP.pU {D:Ends}{f:Flow}{s':ah}(h:SP (X.yR E) dA D f s'):SP X dA D f s':=by
 cases f with
 | next=>obtain⟨gH,H',I,q⟩:=h;exact⟨gH,H',I.pU,q⟩
 | brk=>obtain⟨gH,H',I,q⟩:=h;exact⟨gH,H',I.pU,q⟩
 | cont=>obtain⟨gH,H',I,q⟩:=h;exact⟨gH,H',I.pU,q⟩
 | ret u=>obtain⟨v,gH,H',I,r,q⟩:=h;exact⟨v,gH,H',I.pU,r,q⟩
def BC.UT {st:List Stmt}{t:TS}(h:BC X.UT st t):BC X st t:=fun dA s σ H D I hw =>
 bo (h dA s σ H D (I.yR _) hw) (fun _ _ q=>q.pU) fun _ _ z=>False.elim z
end
section
variable {X:Cx}{st:Stmt}{rest:List Stmt}{t u:TS}{e:Expr}{te:TE}{pos:Pos}
def Uh:TS:=fun D σ H=>D.nx σ H
def Xj (t u:TS):TS:=fun D σ H=>t { D with nx:=u D} σ H
def mY:BC X [] Uh:=fun _ _ σ H _ I h=>dc ⟨σ,H,I,h⟩
def gI (h1:PS X st t)(h2:BC X rest u):BC X (st::rest) (Xj t u):=by
 intro dA s σ H D I h
 refine wpAny_execs_cons (gc (h1 dA s σ H { D with nx:=u D} I h) fun f s1 q=>?_)
 cases f with
 | next =>
  obtain⟨gH,H',I',q⟩:=q
  exact h2 dA s1 gH H' D I' q
 | ret v=>exact q
 | brk=>exact q
 | cont=>exact q
def kA (h1:PS X st t):BC X [st] t:=by
 intro dA s σ H D I h
 refine wpAny_execs_cons (gc (h1 dA s σ H D I h) fun f s1 q=>?_)
 cases f with
 | next=>exact dc q
 | ret v=>exact q
 | brk=>exact q
 | cont=>exact q
def Inv.quiet {dA:List (ai×Obj)}{σ:St}{H:Hp}{s:ah}(I:Inv X dA σ H s):interactive X.env=false:=by simp[interactive,I.ok.kind]
def Uj (te:TE):TS:=fun D σ H=>te σ H fun _ H1=>D.nx σ H1
def Nx (he:PE X e te)(hs:swapsWith e none pos.line X.env=pure false:=by rfl):PS X (.Expr e pos) (Uj te):=by
 intro dA s σ H D I h
 exact wpAny_Expr_any (gc (he dA s σ H _ I h) fun v s1 tO=>by obtain⟨x,H1,I1,r1,q1⟩:=tO;exact⟨σ,H1,I1,q1⟩) I.quiet hs
def Xk (te:TE):TS:=fun D σ H=>te σ H D.rt
def nc (he:PE X e te):PS X (.Return (some e) pos) (Xk te):=by
 intro dA s σ H D I h
 exact wpAny_Return_some (gc (he dA s σ H _ I h) fun v s1 sD=>by obtain⟨x,H1,I1,r1,q1⟩:=sD;exact⟨x,σ,H1,I1,r1,q1⟩)
def Xn (c:TT)(t u:TS):TS:=fun D σ H=>c σ H fun b H1=>if b=true then t D σ H1 else u D σ H1
def vj {c:Expr}{a b:List Stmt}{tc:TT}(hc:PT X c tc)(ha:BC X a t)(hb:BC X b u):PS X (.If c a b pos) (Xn tc t u):=by
 intro dA s σ H D I h
 refine wpAny_If (gc (hc dA s σ H _ I h) fun d s1 qu=>?_)
 obtain⟨H1,I1,q1⟩:=qu
 cases d with
 | true=>exact ha dA s1 σ H1 D I1 q1
 | false=>exact hb dA s1 σ H1 D I1 q1
end
abbrev TG:=V->St->Hp->(St->Hp->Prop)->Prop
abbrev z9:=List V->St->Hp->(St->Hp->Prop)->Prop
def PG (X:Cx)(target:Expr)(t:TG):Prop :=
 ∀(dA:List (ai×Obj)) (s:ah) (σ:St) (H:Hp) (v:V) (u:Value) (Q:St->Hp->Prop),Inv X dA σ H s->fm v u->t v σ H Q ->
  wpAny (model X.prog X.w) X.A (assign target X.env u) (fun _ s'=>∃ gH H',Inv X dA gH H' s'/\Q gH H') X.xe s
def Mj (X:Cx)(ts:List Expr)(t:z9):Prop :=
 ∀(dA:List (ai×Obj)) (s:ah) (σ:St) (H:Hp) (vs:List V) (us:List Value) (Q:St->Hp->Prop),Inv X dA σ H s->fj vs us->t vs σ H Q ->
  wpAny (model X.prog X.w) X.A (assignInOrder ((assignEach ts X.env).map (·.2)) us) (fun _ s'=>∃ gH H',Inv X dA gH H' s'/\Q gH H') X.xe s
abbrev Fq:=V->V->V->Hp->(Hp->Prop)->Prop
def O6 (X:Cx)(t:Fq):Prop :=
 ∀(dA:List (ai×Obj)) (s:ah) (σ:St) (H:Hp) (o i v:V) (ov iv u:Value) (Q:Hp->Prop),Inv X dA σ H s->fm o ov->fm i iv->fm v u->t o i v H Q ->
  wpAny (model X.prog X.w) X.A (setItem ov iv u) (fun _ s'=>∃ H',Inv X dA σ H' s'/\Q H') X.xe s
abbrev O3:=V->V->Hp->VK->Prop
def Wl (X:Cx)(op:Operator)(t:O3):Prop :=
 ∀(dA:List (ai×Obj)) (s:ah) (σ:St) (H:Hp) (x y:V) (v u:Value) (Q:VK),Inv X dA σ H s->fm x v->fm y u->t x y H Q ->
  wpAny (model X.prog X.w) X.A (inplaceOp op v u) (EP X dA σ Q) X.xe s
section
variable {X:Cx}{pos:Pos}
def tR (i:Nat):TG:=fun v σ H Q=>Q (σ.set i (some v)) H
def wA {i:Nat}{x:Str}(hN:X.N.Nodup)(hi:X.N[i]?=some x)(hx:Loc X.env.scope x)(hf:X.fn x=true\/X.env.scope.names.lookup x=some .local:=by first | exact .inl rfl | exact .inr rfl | assumption):PG X (.Name x pos) (tR i):=by
 intro dA s σ H v u Q I r h
 exact wpAny_assign_Name (mi I hN hi hx r (fun s' I'=>⟨_,H,I',h⟩) hf)
def YJ:z9:=fun vs σ H Q=>vs=[]/\Q σ H
def Vu (t:TG)(u:z9):z9:=fun vs σ H Q=>∃ v r,vs=v::r/\t v σ H fun gH H'=>u r gH H' Q
def NH:Mj X [] YJ:=by
 intro dA s σ H vs us Q I r h
 obtain⟨e,h⟩:=h
 subst e
 cases r
 exact assignInOrder_nil ⟨σ,H,I,h⟩
def JR {e:Expr}{es:List Expr}{t:TG}{u:z9}(h1:PG X e t)(h2:Mj X es u)
 (hs:(assignEach (e::es) X.env).map (·.2)=assign e X.env::(assignEach es X.env).map (·.2):=by rfl):Mj X (e::es) (Vu t u):=by
 intro dA s σ H vs us Q I r h
 obtain⟨v,vr,e1,h⟩:=h
 subst e1
 cases r with
 | cons r rr =>
  rw[hs]
  refine dj (gc (h1 dA s σ H _ _ _ I r h) fun _ s1 sC=>?_)
  obtain⟨BS,H1,I1,q1⟩:=sC
  exact h2 dA s1 BS H1 _ _ Q I1 rr q1
def YH (K:aa)(n:Nat)(t:z9):TG:=fun v σ H Q=>∃ a xs,v=.ref a/\BA K H a xs/\xs.length=n/\t xs σ H Q
def Rk {es:List Expr}{k:Nat}{t:z9}{n:Nat}(hc:X.gg=true)(h:Mj X es t)
 (hn:(assignEach es X.env).length=n:=by rfl) (BR:(assignEach es X.env).findIdx? (·.1)=none:=by rfl):PG X (.Tuple es k pos) (YH X.K n t):=by
 intro dA s σ H v u Q I r hw
 obtain⟨a,xs,e1,hq,hl,hw⟩:=hw
 subst e1
 cases r
 obtain⟨eW,rv,ht,hz⟩:=I.tuple hq
 refine assign_Tuple_tuple (I.ok.hd hc) ht (by simp[hn,<- hl,rv.length]) BR fun h' hx=>?_
 have I1:Inv X dA σ H { s with heap:=h'}:=I.dE (t':=s.toks) fun b o e=>hx b o (aL (kK e)) e
 exact h dA _ σ H xs _ Q I1 (by simpa using rv) hw
def YI (to ti:TE)(t:Fq):TG:=fun v σ H Q=>to σ H fun o H1=>ti σ H1 fun i H2=>t o i v H2 fun H3=>Q σ H3
def xH {o i:Expr}{to ti:TE}{t:Fq}(ho:PE X o to)(hi:PE X i ti)(hs:O6 X t)
 (ha:∀ v,assign (.Subscript o i pos) X.env v=(do
   let ov <- holding [v] (eval o X.env)
   let iv <- holding [v,ov] (eval i X.env)
   standAt pos
   holding [v,ov,iv] (setItem ov iv v)
   release [v,ov,iv] []):=by intro _;rfl):PG X (.Subscript o i pos) (YI to ti t):=by
 intro dA s σ H v u Q I r h
 rw[ha]
 refine fb (bP (gc (ho dA s σ H _ I h) fun ov s1 rl=>?_))
 obtain⟨x,H1,I1,r1,q1⟩:=rl
 refine fb (bP (gc (hi dA s1 σ H1 _ I1 q1) fun iv s2 pF=>?_))
 obtain⟨y,H2,I2,r2,q2⟩:=pF
 refine fb (c8 (fb (bP (gc (hs dA s2 σ H2 x y v ov iv u _ I2 r1 r2 r q2) fun _ s3 oN=>?_))))
 obtain⟨H3,I3,q3⟩:=oN
 exact wpAny_release ⟨σ,H3,I3,q3⟩
def QP (te:TE)(g:TG):TS:=fun D σ H=>te σ H fun x H1=>g x σ H1 D.nx
def uG {tg e:Expr}{te:TE}{g:TG}(he:PE X e te)(hg:PG X tg g)(hs:swapsWithSole [tg] e pos.line X.env=pure false:=by rfl)(hw:swappedStores [tg] e X.env=pure none:=by rfl)
 (h1:(assignEach [tg] X.env).map (·.2)=[assign tg X.env]:=by rfl):PS X (.Assign [tg] e pos) (QP te g):=by
 intro dA s σ H D I h
 refine wpAny_Assign_stores (gc (he dA s σ H _ I h) fun v s1 tO=>?_) hs hw
 obtain⟨x,H1,I1,r1,q1⟩:=tO
 rw[h1]
 exact gc (hg dA s1 σ H1 x v _ I1 r1 q1) fun _ s2 q=>q
def uF {i:Nat}{x:Str}{e:Expr}{te:TE}{pos':Pos}(hN:X.N.Nodup)(hi:X.N[i]?=some x)(hx:Loc X.env.scope x)(he:PE X e te)(hs:swapsWith e (some (.Name x pos')) pos.line X.env=pure false:=by rfl)(hf:X.fn x=true\/X.env.scope.names.lookup x=some .local:=by first | exact .inl rfl | exact .inr rfl | assumption) :
 PS X (.Assign [.Name x pos'] e pos) (QP te (tR i)):=by
 intro dA s σ H D I h
 refine wpAny_Assign_Name (gc (he dA s σ H _ I h) fun v s1 sD=>?_) hs
 obtain⟨y,H1,I1,r1,q1⟩:=sD
 exact mi I1 hN hi hx r1 (fun s2 I2=>⟨_,H1,I2,q1⟩) hf
def Xu (i:Nat)(te:TE)(ti:O3):TS:=fun D σ H=>∃ x,σ[i]?=some (some x)/\te σ H fun y H1=>ti x y H1 fun z H2=>D.nx (σ.set i (some z)) H2
def Rg {i:Nat}{x:Str}{e:Expr}{te:TE}{op:Operator}{ti:O3}{pos':Pos}(hN:X.N.Nodup)(hi:X.N[i]?=some x)(hx:Loc X.env.scope x)(he:PE X e te)(ho:Wl X op ti)(hf:X.fn x=true\/X.env.scope.names.lookup x=some .local:=by first | exact .inl rfl | exact .inr rfl | assumption) :
 PS X (.AugAssign (.Name x pos') op e pos) (Xu i te ti):=by
 intro dA s σ H D I h
 obtain⟨v,e1,h⟩:=h
 obtain⟨m,hn,hl⟩:=I.loc
 have vis:Tb X.env.scope x:=by rcases hx with k | k;exact .inl k;exact .inr (.inl k)
 obtain⟨u,r,l⟩:=hl i x v hi e1 vis
 refine wpAny_AugAssign_Name ?_
 have go:wpAny (model X.prog X.w) X.A (eval e X.env) (fun w s₂=>wpAny (model X.prog X.w) X.A (inplaceOp op u w) (fun r s₃=>wpAny (model X.prog X.w) X.A (storeName X.env x r) (fun _=>SP X dA D .next) X.xe s₃) X.xe s₂) X.xe s:=by
  refine gc (he dA s σ H _ I h) fun w s1 qu=>?_
  obtain⟨y,H1,I1,r1,q1⟩:=qu
  refine gc (ho dA s1 σ H1 v y u w _ I1 r r1 q1) fun z s2 sC=>?_
  obtain⟨zv,H2,I2,r2,q2⟩:=sC
  exact mi I2 hN hi hx r2 (fun s3 I3=>⟨_,H2,I3,q2⟩) hf
 rcases l with⟨hk,hm⟩ | ⟨hk,c,hc,vA⟩
 .exact wpAny_loadName_local I.ok.kind hk hn hm go
 .rcases hk with hk | hk
  .exact wpAny_loadName_cell I.ok.kind hk hc vA go
  .rcases hx with k | k
   .have:X.env.scope.names.lookup x=some .free:=hk
    rw[k]at this;cases this
   .have:X.env.scope.names.lookup x=some .free:=hk
    rw[k]at this;cases this
def Uo (to ti te:TE)(MW:V->V->Hp->VK->Prop)(Wz:O3)(MV:Fq):TS:=fun D σ H=>to σ H fun o H1=>ti σ H1 fun i H2=>MW o i H2 fun x H3=>te σ H3 fun y H4=>Wz x y H4 fun z H5=>MV o i z H5 fun H6=>D.nx σ H6
def Wm (X:Cx)(t:V->V->Hp->VK->Prop):Prop :=
 ∀(dA:List (ai×Obj)) (s:ah) (σ:St) (H:Hp) (o i:V) (ov iv:Value) (Q:VK),Inv X dA σ H s->fm o ov->fm i iv->t o i H Q ->
  wpAny (model X.prog X.w) X.A (getItem ov iv) (EP X dA σ Q) X.xe s
def Nz {o i e:Expr}{to ti te:TE}{MW:V->V->Hp->VK->Prop}{Wz:O3}{MV:Fq}{op:Operator}{rG:Pos}(ho:PE X o to)(hi:PE X i ti)(hg:Wm X MW)(he:PE X e te)(hp:Wl X op Wz)(hs:O6 X MV)
 (ha:∀ ov iv new,augStore i ov iv new=(do holding [new,ov,iv] (setItem ov iv new);release [new,ov,iv] [];pure .next):=by intros;rfl):PS X (.AugAssign (.Subscript o i rG) op e pos) (Uo to ti te MW Wz MV):=by
 intro dA s σ H D I h
 refine wpAny_AugAssign_SubscriptAny (gc (ho dA s σ H _ I h) fun ov s1 rl=>?_) ha
 obtain⟨x1,H1,I1,r1,q1⟩:=rl
 refine gc (hi dA s1 σ H1 _ I1 q1) fun iv s2 pF=>?_
 obtain⟨x2,H2,I2,r2,q2⟩:=pF
 refine gc (hg dA s2 σ H2 x1 x2 ov iv _ I2 r1 r2 q2) fun old s3 oN=>?_
 obtain⟨x3,H3,I3,r3,q3⟩:=oN
 refine gc (he dA s3 σ H3 _ I3 q3) fun v s4 tO=>?_
 obtain⟨x4,H4,I4,r4,q4⟩:=tO
 refine gc (hp dA s4 σ H4 x3 x4 old v _ I4 r3 r4 q4) fun new s5 sD=>?_
 obtain⟨x5,H5,I5,r5,q5⟩:=sD
 exact gc (hs dA s5 σ H5 x1 x2 x5 ov iv new _ I5 r1 r2 r5 q5) fun _ s6 qu=>by obtain⟨H6,I6,q6⟩:=qu;exact⟨σ,H6,I6,q6⟩
def ipI (f:Int->Int->Int):O3:=fun x y H Q=>∃ i j,x=.int i/\y=.int j/\Q (.int (f i j)) H
def R5:Wl X .Add (ipI fun i j=>i+j):=by
 intro dA s σ H x y v u Q I r1 r2 h
 obtain⟨i,j,e1,e2,q⟩:=h
 subst e1;subst e2
 obtain⟨t,rfl⟩:=r1
 obtain⟨t',rfl⟩:=r2
 exact iadd_int ⟨.int _,H,I.tok _,⟨_,rfl⟩,q⟩
end
section
variable {X:Cx}{pos:Pos}
def QH (c:TT)(tb:TS):TS:=fun D σ H=>∃ W:Nat->St->Hp->Prop,(∃ m,W m σ H)/\∀ m σ H,W m σ H ->
 c σ H fun b H1=>if b=true then ∃ N:St->Hp->Prop,(∀ gH H',N gH H'->∃ m',m'<m/\W m' gH H')/\tb { D with nx:=N,ct:=N,bk:=D.nx} σ H1 else D.nx σ H1
def JO {c:Expr}{body:List Stmt}{tc:TT}{tb:TS}(hp:PassesOwn (model X.prog X.w) X.A X.env X.xe)(hc:PT X c tc)(hb:BC X body tb):PS X (.While c body [] pos) (QH tc tb):=by
 intro dA s σ H D I h
 obtain⟨W,⟨m0,w0⟩,turn⟩:=h
 refine wpAny_While (codeAny_whileLoop (fun n s'=>∃ gH H',Inv X dA gH H' s'/\W n gH H') ?_ m0 ⟨σ,H,I,w0⟩)
 rintro n s1 ⟨BS,H1,I1,w1⟩
 refine cu hp (gc (hc dA s1 BS H1 _ I1 (turn n BS H1 w1)) fun b s2 sC=>?_)
 obtain⟨H2,I2,q2⟩:=sC
 cases b with
 | true =>
  obtain⟨N,hN,q2⟩:=q2
  rw[au rfl]
  refine cu hp (gc (hb dA s2 BS H2 _ I2 q2) fun f s3 q3=>?_)
  cases f with
  | next =>
   obtain⟨FH,H3,I3,n3⟩:=q3
   obtain⟨m',hm,w3⟩:=hN FH H3 n3
   exact⟨m',hm,FH,H3,I3,w3⟩
  | cont =>
   obtain⟨FH,H3,I3,n3⟩:=q3
   obtain⟨m',hm,w3⟩:=hN FH H3 n3
   exact⟨m',hm,FH,H3,I3,w3⟩
  | brk=>exact q3
  | ret v=>exact q3
 | false =>
  rw[aq aK]
  exact dc ⟨BS,H2,I2,q2⟩
end
structure It where
 go:Nat->Hp->Prop
 Jh:Nat->Hp->V->Hp->Prop
 stop:Nat->Hp->Prop
def o9 (X:Cx)(dA:List (ai×Obj))(H:Hp)(b:ai):Prop :=
 H b=none/\b≠X.env.locals/\b∉X.fs/\(b∈X.ex\/X.s₀.heap.objs.size<=b)/\(∀ x c,X.env.cells.lookup x=some c->c≠b)/\∀ p∈X.pn++dA,p.1≠b
def Inv.Df {X:Cx}{dA:List (ai×Obj)}{σ:St}{H H':Hp}{s:ah}{b:ai}(I:Inv X dA σ H s)(hb:s.heap.objs.size<=b)(hn:H' b=none):o9 X dA H' b:=by
 refine⟨hn,bt (aA I.lt hb),I.XR hb,.inr (aE I.sz hb),fun x c e z=>?_,fun p hp z=>?_⟩
 .obtain⟨v,q⟩:=I.cell x c e
  exact absurd (aA q.lt (by rw[z];exact hb)) (bB _)
 .exact absurd (aA (kK (I.pin p hp).1) (by rw[z];exact hb)) (bB _)
structure Turn (P:ae)(w:af)(K:aa)(tg:Expr)(J:It)(fp:List ai)(it:ai)(tn:Nat->Heap->Prop)(CM:Cx->Prop:=fun X=>X.gg=true):Prop where
 mem:it∈fp
 obj:∀ i h,tn i h->∀ b∈fp,∃ o,h.get? b=some o/\∀ v,o.data≠.cell v
 keep:∀ i h h',tn i h->(∀ b∈fp,∀ o,h.get? b=some o->h'.get? b=some o)->tn i h'
 item:∀(X:Cx),X.prog=P->X.w=w->X.K=K->CM X->∀(i:Nat) (dA:List (ai×Obj)) (s:ah) (σ:St) (H:Hp) (E:Value->ah->Prop),Inv X dA σ H s->(∀ b∈fp,o9 X dA H b)->tn i s.heap->J.go i H ->
  wpAny (model P w) X.A (pyNext (.ref it)) (fun r s1=>∃ u,r=some u /\
   wpAny (model P w) X.A (letOwnedTupleGo tg (.ref it) u) (fun _ s2=>∃ x H',Inv X dA σ H' s2/\fm x u/\J.Jh i H x H'/\tn (i+1) s2.heap/\∀ b∈fp,H' b=none) E s1) E s
 done:∀(X:Cx),X.prog=P->X.w=w->X.K=K->CM X->∀(i:Nat) (dA:List (ai×Obj)) (s:ah) (σ:St) (H:Hp) (E:Value->ah->Prop),Inv X dA σ H s->(∀ b∈fp,o9 X dA H b)->tn i s.heap->J.stop i H ->
  wpAny (model P w) X.A (pyNext (.ref it)) (fun r s1=>r=none/\Inv X dA σ H s1) E s
 self:∀(A:Around) (i:Nat) (s:ah) (Q:Value->ah->Prop) (E:Value->ah->Prop),tn i s.heap->Q (.ref it) s->wpAny (model P w) A (pyIter (.ref it)) Q E s
abbrev TI:=St->Hp->(It->Hp->Prop)->Prop
def PIE (X:Cx)(dA:List (ai×Obj))(σ:St)(tg:Expr)(R:It->Hp->Prop)(Qb:Value)(s2:ah):Prop :=
 ∃(it:ai) (fp:List ai) (tn:Nat->Heap->Prop) (J:It) (H':Hp),Qb=.ref it/\Inv X dA σ H' s2/\Turn X.prog X.w X.K tg J fp it tn/\tn 0 s2.heap/\(∀ b∈fp,o9 X dA H' b)/\R J H'
def PI (X:Cx)(tg iter:Expr)(wi:TI):Prop :=
 ∀(dA:List (ai×Obj)) (s:ah) (σ:St) (H:Hp) (R:It->Hp->Prop),Inv X dA σ H s->wi σ H R ->
  wpAny (model X.prog X.w) X.A (eval iter X.env) (fun v s1=>wpAny (model X.prog X.w) X.A (pyIter v) (PIE X dA σ tg R) X.xe s1) X.xe s
def zN {M:Model}{A:Around}{E:Value->ah->Prop}{s:ah}{tg:Expr}{it:ai}{u:Value}{o:Obj}{n:String}{vs:Array Value}{Q:Unit->ah->Prop}(ho:s.heap.get? it=some o)(hc:o.cls=.type n)(hd:o.data=.fields vs)
 (hn:["enumerate", "zip", "dict_itemiterator", "dict_reverseitemiterator", "odict_iterator", "itertools.zip_longest", "itertools.pairwise"].contains n=false) (hQ:Q () s):wpAny M A (letOwnedTupleGo tg (.ref it) u) Q E s:=by
 unfold letOwnedTupleGo
 cases tg <;> first
  | exact av hQ
  | (cases u <;> first
      | exact av hQ
      | (refine fb (wpAny_load ho ?_)
         rw[hc,hd]
         show wpAny M A (if(["enumerate", "zip", "dict_itemiterator", "dict_reverseitemiterator", "odict_iterator", "itertools.zip_longest", "itertools.pairwise"].contains n&&vs[0]?==some (rawInt _))=true then _ else _) Q E s
         rw[aq (by intro h;rw[hn,Bool.false_and]at h;cases h)]
         exact av hQ))
def Zs (K:aa)(a:ai):It :=
 ⟨fun i H=>∃ xs x,pK K H a xs/\xs[i]?=some x,fun i H x H'=>H'=H/\∀ xs,pK K H a xs->xs[i]?=some x,fun i H=>∃ xs,pK K H a xs/\xs.length<=i⟩
def Wr (lo:Int)(n:Nat):It:=⟨fun i _=>i<n,fun i H x H'=>H'=H/\x=.int (lo+i),fun i _=>n<=i⟩
def Hw {P:ae}{w:af}{K:aa}{tg:Expr}(a it:ai):Turn P w K tg (Zs K a) [it] it (fun i h=>h.IsListIter it a i) where
 mem:=by simp
 obj:=fun i h st b hb=>by
  have e:b=it:=by simpa using hb
  subst e
  obtain⟨o,e,c,d⟩:=st
  exact⟨o,e,fun v z=>by rw[d]at z;cases z⟩
 keep:=fun i h h' st k=>st.at fun o e=>k it (by simp) o e
 item:=by
  intro X hP hw hK hc i dA s σ H E I hf st hg
  subst hP hw hK
  obtain⟨xs,x,hq,hx⟩:=hg
  obtain⟨eW,rv,p,hz⟩:=I.list hq
  obtain⟨u,hu,ru⟩:=rv.get hx
  obtain⟨f0,f1,f2,f3,f4,f5⟩:=hf it (by simp)
  refine wpAny_pyNext_list_item st p.isList (x:=u) (by simpa using hu) fun h' B4 sb=>?_
  have I1:Inv X dA σ H { s with heap:=h'}:=I.turned (t':=s.toks) (fun b o hb e=>(sb.2 b hb).trans e) f0 f1 f3 f4 f5
  obtain⟨o,e,c,d⟩:=id B4
  exact⟨u,rfl,zN (s:={ s with heap:=h'}) e c d (by decide) ⟨x,H,I1,ru,⟨rfl,fun ys hy=>by rw[I.Kr hy hq];exact hx⟩,B4,fun b hb=>(hf b hb).1⟩⟩
 done:=by
  intro X hP hw hK hc i dA s σ H E I hf st hg
  subst hP hw hK
  obtain⟨xs,hq,hx⟩:=hg
  obtain⟨eW,rv,p,hz⟩:=I.list hq
  obtain⟨f0,f1,f2,f3,f4,f5⟩:=hf it (by simp)
  have hl:=rv.length
  exact wpAny_pyNext_list_end (I.ok.hd hc) st p.isList (by simp;lia) fun h' eb=>⟨rfl,I.turned (t':=s.toks) (fun b o hb e=>eb b o hb e) f0 f1 f3 f4 f5⟩
 self:=fun _ _ _ _ _ st h=>wpAny_pyIter_listiter st h
def n9 {P:ae}{w:af}{K:aa}{tg:Expr}(it:ai)(lo:Int)(n:Nat):Turn P w K tg (Wr lo n) [it] it (fun i h=>IsRangeIter h it (lo+(i:Nat)*1) ((n:Int) - (i:Nat)) 1) where
 mem:=by simp
 obj:=fun i h st b hb=>by
  have e:b=it:=by simpa using hb
  subst e
  exact⟨_,st,fun v z=>by
   have z':Data.fields _=Data.cell v:=z
   cases z'⟩
 keep:=fun i h h' st k=>k it (by simp) _ st
 item:=by
  intro X hP hw hK hc i dA s σ H E I hf st hg
  subst hP hw hK
  obtain⟨f0,f1,f2,f3,f4,f5⟩:=hf it (by simp)
  have W:=Walks.range (prog:=X.prog) (w:=X.w) (I.ok.hd hc) it lo 1 n
  refine W.item i s _ _ hg st fun v h' tk hv B4 kk=>?_
  obtain⟨t,rfl⟩:=hv
  have I1:Inv X dA σ H { s with heap:=h',toks:=tk}:=I.turned (fun b o hb e=>kk b o (by simpa using hb) e) f0 f1 f3 f4 f5
  refine⟨_,rfl,zN (s:={ s with heap:=h',toks:=tk}) (n := "range_iterator") B4 rfl rfl (by decide) ⟨.int (lo+i),H,I1,⟨t,?_⟩,⟨rfl,rfl⟩,B4,fun b hb=>(hf b hb).1⟩⟩
  rw[Int.mul_one]
 done:=by
  intro X hP hw hK hc i dA s σ H E I hf st hg
  subst hP hw hK
  obtain⟨f0,f1,f2,f3,f4,f5⟩:=hf it (by simp)
  exact wpAny_pyNext_range_end (I.ok.hd hc) st (by have:n<=i:=hg;lia) fun h' eb=>⟨rfl,I.turned (t':=s.toks) (fun b o hb e=>eb b o hb e) f0 f1 f3 f4 f5⟩
 self:=fun _ _ _ _ _ st h=>wpAny_pyIter_rangeiter st h
section
variable {X:Cx}{tg:Expr}
def Ve (K:aa)(tl:TE):TI:=fun σ H R=>tl σ H fun x H1=>∃ a,x=.ref a/\(∃ xs,pK K H1 a xs)/\R (Zs K a) H1
def NF {l:Expr}{tl:TE}(hl:PE X l tl):PI X tg l (Ve X.K tl):=by
 intro dA s σ H R I h
 refine gc (hl dA s σ H _ I h) fun v s1 rl=>?_
 obtain⟨x,H1,I1,r1,q1⟩:=rl
 obtain⟨a,e,⟨xs,hq⟩,q⟩:=q1
 subst e
 cases r1
 obtain⟨eW,rv,p,hz⟩:=I1.list hq
 refine wpAny_pyIter_list p.isList ?_
 refine⟨s1.heap.objs.size,[s1.heap.objs.size],_,_,H1,rfl,I1.dE (t':=s1.toks) fun b o e=>j0 _ e,Hw a _,⟨_,aD _ rfl,rfl,rfl⟩,fun b hb=>?_,q⟩
 have e:b=s1.heap.objs.size:=by simpa using hb
 subst e
 exact I1.Df (aj _) (I1.fc.fresh (aj _))
def Cf {dA:List (ai×Obj)}{σ:St}{H:Hp}{s:ah}{R:It->Hp->Prop}{E:Value->ah->Prop}{lo hi:Int}{t u v:Tok}{tk:Nat}(I:Inv X dA σ H s)(h1:-(2 ^ 62)<=lo)(h2:lo<2 ^ 62)(h3:-(2 ^ 62)<=hi)(h4:hi<2 ^ 62)
 (q:R (Wr lo (hi - lo).toNat) H):wpAny (model X.prog X.w) X.A (pyIter (.ref s.heap.objs.size)) (PIE X dA σ tg R) E { s with heap:=s.heap.push { cls:=.type "range",data:=.fields #[.int lo t,.int hi u,.int 1 v]},toks:=tk}:=by
 refine wpAny_pyIter_range (IsRange.new ..) (small_one h1 h2 h3 h4) ?_
 have I1:Inv X dA σ H { s with heap:=s.heap.push { cls:=.type "range",data:=.fields #[.int lo t,.int hi u,.int 1 v]},toks:=tk}:=I.dE fun b o e=>j0 _ e
 refine⟨(s.heap.push { cls:=.type "range",data:=.fields #[.int lo t,.int hi u,.int 1 v]}).objs.size,[(s.heap.push { cls:=.type "range",data:=.fields #[.int lo t,.int hi u,.int 1 v]}).objs.size],_,_,H,rfl,
  I1.dE (t':=tk) fun b o e=>j0 _ e,n9 _ lo (hi - lo).toNat,?_,fun b hb=>?_,q⟩
 .have e1:lo+((0:Nat):Int)*1=lo:=by simp
  have e2:(((hi - lo).toNat:Nat):Int) - ((0:Nat):Int)=Builtin.Range.rangeSize lo hi 1:=by rw[rangeSize_one];split <;> lia
  show IsRangeIter _ _ (lo+((0:Nat):Int)*1) ((((hi - lo).toNat:Nat):Int) - ((0:Nat):Int)) 1
  rw[e1,e2]
  exact aD _ rfl
 .have e:b=(s.heap.push { cls:=.type "range",data:=.fields #[.int lo t,.int hi u,.int 1 v]}).objs.size:=by simpa using hb
  subst e
  exact I1.Df (aj _) (I1.fc.fresh (aj _))
def Vd (ta:TA):TI:=fun σ H R=>ta σ H fun vs H1=>∃ j:Int,vs=[.int j] /\ -(2 ^ 62)<=j/\j<2 ^ 62/\R (Wr 0 j.toNat) H1
def Vc (ta:TA):TI:=fun σ H R=>ta σ H fun vs H1=>∃ i j:Int,vs=[.int i,.int j]/\(-(2 ^ 62)<=i/\i<2 ^ 62 /\ -(2 ^ 62)<=j/\j<2 ^ 62)/\R (Wr i (j - i).toNat) H1
def HK {a:Expr}{ta:TA}{p pos:Pos}(hg:Gl X "range")(hm:X.mg "range"=none)(ha:PA X [a] ta)(hs:starEach [a] X.env=[(false,eval a X.env)]:=by rfl):PI X tg (.Call (.Name "range" p) [a] [] pos) (Vd ta):=by
 intro dA s σ H R I h
 refine Call_ (qt I hg hm boot_range (bD (gc (ha pos dA s σ H _ I h) fun us s1 pF=>?_) hs rfl))
 obtain⟨vs,H1,I1,r1,q1⟩:=pF
 obtain⟨j,e,q1,q2,q⟩:=q1
 subst e
 cases r1 with
 | cons r rr =>
  cases rr
  obtain⟨t,rfl⟩:=r
  exact call_range_1 (Cf I1 (by lia) (by lia) q1 q2 (by simpa using q))
def HJ {a b:Expr}{ta:TA}{p pos:Pos}(hg:Gl X "range")(hm:X.mg "range"=none)(ha:PA X [a,b] ta)(hs:starEach [a,b] X.env=[(false,eval a X.env),(false,eval b X.env)]:=by rfl)(Dc:starEach [b] X.env=[(false,eval b X.env)]:=by rfl) :
 PI X tg (.Call (.Name "range" p) [a,b] [] pos) (Vc ta):=by
 intro dA s σ H R I h
 refine Call_ (qt I hg hm boot_range (bD (gc (ha pos dA s σ H _ I h) fun us s1 oN=>?_) (by rw[hs,Dc]) (by rw[Dc];rfl)))
 obtain⟨vs,H1,I1,r1,q1⟩:=oN
 obtain⟨i,j,e,⟨q1,q2,q3,q4⟩,q⟩:=q1
 subst e
 cases r1 with
 | cons r rr =>
  cases rr with
  | cons r' rr =>
   cases rr
   obtain⟨t,rfl⟩:=r
   obtain⟨t',rfl⟩:=r'
   exact call_range_2 (Cf I1 q1 q2 q3 q4 q)
def Xp (wi:TI)(g:TG)(tb:TS):TS:=fun D σ H=>wi σ H fun J H1=>∃ W:Nat->Nat->St->Hp->Prop,(∃ m,W 0 m σ H1)/\∀ i m σ H,W i m σ H ->
 (J.stop i H/\D.nx σ H)\/(J.go i H/\∃ N:St->Hp->Prop,(∀ gH H',N gH H'->∃ m',m'<m/\W (i+1) m' gH H')/\∀ x H',J.Jh i H x H'->g x σ H' fun nA H2=>tb { D with nx:=N,ct:=N,bk:=D.nx} nA H2)
def uH (fp:List ai)(h:Heap):List (ai×Obj):=fp.filterMap fun b=>(h.get? b).map fun o=>(b,o)
def kU {fp:List ai}{h:Heap}{b:ai}{o:Obj}(hb:b∈fp)(e:h.get? b=some o):(b,o)∈uH fp h:=List.mem_filterMap.mpr ⟨b,hb,by rw[e];rfl⟩
def HU {fp:List ai}{h:Heap}{p:ai×Obj}(hp:p∈uH fp h):p.1∈fp/\h.get? p.1=some p.2:=by
 obtain⟨b,hb,e⟩:=List.mem_filterMap.mp hp
 cases q:h.get? b with
 | none=>rw[q]at e;cases e
 | some o =>
  rw[q]at e
  have e':(b,o)=p:=aS e
  subst e'
  exact⟨hb,q⟩
def Inv.pinned {dA:List (ai×Obj)}{σ:St}{H:Hp}{s:ah}{fp:List ai}(I:Inv X dA σ H s)(hf:∀ b∈fp,o9 X dA H b)(ho:∀ b∈fp,∃ o,s.heap.get? b=some o/\∀ v,o.data≠.cell v):Inv X (dA++uH fp s.heap) σ H s :=
 I.oF fun p hp=>(List.mem_append.mp hp).elim (fun z=>I.pin p (aO _ z)) fun z=>by
  obtain⟨hb,e⟩:=HU z
  obtain⟨f0,f1,f2,_⟩:=hf p.1 hb
  obtain⟨o,e',d⟩:=ho p.1 hb
  rw[e]at e';cases e'
  exact⟨e,f0,f1,f2,d⟩
def Inv.pV {dA pl:List (ai×Obj)}{σ:St}{H:Hp}{s:ah}(I:Inv X (dA++pl) σ H s):Inv X dA σ H s:=I.oF fun p hp=>I.pin p (aO _ (bZ _ hp))
def Rc {iter:Expr}{body:List Stmt}{wi:TI}{g:TG}{tb:TS}{pos:Pos}(hp:PassesOwn (model X.prog X.w) X.A X.env X.xe)(hc:X.gg=true)(hi:PI X tg iter wi)(hg:PG X tg g)(hb:BC X body tb)
 (hs:∀ x,foldedSetIterable iter X.env x=pure x:=by intro _;rfl):PS X (.For tg iter body [] pos) (Xp wi g tb):=by
 intro dA s σ H D I h
 refine wpAny_For (gc (hi dA s σ H _ I h) fun v s1 h1=>gc h1 fun Qb s2 h2=>?_) hs
 obtain⟨it,fp,tn,J,H2,e,I2,T,FU,f2,W,⟨m0,w0⟩,turn⟩:=h2
 subst e
 have xk:∀ {H':Hp},(∀ b∈fp,H' b=none)->∀ b∈fp,o9 X dA H' b:=fun hn b hb=>⟨hn b hb,(f2 b hb).2⟩
 refine codeAny_forLoop_any (fun n s'=>∃ i gH H',Inv X dA gH H' s'/\tn i s'.heap/\(∀ b∈fp,H' b=none)/\W i n gH H') ?_ m0 ⟨0,σ,H2,I2,FU,fun b hb=>(f2 b hb).1,w0⟩
 rintro n s3 ⟨i,FH,H3,I3,Mw,Qi,w3⟩
 rcases turn i n FH H3 w3 with⟨stop,qn⟩ | ⟨go,N,hN,step⟩
 .refine cu hp (gc (T.done X rfl rfl rfl hc i dA s3 FH H3 X.xe I3 (xk Qi) Mw stop) fun r s4 tO=>?_)
  obtain⟨hr,I4⟩:=tO
  subst hr
  exact dc ⟨FH,H3,I4,qn⟩
 .refine cu hp (gc (T.item X rfl rfl rfl hc i dA s3 FH H3 X.xe I3 (xk Qi) Mw go) fun r s4 sD=>?_)
  obtain⟨u,hr,h4⟩:=sD
  subst hr
  refine cu hp (gc h4 fun _ s5 qu=>?_)
  obtain⟨x,H5,I5,r5,y5,Jx,Vw⟩:=qu
  have Wt:=I5.pinned (xk Vw) (T.obj _ _ Jx)
  refine cu hp (gc (hg _ s5 FH H5 x u _ Wt r5 (step x H5 y5)) fun _ s6 sC=>?_)
  obtain⟨Mu,H6,I6,q6⟩:=sC
  refine cu hp (gc (hb _ s6 Mu H6 _ I6 q6) fun f s7 q7=>?_)
  have again:∀ {Jb:St} {H7:Hp},Inv X (dA++uH fp s5.heap) Jb H7 s7->N Jb H7->∃ m,m<n/\∃ i gH H',Inv X dA gH H' s7/\tn i s7.heap/\(∀ b∈fp,H' b=none)/\W i m gH H':=fun {Jb H7} I7 n7=>by
   obtain⟨m',hm,w7⟩:=hN Jb H7 n7
   refine⟨m',hm,i+1,Jb,H7,I7.pV,T.keep _ _ _ Jx fun b hb o e=>(I7.pin (b,o) (aO _ (aO _ (kU hb e)))).1,fun b hb=>?_,w7⟩
   obtain⟨o,e,d⟩:=T.obj _ _ Jx b hb
   exact(I7.pin (b,o) (aO _ (aO _ (kU hb e)))).2.1
  cases f with
  | next=>obtain⟨Jb,H7,I7,n7⟩:=q7;exact again I7 n7
  | cont=>obtain⟨Jb,H7,I7,n7⟩:=q7;exact again I7 n7
  | brk=>obtain⟨Jb,H7,I7,q7⟩:=q7;exact⟨Jb,H7,I7.pV,q7⟩
  | ret v=>obtain⟨x7,Jb,H7,I7,r7,q7⟩:=q7;exact⟨x7,Jb,H7,I7.pV,r7,q7⟩
end
abbrev R2:=V->V->Hp->VK->Prop
def kg (X:Cx)(f:Value->Value->Sem Value)(r:R2):Prop :=
 ∀(dA:List (ai×Obj)) (s:ah) (σ:St) (H:Hp) (x y:V) (v u:Value) (Q:VK),Inv X dA σ H s->fm x v->fm y u->r x y H Q ->
  wpAny (model X.prog X.w) X.A (f v u) (EP X dA σ Q) X.xe s
def Zo (X:Cx)(f:Value->Sem Value)(r:V->Hp->VK->Prop):Prop :=
 ∀(dA:List (ai×Obj)) (s:ah) (σ:St) (H:Hp) (x:V) (v:Value) (Q:VK),Inv X dA σ H s->fm x v->r x H Q ->
  wpAny (model X.prog X.w) X.A (f v) (EP X dA σ Q) X.xe s
def iI (X:Cx)(f:Value)(r:List V->Hp->VK->Prop):Prop :=
 ∀(dA:List (ai×Obj)) (s:ah) (σ:St) (H:Hp) (xs:List V) (us:List Value) (Q:VK),Inv X dA σ H s->fj xs us->r xs H Q ->
  wpAny (model X.prog X.w) X.A (call f us) (EP X dA σ Q) X.xe s
def Ug (r:R2)(ta tb:TE):TE:=fun σ H Q=>ta σ H fun x H1=>tb σ H1 fun y H2=>r x y H2 Q
def tUn (r:V->Hp->VK->Prop)(ta:TE):TE:=fun σ H Q=>ta σ H fun x H1=>r x H1 Q
def rI (C:Int->Int->Prop)(g:Int->Int->V):R2:=fun x y H Q=>∃ i j,x=.int i/\y=.int j/\C i j/\Q (g i j) H
def Np (g:Int->Int->V):R2:=fun x y H Q=>∃ i j,x=.int i/\y=.int j/\Q (g i j) H
def rU (g:Int->V):V->Hp->VK->Prop:=fun x H Q=>∃ i,x=.int i/\Q (g i) H
section
variable {X:Cx}{a b c:Expr}{ta tb tc:TE}{pos:Pos}
def OZ (ha:PE X a ta)(hb:PE X b tb){dA:List (ai×Obj)}{s:ah}{σ:St}{H:Hp}{R:V->V->Hp->Prop}(I:Inv X dA σ H s)
 (h:ta σ H fun x H1=>tb σ H1 fun y H2=>R x y H2) {Q:Value->ah->Prop} {f:Value->Value->Sem Value}
 (hf:∀ v u s2 x y H2,Inv X dA σ H2 s2->fm x v->fm y u->R x y H2->wpAny (model X.prog X.w) X.A (f v u) Q X.xe s2) :
 wpAny (model X.prog X.w) X.A (eval a X.env) (fun v s₁=>wpAny (model X.prog X.w) X.A (eval b X.env) (fun u s₂=>wpAny (model X.prog X.w) X.A (f v u) Q X.xe s₂) X.xe s₁) X.xe s:=by
 refine gc (ha dA s σ H _ I h) fun v s1 rl=>?_
 obtain⟨x,H1,I1,r1,q1⟩:=rl
 refine gc (hb dA s1 σ H1 _ I1 q1) fun u s2 pF=>?_
 obtain⟨y,H2,I2,r2,q2⟩:=pF
 exact hf v u s2 x y H2 I2 r1 r2 q2
def j9 {op:Operator}{r:R2}(ho:kg X (binaryOp op) r)(ha:PE X a ta)(hb:PE X b tb):PE X (.BinOp a op b pos) (Ug r ta tb):=by
 intro dA s σ H Q I h
 exact wpAny_BinOp (OZ ha hb I h fun v u s2 x y H2 I2 rx ry q=>ho dA s2 σ H2 x y v u Q I2 rx ry q)
def UK {op:UnaryOp}{r:V->Hp->VK->Prop}(ho:Zo X (unaryOp op) r)(ha:PE X a ta):PE X (.UnaryOp op a pos) (tUn r ta):=by
 intro dA s σ H Q I h
 exact UnaryOp_ (gc (ha dA s σ H _ I h) fun v s1 oN=>by obtain⟨x,H1,I1,r1,q1⟩:=oN;exact ho dA s1 σ H1 x v Q I1 r1 q1)
def WL {f:Value->Value->Sem Value}{C:Int->Int->Prop}{g:Int->Int->Int}
 (rule:∀(i j:Int) (t u:Tok) (s:ah) (Q:Value->ah->Prop) (E:Value->ah->Prop),C i j->Q (.int (g i j) s.toks) { s with toks:=s.toks+1}->wpAny (model X.prog X.w) X.A (f (.int i t) (.int j u)) Q E s) :
 kg X f (rI C fun i j=>.int (g i j)):=by
 intro dA s σ H x y v u Q I rx ry h
 obtain⟨i,j,rfl,rfl,hc,q⟩:=h
 obtain⟨t,rfl⟩:=rx
 obtain⟨t',rfl⟩:=ry
 exact rule i j t t' s _ _ hc ⟨.int (g i j),H,I.tok _,⟨_,rfl⟩,q⟩
def US {f:Value->Value->Sem Value}{g:Int->Int->Int}
 (rule:∀(i j:Int) (t u:Tok) (s:ah) (Q:Value->ah->Prop) (E:Value->ah->Prop),Q (.int (g i j) s.toks) { s with toks:=s.toks+1}->wpAny (model X.prog X.w) X.A (f (.int i t) (.int j u)) Q E s) :
 kg X f (Np fun i j=>.int (g i j)):=by
 intro dA s σ H x y v u Q I rx ry h
 obtain⟨i,j,rfl,rfl,q⟩:=h
 obtain⟨t,rfl⟩:=rx
 obtain⟨t',rfl⟩:=ry
 exact rule i j t t' s _ _ ⟨.int (g i j),H,I.tok _,⟨_,rfl⟩,q⟩
def NL {f:Value->Value->Sem Value}{g:Int->Int->Bool}
 (rule:∀(i j:Int) (t u:Tok) (s:ah) (Q:Value->ah->Prop) (E:Value->ah->Prop),Q (.bool (g i j)) s->wpAny (model X.prog X.w) X.A (f (.int i t) (.int j u)) Q E s) :
 kg X f (Np fun i j=>.bl (g i j)):=by
 intro dA s σ H x y v u Q I rx ry h
 obtain⟨i,j,rfl,rfl,q⟩:=h
 obtain⟨t,rfl⟩:=rx
 obtain⟨t',rfl⟩:=ry
 exact rule i j t t' s _ _ ⟨.bl (g i j),H,I,rfl,q⟩
def Ww (i j:Int):Prop:=0<j/\j<1073741824
def TH (i j:Int):Prop:=0<=j/\j<=1000000/\i.natAbs<2 ^ 64
def Mt (i j:Int):Prop:=(-(2 ^ 64)<i/\i<2 ^ 64)\/(-(2 ^ 64)<j/\j<2 ^ 64)
def Mt.ok {i j:Int}(h:Mt i j):IntMulOk i j:=by
 rcases h with⟨h1,h2⟩ | ⟨h1,h2⟩
 .exact .of_left (intBits_le_64 h1 h2)
 .exact .of_right (intBits_le_64 h1 h2)
def RF:kg X (binaryOp .Add) (Np fun i j=>.int (i+j)):=US fun _ _ _ _ _ _ _ q=>add_int q
def RA:kg X (binaryOp .Sub) (Np fun i j=>.int (i - j)):=US fun _ _ _ _ _ _ _ q=>sub_int q
def RC:kg X (binaryOp .Mult) (rI Mt fun i j=>.int (i*j)):=WL fun _ _ _ _ _ _ _ hc q=>mul_int q hc.ok
def NK:kg X (binaryOp .FloorDiv) (rI Ww fun i j=>.int (i / j)):=WL fun i j _ _ _ _ _ hc q=>by
 have h1:(0:Int)<j:=hc.1
 have h2:j<1073741824:=hc.2
 exact floordiv_int (by lia) (by rw[Int.fdiv_eq_ediv_of_nonneg i (by lia)];exact q) (.inl (PyProof.noPylong_small (by lia)))
def RD:kg X (binaryOp .Mod) (rI (fun _ j=>0<j) fun i j=>.int (i%j)):=WL fun i j _ _ _ _ _ hc q=>by
 have h1:(0:Int)<j:=hc
 exact mod_int' (by lia) (by rw[Int.fmod_eq_emod_of_nonneg i (by lia)];exact q)
def RB:kg X (binaryOp .Pow) (rI TH fun i j=>.int (i ^ j.toNat)):=WL fun _ _ _ _ _ _ _ hc q=>pow_int_small hc.1 hc.2.1 hc.2.2 q
def unI {f:Value->Sem Value}{g:Int->Int}
 (rule:∀(i:Int) (t:Tok) (s:ah) (Q:Value->ah->Prop) (E:Value->ah->Prop),Q (.int (g i) s.toks) { s with toks:=s.toks+1}->wpAny (model X.prog X.w) X.A (f (.int i t)) Q E s) :
 Zo X f (rU fun i=>.int (g i)):=by
 intro dA s σ H x v Q I rx h
 obtain⟨i,rfl,q⟩:=h
 obtain⟨t,rfl⟩:=rx
 exact rule i t s _ _ ⟨.int (g i),H,I.tok _,⟨_,rfl⟩,q⟩
def QF:Zo X (unaryOp .USub) (rU fun i=>.int (-i)):=unI fun _ _ _ _ _ q=>neg_int q
end
def Uu:V->V->Bool
 | .gy,.gy=>true | .gy,.int _=>true | .int _,.gy=>true | .gy,.bl _=>true | .bl _,.gy=>true | .gy,.str _=>true | .str _,.gy=>true
 | .int _,.int _=>true | .bl _,.bl _=>true | .str _,.str _=>true | .II _,.II _=>true
 | .int _,.str _=>true | .str _,.int _=>true | .bl _,.str _=>true | .str _,.bl _=>true
 | _,_=>false
def rEq:R2:=fun x y H Q=>Uu x y=true/\Q (.bl (decide (x=y))) H
def rNe:R2:=fun x y H Q=>Uu x y=true/\Q (.bl (!decide (x=y))) H
def GV {i j:Int}:decide (V.int i=V.int j)=(i==j):=by
 rw[cM]
 simp
def Lq {i j:Bool}:decide (V.bl i=V.bl j)=(i==j):=by
 rw[cM]
 simp
def GU {i j:Str}:decide (V.str i=V.str j)=(i==j):=by
 rw[cM]
 simp
def GW {i j:Array UInt8}:decide (V.II i=V.II j)=(i.toList==j.toList):=by
 rw[cM]
 cases i
 cases j
 simp
section
variable {X:Cx}{a b c:Expr}{ta tb tc:TE}{pos:Pos}
def f9 {dA:List (ai×Obj)}{σ:St}{H:Hp}{s:ah}{Q:VK}{k k':Bool}(I:Inv X dA σ H s)(q:Q (.bl k) H)(e:k=k'):EP X dA σ Q (.bool k') s:=by
 subst e
 exact⟨.bl k,H,I,rfl,q⟩
def PQ:kg X (compareOp .Eq) rEq:=by
 intro dA s σ H x y v u Q I rx ry h
 obtain⟨hs,q⟩:=h
 cases x with
 | gy =>
  cases rx
  cases y with
  | gy=>cases ry;exact PySem.EqNone.eq_none_none (f9 I q (by simp))
  | bl j=>cases ry;exact PySem.EqNone.eq_none_bool (f9 I q (by simp))
  | int j=>obtain⟨t',rfl⟩:=ry;exact PySem.EqNone.eq_none_int (f9 I q (by simp))
  | str j=>obtain⟨t',rfl⟩:=ry;exact PySem.EqNone.eq_none_str (f9 I q (by simp))
  | _=>exact absurd (show false=true from hs) aK
 | bl i =>
  cases rx
  cases y with
  | gy=>cases ry;exact PySem.EqNone.eq_bool_none (f9 I q (by simp))
  | bl j=>cases ry;exact eq_bool (f9 I q Lq)
  | str j=>obtain⟨t',rfl⟩:=ry;exact PySem.EqMixed.eq_bool_str (f9 I q (by simp))
  | _=>exact absurd (show false=true from hs) aK
 | int i =>
  obtain⟨t,rfl⟩:=rx
  cases y with
  | gy=>cases ry;exact PySem.EqNone.eq_int_none (f9 I q (by simp))
  | int j=>obtain⟨t',rfl⟩:=ry;exact eq_int (f9 I q GV)
  | str j=>obtain⟨t',rfl⟩:=ry;exact PySem.EqMixed.eq_int_str (f9 I q (by simp))
  | _=>exact absurd (show false=true from hs) aK
 | str i =>
  obtain⟨t,rfl⟩:=rx
  cases y with
  | gy=>cases ry;exact PySem.EqNone.eq_str_none (f9 I q (by simp))
  | bl j=>cases ry;exact PySem.EqMixed.eq_str_bool (f9 I q (by simp))
  | int j=>obtain⟨t',rfl⟩:=ry;exact PySem.EqMixed.eq_str_int (f9 I q (by simp))
  | str j=>obtain⟨t',rfl⟩:=ry;exact eq_str (f9 I q GU)
  | _=>exact absurd (show false=true from hs) aK
 | II i =>
  obtain⟨t,rfl⟩:=rx
  cases y with
  | II j=>obtain⟨t',rfl⟩:=ry;exact W.eq_bytes (f9 I q GW)
  | _=>exact absurd (show false=true from hs) aK
 | _=>cases y <;> exact absurd (show false=true from hs) aK
def UN:kg X (compareOp .NotEq) rNe:=by
 intro dA s σ H x y v u Q I rx ry h
 obtain⟨hs,q⟩:=h
 cases x with
 | gy =>
  cases rx
  cases y with
  | gy=>cases ry;exact PySem.EqNone.ne_none_none (f9 I q (by simp))
  | bl j=>cases ry;exact PySem.EqNone.ne_none_bool (f9 I q (by simp))
  | int j=>obtain⟨t',rfl⟩:=ry;exact PySem.EqNone.ne_none_int (f9 I q (by simp))
  | str j=>obtain⟨t',rfl⟩:=ry;exact PySem.EqNone.ne_none_str (f9 I q (by simp))
  | _=>exact absurd (show false=true from hs) aK
 | bl i =>
  cases rx
  cases y with
  | gy=>cases ry;exact PySem.EqNone.ne_bool_none (f9 I q (by simp))
  | bl j=>cases ry;exact ne_bool (f9 I q (bx not Lq))
  | str j=>obtain⟨t',rfl⟩:=ry;exact PySem.EqMixed.ne_bool_str (f9 I q (by simp))
  | _=>exact absurd (show false=true from hs) aK
 | int i =>
  obtain⟨t,rfl⟩:=rx
  cases y with
  | gy=>cases ry;exact PySem.EqNone.ne_int_none (f9 I q (by simp))
  | int j=>obtain⟨t',rfl⟩:=ry;exact ne_int (f9 I q (bx not GV))
  | str j=>obtain⟨t',rfl⟩:=ry;exact PySem.EqMixed.ne_int_str (f9 I q (by simp))
  | _=>exact absurd (show false=true from hs) aK
 | str i =>
  obtain⟨t,rfl⟩:=rx
  cases y with
  | gy=>cases ry;exact PySem.EqNone.ne_str_none (f9 I q (by simp))
  | bl j=>cases ry;exact PySem.EqMixed.ne_str_bool (f9 I q (by simp))
  | int j=>obtain⟨t',rfl⟩:=ry;exact PySem.EqMixed.ne_str_int (f9 I q (by simp))
  | str j=>obtain⟨t',rfl⟩:=ry;exact ne_str (f9 I q (bx not GU))
  | _=>exact absurd (show false=true from hs) aK
 | II i =>
  obtain⟨t,rfl⟩:=rx
  cases y with
  | II j=>obtain⟨t',rfl⟩:=ry;exact W.ne_bytes (f9 I q (bx not GW))
  | _=>exact absurd (show false=true from hs) aK
 | _=>cases y <;> exact absurd (show false=true from hs) aK
def UO:kg X (compareOp .Lt) (Np fun i j=>.bl (decide (i<j))):=NL fun _ _ _ _ _ _ _ q=>lt_int q
def UP:kg X (compareOp .LtE) (Np fun i j=>.bl (decide (i<=j))):=NL fun _ _ _ _ _ _ _ q=>le_int q
def UQ:kg X (compareOp .Gt) (Np fun i j=>.bl (decide (j<i))):=NL fun _ _ _ _ _ _ _ q=>gt_int q
def UR:kg X (compareOp .GtE) (Np fun i j=>.bl (decide (j<=i))):=NL fun _ _ _ _ _ _ _ q=>ge_int q
def HM:kg X (compareOp .In) (fun x y H Q=>∃ i j,x=.str i/\y=.str j/\Q (.bl (!(Builtin.Str.occurrences j i 0 j.length 1).isEmpty)) H):=by
 intro dA s σ H x y v u Q I rx ry h
 obtain⟨i,j,rfl,rfl,q⟩:=h
 obtain⟨t,rfl⟩:=rx
 obtain⟨t',rfl⟩:=ry
 exact in_str (f9 I q rfl)
def kg.or {f:Value->Value->Sem Value}{r r':R2}(h:kg X f r)(h':kg X f r'):kg X f (fun x y H Q=>r x y H Q\/r' x y H Q):=by
 intro dA s σ H x y v u Q I rx ry q
 rcases q with q | q
 .exact h dA s σ H x y v u Q I rx ry q
 .exact h' dA s σ H x y v u Q I rx ry q
def ir (b:Expr){op:CmpOp}(h:op≠.In:=by decide)(h2:op≠.NotIn:=by decide):behindInMarks op b=false:=by
 have e1:(op==CmpOp.In)=false:=by cases op <;> first | rfl | exact absurd rfl h
 have e2:(op==CmpOp.NotIn)=false:=by cases op <;> first | rfl | exact absurd rfl h2
 cases b <;> simp[behindInMarks,e1,e2]
def tF {op:CmpOp}{r:R2}(ho:kg X (compareOp op) r)(ha:PE X a ta)(hb:PE X b tb)(hm:behindInMarks op b=false):PE X (.Compare a [op] [b] pos) (Ug r ta tb):=by
 intro dA s σ H Q I h
 exact wpAny_Compare1 (OZ ha hb I h fun v u s2 x y H2 I2 rx ry q=>ho dA s2 σ H2 x y v u Q I2 rx ry q) hm
def QO (r r':R2)(ta tb tc:TE):TE:=fun σ H Q=>ta σ H fun x H1=>tb σ H1 fun y H2=>r x y H2 fun z H3=>∃ k,z=.bl k /\
 (if k=true then tc σ H3 fun w' H4=>r' y w' H4 Q else Q (.bl false) H3)
def JZ {op RG:CmpOp}{r r':R2}(ho:kg X (compareOp op) r)(x6:kg X (compareOp RG) r')(ha:PE X a ta)(hb:PE X b tb)(hc:PE X c tc)
 (hm:lastMarks [op,RG] [b,c]=false:=by with_unfolding_all rfl):PE X (.Compare a [op,RG] [b,c] pos) (QO r r' ta tb tc):=by
 intro dA s σ H Q I h
 refine Compare_chain (gc (ha dA s σ H _ I h) fun v s1 ⟨x,H1,I1,r1,q1⟩=>chain_link (gc (hb dA s1 σ H1 _ I1 q1) fun u s2 ⟨y,H2,I2,r2,q2⟩ =>
  gc (ho dA s2 σ H2 x y v u _ I2 r1 r2 q2) fun d s3 ⟨z,H3,I3,r3,k,e,q3⟩=>?_)) hm
 subst e
 cases r3
 refine bQ ?_
 cases k with
 | false=>exact ite_ff ⟨.bl false,H3,I3,rfl,q3⟩
 | true=>exact ite_tt (chain_last (gc (hc dA s3 σ H3 _ I3 q3) fun w' s4 sD=>by obtain⟨z',H4,I4,r4,q4⟩:=sD;exact x6 dA s4 σ H4 y z' u w' Q I4 r2 r4 q4))
def sv:(sizeLine:Nat)<2 ^ 63:=by rw[sizeLine_eq];decide
def EF:kg X (binaryOp .Add) (fun x y H Q=>∃ i j,x=.str i/\y=.str j/\i.length+j.length<=sizeLine/\Q (.str (i++j)) H):=by
 intro dA s σ H x y v u Q I rx ry h
 obtain⟨i,j,rfl,rfl,hz,q⟩:=h
 obtain⟨t,rfl⟩:=rx
 obtain⟨t',rfl⟩:=ry
 exact add_str (fun t' tk=>⟨.str (i++j),H,I.tok _,⟨_,rfl⟩,q⟩) hz
def vals1 {x:V}{us:List Value}(r:fj [x] us):∃ u,us=[u]/\fm x u:=by
 cases r with
 | cons r1 r2=>cases r2;exact⟨_,rfl,r1⟩
def vals2 {x y:V}{us:List Value}(r:fj [x,y] us):∃ u w',us=[u,w']/\fm x u/\fm y w':=by
 cases r with
 | cons r1 r2 =>
  cases r2 with
  | cons r3 r4=>cases r4;exact⟨_,_,rfl,r1,r3⟩
def IH (hc:X.gg=true):iI X (.builtin "max") (fun xs H Q=>∃ i j,xs=[.int i,.int j]/\Q (.int (if j>i then j else i)) H):=by
 intro dA s σ H xs us Q I r h
 obtain⟨i,j,rfl,q⟩:=h
 obtain⟨u,w',rfl,⟨t,rfl⟩,⟨t',rfl⟩⟩:=vals2 r
 refine max_two_ints (I.ok.hd hc) fun h' tk k=>⟨_,H,I.dE k,?_,q⟩
 by_cases hj:j>i
 .rw[au hj,au hj];exact⟨_,rfl⟩
 .rw[aq hj,aq hj];exact⟨_,rfl⟩
end
structure Fu (h:Heap)(x dx C:ai)(mA:Str->Option Value):Prop where
 obj:h.get? x=some (W.instObj C dx)
 ns:h.Ns1 dx mA
 ne:dx≠x
def HZ {h:Heap}{dx:ai}{mA:Str->Option Value}(n:h.Ns1 dx mA):∃ od,h.get? dx=some od/\∀ name,W.lookIn name od=some (mA name):=by
 obtain⟨o,es,ep,ho,hd,hk,_,hm⟩:=n
 refine⟨o,ho,fun name=>?_⟩
 have e:=hm name
 unfold nsFind findBy at e
 rw[<- Array.find?_toList]at e
 unfold W.lookIn
 rw[hd]
 dsimp only
 split
 .rename_i y q
  rw[q]at e
  exact bx some e
 .rename_i q
  rw[q]at e
  have a:es.toList.any (·.refKey)=false:=by
   rw[List.any_eq_false]
   intro y hy
   obtain⟨z,t,KY⟩:=hk y (Array.mem_toList_iff.mp hy)
   simp[DictEntry.refKey,KY]
  have a':¬ es.toList.any (·.refKey)=true:=by rw[a];exact aK
  rw[aq a']
  exact bx some e
def Fu.look {h:Heap}{x dx C:ai}{mA:Str->Option Value}(I:Fu h x dx C mA):∃ od,W.InstAt h x (W.instObj C dx) C (some od)/\∀ name,W.lookIn name od=some (mA name) :=
 let ⟨od,ho,hl⟩:=HZ I.ns
 ⟨od,⟨I.obj,rfl,rfl,ho⟩,hl⟩
section
variable {prog:ae}{w:af}{A:Around}{E:Value->ah->Prop}{s:ah}{K:aa}{x dx C f:ai}{mA:Str->Option Value}{name:Str}{v:Value}
def get_map {expr:Bool}{Q:Value->ah->Prop}(X:K.In s.heap)(I:Fu s.heap x dx C mA)(hg:W.plainGet K C name=true)(hh:W.hasDictIn K C=true)
 (ha:W.findIn K (.ref C) name=some none) (hv:mA name=some v) (Sb:W.handedIn v=true) (h:Q v { s with toks:=s.toks+1}) :
 wpAny (model prog w) A (getAttr (.ref x) name expr) Q E s:=by
 obtain⟨od,J,hl⟩:=I.look
 exact W.get_value X J (W.plainGet_of hg).1 (W.findObj_own hh ha rfl (by rw[hl,hv])) Sb h
def K6 {pl:Sem Bool}{Q:Value×List Value->ah->Prop}(X:K.In s.heap)(I:Fu s.heap x dx C mA)(hg:W.plainGet K C name=true)
 (hf:W.findIn K (.ref C) name=some (some (.ref f))) (ht:W.isFn K (.ref f)=true) (hv:mA name=none) (h:Q (.ref f,[.ref x]) s) :
 wpAny (model prog w) A (getMethod (.ref x) name pl) Q E s:=by
 obtain⟨od,J,hl⟩:=I.look
 exact W.method_fn X J (W.plainGet_of hg).1 (W.plainGet_of hg).2 hf (beq_iff_eq.mp ht) (by show(W.lookIn name od).map (·.isSome)=some false;rw[hl,hv];rfl) h
def Nh {ns:List Str}{Q:Unit->ah->Prop}(X:K.In s.heap)(I:Fu s.heap x dx C mA)
 (hs:W.findIn K (.ref C) "__setattr__"=some (some (.builtin "object.__setattr__"))) (hp:W.plainOver K C=true) (ht:W.takerIn K C name=some none) (hh:W.hasDictIn K C=true)
 (hw:PySem.Within mA ns) (hsz:ns.length<=sizeLine)
 (h:∀ h',Fu h' x dx C (fun y=>if y=name then some v else mA y)->Heap.SameBut dx s.heap h'->Q () { s with heap:=h',toks:=s.toks+2}) :
 wpAny (model prog w) A (setAttr (.ref x) name v) Q E s:=by
 obtain⟨od,J,hl⟩:=I.look
 refine W.set_plain X J hs (W.osa_open (s:={ s with toks:=s.toks+1}) (r:=none) X J hp ht fun b=>?_)
 obtain⟨cd,hc,K3⟩:=W.any_some hh
 have hx:s.heap.get? x=some ⟨.ref C,some dx,.plain,#[]⟩:=I.obj
 refine fb (av (fb (fb (wpAny_loadPart hx (fb (W.Looks.here (s:={ s with toks:=s.toks+1}) (W.looks_clsIn X hc) ?_))))))
 rw[K3]
 refine av (a:=some dx) (fb (av (fb ?_)))
 refine wpAny_nsSet1 (s:={ s with toks:=s.toks+1}) I.ns fun h' Oi Dc=>?_
 obtain⟨oD,esD,epD,hoD,hdD,Oo⟩:=Oi.count (PySem.Within.cons name v hw)
 refine fb (wpAny_lookBehind hoD (by rw[hdD];exact pastItsLine_dict (aE Oo (by rw[aI];lia))) ?_)
 exact av (h _ ⟨(Dc.2 _ (bj I.ne)).trans I.obj,Oi,I.ne⟩ Dc)
def Ko {R:Result->ah->Prop}{vs:List Value}{kw:List (Str×Value)}(X:K.In s.heap)(hm:W.makesIn K C=true)
 (hi:W.findIn K (.ref C) "__init__"=some (some (.ref f))) (hf:W.typeIn K (.ref f)=some (.type "function"))
 (h:codeAny (model prog w) (A.under (.builtin "type.__call__" ⟨.ref C::vs,kw⟩)) (.call (.ref f) ⟨.ref (s.heap.objs.size+1)::vs,kw⟩) (W.InitBack (s.heap.objs.size+1) R)
   { s with heap:=(s.heap.push W.emptyDict).push (W.instObj C s.heap.objs.size)}) :
 codeAny (model prog w) A (.call (.ref C) ⟨vs,kw⟩) R s:=by
 obtain⟨hh,g,d,t,os⟩:=s
 exact W.make_core (W.makes_of X hm) (W.looks_findIn X hi) (fun self=>W.bind_fn X self hf) (.inl rfl) h
end
def mB (f:Str)(v:V):List (Str×V)->List (Str×V)
 | []=>[(f,v)]
 | (g,x)::r=>if g=f then(g,v)::r else(g,x)::mB f v r
def vm (f g:Str)(v:V):∀ fs:List (Str×V),(mB f v fs).lookup g=if g=f then some v else fs.lookup g
 | []=>by
  show List.lookup g [(f,v)]=_
  by_cases h:g=f
  .have hb:(g==f)=true:=beq_iff_eq.mpr h
   simp only[List.lookup,hb,au h]
  .have hb:(g==f)=false:=beq_eq_false_iff_ne.mpr h
   simp only[List.lookup,hb,aq h]
 | (k,x)::r=>by
  have ih:=vm f g v r
  rw[show mB f v ((k,x)::r)=(if k=f then(k,v)::r else(k,x)::mB f v r)from rfl]
  by_cases hk:k=f
  .rw[au hk]
   by_cases h:g=k
   .have hb:(g==k)=true:=beq_iff_eq.mpr h
    simp only[List.lookup,hb,au (h.trans hk)]
   .have hb:(g==k)=false:=beq_eq_false_iff_ne.mpr h
    simp only[List.lookup,hb,aq (fun e:g=f=>h (e.trans hk.symm))]
  .rw[aq hk]
   by_cases h:g=k
   .have hb:(g==k)=true:=beq_iff_eq.mpr h
    simp only[List.lookup,hb,aq (fun e:g=f=>hk (h.symm.trans e))]
   .have hb:(g==k)=false:=beq_eq_false_iff_ne.mpr h
    simp only[List.lookup,hb]
    exact ih
def uK (f:Str)(v:V):∀ fs:List (Str×V),f∈(mB f v fs).map (·.1)/\∀ g,g∈fs.map (·.1)->g∈(mB f v fs).map (·.1)
 | []=>⟨by simp[mB],fun g h=>by simp at h⟩
 | (k,x)::r=>by
  obtain⟨i1,i2⟩:=uK f v r
  rw[show mB f v ((k,x)::r)=(if k=f then(k,v)::r else(k,x)::mB f v r)from rfl]
  by_cases hk:k=f
  .rw[au hk]
   subst hk
   exact⟨by simp,fun g h=>by simpa using h⟩
  .rw[aq hk]
   refine⟨?_,fun g h=>?_⟩
   .rw[aw]
    exact oO _ i1
   .rw[aw]at h ⊢
    rcases List.mem_cons.mp h with e | e
    .exact List.mem_cons.mpr (.inl e)
    .exact oO _ (i2 g e)
def vo (f:Str)(v:V):∀ fs:List (Str×V),(mB f v fs).length<=fs.length+1
 | []=>by simp[mB]
 | (k,x)::r=>by
  have ih:=vo f v r
  rw[show mB f v ((k,x)::r)=(if k=f then(k,v)::r else(k,x)::mB f v r)from rfl]
  by_cases hk:k=f
  .rw[au hk,aI,aI];lia
  .rw[aq hk,aI,aI];lia
def qO.some_of {v:V}{o:Option Value}(r:qO (some v) o):∃ u,o=some u/\fm v u:=by
 cases o with
 | none=>exact(show False from r).elim
 | some u=>exact⟨u,rfl,r⟩
def qO.none_of {o:Option Value}(r:qO none o):o=none:=by
 cases o with
 | none=>rfl
 | some u=>exact(show False from r).elim
def Iu {v:V}{u:Value}(r:fm v u):W.handedIn u=true:=by
 cases v with
 | gy=>cases(show u=Value.none from r);rfl
 | bl b=>cases(show u=Value.bool b from r);rfl
 | int i=>obtain⟨t,e⟩:=(show ∃ t,u=Value.int i t from r);cases e;rfl
 | str x=>obtain⟨t,e⟩:=(show ∃ t,u=Value.str x t from r);cases e;rfl
 | II b=>obtain⟨t,e⟩:=(show ∃ t,u=Value.bytes b t from r);cases e;rfl
 | Qk b=>obtain⟨t,e⟩:=(show ∃ t,u=Value.float b t from r);cases e;rfl
 | ref a=>cases(show u=Value.ref a from r);rfl
 | ty n=>cases(show u=Value.type n from r);rfl
section
variable {P:ae}{w:af}{H H':Hp}{h h':Heap}{a C dx:ai}{fs IU:List (Str×V)}
def wF (fc:o7 P w H h)(e:H a=some (.ins C dx fs)):∃ mA,Fu h a dx C mA/\(∀ f,qO (fs.lookup f) (mA f))/\PySem.Within mA (fs.map (·.1))/\fs.length<=1000/\H dx=some (.own a):=by
 obtain⟨d,z,ne,ob,mA,n,r,q⟩:=(show gh P w H h a (.ins C dx fs)from fc a _ e)
 exact⟨mA,⟨ob,n,ne⟩,r,q,z,d⟩
end
structure xa (K:aa)(C:ai):Prop where
 pg:W.plainGet K C Str.empty=true
 hd:W.hasDictIn K C=true
 po:W.plainOver K C=true
 sa:W.findIn K (.ref C) "__setattr__"=some (some (.builtin "object.__setattr__"))
def xa.get {K:aa}{C:ai}(c:xa K C)(f:Str):W.plainGet K C f=true:=c.pg
def lM (K:aa)(C:ai)(f:Str):Prop:=W.findIn K (.ref C) f=some none
def lM.Ub {K:aa}{C:ai}{f:Str}(n:lM K C f):W.takerIn K C f=some none:=by
 unfold W.takerIn
 rw[show W.findIn K (.ref C) f=some none from n]
 rfl
structure Meth (K:aa)(C:ai)(m:Str)(f:ai):Prop where
 at_:W.findIn K (.ref C) m=some (some (.ref f))
 fn:W.isFn K (.ref f)=true
 kp:W.keepIn K (.ref f)=true
section
variable {X:Cx}{dA:List (ai×Obj)}{σ:St}{H:Hp}{s:ah}{a C dx:ai}{fs:List (Str×V)}{f:Str}{v:V}{A:Around}{E:Value->ah->Prop}
def x9 {b:Bool}{Q:Value->ah->Prop}(I:Inv X dA σ H s)(e:H a=some (.ins C dx fs))(c:xa X.K C)(n:lM X.K C f)(l:fs.lookup f=some v)
 (h:∀ u s',Inv X dA σ H s'->fm v u->Q u s'):wpAny (model X.prog X.w) A (getAttr (.ref a) f b) Q E s:=by
 obtain⟨mA,O,r,_,_,_⟩:=wF I.fc e
 obtain⟨u,hu,ru⟩:=qO.some_of (v:=v) (o:=mA f) (by rw[<- l];exact r f)
 exact get_map I.rN O (c.get f) c.hd n hu (Iu ru) (h u _ (I.tok _) ru)
def sE {m:Str}{g:ai}{pl:Sem Bool}{Q:Value×List Value->ah->Prop}(I:Inv X dA σ H s)(e:H a=some (.ins C dx fs))(c:xa X.K C)(k:Meth X.K C m g)(l:fs.lookup m=none)
 (h:Q (.ref g,[.ref a]) s):wpAny (model X.prog X.w) A (getMethod (.ref a) m pl) Q E s:=by
 obtain⟨mA,O,r,_,_,_⟩:=wF I.fc e
 have hn:mA m=none:=qO.none_of (by rw[<- l];exact r m)
 exact K6 I.rN O (c.get m) k.at_ k.fn hn h
def xr {y:V}{u:Value}{Q:Unit->ah->Prop}(I:Inv X dA σ H s)(e:H a=some (.ins C dx fs))(c:xa X.K C)(n:lM X.K C f)(hl:fs.length<1000)(ry:fm y u)
 (h:∀ s',Inv X dA σ (upd H a (.ins C dx (mB f y fs))) s'->Q () s'):wpAny (model X.prog X.w) A (setAttr (.ref a) f u) Q E s:=by
 obtain⟨mA,O,r,wi,_,ho⟩:=wF I.fc e
 have hz:(fs.map (·.1)).length<=sizeLine:=by rw[fH,sizeLine_eq];lia
 refine Nh I.rN O c.sa c.po n.Ub c.hd wi hz fun h' O' sb=>h _ ?_
 have hd:∃ o,h'.get? dx=some o:=let ⟨o,_,_,e',_⟩:=O'.ns;⟨o,e'⟩
 refine I.write (x:=a) (e:=dx) (by rw[e];exact True.intro) (.inr ho) (fun b q hb z=>(sb.2 b hb).trans z) hd ?_
 refine⟨by rw[eP O.ne];exact ho,?_,O.ne,O'.obj,_,O'.ns,fun g=>?_,fun g hg=>?_⟩
 .have:=vo f y fs;lia
 .show qO ((mB f y fs).lookup g) (if g=f then some u else mA g)
  rw[vm]
  by_cases q:g=f
  .rw[au q,au q];exact ry
  .rw[aq q,aq q];exact r g
 .by_cases q:g=f
  .rw[q];exact(uK f y fs).1
  .refine(uK f y fs).2 g (wi g fun z=>hg ?_)
   show(if g=f then some u else mA g)=none
   rw[aq q];exact z
def Inv.made (I:Inv X dA σ H s):Inv X dA σ (upd (upd H s.heap.objs.size (.own (s.heap.objs.size+1))) (s.heap.objs.size+1) (.ins C s.heap.objs.size []))
 { s with heap:=(s.heap.push W.emptyDict).push (W.instObj C s.heap.objs.size)}:=by
 have e1:(s.heap.push W.emptyDict).get? s.heap.objs.size=some W.emptyDict:=aD s.heap rfl
 have e2:((s.heap.push W.emptyDict).push (W.instObj C s.heap.objs.size)).get? (s.heap.objs.size+1)=some (W.instObj C s.heap.objs.size):=by
  have:=aD (s.heap.push W.emptyDict) (o:=W.instObj C s.heap.objs.size) rfl
  rwa [bc]at this
 have e3:(s.heap.push W.emptyDict).Ns s.heap.objs.size (fun _=>none):=⟨W.emptyDict,#[],_,e1,rfl,(fun e he=>absurd he (by simp)),fun _=>rfl⟩
 have I1:=I.laid (a:=s.heap.objs.size) (o:=.own (s.heap.objs.size+1)) (h':=s.heap.push W.emptyDict) (t':=s.toks) (fun b u q=>j0 _ q) (aj _) ⟨_,e1⟩
 refine I1.laid (a:=s.heap.objs.size+1) (o:=.ins C s.heap.objs.size []) (t':=s.toks) (fun b u q=>j0 _ q) (Nat.le_of_eq (bc _ _)) ?_
 have ne:s.heap.objs.size≠s.heap.objs.size+1:=aL (bX _)
 refine⟨by rw[eP ne,eI],a6 _,ne,e2,fun _=>none,(Heap.Ns1.of_empty e3).at fun o q=>j0 _ q,fun _=>True.intro,fun y hy=>absurd rfl hy⟩
def O0 {prog:ae}{w:af}{env:Env}{e:Expr}{f:Str}{pos:Pos}{s:ah}{Q:Value->ah->Prop}(hb:attributeBase e f env (eval e env)=eval e env)
 (h:wpAny (model prog w) A (eval e env) (fun o s₁=>wpAny (model prog w) A (getAttr o f true) Q E s₁) E s):wpAny (model prog w) A (eval (.Attribute e f pos) env) Q E s :=
 Attribute_any_ h (by rw[arm_eval_Attribute,hb])
end
def Xq (K:aa)(ta:TE)(f:Str):TE:=fun σ H Q=>ta σ H fun x H1=>∃ a C dx fs v,x=.ref a/\H1 a=some (.ins C dx fs)/\xa K C/\lM K C f/\fs.lookup f=some v/\Q v H1
def XB (K:aa)(ta tv:TE)(f:Str):TS:=fun D σ H=>tv σ H fun y H1=>ta σ H1 fun x H2=>∃ a C dx fs,x=.ref a/\H2 a=some (.ins C dx fs)/\xa K C/\lM K C f/\fs.length<1000 /\
 D.nx σ (upd H2 a (.ins C dx (mB f y fs)))
def Th (X:Cx)(op:Operator)(rd:V->V->Hp->VK->Prop):Prop :=
 ∀(dA:List (ai×Obj)) (s:ah) (σ:St) (H:Hp) (x y:V) (u v:Value) (Q:VK),Inv X dA σ H s->fm x u->fm y v->rd x y H Q->wpAny (model X.prog X.w) X.A (inplaceOp op u v) (EP X dA σ Q) X.xe s
def Gd (K:aa)(ta tv:TE)(rd:V->V->Hp->VK->Prop)(f:Str):TS:=fun D σ H=>ta σ H fun x H1=>∃ a C dx fs v,x=.ref a/\H1 a=some (.ins C dx fs)/\xa K C/\lM K C f/\fs.lookup f=some v /\
 tv σ H1 fun y H2=>rd v y H2 fun z H3=>∃ Qp IU,H3 a=some (.ins C Qp IU)/\IU.length<1000/\D.nx σ (upd H3 a (.ins C Qp (mB f z IU)))
section
variable {X:Cx}{o e value:Expr}{f:Str}{pos pos' rG:Pos}{ta tv:TE}
def Rr (he:PE X e ta)(hb:attributeBase e f X.env (eval e X.env)=eval e X.env):PE X (.Attribute e f pos) (Xq X.K ta f):=by
 intro dA s σ H Q I h
 refine O0 hb (gc (he dA s σ H _ I h) fun u s1 qu=>?_)
 obtain⟨x,H1,I1,rx,a,C,dx,fs,v,ex,ea,c,n,l,q⟩:=qu
 subst ex
 obtain rfl:u=Value.ref a:=rx
 exact x9 I1 ea c n l fun u' s2 I2 ru=>⟨v,H1,I2,ru,q⟩
def Rf (ha:PE X o ta)(hv:PE X value tv)(hs:swapsWith value (some (.Attribute o f pos')) pos.line X.env=pure false):PS X (.Assign [.Attribute o f pos'] value pos) (XB X.K ta tv f):=by
 intro dA s σ H D I h
 refine plainObj_wpAny_Assign_Attribute (gc (hv dA s σ H _ I h) fun u s1 sC=>?_) hs
 obtain⟨y,H1,I1,ry,q⟩:=sC
 refine gc (ha dA s1 σ H1 _ I1 q) fun ov s2 rl=>?_
 obtain⟨x,H2,I2,rx,a,C,dx,fs,ex,ea,c,n,l,q2⟩:=rl
 subst ex
 obtain rfl:ov=Value.ref a:=rx
 exact xr I2 ea c n l ry fun s3 I3=>⟨σ,_,I3,q2⟩
def zw {op:Operator}{rd:V->V->Hp->VK->Prop}(ha:PE X o ta)(hv:PE X value tv)(hop:Th X op rd):PS X (.AugAssign (.Attribute o f rG) op value pos) (Gd X.K ta tv rd f):=by
 intro dA s σ H D I h
 refine wpAny_AugAssign_AttributeAny (gc (ha dA s σ H _ I h) fun ov s1 pF=>?_)
 obtain⟨x,H1,I1,rx,a,C,dx,fs,v,ex,ea,c,n,l,q⟩:=pF
 subst ex
 obtain rfl:ov=Value.ref a:=rx
 refine x9 I1 ea c n l fun u s2 I2 ru=>gc (hv dA s2 σ H1 _ I2 q) fun w3 s3 oN=>?_
 obtain⟨y,H2,I3,ry,q3⟩:=oN
 refine gc (hop dA s3 σ H2 v y u w3 _ I3 ru ry q3) fun w4 s4 tO=>?_
 obtain⟨z,H3,I4,rz,Qp,IU,ea',l',q4⟩:=tO
 exact xr I4 ea' c n l' rz fun s5 I5=>⟨σ,_,I5,q4⟩
def XI:V->V->Hp->VK->Prop:=fun x y H Q=>∃ i j,x=.int i/\y=.int j/\Q (.int (i+j)) H
def XC:V->V->Hp->VK->Prop:=fun x y H Q=>∃ i j,x=.int i/\y=.int j/\Q (.int (i - j)) H
def R8:Th X .Add XI:=by
 rintro dA s σ H x y u v Q I rx ry ⟨i,j,rfl,rfl,q⟩
 obtain⟨t,rfl⟩:=(show ∃ t,u=Value.int i t from rx)
 obtain⟨t',rfl⟩:=(show ∃ t',v=Value.int j t' from ry)
 exact PyProof.Rows.iadd_int ⟨.int (i+j),H,I.tok _,⟨_,rfl⟩,q⟩
def R7:Th X .Sub XC:=by
 rintro dA s σ H x y u v Q I rx ry ⟨i,j,rfl,rfl,q⟩
 obtain⟨t,rfl⟩:=(show ∃ t,u=Value.int i t from rx)
 obtain⟨t',rfl⟩:=(show ∃ t',v=Value.int j t' from ry)
 exact PyProof.Rows.isub_int ⟨.int (i - j),H,I.tok _,⟨_,rfl⟩,q⟩
def PX {pl:Sem Bool}{m:Str}{fY:Pos}{args:List Expr}{dA:List (ai×Obj)}{s:ah}{σ:St}{H:Hp}{Q:Value->ah->Prop}{te:TE}(he:PE X e te)(I:Inv X dA σ H s)
 (h:te σ H fun x H1=>∃ a C dx fs g,x=.ref a/\H1 a=some (.ins C dx fs)/\xa X.K C/\Meth X.K C m g/\fs.lookup m=none /\
   ∀ s1,Inv X dA σ H1 s1->wpAny (model X.prog X.w) X.A (callWith pos (.ref g) [.ref a] (backTo pos (starEach args X.env)) (backToKw pos (keywordEach [] X.env))) Q X.xe s1)
 (ht:eval (.Call (.Attribute e m fY) args [] pos) X.env=(do
   let ov <- eval e X.env
   standAt fY.atName
   let (f,first) <- holding [ov] (getMethod ov m pl)
   callWith pos f first (backTo pos (starEach args X.env)) (backToKw pos (keywordEach [] X.env)))) :
 wpAny (model X.prog X.w) X.A (eval (.Call (.Attribute e m fY) args [] pos) X.env) Q X.xe s:=by
 refine W.methodCall_KW (pl:=pl) (gc (he dA s σ H _ I h) fun u s1 sD=>?_) ht
 obtain⟨x,H1,I1,rx,a,C,dx,fs,g,ex,ea,c,k,l,q⟩:=sD
 subst ex
 obtain rfl:u=Value.ref a:=rx
 exact sE I1 ea c k l (q s1 I1)
end
section
variable {X:Cx}{dA:List (ai×Obj)}{σ:St}{H:Hp}{s:ah}{A:Around}{E:Value->ah->Prop}{Q:Value->ah->Prop}{c:Value}{b:Bool}
inductive jQ (K:aa)(H:Hp):V->Value->Prop where
 | gy:jQ K H .gy (.type "NoneType")
 | bl (x:Bool):jQ K H (.bl x) (.type "bool")
 | int (i:Int):jQ K H (.int i) (.type "int")
 | str (x:Str):jQ K H (.str x) (.type "str")
 | Qk (x:UInt64):jQ K H (.Qk x) (.type "float")
 | lst {a:ai} {xs:List V} (e:H a=some (.lst xs)):jQ K H (.ref a) (.type "list")
 | mC {a:ai} {o:Obj} {xs:List V} (e:H a=some (.mC o (.lst xs))):jQ K H (.ref a) (.type "list")
 | tup {a:ai} {xs:List V} (e:H a=some (.tup xs)):jQ K H (.ref a) (.type "tuple")
 | dK {a:ai} {kvs:List (Key×V)} (e:H a=some (.dK kvs)):jQ K H (.ref a) (.type "dict")
 | dT {a:ai} {kvs:List (List Key×V)} (e:H a=some (.dT kvs)):jQ K H (.ref a) (.type "dict")
 | ins {a C dx:ai} {fs:List (Str×V)} (e:H a=some (.ins C dx fs)) (cl:xa K C) (ha:W.findIn K (.ref C) "__class__"=some (some (.builtin "object.__class__")))
  (hn:W.specialIn K (.builtin "object.__class__") "__get__"=some (some (.builtin "getset_descriptor.__get__"))) (htk:W.takesIn K (.builtin "object.__class__")=some true)
  (hm:W.mroIn K C (.type "object")=some true):jQ K H (.ref a) (.ref C)
def Ih {x:V}{u t:Value}(I:Inv X dA σ H s)(rx:fm x u)(ty:jQ X.K H x t)(e:W.kitOne X.K t c=some b)(h:∀ tk,Q (.bool b) { s with toks:=tk}) :
 wpAny (model X.prog X.w) A (call (.builtin "isinstance") [u,c]) Q E s:=by
 cases ty with
 | gy=>cases(show u=Value.none from rx);exact cG W.kitx_none I.rN True.intro e (fun z=>nomatch z) h
 | bl y=>cases(show u=Value.bool y from rx);exact cG W.kitx_bool I.rN True.intro e (fun z=>nomatch z) h
 | int i=>obtain⟨t,q⟩:=(show ∃ t,u=Value.int i t from rx);cases q;exact cG W.kitx_int I.rN True.intro e (fun z=>nomatch z) h
 | str y=>obtain⟨t,q⟩:=(show ∃ t,u=Value.str y t from rx);cases q;exact cG W.kitx_str I.rN True.intro e (fun z=>nomatch z) h
 | Qk y=>obtain⟨t,q⟩:=(show ∃ t,u=Value.float y t from rx);cases q;exact cG W.kitx_float I.rN True.intro e (fun z=>nomatch z) h
 | @lst a xs ea =>
  cases(show u=Value.ref a from rx)
  obtain⟨_,_,n,_,h1⟩:=(show gh X.prog X.w H s.heap a (.lst xs)from I.fc a _ ea)
  exact cG W.kitx_list I.rN ⟨_,h1,rfl⟩ e (fun z=>nomatch z) h
 | @mC a ob xs ea =>
  cases(show u=Value.ref a from rx)
  obtain⟨_,_,_,n,_,h1⟩:=(show gh X.prog X.w H s.heap a (.mC ob (.lst xs))from I.fc a _ ea)
  exact cG W.kitx_list I.rN ⟨_,h1,rfl⟩ e (fun z=>nomatch z) h
 | @tup a xs ea =>
  cases(show u=Value.ref a from rx)
  obtain⟨_,_,_,p⟩:=(show gh X.prog X.w H s.heap a (.tup xs)from I.fc a _ ea)
  obtain⟨o,h1,h2,_⟩:=p
  exact cG W.kitx_tuple I.rN ⟨o,h1,h2⟩ e (fun z=>nomatch z) h
 | @dK a kvs ea =>
  cases(show u=Value.ref a from rx)
  obtain⟨_,_,vs,_,p⟩:=(show gh X.prog X.w H s.heap a (.dK kvs)from I.fc a _ ea)
  obtain⟨o,es,ep,h1,h2,_⟩:=p
  exact cG W.kitx_dict I.rN ⟨o,h1,h2.1⟩ e (fun z=>nomatch z) h
 | @dT a kvs ea =>
  cases(show u=Value.ref a from rx)
  obtain⟨_,_,xs,_,o,es,ep,h1,h2,_⟩:=(show gh X.prog X.w H s.heap a (.dT kvs)from I.fc a _ ea)
  exact cG W.kitx_dict I.rN ⟨o,h1,h2.1⟩ e (fun z=>nomatch z) h
 | @ins a C dx fs ea cl ha hn htk hm =>
  cases(show u=Value.ref a from rx)
  obtain⟨mA,O,_⟩:=wF I.fc ea
  obtain⟨od,J,_⟩:=O.look
  exact cG (W.kitx_own (cl.get _) cl.hd ha hn htk hm) I.rN J e (fun z=>nomatch z) h
end
structure iz (k:Nat)(A:Around):Prop where
 hd:A.handled=none
 dp:A.depth+3*k+5<recursionLimit
 un:A.units+16*k+200<cLine
def iz.mono {j k:Nat}{A:Around}(r:iz k A)(h:j<=k):iz j A:=⟨r.hd,by have:=r.dp;lia,by have:=r.un;lia⟩
def iz.deeper {k:Nat}{A:Around}(r:iz (k+1) A)(env:Env):iz k (A.deeper env) :=
 ⟨r.hd,by have:=r.dp;show A.depth+1+3*k+5<_;lia,by have:=r.un;show A.units+3+16*k+200<_;lia⟩
def EL {A:Around}{C:ai}{us:List Value}{kw:List (Str×Value)}:(A.under (.builtin "type.__call__" ⟨.ref C::us,kw⟩)).depth=A.depth+1:=by
 first | rfl | simp[Around.under,Code.weight,Code.isCreation,Code.isGuard,Code.isCaller,Code.frames,Code.isFrame,guardIds]
def EK {A:Around}{C:ai}{us:List Value}{kw:List (Str×Value)}:(A.under (.builtin "type.__call__" ⟨.ref C::us,kw⟩)).units=A.units+1:=by
 first | rfl | simp[Around.under,Code.cUnits,Code.frames,Code.isFrame]
def iz.make {k:Nat}{A:Around}(r:iz (k+1) A)(C:ai)(us:List Value)(kw:List (Str×Value)):iz k (A.under (.builtin "type.__call__" ⟨.ref C::us,kw⟩)) :=
 ⟨r.hd,by have:=r.dp;rw[EL];lia,by have:=r.un;rw[EK];lia⟩
def iz.depth {k:Nat}{A:Around}(r:iz k A):A.depth<recursionLimit:=by have:=r.dp;lia
def iz.units {k:Nat}{A:Around}(r:iz k A):A.units+64<cLine:=by have:=r.un;lia
def MY:TA:=fun _ H Q=>Q [] H
def Ju (ta:TE)(tr:TA):TA:=fun σ H Q=>ta σ H fun x H1=>tr σ H1 fun xs H2=>Q (x::xs) H2
section
variable {X:Cx}{e:Expr}{es:List Expr}{te:TE}{t:TA}{pos:Pos}
def gJ:PA X [] MY:=fun _ _ _ _ H Q I h=>Calls.spliced_nil ⟨[],H,I,.nil,h⟩
def eO (ha:PE X e te)(hr:PA X es t)(hs:starEach (e::es) X.env=(false,eval e X.env)::starEach es X.env:=by rfl):PA X (e::es) (Ju te t):=by
 intro pos dA s σ H Q I h
 rw[hs]
 show wpAny _ _ (spliced ((false,eval e X.env)::backTo pos (starEach es X.env))) _ _ s
 refine Calls.spliced_cons (gc (ha dA s σ H _ I h) fun u s1 qu=>?_)
 obtain⟨x,H1,I1,r1,q1⟩:=qu
 exact gc (hr pos dA s1 σ H1 _ I1 q1) fun us s2 sC=>by obtain⟨xs,H2,I2,r2,q2⟩:=sC;exact⟨x::xs,H2,I2,.cons r1 r2,q2⟩
def Xi (t:TA):TE:=fun σ H Q=>t σ H fun xs H1=>xs.length<=sizeLine/\∀ p,H1 p=none->Q (.ref p) (upd H1 p (.tup xs))
def Xm (t:TA):TE:=fun σ H Q=>t σ H fun xs H1=>xs.length<=sizeLine/\∀ p,H1 p=none->Q (.ref p) (upd H1 p (.lst xs))
def Rl {x1}(h:PA X es t):PE X (.Tuple es x1 pos) (Xi t):=by
 intro dA s σ H Q I hq
 refine wpAny_Tuple_spliced (gc (h pos dA s σ H _ I hq) fun us s1 ⟨xs,H1,I1,r,z,q⟩=>⟨by rw[<- r.length];exact z,?_⟩)
 have hf:H1 s1.heap.objs.size=none:=I1.fc.fresh (aj _)
 refine⟨.ref s1.heap.objs.size,upd H1 s1.heap.objs.size (.tup xs),I1.laid (t':=s1.toks) (fun b u e=>j0 _ e) (aj _) ?_,rfl,q _ hf⟩
 exact⟨z,us,r,⟨_,aD _ rfl,rfl,_,rfl⟩⟩
def JS (h:PA X es t):PE X (.List es pos) (Xm t):=by
 intro dA s σ H Q I hq
 refine wpAny_List_spliced (gc (h pos dA s σ H _ I hq) fun us s1 ⟨xs,H1,I1,r,z,q⟩=>⟨by rw[<- r.length];exact z,?_⟩)
 have hf:H1 s1.heap.objs.size=none:=I1.fc.fresh (aj _)
 refine⟨.ref s1.heap.objs.size,upd H1 s1.heap.objs.size (.lst xs),I1.laid (t':=s1.toks) (fun b u e=>j0 _ e) (aj _) ?_,rfl,q _ hf⟩
 exact⟨z,us,0,r,aD _ rfl⟩
end
abbrev Sp:=List V->Hp->VK->XK->Prop
abbrev IP:=List Env->Hp->ah->XK->Value->ah->Prop
structure BI (P:ae)(w:af)(K:aa)(mg:Str->Option Value)(dD:Heap)(A:Around)(dW:List Env)(s:ah)(H:Hp):Prop where
 frames:A.frames=some dW
 mod:Mod K mg dD
 bs:∀ b o,dD.get? b=some o->s.heap.get? b=some o/\H b=none
 Fj:dD.objs.size<=s.heap.objs.size
 rH:s.heap.FunFrames dD dW
 MK:∀ b∈ze dW,H b=none
 fc:o7 P w H s.heap
 bare:AllBare s.gens
def CE (dW:List Env)(P:ae)(w:af)(H:Hp)(s:ah)(Q:VK)(u:Value)(s':ah):Prop :=
 ∃ v H',s'.os=s.os/\AllBare s'.gens/\Un (ze dW) [] H H' s.heap s'.heap/\o7 P w H' s'.heap/\fm v u/\Q v H'
def CR (CX:IP)(dW:List Env)(P:ae)(w:af)(H:Hp)(s:ah)(Q:VK)(E:XK)(r:Result)(s':ah):Prop :=
 match r with
 | .ok (.ret u)=>CE dW P w H s Q u s'
 | .ok _=>False
 | .error e=>CX dW H s E e s'
structure eV (P:ae)(w:af)(K:aa)(mg:Str->Option Value)(dD:Heap)(CX:IP)(k:Nat)(f:ai)(fd:ag)(ps:List Str)(sp:Sp):Prop where
 len:∀ vs H Q E,sp vs H Q E->vs.length=ps.length
 run:∀(A:Around) (dW:List Env) (s:ah) (H:Hp) (args:Args) (us:List Value) (vs:List V) (Q:VK) (E:XK),iz k A->BI P w K mg dD A dW s H->BindsTo s fd args (ps.zip us)->fj vs us->sp vs H Q E ->
  codeAny (model P w) A (.call (.ref f) args) (CR CX dW P w H s Q E) s
def eV.mono {P:ae}{w:af}{K:aa}{mg:Str->Option Value}{dD:Heap}{CX:IP}{j k:Nat}{f:ai}{fd:ag}{ps:List Str}{sp:Sp}(F:eV P w K mg dD CX j f fd ps sp)(h:j<=k) :
 eV P w K mg dD CX k f fd ps sp:=⟨F.len,fun A dW s H args us vs Q E hr=>F.run A dW s H args us vs Q E (hr.mono h)⟩
def eV.imp {P:ae}{w:af}{K:aa}{mg:Str->Option Value}{dD:Heap}{CX:IP}{k:Nat}{f:ai}{fd:ag}{ps:List Str}{sp sp':Sp}(F:eV P w K mg dD CX k f fd ps sp)
 (h:∀ vs H Q E,sp' vs H Q E->sp vs H Q E):eV P w K mg dD CX k f fd ps sp' :=
 ⟨fun vs H Q E q=>F.len vs H Q E (h _ _ _ _ q),fun A dW s H args us vs Q E hr he hb hv hs=>F.run A dW s H args us vs Q E hr he hb hv (h _ _ _ _ hs)⟩
def BI.make {P:ae}{w:af}{K:aa}{mg:Str->Option Value}{dD:Heap}{A:Around}{dW:List Env}{s:ah}{H:Hp}(e:BI P w K mg dD A dW s H)(C:ai)(us:List Value)(kw:List (Str×Value)) :
 BI P w K mg dD (A.under (.builtin "type.__call__" ⟨.ref C::us,kw⟩)) dW s H:=⟨by first | exact e.frames | (simpa [Around.under,Code.envs,Code.isFrame,pushEnvs]using e.frames),e.mod,e.bs,e.Fj,e.rH,e.MK,e.fc,e.bare⟩
section
variable {X:Cx}{dA:List (ai×Obj)}{σ:St}{H:Hp}{s s':ah}
def Inv.Sw (I:Inv X dA σ H s):BI X.prog X.w X.K X.mg X.dD X.A X.stack s H :=
 ⟨I.ok.frames,I.ok.mod,I.bs,aE I.ok.Fj I.sz,I.stack,I.qX,I.fc,I.bare⟩
def Inv.after {Q:VK}{u:Value}(I:Inv X dA σ H s)(h:CE X.stack X.prog X.w H s Q u s'):EP X dA σ Q u s':=by
 obtain⟨v,H',os,bare,un,fc,r,q⟩:=h
 obtain⟨hh,g,d,t,os'⟩:=s'
 obtain rfl:os'=s.os:=os
 exact⟨v,H',I.call (h':=hh) (g':=g) (d':=d) (t':=t) (ch:=[]) un fc bare (fun b z=>absurd z (by simp)),r,q⟩
end
def Pp (sp:Sp)(dvs:List V)(E:XK)(t:TA):TE:=fun σ H Q=>t σ H fun vs H1=>sp (vs++dvs) H1 Q E
def B1 (C:ai)(m:Str)(sp:Sp)(dvs:List V)(E:XK)(ta:TE)(t:TA):TE:=fun σ H Q=>ta σ H fun x H1=>∃ a dx fs,x=.ref a/\H1 a=some (.ins C dx fs)/\fs.lookup m=none /\
 t σ H1 fun vs H2=>sp (x::(vs++dvs)) H2 Q E
def Jr (C:ai)(sp:Sp)(dvs:List V)(E:XK)(t:TA):TE:=fun σ H Q=>t σ H fun vs H1=>∀ x dx,H1 x=none->H1 dx=none->dx≠x ->
 sp (.ref x::(vs++dvs)) (upd (upd H1 dx (.own x)) x (.ins C dx [])) (fun v H2=>v=.gy/\Q (.ref x) H2) E
def Binds (K:aa)(fd:ag)(ps:List Str)(ds:List Value):Prop :=
 ∀(s:ah) (us:List Value),K.In s.heap->(us++ds).length=ps.length->BindsTo s fd ⟨us,[]⟩ (ps.zip (us++ds))
def Binds.all {K:aa}{fd:ag}{ps:List Str}(h:∀ us:List Value,us.length=ps.length->bindArgs fd ⟨us,[]⟩=pure (ps.zip us)):Binds K fd ps []:=fun s us _ hl=>by
 rw[aV]at hl ⊢
 exact .of_eq (h us hl)
def Passes (CX:IP)(X:Cx)(E:XK):Prop:=∀(dA:List (ai×Obj)) (σ:St) (H:Hp) (s:ah) (e:Value) (s':ah),Inv X dA σ H s->CX X.stack H s E e s'->X.xe e s'
section
variable {X:Cx}{CX:IP}{k:Nat}{f C:ai}{fd:ag}{ps:List Str}{sp:Sp}{dvs:List V}{ds:List Value}{E:XK}{x m:Str}{p pos fY:Pos}{e o:Expr}{es:List Expr}{ta:TE}{t:TA}
def Av {dA:List (ai×Obj)}{σ:St}{H:Hp}{s:ah}{Q:VK}{us:List Value}{vs:List V}(F:eV X.prog X.w X.K X.mg X.dD CX k f fd ps sp)(hr:iz k X.A)(hb:Binds X.K fd ps ds)(hd:fj dvs ds)(hx:Passes CX X E)
 (I:Inv X dA σ H s) (r:fj vs us) (h:sp (vs++dvs) H Q E):wpAny (model X.prog X.w) X.A (call (.ref f) us) (EP X dA σ Q) X.xe s:=by
 have r2:fj (vs++dvs) (us++ds):=r.append hd
 have hl:(us++ds).length=ps.length:=by rw[<- r2.length];exact F.len _ _ _ _ h
 refine wpAny_call (codeAny_mono (F.run X.A X.stack s H ⟨us,[]⟩ (us++ds) (vs++dvs) Q E hr I.Sw (hb s us I.rN hl) r2 h) fun r s' hq=>?_)
 cases r with
 | error e=>exact hx dA σ H s e s' I hq
 | ok fl =>
  cases fl with
  | ret u=>exact I.after hq
  | next=>exact False.elim hq
  | brk=>exact False.elim hq
  | cont=>exact False.elim hq
def Gp (F:eV X.prog X.w X.K X.mg X.dD CX k f fd ps sp)(hr:iz k X.A)(hg:Gl X x)(hm:X.mg x=some (.ref f))(hk:W.keepIn X.K (.ref f)=true)(hb:Binds X.K fd ps ds)(hd:fj dvs ds)(hx:Passes CX X E)
 (ha:PA X (e::es) t) (uN:(x==("__debug__" : Str))=false:=by decide) (he:starEach (e::es) X.env=(false,eval e X.env)::starEach es X.env:=by rfl) (lW:(backTo pos (starEach es X.env)).any (·.1)=false:=by rfl) :
 PE X (.Call (.Name x p) (e::es) [] pos) (Pp sp dvs E t):=by
 intro dA s σ H Q I h
 refine bW (oI I hg hm ?_ uN)
 refine W.callWith_K (h₀:=X.dD) I.ok.mod.PZ hk (gc (ha pos dA s σ H _ I h) fun us s1 oN=>?_) he lW
 obtain⟨vs,H1,I1,r,q⟩:=oN
 refine⟨I1.rN,?_⟩
 exact Av F hr hb hd hx I1 r q
def AD {pl:Sem Bool}(he:PE X o ta)(c:xa X.K C)(hm:Meth X.K C m f)(F:eV X.prog X.w X.K X.mg X.dD CX k f fd ps sp)(hr:iz k X.A)(hb:Binds X.K fd ps ds)(hd:fj dvs ds)(hx:Passes CX X E)(ha:PA X (e::es) t)
 (BR:starEach (e::es) X.env=(false,eval e X.env)::starEach es X.env:=by rfl) (lW:(backTo pos (starEach es X.env)).any (·.1)=false:=by rfl)
 (ht:eval (.Call (.Attribute o m fY) (e::es) [] pos) X.env=(do
   let ov <- eval o X.env
   standAt fY.atName
   let (f,first) <- holding [ov] (getMethod ov m pl)
   callWith pos f first (backTo pos (starEach (e::es) X.env)) (backToKw pos (keywordEach [] X.env))):=by rfl) :
 PE X (.Call (.Attribute o m fY) (e::es) [] pos) (B1 C m sp dvs E ta t):=by
 intro dA s σ H Q I h
 refine W.methodCall_KW (pl:=pl) (gc (he dA s σ H _ I h) fun u s1 tO=>?_) ht
 obtain⟨x,H1,I1,rx,a,dx,fs,ex,ea,l,q⟩:=tO
 subst ex
 obtain rfl:u=Value.ref a:=rx
 refine sE I1 ea c hm l ?_
 refine W.callWith_K (first:=[.ref a]) (h₀:=X.dD) I.ok.mod.PZ hm.kp (gc (ha pos dA s1 σ H1 _ I1 q) fun us s2 sD=>?_) BR lW
 obtain⟨vs,H2,I2,r,q2⟩:=sD
 refine⟨I2.rN,?_⟩
 exact Av (us:=.ref a::us) (vs:=.ref a::vs) F hr hb hd hx I2 (.cons rfl r) q2
def Co {pl:Sem Bool}(he:PE X o ta)(c:xa X.K C)(hm:Meth X.K C m f)(F:eV X.prog X.w X.K X.mg X.dD CX k f fd ps sp)(hr:iz k X.A)(hb:Binds X.K fd ps ds)(hd:fj dvs ds)(hx:Passes CX X E)
 (ht:eval (.Call (.Attribute o m fY) [] [] pos) X.env=(do
   let ov <- eval o X.env
   standAt fY.atName
   let (f,first) <- holding [ov] (getMethod ov m pl)
   callWith pos f first (backTo pos (starEach [] X.env)) (backToKw pos (keywordEach [] X.env))):=by rfl) :
 PE X (.Call (.Attribute o m fY) [] [] pos) (B1 C m sp dvs E ta MY):=by
 intro dA s σ H Q I h
 refine W.methodCall_KW (pl:=pl) (gc (he dA s σ H _ I h) fun u s1 qu=>?_) ht
 obtain⟨x,H1,I1,rx,a,dx,fs,ex,ea,l,q⟩:=qu
 subst ex
 obtain rfl:u=Value.ref a:=rx
 refine sE I1 ea c hm l ?_
 exact W.callWith_K0 (first:=[.ref a]) I1.rN hm.kp (Av (us:=[.ref a]) (vs:=[.ref a]) F hr hb hd hx I1 (.cons rfl .nil) q)
structure Mk (K:aa)(C f:ai):Prop where
 makes:W.makesIn K C=true
 init:W.findIn K (.ref C) "__init__"=some (some (.ref f))
 fn:W.isFn K (.ref f)=true
 kp:W.keepIn K (.ref C)=true
def JE {dA:List (ai×Obj)}{σ:St}{H:Hp}{s:ah}{Q:VK}{us:List Value}{vs:List V}(M:Mk X.K C f)(F:eV X.prog X.w X.K X.mg X.dD CX k f fd ps sp)(hr:iz (k+1) X.A)(hb:Binds X.K fd ps ds)(hd:fj dvs ds)
 (hx:Passes CX X E) (I:Inv X dA σ H s) (r:fj vs us)
 (h:∀ x dx,H x=none->H dx=none->dx≠x->sp (.ref x::(vs++dvs)) (upd (upd H dx (.own x)) x (.ins C dx [])) (fun v H2=>v=.gy/\Q (.ref x) H2) E) :
 wpAny (model X.prog X.w) X.A (call (.ref C) us) (EP X dA σ Q) X.xe s:=by
 have hq:=h (s.heap.objs.size+1) s.heap.objs.size (I.fc.fresh (Nat.le_succ _)) (I.fc.fresh (aj _)) (aL (bX _))
 have I2:=Inv.made (C:=C) I
 have r2:fj (V.ref (s.heap.objs.size+1)::(vs++dvs)) (Value.ref (s.heap.objs.size+1)::(us++ds)):=.cons rfl (r.append hd)
 have hl:(Value.ref (s.heap.objs.size+1)::us++ds).length=ps.length:=by
  have e:=r2.length
  rw[F.len _ _ _ _ hq]at e
  exact e.symm
 refine wpAny_call (Ko (f:=f) I.rN M.makes M.init (beq_iff_eq.mp M.fn) (codeAny_mono (F.run _ X.stack _ _ ⟨Value.ref (s.heap.objs.size+1)::us,[]⟩ (Value.ref (s.heap.objs.size+1)::(us++ds)) _ _ E (hr.make C us [])
  (I2.Sw.make C us []) (hb _ (Value.ref (s.heap.objs.size+1)::us) I2.rN hl) r2 hq) fun r s' KU=>?_))
 cases r with
 | error e=>exact hx dA σ _ _ e s' I2 KU
 | ok fl =>
  cases fl with
  | ret u =>
   obtain⟨v,H',I3,rv,ev,q3⟩:=I2.after KU
   subst ev
   exact⟨rv,⟨V.ref (s.heap.objs.size+1),H',I3,rfl,q3⟩⟩
  | next=>exact False.elim KU
  | brk=>exact False.elim KU
  | cont=>exact False.elim KU
def Gj (M:Mk X.K C f)(F:eV X.prog X.w X.K X.mg X.dD CX k f fd ps sp)(hr:iz (k+1) X.A)(hg:Gl X x)(hm:X.mg x=some (.ref C))(hb:Binds X.K fd ps ds)(hd:fj dvs ds)(hx:Passes CX X E)
 (ha:PA X (e::es) t) (uN:(x==("__debug__" : Str))=false:=by decide) (he:starEach (e::es) X.env=(false,eval e X.env)::starEach es X.env:=by rfl) (lW:(backTo pos (starEach es X.env)).any (·.1)=false:=by rfl) :
 PE X (.Call (.Name x p) (e::es) [] pos) (Jr C sp dvs E t):=by
 intro dA s σ H Q I h
 refine bW (oI I hg hm ?_ uN)
 refine W.callWith_K (h₀:=X.dD) I.ok.mod.PZ M.kp (gc (ha pos dA s σ H _ I h) fun us s1 sC=>?_) he lW
 obtain⟨vs,H1,I1,r,q⟩:=sC
 refine⟨I1.rN,?_⟩
 exact JE M F hr hb hd hx I1 r q
end
structure d8 (N P:List Str)(sc:Scope):Prop where
 kind:sc.kind=.function
 co:sc.isCoroutine=false
 gen:sc.isGenerator=false
 nd:N.Nodup
 pre:N.take P.length=P
 par:∀ x∈P,sc.names.lookup x=some .local\/sc.names.lookup x=some .cell
 RL:∀ y∈sc.names,y.2≠.free
def zX {kindOf:Str->Option NameKind}{x:Str}:∀ {binds:List (Str×Value)} {m:Str->Option Value},(∀ v,(x,v)∉binds)->bindL kindOf binds m x=m x
 | [],_,_=>rfl
 | (n,v)::r,m,h=>by
  unfold bindL
  rw[zX fun w hw=>h w (oO _ hw)]
  split
  .have:x≠n:=by rintro rfl;exact h v aH
   simp[this]
  .rfl
def zZ {kindOf:Str->Option NameKind}{x:Str}:∀ {binds:List (Str×Value)} {m:Str->Option Value},(∀ v,(x,v)∉binds)->bindC kindOf binds m x=m x
 | [],_,_=>rfl
 | (n,v)::r,m,h=>by
  unfold bindC
  rw[zZ fun w hw=>h w (oO _ hw)]
  split
  .rfl
  .have:x≠n:=by rintro rfl;exact h v aH
   simp[this]
def zY {kindOf:Str->Option NameKind}{x:Str}{v:Value}:∀ {P:List Str} {vs:List Value} {i:Nat} {m:Str->Option Value},P.Nodup->P[i]?=some x->vs[i]?=some v->kindOf x=some .local ->
 bindL kindOf (P.zip vs) m x=some v
 | [],_,_,_,_,h,_,_=>by simp at h
 | _::_,[],_,_,_,_,h,_=>by simp at h
 | p::P,w::vs,0,m,nd,h1,h2,hk=>by
  simp at h1 h2;subst h1;subst h2
  show bindL kindOf ((p,w)::P.zip vs) m p=_
  unfold bindL
  rw[zX fun v hv=>(List.nodup_cons.mp nd).1 (List.of_mem_zip hv).1,au hk]
  simp
 | p::P,w::vs,i+1,m,nd,h1,h2,hk=>by
  show bindL kindOf ((p,w)::P.zip vs) m x=_
  unfold bindL
  exact zY (i:=i) (List.nodup_cons.mp nd).2 (by simpa using h1) (by simpa using h2) hk
def z5 {kindOf:Str->Option NameKind}{x:Str}{v:Value}:∀ {P:List Str} {vs:List Value} {i:Nat} {m:Str->Option Value},P.Nodup->P[i]?=some x->vs[i]?=some v->kindOf x≠some .local ->
 bindC kindOf (P.zip vs) m x=some v
 | [],_,_,_,_,h,_,_=>by simp at h
 | _::_,[],_,_,_,_,h,_=>by simp at h
 | p::P,w::vs,0,m,nd,h1,h2,hk=>by
  simp at h1 h2;subst h1;subst h2
  show bindC kindOf ((p,w)::P.zip vs) m p=_
  unfold bindC
  rw[zZ fun v hv=>(List.nodup_cons.mp nd).1 (List.of_mem_zip hv).1,aq hk]
  simp
 | p::P,w::vs,i+1,m,nd,h1,h2,hk=>by
  show bindC kindOf ((p,w)::P.zip vs) m x=_
  unfold bindC
  exact z5 (i:=i) (List.nodup_cons.mp nd).2 (by simpa using h1) (by simpa using h2) hk
def start (N:List Str)(vs:List V):St:=vs.map some++List.replicate (N.length - vs.length) none
def pI (CX:IP)(P:ae)(w:af)(K:aa)(mg:Str->Option Value)(dD:Heap)(N:List Str)(qual:Str)(scope:Scope)(f:ai)(cd:Value)(A:Around)(dW:List Env)(s:ah)(H:Hp)(E:XK):Cx where
 prog:=P
 w:=w
 K:=K
 mg:=mg
 dD:=dD
 A:=A.deeper (envOfC qual scope s.heap.objs.size f cd)
 N:=N
 s₀:=s
 H₀:=H
 env:=envOfC qual scope s.heap.objs.size f cd
 dW:=dW
 stack:=envOfC qual scope s.heap.objs.size f cd::dW
 ex:=[]
 gg:=true
 fn:=fun _=>true
 pn:=[]
 xe:=fun e s'=>wpAny (model P w) (A.deeper (envOfC qual scope s.heap.objs.size f cd)) (leaving (envOfC qual scope s.heap.objs.size f cd) e) (fun _ TM=>CX dW H s E e TM) (fun e' TM=>CX dW H s E e' TM) s'
def nQ {sc:Scope}{n:Nat}{x:Str}(h:sc.names.lookup x=some .cell):∃ c,(cellsFrom n sc.names []).lookup x=some c:=by
 have q:=W.cellsFrom_some sc.names n [] (.inl h)
 exact Option.isSome_iff_exists.mp q
def zJ {CX:IP}{P:ae}{w:af}{K:aa}{mg:Str->Option Value}{dD:Heap}{N ps:List Str}{qual:Str}{scope:Scope}{f:ai}{cd:Value}{A:Around}{dW:List Env}{s s1:ah}{H:Hp}{E:XK}{us:List Value}{vs:List V}
 (S:d8 N ps scope) (hd:A.handled=none) (e0:BI P w K mg dD A dW s H) (hl:vs.length=ps.length) (r:fj vs us)
 (x:InCallC s s.heap.objs.size (bindL (envOfC qual scope s.heap.objs.size f cd).kindOf (ps.zip us) fun _=>none) (cellsFrom (s.heap.objs.size+1) scope.names []) (bindC (envOfC qual scope s.heap.objs.size f cd).kindOf (ps.zip us) fun _=>none) s1) :
 Inv (pI CX P w K mg dD N qual scope f cd A dW s H E) [] (start N vs) H s1:=by
 have lW:ps.length<=N.length:=by have:=bx List.length S.pre;rw[aM]at this;lia
 obtain⟨h1,tk,rfl,hk⟩:=x.done
 have UW:∀ b:ai,b∉(pI CX P w K mg dD N qual scope f cd A dW s H E).ex:=fun b z=>absurd (show b∈([]:List ai)from z) (by simp)
 refine⟨⟨e0.mod,S.kind,rfl,rfl,aj _,fun y z c h1 h2=>?_,fun y hy=>?_,fun y c _ h=>?_,fun _=>hd,Around.frames_deeper e0.frames,.inr ⟨rfl,rfl⟩,fun b z=>absurd z (UW b),e0.bs,e0.Fj,fun b _ _=>UW b,fun b z=>absurd z (UW b),e0.rH,e0.MK⟩,
  rfl,e0.bare,Un.dE hk,⟨_,x.toInCall.ns,fun i y v h1 h2 h3=>?_⟩,fun y c h=>⟨_,x.cell y c h⟩,e0.fc.fresh (aj _),fun y c h=>?_,fun p hp=>absurd (show p∈([]:List (ai×Obj))from hp) (by simp),e0.fc.dE hk,?_⟩
 .exact name_of_addr x.apart (cD h1) (cD h2)
 .have hy:scope.names.lookup y=some .cell\/scope.names.lookup y=some .free:=hy
  rcases hy with hy | hy
  .exact nQ hy
  .exact absurd rfl (S.RL _ (cD hy))
 .exact Nat.le_of_lt (x.above y c (cD h))
 .have hi:i<vs.length:=by
   unfold start at h2
   by_cases hi:i<vs.length
   .exact hi
   .rw[oP (by simpa using hi)]at h2
    rw[List.getElem?_replicate]at h2
    split at h2 <;> cases h2
  have ha:vs[i]?=some v:=by
   unfold start at h2
   rw[uv (by simpa using hi),vB]at h2
   cases e:vs[i]? with
   | none=>rw[e]at h2;cases h2
   | some a=>rw[e]at h2;cases h2;rfl
  obtain⟨u,hu,rv⟩:=r.get ha
  have hp:ps[i]?=some y:=by
   rw[<- S.pre,aZ (by lia)];exact h1
  have ndP:ps.Nodup:=by rw[<- S.pre];exact S.nd.sublist (List.take_sublist _ _)
  refine⟨u,rv,?_⟩
  rcases S.par y (A1 hp)with k | k
  .exact .inl ⟨k,zY ndP hp hu k⟩
  .obtain⟨c,e⟩:=nQ (n:=s.heap.objs.size+1) k
   refine .inr ⟨.inl k,c,e,?_⟩
   have q:=x.cell y c e
   rw[z5 ndP hp hu (by show scope.names.lookup y≠_;rw[k];decide)]at q
   exact q
 .exact e0.fc.fresh (Nat.le_of_lt (x.above y c (cD h)))
 .unfold start
  show _=N.length
  rw[j3,fH,aU]
  lia
def Qj {CX:IP}{P:ae}{w:af}{K:aa}{mg:Str->Option Value}{dD:Heap}{k:Nat}{f:ai}{name qual:Str}{params:Arguments}{body:List Stmt}{scope:Scope}{dV kV doc pm gr ct oc:Value}{an od:Option ai}
 {My:Array (Option Value)} {N ps:List Str} {sp:Sp} (lk:K.lookup f=some ⟨oc,od,.func (W.fnOf name qual params body scope dV kV doc pm an gr ct),My⟩) (zd:W.codeIn K gr qual=true) (S:d8 N ps scope)
 (len:∀ vs H Q E,sp vs H Q E->vs.length=ps.length)
 (qv:∀(A:Around) (dW:List Env) (s:ah) (H:Hp) (vs:List V) (Q:VK) (E:XK),iz k (A.deeper (envOfC qual scope s.heap.objs.size f gr))->sp vs H Q E ->
   ∃ t,BC (pI CX P w K mg dD N qual scope f gr A dW s H E) body t/\t { nx:=fun _ H'=>Q .gy H',rt:=Q} (start N vs) H) :
 eV P w K mg dD CX (k+1) f (W.fnOf name qual params body scope dV kV doc pm an gr ct) ps sp:=by
 refine⟨len,fun A dW s H args us vs Q E hr e0 hb r IS=>?_⟩
 have hl:=len _ _ _ _ IS
 have KX:K.In s.heap:=e0.mod.PZ.keeps fun b o e=>(e0.bs b o e).1
 have lim:s.heap.NoLimit:=e0.mod.nolimit.keeps fun b o e=>(e0.bs b o e).1
 have KW:∀ y∈ps.zip us,scope.names.lookup y.1=some .local\/(scope.names.lookup y.1=some .cell/\((cellsFrom (s.heap.objs.size+1) scope.names []).lookup y.1).isSome=true):=fun⟨n,v⟩ hy=>by
  rcases S.par n (List.of_mem_zip hy).1 with q | q
  .exact .inl q
  .exact .inr ⟨q,W.cellsFrom_some _ _ _ (.inl q)⟩
 refine codeAny_call_function hr.depth (KX _ _ lk) rfl S.co S.gen rfl (W.codeRec_of KX zd) (hb _ _ _ _ ?_)
 refine wpAny_newFunctionEnv_cells S.kind KW fun env he s1 x=>?_
 subst he
 refine⟨lim.keeps x.toInCall.keep,codeAny_func ?_⟩
 obtain⟨t,ht,hq⟩:=qv A dW s H vs Q E (hr.deeper _) IS
 have I:Inv (pI CX P w K mg dD N qual scope f gr A dW s H E) [] (start N vs) H s1:=zJ S hr.hd e0 hl r x
 refine bo (ht [] s1 (start N vs) H _ I hq) (fun fl s' hs=>?_) fun e s' hs=>hs
 have fin:∀ {gH:St} {H':Hp} {v:V} {u:Value},Inv (pI CX P w K mg dD N qual scope f gr A dW s H E) [] gH H' s'->fm v u->Q v H'->CE dW P w H s Q u s' :=
  fun {gH H' v u} J rv q=>⟨v,H',J.os,J.bare,J.dD,J.fc,rv,q⟩
 cases fl with
 | ret u =>
  obtain⟨v,gH,H',J,rv,q⟩:=hs
  exact fin J rv q
 | next =>
  obtain⟨gH,H',J,q⟩:=hs
  exact fin (v:=V.gy) (u:=Value.none) J rfl q
 | brk =>
  obtain⟨_,_,_,q⟩:=hs
  exact False.elim q
 | cont =>
  obtain⟨_,_,_,q⟩:=hs
  exact False.elim q
section
variable {X:Cx}{x:Str}{p pos:Pos}{e:Expr}{es:List Expr}{t:TA}{id T:String}{r:List V->Hp->VK->Prop}
def WB (r:List V->Hp->VK->Prop)(t:TA):TE:=fun σ H Q=>t σ H fun vs H1=>r vs H1 Q
def fZ (hc:iI X (.builtin id) r)(hg:Gl X x)(hm:X.mg x=none)(hv:bootBuiltins x=some (.builtin id))(ha:PA X (e::es) t)(hn:x ≠ "__name__":=by decide)(uN:(x==("__debug__" : Str))=false:=by decide)
 (he:starEach (e::es) X.env=(false,eval e X.env)::starEach es X.env:=by rfl) (lW:(backTo pos (starEach es X.env)).any (·.1)=false:=by rfl):PE X (.Call (.Name x p) (e::es) [] pos) (WB r t):=by
 intro dA s σ H Q I h
 refine bW (qt I hg hm hv ?_ hn uN)
 exact PyProof.Rows.callWith_builtin1 (gc (ha pos dA s σ H _ I h) fun us s1 rl=>by obtain⟨vs,H1,I1,r1,q1⟩:=rl;exact hc dA s1 σ H1 vs us Q I1 r1 q1) he lW
def zy (hc:iI X (.type T) r)(hg:Gl X x)(hm:X.mg x=none)(hv:bootBuiltins x=some (.type T))(ha:PA X (e::es) t)(hn:x ≠ "__name__":=by decide)(uN:(x==("__debug__" : Str))=false:=by decide)
 (he:starEach (e::es) X.env=(false,eval e X.env)::starEach es X.env:=by rfl) (lW:(backTo pos (starEach es X.env)).any (·.1)=false:=by rfl):PE X (.Call (.Name x p) (e::es) [] pos) (WB r t):=by
 intro dA s σ H Q I h
 refine bW (qt I hg hm hv ?_ hn uN)
 exact bD (gc (ha pos dA s σ H _ I h) fun us s1 pF=>by obtain⟨vs,H1,I1,r1,q1⟩:=pF;exact hc dA s1 σ H1 vs us Q I1 r1 q1) he lW
end
end L2
namespace HT
open PySem PyProof.Rows
section
variable {prog:ae}{w:af}{A:Around}{E:Value->ah->Prop}{s:ah}
def OS {t b:ai}{vs ws:List Value}{Q:Value->ah->Prop}(ht:IsTup s.heap t vs.toArray)(hb:IsTup s.heap b ws.toArray)(hv:vs≠[])
 (h1:ws=[]->Q (.ref t) s) (h2:ws≠[]->Q (.ref s.heap.objs.size) { s with heap:=s.heap.push { cls:=.type "tuple",data:=.seq (vs++ws).toArray}})
 (hsz:vs.length+ws.length<=sizeLine):wpAny (model prog w) A (binaryOp .Add (.ref t) (.ref b)) Q E s:=by
 obtain⟨⟨cls,dd,data,sl⟩,ho,hc,n,hd⟩:=id ht
 obtain⟨⟨cls2,dd2,data2,Ut⟩,WV,hc2,n2,hd2⟩:=id hb
 simp only at hc hd hc2 hd2
 subst hc hd hc2 hd2
 have e:vs.toArray++ws.toArray=(vs++ws).toArray:=by simp
 by_cases hw:ws=[]
 .exact concat_meets ⟨_,ho,rfl⟩ ⟨_,WV,rfl⟩ noFill_tuple_add seq_tuple_add PySem.F.slot_tuple_add PySem.F.entry_tuple_add (PySem.F.args_tuple_add_2 _ _)
   (tuple_addW1 t b vs.toArray ws.toArray n n2 dd dd2 sl Ut (by simpa using hv) (by simp[hw])) ⟨ho,WV,h1 hw⟩
 .refine concat_meets ⟨_,ho,rfl⟩ ⟨_,WV,rfl⟩ noFill_tuple_add seq_tuple_add PySem.F.slot_tuple_add PySem.F.entry_tuple_add (PySem.F.args_tuple_add_2 _ _)
   (tuple_addW2 t b vs.toArray ws.toArray n n2 dd dd2 sl Ut (by simpa using hv) (by simpa using hw) (by rw[aB,aB];exact hsz)) ⟨ho,WV,?_⟩
  rw[e]
  exact h2 hw
def iT (n d:Nat):Option Int->Nat
 | none=>d
 | some v=>if v<0 then(v+(n:Int)).toNat else min v.toNat n
def tu (n d:Nat):iT n d none=d:=rfl
def mV (n d k:Nat):iT n d (some (k:Int))=min k n:=by
 show(if(k:Int)<0 then((k:Int)+(n:Int)).toNat else min (k:Int).toNat n)=min k n
 rw[aq (by lia),Ow]
def xF (n d:Nat)(hd:d<=n)(o:Option Int):iT n d o<=n:=by
 cases o with
 | none=>exact hd
 | some v =>
  show(if v<0 then(v+(n:Int)).toNat else min v.toNat n)<=n
  by_cases hv:v<0
  .rw[au hv];lia
  .rw[aq hv];exact Nat.min_le_right _ _
def G3 (v:Int)(n d:Nat):(if v<0 then max (v+(n:Int)) 0 else min v (n:Int))=((iT n d (some v):Nat):Int):=by
 show(if v<0 then max (v+(n:Int)) 0 else min v (n:Int))=(((if v<0 then(v+(n:Int)).toNat else min v.toNat n):Nat):Int)
 by_cases hv:v<0
 .simp only[au hv];lia
 .simp only[aq hv];lia
def Fp (lo hi:Option Int)(n:Nat):Builtin.Slice.sliceAdjust lo hi 1 (n:Int)=(((iT n 0 lo:Nat):Int),((iT n n hi:Nat):Int)):=by
 have h1:¬ ((1:Int)<0):=by lia
 unfold Builtin.Slice.sliceAdjust
 simp only[h1,if_false]
 refine Prod.ext ?_ ?_
 .cases lo with
  | none=>rfl
  | some v=>exact G3 v n 0
 .cases hi with
  | none=>rfl
  | some v=>exact G3 v n n
def EB (i j:Nat):Builtin.Slice.slicePlaces (i:Int) (j:Int) 1=j - i:=by
 unfold Builtin.Slice.slicePlaces
 have h1:(1:Int)>0:=by lia
 simp only[h1,if_true,Int.ediv_one]
 split <;> lia
def xq {v:Value}{o:Option Int}{Q:Option Int->ah->Prop}(p:IsPart v o)(h:Q o s):wpAny (model prog w) A (Builtin.Slice.slicePartIndex v) Q E s:=by
 cases p with
 | none=>exact slicePart_none h
 | int i t=>exact slicePart_int h
def uB {sl:ai}{vl vu:Value}{lo hi:Option Int}{n:Nat}{Q:Int×Int×Nat->ah->Prop}(hs:s.heap.IsSliceOf sl vl vu .none)(pl:IsPart vl lo)(pu:IsPart vu hi)
 (h:Q (((iT n 0 lo:Nat):Int),1,iT n n hi - iT n 0 lo) s):wpAny (model prog w) A (Builtin.Slice.sliceApplied (.ref sl) (pure (n:Int))) Q E s:=by
 obtain⟨os,MA,W0,Qf⟩:=id hs
 unfold Builtin.Slice.sliceApplied Builtin.Slice.sliceFields
 refine fb (fb (aY MA Qf (x:=vl) rfl (fb (aY MA Qf (x:=vu) rfl (fb (aY MA Qf (x:=.none) rfl (av ?_)))))))
 refine fb (slicePart_none ?_)
 show wpAny _ _ (if((1:Int)==0)=true then _ else _) _ _ s
 rw[aq (by decide)]
 refine fb (xq pl (fb (xq pu (fb (av ?_)))))
 show wpAny _ _ (match Builtin.Slice.sliceAdjust lo hi 1 (n:Int)with | (lo,hi)=>pure (lo,(1:Int),Builtin.Slice.slicePlaces lo hi 1)) _ _ s
 rw[Fp lo hi n]
 show wpAny _ _ (pure (((iT n 0 lo:Nat):Int),(1:Int),Builtin.Slice.slicePlaces ((iT n 0 lo:Nat):Int) ((iT n n hi:Nat):Int) 1)) _ _ s
 rw[EB]
 exact av h
def JQ (xs:Array Value)(i k:Nat):((List.range k).filterMap fun(m:Nat)=>xs[((i:Int)+(m:Int)*1).toNat]?).toArray=((xs.toList.drop i).take k).toArray:=by
 have e:(fun(m:Nat)=>xs[((i:Int)+(m:Int)*1).toNat]?)=fun m=>xs[i+m]?:=by
  funext m
  have:((i:Int)+(m:Int)*1).toNat=i+m:=by lia
  rw[this]
 rw[e]
 have:=pick_run xs i k
 rw[List.filterMap_map]at this
 have e2:((fun x=>xs[x]?) ∘ fun x=>i+x)=fun m=>xs[i+m]?:=rfl
 rw[e2]at this
 rw[this]
def tQ {t sl:ai}{items:Array Value}{vl vu:Value}{lo hi:Option Int}{Q:Value->ah->Prop}(ht:IsTup s.heap t items)(hs:s.heap.IsSliceOf sl vl vu .none)(pl:IsPart vl lo)(pu:IsPart vu hi)
 (hw:¬ (iT items.size 0 lo=0/\iT items.size items.size hi=items.size))
 (h:Q (.ref s.heap.objs.size) { s with heap:=s.heap.push { cls:=.type "tuple",data:=.seq ((items.toList.drop (iT items.size 0 lo)).take (iT items.size items.size hi - iT items.size 0 lo)).toArray}})
 (hsz:items.size<=sizeLine):wpAny (model prog w) A (getItem (.ref t) (.ref sl)) Q E s:=by
 have GD:sizeOk (.seq ((items.toList.drop (iT items.size 0 lo)).take (iT items.size items.size hi - iT items.size 0 lo)).toArray):=by
  show((items.toList.drop (iT items.size 0 lo)).take (iT items.size items.size hi - iT items.size 0 lo)).toArray.size<=sizeLine
  rw[aB,aM,bC,cc]
  lia
 have hj:iT items.size items.size hi<=items.size:=xF _ _ (aj _) hi
 obtain⟨os,MA,W0,Qf⟩:=id hs
 have W3:s.TypeIs (.ref sl) "slice":=⟨os,MA,W0⟩
 unfold getItem
 try with_reducible refine bP ?_
 first | refine fb (av ?_) | skip
 refine fb (wpAny_sequenceKey ht.typeIs (by decide) ?_)
 refine fb (bG (name:=Str.ofString "__getitem__") ht.typeIs PyProof.Rows.slot_tuple_getitem
  (bV PyProof.Rows.slot_tuple_getitem ht.typeIs entry_tuple_getitem ?_ (args_tuple_getitem _ _)))
 show wpAny _ _ (Builtin.Tuple.tupleItemsOf (.ref t) >>= _) _ _ s
 refine fb (tupleItemsOf_ ht ?_)
 refine fb (wpAny_typeOf W3 ?_)
 rw[au (by decide)]
 refine fb (uB hs pl pu ?_)
 have hno:¬ ((((iT items.size 0 lo:Nat):Int)==0&&(1:Int)==1&&(iT items.size items.size hi - iT items.size 0 lo)==items.size)=true):=by
  intro q
  rw[aT,aT]at q
  have q1:((iT items.size 0 lo:Nat):Int)=0:=eq_of_beq q.1.1
  have q2:iT items.size items.size hi - iT items.size 0 lo=items.size:=eq_of_beq q.2
  exact hw ⟨by lia,by lia⟩
 show wpAny _ _ (if(((iT items.size 0 lo:Nat):Int)==0&&(1:Int)==1&&(iT items.size items.size hi - iT items.size 0 lo)==items.size)=true then _ else _) _ _ s
 rw[aq hno,JQ]
 first
  | exact fb (m:=Builtin.Tuple.tupleExact _) (ba (av ⟨_,rfl,av h⟩) GD)
  | exact fb (m:=Builtin.Tuple.tupleExact _) (ba (fb (av (av ⟨_,rfl,av h⟩))) GD)
  | exact fb (fb (m:=Builtin.Tuple.tupleExact _) (ba (av (av ⟨_,rfl,av h⟩)) GD))
  | exact fb (fb (m:=Builtin.Tuple.tupleExact _) (ba (av ⟨_,rfl,av h⟩) GD))
end
end HT
namespace L2
open PySem PySem.Spec PyProof.Rows
abbrev TO:=St->Hp->(Option Int->Hp->Prop)->Prop
def PO (X:Cx)(e:Option Expr)(t:TO):Prop :=
 ∀(dA:List (ai×Obj)) (s:ah) (σ:St) (H:Hp) (Q:Option Int->Hp->Prop),Inv X dA σ H s->t σ H Q ->
  wpAny (model X.prog X.w) X.A (evalPart e X.env) (fun u s'=>∃ o H',Inv X dA σ H' s'/\IsPart u o/\Q o H') X.xe s
def MX:TO:=fun _ H Q=>Q none H
section
variable {X:Cx}{e:Expr}{te:TE}{lo hi:Option Expr}{tl th:TO}{pos p2:Pos}
def ND:PO X none MX:=by
 intro dA s σ H Q I h
 rw[evalPart_none]
 exact av ⟨none,H,I,.none,h⟩
def Wg (X:Cx)(r:V->Option Int->Option Int->Hp->VK->Prop):Prop :=
 ∀(dA:List (ai×Obj)) (s:ah) (σ:St) (H:Hp) (x:V) (v vl vu:Value) (lo hi:Option Int) (sl:ai) (Q:VK),Inv X dA σ H s->fm x v->s.heap.IsSliceOf sl vl vu .none->IsPart vl lo->IsPart vu hi->r x lo hi H Q ->
  ∃ T id,typeLookup (.type T) "__getitem__"=pure (some (.builtin id))/\s.TypeIs v T/\wpAny (model X.prog X.w) X.A (getItem v (.ref sl)) (EP X dA σ Q) X.xe s
def tSl (r:V->Option Int->Option Int->Hp->VK->Prop)(te:TE)(tl th:TO):TE:=fun σ H Q=>te σ H fun x H1=>tl σ H1 fun l H2=>th σ H2 fun u H3=>r x l u H3 Q
def Cn {r:V->Option Int->Option Int->Hp->VK->Prop}(hr:Wg X r)(he:PE X e te)(hl:PO X lo tl)(hu:PO X hi th):PE X (.Subscript e (.Slice lo hi none p2) pos) (tSl r te tl th):=by
 intro dA s σ H Q I h
 refine Subscript_ (gc (he dA s σ H _ I h) fun v s1 oN=>?_)
 obtain⟨x,H1,I1,r1,q1⟩:=oN
 refine wpAny_Slice (gc (hl dA s1 σ H1 _ I1 q1) fun vl s2 tO=>?_)
 obtain⟨l,H2,I2,pl,q2⟩:=tO
 refine gc (hu dA s2 σ H2 _ I2 q2) fun vu s3 sD=>?_
 obtain⟨u,H3,I3,pu,q3⟩:=sD
 rw[evalPart_none]
 refine av ?_
 have I4:Inv X dA σ H3 { s3 with heap:=s3.heap.push { cls:=.type "slice",data:=.fields #[vl,vu,.none]}}:=I3.dE (t':=s3.toks) fun b ob q=>j0 _ q
 obtain⟨T,id,hT,ht,hg⟩:=hr dA { s3 with heap:=s3.heap.push { cls:=.type "slice",data:=.fields #[vl,vu,.none]}} σ H3 x v vl vu l u s3.heap.objs.size Q I4 r1 (Heap.IsSliceOf.new ..) pl pu q3
 show wpAny (model X.prog X.w) X.A (subscriptTail e (.Slice lo hi none p2) v (.ref s3.heap.objs.size)) (EP X dA σ Q) X.xe { s3 with heap:=s3.heap.push { cls:=.type "slice",data:=.fields #[vl,vu,.none]}}
 exact tail_any (ops:=[.ref s3.heap.objs.size,v]) ht hT hg (by with_unfolding_all rfl)
def Bm (xs:List V)(lo hi:Option Int):List V:=(xs.drop (HT.iT xs.length 0 lo)).take (HT.iT xs.length xs.length hi - HT.iT xs.length 0 lo)
def vG (xs:List V)(lo hi:Option Int):(Bm xs lo hi).length<=xs.length:=by
 unfold Bm
 rw[aM,bC]
 lia
def XD (K:aa):V->Option Int->Option Int->Hp->VK->Prop:=fun x lo hi H Q=>∃ a xs,x=.ref a/\BA K H a xs /\
 ¬ (HT.iT xs.length 0 lo=0/\HT.iT xs.length xs.length hi=xs.length)/\∀ p,H p=none->Q (.ref p) (upd H p (.tup (Bm xs lo hi)))
def QX:Wg X (XD X.K):=by
 intro dA s σ H x v vl vu lo hi sl Q I rx hs pl pu h
 obtain⟨a,xs,rfl,hx,hw,q⟩:=h
 cases rx
 obtain⟨eW,r,ht,hz⟩:=I.tuple hx
 have hlen:eW.toArray.size=xs.length:=by rw[aB];exact r.length.symm
 refine⟨"tuple",_,PyProof.Rows.slot_tuple_getitem.lookup,ht.typeIs,?_⟩
 refine HT.tQ ht hs pl pu (by rw[hlen];exact hw) ?_ (by rw[hlen];exact hz)
 rw[hlen]
 refine⟨.ref s.heap.objs.size,_,I.laid (t':=s.toks) (o:=.tup (Bm xs lo hi)) (fun b ob q=>j0 _ q) (aj _) ?_,rfl,q _ (I.fc.fresh (aj _))⟩
 exact⟨aE (vG xs lo hi) hz,_,(r.drop (HT.iT xs.length 0 lo)).take (HT.iT xs.length xs.length hi - HT.iT xs.length 0 lo),IsTup.new _ _⟩
def PK (K:aa):R2:=fun x y H Q=>∃ a b xs ys,x=.ref a/\y=.ref b/\BA K H a xs/\BA K H b ys/\xs≠[]/\xs.length+ys.length<=sizeLine /\
 (ys=[]->Q (.ref a) H)/\(ys≠[]->∀ p,H p=none->Q (.ref p) (upd H p (.tup (xs++ys))))
def fj.AS {xs:List V}{us:List Value}(r:fj xs us):us=[]↔xs=[]:=by
 cases r with
 | nil=>simp
 | cons _ _=>simp
def Gu:kg X (binaryOp .Add) (PK X.K):=by
 intro dA s σ H x y v u Q I rx ry h
 obtain⟨a,b,xs,ys,rfl,rfl,ha,hb,hx,hz,q1,q2⟩:=h
 cases rx
 cases ry
 obtain⟨eW,r1,p1,_⟩:=I.tuple ha
 obtain⟨sx,r2,p2,_⟩:=I.tuple hb
 refine HT.OS p1 p2 (fun z=>hx (r1.AS.mp z)) (fun z=>⟨.ref a,H,I,rfl,q1 (r2.AS.mp z)⟩) (fun z=>?_) (by rw[<- r1.length,<- r2.length];exact hz)
 refine⟨.ref s.heap.objs.size,_,I.laid (t':=s.toks) (o:=.tup (xs++ys)) (fun b ob q=>j0 _ q) (aj _) ?_,rfl,q2 (fun w=>z (r2.AS.mpr w)) _ (I.fc.fresh (aj _))⟩
 exact⟨by rw[j3];exact hz,_,r1.append r2,IsTup.new _ _⟩
end
def Ie (n:Nat)(i:Int):Option Nat:=if 0<=i then(if i<n then some i.toNat else none)else if -(n:Int)<=i then some (i+n).toNat else none
def pJ {α:Type}(xs:List α)(i:Int):Option α:=(Ie xs.length i).bind fun j=>xs[j]?
def Gz {n:Nat}{i:Int}{j:Nat}(h:Ie n i=some j):seqIndex? i n=some j/\j<n /\ -(n:Int)<=i/\i<n:=by
 unfold Ie at h
 by_cases h0:0<=i
 .rw[au h0]at h
  by_cases h1:i<n
  .rw[au h1]at h
   have e:i.toNat=j:=aS h
   exact⟨by rw[seqIndex_of h0 h1,e],by lia,by lia,h1⟩
  .rw[aq h1]at h;cases h
 .rw[aq h0]at h
  by_cases h1:-(n:Int)<=i
  .rw[au h1]at h
   have e:(i+n).toNat=j:=aS h
   exact⟨by rw[seqIndex_neg (by lia) h1,e],by lia,h1,by lia⟩
  .rw[aq h1]at h;cases h
def Bx {α:Type}{xs:List α}{i:Int}{v:α}(h:pJ xs i=some v):∃ j,seqIndex? i xs.length=some j/\xs[j]?=some v/\j<xs.length /\ -(xs.length:Int)<=i/\i<xs.length:=by
 unfold pJ at h
 cases e:Ie xs.length i with
 | none=>rw[e]at h;cases h
 | some j =>
  rw[e]at h
  obtain⟨h1,h2,h3,h4⟩:=Gz e
  exact⟨j,h1,h,h2,h3,h4⟩
def lZ {α:Type}{xs:List α}{j:Nat}{v:α}(h:xs[j]?=some v):pJ xs (j:Int)=some v:=by
 have hj:j<xs.length:=(l8 h).1
 have e:Ie xs.length (j:Int)=some j:=by
  unfold Ie
  rw[au (by lia),au (by lia)];simp
 unfold pJ;rw[e];exact h
def BB (b:Expr):Prop:=∀ o i,subscripted b false o i=operate [o,i] (getItem o i)
def Hm (X:Cx)(r:R2):Prop :=
 ∀(value slice:Expr) (dA:List (ai×Obj)) (s:ah) (σ:St) (H:Hp) (x y:V) (v u:Value) (Q:VK),Inv X dA σ H s->fm x v->fm y u->r x y H Q ->
  subscripted slice false v u=operate [v,u] (getItem v u)->wpAny (model X.prog X.w) X.A (subscriptTail value slice v u) (EP X dA σ Q) X.xe s
def Fv (X:Cx)(id:String)(r:V->List V->Hp->VK->Prop):Prop :=
 ∀(dA:List (ai×Obj)) (s:ah) (σ:St) (H:Hp) (x:V) (xs:List V) (v:Value) (us:List Value) (Q:VK),Inv X dA σ H s->fm x v->fj xs us->r x xs H Q ->
  wpAny (model X.prog X.w) X.A (call (.builtin id) (v::us)) (EP X dA σ Q) X.xe s
section
variable {X:Cx}{a b:Expr}{ta tb:TE}{pos:Pos}
def Hm.or {r r':R2}(h:Hm X r)(h':Hm X r'):Hm X (fun x y H Q=>r x y H Q\/r' x y H Q):=by
 intro value slice dA s σ H x y v u Q I rx ry q hs
 rcases q with q | q
 .exact h value slice dA s σ H x y v u Q I rx ry q hs
 .exact h' value slice dA s σ H x y v u Q I rx ry q hs
def qe {r:R2}(hr:Hm X r)(ha:PE X a ta)(hb:PE X b tb)(hs:BB b):PE X (.Subscript a b pos) (Ug r ta tb):=by
 intro dA s σ H Q I h
 exact Subscript_ (OZ ha hb I h fun v u s2 x y H2 I2 rx ry q=>hr a b dA s2 σ H2 x y v u Q I2 rx ry q (hs _ _))
def UE (K:aa):R2:=fun x y H Q=>∃ p xs i v,x=.ref p/\y=.int i/\pK K H p xs/\pJ xs i=some v/\Q v H
def UC (K:aa):R2:=fun x y H Q=>∃ p xs i v,x=.ref p/\y=.int i/\BA K H p xs/\pJ xs i=some v/\Q v H
def UD:R2:=fun x y H Q=>∃ z i c,x=.str z/\y=.int i/\z.length<=sizeLine/\pJ z.cps.toList i=some c/\Q (.str ⟨#[c]⟩) H
def Od:Hm X (UE X.K):=by
 intro value slice dA s σ H x y v u Q I rx ry h hs
 obtain⟨p,xs,i,z,rfl,rfl,hq,he,q⟩:=h
 cases rx
 obtain⟨t,rfl⟩:=ry
 obtain⟨eW,r,pl,hz⟩:=I.list hq
 obtain⟨j,h1,h2,h3,h4,h5⟩:=Bx he
 obtain⟨w,ew,Cc⟩:=r.get h2
 have hl:=r.length
 have hn:=sv
 have fin:EP X dA σ Q w s:=⟨z,H,I,Cc,q⟩
 by_cases h0:0<=i
 .have hj:i.toNat=j:=by
   rw[seqIndex_of h0 h5]at h1
   exact aS h1
  exact item_listR pl.isList h0 (by lia) (by rw[hj];simpa using ew) fin hs
 .have hj:(i+(eW.toArray.size:Int)).toNat=j:=by
   rw[seqIndex_neg (by lia) h4]at h1
   rw[aB,<- hl]
   exact aS h1
  exact subscriptTail_builtinR (x:=w) pl.isList.typeIs slot_list_getitem.lookup
   (wpAny_getItem_list_neg (Q:=fun r s'=>r=w/\EP X dA σ Q r s') pl.isList (by lia) (by rw[aB]<;> lia) (by lia) (by rw[hj];simpa using ew) ⟨rfl,fin⟩) hs
def RY:Hm X (UC X.K):=by
 intro value slice dA s σ H x y v u Q I rx ry h hs
 obtain⟨p,xs,i,z,rfl,rfl,hq,he,q⟩:=h
 cases rx
 obtain⟨t,rfl⟩:=ry
 obtain⟨eW,r,pl,hz⟩:=I.tuple hq
 obtain⟨j,h1,h2,h3,h4,h5⟩:=Bx he
 obtain⟨w,ew,Cc⟩:=r.get h2
 have hl:=r.length
 have hn:=sv
 have fin:EP X dA σ Q w s:=⟨z,H,I,Cc,q⟩
 exact subscriptTail_builtinR (x:=w) pl.typeIs slot_tuple_getitem.lookup
  (getItem_tuple (j:=j) (Q:=fun r s'=>r=w/\EP X dA σ Q r s') pl (by lia) (by lia) (by rw[aB,<- hl];exact h1) (by simpa using ew) ⟨rfl,fin⟩) hs
def RZ:Hm X UD:=by
 intro value slice dA s σ H x y v u Q I rx ry h hs
 obtain⟨z,i,c,rfl,rfl,hz,he,q⟩:=h
 obtain⟨t,rfl⟩:=rx
 obtain⟨t',rfl⟩:=ry
 obtain⟨j,h1,h2,h3,h4,h5⟩:=Bx he
 have hl:z.cps.toList.length=z.length:=by simp[Str.length]
 rw[hl]at h1 h4 h5
 have hn:=sv
 exact tail_any (typeIs_str s z t) slot_str_getitem.lookup (getItem_str (c:=c) (by
  have e1:decide (i < -(2 ^ 63:Int))=false:=az (by lia)
  have e2:decide (i≥2 ^ 63)=false:=az (by lia)
  rw[e1,e2,Bool.or_false]) (by rw[h1];simpa using h2) ⟨.str ⟨#[c]⟩,H,I.tok _,⟨_,rfl⟩,q⟩) hs
def rIx (K:aa):R2:=fun x y H Q=>UE K x y H Q\/UC K x y H Q\/UD x y H Q
def R1:Hm X (rIx X.K):=Od.or (RY.or RZ)
def EJ (eW:List Value)(n j:Nat)(u:Value):Obj.mapSeq (·.setIfInBounds j u) { cls:=.type "list",data:=.seq eW.toArray n}={ cls:=.type "list",data:=.seq (eW.set j u).toArray n}:=by
 simp[Obj.mapSeq]
def Inv.lst {dA:List (ai×Obj)}{σ:St}{H:Hp}{s:ah}{p:ai}{xs:List V}(I:Inv X dA σ H s)(h:H p=some (.lst xs)) :
 ∃(eW:List Value) (n:Nat),fj xs eW/\s.heap.get? p=some { cls:=.type "list",data:=.seq eW.toArray n}/\xs.length<=sizeLine:=by
 obtain⟨z,eW,n,r,e⟩:=I.fc p _ h
 exact⟨eW,n,r,e,z⟩
def Inv.RQ {dA:List (ai×Obj)}{σ:St}{H:Hp}{s:ah}{p:ai}{xs ys:List V}{eW its':List Value}{n n':Nat}{f:Obj->Obj}(I:Inv X dA σ H s)(h:H p=some (.lst xs))
 (ho:s.heap.get? p=some { cls:=.type "list",data:=.seq eW.toArray n}) (hf:f { cls:=.type "list",data:=.seq eW.toArray n}={ cls:=.type "list",data:=.seq its'.toArray n'}) (r:fj ys its') (hz:ys.length<=sizeLine) (t:Nat) :
 Inv X dA σ (upd H p (.lst ys)) { s with heap:=s.heap.update p f,toks:=t}:=by
 have e:(s.heap.update p f).get? p=some { cls:=.type "list",data:=.seq its'.toArray n'}:=by
  rw[cp f ho (by rw[hf]<;> rfl),hf]
 refine I.write (x:=p) (e:=p) (by rw[h];trivial) (.inl rfl) (fun b u hb q=>(bw _ _ (bj hb)).trans q) ⟨_,e⟩ ?_
 exact⟨hz,its',n',r,e⟩
def UB:V->V->V->Hp->(Hp->Prop)->Prop:=fun o i v H Q=>∃ p xs k j,o=.ref p/\i=.int k/\H p=some (.lst xs)/\Ie xs.length k=some j/\Q (upd H p (.lst (xs.set j v)))
def set_list:O6 X UB:=by
 intro dA s σ H o i v ov iv u Q I ro ri rv h
 obtain⟨p,xs,k,j,rfl,rfl,hp,hj,q⟩:=h
 cases ro
 obtain⟨t,rfl⟩:=ri
 obtain⟨eW,n,r,ho,hz⟩:=I.lst hp
 obtain⟨h1,h2,h3,h4⟩:=Gz hj
 have hl:=r.length
 have hn:=sv
 have I':Inv X dA σ (upd H p (.lst (xs.set j v))) { s with heap:=s.heap.update p (Obj.mapSeq (·.setIfInBounds j u))} :=
  I.RQ hp ho (EJ eW n j u) (r.set rv j) (by rw[aG];exact hz) s.toks
 by_cases h0:0<=k
 .have hk:k.toNat=j:=by
   rw[seqIndex_of h0 h4]at h1
   exact aS h1
  exact W.ki_setAt ho h0 (by lia) (by rw[aB,<- hl];exact h4) (by rw[hk];exact⟨_,I',q⟩)
 .have hk:(k+(eW.toArray.size:Int)).toNat=j:=by
   rw[seqIndex_neg (by lia) h3]at h1
   rw[aB,<- hl]
   exact aS h1
  exact W.ki_setBack ho (by lia) (by rw[aB,<- hl];exact h3) (by lia) (by rw[hk];exact⟨_,I',q⟩)
def Al (lo hi:Option Int)(n:Nat):(sliceBounds lo hi none n).1=((HT.iT n 0 lo:Nat):Int)/\(sliceBounds lo hi none n).2.1=((HT.iT n n hi:Nat):Int)/\(sliceBounds lo hi none n).2.2=1:=by
 refine⟨?_,?_,rfl⟩
 .cases lo with
  | none=>simp[sliceBounds,HT.iT]
  | some i =>
   simp only[sliceBounds,HT.iT,Option.getD_none,show(1:Int)>0 by decide,if_true]
   by_cases h:i<0
   .simp only[h,if_true]<;> lia
   .simp only[h,if_false]<;> lia
 .cases hi with
  | none=>simp[sliceBounds,HT.iT]
  | some i =>
   simp only[sliceBounds,HT.iT,Option.getD_none,show(1:Int)>0 by decide,if_true]
   by_cases h:i<0
   .simp only[h,if_true]<;> lia
   .simp only[h,if_false]<;> lia
def yU (eW:List Value)(lo hi:Option Int):slicePick eW.toArray lo hi none=((eW.drop (HT.iT eW.length 0 lo)).take (HT.iT eW.length eW.length hi - HT.iT eW.length 0 lo)).toArray:=by
 obtain⟨h1,h2,h3⟩:=Al lo hi eW.toArray.size
 unfold slicePick
 rw[h1,h2,h3]
 simp only[sliceRange_one,pick_run,aB]<;> rfl
def XF (K:aa):V->Option Int->Option Int->Hp->VK->Prop:=fun x lo hi H Q=>∃ a xs,x=.ref a/\pK K H a xs/\∀ p,H p=none->Q (.ref p) (upd H p (.lst (Bm xs lo hi)))
def Nf:Wg X (XF X.K):=by
 intro dA s σ H x v vl vu lo hi sl Q I rx hs pl pu h
 obtain⟨a,xs,rfl,hx,q⟩:=h
 cases rx
 obtain⟨eW,r,ht,hz⟩:=I.list hx
 have hlen:=r.length
 refine⟨"list",_,slot_list_getitem.lookup,ht.isList.typeIs,?_⟩
 refine wpAny_getItem_list_slice ht.isList hs pl pu .none (by simp) ?_ (by rw[aB]<;> lia)
 rw[yU,<- hlen]
 refine⟨.ref s.heap.objs.size,_,I.laid (t':=s.toks) (o:=.lst (Bm xs lo hi)) (fun b ob q=>j0 _ q) (aj _) ?_,rfl,q _ (I.fc.fresh (aj _))⟩
 exact⟨aE (vG xs lo hi) hz,_,0,(r.drop (HT.iT xs.length 0 lo)).take (HT.iT xs.length xs.length hi - HT.iT xs.length 0 lo),aD _ rfl⟩
def lQ:V->Bool
 | .gy=>true
 | .bl _=>true
 | .int _=>true
 | .str _=>true
 | _=>false
def ML:V->V->Bool
 | .gy,.gy=>true
 | .bl a,.bl b=>a==b
 | .bl a,.int b=>(if a then 1 else 0)==b
 | .int a,.bl b=>a==(if b then 1 else 0)
 | .int a,.int b=>a==b
 | .str a,.str b=>a==b
 | _,_=>false
def Sv {A:Around}{s:ah}{y x:V}{u v:Value}(ry:fm y u)(rx:fm x v)(fy:lQ y=true)(fx:lQ x=true):SeqAt.EqAt A s u v (ML y x):=by
 cases y with
 | gy =>
  cases ry
  cases x with
  | gy=>cases rx;exact SeqAt.EqAt.same _
  | bl b=>cases rx;exact SeqAt.EqAt.none_bool b
  | int b=>obtain⟨t,rfl⟩:=rx;exact SeqAt.EqAt.none_int b t
  | str b=>obtain⟨t,rfl⟩:=rx;exact SeqAt.EqAt.none_str b t
  | _=>exact absurd (show false=true from fx) aK
 | bl a =>
  cases ry
  cases x with
  | gy=>cases rx;exact SeqAt.EqAt.bool_none a
  | bl b=>cases rx;exact SeqAt.EqAt.bool_bool a b
  | int b=>obtain⟨t,rfl⟩:=rx;exact SeqAt.EqAt.bool_int a b t
  | str b=>obtain⟨t,rfl⟩:=rx;exact SeqAt.EqAt.bool_str a b t
  | _=>exact absurd (show false=true from fx) aK
 | int a =>
  obtain⟨t',rfl⟩:=ry
  cases x with
  | gy=>cases rx;exact SeqAt.EqAt.int_none a t'
  | bl b=>cases rx;exact SeqAt.EqAt.int_bool a t' b
  | int b=>obtain⟨t,rfl⟩:=rx;exact SeqAt.EqAt.int_int a t' b t
  | str b=>obtain⟨t,rfl⟩:=rx;exact SeqAt.EqAt.int_str a t' b t
  | _=>exact absurd (show false=true from fx) aK
 | str a =>
  obtain⟨t',rfl⟩:=ry
  cases x with
  | gy=>cases rx;exact SeqAt.EqAt.str_none a t'
  | bl b=>cases rx;exact SeqAt.EqAt.str_bool a t' b
  | int b=>obtain⟨t,rfl⟩:=rx;exact SeqAt.EqAt.str_int a t' b t
  | str b=>obtain⟨t,rfl⟩:=rx;exact SeqAt.EqAt.str_str a t' b t
  | _=>exact absurd (show false=true from fx) aK
 | _=>exact absurd (show false=true from fy) aK
def Fc (x:V)(u:Value):Bool:=match u with
 | .none=>ML .gy x
 | .bool b=>ML (.bl b) x
 | .int i _=>ML (.int i) x
 | .str z _=>ML (.str z) x
 | _=>false
def Lj {x y:V}{u:Value}(r:fm y u)(f:lQ y=true):Fc x u=ML y x:=by
 cases y with
 | gy=>cases r;rfl
 | bl b=>cases r;rfl
 | int i=>obtain⟨t,rfl⟩:=r;rfl
 | str z=>obtain⟨t,rfl⟩:=r;rfl
 | _=>exact absurd (show false=true from f) aK
def um {x:V}:∀ {xs:List V} {us:List Value},fj xs us->xs.all lQ=true->us.any (Fc x)=xs.any fun y=>ML y x
 | _,_,.nil,_=>rfl
 | y::xs,u::us,.cons r t,f=>by
  rw[c9,aT]at f
  rw[bz,bz,Lj r f.1,um t f.2]
def qj {A:Around}{s:ah}{x:V}{v:Value}(rx:fm x v)(fx:lQ x=true):∀ {xs:List V} {us:List Value},fj xs us->xs.all lQ=true->∀ u∈us,SeqAt.EqAt A s u v (Fc x u)
 | _,_,.nil,_=>fun u hu=>by cases hu
 | y::xs,u::us,.cons r t,f=>fun u' hu=>by
  rw[c9,aT]at f
  rcases List.mem_cons.mp hu with rfl | hu
  .rw[Lj r f.1];exact Sv r rx f.1 fx
  .exact qj rx fx t f.2 u' hu
def R9 (x:V)(xs:List V):Bool:=xs.any fun y=>ML y x
def rIn (K:aa)(neg:Bool):R2:=fun x y H Q=>∃ p xs,y=.ref p/\(pK K H p xs\/BA K H p xs)/\lQ x=true/\xs.all lQ=true/\Q (.bl (if neg then !R9 x xs else R9 x xs)) H
def HN:kg X (compareOp .In) (rIn X.K false):=by
 intro dA s σ H x y v u Q I rx ry h
 obtain⟨p,xs,rfl,hq,fx,fs,q⟩:=h
 cases ry
 rcases hq with hq | hq
 .obtain⟨eW,r,pl,hz⟩:=I.list hq
  refine SeqAt.in_listAt (Fc x) pl.isList (fun w hw=>qj rx fx r fs w (by simpa using hw)) ⟨.bl _,H,I,rfl,?_⟩
  rw[show eW.toArray.any (Fc x)=eW.any (Fc x) by simp,um r fs]
  exact q
 .obtain⟨eW,r,pl,hz⟩:=I.tuple hq
  refine SeqAt.in_tupleAt (Fc x) pl (fun w hw=>qj rx fx r fs w (by simpa using hw)) ⟨.bl _,H,I,rfl,?_⟩
  rw[show eW.toArray.any (Fc x)=eW.any (Fc x) by simp,um r fs]
  exact q
def AF:kg X (compareOp .NotIn) (rIn X.K true):=by
 intro dA s σ H x y v u Q I rx ry h
 obtain⟨p,xs,rfl,hq,fx,fs,q⟩:=h
 cases ry
 rcases hq with hq | hq
 .obtain⟨eW,r,pl,hz⟩:=I.list hq
  refine SeqAt.notIn_listAt (Fc x) pl.isList (fun w hw=>qj rx fx r fs w (by simpa using hw)) ⟨.bl _,H,I,rfl,?_⟩
  rw[show eW.toArray.any (Fc x)=eW.any (Fc x) by simp,um r fs]
  exact q
 .obtain⟨eW,r,pl,hz⟩:=I.tuple hq
  refine SeqAt.notIn_tupleAt (Fc x) pl (fun w hw=>qj rx fx r fs w (by simpa using hw)) ⟨.bl _,H,I,rfl,?_⟩
  rw[show eW.toArray.any (Fc x)=eW.any (Fc x) by simp,um r fs]
  exact q
def AE:kg X (compareOp .NotIn) (fun x y H Q=>∃ i j,x=.str i/\y=.str j/\Q (.bl (!(!(Builtin.Str.occurrences j i 0 j.length 1).isEmpty))) H):=by
 intro dA s σ H x y v u Q I rx ry h
 obtain⟨i,j,rfl,rfl,q⟩:=h
 obtain⟨t,rfl⟩:=rx
 obtain⟨t',rfl⟩:=ry
 exact notIn_str ⟨.bl _,H,I,rfl,q⟩
def Bt:iI X (.builtin "len") (fun xs H Q=>∃ p ys,xs=[.ref p]/\(pK X.K H p ys\/BA X.K H p ys)/\Q (.int ys.length) H):=by
 intro dA s σ H xs us Q I r h
 obtain⟨p,ys,rfl,hq,q⟩:=h
 obtain⟨u,rfl,rx⟩:=vals1 r
 cases rx
 have hn:=sv
 rcases hq with hq | hq
 .obtain⟨eW,r',pl,hz⟩:=I.list hq
  have hlen:=r'.length
  exact Calls.call_len_list pl.isList (by simp only[aB]<;> lia) ⟨.int ys.length,H,I.tok _,⟨s.toks+1,by rw[aB,hlen]⟩,q⟩
 .obtain⟨eW,r',pl,hz⟩:=I.tuple hq
  have hlen:=r'.length
  exact len_tuple pl (by simp only[aB]<;> lia) ⟨.int ys.length,H,I.tok _,⟨s.toks+1,by rw[aB,hlen]⟩,q⟩
def Bs:iI X (.builtin "len") (fun xs H Q=>∃ z,xs=[.str z]/\z.length<=sizeLine/\Q (.int z.length) H):=by
 intro dA s σ H xs us Q I r h
 obtain⟨z,rfl,hz,q⟩:=h
 obtain⟨u,rfl,t,rfl⟩:=vals1 r
 have hn:=sv
 exact len_str (by lia) ⟨.int z.length,H,I.tok _,⟨_,rfl⟩,q⟩
def iI.or {f:Value}{r r':List V->Hp->VK->Prop}(h:iI X f r)(h':iI X f r'):iI X f (fun xs H Q=>r xs H Q\/r' xs H Q):=by
 intro dA s σ H xs us Q I rs q
 rcases q with q | q
 .exact h dA s σ H xs us Q I rs q
 .exact h' dA s σ H xs us Q I rs q
def Br:iI X (.type "list") (fun xs H Q=>∃ p ys,xs=[.ref p]/\(pK X.K H p ys\/BA X.K H p ys)/\∀ l,H l=none->Q (.ref l) (upd H l (.lst ys))):=by
 intro dA s σ H xs us Q I r h
 obtain⟨p,ys,rfl,hq,q⟩:=h
 obtain⟨u,rfl,rx⟩:=vals1 r
 cases rx
 have fin:∀(eW:List Value),fj ys eW->ys.length<=sizeLine->∀(h':Heap) (c':Nat),(∀ b o',s.heap.get? b=some o'->h'.get? b=some o') ->
  h'.get? s.heap.objs.size=some { cls:=.type "list",dict:=none,data:=.seq eW.toArray c',slots:=#[]}->EP X dA σ Q (.ref s.heap.objs.size) { s with heap:=h'}:=fun eW r' hz h' c' kp e =>
  ⟨.ref s.heap.objs.size,_,I.laid (t':=s.toks) kp (aj _) (show gh X.prog X.w _ h' _ (.lst ys)from⟨hz,eW,c',r',e⟩),rfl,q _ (I.fc.fresh (aj _))⟩
 rcases hq with hq | hq
 .obtain⟨eW,r',pl,hz⟩:=I.list hq
  have hlen:=r'.length
  obtain⟨o,ho,hc,n,hd⟩:=pl.isList
  exact call_list_seq p (.inl rfl) ho hc hd (fun h' c' kp e=>fin eW r' hz h' c' kp e) (by simp only[aB]<;> lia)
 .obtain⟨eW,r',pl,hz⟩:=I.tuple hq
  have hlen:=r'.length
  obtain⟨o,ho,hc,n,hd⟩:=pl
  exact call_list_seq p (.inr rfl) ho hc hd (fun h' c' kp e=>fin eW r' hz h' c' kp e) (by simp only[aB]<;> lia)
def Wx (K:aa)(T:String)(x:V)(H:Hp):Prop:=match x with
 | .str _=>T = "str"
 | .int _=>T = "int"
 | .ref p=>(T = "list"/\∃ xs,pK K H p xs)\/(T = "tuple"/\∃ o,K.lookup p=some o/\o.cls=.type "tuple"/\o.dict=none) \/
  (T = "dict"/\((∃ kvs,H p=some (.dK kvs))\/∃ kvs,H p=some (.dT kvs)))\/(T = "set"/\∃ S n,H p=some (.set S n))
 | _=>False
def Jm {dA:List (ai×Obj)}{σ:St}{H:Hp}{s:ah}{T:String}{x:V}{v:Value}(I:Inv X dA σ H s)(r:fm x v)(ty:Wx X.K T x H) :
 s.TypeIs v T/\∀ a,v=.ref a->∃ ob,s.heap.get? a=some ob/\ob.dict=none:=by
 cases x with
 | str z =>
  obtain⟨t,rfl⟩:=r
  cases(show T = "str" from ty)
  exact⟨typeIs_str s z t,fun _ e=>nomatch e⟩
 | int i =>
  obtain⟨t,rfl⟩:=r
  cases(show T = "int" from ty)
  exact⟨typeIs_int s i t,fun _ e=>nomatch e⟩
 | ref p =>
  cases r
  rcases ty with⟨rfl,xs,hq⟩ | ⟨rfl,o,hk,hc,hd⟩ | ⟨rfl,hk⟩ | ⟨rfl,S,n,hk⟩
  .obtain⟨eW,_,pl,_⟩:=I.list hq
   refine⟨pl.isList.typeIs,fun a e=>?_⟩
   cases e
   obtain⟨o,n,e,c,hd,_⟩:=pl
   exact⟨o,e,hd⟩
  .refine⟨⟨o,I.rN p o hk,hc⟩,fun a e=>?_⟩
   cases e
   exact⟨o,I.rN _ o hk,hd⟩
  .have z:∃ o,s.heap.get? p=some o/\o.ExactDict:=by
    rcases hk with⟨kvs,hk⟩ | ⟨kvs,hk⟩
    .obtain⟨_,_,_,_,o,_,_,e,ex,_⟩:=I.fc p _ hk
     exact⟨o,e,ex⟩
    .obtain⟨_,_,_,_,o,_,_,e,ex,_⟩:=I.fc p _ hk
     exact⟨o,e,ex⟩
   obtain⟨o,e,ex⟩:=z
   refine⟨⟨o,e,ex.1⟩,fun a e2=>?_⟩
   cases e2
   exact⟨o,e,ex.2.1⟩
  .obtain⟨o,_,_,_,e,ex,_⟩:=I.fc p _ hk
   refine⟨⟨o,e,ex.1⟩,fun a e2=>?_⟩
   cases e2
   exact⟨o,e,ex.2.1⟩
 | _=>exact False.elim ty
def Xs (K:aa)(T:String)(r:V->List V->Hp->VK->Prop)(to:TE):TE:=fun σ H Q=>to σ H fun x H1=>Wx K T x H1/\r x [] H1 Q
def tBM (K:aa)(T:String)(r:V->List V->Hp->VK->Prop)(to:TE)(t:TA):TE:=fun σ H Q=>to σ H fun x H1=>Wx K T x H1/\t σ H1 fun xs H2=>r x xs H2 Q
variable {o e:Expr}{es:List Expr}{to:TE}{t:TA}{name:Str}{fY gE:Pos}{T id:String}{r:V->List V->Hp->VK->Prop}
def Ru (pa:PlainAttrs T)(slot:Slot T name id)(Sd:typeOf (.builtin id)=pure (.type "method_descriptor"))(hm:Fv X id r)(ho:PE X o to)
 (lI:attributeBase o name X.env (eval o X.env)=eval o X.env:=by rfl) (lH:(fY.endLine==gE.line)=true:=by rfl):PE X (.Call (.Attribute o name fY) [] [] gE) (Xs X.K T r to):=by
 intro dA s σ H Q I h
 refine dr lI lH (gc (ho dA s σ H _ I h) fun v s1 qu=>?_)
 obtain⟨x,H1,I1,r1,ty,q1⟩:=qu
 obtain⟨h1,h2⟩:=Jm I1 r1 ty
 exact⟨T,id,pa,slot,Sd,h1,h2,cf rfl (PySem.evalArgs_none (hm dA s1 σ H1 x [] v [] Q I1 r1 .nil q1))⟩
def UL (pa:PlainAttrs T)(slot:Slot T name id)(Sd:typeOf (.builtin id)=pure (.type "method_descriptor"))(hm:Fv X id r)(ho:PE X o to)(ha:PA X (e::es) t)
 (lI:attributeBase o name X.env (eval o X.env)=eval o X.env:=by rfl)
 (Sk:((backTo gE (starEach (e::es) X.env)).all (fun x=>!x.1)&&(backToKw gE (keywordEach [] X.env)).all (fun x=>x.1.isSome)
   && decide ((e::es).length+([]:List Keyword).length+(if([]:List Keyword).isEmpty then 0 else 1)<30))=true:=by rfl)
 (lH:(fY.endLine==gE.line)=true:=by rfl) (hs:starEach (e::es) X.env=(false,eval e X.env)::starEach es X.env:=by rfl) (ER:(backTo gE (starEach es X.env)).any (·.1)=false:=by rfl) :
 PE X (.Call (.Attribute o name fY) (e::es) [] gE) (tBM X.K T r to t):=by
 intro dA s σ H Q I h
 refine wpAny_Call_method_late lI Sk lH rfl (gc (ho dA s σ H _ I h) fun v s1 sC=>?_)
 obtain⟨x,H1,I1,r1,ty,q1⟩:=sC
 obtain⟨h1,h2⟩:=Jm I1 r1 ty
 refine⟨T,id,pa,slot,Sd,h1,h2,?_⟩
 have hA:=ha gE dA s1 σ H1 _ I1 q1
 rw[hs]at hA ⊢
 refine cf (by show(false||(backTo gE (starEach es X.env)).any (·.1))=false;rw[ER]<;> rfl) (Calls.evalArgs_plain ?_)
 exact gc hA fun us s2 rl=>by obtain⟨vs,H2,I2,r2,q2⟩:=rl;exact hm dA s2 σ H2 x vs v us Q I2 r1 r2 q2
end
def Zp (X:Cx)(id:String)(r:V->List V->Hp->VK->Prop):Prop :=
 ∀(dA:List (ai×Obj)) (s:ah) (σ:St) (H:Hp) (x:V) (xs:List V) (v:Value) (us:List Value) (Q:VK),Inv X dA σ H s->fm x v->fj xs us->r x xs H Q ->
  wpAny (model X.prog X.w) X.A (call (.builtin id) (v::us)) (EP X dA σ Q) X.xe s
def fj.one {x:V}{us:List Value}(h:fj [x] us):∃ u,us=[u]/\fm x u:=by
 cases h with
 | cons r t=>cases t;exact⟨_,rfl,r⟩
def fj.two {x y:V}{us:List Value}(h:fj [x,y] us):∃ u v,us=[u,v]/\fm x u/\fm y v:=by
 cases h with
 | cons r t=>obtain⟨v,rfl,q⟩:=fj.one t;exact⟨_,v,rfl,r,q⟩
def fj.zero:∀ {us:List Value},fj [] us->us=[]
 | _,.nil=>rfl
def fj.dropLast {xs:List V}{us:List Value}(h:fj xs us):fj xs.dropLast us.dropLast:=by
 induction h with
 | nil=>exact .nil
 | cons r t ih =>
  cases t with
  | nil=>exact .nil
  | cons q t'=>exact .cons r ih
def fj.reverse {xs:List V}{us:List Value}(h:fj xs us):fj xs.reverse us.reverse:=by
 induction h with
 | nil=>exact .nil
 | cons r t ih=>rw[cw,cw];exact fj.append ih (.cons r .nil)
def Fb {α:Type}(l:List α):l.eraseIdx (l.length - 1)=l.dropLast:=by
 induction l with
 | nil=>rfl
 | cons a r ih =>
  cases r with
  | nil=>rfl
  | cons b r =>
   have e:(a::b::r).length - 1=((b::r).length - 1)+1:=by
    have h1:(a::b::r).length=r.length+2:=rfl
    have h2:(b::r).length=r.length+1:=rfl
    lia
   rw[e,List.eraseIdx_cons_succ,ih]
   all_goals rfl
section
variable {X:Cx}{dA:List (ai×Obj)}{σ:St}{H:Hp}{s:ah}{l b:ai}{xs ys zs:List V}
def Inv.N7 {eW its':List Value}{n:Nat}{f:Array Value->Array Value}{t':Nat}(I:Inv X dA σ H s)(hH:H l=some (.lst xs))
 (e:s.heap.get? l=some { cls:=.type "list",data:=.seq eW.toArray n}) (hf:f eW.toArray=its'.toArray) (hv:fj ys its') (hz:ys.length<=sizeLine) :
 Inv X dA σ (upd H l (.lst ys)) { s with heap:=s.heap.update l (Obj.mapSeq f),toks:=t'}:=by
 have q:=PySem.IsL.update e f
 rw[hf]at q
 refine I.write (x:=l) (e:=l) (by rw[hH];exact trivial) (.inl rfl) (fun b' u hb hu=>(bw s.heap (Obj.mapSeq f) (bj hb)).trans hu) ⟨_,q⟩ ?_
 exact⟨hz,its',_,hv,q⟩
def Inv.XW {eW:List Value}{t':Nat}(I:Inv X dA σ H s)(hv:fj ys eW)(hz:ys.length<=sizeLine) :
 Inv X dA σ (upd H s.heap.objs.size (.lst ys)) { s with heap:=s.heap.push { cls:=.type "list",data:=.seq eW.toArray},toks:=t'} :=
 I.laid (fun _ _ q=>j0 _ q) (aj _) ⟨hz,eW,0,hv,aD _ rfl⟩
def Inv.fresh (I:Inv X dA σ H s):H s.heap.objs.size=none:=I.fc.fresh (aj _)
def Inv.vV (I:Inv X dA σ H s)(hH:H l=some (.lst xs)):xs.length<=sizeLine/\∃(eW:List Value) (n:Nat),fj xs eW/\xs.length=eW.length/\s.heap.get? l=some { cls:=.type "list",data:=.seq eW.toArray n}:=by
 obtain⟨z,eW,n,r,e⟩:=I.fc l _ hH
 exact⟨z,eW,n,r,r.length,e⟩
def xS {n:Nat}(h:n<=sizeLine):Builtin.List.listTooLong n=false:=by
 unfold Builtin.List.listTooLong
 exact az (by lia)
end
section
variable {X:Cx}
def Nr:V->List V->Hp->VK->Prop:=fun x vs H Q=>∃ l xs y,x=.ref l/\vs=[y]/\H l=some (.lst xs)/\xs.length<sizeLine/\Q .gy (upd H l (.lst (xs++[y])))
def HX:Zp X "list.append" Nr:=by
 intro dA s σ H x vs v us Q I rx rv h
 obtain⟨l,xs,y,rfl,rfl,hH,hz,q⟩:=h
 cases rx
 obtain⟨u,rfl,ru⟩:=rv.one
 obtain⟨z,eW,n,r,hl,e⟩:=I.vV hH
 refine call_meets F.slot_list_append ⟨_,e,rfl⟩ F.entry_list_append (F.args_list_append_2 _ _) (PySem.list_append l eW.toArray n u (by rw[aB];lia)) ⟨e,?_⟩
 refine⟨.gy,_,I.N7 (its':=eW++[u]) hH e (by simp) (r.append (.cons ru .nil)) ?_,rfl,q⟩
 rw[j3,aN]
 lia
def Nq:V->List V->Hp->VK->Prop:=fun x vs H Q=>∃ l b xs zs,x=.ref l/\vs=[.ref b]/\H l=some (.lst xs)/\H b=some (.lst zs)/\xs.length+zs.length<=sizeLine/\Q .gy (upd H l (.lst (xs++zs)))
def TQ:Zp X "list.extend" Nq:=by
 intro dA s σ H x vs v us Q I rx rv h
 obtain⟨l,b,xs,zs,rfl,rfl,hH,hB,hz,q⟩:=h
 cases rx
 obtain⟨u,rfl,ru⟩:=rv.one
 cases ru
 obtain⟨z,eW,n,r,hl,e⟩:=I.vV hH
 obtain⟨z2,sx,n2,r2,Oj,e2⟩:=I.vV hB
 have hsz:eW.toArray.size+sx.toArray.size<=sizeLine:=by rw[aB,aB];lia
 have Vj:¬ (!eW.toArray.isEmpty&&Builtin.List.listTooLong (eW.toArray.size+sx.toArray.size))=true:=by
  rw[xS hsz,cY]
  exact aK
 refine call_meets F.slot_list_extend ⟨_,e,rfl⟩ F.entry_list_extend (F.args_list_extend_2 _ _)
  (AutoSeq1.list_extend_list_list_0 l eW.toArray n b sx.toArray n2 Vj (by rw[aB];lia) (by lia)) ⟨e,e2,?_⟩
 refine⟨.gy,_,I.N7 (its':=eW++sx) hH e (by simp) (r.append r2) ?_,rfl,q⟩
 rw[j3]
 lia
def XG:V->List V->Hp->VK->Prop:=fun x vs H Q=>∃ l xs y,x=.ref l/\vs=[]/\H l=some (.lst xs)/\xs[xs.length - 1]?=some y/\Q y (upd H l (.lst xs.dropLast))
def RN:Zp X "list.pop" XG:=by
 intro dA s σ H x vs v us Q I rx rv h
 obtain⟨l,xs,y,rfl,rfl,hH,hy,q⟩:=h
 cases rx
 have hus:=rv.zero
 subst hus
 obtain⟨z,eW,n,r,hl,e⟩:=I.vV hH
 obtain⟨u,hu,ru⟩:=r.get hy
 have hy':eW.toArray[eW.toArray.size - 1]?=some u:=by
  show eW.toArray[eW.length - 1]?=some u
  rw[<- Array.getElem?_toList,<- hl]
  exact hu
 refine call_meets F.slot_list_pop ⟨_,e,rfl⟩ F.entry_list_pop (F.args_list_pop_1 _) (MeetsSeq.list_pop_last l eW.toArray n u hy' (by rw[aB];lia)) ⟨e,?_⟩
 refine⟨y,_,I.N7 (its':=eW.dropLast) hH e ?_ r.dropLast ?_,ru,q⟩
 .show eW.toArray.eraseIdxIfInBounds (eW.toArray.size - 1)=eW.dropLast.toArray
  rw[aB,List.eraseIdxIfInBounds_toArray,Fb]
 .rw[List.length_dropLast]
  lia
def XH:R2:=fun x y H Q=>∃ l b xs zs,x=.ref l/\y=.ref b/\H l=some (.lst xs)/\H b=some (.lst zs)/\xs.length+zs.length<=sizeLine/\∀ p,H p=none->Q (.ref p) (upd H p (.lst (xs++zs)))
def RE:kg X (binaryOp .Add) XH:=by
 intro dA s σ H x y v u Q I rx ry h
 obtain⟨l,b,xs,zs,rfl,rfl,hH,hB,hz,q⟩:=h
 cases rx
 cases ry
 obtain⟨z,eW,n,r,hl,e⟩:=I.vV hH
 obtain⟨z2,sx,n2,r2,Oj,e2⟩:=I.vV hB
 refine PySem.P.add_list e e2 ?_ (by rw[aB,aB];lia)
 have ea:eW.toArray++sx.toArray=(eW++sx).toArray:=by simp
 rw[ea]
 exact⟨.ref _,_,I.XW (t':=s.toks) (r.append r2) (by rw[j3];lia),rfl,q _ I.fresh⟩
end
section
variable {prog:ae}{w:af}{A:Around}{E:Value->ah->Prop}{s:ah}
def HB (eW sx:List Value)(a c:Nat):eW.toArray.extract 0 a++sx.toArray++eW.toArray.extract c eW.toArray.size=(eW.take a++sx++eW.drop c).toArray:=by
 apply Array.toList_inj.mp
 first
  | (simp
     exact bf (by simp))
  | simp[bf]
  | simp
end
end L2
namespace Att
open PySem PySem.W PySem.Calls PyProof.Rows
def vW {P:Params}{h:Heap}:∀(ns:List Int) (vs:List Value),WellAll P h vs (ns.map WData.int)->IntsAre vs ns:=by
 intro ns
 induction ns with
 | nil =>
  intro vs w
  rw[List.map_nil]at w
  cases w
  exact .nil
 | cons n ns ih =>
  intro vs w
  rw[aw]at w
  cases w with
  | cons a b =>
   cases a
   exact .cons _ _ (ih _ b)
def HD {l:OpenLaw}{n:Nat}(hn:l.most=some n){P:Params}{h:Heap}{args:List WData}{vals:List Value}
 (Og:l.row.toRowW.claim.pre args=true) (X8:WellAll P h vals args) :
 ∃ a vs ns,vals=[Value.ref a]/\args=[WData.list (ns.map WData.int)]/\h.get? a=some { cls:=.type "list",data:=.seq vs.toArray}/\IntsAre vs ns/\ns.length<=n:=by
 have hsh:WShape.hasAll [] args [.list .int]=true:=(pre_splitW Og).1
 have hc:l.pre.holds [] { args:=args}=true:=(pre_splitW Og).2
 obtain⟨d,r,rfl,h1,h2⟩:=hasAllW_cons hsh
 obtain rfl:=hasAllW_nil h2
 obtain⟨xs,rfl,h3⟩:=hasW_list h1
 obtain⟨ns,rfl⟩:=items_int h3
 have hlen:ns.length<=n:=by
  unfold OpenLaw.pre at hc
  have h4:(WTm.not (.lt (.lit (.int (n:Int))) (.len (.arg 0)))).holds [] { args:=[.list (ns.map .int)]}=true:=by
   have h4:=(holds_andW hc).1
   rw[hn]at h4
   exact h4
  have h5:=condW_of h4 (w_not (w_lt w_lit (w_len_list (w_arg rfl))))
  rw[fH]at h5
  refine Nat.le_of_not_lt fun q=>?_
  have q':(n:Int)<((ns.length:Nat):Int):=by lia
  first
   | (rw[ar q']at h5;exact absurd h5 (by decide))
   | (simp at h5;lia)
 cases X8 with
 | cons w1 w2 =>
  cases w2
  cases w1 with
  | list ho YD=>exact⟨_,_,ns,rfl,rfl,ho,vW ns _ YD,hlen⟩
def HH (l:OpenLaw)(args:List WData):l.row.toRowW.claim.post args (.bool true) args=true :=
 postW_of (r:=l.row.toRowW) (X:=(true==true))
  (show WShape.has [] (.bool true) .bool=true by first | rfl | decide | simp[WShape.has,WShape.arms,WShape.armsAll])
  (show(WTm.eq .res (.lit (.bool true))).value [] { args:=args,res:=some (.bool true),after:=args}=some (.bool (true==true))from w_eq_bool (w_res rfl) w_lit) rfl
def DW {l:OpenLaw}{n:Nat}{q:ae}{loose:List Str}{XP:(Str->Option Value)->Heap->Prop}{YP:af->Heap->Prop}{d:DefRec}
 (hn:l.most=some n) (YA:d.params.defaults=[])
 (call:∀(w:af) (s₀ s₁:ah) (mg mb:Str->Option Value) (fa:ai) (o:Obj) (pm cd doc:Value) (a:ai) (vs:List Value) (ns:List Int),
   Ground q loose [] XP w s₀ mg mb s₁.heap->YP w s₁.heap ->
   s₁.heap.get? fa=some o->o.data=.func (docDef d.name d.params d.body d.scope pm cd doc)->s₁.heap.CodeRec cd d.name->mg d.name=some (.ref fa) ->
   s₁.heap.get? a=some { cls:=.type "list",data:=.seq vs.toArray}->IntsAre vs ns->ns.length<=n->s₁.gens=#[] ->
   codeAny (model l.prog w) callerA (.call (.ref fa) ⟨[.ref a],[]⟩) (fun r s'=>r=.ok (.ret (.bool true))/\OldK s₁.heap s'.heap/\s'.os=s₁.os/\AllBare s'.gens) s₁) :
 WalkO q loose XP YP l.row.toRowW d [] (fun f vs=>PySem.call f vs):=by
 intro w s₀ s₁ mg mb G Y fa o pm cd doc dV kV ho hd zd hD Ym hg args vals as Og hlay hrd X8 hlo
 obtain rfl:dV=.none:=Dflts.none hD YA
 obtain rfl:kV=.none:=Dflts.noKw hD
 obtain⟨a,vs,ns,rfl,rfl,Sh,hints,hlen⟩:=HD hn Og X8
 refine enter_call (codeAny_mono (call w s₀ s₁ mg mb fa o pm cd doc a vs ns G Y ho (fd_plain hd) zd Ym Sh hints hlen hg) fun r s' hq=>?_)
 obtain⟨rfl,h2,h3,h4⟩:=hq
 exact⟨.inl ⟨.bool true,.bool true,[],rfl,fun _=>rfl,.bool true,HH l _,fun _=>⟨List.Pairwise.nil,fun _ hm=>(nomatch hm)⟩⟩,h2,h3,h4⟩
end Att
namespace L2
open PySem PySem.Spec PyProof.Rows
def Hv {vs:List Value}{ns:List Int}(h:IntsAre vs ns):fj (ns.map V.int) vs:=by
 induction h with
 | nil=>exact .nil
 | cons n t h ih=>exact .cons ⟨t,rfl⟩ ih
def Te (H:Hp):Prop:=∀ b,H b=none\/∃ o xs,H b=some (.mC o (.lst xs))
def Kt {P:ae}{w:af}{K:aa}{mg mb:Str->Option Value}{CX:IP}{k:Nat}{fa a:ai}{fd:ag}{x:Str}{sp:Sp}{s₁:ah}{vs:List Value}{ns:List Int}
 (KX:K.In s₁.heap) (Qd:s₁.heap.Ns mainGlobals mg) (hb:s₁.heap.Ns builtinsNs mb) (hbb:∀ x:Str,x ≠ "__name__"->mb x=bootBuiltins x) (Yo:s₁.heap.NoLimit) (hg:s₁.gens=#[])
 (ha:s₁.heap.get? a=some { cls:=.type "list",data:=.seq vs.toArray}) (hi:IntsAre vs ns) (hl:ns.length<=sizeLine) (hr:iz k callerA)
 (F:∀ dD:Heap,K.In dD->dD.Ns mainGlobals mg->eV P w K mg dD CX k fa fd [x] sp) (Vr:∀(s:ah) (u:Value),BindsTo s fd ⟨[u],[]⟩ [(x,u)])
 (IS:∀ H:Hp,Te H->pK K H a (ns.map V.int)->sp [.ref a] H (fun v _=>v=.bl true) fun _ _ _=>False)
 (YF:∀ H e s',CX [] H s₁ (fun _ _ _=>False) e s'->False) :
 codeAny (model P w) callerA (.call (.ref fa) ⟨[.ref a],[]⟩) (fun r s'=>r=.ok (.ret (.bool true))/\OldK s₁.heap s'.heap/\s'.os=s₁.os/\AllBare s'.gens) s₁:=by
 have rv:=Hv hi
 have XX:=hi.length
 have core:∀ H:Hp,Te H->pK K H a (ns.map V.int)->o7 P w H s₁.heap->(∀ b,H b≠none->b=a)->(H a≠none->K.lookup a=none) ->
  codeAny (model P w) callerA (.call (.ref fa) ⟨[.ref a],[]⟩) (fun r s'=>r=.ok (.ret (.bool true))/\OldK s₁.heap s'.heap/\s'.os=s₁.os/\AllBare s'.gens) s₁:=by
  intro H hO hS fc hA hK
  have Hf:∀ {b:ai} {o:Obj},s₁.heap.get? b=some o->H b=none->(A0 s₁.heap H).get? b=some o:=fun e n=>KZ e n
  have UW:∀ {b:ai} {o:Obj} {es:Array DictEntry} {ep:Nat},s₁.heap.get? b=some o->o.data=.dict es ep->H b=none:=fun {b o es ep} e d=>by
   cases q:H b with
   | none=>rfl
   | some u =>
    have e':b=a:=hA b (by rw[q];simp)
    subst e'
    rw[ha]at e;cases e
    have d':Data.seq vs.toArray _=Data.dict es ep:=d
    cases d'
  have WM:∀ {b:ai} {m:Str->Option Value},s₁.heap.Ns b m->(A0 s₁.heap H).Ns b m:=fun {b m} pF=>by obtain⟨o,es,ep,e,d,r⟩:=pF;exact⟨o,es,ep,Hf e (UW e d),d,r⟩
  have hKb:K.In (A0 s₁.heap H):=fun b o e=>Hf (KX b o e) (by
   cases q:H b with
   | none=>rfl
   | some u =>
    have e':b=a:=hA b (by rw[q];simp)
    subst e'
    rw[hK (by rw[q];simp)]at e;cases e)
  have hM:Mod K mg (A0 s₁.heap H):=⟨hKb,WM Qd,⟨mb,WM hb,hbb⟩,let ⟨mc,h1,h2⟩:=Yo;⟨mc,WM h1,h2⟩⟩
  have e0:BI P w K mg (A0 s₁.heap H) callerA [] s₁ H:=⟨rfl,hM,fun b o e=>N3 e,Nat.le_of_eq (Ip _ _),trivial,fun b hb=>absurd (show b∈([]:List ai)from hb) (by simp),fc,.of_eq hg⟩
  refine codeAny_mono ((F _ hKb (WM Qd)).run callerA [] s₁ H ⟨[.ref a],[]⟩ [.ref a] [.ref a] _ _ hr e0 (Vr s₁ (.ref a)) (.cons rfl .nil) (IS H hO hS)) fun r s' h=>?_
  cases r with
  | error e=>exact(YF H e s' h).elim
  | ok fl =>
   cases fl with
   | next=>exact False.elim h
   | brk=>exact False.elim h
   | cont=>exact False.elim h
   | ret u =>
    obtain⟨v,H',os,bare,un,Yg,r',q⟩:=h
    have q':v=.bl true:=q
    subst q'
    obtain rfl:u=Value.bool true:=r'
    refine⟨rfl,OldK.of_keep fun b o e=>?_,os,bare⟩
    cases q:H b with
    | none=>exact un.keep b o e q (by intro z;exact absurd (show b∈([]:List ai)from z) (by simp)) (by simp)
    | some u =>
     rcases hO b with z | ⟨ob,xs,z⟩
     .rw[q]at z;cases z
     .have z2:=un.pG b ob _ z
      obtain⟨e1,_⟩:=fc b _ z
      obtain⟨e2,_⟩:=Yg b _ z2
      rw[e]at e1;cases e1
      exact e2
 cases hk:K.lookup a with
 | some o =>
  have e:=KX a o hk
  rw[ha]at e
  cases e
  refine core (fun _=>none) (fun _=>.inl rfl) (.inr ⟨_,vs.toArray,_,hk,rfl,rfl,rfl,by rw[aB,XX];exact hl,by simpa using rv⟩) (fun b u z=>by have z':(none:Option HO)=some u:=z;cases z') (fun b z=>absurd rfl z) fun z=>absurd rfl z
 | none =>
  refine core (fun b=>if b=a then some (.mC { cls:=.type "list",data:=.seq vs.toArray} (.lst (ns.map V.int)))else none) (fun b=>?_) (.inl (.inr ⟨{ cls:=.type "list",data:=.seq vs.toArray},au rfl⟩)) (fun b u z=>?_) (fun b z=>?_) fun _=>hk
  .by_cases hb:b=a
   .exact .inr ⟨_,_,au hb⟩
   .exact .inl (aq hb)
  .by_cases hb:b=a
   .have z':=(au hb).symm.trans z
    cases z'
    subst hb
    exact⟨ha,by rw[fH];exact hl,vs,_,rv,ha⟩
   .have z':=(aq hb).symm.trans z
    cases z'
  .by_cases hb:b=a
   .exact hb
   .exact absurd (aq hb) z
def MU {l:W.OpenLaw}{n k:Nat}{q:ae}{loose:List Str}{XP:(Str->Option Value)->Heap->Prop}{YP:af->Heap->Prop}{d:DefRec}{K:Params->aa}{CX:af->IP}{sp:af->Sp}{x:Str}
 (hn:l.most=some n) (Oi:n<=sizeLine) (YA:d.params.defaults=[]) (hr:iz k callerA)
 (hY:∀(w:af) (h:Heap),YP w h->(K w.params).In h)
 (F:∀(w:af) (mg:Str->Option Value) (fa:ai) (h:Heap),(K w.params).In h->h.Ns mainGlobals mg->mg d.name=some (.ref fa) ->
   ∃ fd:ag,(∀(s:ah) (u:Value),BindsTo s fd ⟨[u],[]⟩ [(x,u)]) /\
    ∀ dD:Heap,(K w.params).In dD->dD.Ns mainGlobals mg->eV l.prog w (K w.params) mg dD (CX w) k fa fd [x] (sp w))
 (IS:∀(w:af) (H:Hp) (a:ai) (ns:List Int),ns.length<=n->Te H->pK (K w.params) H a (ns.map V.int)->sp w [.ref a] H (fun v _=>v=.bl true) fun _ _ _=>False)
 (YF:∀(w:af) (H:Hp) (s:ah) (e:Value) (s':ah),CX w [] H s (fun _ _ _=>False) e s'->False) :
 W.WalkO q loose XP YP l.row.toRowW d [] (fun f vs=>PySem.call f vs):=by
 refine Att.DW hn YA fun w s₀ s₁ mg mb fa o pm cd doc a vs ns G Y ho hd zd Ym Sh hints hlen hg=>?_
 have KX:=hY w _ Y
 obtain⟨fd,hb,hF⟩:=F w mg fa _ KX G.T.g Ym
 exact Kt KX G.T.g G.T.b G.T.builtins G.T.nolimit hg Sh hints (aE hlen Oi) hr hF hb (fun H hO hS=>IS w H a ns hlen hO hS) fun H e s'=>YF w H s₁ e s'
def iV (s:Stmt):Arguments:=match s with
 | .FunctionDef _ a _ _ _ _ _ _ _ _=>a
 | _=>{ posonlyargs:=[],args:=[],vararg:=none,kwonlyargs:=[],kw_defaults:=[],kwarg:=none,defaults:=[]}
def hX (s:Stmt):List Stmt:=match s with
 | .FunctionDef _ _ b _ _ _ _ _ _ _=>b
 | _=>[]
def dR (s:Stmt):Scope:=match s with
 | .FunctionDef _ _ _ _ _ _ sc _ _ _=>sc
 | _=>{ kind:=.function,names:=[],isGenerator:=false,isCoroutine:=false}
abbrev kJ:IP:=fun _ _ _ _ _ _=>False
abbrev E0:XK:=fun _ _ _=>False
def Gr {X:Cx}:Passes kJ X E0:=fun _ _ _ _ _ _ _ h=>h.elim
structure ic (K:aa)(x qual:Str)(st:Stmt)(f:ai)(fd:ag):Prop where
 ex:∃(oc:Value) (od:Option ai) (kV doc pm:Value) (an:Option ai) (gr ct:Value) (My:Array (Option Value)),
  fd=W.fnOf x qual (iV st) (hX st) (dR st) .none kV doc pm an gr ct/\K.lookup f=some ⟨oc,od,.func fd,My⟩/\W.codeIn K gr qual=true
 kp:W.keepIn K (.ref f)=true
section
variable {P:ae}{w:af}{K:aa}{mg:Str->Option Value}{dD:Heap}
def ic.ok {x qual:Str}{st:Stmt}{f:ai}{fd:ag}{N ps:List Str}{k:Nat}{sp:Sp}(F:ic K x qual st f fd)(S:d8 N ps (dR st))(len:∀ vs H Q E,sp vs H Q E->vs.length=ps.length)
 (qv:∀(gr:Value) (A:Around) (dW:List Env) (s:ah) (H:Hp) (vs:List V) (Q:VK) (E:XK),iz k (A.deeper (envOfC qual (dR st) s.heap.objs.size f gr))->sp vs H Q E ->
   ∃ t,BC (pI kJ P w K mg dD N qual (dR st) f gr A dW s H E).UT (hX st) t/\t { nx:=fun _ H'=>Q .gy H',rt:=Q} (start N vs) H):eV P w K mg dD kJ (k+1) f fd ps sp:=by
 obtain⟨oc,od,kV,doc,pm,an,gr,ct,My,rfl,lk,zd⟩:=F.ex
 refine Qj lk zd S len fun A dW s H vs Q E hr IS=>?_
 obtain⟨t,h,q⟩:=qv gr A dW s H vs Q E hr IS
 exact⟨t,h.UT,q⟩
def ic.binds {x qual:Str}{st:Stmt}{f:ai}{fd:ag}{ps:List Str}(F:ic K x qual st f fd)
 (h:∀(kV doc pm:Value) (an:Option ai) (gr ct:Value) (us:List Value),us.length=ps.length->bindArgs (W.fnOf x qual (iV st) (hX st) (dR st) .none kV doc pm an gr ct) ⟨us,[]⟩=pure (ps.zip us)):Binds K fd ps []:=by
 obtain⟨oc,od,kV,doc,pm,an,gr,ct,My,rfl,lk,zd⟩:=F.ex
 exact .all (h kV doc pm an gr ct)
def Sr {x qual:Str}{st:Stmt}{f:ai}{oc:Value}{od an:Option ai}{My:Array (Option Value)}{kV doc pm gr ct:Value}(l:K.lookup f=some ⟨oc,od,.func (W.fnOf x qual (iV st) (hX st) (dR st) .none kV doc pm an gr ct),My⟩)
 (c:W.codeIn K gr qual=true) (k:W.keepIn K (.ref f)=true):ic K x qual st f (W.fnOf x qual (iV st) (hX st) (dR st) .none kV doc pm an gr ct):=⟨⟨oc,od,kV,doc,pm,an,gr,ct,My,rfl,l,c⟩,k⟩
end
def fW {A:Around}{k:Nat}(hr:iz k A):A.units+1<cLine:=cj (Nat.add_le_add_left (by decide:1<=64) _) hr.units
section
variable {X:Cx}
def pv (i:Nat){x:Str}{pos:Pos}(hN:X.N[i]?=some x:=by rfl)(hv:Tb X.env.scope x:=by first | exact Or.inl rfl | exact Or.inr (Or.inl rfl) | exact Or.inr (Or.inr rfl))(hd:(x==("__debug__" : Str))=false:=by decide)
 (zd:(x==("__classdict__" : Str))=false:=by decide):PE X (.Name x pos) (Ud i):=AB hN hv hd zd
end
def hU (H H':Hp):Prop:=∀ b o,H b=some o->H' b=some o
def hU.refl (H:Hp):hU H H:=fun _ _ h=>h
def hU.trans {H H1 H2:Hp}(a:hU H H1)(b:hU H1 H2):hU H H2:=fun c o h=>b c o (a c o h)
def hU.free {H H':Hp}(e:hU H H'){l:ai}(h:H' l=Option.none):H l=Option.none:=by
 cases q:H l with
 | none=>rfl
 | some o =>
  rw[e l o q]at h
  cases h
end L2
namespace L2
open PySem PySem.W PyProof.Rows
noncomputable abbrev FJ:=Fast.tw14082659384304107361
noncomputable abbrev xf:=Fast.tw14364793385576792824
noncomputable abbrev Ek:=Fast.tw4187177175401517315
noncomputable abbrev Xb (w:af)(os:OsState):ah:=⟨boot_heap w.params,#[],boot_drawn,boot_toks,os⟩
def IK (P:Params):((boot_heap P).isNs mainGlobals,(boot_heap P).objs.size,(boot_heap P).nsMap mainGlobals "__annotations__")=(true,11,some (.ref 6)):=by kernel_rfl
def N9 {p q:ae}{loose:List Str}{Xt:ah->Bool}{α:Type}{Yf:ah->α}{Ya:af->α}{N M:Nat}
 (e:opening p=plainProg p.main.scope.names) (hN:Nat.ble 600 N=true) (f:∀ s,fenceModules? p s=some s) (le:Nat.ble M N=true)
 (h:∀(w:af) (os:OsState),(FJ xf p w 11 (some (.ref 6)) M (Xb w os) (topStub p)).map (fun s =>
   (staticsOk (importedModules p.main.body) (boot_heap w.params) s.heap&&namesBound p s.heap&&gensDone s&&laidKept (boot_heap w.params) s.heap,Ek q loose (importedModules p.main.body) Xt true s,Yf s))=some (true,openGood q loose,Ya w)) :
 LeftO p q loose Xt Yf Ya N:=fun w=>by
 obtain⟨⟨h0,gs,d,k,os⟩,e1,e2⟩:=Option.map_eq_some_iff.mp (boot_open e hN f w)
 obtain⟨rfl,rfl,rfl,rfl⟩:h0=boot_heap w.params/\gs=#[]/\d=boot_drawn/\k=boot_toks:=by simpa using e2
 have b:=IK w.params
 simp only[Prod.mk.injEq]at b
 obtain⟨s1,r,e3⟩:=Option.map_eq_some_iff.mp (h w os)
 simp only[Prod.mk.injEq]at e3
 have r':topRun treeTable p w 11 (some (.ref 6)) M (Xb w os) (topStub p)=some s1:=by
  rw[show topRun=FJ from Fast.te14082659384304107361,show treeTable=xf from Fast.te14364793385576792824];exact r
 have r2:=topRun_mono (N - M) _ _ _ _ r'
 rw[show M+(N - M)=N by have:=Nat.le_of_ble_eq_true le;lia]at r2
 have t:topFrom treeTable p w N ⟨boot_heap w.params,#[],boot_drawn,boot_toks,os⟩=some s1:=by
  unfold topFrom
  dsimp only
  rw[b.1,b.2.1,b.2.2,r2]
  show(match staticsOk (importedModules p.main.body) (boot_heap w.params) s1.heap&&namesBound p s1.heap&&gensDone s1&&laidKept (boot_heap w.params) s1.heap with | true=>_ | false=>_)=_
  rw[e3.1]
 unfold openEnds
 rw[e1]
 show(topFrom treeTable p w N _).map _=_
 rw[t]
 refine bx some (Prod.ext ?_ e3.2.2)
 rw[<- e3.2.1]
 exact congrFun (congrFun (congrFun (congrFun (congrFun (congrFun Fast.te4187177175401517315 q) loose) (importedModules p.main.body)) Xt) true) s1
def jw (P:Params)(x:Str)(t:Nat)(v:Value):DictEntry:=⟨PyData.keyHash P x,.str x t,v⟩
def U0 (P:Params)(nm:Str)(t:Nat)(es:List (Str×Nat×Value)):Obj:=⟨.type "dict",none,.dict ((([("__name__",165,.str nm t),("__doc__",166,.none),("__package__",167,.none),("__loader__",168,.builtin "__main__.__loader__#opaque"),("__spec__",169,.none),("__annotations__",170,.ref 6),("__builtins__",171,.ref 4),("__file__",173,.str "/claim/cut.py" 172),("__cached__",174,.none)]:List (Str×Nat×Value))++es).map fun e=>jw P e.1 e.2.1 e.2.2).toArray (es.length+9),#[]⟩
abbrev sS (x:String):Str:=Str.ofString x
abbrev me (x:String)(t:Nat)(v:Value):Str×Nat×Value:=(Str.ofString x,t,v)
abbrev ko (a:ai)(o:Obj):ai×Obj:=(a,o)
abbrev sr (a:ai):Option (Option Value):=some (some (.ref a))
abbrev sn:Option (Option Value):=some none
def Vx (x q:Str)(s:Stmt)(pm:Value)(c:ai):Obj:=⟨.type "function",none,.func (fnOf x q (iV s) (hX s) (dR s) .none .none .none pm none (.ref c) .none),#[]⟩
def coQ (x q:Str)(t l a r1 r2:Nat)(v1 v2:Value)(r3 t2:Nat):Obj:=⟨.type "code",none,.fields #[.str x t,.str q (t+1),.str "/claim/cut.py" (t+2),.int l 0,.int a 0,.int 0 0,.int 0 0,.int 3 0,.ref r1,.bool true,.int 181 0,.ref r2,.none,v1,v2,.ref r3,.int t2 0,.int l 0,.str "/claim/cut.py" (t2+1)],#[]⟩
def EW {K:Frag}{x q:Str}{s:Stmt}{f c:ai}{pm:Value}(l:K.lookup f=some (Vx x q s pm c):=by kernel_rfl)(c':codeIn K (.ref c) q=true:=by kernel_rfl)(k:keepIn K (.ref f)=true:=by kernel_rfl):ic K x q s f (fnOf x q (iV s) (hX s) (dR s) .none .none .none pm none (.ref c) .none):=Sr l c' k
def Wb {α:Type}{P:List α->Prop}(h:∀ a,P [a])(us:List α)(e:us.length=1):P us:=by
 obtain⟨a,rfl⟩:=List.length_eq_one_iff.mp e
 exact h a
def MN {α:Type}{P:List α->Prop}{n:Nat}(h:∀ a us,us.length=n->P (a::us))(us:List α)(e:us.length=n+1):P us:=by
 cases us with
 | nil=>cases e
 | cons a us=>exact h a us (Nat.succ.inj e)
def OP (s:Stmt):List Stmt:=match s with
 | .ClassDef _ _ _ b _ _ _ _ _ _ _=>b
 | _=>[]
def SA (s:Stmt):Pos:=match s with
 | .FunctionDef _ _ _ _ _ _ _ _ _ p=>p
 | _=>⟨0,0,0,0⟩
end L2
namespace L2
open PySem PySem.Spec PyProof.Rows
def kF (cells:List (Str×ai)):List (Str×NameKind)->List (Str×ai)->List (Str×ai)
 | [],acc=>acc
 | (n,k)::r,acc=>if k==.free then kF cells r ((n,(cells.lookup n).getD 0)::acc)else kF cells r acc
def sH {env:Env}(f:Str×NameKind->List (Str×ai)->Sem (ForInStep (List (Str×ai))))
 (hf:∀ n k cs,f (n,k) cs=if k==.free then(do let a <- cellOf env n;pure (.yield ((n,a)::cs)))else pure (.yield cs)) :
 ∀(names:List (Str×NameKind)) (acc:List (Str×ai)),(∀ y∈names,y.2=.free->∃ c,env.cells.lookup y.1=some c) ->
  forIn names acc f=pure (kF env.cells names acc)
 | [],acc,_=>by rw[List.forIn_nil];rfl
 | (n,k)::r,acc,h=>by
  rw[List.forIn_cons,hf]
  unfold kF
  have hr:∀ y∈r,y.2=.free->∃ c,env.cells.lookup y.1=some c:=fun y hy=>h y (oO _ hy)
  by_cases hk:(k==NameKind.free)=true
  .rw[au hk,au hk]
   obtain⟨c,hc⟩:=h (n,k) aH (by simpa using hk)
   have uO:env.cells.lookup n=some c:=hc
   have e:cellOf env n=pure c:=by unfold cellOf;rw[uO]
   rw[e,uO,pure_bind,pure_bind]
   exact sH f hf r _ hr
  .rw[aq hk,aq hk,pure_bind]
   exact sH f hf r _ hr
def lj {scope:Scope}{env:Env}(h:∀ y∈scope.names,y.2=.free->∃ c,env.cells.lookup y.1=some c):closureFor scope env=pure (kF env.cells scope.names []):=by
 simp only[closureFor]
 rw[sH (env:=env) _ (fun n k cs=>by
  by_cases hk:(k==NameKind.free)=true
  .simp only[hk,if_true]
  .simp only[Bool.not_eq_true]at hk;simp only[hk,dq,if_false]) scope.names [] h]
 rfl
def oW {cells:List (Str×ai)}:∀ {names:List (Str×NameKind)} {acc:List (Str×ai)},(∀ y∈names,y.2=.free->∃ c,cells.lookup y.1=some c) ->
 ∀ n c,(n,c)∈kF cells names acc->(n,c)∈acc\/cells.lookup n=some c
 | [],acc,_,n,c,h=>.inl h
 | (m,k)::r,acc,hf,n,c,h=>by
  unfold kF at h
  have hr:∀ y∈r,y.2=.free->∃ c,cells.lookup y.1=some c:=fun y hy=>hf y (oO _ hy)
  split at h
  .rename_i hk
   rcases oW hr n c h with h | h
   .rcases List.mem_cons.mp h with e | h
    .cases e
     obtain⟨c,hc⟩:=hf (m,k) aH (by simpa using hk)
     have uO:cells.lookup m=some c:=hc
     exact .inr (by rw[uO];rfl)
    .exact .inl h
   .exact .inr h
  .exact oW hr n c h
def sI {cells:List (Str×ai)}:∀(names:List (Str×NameKind)) (acc:List (Str×ai)) (n:Str),(acc.lookup n).isSome=true->((kF cells names acc).lookup n).isSome=true
 | [],acc,n,h=>h
 | (m,k)::r,acc,n,h=>by
  unfold kF
  split
  .refine sI r _ n ?_
   rw[cZ]
   cases n==m
   .exact h
   .rfl
  .exact sI r _ n h
def oX {cells:List (Str×ai)}:∀(names:List (Str×NameKind)) (acc:List (Str×ai)) (n:Str),(n,NameKind.free)∈names->((kF cells names acc).lookup n).isSome=true
 | (m,k)::r,acc,n,h=>by
  unfold kF
  rcases List.mem_cons.mp h with e | h
  .cases e
   refine sI r _ m ?_
   simp
  .split
   .exact oX r _ n h
   .exact oX r _ n h
def lu:∀(names:List (Str×NameKind)) (n:Nat) (a b:List (Str×ai)),cellsFrom n names (a++b)=cellsFrom n names a++b
 | [],_,_,_=>rfl
 | (m,k)::r,n,a,b=>by
  unfold cellsFrom
  split
  .exact lu r (n+1) ((m,n)::a) b
  .exact lu r n a b
def m3 {M:Model}{A:Around}{E:Value->ah->Prop}{s:ah}{scope:Scope}{cl:List (Str×ai)}{env:Env}{Q:Env->ah->Prop}
 (h:Q (newEnv scope s.heap.objs.size env.globals (cellsFrom (s.heap.objs.size+1) scope.names cl) env.qual none .none (some env) builtinsNs) { s with heap:=pushCells (s.heap.push { cls:=.type "dict",data:=.dict #[]}) scope.names}) :
 wpAny M A (newFunctionEnv scope env.globals cl [] env.qual none .none (some env)) Q E s:=by
 simp only[newFunctionEnv,Option.isSome_some,if_true]
 refine fb (wpAny_alloc ?_)
 refine fb (wpAny_layCells _ (fun name kind cells=>by cases hkc:kind==NameKind.cell <;> simp[hkc]) _ _ _ _ ?_)
 rw[show({ s with heap:=s.heap.push { cls:=.type "dict",data:=.dict #[]}}:ah).heap.objs.size=s.heap.objs.size+1 from bc ..]
 rw[List.forIn_nil]
 exact fb (av (av h))
def gi (js:List (Option Nat))(σ:St):St:=js.map fun o=>o.bind fun j=>(σ[j]?).join
def Bq (XN:List Str)(xsc:Scope)(N:List Str)(js:List (Option Nat))(sc:Scope):Bool :=
 (sc.kind==.function)&&(sc.names.all fun y=>(y.2 != .local)||(sc.names.lookup y.1==some .local)) &&
 (sc.names.all fun y=>(y.2 != .free)||(xsc.names.lookup y.1==some .cell)||(xsc.names.lookup y.1==some .free)) &&
 (js.length==N.length)&&decide N.Nodup &&
 ((N.zip js).all fun p=>match p.2 with
   | none=>true
   | some j=>XN[j]?==some p.1&&sc.names.contains (p.1,NameKind.free)&&sc.names.lookup p.1==some .free&&!(sc.names.contains (p.1,NameKind.cell)))
structure i8 (X:Cx)(N:List Str)(js:List (Option Nat))(sc:Scope):Prop where
 kind:sc.kind=.function
 loc:∀ y∈sc.names,y.2=.local->sc.names.lookup y.1=some .local
 free:∀ y∈sc.names,y.2=.free->X.env.kindOf y.1=some .cell\/X.env.kindOf y.1=some .free
 len:js.length=N.length
 nd:N.Nodup
 slot:∀(i:Nat) (x:Str) (j:Nat),N[i]?=some x->js[i]?=some (some j)->X.N[j]?=some x/\(x,NameKind.free)∈sc.names/\sc.names.lookup x=some .free/\(x,NameKind.cell)∉sc.names
def LK {X:Cx}{XN:List Str}{xsc:Scope}{N:List Str}{js:List (Option Nat)}{sc:Scope}(h:Bq XN xsc N js sc=true)(hN:X.N=XN:=by rfl)(hs:X.env.scope=xsc:=by rfl):i8 X N js sc:=by
 subst hN;subst hs
 unfold Bq at h
 simp only[aT,cI,Bool.or_eq_true,bne_iff_ne,beq_iff_eq,bh]at h
 obtain⟨⟨⟨⟨⟨h1,h2⟩,h3⟩,h4⟩,h5⟩,h6⟩:=h
 refine⟨h1,fun y hy e=>(h2 y hy).resolve_left fun z=>z e,fun y hy e=>?_,h4,h5,fun i x j e1 e2=>?_⟩
 .rcases h3 y hy with(z | z) | z
  .exact absurd e z
  .exact .inl z
  .exact .inr z
 .have hm:(x,some j)∈N.zip js:=List.mem_iff_getElem?.mpr ⟨i,by rw[List.getElem?_zip_eq_some];exact⟨e1,e2⟩⟩
  have q:=h6 _ hm
  simp only[aT,beq_iff_eq,List.contains_iff_mem,Bool.not_eq_true',List.contains_eq_mem,bh,decide_eq_false_iff_not]at q
  exact⟨q.1.1.1,q.1.1.2,q.1.2,q.2⟩
def lr:∀(names:List (Str×NameKind)) (n:Nat) (acc:List (Str×ai)) (x:Str) (c:ai),(x,c)∈cellsFrom n names acc->(x,NameKind.cell)∈names\/(x,c)∈acc
 | [],_,_,_,_,h=>.inr h
 | (m,k)::r,n,acc,x,c,h=>by
  unfold cellsFrom at h
  split at h
  .rename_i hk
   rcases lr r _ _ x c h with h | h
   .exact .inl (oO _ h)
   .rcases List.mem_cons.mp h with e | h
    .cases e
     have Ol:k=NameKind.cell:=by simpa using hk
     exact .inl (by rw[Ol];exact aH)
    .exact .inr h
  .rcases lr r _ _ x c h with h | h
   .exact .inl (oO _ h)
   .exact .inr h
def vn {α β:Type}(g:Str->α->β):∀(l:List (Str×α)) (x:Str),(l.map fun p=>(p.1,g p.1 p.2)).lookup x=(l.lookup x).map (g x)
 | [],_=>rfl
 | (n,k)::r,x=>by
  rw[aw,cZ,cZ]
  cases hb:x==n with
  | true=>rw[beq_iff_eq.mp hb];rfl
  | false=>exact vn g r x
def uE (env:Env)(x:Str)(k:NameKind):NameKind:=if(k==.free&&env.scope.kind==.function&&env.kindOf x==some .cell)then .cell else k
def kC {sc:Scope}{env:Env}{x:Str}:(relabel sc env).names.lookup x=(sc.names.lookup x).map (uE env x):=by
 rw[<- vn]
 unfold relabel
 congr 1
 refine cb fun p _=>?_
 obtain⟨n,k⟩:=p
 show(if _ then _ else _)=(n,uE env n k)
 unfold uE
 split <;> rfl
def Cd {env:Env}{x:Str}{k:NameKind}(h:uE env x k=.cell\/uE env x k=.free):k=.cell\/k=.free:=by
 unfold uE at h
 split at h
 .rename_i q
  simp only[aT,beq_iff_eq]at q
  exact .inr q.1.1
 .exact h
def zt {env:Env}{x:Str}:uE env x .free=.cell\/uE env x .free=.free:=by
 unfold uE
 split
 .exact .inl rfl
 .exact .inr rfl
def mP (sc:Scope)(C:ai)(env:Env):Env where
 scope:=relabel sc env
 locals:=C
 globals:=env.globals
 cells:=cellsFrom (C+1) sc.names (kF env.cells sc.names [])
 qual:=env.qual
 func:=none
 code:=env.code
 frame:=env.frame
 builtins:=env.builtins
def l9 (X:Cx)(N:List Str)(sc:Scope)(fp:List ai)(s:ah)(H:Hp):Cx where
 prog:=X.prog
 w:=X.w
 K:=X.K
 mg:=X.mg
 dD:=X.dD
 A:=X.A
 N:=N
 s₀:=s
 H₀:=H
 env:=mP sc (s.heap.objs.size+1) X.env
 dW:=X.stack
 stack:=X.stack
 ex:=fp
 fn:=fun x=>sc.names.lookup x==some .cell
 gg:=X.gg
 pn:=[]
 xe:=fun _ _=>False
def tP (sc:Scope)(h:Heap):Heap:=pushCells ((h.push { cls:=.type "list",dict:=none,data:=.seq ([]:List Value).toArray}).push { cls:=.type "dict",data:=.dict #[]}) sc.names
def vz {sc:Scope}{h:Heap}:∀ b o,h.get? b=some o->(tP sc h).get? b=some o:=fun b o e=>de _ _ b o (j0 _ (j0 _ e))
def Ir {sc:Scope}{h:Heap}:(tP sc h).get? h.objs.size=some { cls:=.type "list",dict:=none,data:=.seq ([]:List Value).toArray} :=
 de _ _ _ _ (j0 _ (aD _ rfl))
def ya {js:List (Option Nat)}{σ:St}{i:Nat}{v:V}(h:(gi js σ)[i]?=some (some v)):∃ j,js[i]?=some (some j)/\σ[j]?=some (some v):=by
 unfold gi at h
 rw[vB]at h
 cases e:js[i]? with
 | none=>rw[e]at h;cases h
 | some o =>
  rw[e]at h
  cases o with
  | none=>cases h
  | some j =>
   refine⟨j,rfl,?_⟩
   have h':(σ[j]?).join=some v:=aS h
   cases q:σ[j]? with
   | none=>rw[q]at h';cases h'
   | some z=>rw[q]at h';have:z=some v:=h';rw[this]
section
variable {X:Cx}{dA:List (ai×Obj)}{σ:St}{H:Hp}{s:ah}{N:List Str}{js:List (Option Nat)}{sc:Scope}{fp:List ai}
def KL (I:Inv X dA σ H s)(hc:i8 X N js sc)(hf:∀ b∈fp,o9 X dA H b)(ho:∀ b∈fp,∃ o,s.heap.get? b=some o)(tk:Nat) :
 Inv (l9 X N sc fp s H) [] (gi js σ) H { s with heap:=tP sc s.heap,toks:=tk}:=by
 have hC:(s.heap.push { cls:=.type "list",dict:=none,data:=.seq ([]:List Value).toArray}).objs.size=s.heap.objs.size+1:=bc ..
 have K8:∀ y∈sc.names,y.2=.free->∃ c,X.env.cells.lookup y.1=some c:=fun y hy e=>I.ok.has y.1 (hc.free y hy e)
 have ok:=cellsFrom_ok sc.names ((s.heap.push { cls:=.type "list",dict:=none,data:=.seq ([]:List Value).toArray}).push { cls:=.type "dict",data:=.dict #[]}) (s.heap.objs.size+1+1) [] ⟨fun _ _ hm=>(nomatch hm),List.Pairwise.nil⟩
  (by rw[bc,hC];exact aj _)
 rw[bc,hC]at ok
 have eC:(mP sc (s.heap.objs.size+1) X.env).cells=cellsFrom (s.heap.objs.size+1+1) sc.names []++kF X.env.cells sc.names []:=lu sc.names _ [] _
 have lk:∀ x c,(mP sc (s.heap.objs.size+1) X.env).cells.lookup x=some c->(x,c)∈cellsFrom (s.heap.objs.size+1+1) sc.names []\/X.env.cells.lookup x=some c:=fun x c e=>by
  rw[eC]at e
  rcases List.mem_append.mp (mem_of_lookup e)with h | h
  .exact .inl h
  .rcases oW K8 x c h with h | h
   .cases h
   .exact .inr h
 have big:∀(x:Str) (c:Nat),(x,c)∈cellsFrom (s.heap.objs.size+1+1) sc.names []->s.heap.objs.size+1+1<=c:=fun x c h=>(ok.empty x c h).2
 have small:∀(x:Str) (c:Nat),X.env.cells.lookup x=some c->c<s.heap.objs.size:=fun x c h=>let ⟨_,q⟩:=I.cell x c h;q.lt
 have has:∀ x,((mP sc (s.heap.objs.size+1) X.env).kindOf x=some .cell\/(mP sc (s.heap.objs.size+1) X.env).kindOf x=some .free)->∃ c,(mP sc (s.heap.objs.size+1) X.env).cells.lookup x=some c:=fun x h=>by
  have h':(relabel sc X.env).names.lookup x=some .cell\/(relabel sc X.env).names.lookup x=some .free:=h
  rw[kC]at h'
  rw[eC,dn]
  cases q:sc.names.lookup x with
  | none=>rw[q]at h';rcases h' with h' | h' <;> cases h'
  | some k =>
   rw[q]at h'
   have hk:=Cd (env:=X.env) (x:=x) (k:=k) (h'.elim (fun z=>.inl (aS z)) fun z=>.inr (aS z))
   rcases hk with rfl | rfl
   .obtain⟨c,uO⟩:=nQ (n:=s.heap.objs.size+1+1) q
    exact⟨c,by rw[uO];rfl⟩
   .have z:=oX (cells:=X.env.cells) sc.names [] x (mem_of_lookup q)
    obtain⟨c,uO⟩:=Option.isSome_iff_exists.mp z
    cases q2:(cellsFrom (s.heap.objs.size+1+1) sc.names []).lookup x with
    | none=>exact⟨c,by rw[uO];rfl⟩
    | some d=>exact⟨d,rfl⟩
 have IQ:(l9 X N sc fp s H).Ok:=by
  refine⟨I.ok.mod,hc.kind,I.ok.glob,I.ok.blt,Nat.le_succ _,fun x y c h1 h2=>?_,has,fun x c hx h=>?_,I.ok.hd,I.ok.frames,.inl rfl,fun b hb=>⟨?_,fun x c h=>?_⟩,I.bs,aE I.ok.Fj I.sz,fun b o e hb=>?_,fun b hb hs=>?_,I.stack,I.qX⟩
  .rcases lk x c h1 with g1 | g1 <;> rcases lk y c h2 with g2 | g2
   .exact name_of_addr ok.apart g1 g2
   .exact absurd (aA (small _ _ g2) (aE (bb _ 2) (big _ _ g1))) (bB _)
   .exact absurd (aA (small _ _ g1) (aE (bb _ 2) (big _ _ g2))) (bB _)
   .exact I.ok.inj x y c g1 g2
  .have CZ:sc.names.lookup x=some .cell:=by simpa [l9]using hx
   have h':(mP sc (s.heap.objs.size+1) X.env).cells.lookup x=some c:=h
   rw[eC,dn]at h'
   obtain⟨c2,uO⟩:=nQ (n:=s.heap.objs.size+1+1) CZ
   rw[uO]at h'
   have e:c2=c:=aS h'
   subst e
   exact aE (bb _ 2) (big _ _ (mem_of_lookup uO))
  .obtain⟨o,e⟩:=ho b hb
   exact aL (bu (kK e))
  .obtain⟨o,e⟩:=ho b hb
   have l:=kK e
   rcases lk x c h with g | g
   .exact bt (aA l (aE (bb _ 2) (big _ _ g)))
   .exact(hf b hb).2.2.2.2.1 x c g
  .rcases(hf b hb).2.2.2.1 with z | z
   .exact I.ok.CA b o e z
   .exact absurd (aA (kK e) (aE I.ok.Fj z)) (bB _)
  .rcases List.mem_cons.mp (I.xi b hs)with z | z
   .exact(hf b hb).2.1 z
   .exact(hf b hb).2.2.1 z
 have tI:∀ b u,s.heap.get? b=some u->(tP sc s.heap).get? b=some u:=vz
 have XO:(tP sc s.heap).Ns (s.heap.objs.size+1) fun _=>none:=by
  have q:=(Heap.Ns.new (s.heap.push { cls:=.type "list",dict:=none,data:=.seq ([]:List Value).toArray}) (.type "dict")).keeps (de sc.names _)
  rw[hC]at q
  exact q
 refine⟨IQ,rfl,I.bare,Un.dE tI,⟨_,XO,fun i x v e1 e2 e3=>?_⟩,fun x c h=>?_,I.fc.fresh (Nat.le_succ _),fun x c h=>?_,fun p hp=>absurd (show p∈([]:List (ai×Obj))from hp) (by simp),I.fc.dE tI,?_⟩
 .obtain⟨j,hj,hv⟩:=ya e2
  obtain⟨g1,g2,g3,g4⟩:=hc.slot i x j e1 hj
  have kx:=hc.free _ g2 rfl
  obtain⟨m,hn,hl⟩:=I.loc
  obtain⟨u,r,l⟩:=hl j x v g1 hv (.inr kx)
  refine⟨u,r,?_⟩
  rcases l with⟨z,_⟩ | ⟨_,c,MG,vA⟩
  .have z':X.env.kindOf x=some .local:=z
   rcases kx with k | k <;> (have k':X.env.kindOf x=_:=k;rw[z']at k';cases k')
  .have kY:(mP sc (s.heap.objs.size+1) X.env).kindOf x=some .cell\/(mP sc (s.heap.objs.size+1) X.env).kindOf x=some .free:=by
    show(relabel sc X.env).names.lookup x=some .cell\/(relabel sc X.env).names.lookup x=some .free
    rw[kC,g3]
    rcases zt (env:=X.env) (x:=x)with q | q
    .exact .inl (show some (uE X.env x .free)=_ by rw[q])
    .exact .inr (show some (uE X.env x .free)=_ by rw[q])
   obtain⟨c',h'⟩:=has x kY
   refine .inr ⟨kY,c',h',?_⟩
   rcases lk x c' h' with g | g
   .rcases lr _ _ _ _ _ g with z | z
    .exact absurd z g4
    .cases z
   .rw[MG]at g;cases g
    exact vA.keeps tI
 .rcases lk x c h with g | g
  .exact⟨_,(ok.empty x c g).1⟩
  .obtain⟨v,q⟩:=I.cell x c g
   exact⟨v,q.keeps tI⟩
 .rcases lk x c h with g | g
  .exact I.fc.fresh (aE (bb _ 2) (big _ _ g))
  .exact I.kO x c g
 .show(gi js σ).length=N.length
  unfold gi
  rw[fH];exact hc.len
end
section
variable {X:Cx}{dA:List (ai×Obj)}{σ:St}{H:Hp}{s:ah}
def Inv.adopt {D:ai}{ys:List V}{eW:List Value}{n:Nat}(I:Inv X dA σ H s)(hn:H D=none)(hL:D≠X.env.locals)(h1:X.s₀.heap.objs.size<=D)(h2:∀ x c,X.env.cells.lookup x=some c->c≠D)(h3:∀ p∈X.pn++dA,p.1≠D)
 (e:s.heap.get? D=some { cls:=.type "list",data:=.seq eW.toArray n}) (r:fj ys eW) (hz:ys.length<=sizeLine):Inv X dA σ (upd H D (.lst ys)) s:=by
 have ne:∀ b,b∉[D]->b≠D:=fun b h z=>h (by simp[z])
 refine I.step (g':=s.gens) (d':=s.drawn) (t':=s.toks) (h':=s.heap) (ch:=[D]) (fun b hb=>?_) (fun b o _ _ _ q _=>q) (fun b o _ _ _ q _=>⟨o.slots,q⟩) (fun b o hb q z=>by rw[eP (ne b hb)];exact z) (fun b o _ q=>⟨o,q⟩)
  (fun b xs q=>by rw[eP (fC q hn)];exact q) (fun b o u q=>by rw[eP (fC q hn)];exact q) (fun b ps q=>⟨#[],by rw[eP (fC q hn),q];simp⟩) (fun m q=>q) (fun b u q=>?_) I.bare
 .have z:b=D:=by simpa using hb
  subst z
  exact⟨.inr h1,hL,h2,h3⟩
 .by_cases hb:b=D
  .subst hb;rw[eI]at q;cases q
   exact⟨hz,eW,n,r,e⟩
  .rw[eP hb]at q
   exact(I.fc b u q).xj (fun c v _ z=>z) (fun c z=>by rw[eP (fC z hn)];exact z) fun c xs z=>by rw[eP (fC z hn)];exact z
def Ja (X:Cx)(ifs:List Expr)(t:TT):Prop :=
 ∀(dA:List (ai×Obj)) (s:ah) (σ:St) (H:Hp) (Q:Bool->Hp->Prop),Inv X dA σ H s->t σ H Q ->
  wpAny (model X.prog X.w) X.A (forIn ifs true fun c r=>if r=true then do let ok <- isTrue c X.env (eval c X.env);pure (ForInStep.yield ok)else pure (ForInStep.yield r)) (TP X dA σ Q) X.xe s
def Xh:TT:=fun _ H Q=>Q true H
def Gi:Ja X [] Xh:=fun _ _ _ H _ I h=>wpAny_tests_nil ⟨H,I,h⟩
def Nu {c:Expr}{t:TT}(h:PT X c t):Ja X [c] t:=fun dA s σ H Q I q=>wpAny_tests_one (h dA s σ H Q I q)
def Ext (σ gH:St):Prop:=σ.length=gH.length/\∀(i:Nat) v,σ[i]?=some (some v)->gH[i]?=some (some v)
def Ext.UM {v u:Option V}{r:St}:Ext (none::none::r) (v::u::r):=⟨rfl,fun i z h=>by
 match i,h with
 | 0,h=>simp at h
 | 1,h=>simp at h
 | i+2,h=>simpa using h⟩
def Jk (js:List (Option Nat))(g:TG)(tt:TT)(te:TE)(J:It)(σ:St)(H1:Hp)(fin:List V->Hp->Prop):Prop :=
 ∃ W:Nat->Nat->List V->Hp->Prop,(∃ m,W 0 m [] H1)/\∀ i m ys H,W i m ys H ->
  (J.stop i H/\fin ys H)\/(J.go i H/\∀ x H',J.Jh i H x H'->g x (gi js σ) H' fun nA H2=>Ext (gi js σ) nA/\tt nA H2 fun b H3 =>
    if b=true then te nA H3 fun y H4=>ys.length<sizeLine/\∃ m',m'<m/\W (i+1) m' (ys++[y]) H4 else ∃ m',m'<m/\W (i+1) m' ys H3)
def Bp {prog:ae}{w:af}{A:Around}{R:Result->ah->Prop}{s:ah}{elt target iter:Expr}{ifs:List Expr}{scope:Scope}{pos:Pos}{it acc:Value}{env:Env}(I:Nat->ah->Prop)
 (turn:∀ n s,I n s->wpAny (model prog w) A (pyNext it) (fun r s₁=>match r with
   | none=>R (.ok .next) s₁
   | some v=>wpAny (model prog w) A (letOwnedTupleGo target it v) (fun _ B3=>wpAny (model prog w) A (assign target env v) (fun _ s₂ =>
    wpAny (model prog w) A (forIn ifs true fun c r=>if r=true then do let ok <- isTrue c env (eval c env);pure (ForInStep.yield ok)else pure (ForInStep.yield r)) (fun ok s₃ =>
     if ok=true then wpAny (model prog w) A (eval elt env) (fun x s₄ =>
      wpAny (model prog w) A (call (.builtin "list.append") [acc,x]) (fun _ s₅=>∃ m,m<n/\I m s₅) (fun _ _=>False) s₄) (fun _ _=>False) s₃
     else ∃ m,m<n/\I m s₃) (fun _ _=>False) s₂) (fun _ _=>False) B3) (fun _ _=>False) s₁) (fun _ _=>False) s)
 (n:Nat) (h:I n s) :
 codeAny (model prog w) A (.compLoop (.ListComp elt [⟨target,iter,ifs,0⟩] scope pos) 0 it acc env) R s:=by
 refine codeAny_loop rfl I (fun n s hI=>?_) n h
 show wpAny _ A ((compTurn (.ListComp elt [⟨target,iter,ifs,0⟩] scope pos) 0 it acc env).onRaise (fun x=>do noteFrame x env;theTreesLotGoes x)) _ _ s
 refine wpAny_noted ?_
 rw[compTurn_list]
 refine fb (c8 (fb (bo (turn n s hI) (fun r s₁ h₁=>?_) fun _ _ h'=>h'.elim)))
 cases r with
 | none=>exact av h₁
 | some v =>
  refine fb (bo h₁ (fun _ B3 KQ=>?_) fun _ _ h'=>h'.elim)
  refine fb (bo KQ (fun _ s₂ h₂=>fb (bo h₂ (fun ok s₃ h₃=>?_) fun _ _ h'=>h'.elim)) fun _ _ h'=>h'.elim)
  cases ok with
  | false=>exact av ⟨rfl,h₃⟩
  | true =>
   exact fb (fb (bo h₃ (fun x s₄ h₄=>fb (bo h₄ (fun _ s₅ h₅=>av (av ⟨rfl,h₅⟩)) fun _ _ h'=>h'.elim)) fun _ _ h'=>h'.elim))
variable {N:List Str}{js:List (Option Nat)}{sc:Scope}{fp:List ai}{tg elt iter:Expr}{ifs:List Expr}{g:TG}{tt:TT}{te:TE}
def lobj (eW:List Value)(n:Nat):Obj:={ cls:=.type "list",data:=.seq eW.toArray n}
def sG {J:It}{it:ai}{tn:Nat->Heap->Prop}{pos:Pos}{R:Result->ah->Prop}{fin:List V->Hp->Prop}{tk:Nat}(I:Inv X dA σ H s)(hc:i8 X N js sc){CM:Cx->Prop}(gg:CM (l9 X N sc fp s H))
 (T:Turn X.prog X.w X.K tg J fp it tn CM) (st:tn 0 s.heap) (hf:∀ b∈fp,o9 X dA H b)
 (hg:PG (l9 X N sc fp s H) tg g) (ht:Ja (l9 X N sc fp s H) ifs tt) (he:PE (l9 X N sc fp s H) elt te) (q:Jk js g tt te J σ H fin)
 (hR:∀ s' H' ys m,Inv X dA σ (upd H' s.heap.objs.size (.lst ys)) s'->H' s.heap.objs.size=none->fin ys H'->s'.heap.Ns (s.heap.objs.size+1) m->H' (s.heap.objs.size+1)=none->R (.ok .next) s') :
 codeAny (model X.prog X.w) X.A (.compStart (.ListComp elt [⟨tg,iter,ifs,0⟩] sc pos) 0 (.ref it) (.ref s.heap.objs.size) (mP sc (s.heap.objs.size+1) X.env)) R { s with heap:=tP sc s.heap,toks:=tk}:=by
 have TR:∀ b∈fp,∃ o,s.heap.get? b=some o:=fun b hb=>let ⟨o,e,_⟩:=T.obj 0 s.heap st b hb;⟨o,e⟩
 have I0:=KL I hc hf TR tk
 have IQ:=I0.ok
 obtain⟨W,⟨m0,w0⟩,turn⟩:=q
 have small:∀ b∈fp,b≠s.heap.objs.size:=fun b hb=>let ⟨o,e⟩:=TR b hb;aL (kK e)
 have xk:∀ {eW:List Value} {k:Nat} {H':Hp},(∀ b∈fp,H' b=none)->∀ b∈fp,o9 (l9 X N sc fp s H) [(s.heap.objs.size,lobj eW k)] H' b:=fun {eW k H'} hn b hb =>
  ⟨hn b hb,(IQ.Qn b hb).1,IQ.Du b hb,.inl hb,(IQ.Qn b hb).2,fun p hp=>by
   have e:p=(s.heap.objs.size,lobj eW k):=by simpa [l9]using hp
   rw[e];exact(small b hb).symm⟩
 have Uq:tn 0 (tP sc s.heap):=T.keep 0 _ _ st fun b _ o e=>vz b o e
 have I1:Inv (l9 X N sc fp s H) [(s.heap.objs.size,lobj [] 0)] (gi js σ) H { s with heap:=tP sc s.heap,toks:=tk}:=I0.oF fun p hp=>by
  have e:p=(s.heap.objs.size,lobj [] 0):=by simpa using hp
  subst e
  refine⟨Ir,I.fc.fresh (aj _),aL (bX _),fun z=>?_,fun v z=>by cases z⟩
  obtain⟨_,o,ho,_⟩:=IQ.rH.mem z
  exact bB _ (kK ho)
 have loop:codeAny (model X.prog X.w) X.A (.compLoop (.ListComp elt [⟨tg,iter,ifs,0⟩] sc pos) 0 (.ref it) (.ref s.heap.objs.size) (mP sc (s.heap.objs.size+1) X.env)) R { s with heap:=tP sc s.heap,toks:=tk}:=by
  refine Bp (fun n s'=>∃ i ys eW k H',Inv (l9 X N sc fp s H) [(s.heap.objs.size,lobj eW k)] (gi js σ) H' s'/\tn i s'.heap/\(∀ b∈fp,H' b=none)/\fj ys eW/\ys.length<=sizeLine/\W i n ys H') ?_ m0
   ⟨0,[],[],0,H,I1,Uq,fun b hb=>(hf b hb).1,.nil,a6 _,w0⟩
  rintro n s3 ⟨i,ys,eW,k,H3,I3,Mw,Qi,rv,hz,w3⟩
  have len:=rv.length
  rcases turn i n ys H3 w3 with⟨stop,qf⟩ | ⟨go,step⟩
  .refine gc (T.done (l9 X N sc fp s H) rfl rfl rfl gg i _ s3 _ H3 _ I3 (xk Qi) Mw stop) fun r s4 oN=>?_
   obtain⟨hr,I4⟩:=oN
   subst hr
   show R (.ok .next) s4
   have hD:=I4.pin (s.heap.objs.size,lobj eW k) (aO _ aH)
   obtain⟨m,Qd,_⟩:=I4.loc
   have IX:Inv X dA σ H3 s4:=I.zU (ch:=fp) I4.os I4.dD I4.fc I4.bare fun b hb=>by
    obtain⟨f0,f1,f2,f3,f4,f5⟩:=hf b hb
    exact⟨f3,f1,f4,f5⟩
   have neD:∀(b:ai) (o:Obj),s.heap.get? b=some o->b≠s.heap.objs.size:=fun b o e=>aL (kK e)
   refine hR s4 H3 ys m (IX.adopt hD.2.1 (bt I.lt) I.sz (fun x c e=>?_) (fun p hp=>neD _ _ (I.pin p hp).1) hD.1 rv hz) hD.2.1 qf Qd I4.free
   obtain⟨v,q⟩:=I.cell x c e
   exact aL q.lt
  .refine gc (T.item (l9 X N sc fp s H) rfl rfl rfl gg i _ s3 _ H3 _ I3 (xk Qi) Mw go) fun r s4 tO=>?_
   obtain⟨u,hr,h4⟩:=tO
   subst hr
   refine gc h4 fun _ s5 sD=>?_
   obtain⟨x,H5,I5,r5,y5,Jx,Vw⟩:=sD
   have Wt:=I5.pinned (xk Vw) (T.obj _ _ Jx)
   refine gc (hg _ s5 _ H5 x u _ Wt r5 (step x H5 y5)) fun _ s6 ⟨Mu,H6,I6,⟨Li,q6⟩⟩=>?_
   refine gc (ht _ s6 Mu H6 _ I6 q6) fun b s7 qu=>?_
   obtain⟨H7,I7,q7⟩:=qu
   have back:∀ {s':ah} {H':Hp},Inv (l9 X N sc fp s H) ([(s.heap.objs.size,lobj eW k)]++uH fp s5.heap) Mu H' s'->tn (i+1) s'.heap/\(∀ b∈fp,H' b=none)/\Inv (l9 X N sc fp s H) [(s.heap.objs.size,lobj eW k)] (gi js σ) H' s':=fun {s' H'} I'=>by
    refine⟨T.keep _ _ _ Jx fun b hb o e=>(I'.pin (b,o) (aO _ (aO _ (kU hb e)))).1,fun b hb=>?_,(I'.weak Li.1 Li.2).pV⟩
    obtain⟨o,e,d⟩:=T.obj _ _ Jx b hb
    exact(I'.pin (b,o) (aO _ (aO _ (kU hb e)))).2.1
   cases b with
   | false =>
    rw[aq aK]at q7 ⊢
    obtain⟨m',hm,w7⟩:=q7
    obtain⟨t7,f7,Zu⟩:=back I7
    exact⟨m',hm,i+1,ys,eW,k,H7,Zu,t7,f7,rv,hz,w7⟩
   | true =>
    rw[au rfl]at q7 ⊢
    refine gc (he _ s7 Mu H7 _ I7 q7) fun y s8 sC=>?_
    obtain⟨yv,H8,I8,ry,uu,m',hm,w8⟩:=sC
    obtain⟨t8,f8,Ws⟩:=back I8
    have hD:=Ws.pin (s.heap.objs.size,lobj eW k) (aO _ aH)
    have eD:s8.heap.get? s.heap.objs.size=some { cls:=.type "list",data:=.seq eW.toArray k}:=hD.1
    refine call_meets F.slot_list_append ⟨_,eD,rfl⟩ F.entry_list_append (F.args_list_append_2 _ _) (PySem.list_append s.heap.objs.size eW.toArray k y (by rw[aB];lia)) ⟨eD,?_⟩
    have q:=PySem.IsL.update eD (·.push y)
    have VE:eW.toArray.push y=(eW++[y]).toArray:=by simp
    have keep:∀(b:ai) (o:Obj),b≠s.heap.objs.size->s8.heap.get? b=some o->(s8.heap.update s.heap.objs.size (Obj.mapSeq (·.push y))).get? b=some o:=fun b o hb e=>(bw s8.heap (Obj.mapSeq (·.push y)) (bj hb)).trans e
    have V8:∀ x c,(l9 X N sc fp s H).env.cells.lookup x=some c->c≠s.heap.objs.size:=fun x c e z=>by
     obtain⟨v,o,ho,hd⟩:=Ws.cell x c e
     rw[z,eD]at ho;cases ho
     cases hd
    have I9:Inv (l9 X N sc fp s H) [] (gi js σ) H8 { s8 with heap:=s8.heap.update s.heap.objs.size (Obj.mapSeq (·.push y))} :=
     (Ws.oF (pins':=[]) fun p hp=>absurd hp (by simp)).turned (t':=s8.toks) keep hD.2.1 hD.2.2.1 (.inr (aj _)) V8 (fun p hp=>absurd (show p∈([]:List (ai×Obj))from hp) (by simp))
    rw[VE]at q
    obtain⟨k',q'⟩:∃ k',(s8.heap.update s.heap.objs.size (Obj.mapSeq (·.push y))).get? s.heap.objs.size=some (lobj (eW++[y]) k'):=⟨_,q⟩
    refine⟨m',hm,i+1,ys++[yv],eW++[y],k',H8,I9.oF fun p hp=>?_,T.keep _ _ _ t8 fun b hb o e=>keep b o (small b hb) e,f8,rv.append (.cons ry .nil),by rw[j3,aN];lia,w8⟩
    have e:p=(s.heap.objs.size,lobj (eW++[y]) k'):=by simpa using hp
    subst e
    exact⟨q',hD.2.1,hD.2.2.1,hD.2.2.2.1,fun v z=>by cases z⟩
 exact codeAny_compStart_list loop (T.self _ 0 _ _ _ Uq loop)
def FQ (wi:TI)(js:List (Option Nat))(g:TG)(tt:TT)(te:TE):TE:=fun σ H Q=>wi σ H fun J H1=>Jk js g tt te J σ H1 fun ys H'=>∀ D,H' D=none->Q (.ref D) (upd H' D (.lst ys))
def Gn {wi:TI}{pos:Pos}(hc:i8 X N js sc)(gg:X.gg=true)(hi:PI X tg iter wi)(hg:∀ fp s H,PG (l9 X N sc fp s H) tg g)(ht:∀ fp s H,Ja (l9 X N sc fp s H) ifs tt)(he:∀ fp s H,PE (l9 X N sc fp s H) elt te)
 (hs:∀ x,foldedSetIterable iter X.env x=pure x:=by intro _;rfl):PE X (.ListComp elt [⟨tg,iter,ifs,0⟩] sc pos) (FQ wi js g tt te):=by
 intro dA s σ H Q I h
 rw[eval_ListComp]
 refine cy (use:=none) rfl hs (lj fun y hy e=>I.ok.has y.1 (hc.free y hy e)) hc.kind hc.loc (gc (hi dA s σ H _ I h) fun v s1 h1=>gc h1 fun Qb s2 h2=>?_)
 obtain⟨it,fp,tn,J,H2,e,I2,T,FU,f2,q⟩:=h2
 subst e
 refine ba (m3 ?_)
 have hC:(s2.heap.push { cls:=.type "list",dict:=none,data:=.seq ([]:List Value).toArray}).objs.size=s2.heap.objs.size+1:=bc ..
 simp only[hC]
 refine sG (tk:=s2.toks) I2 hc gg T FU f2 (hg fp s2 H2) (ht fp s2 H2) (he fp s2 H2) q fun s' H' ys m IX nD qf nC hn=>?_
 refine⟨m,nC,fun h' sb=>?_⟩
 have BP:∀(b:ai) (o:Obj),s2.heap.get? b=some o->b≠s2.heap.objs.size+1:=fun b o e=>aL (bu (kK e))
 have IY:Inv X dA σ (upd H' s2.heap.objs.size (.lst ys)) { s' with heap:=h'}:=IX.turned (t':=s'.toks) (it:=s2.heap.objs.size+1) (fun b o hb e=>(sb.2 b hb).trans e) (by rw[eP (bt (bX _))];exact hn)
  (bt (bu I2.lt)) (.inr (bF I2.sz)) (fun x c e=>let ⟨v,z⟩:=I2.cell x c e;aL (bu z.lt)) (fun p hp=>BP _ _ (I2.pin p hp).1)
 exact⟨.ref _,_,IY,rfl,qf _ nD⟩
def EA {wi:TI}{pos pos' xl:Pos}{i:Nat}{x:Str}(hc:i8 X N js sc)(gg:X.gg=true)(hN:X.N.Nodup)(CZ:X.N[i]?=some x)(hx:Loc X.env.scope x)(hi:PI X tg iter wi)(hg:∀ fp s H,PG (l9 X N sc fp s H) tg g)
 (ht:∀ fp s H,Ja (l9 X N sc fp s H) ifs tt) (he:∀ fp s H,PE (l9 X N sc fp s H) elt te) (KR:swapsWith (.ListComp elt [⟨tg,iter,ifs,0⟩] sc pos) (some (.Name x pos')) xl.line X.env=pure true:=by rfl)
 (hs:∀ x,foldedSetIterable iter X.env x=pure x:=by intro _;rfl) (hf:X.fn x=true\/X.env.scope.names.lookup x=some .local:=by first | exact .inl rfl | exact .inr rfl | assumption) :
 PS X (.Assign [.Name x pos'] (.ListComp elt [⟨tg,iter,ifs,0⟩] sc pos) xl) (QP (FQ wi js g tt te) (tR i)):=by
 intro dA s σ H D I h
 rw[exec_Assign_Name_used _ _ _ _ KR]
 refine fb (c8 (fb ?_))
 show wpAny _ X.A (do let _ <- comprehension (.ListComp elt [⟨tg,iter,ifs,0⟩] sc pos) sc X.env _ (newList []) false (eval iter X.env) (some (assign (.Name x pos') X.env))) _ _ s
 refine fb (bo (cy (use:=some (assign (.Name x pos') X.env)) (Q:=fun _ s'=>SP X dA D .next s') rfl hs (lj fun y hy e=>I.ok.has y.1 (hc.free y hy e)) hc.kind hc.loc
  (gc (hi dA s σ H _ I h) fun v s1 h1=>gc h1 fun Qb s2 h2=>?_)) (fun _ s' hq=>av (av hq)) fun _ _ e=>e)
 obtain⟨it,fp,tn,J,H2,e,I2,T,FU,f2,q⟩:=h2
 subst e
 refine ba (m3 ?_)
 have hC:(s2.heap.push { cls:=.type "list",dict:=none,data:=.seq ([]:List Value).toArray}).objs.size=s2.heap.objs.size+1:=bc ..
 simp only[hC]
 refine sG (tk:=s2.toks) I2 hc gg T FU f2 (hg fp s2 H2) (ht fp s2 H2) (he fp s2 H2) q fun s' H' ys m IX nD qf nC hn=>?_
 have BP:∀(b:ai) (o:Obj),s2.heap.get? b=some o->b≠s2.heap.objs.size+1:=fun b o e=>aL (bu (kK e))
 have hnC:upd H' s2.heap.objs.size (.lst ys) (s2.heap.objs.size+1)=none:=by rw[eP (bt (bX _))];exact hn
 show wpAny _ X.A (assign (.Name x pos') X.env (.ref s2.heap.objs.size)) _ _ s'
 refine wpAny_assign_Name (zr (v:=.ref s2.heap.objs.size) IX hN CZ hx rfl (fun TM IZ ch=>?_) hf)
 obtain⟨a,sba,ha⟩:=ch
 have W2:s2.heap.objs.size+1≠a:=by
  rcases ha with z | z
  .rw[z];exact bt (bu I2.lt)
  .obtain⟨v,z⟩:=I2.cell x a z
   exact bt (bu z.lt)
 refine⟨m,nC.sameBut sba W2,fun h' sb=>?_⟩
 have IY:Inv X dA (σ.set i (some (.ref s2.heap.objs.size))) (upd H' s2.heap.objs.size (.lst ys)) { TM with heap:=h'}:=IZ.turned (t':=TM.toks) (it:=s2.heap.objs.size+1) (fun b o hb e=>(sb.2 b hb).trans e) hnC
  (bt (bu I2.lt)) (.inr (bF I2.sz)) (fun x c e=>let ⟨v,z⟩:=I2.cell x c e;aL (bu z.lt)) (fun p hp=>BP _ _ (I2.pin p hp).1)
 exact⟨_,_,IY,qf _ nD⟩
end
open Builtin Builtin.Str
def hZ {α:Type}(xs:List α)(lo hi:Option Int):List α:=(xs.drop (HT.iT xs.length 0 lo)).take (HT.iT xs.length xs.length hi - HT.iT xs.length 0 lo)
def OQ (n:Nat)(lo:Option Int):(match lo with | none=>(0:Int) | some i=>max 0 (min (if i<0 then i+(n:Int)else i) (n:Int)))=((HT.iT n 0 lo:Nat):Int):=by
 cases lo with
 | none=>rfl
 | some i=>unfold HT.iT;dsimp only;split <;> lia
def OR (n:Nat)(hi:Option Int):(match hi with | none=>(n:Int) | some i=>max 0 (min (if i<0 then i+(n:Int)else i) (n:Int)))=((HT.iT n n hi:Nat):Int):=by
 cases hi with
 | none=>rfl
 | some i=>unfold HT.iT;dsimp only;split <;> lia
def og (lo hi:Option Int)(n:Nat):strSliceIndices lo hi 1 n=sliceRange ((HT.iT n 0 lo:Nat):Int) ((HT.iT n n hi:Nat):Int) 1:=by
 rw[<- OQ,<- OR]
 unfold strSliceIndices
 cases lo <;> cases hi <;> rfl
def HC (x:Str)(lo hi:Option Int):(strSliceIndices lo hi 1 x.length).filterMap (x.cps[·]?)=hZ x.cps.toList lo hi:=by
 have hl:x.cps.toList.length=x.length:=by simp[Str.length]
 unfold hZ
 rw[hl]
 have ha:=HT.xF x.length 0 (a6 _) lo
 have hb:=HT.xF x.length x.length (aj _) hi
 by_cases Ov:HT.iT x.length 0 lo<=HT.iT x.length x.length hi
 .rw[<- StrLaws.sliced_plain x Ov hb,og,og]
  congr 2
  .rw[HT.mV,b9 ha]
  .rw[HT.mV,b9 hb]
 .rw[og]
  have e:HT.iT x.length x.length hi - HT.iT x.length 0 lo=0:=by lia
  rw[e,List.take_zero]
  unfold sliceRange
  have h1:¬ (((HT.iT x.length 0 lo:Nat):Int)<((HT.iT x.length x.length hi:Nat):Int)):=by lia
  simp[h1]
def DL {α:Type}(xs:List α)(lo hi:Option Int):(hZ xs lo hi).length<=xs.length:=by
 unfold hZ
 rw[aM,bC]
 lia
section
variable {X:Cx}
def XE:V->Option Int->Option Int->Hp->VK->Prop:=fun x lo hi H Q=>∃ z:Str,x=.str z/\z.length<=sizeLine/\Q (.str ⟨(hZ z.cps.toList lo hi).toArray⟩) H
def QY:Wg X XE:=by
 intro dA s σ H x v vl vu lo hi sl Q I rx hs pl pu h
 obtain⟨z,rfl,hz,q⟩:=h
 obtain⟨t,rfl⟩:=rx
 refine⟨"str",_,F.slot_str_getitem.lookup,typeIs_str _ _ _,?_⟩
 obtain⟨l,el⟩:∃ l:Option (Int×Tok),vl=partValue l/\l.map (·.1)=lo:=by
  cases pl with
  | none=>exact⟨none,rfl,rfl⟩
  | int i t=>exact⟨some (i,t),rfl,rfl⟩
 obtain⟨u,eu⟩:∃ u:Option (Int×Tok),vu=partValue u/\u.map (·.1)=hi:=by
  cases pu with
  | none=>exact⟨none,rfl,rfl⟩
  | int i t=>exact⟨some (i,t),rfl,rfl⟩
 obtain⟨rfl,el⟩:=el
 obtain⟨rfl,eu⟩:=eu
 refine wpAny_getItem_str_slice (l:=l) (u:=u) (st:=none) hs rfl ?_
 unfold sliceMade
 have e:slicePicked z l u none=strSliceIndices lo hi 1 z.length:=by unfold slicePicked;rw[el,eu];rfl
 rw[e,HC]
 by_cases hc:(((none:Option (Int×Tok)).map (·.1)).getD 1==1&&(strSliceIndices lo hi 1 z.length).length==z.length)=true
 .rw[au hc]
  refine⟨.str z,H,I,⟨_,rfl⟩,?_⟩
  have uO:(strSliceIndices lo hi 1 z.length).length=z.length:=by simpa using hc
  have hl:z.cps.toList.length=z.length:=by simp[Str.length]
  have h3:hZ z.cps.toList lo hi=z.cps.toList:=by
   rw[og]at uO
   unfold sliceRange at uO
   have ha:=HT.xF z.length 0 (a6 _) lo
   have hb:=HT.xF z.length z.length (aj _) hi
   rw[fH,MJ]at uO
   unfold hZ
   rw[hl]
   by_cases uu:((HT.iT z.length 0 lo:Nat):Int)<((HT.iT z.length z.length hi:Nat):Int)
   .simp[uu]at uO
    have a0:HT.iT z.length 0 lo=0:=by lia
    have b0:HT.iT z.length z.length hi=z.length:=by lia
    rw[a0,b0,List.drop_zero,Nat.sub_zero,<- hl,List.take_length]
   .simp[uu]at uO
    have z0:z.cps.toList=[]:=List.length_eq_zero_iff.mp (by lia)
    rw[z0];simp
  have e2:(⟨(hZ z.cps.toList lo hi).toArray⟩:Str)=z:=by rw[h3]
  rw[e2]at q
  exact q
 .rw[aq hc]
  refine⟨?_,.str _,H,I.tok _,⟨_,rfl⟩,q⟩
  have hl:z.cps.toList.length=z.length:=by simp[Str.length]
  have:=DL z.cps.toList lo hi
  show(hZ z.cps.toList lo hi).toArray.size<=sizeLine
  rw[aB]
  lia
def zp:∀ {ys:List Str} {us:List Value},fj (ys.map V.str) us->StrsAre us ys
 | [],_,h=>by cases h;exact .nil
 | y::r,_,h=>by
  cases h with
  | cons a b=>obtain⟨t,rfl⟩:=a;exact .cons _ _ (zp b)
def vC:∀(ys:List Str) (acc:Array Nat),ys.foldl (fun acc p=>acc++(#[]:Array Nat)++p.cps) acc=acc++(ys.map (·.cps.toList)).flatten.toArray
 | [],acc=>by simp
 | y::r,acc=>by
  rw[List.foldl_cons,vC r,aw,List.flatten_cons]
  apply Array.toList_inj.mp
  simp
def EO (z:Str)(hz:z.cps=#[])(ys:List Str):Txt.join z ys=⟨(ys.map (·.cps.toList)).flatten.toArray⟩:=by
 unfold Txt.join glued
 rw[hz]
 congr 1
 cases ys with
 | nil=>rfl
 | cons y r =>
  show List.foldl _ y.cps r=_
  rw[vC,aw,List.flatten_cons]
  apply Array.toList_inj.mp
  simp
def rJoin (K:aa):V->List V->Hp->VK->Prop:=fun x vs H Q=>∃(z:Str) (l:ai) (ys:List Str),x=.str z/\z.cps=#[]/\vs=[.ref l]/\pK K H l (ys.map V.str)/\(ys.map (·.length)).sum<=16777216/\Q (.str ⟨(ys.map (·.cps.toList)).flatten.toArray⟩) H
def N5:Fv X "str.join" (rJoin X.K):=by
 intro dA s σ H x vs v us Q I rx rv h
 obtain⟨z,l,ys,rfl,hz,rfl,hl,hs,q⟩:=h
 obtain⟨t,rfl⟩:=rx
 obtain⟨u,rfl,ru⟩:=rv.one
 cases ru
 obtain⟨eW,r,p,_⟩:=I.list hl
 have zl:z.length=0:=by unfold Str.length;rw[hz];rfl
 refine join_list p.isList (ys:=ys) (by simpa using zp r) (by rw[zl];lia) fun t' k=>?_
 rw[EO z hz]
 exact⟨.str _,H,I.tok _,⟨_,rfl⟩,q⟩
def Gg (c:Nat):∀(n:Nat) (acc:Array Nat),(List.replicate n #[c]).foldl (·++·) acc=acc++(List.replicate n c).toArray
 | 0,acc=>by simp
 | n+1,acc=>by
  rw[List.replicate_succ,List.foldl_cons,Gg c n,List.replicate_succ]
  apply Array.toList_inj.mp
  simp
def mul_one (c:Nat)(n:Int):Txt.mul ⟨#[c]⟩ n=⟨(List.replicate n.toNat c).toArray⟩:=by
 unfold Txt.mul
 by_cases h1:n<1
 .rw[au h1]
  have e:n.toNat=0:=by lia
  rw[e];rfl
 .rw[aq h1]
  by_cases h2:(n==1||(⟨#[c]⟩:Str).length==0)=true
  .rw[au h2]
   have e:n=1:=by simpa [Str.length]using h2
   rw[e];rfl
  .rw[aq h2]
   congr 1
   have:=Gg c n.toNat #[]
   rw[this]
   apply Array.toList_inj.mp
   simp
def EE:kg X (binaryOp .Mult) (fun x y H Q=>∃(c:Nat) (n:Int),x=.str ⟨#[c]⟩/\y=.int n /\ -1000000<=n/\n<=1000000/\Q (.str ⟨(List.replicate n.toNat c).toArray⟩) H):=by
 intro dA s σ H x y v u Q I rx ry h
 obtain⟨c,n,rfl,rfl,h1,h2,q⟩:=h
 obtain⟨t,rfl⟩:=rx
 obtain⟨t',rfl⟩:=ry
 refine SB.mul ⟨?_,fun hn _=>?_,fun hn _=>?_⟩ fun t' k=>?_
 .rw[az (by lia),az (by lia)];rfl
 .have e:((⟨#[c]⟩:Str).length:Int)=1:=rfl
  rw[e]
  have:(1:Int)<=(2 ^ 63 - 1) / n:=(Int.le_ediv_iff_mul_le (by lia)).mpr (by lia)
  lia
 .have e:(⟨#[c]⟩:Str).length=1:=rfl
  rw[e]
  unfold tooLong sizeLine
  rw[az (by lia)]
 .rw[mul_one]
  exact⟨.str _,H,I.tok _,⟨_,rfl⟩,q⟩
def zT (c:Nat):∀ l:List Nat,countIn (.str ⟨#[c]⟩) (l.map fun n=>PyData.str ⟨#[n]⟩)=((l.count c:Nat):Int)
 | []=>rfl
 | n::r=>by
  have h:=cnt_cons c n r
  unfold cnt at h
  rw[h,zT c r,dg]
  by_cases e:n=c
  .rw[au e,au (by simpa using e)];lia
  .rw[aq e,aq (by simpa using e)];lia
def Q7:V->List V->Hp->VK->Prop:=fun x vs H Q=>∃(z:Str) (c:Nat),x=.str z/\vs=[.str ⟨#[c]⟩]/\Q (.int ((z.cps.toList.count c:Nat):Int)) H
def Km:Fv X "str.count" Q7:=by
 intro dA s σ H x vs v us Q I rx rv h
 obtain⟨z,c,rfl,rfl,q⟩:=h
 obtain⟨t,rfl⟩:=rx
 obtain⟨u,rfl,ru⟩:=rv.one
 obtain⟨t',rfl⟩:=ru
 refine SC.count ?_
 rw[count_is,zT]
 exact⟨.int _,H,I.tok _,⟨_,rfl⟩,q⟩
def Its (l:List Nat):It:=⟨fun i _=>i<l.length,fun i H x H'=>H'=H/\∃ c,l[i]?=some c/\x=.str ⟨#[c]⟩,fun i _=>i=l.length⟩
def BW {P:ae}{w:af}{K:aa}{tg:Expr}{it:ai}{z:Str}{n:String}{St:Nat->Heap->Prop}
 (W:∀ A':Around,A'.handled=none->Walks P w A' it [it] [it] z.cps.size (SignAt z) St) (hn:["enumerate", "zip", "dict_itemiterator", "dict_reverseitemiterator", "odict_iterator", "itertools.zip_longest", "itertools.pairwise"].contains n=false)
 (ob:∀ i h,St i h->∃ o vs,h.get? it=some o/\o.cls=.type n/\o.data=.fields vs) (WH:∀(A:Around) (i:Nat) (s:ah) (Q:Value->ah->Prop) (E:Value->ah->Prop),St i s.heap->Q (.ref it) s->wpAny (model P w) A (pyIter (.ref it)) Q E s):Turn P w K tg (Its z.cps.toList) [it] it St where
 mem:=by simp
 obj:=fun i h st b hb=>by
  have e:b=it:=by simpa using hb
  subst e
  obtain⟨o,vs,e,c,d⟩:=ob i h st
  exact⟨o,e,fun v z=>by rw[d]at z;cases z⟩
 keep:=fun i h h' st k=>(W { handled:=none,depth:=0,units:=0,frames:=none} rfl).frame i h h' st k
 item:=by
  intro X hP hw hK hc i dA s σ H E I hf st hg
  subst hP hw hK
  obtain⟨f0,f1,f2,f3,f4,f5⟩:=hf it (by simp)
  have hg':i<z.cps.toList.length:=hg
  refine(W X.A (I.ok.hd hc)).item i s _ _ (by simpa using hg') st fun v h' tk hv B4 kk=>?_
  obtain⟨c,u,MG,rfl⟩:=hv
  have I1:Inv X dA σ H { s with heap:=h',toks:=tk}:=I.turned (fun b o hb e=>kk b o (by simpa using hb) e) f0 f1 f3 f4 f5
  obtain⟨o,vs,e,c',d⟩:=ob _ _ B4
  refine⟨_,rfl,zN (s:={ s with heap:=h',toks:=tk}) (n:=n) e c' d hn ⟨.str ⟨#[c]⟩,H,I1,⟨u,rfl⟩,⟨rfl,c,by simpa using MG,rfl⟩,B4,fun b hb=>(hf b hb).1⟩⟩
 done:=by
  intro X hP hw hK hc i dA s σ H E I hf st hg
  subst hP hw hK
  obtain⟨f0,f1,f2,f3,f4,f5⟩:=hf it (by simp)
  have e:i=z.cps.size:=by have:i=z.cps.toList.length:=hg;simpa using this
  subst e
  exact(W X.A (I.ok.hd hc)).done s _ _ st fun h' tk eb=>⟨rfl,I.turned (t':=tk) (fun b o hb e=>eb b o (by simpa using hb) e) f0 f1 f3 f4 f5⟩
 self:=WH
def X6 (tl:TE):TI:=fun σ H R=>tl σ H fun x H1=>∃ z:Str,x=.str z/\R (Its z.cps.toList) H1
def Rj {tg l:Expr}{tl:TE}(hl:PE X l tl):PI X tg l (X6 tl):=by
 intro dA s σ H R I h
 refine gc (hl dA s σ H _ I h) fun v s1 rl=>?_
 obtain⟨x,H1,I1,r1,z,e,q⟩:=rl
 subst e
 obtain⟨t,rfl⟩:=r1
 have fp:∀ b∈[s1.heap.objs.size],o9 X dA H1 b:=fun b hb=>by
  have e:b=s1.heap.objs.size:=by simpa using hb
  subst e
  exact I1.Df (aj _) (I1.fc.fresh (aj _))
 have kp:∀(o:Obj),Inv X dA σ H1 { s1 with heap:=s1.heap.push o}:=fun o=>I1.dE (t':=s1.toks) fun b o' e=>j0 _ e
 cases ha:z.cps.all (·<128)
 .refine wpAny_pyIter_wide ha ⟨s1.heap.objs.size,[s1.heap.objs.size],fun i h=>h.IsStrIter s1.heap.objs.size "str_iterator" z t i,_,H1,rfl,kp _,BW (n := "str_iterator") (fun A' hA=>Walks.strWide hA _ z t) (by decide) (fun i h st=>let ⟨o,a,b,c⟩:=st;⟨o,_,a,b,c⟩) (fun _ _ _ _ _ st h=>wpAny_pyIter_striter_wide st h),⟨_,aD _ rfl,rfl,rfl⟩,fp,q⟩
 .refine wpAny_pyIter_ascii ha ⟨s1.heap.objs.size,[s1.heap.objs.size],fun i h=>h.IsStrIter s1.heap.objs.size "str_ascii_iterator" z t i,_,H1,rfl,kp _,BW (n := "str_ascii_iterator") (fun A' hA=>Walks.strAscii hA _ z t) (by decide) (fun i h st=>let ⟨o,a,b,c⟩:=st;⟨o,_,a,b,c⟩) (fun _ _ _ _ _ st h=>wpAny_pyIter_striter_ascii st h),⟨_,aD _ rfl,rfl,rfl⟩,fp,q⟩
def LO:iI X (.builtin "isinstance") (fun vs H Q=>∃ x T t b,vs=[x,.ty T]/\jQ X.K H x t/\W.kitOne X.K t (.type T)=some b/\Q (.bl b) H):=by
 intro dA s σ H vs us Q I rv h
 obtain⟨x,T,t,b,rfl,ty,e,q⟩:=h
 obtain⟨u,w',rfl,r1,r2⟩:=vals2 rv
 cases r2
 exact Ih I r1 ty e fun tk=>⟨.bl b,H,I.tok tk,rfl,q⟩
end
end L2
namespace L2
open PySem PySem.Spec PyProof.Rows
open Builtin Builtin.Str
section
variable {X:Cx}
def kg.imp {f:Value->Value->Sem Value}{r r':R2}(h:kg X f r)(hi:∀ x y H Q,r' x y H Q->r x y H Q):kg X f r':=fun dA s σ H x y v u Q I r1 r2 q=>h dA s σ H x y v u Q I r1 r2 (hi x y H Q q)
def PE.imp {e:Expr}{t t':TE}(h:PE X e t)(hi:∀ σ H Q,t' σ H Q->t σ H Q):PE X e t':=fun dA s σ H Q I q=>h dA s σ H Q I (hi σ H Q q)
def PT.imp {e:Expr}{t t':TT}(h:PT X e t)(hi:∀ σ H Q,t' σ H Q->t σ H Q):PT X e t':=fun dA s σ H Q I q=>h dA s σ H Q I (hi σ H Q q)
def PG.imp {e:Expr}{t t':TG}(h:PG X e t)(hi:∀ v σ H Q,t' v σ H Q->t v σ H Q):PG X e t':=fun dA s σ H v u Q I r q=>h dA s σ H v u Q I r (hi v σ H Q q)
def Mj.imp {e:List Expr}{t t':z9}(h:Mj X e t)(hi:∀ v σ H Q,t' v σ H Q->t v σ H Q):Mj X e t':=fun dA s σ H v u Q I r q=>h dA s σ H v u Q I r (hi v σ H Q q)
def PS.imp {e:Stmt}{t t':TS}(h:PS X e t)(hi:∀ D σ H,t' D σ H->t D σ H):PS X e t':=fun dA s σ H D I q=>h dA s σ H D I (hi D σ H q)
def iI.imp {f:Value}{r r':List V->Hp->VK->Prop}(h:iI X f r)(hi:∀ vs H Q,r' vs H Q->r vs H Q):iI X f r':=fun dA s σ H vs us Q I rv q=>h dA s σ H vs us Q I rv (hi vs H Q q)
def Fv.imp {id:String}{r r':V->List V->Hp->VK->Prop}(h:Fv X id r)(hi:∀ x vs H Q,r' x vs H Q->r x vs H Q):Fv X id r':=fun dA s σ H x vs v us Q I r1 rv q=>h dA s σ H x vs v us Q I r1 rv (hi x vs H Q q)
def V9 (i:Nat):TE:=fun σ H Q=>match σ[i]? with | some (some v)=>Q v H | _=>False
def kM (i:Nat){x:Str}{pos:Pos}(hN:X.N[i]?=some x:=by rfl)(hv:Tb X.env.scope x:=by first | exact Or.inl rfl | exact Or.inr (Or.inl rfl) | exact Or.inr (Or.inr rfl))(hd:(x==("__debug__" : Str))=false:=by decide)
 (zd:(x==("__classdict__" : Str))=false:=by decide):PE X (.Name x pos) (V9 i):=(AB (i:=i) hN hv hd zd).imp fun σ H Q q=>by
 unfold V9 at q
 split at q
 .rename_i v e;exact⟨v,e,q⟩
 .exact q.elim
def JN:R2:=fun x y H Q=>match x,y with
 | .int i,.int j=>Q (.int (i+j)) H
 | .str i,.str j=>i.length+j.length<=sizeLine/\Q (.str (i++j)) H
 | .ref l,.ref b=>∃ xs zs,H l=some (.lst xs)/\H b=some (.lst zs)/\xs.length+zs.length<=sizeLine/\∀ p,H p=none->Q (.ref p) (upd H p (.lst (xs++zs)))
 | _,_=>False
def Mh:kg X (binaryOp .Add) JN:=(RF.or (EF.or RE)).imp fun x y H Q q=>by
 unfold JN at q
 split at q
 .exact .inl ⟨_,_,rfl,rfl,q⟩
 .exact .inr (.inl ⟨_,_,rfl,rfl,q.1,q.2⟩)
 .obtain⟨xs,zs,a,b,c,d⟩:=q;exact .inr (.inr ⟨_,_,xs,zs,rfl,rfl,a,b,c,d⟩)
 .exact q.elim
def TN (C:Int->Int->Prop)(g:Int->Int->V):R2:=fun x y H Q=>match x,y with
 | .int i,.int j=>C i j/\Q (g i j) H
 | _,_=>False
def Ax (g:Int->Int->V):R2:=fun x y H Q=>match x,y with
 | .int i,.int j=>Q (g i j) H
 | _,_=>False
def kg.i2 {f:Value->Value->Sem Value}{C:Int->Int->Prop}{g:Int->Int->V}(h:kg X f (rI C g)):kg X f (TN C g):=h.imp fun x y H Q q=>by
 unfold TN at q
 split at q
 .exact⟨_,_,rfl,rfl,q.1,q.2⟩
 .exact q.elim
def kg.Vg {f:Value->Value->Sem Value}{g:Int->Int->V}(h:kg X f (Np g)):kg X f (Ax g):=h.imp fun x y H Q q=>by
 unfold Ax at q
 split at q
 .exact⟨_,_,rfl,rfl,q⟩
 .exact q.elim
def HA:kg X (binaryOp .Sub) (Ax fun i j=>.int (i - j)):=RA.Vg
def JJ:R2:=fun x y H Q=>match x,y with
 | .int i,.int j=>Mt i j/\Q (.int (i*j)) H
 | .str z,.int n=>∃ c:Nat,z=⟨#[c]⟩ /\ -1000000<=n/\n<=1000000/\Q (.str ⟨(List.replicate n.toNat c).toArray⟩) H
 | _,_=>False
def mulC:kg X (binaryOp .Mult) JJ:=(RC.or EE).imp fun x y H Q q=>by
 unfold JJ at q
 split at q
 .exact .inl ⟨_,_,rfl,rfl,q.1,q.2⟩
 .obtain⟨c,rfl,a,b,d⟩:=q;exact .inr ⟨c,_,rfl,rfl,a,b,d⟩
 .exact q.elim
def divC:kg X (binaryOp .FloorDiv) (TN Ww fun i j=>.int (i / j)):=NK.i2
def AU:kg X (binaryOp .Mod) (TN (fun _ j=>0<j) fun i j=>.int (i%j)):=RD.i2
def powC:kg X (binaryOp .Pow) (TN TH fun i j=>.int (i ^ j.toNat)):=RB.i2
def ltC:kg X (compareOp .Lt) (Ax fun i j=>.bl (decide (i<j))):=UO.Vg
def XY:kg X (compareOp .LtE) (Ax fun i j=>.bl (decide (i<=j))):=UP.Vg
def gtC:kg X (compareOp .Gt) (Ax fun i j=>.bl (decide (j<i))):=UQ.Vg
def geC:kg X (compareOp .GtE) (Ax fun i j=>.bl (decide (j<=i))):=UR.Vg
def JM (neg:Bool):R2:=fun x y H Q=>match x,y with
 | .int i,.int j=>Q (.bl (neg != decide (i=j))) H
 | .str i,.str j=>Q (.bl (neg != decide (i=j))) H
 | .bl i,.bl j=>Q (.bl (neg != decide (i=j))) H
 | _,_=>False
def uR {p q:Prop}[Decidable p][Decidable q](h:p↔q):decide p=decide q:=by
 by_cases hp:p
 .rw[ar hp,ar (h.mp hp)]
 .rw[az hp,az fun z=>hp (h.mpr z)]
def dI {i j:Int}:decide (V.int i=V.int j)=decide (i=j):=uR (by simp)
def dS {i j:Str}:decide (V.str i=V.str j)=decide (i=j):=uR (by simp)
def dB {i j:Bool}:decide (V.bl i=V.bl j)=decide (i=j):=uR (by simp)
def VD:kg X (compareOp .Eq) (JM false):=PQ.imp fun x y H Q q=>by
 unfold JM at q
 split at q
 .exact⟨rfl,by rw[dI];simpa using q⟩
 .exact⟨rfl,by rw[dS];simpa using q⟩
 .exact⟨rfl,by rw[dB];simpa using q⟩
 .exact q.elim
def BP:kg X (compareOp .NotEq) (JM true):=UN.imp fun x y H Q q=>by
 unfold JM at q
 split at q
 .exact⟨rfl,by rw[dI];simpa using q⟩
 .exact⟨rfl,by rw[dS];simpa using q⟩
 .exact⟨rfl,by rw[dB];simpa using q⟩
 .exact q.elim
def cT (t:TE):TT:=fun σ H Q=>t σ H fun x H1=>match x with | .bl c=>Q c H1 | _=>False
end
def bK (Q:Bool->Hp->Prop):VK:=fun x H1=>match x with | .bl c=>Q c H1 | _=>False
section
variable {X:Cx}{a b e:Expr}{t ta tb:TE}{pos:Pos}
def cB (t:TE):TT:=fun σ H Q=>t σ H (bK Q)
def mX {op:CmpOp}{r:R2}(ho:kg X (compareOp op) r)(ha:PE X a ta)(hb:PE X b tb)(hm:behindInMarks op b=false):PT X (.Compare a [op] [b] pos) (cB (Ug r ta tb)):=by
 intro dA s σ H Q I h
 have hE:=tF (pos:=pos) ho ha hb hm
 refine wpAny_isTrue_Compare1 ?_ hm
 refine OZ ha hb I h fun v u s2 x y H2 I2 rx ry q=>?_
 refine gc (ho _ s2 σ H2 x y v u _ I2 rx ry q) fun c s3 pF=>?_
 obtain⟨z,H3,I3,r3,q3⟩:=pF
 cases z with
 | bl d=>cases r3;exact bQ ⟨H3,I3,q3⟩
 | _=>exact(show False from q3).elim
def tE (h:PE X e t)(he:∀ whole,isTrue e X.env whole=(do let v <- whole;standAt e.pos;holding [v] (truthy v)):=by intro _;rfl):PT X e (cB t):=by
 intro dA s σ H Q I hw
 refine isTrue_plain (gc (h dA s σ H _ I hw) fun v s1 oN=>?_) (he _)
 obtain⟨x,H1,I1,r1,q1⟩:=oN
 cases x with
 | bl d=>cases r1;exact bQ ⟨H1,I1,q1⟩
 | _=>exact(show False from q1).elim
def Zk (ta tb:TE):TE:=fun σ H Q=>ta σ H fun x H1=>match x with | .bl c=>if c=true then tb σ H1 Q else Q (.bl false) H1 | _=>False
def Zj (ta:TE):TE:=fun σ H Q=>ta σ H fun x H1=>match x with | .bl c=>Q (.bl (!c)) H1 | _=>False
def wB {rest:List Expr}(ha:PE X a ta)(hb:PE X (.BoolOp .And (b::rest) pos) tb):PE X (.BoolOp .And (a::b::rest) pos) (Zk ta tb):=by
 intro dA s σ H Q I h
 refine BoolOp_and (gc (ha dA s σ H _ I h) fun v s1 tO=>?_)
 obtain⟨x,H1,I1,r1,q1⟩:=tO
 cases x with
 | bl c =>
  cases r1
  refine bQ ?_
  cases c with
  | true=>exact hb dA s1 σ H1 Q I1 q1
  | false=>exact⟨.bl false,H1,I1,rfl,q1⟩
 | _=>exact(show False from q1).elim
def NI (ha:PE X a ta):PE X (.UnaryOp .Not a pos) (Zj ta):=by
 intro dA s σ H Q I h
 refine UnaryOp_ (gc (ha dA s σ H _ I h) fun v s1 sD=>?_)
 obtain⟨x,H1,I1,r1,q1⟩:=sD
 cases x with
 | bl c=>cases r1;exact not_of (bQ ⟨.bl (!c),H1,I1,rfl,q1⟩)
 | _=>exact(show False from q1).elim
def opt {α:Type}(o:Option α)(k:α->Prop):Prop:=match o with | some v=>k v | none=>False
def gL {α:Type}{o:Option α}{k:α->Prop}(h:opt o k):∃ v,o=some v/\k v:=by
 cases o with
 | none=>exact h.elim
 | some v=>exact⟨v,rfl,h⟩
def Q6:R2:=fun x y H Q=>match x,y with
 | .ref p,.int i=>∃ xs,(H p=some (.lst xs)\/H p=some (.tup xs))/\opt (pJ xs i) fun v=>Q v H
 | .str z,.int i=>z.length<=sizeLine/\opt (pJ z.cps.toList i) fun c=>Q (.str ⟨#[c]⟩) H
 | _,_=>False
def Hm.imp {r r':R2}(h:Hm X r)(hi:∀ x y H Q,r' x y H Q->r x y H Q):Hm X r':=fun value slice dA s σ H x y v u Q I r1 r2 q=>h value slice dA s σ H x y v u Q I r1 r2 (hi x y H Q q)
def KI:Hm X Q6:=R1.imp fun x y H Q q=>by
 unfold Q6 at q
 split at q
 .obtain⟨xs,h,q⟩:=q
  obtain⟨v,e,q⟩:=gL q
  rcases h with h | h
  .exact .inl ⟨_,xs,_,v,rfl,rfl,pK.of h,e,q⟩
  .exact .inr (.inl ⟨_,xs,_,v,rfl,rfl,BA.of h,e,q⟩)
 .obtain⟨hz,q⟩:=q
  obtain⟨v,e,q⟩:=gL q
  exact .inr (.inr ⟨_,_,v,rfl,rfl,hz,e,q⟩)
 .exact q.elim
def UA:V->Option Int->Option Int->Hp->VK->Prop:=fun x lo hi H Q=>match x with
 | .ref p=>∃ xs,H p=some (.lst xs)/\∀ l,H l=none->Q (.ref l) (upd H l (.lst (Bm xs lo hi)))
 | .str z=>z.length<=sizeLine/\Q (.str ⟨(hZ z.cps.toList lo hi).toArray⟩) H
 | _=>False
def slC:Wg X UA:=by
 intro dA s σ H x v vl vu lo hi sl Q I rx hs pl pu h
 unfold UA at h
 split at h
 .obtain⟨xs,h1,h2⟩:=h
  exact Nf dA s σ H _ v vl vu lo hi sl Q I rx hs pl pu ⟨_,xs,rfl,pK.of h1,h2⟩
 .exact QY dA s σ H _ v vl vu lo hi sl Q I rx hs pl pu ⟨_,rfl,h.1,h.2⟩
 .cases h
def cNo:TO:=fun _ H Q=>Q none H
def Wa (t:TE):TO:=fun σ H Q=>t σ H fun x H1=>match x with | .int i=>Q (some i) H1 | _=>False
def Rh:PO X none cNo:=ND
def JP {te:TE}(h:PE X e te):PO X (some e) (Wa te):=by
 intro dA s σ H Q I hw
 rw[evalPart_some]
 refine gc (h dA s σ H _ I hw) fun u s1 qu=>?_
 obtain⟨x,H1,I1,r1,q1⟩:=qu
 cases x with
 | int i=>obtain⟨t,rfl⟩:=r1;exact⟨some i,H1,I1,.int i t,q1⟩
 | _=>exact(show False from q1).elim
def JL:List V->Hp->VK->Prop:=fun vs H Q=>match vs with
 | [.ref p]=>∃ xs,(H p=some (.lst xs)\/H p=some (.tup xs))/\Q (.int xs.length) H
 | [.str z]=>z.length<=sizeLine/\Q (.int z.length) H
 | _=>False
def N8:iI X (.builtin "len") JL:=(Bt.or Bs).imp fun vs H Q q=>by
 unfold JL at q
 split at q
 .obtain⟨xs,h,q⟩:=q
  rcases h with h | h
  .exact .inl ⟨_,xs,rfl,.inl (pK.of h),q⟩
  .exact .inl ⟨_,xs,rfl,.inr (BA.of h),q⟩
 .exact .inr ⟨_,rfl,q.1,q.2⟩
 .exact q.elim
def JH:Fq:=fun o i v H Q=>match o,i with
 | .ref p,.int k=>∃ xs,H p=some (.lst xs)/\opt (Ie xs.length k) fun j=>Q (upd H p (.lst (xs.set j v)))
 | _,_=>False
def setC:O6 X JH:=by
 intro dA s σ H o i v ov iv u Q I ro ri rv h
 unfold JH at h
 split at h
 .obtain⟨xs,hx,q⟩:=h
  obtain⟨j,e,q⟩:=gL q
  exact set_list dA s σ H _ _ v ov iv u Q I ro ri rv ⟨_,xs,_,j,rfl,rfl,hx,e,q⟩
 .cases h
def PJ:V->V->Hp->VK->Prop:=fun o i H Q=>match o,i with
 | .ref p,.int k=>∃ xs,H p=some (.lst xs)/\0<=k/\opt (xs[k.toNat]?) fun v=>Q v H
 | _,_=>False
def YG:Wm X PJ:=by
 intro dA s σ H o i ov iv Q I ro ri h
 unfold PJ at h
 split at h
 .obtain⟨xs,hx,h0,q⟩:=h
  obtain⟨v,e,q⟩:=gL q
  cases ro
  obtain⟨t,rfl⟩:=ri
  obtain⟨z,eW,n,r,hl,ho⟩:=I.vV hx
  obtain⟨w,ew,Cc⟩:=r.get e
  have uu:=(l8 e).1
  have hn:=sv
  exact wpAny_getItem_list (x:=w) (⟨_,ho,rfl,n,rfl⟩:s.heap.IsList _ eW.toArray) h0 (by lia) (by simpa using ew) ⟨v,H,I,Cc,q⟩
 .cases h
def X3 (f:Int->Int->Int):O3:=fun x y H Q=>match x,y with | .int i,.int j=>Q (.int (f i j)) H | _,_=>False
def GB:Wl X .Add (X3 fun i j=>i+j):=by
 intro dA s σ H x y v u Q I r1 r2 h
 unfold X3 at h
 split at h
 .exact R5 dA s σ H _ _ v u Q I r1 r2 ⟨_,_,rfl,rfl,h⟩
 .cases h
def OV (n:Nat)(t:z9):TG:=fun v σ H Q=>match v with | .ref a=>∃ xs,H a=some (.tup xs)/\xs.length=n/\t xs σ H Q | _=>False
def He (t:TG)(u:z9):z9:=fun vs σ H Q=>match vs with | v::r=>t v σ H fun gH H'=>u r gH H' Q | []=>False
def OW:z9:=fun vs σ H Q=>match vs with | []=>Q σ H | _=>False
def gz {es:List Expr}{k:Nat}{t:z9}{n:Nat}(hc:X.gg=true)(h:Mj X es t)(hn:(assignEach es X.env).length=n:=by rfl)(BR:(assignEach es X.env).findIdx? (·.1)=none:=by rfl):PG X (.Tuple es k pos) (OV n t) :=
 (Rk (pos:=pos) (k:=k) hc h hn BR).imp fun v σ H Q q=>by
  unfold OV at q
  split at q
  .obtain⟨xs,a,b,c⟩:=q;exact⟨_,xs,rfl,BA.of a,b,c⟩
  .exact q.elim
def d7 {es:List Expr}{t:TG}{u:z9}(h1:PG X e t)(h2:Mj X es u)(hs:(assignEach (e::es) X.env).map (·.2)=assign e X.env::(assignEach es X.env).map (·.2):=by rfl):Mj X (e::es) (He t u) :=
 (JR h1 h2 hs).imp fun v σ H Q q=>by
  unfold He at q
  split at q
  .exact⟨_,_,rfl,q⟩
  .exact q.elim
def fR:Mj X [] OW:=NH.imp fun v σ H Q q=>by
 unfold OW at q
 split at q
 .exact⟨rfl,q⟩
 .exact q.elim
def Ey:V->List V->Hp->VK->Prop:=fun x vs H Q=>match x,vs with
 | .str z,[.ref l]=>z.cps=#[]/\∃ ys:List Str,H l=some (.lst (ys.map V.str))/\(ys.map (·.length)).sum<=16777216/\Q (.str ⟨(ys.map (·.cps.toList)).flatten.toArray⟩) H
 | _,_=>False
def CL:Fv X "str.join" Ey:=N5.imp fun x vs H Q q=>by
 unfold Ey at q
 split at q
 .obtain⟨a,ys,b,c,d⟩:=q;exact⟨_,_,ys,rfl,a,rfl,pK.of b,c,d⟩
 .exact q.elim
def Ay:V->List V->Hp->VK->Prop:=fun x vs H Q=>match x,vs with
 | .str z,[.str y]=>∃ c:Nat,y=⟨#[c]⟩/\Q (.int ((z.cps.toList.count c:Nat):Int)) H
 | _,_=>False
def LJ:Fv X "str.count" Ay:=Km.imp fun x vs H Q q=>by
 unfold Ay at q
 split at q
 .obtain⟨c,rfl,q⟩:=q;exact⟨_,c,rfl,rfl,q⟩
 .exact q.elim
def PH (K:aa):List V->Hp->VK->Prop:=fun vs H Q=>match vs with
 | [x,.ty T]=>∃ t b,jQ K H x t/\W.kitOne K t (.type T)=some b/\Q (.bl b) H
 | _=>False
def tK:iI X (.builtin "isinstance") (PH X.K):=LO.imp fun vs H Q q=>by
 unfold PH at q
 split at q
 .obtain⟨t,b,h1,h2,h3⟩:=q;exact⟨_,_,t,b,rfl,h1,h2,h3⟩
 .exact q.elim
def Ex (K:aa):List V->Hp->VK->Prop:=fun vs H Q=>match vs with
 | [.ref p]=>∃ ys,pK K H p ys/\∀ l,H l=none->Q (.ref l) (upd H l (.lst ys))
 | _=>False
def PY:iI X (.type "list") (Ex X.K):=Br.imp fun vs H Q q=>by
 unfold Ex at q
 split at q
 .obtain⟨ys,h1,h2⟩:=q;exact⟨_,ys,rfl,.inl h1,h2⟩
 .exact q.elim
def PF:List V->Hp->VK->Prop:=fun vs H Q=>∃ i j,vs=[.int i,.int j]/\Q (.int (max i j)) H
def RO (hc:X.gg=true):iI X (.builtin "max") PF:=(IH hc).imp fun vs H Q q=>by
 obtain⟨i,j,rfl,q⟩:=q
 refine⟨_,_,rfl,?_⟩
 have e:(if j>i then j else i)=max i j:=by split <;> lia
 rw[e];exact q
end
def nN {c A B:Prop}[Decidable c](h1:c->A)(h2:¬ c->B):if decide c=true then A else B:=by
 by_cases h:c
 .rw[au (ar h)];exact h1 h
 .rw[aq (by simp[h])];exact h2 h
def GA {c A B:Prop}[Decidable c](h1:¬ c->A)(h2:c->B):if(true != decide c)=true then A else B:=by
 by_cases h:c
 .rw[aq (by simp[h])];exact h2 h
 .rw[au (by simp[h])];exact h1 h
def xY {c A B:Prop}[Decidable c](h1:c->A)(h2:¬ c->B):if(false != decide c)=true then A else B:=by
 by_cases h:c
 .rw[au (by simp[h])];exact h1 h
 .rw[aq (by simp[h])];exact h2 h
def CNx (n i:Nat)(Pv:Nat->List V->Hp->Prop)(ys:List V):VK:=fun y H4=>ys.length<sizeLine/\∃ m',m'<n - i/\(m'=n - (i+1)/\i+1<=n/\Pv (i+1) (ys++[y]) H4)
def cnx {n i:Nat}{Pv:Nat->List V->Hp->Prop}{ys:List V}{y:V}{H:Hp}(hi:i<n)(hl:ys.length<sizeLine)(p:Pv (i+1) (ys++[y]) H):CNx n i Pv ys y H:=⟨hl,n - (i+1),by lia,rfl,hi,p⟩
def CSk (n i:Nat)(Pv:Nat->List V->Hp->Prop)(ys:List V)(H3:Hp):Prop:=∃ m',m'<n - i/\(m'=n - (i+1)/\i+1<=n/\Pv (i+1) ys H3)
end L2
namespace L2
open PySem PySem.Spec PyProof.Rows
structure pO (P:ae)(w:af)(K:aa)(mg:Str->Option Value)(dD:Heap)(x:Str)(k:Nat)(ps:List Str)(sp:Sp):Prop where
 ex:∃ f fd,eV P w K mg dD kJ k f fd ps sp/\mg x=some (.ref f)/\W.keepIn K (.ref f)=true/\Binds K fd ps []
def xI {X:Cx}{x:Str}{p pos:Pos}{e:Expr}{es:List Expr}{t:TA}{k:Nat}{ps:List Str}{sp:Sp}(C:pO X.prog X.w X.K X.mg X.dD x k ps sp)(hr:iz k X.A)(hg:Gl X x)(ha:PA X (e::es) t)
 (uN:(x==("__debug__" : Str))=false:=by decide) (he:starEach (e::es) X.env=(false,eval e X.env)::starEach es X.env:=by rfl) (lW:(backTo pos (starEach es X.env)).any (·.1)=false:=by rfl) :
 PE X (.Call (.Name x p) (e::es) [] pos) (Pp sp [] E0 t):=by
 obtain⟨f,fd,F,hm,hk,hb⟩:=C.ex
 exact Gp F hr hg hm hk hb .nil Gr ha uN he lW
def Xr (t u:TS):TS:=fun D σ H=>∃ M:St->Hp->Prop,t { D with nx:=M} σ H/\∀ gH H',M gH H'->u D gH H'
def Nv {X:Cx}{st:Stmt}{rest:List Stmt}{t u:TS}(h1:PS X st t)(h2:BC X rest u):BC X (st::rest) (Xr t u):=by
 intro dA s σ H D I h
 obtain⟨M,a,b⟩:=h
 refine wpAny_execs_cons (gc (h1 dA s σ H { D with nx:=M} I a) fun f s1 q=>?_)
 cases f with
 | next =>
  obtain⟨gH,H',I',q⟩:=q
  exact h2 dA s1 gH H' D I' (b gH H' q)
 | ret v=>exact q
 | brk=>exact q
 | cont=>exact q
def SB (b:ai)(H H':Hp):Prop:=∀ c o,c≠b->H c=some o->H' c=some o
def SB.trans {b:ai}{H H1 H2:Hp}(h:SB b H H1)(h':SB b H1 H2):SB b H H2:=fun c o n e=>h' c o n (h c o n e)
def dH {α:Type}{o:Option α}{k:α->Prop}{v:α}(e:o=some v)(h:k v):opt o k:=by rw[e];exact h
def OB (b:ai)(H H':Hp):Prop:=∀ c,c≠b->H' c=H c
def OB.refl {b:ai}{H:Hp}:OB b H H:=fun _ _=>rfl
def OB.upd {b:ai}{H H':Hp}{o:HO}(h:OB b H H'):OB b H (L2.upd H' b o):=fun c n=>by rw[eP n];exact h c n
def pM:(0:Int)<2147483647:=by decide
def pN:(0:Int)<1000000007:=by decide
def OX (l:List Nat):Prop:=∀ c∈l,c=111\/c=120
def OX.of {l:List Nat}(h:l.all (fun c=>c==111||c==120)=true):OX l:=fun c hc=>by
 have:=List.all_eq_true.mp h c hc
 simpa using this
def OX.app {a b:List Nat}(ha:OX a)(hb:OX b):OX (a++b):=fun c h=>(List.mem_append.mp h).elim (ha c) (hb c)
def OX.rep {c n:Nat}(h:c=111\/c=120):OX (List.replicate n c):=fun d hd=>by rw[(List.mem_replicate.mp hd).2];exact h
def yF {l:List Nat}{v:Int}(h0:0<=v)(h1:v<l.length):∃ c,pJ l v=some c/\c∈l:=by
 have uu:v.toNat<l.length:=by lia
 refine⟨l[v.toNat],?_,c4 _⟩
 have q:=lZ (xs:=l) (j:=v.toNat) (v:=l[v.toNat]) (sP uu)
 rwa [Int.toNat_of_nonneg h0]at q
def o5 (a b:List Nat):((⟨a.toArray⟩:Str)++(⟨b.toArray⟩:Str))=⟨(a++b).toArray⟩:=by
 show(⟨a.toArray++b.toArray⟩:Str)=_
 congr 1
 simp
def EM (a:List Nat):(⟨a.toArray⟩:Str).length=a.length:=by simp[Str.length]
def oQ:∀ l:List Nat,((l.map fun c=>(⟨#[c]⟩:Str)).map (·.cps.toList)).flatten=l
 | []=>rfl
 | c::r=>by rw[aw,aw,List.flatten_cons,oQ r];rfl
def qW:∀ l:List Nat,((l.map fun c=>(⟨#[c]⟩:Str)).map (·.length)).sum=l.length
 | []=>rfl
 | c::r=>by
  rw[aw,aw,List.sum_cons,qW r]
  show 1+r.length=r.length+1
  lia
def Pq (K:aa):Sp:=fun vs H Q _=>∃(a:ai) (ns:List Int),vs=[.ref a]/\pK K H a (ns.map V.int)/\ns.length<=63/\∀ H',Q (.bl true) H'
def TY (b:Bool):(false != b)=b:=by cases b <;> rfl
def Xg (b:Bool):(true != b)=!b:=by cases b <;> rfl
def iD (K:aa)(T:String):W.kitOne K (.type T) (.type T)=some true:=by unfold W.kitOne;simp
def nu (c:Bool)(h:Heap)(it a:ai)(k:Nat):Prop:=if c=true then h.IsTupleIter it a k else h.IsListIter it a k
def wg (c:Bool)(h:Heap)(a:ai)(eW:Array Value):Prop:=if c=true then h.IsTuple a eW else h.IsList a eW
def nu.extBut {c:Bool}{h h':Heap}{it a b:ai}{k:Nat}(x:nu c h it a k)(hs:Heap.ExtBut b h h')(Ov:it≠b):nu c h' it a k:=by
 cases c with
 | true=>exact Heap.IsTupleIter.extBut x hs Ov
 | false=>exact Heap.IsListIter.extBut x hs Ov
def wg.extBut {c:Bool}{h h':Heap}{a b:ai}{eW:Array Value}(x:wg c h a eW)(hs:Heap.ExtBut b h h')(Ov:a≠b):wg c h' a eW:=by
 cases c with
 | true=>exact Heap.IsTuple.extBut x hs Ov
 | false=>exact Heap.IsList.extBut x hs Ov
def wg.lt {c:Bool}{h:Heap}{a:ai}{eW:Array Value}(x:wg c h a eW):a≠h.objs.size:=by
 cases c with
 | true=>obtain⟨o,e,_⟩:=x;exact aL (kK e)
 | false=>obtain⟨o,e,_⟩:=x;exact aL (kK e)
def nu.ex {c:Bool}{h:Heap}{it a:ai}{k:Nat}(x:nu c h it a k):∃ o,h.get? it=some o:=by
 cases c with
 | true=>obtain⟨o,e,_⟩:=x;exact⟨o,e⟩
 | false=>obtain⟨o,e,_⟩:=x;exact⟨o,e⟩
def nu.data {c:Bool}{h:Heap}{it a:ai}{k:Nat}(x:nu c h it a k):∃ o,h.get? it=some o/\∀ v,o.data≠.cell v:=by
 cases c with
 | true=>obtain⟨o,e,_,d⟩:=x;exact⟨o,e,fun v z=>by rw[d]at z;cases z⟩
 | false=>obtain⟨o,e,_,d⟩:=x;exact⟨o,e,fun v z=>by rw[d]at z;cases z⟩
def nu.at {c:Bool}{h h':Heap}{it a:ai}{k:Nat}(x:nu c h it a k)(e:∀ o,h.get? it=some o->h'.get? it=some o):nu c h' it a k:=by
 cases c with
 | true=>obtain⟨o,q,r⟩:=x;exact⟨o,e o q,r⟩
 | false=>obtain⟨o,q,r⟩:=x;exact⟨o,e o q,r⟩
section
variable {prog:ae}{w:af}{A:Around}{E:Value->ah->Prop}{s:ah}
def EI {it t:ai}{i:Nat}{items}{x:Value}{Q:Value->ah->Prop}(hit:s.heap.IsTupleIter it t i)(ht:s.heap.IsTuple t items)(hx:items[i]?=some x)
 (hQ:∀ h',h'.IsTupleIter it t (i+1)->Heap.SameBut it s.heap h'->Q x { s with heap:=h'}):wpAny (model prog w) A (Builtin.SmallTypes.nextOf (.ref it)) Q E s:=by
 obtain⟨o,ho,hc,hd⟩:=id hit
 obtain⟨ol,Ye,_,nl,Yy⟩:=ht
 unfold Builtin.SmallTypes.nextOf
 refine fb (bG (name:=Str.ofString "__next__") hit.typeIs ck (bV ck hit.typeIs F.entry_tuple_iterator_next ?_ (F.args_tuple_iterator_next_1 _)))
 show wpAny _ _ (field (.ref it) 0 >>= _) _ _ s
 refine fb (aY ho hd (x:=.ref t) rfl ?_)
 show wpAny _ _ (if(Value.ref t==Value.none)=true then _ else _) _ _ s
 rw[aq (show ¬ ((Value.ref t==Value.none)=true)from aK)]
 show wpAny _ _ (field (.ref it) 1 >>= _) _ _ s
 refine fb (aY ho hd (x:=.int i 0) rfl ?_)
 show wpAny _ _ (seqItems? (.ref t) >>= _) _ _ s
 refine fb (bY Ye Yy ?_)
 simp only[Ow,hx]
 refine fb (cV ho hd (by simp) (av ⟨x,rfl,av (hQ _ ?_ (Heap.SameBut.update ..))⟩))
 exact⟨_,cp _ ho (Obj.isFreed_of_fields (dk hd _)),(Obj.cls_mapFields ..).trans hc,by rw[dk hd];simp[rawInt]⟩
def HV {it t:ai}{i:Nat}{items}{Q:Value->ah->Prop}(hh:A.handled=none)(hit:s.heap.IsTupleIter it t i)(ht:s.heap.IsTuple t items)(hx:items[i]?=none)
 (hE:∀ h' e,Heap.ExtBut it s.heap h'->(∃ o,h'.get? e=some o/\o.cls=.type "StopIteration")->E (.ref e) { s with heap:=h'}):wpAny (model prog w) A (Builtin.SmallTypes.nextOf (.ref it)) Q E s:=by
 obtain⟨o,ho,hc,hd⟩:=id hit
 obtain⟨ol,Ye,_,nl,Yy⟩:=ht
 unfold Builtin.SmallTypes.nextOf
 refine fb (bG (name:=Str.ofString "__next__") hit.typeIs ck (bV ck hit.typeIs F.entry_tuple_iterator_next ?_ (F.args_tuple_iterator_next_1 _)))
 show wpAny _ _ (field (.ref it) 0 >>= _) _ _ s
 refine fb (aY ho hd (x:=.ref t) rfl ?_)
 show wpAny _ _ (if(Value.ref t==Value.none)=true then _ else _) _ _ s
 rw[aq (show ¬ ((Value.ref t==Value.none)=true)from aK)]
 show wpAny _ _ (field (.ref it) 1 >>= _) _ _ s
 refine fb (aY ho hd (x:=.int i 0) rfl ?_)
 show wpAny _ _ (seqItems? (.ref t) >>= _) _ _ s
 refine fb (bY Ye Yy ?_)
 simp only[Ow,hx]
 refine fb (wpAny_rule (fb (cV ho hd (by simp) ?_)))
 show wpAny _ _ (newExc (.type "StopIteration") [] >>= _) _ _ _
 refine fb ?_
 simp only[newExc,newTuple]
 refine fb (ba ?_ (by size_fits))
 refine fb (m:=firstArgMember _ _) (wpAny_of_eq (a:=Value.none) (by first | rfl | (simp only[firstArgMember];rfl)) ?_)
 refine ba ?_ (by size_fits)
 simp only[raiseNew]
 refine fb (wpAny_handled ?_)
 first | rw[show A.in1.handled=none from hh] | rw[hh]
 refine fb (av (wpAny_throw ?_))
 exact hE _ _ (((Heap.SameBut.update ..).extBut.push _).push _) ⟨_,aD _ rfl,rfl⟩
def xT {c:Bool}{it l:ai}{i:Nat}{items:Array Value}{x:Value}{Q:Value->ah->Prop}(hit:nu c s.heap it l i)(hl:wg c s.heap l items)(hx:items[i]?=some x)
 (hQ:∀ h',nu c h' it l (i+1)->Heap.SameBut it s.heap h'->Q x { s with heap:=h'}):wpAny (model prog w) A (Builtin.SmallTypes.nextOf (.ref it)) Q E s:=by
 cases c with
 | true=>exact EI hit hl hx hQ
 | false=>exact wpAny_nextOf_list_item hit hl hx hQ
def HW {c:Bool}{it l:ai}{i:Nat}{items:Array Value}{Q:Value->ah->Prop}(hh:A.handled=none)(hit:nu c s.heap it l i)(hl:wg c s.heap l items)(hx:items[i]?=none)
 (hE:∀ h' e,Heap.ExtBut it s.heap h'->(∃ o,h'.get? e=some o/\o.cls=.type "StopIteration")->E (.ref e) { s with heap:=h'}):wpAny (model prog w) A (Builtin.SmallTypes.nextOf (.ref it)) Q E s:=by
 cases c with
 | true=>exact HV hh hit hl hx hE
 | false=>exact wpAny_nextOf_list_end hh hit hl hx hE
structure ZS (c:Bool)(z TI TO i1 i2 l1 l2:ai)(f a b:Value)(k1 k2:Nat)(xs ys:Array Value)(h:Heap):Prop where
 z:IsZip h z TI TO f
 ti:IsPair h TI (.ref i1) (.ref i2)
 to:IsPair h TO a b
 n1:nu c h i1 l1 k1
 n2:nu c h i2 l2 k2
 q1:wg c h l1 xs
 q2:wg c h l2 ys
def ZK (z TO i1 i2:ai)(h h':Heap):Prop:=∀ d o,d≠z->d≠TO->d≠i1->d≠i2->h.get? d=some o->h'.get? d=some o
def ZK.trans {z TO i1 i2:ai}{h h1 h2:Heap}(a:ZK z TO i1 i2 h h1)(b:ZK z TO i1 i2 h1 h2):ZK z TO i1 i2 h h2:=fun d o q1 q2 q3 q4 e=>b d o q1 q2 q3 q4 (a d o q1 q2 q3 q4 e)
section
variable {c:Bool}{z TI TO i1 i2 l1 l2:ai}{f f' a b x y:Value}{k1 k2:Nat}{xs ys:Array Value}{h h':Heap}
def ZS.mz (S:ZS c z TI TO i1 i2 l1 l2 f a b k1 k2 xs ys h)(D:ZipApart z TI TO i1 i2 l1 l2)(e:IsZip h' z TI TO f')(k:Heap.ExtBut z h h'):ZS c z TI TO i1 i2 l1 l2 f' a b k1 k2 xs ys h' :=
 ⟨e,k _ _ D.TIz S.ti,k _ _ D.TOz S.to,S.n1.extBut k D.i1z,S.n2.extBut k D.i2z,S.q1.extBut k D.l1z,S.q2.extBut k D.l2z⟩
def ZS.m1 {j:Nat}(S:ZS c z TI TO i1 i2 l1 l2 f a b k1 k2 xs ys h)(D:ZipApart z TI TO i1 i2 l1 l2)(e:nu c h' i1 l1 j)(k:Heap.ExtBut i1 h h'):ZS c z TI TO i1 i2 l1 l2 f a b j k2 xs ys h' :=
 ⟨k _ _ D.i1z.symm S.z,k _ _ D.TIi1 S.ti,k _ _ D.TOi1 S.to,e,S.n2.extBut k D.i12.symm,S.q1.extBut k D.l1i1,S.q2.extBut k D.l2i1⟩
def ZS.m2 {j:Nat}(S:ZS c z TI TO i1 i2 l1 l2 f a b k1 k2 xs ys h)(D:ZipApart z TI TO i1 i2 l1 l2)(e:nu c h' i2 l2 j)(k:Heap.ExtBut i2 h h'):ZS c z TI TO i1 i2 l1 l2 f a b k1 j xs ys h' :=
 ⟨k _ _ D.i2z.symm S.z,k _ _ D.TIi2 S.ti,k _ _ D.TOi2 S.to,S.n1.extBut k D.i12,e,S.q1.extBut k D.l1i2,S.q2.extBut k D.l2i2⟩
def ZS.mo (S:ZS c z TI TO i1 i2 l1 l2 f a b k1 k2 xs ys h)(D:ZipApart z TI TO i1 i2 l1 l2)(e:IsPair h' TO x y)(k:Heap.ExtBut TO h h'):ZS c z TI TO i1 i2 l1 l2 f x y k1 k2 xs ys h' :=
 ⟨k _ _ D.TOz.symm S.z,k _ _ D.TITO S.ti,e,S.n1.extBut k D.TOi1.symm,S.n2.extBut k D.TOi2.symm,S.q1.extBut k D.l1TO,S.q2.extBut k D.l2TO⟩
def ZS.push (S:ZS c z TI TO i1 i2 l1 l2 f a b k1 k2 xs ys h)(o:Obj):ZS c z TI TO i1 i2 l1 l2 f a b k1 k2 xs ys (h.push o) :=
 ⟨j0 _ S.z,j0 _ S.ti,j0 _ S.to,S.n1.at fun _ e=>j0 _ e,S.n2.at fun _ e=>j0 _ e,
  S.q1.extBut (b:=h.objs.size) (fun _ _ _ e=>j0 _ e) (S.q1.lt),S.q2.extBut (b:=h.objs.size) (fun _ _ _ e=>j0 _ e) (S.q2.lt)⟩
def Hs (k:Heap.ExtBut z h h'):ZK z TO i1 i2 h h':=fun d o q _ _ _ e=>k d o q e
def T6 (k:Heap.ExtBut TO h h'):ZK z TO i1 i2 h h':=fun d o _ q _ _ e=>k d o q e
def T7 (k:Heap.ExtBut i1 h h'):ZK z TO i1 i2 h h':=fun d o _ _ q _ e=>k d o q e
def Xf (k:Heap.ExtBut i2 h h'):ZK z TO i1 i2 h h':=fun d o _ _ _ q e=>k d o q e
end
section
variable {c:Bool}{z TI TO i1 i2 l1 l2:ai}{k1 k2:Nat}{xs ys:Array Value}{x y a b:Value}
def Jc {Q:Value->ah->Prop}(D:ZipApart z TI TO i1 i2 l1 l2)(S:ZS c z TI TO i1 i2 l1 l2 .none a b k1 k2 xs ys s.heap)(hx:xs[k1]?=some x)(hy:ys[k2]?=some y)
 (hQ:∀ h',ZS c z TI TO i1 i2 l1 l2 (rawInt s.heap.objs.size) x y (k1+1) (k2+1) xs ys h'->IsPair h' s.heap.objs.size x y->ZK z TO i1 i2 s.heap h'->Q (.ref s.heap.objs.size) { s with heap:=h'}) :
 wpAny (model prog w) A (Builtin.«zip.__next__» ⟨[.ref z],[]⟩) (fun fin s'=>∃ v,fin=.done (.ret v)/\Q v s') E s:=by
 refine fb (av (fb (aY S.z rfl (x:=.bool false) rfl (fb (aY S.z rfl (x:=.ref TI) rfl (fb (bY S.ti rfl ?_)))))))
 refine fb (m:=Builtin.SmallTypes.ownedTupleIsFree (.ref z)) (fb (aY S.z rfl (x:=.none) rfl (av ?_)))
 refine fb (wpAny_rule (fb (aY S.z rfl (x:=.ref TO) rfl (fb (cJ S.z (by simp) fun g1 e1 t1=>?_)))))
 have S1:=S.mz D (f':=.ellipsis) e1 t1.extBut
 refine fb ?_
 rw[show(#[Value.ref i1,Value.ref i2]:Array Value).toList.zipIdx=[(.ref i1,0),(.ref i2,1)]from rfl,List.forIn_cons]
 refine fb (fb (wpAny_onRaise (fb (xT S1.n1 S1.q1 hx fun g2 e2 t2=>av ?_))))
 have S2:=S1.m1 D e2 t2.extBut
 refine fb (bY S2.to rfl (fb (wpAny_updateSeq_pair S2.to fun g3 e3 t3=>fb (wpAny_letGo (av ?_)))))
 have S3:=S2.mo D (x:=x) (y:=b) e3 t3.extBut
 dsimp only
 rw[List.forIn_cons]
 refine fb (fb (wpAny_onRaise (fb (xT S3.n2 S3.q2 hy fun g4 e4 t4=>av ?_))))
 have S4:=S3.m2 D e4 t4.extBut
 refine fb (bY S4.to rfl (fb (wpAny_updateSeq_pair S4.to fun g5 e5 t5=>fb (wpAny_letGo (av ?_)))))
 have S5:=S4.mo D (x:=x) (y:=y) e5 t5.extBut
 dsimp only
 rw[List.forIn_nil]
 have sz:g5.objs.size=s.heap.objs.size:=t5.1.trans (t4.1.trans (t3.1.trans (t2.1.trans t1.1)))
 refine av (fb (bY S5.to rfl (fb (wpAny_newTuple ?_))))
 have S6:=S5.push { cls:=.type "tuple",data:=.seq #[x,y]}
 refine fb (m:=Builtin.SmallTypes.ownedTupleHandOut (.ref z) (.ref g5.objs.size)) (fb (cJ S6.z (by simp) fun g7 e7 t7=>?_))
 have S7:=S6.mz D (f':=rawInt g5.objs.size) e7 t7.extBut
 refine cJ S7.z (by simp) fun g8 e8 t8=>?_
 have S8:=S7.mz D (f':=rawInt g5.objs.size) e8 t8.extBut
 have zlt:g5.objs.size≠z:=bt (kK S5.z)
 have hT:IsPair g8 g5.objs.size x y:=t8.extBut _ _ zlt (t7.extBut _ _ zlt (aD _ rfl))
 have kk:ZK z TO i1 i2 s.heap g8:=((((((Hs t1.extBut).trans (T7 t2.extBut)).trans (T6 t3.extBut)).trans (Xf t4.extBut)).trans (T6 t5.extBut)).trans (fun d o _ _ _ _ e=>j0 _ e)).trans ((Hs t7.extBut).trans (Hs t8.extBut))
 rw[sz]at S8 hT
 refine av ⟨_,rfl,?_⟩
 show Q (.ref g5.objs.size) _
 rw[sz]
 exact hQ g8 S8 hT kk
def Jd {Q:Fin->ah->Prop}(hh:A.handled=none)(D:ZipApart z TI TO i1 i2 l1 l2)(S:ZS c z TI TO i1 i2 l1 l2 .none a b k1 k2 xs ys s.heap)(hx:xs[k1]?=none)
 (hE:∀ h' e,ZK z TO i1 i2 s.heap h'->(∃ o,h'.get? e=some o/\o.cls=.type "StopIteration")->E (.ref e) { s with heap:=h'}) :
 wpAny (model prog w) A (Builtin.«zip.__next__» ⟨[.ref z],[]⟩) Q E s:=by
 refine fb (av (fb (aY S.z rfl (x:=.bool false) rfl (fb (aY S.z rfl (x:=.ref TI) rfl (fb (bY S.ti rfl ?_)))))))
 refine fb (m:=Builtin.SmallTypes.ownedTupleIsFree (.ref z)) (fb (aY S.z rfl (x:=.none) rfl (av ?_)))
 refine fb (wpAny_rule (fb (aY S.z rfl (x:=.ref TO) rfl (fb (cJ S.z (by simp) fun g1 e1 t1=>?_)))))
 have S1:=S.mz D (f':=.ellipsis) e1 t1.extBut
 refine fb ?_
 rw[show(#[Value.ref i1,Value.ref i2]:Array Value).toList.zipIdx=[(.ref i1,0),(.ref i2,1)]from rfl,List.forIn_cons]
 refine fb (fb (wpAny_onRaise (fb (HW hh S1.n1 S1.q1 hx fun g2 e t2 he=>?_))))
 obtain⟨oe,Yh,hce⟩:=he
 have WT:IsZip g2 z TI TO .ellipsis:=t2 _ _ D.i1z.symm S1.z
 have hez:e≠z:=fun q=>by subst q;rw[WT]at Yh;cases Yh;simp at hce
 exact cJ WT (by simp) fun g3 _ t3=>hE g3 e (((Hs t1.extBut).trans (T7 t2)).trans (Hs t3.extBut)) ⟨oe,t3.extBut _ _ hez Yh,hce⟩
def Jg {Q:Option Value->ah->Prop}(D:ZipApart z TI TO i1 i2 l1 l2)(S:ZS c z TI TO i1 i2 l1 l2 .none a b k1 k2 xs ys s.heap)(hx:xs[k1]?=some x)(hy:ys[k2]?=some y)
 (hQ:∀ h',ZS c z TI TO i1 i2 l1 l2 (rawInt s.heap.objs.size) x y (k1+1) (k2+1) xs ys h'->IsPair h' s.heap.objs.size x y->ZK z TO i1 i2 s.heap h'->Q (some (.ref s.heap.objs.size)) { s with heap:=h'}) :
 wpAny (model prog w) A (pyNext (.ref z)) Q E s:=by
 have ty:s.TypeIs (.ref z) "zip":=⟨_,S.z,rfl⟩
 unfold pyNext
 exact fb (wpAny_attempt (bG (name:=Str.ofString "__next__") ty F.slot_zip_next (bV F.slot_zip_next ty F.entry_zip_next (Jc D S hx hy fun h' a1 a2 a3=>av (hQ h' a1 a2 a3)) (F.args_zip_next_1 _))))
def MR {Q:Option Value->ah->Prop}(hh:A.handled=none)(D:ZipApart z TI TO i1 i2 l1 l2)(S:ZS c z TI TO i1 i2 l1 l2 .none a b k1 k2 xs ys s.heap)(hx:xs[k1]?=none)
 (hQ:∀ h',ZK z TO i1 i2 s.heap h'->Q none { s with heap:=h'}):wpAny (model prog w) A (pyNext (.ref z)) Q E s:=by
 have ty:s.TypeIs (.ref z) "zip":=⟨_,S.z,rfl⟩
 unfold pyNext
 refine fb (wpAny_attempt (bG (name:=Str.ofString "__next__") ty F.slot_zip_next (bV F.slot_zip_next ty F.entry_zip_next (Jd hh D S hx fun h' e hk he=>?_) (F.args_zip_next_1 _))))
 obtain⟨o,ho,hc⟩:=he
 exact fb (wpAny_isInstance (T := "StopIteration") (b:=true) ⟨o,ho,hc⟩ isSubtype_stop (av (hQ _ hk)))
end
end
def D3 (c:Bool)(H:Hp)(a:ai)(xs:List V):Prop:=if c=true then H a=some (.tup xs)else H a=some (.lst xs)
def D3.inj {c:Bool}{H:Hp}{a:ai}{xs ys:List V}(h:D3 c H a xs)(h':D3 c H a ys):xs=ys:=by
 cases c with
 | true=>have h1:H a=some (.tup xs):=h;have h2:H a=some (.tup ys):=h';rw[h1]at h2;cases h2;rfl
 | false=>have h1:H a=some (.lst xs):=h;have h2:H a=some (.lst ys):=h';rw[h1]at h2;cases h2;rfl
def D3.ex {c:Bool}{H:Hp}{a:ai}{xs:List V}(h:D3 c H a xs):∃ o,H a=some o:=by
 cases c with
 | true=>exact⟨_,h⟩
 | false=>exact⟨_,h⟩
def D3.val {X:Cx}{dA:List (ai×Obj)}{σ:St}{H:Hp}{s:ah}{c:Bool}{a:ai}{xs:List V}(I:Inv X dA σ H s)(h:D3 c H a xs):∃ eW:List Value,fj xs eW/\wg c s.heap a eW.toArray:=by
 cases c with
 | true =>
  obtain⟨_,eW,r,p⟩:=(show gh X.prog X.w H s.heap a (.tup xs)from I.fc a _ h)
  exact⟨eW,r,p⟩
 | false =>
  obtain⟨_,eW,n,r,_,e⟩:=I.vV h
  exact⟨eW,r,⟨_,e,rfl,n,rfl⟩⟩
def Zq (c:Bool)(a1 a2:ai):It :=
 ⟨fun i H=>∃ xs ys x y,D3 c H a1 xs/\D3 c H a2 ys/\xs[i]?=some x/\ys[i]?=some y,
  fun i H v H'=>∃ T x y,v=.ref T/\H T=none/\H'=upd H T (.tup [x,y])/\(∀ xs,D3 c H a1 xs->xs[i]?=some x)/\(∀ ys,D3 c H a2 ys->ys[i]?=some y),
  fun i H=>∃ xs ys,D3 c H a1 xs/\D3 c H a2 ys/\xs.length<=i⟩
section
variable {X:Cx}{dA:List (ai×Obj)}{σ:St}{H:Hp}{s:ah}
def Inv.Pj {ch:List ai}{h'':Heap}{x y:V}{u v:Value}(I:Inv X dA σ H s)(fr:∀ b∈ch,o9 X dA H b)(EN:∀ b o,b∉ch->s.heap.get? b=some o->h''.get? b=some o)(YE:IsPair h'' s.heap.objs.size u v)(ru:fm x u)(rv:fm y v) :
 Inv X dA σ (upd H s.heap.objs.size (.tup [x,y])) { s with heap:=h''}:=by
 have hn:H s.heap.objs.size=none:=I.fc.fresh (aj _)
 refine I.step (g':=s.gens) (d':=s.drawn) (t':=s.toks) (h':=h'') (ch:=ch) (fun b hb=>?_) (fun b o _ _ hb e _=>EN b o hb e) (fun b o _ _ hb e _=>⟨o.slots,EN b o hb e⟩)
  (fun b o hb e n=>by rw[eP (aL (kK e))];exact n) (fun b o hb e=>⟨o,EN b o hb e⟩)
  (fun b zs e=>by rw[eP (fC e hn)];exact e) (fun b o u e=>by rw[eP (fC e hn)];exact e) (fun b ps e=>⟨#[],by rw[eP (fC e hn),e];simp⟩) (fun m hm=>?_) (fun b o e=>?_) I.bare
 .obtain⟨f0,f1,f2,f3,f4,f5⟩:=fr b hb
  exact⟨f3,f1,f4,f5⟩
 .obtain⟨o,es,ep,ho,rr⟩:=hm
  exact⟨o,es,ep,EN _ o (fun q=>(fr _ q).2.1 rfl) ho,rr⟩
 .by_cases hb:b=s.heap.objs.size
  .subst hb;rw[eI]at e;cases e
   exact⟨by show 2<=sizeLine;decide,[u,v],.cons ru (.cons rv .nil),⟨_,YE,rfl,0,rfl⟩⟩
  .rw[eP hb]at e
   refine(I.fc b o e).xj (fun d v' hd q=>EN d v' (fun hm=>?_) q) (fun d q=>by rw[eP (fC q hn)];exact q) fun d zs q=>by rw[eP (fC q hn)];exact q
   have nn:=(fr d hm).1
   rcases hd with rfl | hd
   .rw[nn]at e;cases e
   .rw[nn]at hd;cases hd
def Inv.T9 {ch:List ai}{h'':Heap}(I:Inv X dA σ H s)(fr:∀ b∈ch,o9 X dA H b)(EN:∀ b o,b∉ch->s.heap.get? b=some o->h''.get? b=some o):Inv X dA σ H { s with heap:=h''}:=by
 refine I.step (g':=s.gens) (d':=s.drawn) (t':=s.toks) (h':=h'') (ch:=ch) (fun b hb=>?_) (fun b o _ _ hb e _=>EN b o hb e) (fun b o _ _ hb e _=>⟨o.slots,EN b o hb e⟩)
  (fun b o hb e n=>n) (fun b o hb e=>⟨o,EN b o hb e⟩) (fun b zs e=>e) (fun b o u e=>e) (fun b ps e=>⟨#[],by rw[e];simp⟩) (fun m hm=>?_) (fun b o e=>?_) I.bare
 .obtain⟨f0,f1,f2,f3,f4,f5⟩:=fr b hb
  exact⟨f3,f1,f4,f5⟩
 .obtain⟨o,es,ep,ho,rr⟩:=hm
  exact⟨o,es,ep,EN _ o (fun q=>(fr _ q).2.1 rfl) ho,rr⟩
 .refine(I.fc b o e).xj (fun d v' hd q=>EN d v' (fun hm=>?_) q) (fun d q=>q) fun d zs q=>q
  have nn:=(fr d hm).1
  rcases hd with rfl | hd
  .rw[nn]at e;cases e
  .rw[nn]at hd;cases hd
end
def Jo {P:ae}{w:af}{K:aa}{elts:List Expr}{kk:Nat}{rG:Pos}{c:Bool}{z TI TO i1 i2 l1 l2:ai}(D:ZipApart z TI TO i1 i2 l1 l2) :
 Turn P w K (.Tuple elts kk rG) (Zq c l1 l2) [z,TI,TO,i1,i2] z (fun i h=>IsZip h z TI TO .none/\IsPair h TI (.ref i1) (.ref i2)/\(∃ a b,IsPair h TO a b)/\nu c h i1 l1 i/\nu c h i2 l2 i) where
 mem:=by simp
 obj:=fun i h st b hb=>by
  obtain⟨hz,MI,⟨a,b',MH⟩,h1,h2⟩:=st
  simp only[bH,bp,cL]at hb
  rcases hb with rfl | rfl | rfl | rfl | rfl
  .exact⟨_,hz,fun v q=>by cases q⟩
  .exact⟨_,MI,fun v q=>by cases q⟩
  .exact⟨_,MH,fun v q=>by cases q⟩
  .exact h1.data
  .exact h2.data
 keep:=fun i h h' st k=>by
  obtain⟨hz,MI,⟨a,b',MH⟩,h1,h2⟩:=st
  exact⟨k z (by simp) _ hz,k TI (by simp) _ MI,⟨a,b',k TO (by simp) _ MH⟩,h1.at fun o e=>k i1 (by simp) o e,h2.at fun o e=>k i2 (by simp) o e⟩
 item:=by
  intro X hP hw hK hc i dA s σ H E I hf st hg
  subst hP hw hK
  obtain⟨hz,MI,⟨a,b',MH⟩,h1,h2⟩:=st
  obtain⟨xs,ys,x,y,q1,q2,ex,ey⟩:=hg
  obtain⟨us,r1,p1⟩:=q1.val I
  obtain⟨ws,r2,p2⟩:=q2.val I
  obtain⟨u,eu,ru⟩:=r1.get ex
  obtain⟨v,ev,rv⟩:=r2.get ey
  refine Jg D ⟨hz,MI,MH,h1,h2,p1,p2⟩ (by simpa using eu) (by simpa using ev) fun h' S' hT hk=>?_
  refine⟨_,rfl,wpAny_letOwnedTupleGo_zip S'.z fun h'' e'' Xv=>?_⟩
  have Wh:=S'.mz D (f':=.none) e'' Xv.extBut
  have Tz:s.heap.objs.size≠z:=bt (kK hz)
  have YE:IsPair h'' s.heap.objs.size u v:=Xv.extBut _ _ Tz hT
  have kp:ZK z TO i1 i2 s.heap h'':=hk.trans (Hs Xv.extBut)
  have hn:H s.heap.objs.size=none:=I.fc.fresh (aj _)
  have fr:∀ b∈[z,TO,i1,i2],o9 X dA H b:=fun b hb=>hf b (by
   simp only[bH,bp,cL]at hb ⊢
   rcases hb with q | q | q | q <;> simp[q])
  have EN:∀ b o,b∉[z,TO,i1,i2]->s.heap.get? b=some o->h''.get? b=some o:=fun b o hb e=>kp b o (fun q=>hb (by simp[q])) (fun q=>hb (by simp[q])) (fun q=>hb (by simp[q])) (fun q=>hb (by simp[q])) e
  have I1:Inv X dA σ (upd H s.heap.objs.size (.tup [x,y])) { s with heap:=h''}:=I.Pj fr EN YE ru rv
  refine⟨.ref s.heap.objs.size,_,I1,rfl,⟨_,x,y,rfl,hn,rfl,fun zs q=>by rw[q.inj q1];exact ex,fun zs q=>by rw[q.inj q2];exact ey⟩,⟨Wh.z,Wh.ti,⟨_,_,Wh.to⟩,Wh.n1,Wh.n2⟩,fun b hb=>?_⟩
  obtain⟨o,e,_⟩:∃ o,s.heap.get? b=some o/\True:=by
   simp only[bH,bp,cL]at hb
   rcases hb with rfl | rfl | rfl | rfl | rfl
   .exact⟨_,hz,trivial⟩
   .exact⟨_,MI,trivial⟩
   .exact⟨_,MH,trivial⟩
   .obtain⟨o,e⟩:=h1.ex;exact⟨o,e,trivial⟩
   .obtain⟨o,e⟩:=h2.ex;exact⟨o,e,trivial⟩
  rw[eP (aL (kK e))]
  exact(hf b hb).1
 done:=by
  intro X hP hw hK hc i dA s σ H E I hf st hg
  subst hP hw hK
  obtain⟨hz,MI,⟨a,b',MH⟩,h1,h2⟩:=st
  obtain⟨xs,ys,q1,q2,hx⟩:=hg
  obtain⟨us,r1,p1⟩:=q1.val I
  obtain⟨ws,r2,p2⟩:=q2.val I
  have hl:=r1.length
  refine MR (I.ok.hd hc) D ⟨hz,MI,MH,h1,h2,p1,p2⟩ (by simp;lia) fun h' hk=>⟨rfl,?_⟩
  have fr:∀ b∈[z,TO,i1,i2],o9 X dA H b:=fun b hb=>hf b (by
   simp only[bH,bp,cL]at hb ⊢
   rcases hb with q | q | q | q <;> simp[q])
  have EN:∀ b o,b∉[z,TO,i1,i2]->s.heap.get? b=some o->h'.get? b=some o:=fun b o hb e=>hk b o (fun q=>hb (by simp[q])) (fun q=>hb (by simp[q])) (fun q=>hb (by simp[q])) (fun q=>hb (by simp[q])) e
  exact I.T9 fr EN
 self:=fun _ _ _ _ _ st h=>wpAny_pyIter_zip st.1 h
def rS (a:ai):Obj:={ cls:=.type "tuple_iterator",data:=.fields #[.ref a,.int 0 0]}
def zH (l1 l2:ai)(h:Heap):Heap :=
 ((((h.push (rS l1)).push (rS l2)).push { cls:=.type "tuple",data:=.seq #[.ref h.objs.size,.ref (h.push (rS l1)).objs.size]}).push { cls:=.type "tuple",data:=.seq #[.none,.none]}).push
  { cls:=.type "zip",data:=.fields #[.none,.bool false,.bool false,.ref ((h.push (rS l1)).push (rS l2)).objs.size,.ref (((h.push (rS l1)).push (rS l2)).push { cls:=.type "tuple",data:=.seq #[.ref h.objs.size,.ref (h.push (rS l1)).objs.size]}).objs.size]}
def Je (l1 l2:ai)(xs ys:Array Value):Meets (Builtin.«zip.__new__» ⟨[.type "zip",.ref l1,.ref l2],[]⟩) (fun _ R s=>s.heap.IsTuple l1 xs/\s.heap.IsTuple l2 ys /\
 R (.ok (.ret (.ref (s.heap.objs.size+4)))) { s with heap:=zH l1 l2 s.heap}) :=
 .of_wp fun prog w A R s h=>by
  obtain⟨hp,g,d,tk,os⟩:=s;obtain⟨hl1,Oj,h⟩:=h
  have hsub:=sub_zip
  have t1:Heap.IsTuple (Shared.heap ⟨hp,g,d,tk,os⟩) l1 xs:=hl1
  have t2:Heap.IsTuple (Shared.heap ⟨hp.push { cls:=.type "tuple_iterator",data:=.fields #[.ref l1,.int 0 0]},g,d,tk,os⟩) l2 ys:=Heap.IsTuple.push Oj _
  wp_walk using wpAny_pyIter_tuple t1,wpAny_pyIter_tuple t2
  refine⟨_,rfl,?_⟩
  have e:hp.objs.size+4=((((hp.push (rS l1)).push (rS l2)).push { cls:=.type "tuple",data:=.seq #[.ref hp.objs.size,.ref (hp.push (rS l1)).objs.size]}).push { cls:=.type "tuple",data:=.seq #[.none,.none]}).objs.size:=by
   simp only[bc]
  have h':R (.ok (.ret (.ref (hp.objs.size+4)))) _:=h
  rw[e]at h'
  exact h'
def Jf {prog:ae}{w:af}{A:Around}{E:Value->ah->Prop}{s:ah}{c:Bool}{l1 l2:ai}{xs ys:Array Value}{Q:Value->ah->Prop}(p1:wg c s.heap l1 xs)(p2:wg c s.heap l2 ys)
 (h:∀ h',IsZip h' (s.heap.objs.size+4) (s.heap.objs.size+2) (s.heap.objs.size+3) .none->IsPair h' (s.heap.objs.size+2) (.ref s.heap.objs.size) (.ref (s.heap.objs.size+1))->IsPair h' (s.heap.objs.size+3) .none .none ->
   nu c h' s.heap.objs.size l1 0->nu c h' (s.heap.objs.size+1) l2 0->(∀ b o,s.heap.get? b=some o->h'.get? b=some o)->Q (.ref (s.heap.objs.size+4)) { s with heap:=h'}) :
 wpAny (model prog w) A (call (.type "zip") [.ref l1,.ref l2]) Q E s:=by
 cases c with
 | false=>exact call_zip_2 p1 p2 fun h' a1 a2 a3 a4 a5 _ a7=>h h' a1 a2 a3 a4 a5 a7
 | true =>
  refine callType_new F.called_zip (by decide) (F.typeCall_zip_2 _ _) (F.newCall_zip_2 _ _) (fun obj=>F.args_object_init_3 obj _ _) F.entry_zip_new (Je l1 l2 xs ys) ⟨p1,p2,?_⟩
  have z1:(s.heap.push (rS l1)).objs.size=s.heap.objs.size+1:=bc ..
  have z2:((s.heap.push (rS l1)).push (rS l2)).objs.size=s.heap.objs.size+2:=by rw[bc,z1]
  have z3:(((s.heap.push (rS l1)).push (rS l2)).push { cls:=.type "tuple",data:=.seq #[.ref s.heap.objs.size,.ref (s.heap.push (rS l1)).objs.size]}).objs.size=s.heap.objs.size+3:=by rw[bc,z2]
  have z4:((((s.heap.push (rS l1)).push (rS l2)).push { cls:=.type "tuple",data:=.seq #[.ref s.heap.objs.size,.ref (s.heap.push (rS l1)).objs.size]}).push { cls:=.type "tuple",data:=.seq #[.none,.none]}).objs.size=s.heap.objs.size+4:=by rw[bc,z3]
  have g0:(zH l1 l2 s.heap).get? s.heap.objs.size=some (rS l1):=j0 _ (j0 _ (j0 _ (j0 _ (aD _ rfl))))
  have g1:(zH l1 l2 s.heap).get? (s.heap.push (rS l1)).objs.size=some (rS l2):=j0 _ (j0 _ (j0 _ (aD _ rfl)))
  have g2:(zH l1 l2 s.heap).get? ((s.heap.push (rS l1)).push (rS l2)).objs.size=some _:=j0 _ (j0 _ (aD _ rfl))
  have g3:(zH l1 l2 s.heap).get? (((s.heap.push (rS l1)).push (rS l2)).push { cls:=.type "tuple",data:=.seq #[.ref s.heap.objs.size,.ref (s.heap.push (rS l1)).objs.size]}).objs.size=some _:=j0 _ (aD _ rfl)
  have g4:(zH l1 l2 s.heap).get? ((((s.heap.push (rS l1)).push (rS l2)).push { cls:=.type "tuple",data:=.seq #[.ref s.heap.objs.size,.ref (s.heap.push (rS l1)).objs.size]}).push { cls:=.type "tuple",data:=.seq #[.none,.none]}).objs.size=some _:=aD _ rfl
  rw[z1]at g1
  rw[z2,z1]at g2
  rw[z3]at g3
  rw[z4,z2,z3]at g4
  exact⟨⟨_,g4,rfl⟩,h _ g4 g2 g3 ⟨_,g0,rfl,rfl⟩ ⟨_,g1,rfl,rfl⟩ fun b o e=>j0 _ (j0 _ (j0 _ (j0 _ (j0 _ e))))⟩
section
variable {X:Cx}
def X5 (ta:TA):TI:=fun σ H R=>ta σ H fun vs H1=>match vs with
 | [.ref a,.ref b]=>∃(c:Bool) (xs ys:List V),D3 c H1 a xs/\D3 c H1 b ys/\R (Zq c a b) H1
 | _=>False
def Ri {elts:List Expr}{kk:Nat}{rG:Pos}{a b:Expr}{ta:TA}{p pos:Pos}(hg:Gl X "zip")(hm:X.mg "zip"=none)(ha:PA X [a,b] ta)(hs:starEach [a,b] X.env=[(false,eval a X.env),(false,eval b X.env)]:=by rfl)(Dc:starEach [b] X.env=[(false,eval b X.env)]:=by rfl) :
 PI X (.Tuple elts kk rG) (.Call (.Name "zip" p) [a,b] [] pos) (X5 ta):=by
 intro dA s σ H R I h
 refine Call_ (qt I hg hm boot_zip (bD (gc (ha pos dA s σ H _ I h) fun us s1 sC=>?_) (by rw[hs,Dc]) (by rw[Dc];rfl)))
 obtain⟨vs,H1,I1,r1,q1⟩:=sC
 try dsimp only at q1
 split at q1
 .rename_i l1 l2
  obtain⟨c,xs,ys,q1,q2,q⟩:=q1
  obtain⟨u1,u2,rfl,e1,e2⟩:=r1.two
  cases e1;cases e2
  obtain⟨us,r1,p1⟩:=q1.val I1
  obtain⟨ws,r2,p2⟩:=q2.val I1
  have lt:∀ {l:ai} {o:HO},H1 l=some o->l<s1.heap.objs.size:=fun e=>I1.fc.lt e
  obtain⟨o1,w1⟩:=q1.ex
  obtain⟨o2,w2⟩:=q2.ex
  refine Jf p1 p2 fun h' hz MI MH n1 n2 kp=>wpAny_pyIter_zip hz ?_
  have I2:Inv X dA σ H1 { s1 with heap:=h'}:=I1.dE (t':=s1.toks) kp
  refine⟨s1.heap.objs.size+4,_,_,_,H1,rfl,I2,Jo (c:=c) (zipApart_new (lt w1) (lt w2)),⟨hz,MI,⟨_,_,MH⟩,n1,n2⟩,fun b hb=>?_,q⟩
  have Oq:s1.heap.objs.size<=b:=by
   simp only[bH,bp,cL]at hb
   rcases hb with e | e | e | e | e <;> subst e
   .exact bb ..
   .exact bb ..
   .exact bb ..
   .exact aj _
   .exact bb ..
  exact I1.Df Oq (I1.fc.fresh Oq)
 .exact q1.elim
def Cj (g:List Bool->Bool):List V->Hp->VK->Prop:=fun vs H Q=>match vs with
 | [.ref p]=>∃ bs:List Bool,H p=some (.lst (bs.map V.bl))/\Q (.bl (g bs)) H
 | _=>False
def range_all (bs:List Bool):(List.range bs.length).all (fun i=>bs.getD i true)=bs.all id:=by
 rw[cM,cI,cI]
 constructor
 .intro h b hb
  obtain⟨i,hi,e⟩:=cE hb
  have:=h i (by simpa using hi)
  rw[a9,sP hi,e]at this
  exact this
 .intro h i hi
  have WX:i<bs.length:=by simpa using hi
  rw[a9,sP WX]
  exact h _ (c4 _)
def SX (hc:X.gg=true):iI X (.builtin "all") (Cj fun bs=>bs.all id):=by
 intro dA s σ H vs us Q I rv h
 unfold Cj at h
 split at h
 .rename_i p
  obtain⟨bs,hp,q⟩:=h
  obtain⟨u,rfl,ru⟩:=rv.one
  cases ru
  obtain⟨z,eW,n,r,hl,e⟩:=I.vV hp
  have U9:s.heap.IsList p eW.toArray:=⟨_,e,rfl,n,rfl⟩
  have lt:p≠s.heap.objs.size:=aL (kK e)
  refine call_all_walk (wpAny_pyIter_list U9 ⟨_,_,_,_,_,_,fun i=>bs.getD i true,rfl,Walks.list (A:=X.A.in1) (I.ok.hd hc) s.heap.objs.size p lt eW.toArray,⟨⟨_,aD _ rfl,rfl,rfl⟩,U9.push _⟩,?_,fun h' tk kp=>?_⟩)
  .intro i v s' Q' E' hv hq
   have Sb:eW[i]?=some v:=by simpa using hv
   have hb:∃ b,bs[i]?=some b/\v=.bool b:=by
    cases eb:(bs.map V.bl)[i]? with
    | none=>have:=r.none_of eb;rw[Sb]at this;cases this
    | some y =>
     obtain⟨u,hu,ry⟩:=r.get eb
     rw[Sb]at hu;cases hu
     rw[vB]at eb
     cases e2:bs[i]? with
     | none=>rw[e2]at eb;cases eb
     | some b=>rw[e2]at eb;cases eb;exact⟨b,rfl,ry⟩
   obtain⟨b,eb,rfl⟩:=hb
   have e3:bs.getD i true=b:=by rw[a9,eb];rfl
   have KU:Q' (bs.getD i true) s':=hq
   rw[e3]at KU
   exact bQ KU
  .have I2:Inv X dA σ H { s with heap:=h',toks:=tk}:=I.dE fun b o e'=>kp b o (by simpa using aL (kK e')) (j0 _ e')
   have len:eW.toArray.size=bs.length:=by rw[aB,<- hl,fH]
   rw[len,range_all]
   exact⟨.bl _,H,I2,rfl,q⟩
 .cases h
def UG:R2:=fun x y H Q=>match x,y with
 | .gy,.gy=>Q (.bl true) H
 | .int i,.int j=>Q (.bl (decide (i=j))) H
 | .str i,.str j=>Q (.bl (decide (i=j))) H
 | .bl i,.bl j=>Q (.bl (decide (i=j))) H
 | _,_=>False
def eqN:kg X (compareOp .Eq) UG:=PQ.imp fun x y H Q q=>by
 unfold UG at q
 split at q
 .exact⟨rfl,by simpa using q⟩
 .exact⟨rfl,by rw[dI];exact q⟩
 .exact⟨rfl,by rw[dS];exact q⟩
 .exact⟨rfl,by rw[dB];exact q⟩
 .exact q.elim
end
section
variable {js:List (Option Nat)}{g:TG}{tt:TT}{te:TE}{σ:St}{H:Hp}{fin:List V->Hp->Prop}
def G2 {c:Bool}{a1 a2:ai}{xs zs:List V}(hn:xs.length=zs.length)(Pv:Nat->List V->Hp->Prop)(h0:Pv 0 [] H)(hl:∀ i ys H,Pv i ys H->D3 c H a1 xs/\D3 c H a2 zs)
 (hs:∀ i x y ys H T,i<xs.length->xs[i]?=some x->zs[i]?=some y->Pv i ys H->H T=none->g (.ref T) (gi js σ) (upd H T (.tup [x,y])) fun nA H2=>Ext (gi js σ) nA/\tt nA H2 fun b H3=>if b=true then te nA H3 (CNx xs.length i Pv ys)else CSk xs.length i Pv ys H3)
 (hd:∀ ys H,Pv xs.length ys H->fin ys H):Jk js g tt te (Zq c a1 a2) σ H fin:=by
 refine⟨fun i m ys H=>m=xs.length - i/\i<=xs.length/\Pv i ys H,⟨xs.length,by simp,a6 _,h0⟩,?_⟩
 rintro i m ys H ⟨rfl,hi,p⟩
 obtain⟨q1,q2⟩:=hl i ys H p
 by_cases uu:i<xs.length
 .refine .inr ⟨⟨xs,zs,xs[i],zs[i]'(by lia),q1,q2,by simp[uu],by simp[show i<zs.length by lia]⟩,fun v H' yl=>?_⟩
  obtain⟨T,x,y,rfl,hT,rfl,h1,h2⟩:=yl
  exact hs i x y ys H T uu (h1 xs q1) (h2 zs q2) p hT
 .have e:i=xs.length:=by lia
  subst e
  exact .inl ⟨⟨xs,zs,q1,q2,aj _⟩,hd ys H p⟩
end
inductive DV where
 | gy | bl (b:Bool) | int (i:Int) | str (z:Str) | lst (ds:List DV) | tup (ds:List DV)
mutual
def dep:DV->Nat
 | .lst ds=>zh ds+1
 | .tup ds=>zh ds+1
 | _=>0
def zh:List DV->Nat
 | []=>0
 | d::ds=>max (dep d) (zh ds)
end
mutual
def Mv:DV->Nat
 | .lst ds=>max ds.length (yS ds)
 | .tup ds=>max ds.length (yS ds)
 | _=>0
def yS:List DV->Nat
 | []=>0
 | d::ds=>max (Mv d) (yS ds)
end
mutual
def Is (H:Hp):DV->V->Prop
 | .gy,v=>v=.gy
 | .bl b,v=>v=.bl b
 | .int i,v=>v=.int i
 | .str z,v=>v=.str z
 | .lst ds,v=>∃ p vs,v=.ref p/\H p=some (.lst vs)/\lJ H ds vs
 | .tup ds,v=>∃ p vs,v=.ref p/\H p=some (.tup vs)/\lJ H ds vs
def lJ (H:Hp):List DV->List V->Prop
 | [],vs=>vs=[]
 | d::ds,vs=>∃ v r,vs=v::r/\Is H d v/\lJ H ds r
end
mutual
def Is.mono {H H':Hp}(s:hU H H'):∀(d:DV) (v:V),Is H d v->Is H' d v
 | .gy,_,h=>h
 | .bl _,_,h=>h
 | .int _,_,h=>h
 | .str _,_,h=>h
 | .lst ds,_,h=>by
  obtain⟨p,vs,e,hp,q⟩:=h
  exact⟨p,vs,e,s _ _ hp,lJ.mono s ds vs q⟩
 | .tup ds,_,h=>by
  obtain⟨p,vs,e,hp,q⟩:=h
  exact⟨p,vs,e,s _ _ hp,lJ.mono s ds vs q⟩
def lJ.mono {H H':Hp}(s:hU H H'):∀(ds:List DV) (vs:List V),lJ H ds vs->lJ H' ds vs
 | [],_,h=>h
 | d::ds,_,h=>by
  obtain⟨v,r,e,h1,h2⟩:=h
  exact⟨v,r,e,Is.mono s d v h1,lJ.mono s ds r h2⟩
end
def lJ.len {H:Hp}:∀ {ds:List DV} {vs:List V},lJ H ds vs->vs.length=ds.length
 | [],_,h=>by rw[show _=[]from h];rfl
 | d::ds,_,h=>by obtain⟨v,r,rfl,_,h2⟩:=h;rw[aI,aI,lJ.len h2]
def lJ.get {H:Hp}:∀ {ds:List DV} {vs:List V} {i:Nat} {v:V},lJ H ds vs->vs[i]?=some v->∃ d,ds[i]?=some d/\Is H d v
 | [],_,i,v,h,e=>by rw[show _=[]from h]at e;simp at e
 | d::ds,_,0,v,h,e=>by
  obtain⟨v',r,rfl,h1,h2⟩:=h
  simp at e;subst e;exact⟨d,rfl,h1⟩
 | d::ds,_,i+1,v,h,e=>by
  obtain⟨v',r,rfl,h1,h2⟩:=h
  obtain⟨d',e1,e2⟩:=lJ.get (i:=i) h2 (by simpa using e)
  exact⟨d',by simpa using e1,e2⟩
def yt:∀ {ds:List DV} {i:Nat} {d:DV},ds[i]?=some d->dep d<=zh ds
 | d::ds,0,d',h=>by simp at h;subst h;unfold zh;lia
 | d::ds,i+1,d',h=>by have:=yt (ds:=ds) (i:=i) (by simpa using h);unfold zh;lia
def xc:∀ {ds:List DV} {i:Nat} {d:DV},ds[i]?=some d->Mv d<=yS ds
 | d::ds,0,d',h=>by simp at h;subst h;unfold yS;lia
 | d::ds,i+1,d',h=>by have:=xc (ds:=ds) (i:=i) (by simpa using h);unfold yS;lia
def uz (n:Nat):Sp:=fun vs H Q _=>match vs with
 | [x,y]=>∃ d,dep d<=n/\Mv d<sizeLine/\Is H d x/\Is H d y/\∀ H',hU H H'->Q (.bl true) H'
 | _=>False
def Xx:Sp:=fun _ _ _ _=>False
def spS:Nat->Sp
 | 0=>Xx
 | n+1=>uz n
def hU.upd {H:Hp}{p:ai}{o:HO}(h:H p=none):hU H (L2.upd H p o):=fun b u e=>by rw[eP (fC e h)];exact e
def Bo {α:Type}{l:List α}{n:Int}(h:0<=n):hZ l none (some n)=l.take n.toNat:=by
 obtain⟨m,rfl⟩:∃ m:Nat,n=(m:Int):=⟨n.toNat,by lia⟩
 unfold hZ
 rw[HT.mV,HT.tu,List.drop_zero,Nat.sub_zero,Ow]
 by_cases hm:m<=l.length
 .rw[b9 hm]
 .rw[Nat.min_eq_right (by lia),List.take_length,bf (by lia)]
def uT {α:Type}{l:List α}{n:Int}(h:0<=n):hZ l (some n) none=l.drop n.toNat:=by
 obtain⟨m,rfl⟩:∃ m:Nat,n=(m:Int):=⟨n.toNat,by lia⟩
 unfold hZ
 rw[HT.mV,HT.tu,Ow]
 by_cases hm:m<=l.length
 .rw[b9 hm,bf (by rw[bC];lia)]
 .rw[Nat.min_eq_right (by lia),bR (aj _),bR (by lia),List.take_nil]
section
variable {X:Cx}
def Ci:V->List V->Hp->VK->Prop:=fun x vs H Q=>∃ l y xs,x=.ref l/\vs=[y]/\H l=some (.lst xs)/\xs.length<sizeLine/\Q .gy (upd H l (.lst (xs++[y])))
def wY:Fv X "list.append" Ci:=Fv.imp HX fun x vs H Q q=>by
 obtain⟨l,y,xs,rfl,rfl,a,b,c⟩:=q
 exact⟨_,xs,_,rfl,rfl,a,b,c⟩
end
def o6 (H:Hp):List V->List (Nat×Nat)->Prop:=Paired fun v r=>∃ p,v=.ref p/\H p=some (.tup [.int r.1,.int r.2])
def Mi (H H':Hp):Prop:=∀ p xs,H p=some (.tup xs)->H' p=some (.tup xs)
def Mi.trans {H H1 H2:Hp}(a:Mi H H1)(b:Mi H1 H2):Mi H H2:=fun p xs h=>b p xs (a p xs h)
def o6.mono {H H':Hp}(t:Mi H H'):∀ {vs:List V} {rs:List (Nat×Nat)},o6 H vs rs->o6 H' vs rs
 | _,_,.nil=>.nil
 | _,_,.cons ⟨p,e,h⟩ r=>.cons ⟨p,e,t _ _ h⟩ (o6.mono t r)
def dvp (r:Nat×Nat):DV:=.tup [.int r.1,.int r.2]
def o6.all {H:Hp}:∀ {vs:List V} {rs:List (Nat×Nat)},o6 H vs rs->lJ H (rs.map dvp) vs
 | _,_,.nil=>rfl
 | _,_,.cons ⟨p,e,h⟩ r=>⟨_,_,rfl,⟨p,_,e,h,_,_,rfl,rfl,_,_,rfl,rfl,rfl⟩,o6.all r⟩
def rr (l:List Nat):Nat->Nat×List (Nat×Nat)
 | 0=>(0,[])
 | i+1=>if l[i]?=some 120 then(i+1,if(rr l i).1<i then(rr l i).2++[((rr l i).1,i)]else(rr l i).2)else rr l i
inductive D where
 | gy | bl (b:Bool) | int (i:Int) | str (z:Str) | lst (ds:List D) | tup (ds:List D) | jr (ks:List Key) (ds:List D) | mr (k:Nat) | obj (C:ai) (ns:List Str) (ds:List D) | mE (ks:List Key) (ds:List D) | fn (a:ai)
inductive MO where
 | box | lst (ds:List D) | jr (ks:List Key) (ds:List D) | oR (o:Obj) (kvs:List (Key×V)) (ds:List D) | ins (C:ai) (ns:List Str) (ds:List D) | Qq (ks:List (List Key)) (ds:List D) | gx (φ:List ai) (H:Hp) | exc (c:Value)
abbrev MS:=List MO
def AW (μ:MS)(k:Nat):Option (List D):=match μ[k]? with | some (.lst ds)=>some ds | _=>none
def qm {μ:MS}{k:Nat}{ds:List D}(h:AW μ k=some ds):μ[k]?=some (.lst ds):=by
 unfold AW at h
 split at h
 .cases h;assumption
 .cases h
def fJ {μ:MS}{k:Nat}{ds:List D}(h:μ[k]?=some (.lst ds)):AW μ k=some ds:=by unfold AW;rw[h]
def AV {μ:MS}{ds:List D}:AW (μ++[.lst ds]) μ.length=some ds:=fJ (by rw[oP (aj _),aR];rfl)
abbrev DE:=List (Option D)
mutual
def jC (φ:List ai)(H:Hp):D->V->Prop
 | .gy,v=>v=.gy
 | .bl b,v=>v=.bl b
 | .int i,v=>v=.int i
 | .str z,v=>v=.str z
 | .lst ds,v=>∃ p vs,v=.ref p/\p∉φ/\H p=some (.lst vs)/\eK φ H ds vs
 | .tup ds,v=>∃ p vs,v=.ref p/\p∉φ/\H p=some (.tup vs)/\eK φ H ds vs
 | .jr ks ds,v=>∃ p kvs vs,v=.ref p/\p∉φ/\H p=some (.dK kvs)/\kvs.map (·.1)=ks/\vs=kvs.map (·.2)/\eK φ H ds vs
 | .mr k,v=>∃ p,φ[k]?=some p/\v=.ref p
 | .obj C ns ds,v=>∃ p dx fs vs,v=.ref p/\p∉φ/\H p=some (.ins C dx fs)/\fs.map (·.1)=ns/\vs=fs.map (·.2)/\eK φ H ds vs
 | .mE ks ds,v=>∃ p o kvs vs,v=.ref p/\p∉φ/\H p=some (.mC o (.dK kvs))/\kvs.map (·.1)=ks/\vs=kvs.map (·.2)/\eK φ H ds vs
 | .fn a,v=>v=.ref a
def eK (φ:List ai)(H:Hp):List D->List V->Prop
 | [],vs=>vs=[]
 | d::ds,vs=>∃ v r,vs=v::r/\jC φ H d v/\eK φ H ds r
end
structure Fr (φ:List ai)(H:Hp)(ft:List ai)(H':Hp):Prop where
 ext:∃ ψ,ft=φ++ψ/\∀ c∈ψ,H c=none
 keep:∀ c o,c∉φ->H c=some o->H' c=some o
 YN:∀ c,H' c=none->H c=none
def Fr.refl (φ:List ai)(H:Hp):Fr φ H φ H:=⟨⟨[],by simp,fun _ h=>nomatch h⟩,fun _ _ _ h=>h,fun _ h=>h⟩
def Fr.trans {φ eZ jD:List ai}{H H1 H2:Hp}(a:Fr φ H eZ H1)(b:Fr eZ H1 jD H2):Fr φ H jD H2:=by
 obtain⟨⟨ψ,rfl,Ik⟩,k1,d1⟩:=a
 obtain⟨⟨χ,rfl,hχ⟩,k2,d2⟩:=b
 refine⟨⟨ψ++χ,by simp,fun c hc=>?_⟩,fun c o hc e=>k2 c o (fun h=>?_) (k1 c o hc e),fun c h=>d1 c (d2 c h)⟩
 .rcases List.mem_append.mp hc with h | h
  .exact Ik c h
  .exact d1 c (hχ c h)
 .rcases List.mem_append.mp h with h | h
  .exact hc h
  .rw[Ik c h]at e;cases e
def Fr.same {φ:List ai}{H H':Hp}(h:hU H H'):Fr φ H φ H':=⟨⟨[],by simp,fun _ h=>nomatch h⟩,fun c o _ e=>h c o e,fun c e=>h.free e⟩
def Fr.new {φ:List ai}{H:Hp}{p:ai}{o:HO}(h:H p=none):Fr φ H φ (upd H p o):=.same (hU.upd h)
def Fr.put {φ:List ai}{H:Hp}{p:ai}{o:HO}(h:p∈φ):Fr φ H φ (upd H p o) :=
 ⟨⟨[],by simp,fun _ h=>nomatch h⟩,fun c u hc e=>by rw[eP (show c≠p from fun z=>hc (by rw[z];exact h))];exact e,fun c e=>by
  unfold upd at e
  split at e
  .cases e
  .exact e⟩
def Fr.snoc {φ:List ai}{H:Hp}{p:ai}(h:H p=none):Fr φ H (φ++[p]) H:=⟨⟨[p],rfl,fun c hc=>by rw[List.mem_singleton.mp hc];exact h⟩,fun _ _ _ e=>e,fun _ e=>e⟩
def Fr.zD {φ ft:List ai}{H H':Hp}(f:Fr φ H ft H'){p:ai}{o:HO}(h:p∉φ)(e:H p=some o):p∉ft:=by
 obtain⟨⟨ψ,rfl,Ik⟩,_,_⟩:=f
 intro hc
 rcases List.mem_append.mp hc with q | q
 .exact h q
 .rw[Ik p q]at e;cases e
def Fr.get {φ ft:List ai}{H H':Hp}(f:Fr φ H ft H'){k:Nat}{p:ai}(h:φ[k]?=some p):ft[k]?=some p:=by
 obtain⟨⟨ψ,rfl,Ik⟩,_,_⟩:=f
 rw[uv (l8 h).1];exact h
mutual
def jC.mono {φ ft:List ai}{H H':Hp}(f:Fr φ H ft H'):∀ {d:D} {v:V},jC φ H d v->jC ft H' d v
 | .gy,_,h=>h
 | .bl _,_,h=>h
 | .int _,_,h=>h
 | .str _,_,h=>h
 | .lst _,_,h=>by obtain⟨p,vs,e,n,hp,q⟩:=h;exact⟨p,vs,e,f.zD n hp,f.keep _ _ n hp,eK.mono f q⟩
 | .tup _,_,h=>by obtain⟨p,vs,e,n,hp,q⟩:=h;exact⟨p,vs,e,f.zD n hp,f.keep _ _ n hp,eK.mono f q⟩
 | .jr _ _,_,h=>by obtain⟨p,kvs,vs,e,n,hp,q1,q2,q⟩:=h;exact⟨p,kvs,vs,e,f.zD n hp,f.keep _ _ n hp,q1,q2,eK.mono f q⟩
 | .mr _,_,h=>by obtain⟨p,e,q⟩:=h;exact⟨p,f.get e,q⟩
 | .obj _ _ _,_,h=>by obtain⟨p,dx,fs,vs,e,n,hp,q1,q2,q⟩:=h;exact⟨p,dx,fs,vs,e,f.zD n hp,f.keep _ _ n hp,q1,q2,eK.mono f q⟩
 | .mE _ _,_,h=>by obtain⟨p,dx,fs,vs,e,n,hp,q1,q2,q⟩:=h;exact⟨p,dx,fs,vs,e,f.zD n hp,f.keep _ _ n hp,q1,q2,eK.mono f q⟩
 | .fn _,_,h=>h
def eK.mono {φ ft:List ai}{H H':Hp}(f:Fr φ H ft H'):∀ {ds:List D} {vs:List V},eK φ H ds vs->eK ft H' ds vs
 | [],_,h=>h
 | _::_,_,h=>by obtain⟨v,r,e,h1,h2⟩:=h;exact⟨v,r,e,jC.mono f h1,eK.mono f h2⟩
end
def eK.len {φ:List ai}{H:Hp}:∀ {ds:List D} {vs:List V},eK φ H ds vs->vs.length=ds.length
 | [],_,h=>by rw[show _=[]from h];rfl
 | d::ds,_,h=>by obtain⟨v,r,rfl,_,h2⟩:=h;rw[aI,aI,eK.len h2]
def eK.get {φ:List ai}{H:Hp}:∀ {ds:List D} {vs:List V} {i:Nat} {d:D},eK φ H ds vs->ds[i]?=some d->∃ v,vs[i]?=some v/\jC φ H d v
 | [],_,i,d,h,e=>by simp at e
 | d::ds,_,0,d',h,e=>by obtain⟨v',r,rfl,h1,h2⟩:=h;simp at e;subst e;exact⟨v',rfl,h1⟩
 | d::ds,_,i+1,d',h,e=>by
  obtain⟨v',r,rfl,h1,h2⟩:=h
  obtain⟨v,e1,e2⟩:=eK.get (i:=i) h2 (by simpa using e)
  exact⟨v,by simpa using e1,e2⟩
def eK.Vt {φ:List ai}{H:Hp}{ds:List D}{vs:List V}{i:Nat}{v:V}(h:eK φ H ds vs)(e:vs[i]?=some v):∃ d,ds[i]?=some d/\jC φ H d v:=by
 have hl:=h.len
 have hi:=(l8 e).1
 obtain⟨u,e1,e2⟩:=h.get (d:=ds[i]'(by lia)) (sP (by lia))
 rw[e]at e1;cases e1
 exact⟨_,sP (by lia),e2⟩
def eK.app {φ:List ai}{H:Hp}:∀ {ds es:List D} {vs us:List V},eK φ H ds vs->eK φ H es us->eK φ H (ds++es) (vs++us)
 | [],_,_,_,h,g=>by rw[show _=[]from h];exact g
 | d::ds,es,_,us,h,g=>by obtain⟨v,r,rfl,h1,h2⟩:=h;exact⟨v,r++us,rfl,h1,h2.app g⟩
def eK.take {φ:List ai}{H:Hp}:∀ {ds:List D} {vs:List V} (n:Nat),eK φ H ds vs->eK φ H (ds.take n) (vs.take n)
 | _,_,0,_=>rfl
 | [],_,n+1,h=>by rw[show _=[]from h];rfl
 | d::ds,_,n+1,h=>by obtain⟨v,r,rfl,h1,h2⟩:=h;exact⟨v,r.take n,rfl,h1,h2.take n⟩
def eK.drop {φ:List ai}{H:Hp}:∀ {ds:List D} {vs:List V} (n:Nat),eK φ H ds vs->eK φ H (ds.drop n) (vs.drop n)
 | _,_,0,h=>h
 | [],_,n+1,h=>by rw[show _=[]from h];rfl
 | d::ds,_,n+1,h=>by obtain⟨v,r,rfl,h1,h2⟩:=h;exact h2.drop n
def eK.set {φ:List ai}{H:Hp}{d:D}{v:V}(hd:jC φ H d v):∀ {ds:List D} {vs:List V} (n:Nat),eK φ H ds vs->eK φ H (ds.set n d) (vs.set n v)
 | [],_,n,h=>by rw[show _=[]from h];cases n <;> rfl
 | e::ds,_,0,h=>by obtain⟨w,r,rfl,h1,h2⟩:=h;exact⟨v,r,rfl,hd,h2⟩
 | e::ds,_,n+1,h=>by obtain⟨w,r,rfl,h1,h2⟩:=h;exact⟨w,r.set n v,rfl,h1,h2.set hd n⟩
def eK.rev {φ:List ai}{H:Hp}:∀ {ds:List D} {vs:List V},eK φ H ds vs->eK φ H ds.reverse vs.reverse
 | [],_,h=>by rw[show _=[]from h];rfl
 | d::ds,_,h=>by
  obtain⟨v,r,rfl,h1,h2⟩:=h
  rw[cw,cw]
  exact h2.rev.app ⟨v,[],rfl,h1,rfl⟩
def eK.bls {φ:List ai}{H:Hp}:∀ {ns:List Bool} {vs:List V},eK φ H (ns.map D.bl) vs->vs=ns.map V.bl
 | [],_,h=>h
 | n::ns,_,h=>by obtain⟨v,r,rfl,h1,h2⟩:=h;rw[show v=.bl n from h1,eK.bls h2];rfl
def eK.strs {φ:List ai}{H:Hp}:∀ {ns:List Str} {vs:List V},eK φ H (ns.map D.str) vs->vs=ns.map V.str
 | [],_,h=>h
 | n::ns,_,h=>by obtain⟨v,r,rfl,h1,h2⟩:=h;rw[show v=.str n from h1,eK.strs h2];rfl
def BxF (φ:List ai)(H:Hp)(b:ai):Prop:=∃(q:ai) (ns:List Int) (i r z:Int),H b=some (.lst [.ref q,.int i,.int r,.int z])/\H q=some (.lst (ns.map V.int))/\q∉φ/\0<=i/\0<=z/\z<2147483647
def lR (p:ai)(c:Value)(h:Heap):Prop:=∃ oe vs,h.get? p=some oe/\oe.cls=c/\oe.dict=none/\oe.data=.fields vs/\vs[2]?=some .none
def zk (φ:List ai)(H:Hp):MO->ai->Prop
 | .box,p=>BxF φ H p
 | .lst ds,p=>∃ vs,H p=some (.lst vs)/\eK φ H ds vs
 | .jr ks ds,p=>∃ kvs vs,H p=some (.dK kvs)/\kvs.map (·.1)=ks/\vs=kvs.map (·.2)/\eK φ H ds vs
 | .oR o kvs ds,p=>H p=some (.mC o (.dK kvs))/\eK φ H ds (kvs.map (·.2))
 | .ins C ns ds,p=>∃ dx fs,H p=some (.ins C dx fs)/\fs.map (·.1)=ns/\eK φ H ds (fs.map (·.2))
 | .Qq ks ds,p=>∃ kvs,H p=some (.dT kvs)/\kvs.map (·.1)=ks/\eK φ H ds (kvs.map (·.2))
 | .gx fh H0,p=>Fr fh H0 φ H/\H p=H0 p/\(∃ o,H p=some o)/\∀ zs,H p≠some (.tup zs)
 | .exc c,p=>H p=some (.ext (lR p c))
structure fe (φ:List ai)(H:Hp)(μ:MS):Prop where
 nd:φ.Nodup
 len:φ.length=μ.length
 at_:∀(k:Nat) (m:MO),μ[k]?=some m->∃ p,φ[k]?=some p/\zk φ H m p
def zk.mono {φ ft:List ai}{H H':Hp}(f:Fr φ H ft H'){m:MO}{p:ai}(s:∀ o,H p=some o->H' p=some o)(h:zk φ H m p):zk ft H' m p:=by
 cases m with
 | box=>obtain⟨q,ns,i,r,z,h1,h2,h3,h4⟩:=h;exact⟨q,ns,i,r,z,s _ h1,f.keep _ _ h3 h2,f.zD h3 h2,h4⟩
 | lst ds=>obtain⟨vs,h1,h2⟩:=h;exact⟨vs,s _ h1,h2.mono f⟩
 | jr ks ds=>obtain⟨kvs,vs,h1,h2,h3,h4⟩:=h;exact⟨kvs,vs,s _ h1,h2,h3,h4.mono f⟩
 | oR o kvs ds=>exact⟨s _ h.1,h.2.mono f⟩
 | ins C ns ds=>obtain⟨dx,fs,h1,h2,h3⟩:=h;exact⟨dx,fs,s _ h1,h2,h3.mono f⟩
 | Qq ks ds=>obtain⟨kvs,h1,h2,h3⟩:=h;exact⟨kvs,s _ h1,h2,h3.mono f⟩
 | gx fh H0=>obtain⟨h1,h2,⟨o,h3⟩,h4⟩:=h;exact⟨h1.trans f,(s _ h3).trans (h3.symm.trans h2),⟨o,s _ h3⟩,fun zs e=>h4 zs (h3.trans ((s _ h3).symm.trans e))⟩
 | exc c=>exact s _ h
def zk.ex {φ:List ai}{H:Hp}{m:MO}{p:ai}(h:zk φ H m p):∃ o,H p=some o:=by
 cases m with
 | box=>obtain⟨q,ns,i,r,z,h1,_⟩:=h;exact⟨_,h1⟩
 | lst ds=>obtain⟨vs,h1,_⟩:=h;exact⟨_,h1⟩
 | jr ks ds=>obtain⟨kvs,vs,h1,_⟩:=h;exact⟨_,h1⟩
 | oR o kvs ds=>exact⟨_,h.1⟩
 | ins C ns ds=>obtain⟨dx,fs,h1,_⟩:=h;exact⟨_,h1⟩
 | Qq ks ds=>obtain⟨kvs,h1,_⟩:=h;exact⟨_,h1⟩
 | gx fh H0=>exact h.2.2.1
 | exc c=>exact⟨_,h⟩
def fe.same {φ:List ai}{H H':Hp}{μ:MS}(h:fe φ H μ)(s:hU H H'):fe φ H' μ :=
 ⟨h.nd,h.len,fun k m e=>let ⟨p,e1,e2⟩:=h.at_ k m e;⟨p,e1,e2.mono (.same s) fun o q=>s _ _ q⟩⟩
def fe.mem {φ:List ai}{H:Hp}{μ:MS}(h:fe φ H μ){p:ai}(hp:p∈φ):∃ o,H p=some o:=by
 obtain⟨k,hk,e⟩:=cE hp
 obtain⟨q,e1,e2⟩:=h.at_ k (μ[k]'(by have:=h.len;lia)) (sP _)
 rw[sP hk,e]at e1
 cases e1
 exact e2.ex
def fe.fresh {φ:List ai}{H:Hp}{μ:MS}(h:fe φ H μ){p:ai}(hp:H p=none):p∉φ:=fun q=>by
 obtain⟨o,e⟩:=h.mem q
 rw[hp]at e;cases e
def fe.snoc {φ:List ai}{H:Hp}{μ:MS}{m:MO}{p:ai}{o:HO}(h:fe φ H μ)(hp:H p=none)(hm:zk (φ++[p]) (upd H p o) m p):fe (φ++[p]) (upd H p o) (μ++[m])/\Fr φ H (φ++[p]) (upd H p o):=by
 have f1:Fr φ H (φ++[p]) H:=.snoc hp
 have f:Fr φ H (φ++[p]) (upd H p o):=⟨f1.ext,fun c u hc e=>hU.upd hp _ _ e,fun c e=>(hU.upd hp).free e⟩
 refine⟨⟨?_,by rw[j3,j3,h.len];rfl,fun k n e=>?_⟩,f⟩
 .rw[bL]
  exact⟨h.nd,by simp,fun a ha b hb=>by rw[List.mem_singleton.mp hb];intro z;exact h.fresh hp (by rw[<- z];exact ha)⟩
 .by_cases hk:k<μ.length
  .rw[uv hk]at e
   obtain⟨q,e1,e2⟩:=h.at_ k n e
   exact⟨q,f.get e1,e2.mono f fun u eu=>hU.upd hp _ _ eu⟩
  .have Ol:k=μ.length:=by
    have:=(l8 e).1
    rw[j3,aN]at this
    lia
   subst Ol
   rw[oP (aj _),aR]at e
   cases e
   exact⟨p,by rw[oP (by rw[h.len];exact aj _),h.len,aR];rfl,hm⟩
def fe.put {φ:List ai}{H:Hp}{μ:MS}{m:MO}{p:ai}{o:HO}{k:Nat}(h:fe φ H μ)(hk:φ[k]?=some p)(hm:zk φ (upd H p o) m p):fe φ (upd H p o) (μ.set k m):=by
 have hp:p∈φ:=A1 hk
 have f:Fr φ H φ (upd H p o):=.put hp
 refine⟨h.nd,by rw[aG];exact h.len,fun j n e=>?_⟩
 by_cases hj:k=j
 .subst hj
  have hl:k<μ.length:=by have:=(l8 hk).1;have:=h.len;lia
  rw[aC hl]at e
  cases e
  exact⟨p,hk,hm⟩
 .rw[ak hj]at e
  obtain⟨q,e1,e2⟩:=h.at_ j n e
  refine⟨q,e1,e2.mono f fun u eu=>?_⟩
  rw[eP]
  .exact eu
  .intro z
   subst z
   have a1:=l8 hk
   have a2:=l8 e1
   obtain⟨i1,r1⟩:=a1
   obtain⟨i2,r2⟩:=a2
   rcases Nat.lt_or_gt_of_ne hj with z | z
   .exact List.pairwise_iff_getElem.mp h.nd k j i1 i2 z (r1.trans r2.symm)
   .exact List.pairwise_iff_getElem.mp h.nd j k i2 i1 z (r2.trans r1.symm)
def jR (φ:List ai)(H:Hp)(ρ:DE)(σ:St):Prop:=ρ.length=σ.length/\∀(i:Nat) (d:D),ρ[i]?=some (some d)->∃ v,σ[i]?=some (some v)/\jC φ H d v
def jR.mono {φ ft:List ai}{H H':Hp}{ρ:DE}{σ:St}(f:Fr φ H ft H')(h:jR φ H ρ σ):jR ft H' ρ σ:=⟨h.1,fun i d e=>let ⟨v,a,b⟩:=h.2 i d e;⟨v,a,b.mono f⟩⟩
def jR.set {φ:List ai}{H:Hp}{ρ:DE}{σ:St}{d:D}{v:V}(h:jR φ H ρ σ)(hd:jC φ H d v)(i:Nat):jR φ H (ρ.set i (some d)) (σ.set i (some v)):=by
 refine⟨by rw[aG,aG];exact h.1,fun j e hj=>?_⟩
 by_cases Io:i=j
 .subst Io
  have hl:i<ρ.length:=by have:=(l8 hj).1;rwa [aG]at this
  rw[aC hl]at hj
  cases hj
  exact⟨v,aC (by rw[<- h.1];exact hl),hd⟩
 .rw[ak Io]at hj
  obtain⟨u,a,b⟩:=h.2 j e hj
  exact⟨u,by rw[ak Io];exact a,b⟩
def lv (μ:MS):D->Option (List D)
 | .lst ds=>some ds
 | .mr k=>AW μ k
 | _=>none
def lc:D->List D->MS->Prop
 | .mr k,ds=>fun μ=>AW μ k=some ds
 | _,_=>fun _=>True
def qk {φ:List ai}{H:Hp}{μ:MS}{d:D}{v:V}{ds:List D}(M:fe φ H μ)(i:jC φ H d v)(h:lv μ d=some ds):∃ p vs,v=.ref p/\H p=some (.lst vs)/\eK φ H ds vs:=by
 cases d with
 | lst es=>cases h;obtain⟨p,vs,rfl,_,hp,ha⟩:=i;exact⟨p,vs,rfl,hp,ha⟩
 | mr k =>
  obtain⟨p,hp,rfl⟩:=i
  have e:=qm (show AW μ k=some ds from h)
  obtain⟨q,e1,vs,hv,ha⟩:=M.at_ k _ e
  rw[hp]at e1;cases e1
  exact⟨p,vs,rfl,hv,ha⟩
 | _=>cases h
def N6 {φ ft:List ai}{H H':Hp}{μ μ':MS}{d:D}{p:ai}{ds:List D}(M:fe φ H μ)(i:jC φ H d (.ref p))(h:lv μ d=some ds)(f:Fr φ H ft H')(M':fe ft H' μ')(c:lc d ds μ'):∃ vs,H' p=some (.lst vs)/\eK ft H' ds vs:=by
 cases d with
 | lst es=>cases h;obtain⟨p',vs,e,n,hp,ha⟩:=i;cases e;exact⟨vs,f.keep _ _ n hp,ha.mono f⟩
 | mr k =>
  obtain⟨p',hp,e⟩:=i
  cases e
  obtain⟨q,e1,vs,hv,ha⟩:=M'.at_ k _ (qm c)
  rw[f.get hp]at e1;cases e1
  exact⟨vs,hv,ha⟩
 | _=>cases h
abbrev DK:=D->MS->Prop
abbrev De:=DE->MS->DK->Prop
abbrev DA:=DE->MS->(List D->MS->Prop)->Prop
abbrev Dt:=DE->MS->(Bool->MS->Prop)->Prop
def u0 (φ:List ai)(H:Hp)(K:DK)(Q:VK):Prop:=∀ d μ' ft v H',K d μ'->Fr φ H ft H'->fe ft H' μ'->jC ft H' d v->Q v H'
def u0.mono {φ eZ:List ai}{H H1:Hp}{K:DK}{Q:VK}(h:u0 φ H K Q)(f:Fr φ H eZ H1):u0 eZ H1 K Q:=fun d μ' ft v H' k g m i=>h d μ' ft v H' k (f.trans g) m i
def tD (w:De):TE:=fun σ H Q=>∃ φ ρ μ K,jR φ H ρ σ/\fe φ H μ/\w ρ μ K/\u0 φ H K Q
def TK (w:DA):TA:=fun σ H Q=>∃ φ ρ μ K,jR φ H ρ σ/\fe φ H μ/\w ρ μ K/\∀ ds μ' ft vs H',K ds μ'->Fr φ H ft H'->fe ft H' μ'->eK ft H' ds vs->Q vs H'
def yT (w:Dt):TT:=fun σ H Q=>∃ φ ρ μ K,jR φ H ρ σ/\fe φ H μ/\w ρ μ K/\∀ b μ' ft H',K b μ'->Fr φ H ft H'->fe ft H' μ'->Q b H'
section
variable {X:Cx}{a b e:Expr}{pos:Pos}
abbrev PD (X:Cx)(e:Expr)(w:De):Prop:=PE X e (tD w)
def VP (i:Nat):De:=fun ρ μ K=>match ρ[i]? with | some (some d)=>K d μ | _=>False
def dC (d:D):De:=fun _ μ K=>K d μ
def dv (i:Nat){x:Str}{pos:Pos}(hN:X.N[i]?=some x:=by rfl)(hv:Tb X.env.scope x:=by first | exact Or.inl rfl | exact Or.inr (Or.inl rfl) | exact Or.inr (Or.inr rfl))(hd:(x==("__debug__" : Str))=false:=by decide)
 (zd:(x==("__classdict__" : Str))=false:=by decide):PD X (.Name x pos) (VP i):=(AB (i:=i) hN hv hd zd).imp fun σ H Q q=>by
 obtain⟨φ,ρ,μ,K,E,M,w,L⟩:=q
 unfold VP at w
 split at w
 .rename_i d hd
  obtain⟨v,e,r⟩:=E.2 i d hd
  exact⟨v,e,L d μ φ v H w (.refl _ _) M r⟩
 .exact w.elim
def dJ {i j pos}:PD X (.Constant (.int i) j pos) (dC (.int i)):=gm.imp fun σ H Q rl=>by obtain⟨φ,ρ,μ,K,E,M,w,L⟩:=rl;exact L _ _ φ _ H w (.refl _ _) M rfl
def rJ {b j pos}:PD X (.Constant (.bool b) j pos) (dC (.bl b)):=J0.imp fun σ H Q pF=>by obtain⟨φ,ρ,μ,K,E,M,w,L⟩:=pF;exact L _ _ φ _ H w (.refl _ _) M rfl
def Lu {j pos}:PD X (.Constant .none j pos) (dC .gy):=Rp.imp fun σ H Q oN=>by obtain⟨φ,ρ,μ,K,E,M,w,L⟩:=oN;exact L _ _ φ _ H w (.refl _ _) M rfl
def dY {x j pos}:PD X (.Constant (.str x) j pos) (dC (.str x)):=Rn.imp fun σ H Q tO=>by obtain⟨φ,ρ,μ,K,E,M,w,L⟩:=tO;exact L _ _ φ _ H w (.refl _ _) M rfl
abbrev wj:=D->D->MS->DK->Prop
def Bl (ro:wj)(wa wb:De):De:=fun ρ μ K=>wa ρ μ fun x eF=>wb ρ eF fun y fG=>ro x y fG K
def pL (r:R2)(ro:wj):Prop:=∀ φ H x y dx dy μ K Q,fe φ H μ->jC φ H dx x->jC φ H dy y->ro dx dy μ K->u0 φ H K Q->r x y H Q
def FK {r:R2}{ro:wj}{wa wb:De}(so:pL r ro){σ:St}{H:Hp}{Q:VK}(h:tD (Bl ro wa wb) σ H Q):Ug r (tD wa) (tD wb) σ H Q:=by
 obtain⟨φ,ρ,μ,K,E,M,w,L⟩:=h
 refine⟨φ,ρ,μ,_,E,M,w,fun d1 eF eZ v1 H1 k1 f1 M1 i1=>?_⟩
 refine⟨eZ,ρ,eF,_,E.mono f1,M1,k1,fun d2 fG jD v2 H2 k2 f2 M2 i2=>?_⟩
 exact so jD H2 v1 v2 d1 d2 fG K Q M2 (i1.mono f2) i2 k2 (L.mono (f1.trans f2))
def ub {op:Operator}{r:R2}{ro:wj}{wa wb:De}(h:kg X (binaryOp op) r)(so:pL r ro)(ha:PD X a wa)(hb:PD X b wb):PD X (.BinOp a op b pos) (Bl ro wa wb):=(j9 h ha hb).imp fun σ H Q q=>FK so q
def vD {op:CmpOp}{r:R2}{ro:wj}{wa wb:De}(h:kg X (compareOp op) r)(so:pL r ro)(ha:PD X a wa)(hb:PD X b wb)(hm:behindInMarks op b=false):PD X (.Compare a [op] [b] pos) (Bl ro wa wb):=(tF h ha hb hm).imp fun σ H Q q=>FK so q
def YQ {r:R2}{ro:wj}{wa wb:De}(h:Hm X r)(so:pL r ro)(ha:PD X a wa)(hb:PD X b wb)(hs:BB b):PD X (.Subscript a b pos) (Bl ro wa wb):=(qe h ha hb hs).imp fun σ H Q q=>FK so q
def sF (w:De):Dt:=fun ρ μ K=>w ρ μ fun d μ'=>match d with | .bl b=>K b μ' | _=>False
def M8 {w:De}{σ:St}{H:Hp}{Q:Bool->Hp->Prop}(h:yT (sF w) σ H Q):cB (tD w) σ H Q:=by
 obtain⟨φ,ρ,μ,K,E,M,k,L⟩:=h
 refine⟨φ,ρ,μ,_,E,M,k,fun d μ' ft v H' k' f M' i=>?_⟩
 cases d with
 | bl b=>cases(show v=_ from i);exact L b μ' ft H' k' f M'
 | _=>exact k'.elim
def gT {w:De}(h:PD X e w)(he:∀ whole,isTrue e X.env whole=(do let v <- whole;standAt e.pos;holding [v] (truthy v)):=by intro _;rfl):PT X e (yT (sF w)):=(tE h he).imp fun σ H Q q=>M8 q
def oU {op:CmpOp}{r:R2}{ro:wj}{wa wb:De}(h:kg X (compareOp op) r)(so:pL r ro)(ha:PD X a wa)(hb:PD X b wb)(hm:behindInMarks op b=false):PT X (.Compare a [op] [b] pos) (yT (sF (Bl ro wa wb))) :=
 (mX h ha hb hm).imp fun σ H Q q=>by
  obtain⟨φ,ρ,μ,K,E,M,k,L⟩:=q
  refine FK so ⟨φ,ρ,μ,_,E,M,k,fun d μ' ft v H' k' f M' i=>?_⟩
  cases d with
  | bl b=>cases(show v=_ from i);exact L b μ' ft H' k' f M'
  | _=>exact k'.elim
def LA (neg:Bool)(w:De):De:=fun ρ μ K=>w ρ μ fun d μ'=>match d with | .gy=>K (.bl (!neg)) μ' | _=>K (.bl neg) μ'
def KJ {φ:List ai}{H:Hp}{d:D}{v:V}(i:jC φ H d v):decide (v=V.gy)=(match d with | .gy=>true | _=>false):=by
 cases d with
 | gy=>cases(show v=_ from i);rfl
 | bl _=>cases(show v=_ from i);rfl
 | int _=>cases(show v=_ from i);rfl
 | str _=>cases(show v=_ from i);rfl
 | lst _=>obtain⟨p,vs,rfl,_⟩:=i;rfl
 | tup _=>obtain⟨p,vs,rfl,_⟩:=i;rfl
 | jr _ _=>obtain⟨p,kvs,vs,rfl,_⟩:=i;rfl
 | mr _=>obtain⟨p,_,rfl⟩:=i;rfl
 | obj _ _ _=>obtain⟨p,dx,fs,vs,rfl,_⟩:=i;rfl
 | mE _ _=>obtain⟨p,dx,fs,vs,rfl,_⟩:=i;rfl
 | fn _=>cases(show v=_ from i);rfl
def QI {w:De}{σ:St}{H:Hp}{Q:VK}(h:tD (LA false w) σ H Q):Ui (tD w) σ H Q:=by
 obtain⟨φ,ρ,μ,K,E,M,k,L⟩:=h
 refine⟨φ,ρ,μ,_,E,M,k,fun d μ' ft v H' k' f M' i=>?_⟩
 show Q (.bl _) H'
 rw[KJ i]
 cases d <;> exact L _ μ' ft _ H' k' f M' rfl
def FL {w:De}{σ:St}{H:Hp}{Q:VK}(h:tD (LA true w) σ H Q):Pn (tD w) σ H Q:=by
 obtain⟨φ,ρ,μ,K,E,M,k,L⟩:=h
 refine⟨φ,ρ,μ,_,E,M,k,fun d μ' ft v H' k' f M' i=>?_⟩
 show Q (.bl _) H'
 rw[KJ i]
 cases d <;> exact L _ μ' ft _ H' k' f M' rfl
end
section
variable {X:Cx}{a b e:Expr}{es:List Expr}{pos:Pos}
def PA.imp {es:List Expr}{t t':TA}(h:PA X es t)(hi:∀ σ H Q,t' σ H Q->t σ H Q):PA X es t':=fun pos dA s σ H Q I q=>h pos dA s σ H Q I (hi σ H Q q)
def BC.imp {st:List Stmt}{t t':TS}(h:BC X st t)(hi:∀ D σ H,t' D σ H->t D σ H):BC X st t':=fun dA s σ H D I q=>h dA s σ H D I (hi D σ H q)
def Ff:DA:=fun _ μ K=>K [] μ
def vE (wa:De)(wr:DA):DA:=fun ρ μ K=>wa ρ μ fun x eF=>wr ρ eF fun xs fG=>K (x::xs) fG
abbrev vR (X:Cx)(es:List Expr)(w:DA):Prop:=PA X es (TK w)
def fV:vR X [] Ff:=gJ.imp fun σ H Q sD=>by obtain⟨φ,ρ,μ,K,E,M,w,L⟩:=sD;exact L [] μ φ [] H w (.refl _ _) M rfl
def dP {wa:De}{wr:DA}(ha:PD X e wa)(hr:vR X es wr)(hs:starEach (e::es) X.env=(false,eval e X.env)::starEach es X.env:=by rfl):vR X (e::es) (vE wa wr):=(eO ha hr hs).imp fun σ H Q q=>by
 obtain⟨φ,ρ,μ,K,E,M,w,L⟩:=q
 refine⟨φ,ρ,μ,_,E,M,w,fun d1 eF eZ v1 H1 k1 f1 M1 i1=>?_⟩
 refine⟨eZ,ρ,eF,_,E.mono f1,M1,k1,fun ds fG jD vs H2 k2 f2 M2 i2=>?_⟩
 exact L _ fG jD _ H2 k2 (f1.trans f2) M2 ⟨v1,vs,rfl,i1.mono f2,i2⟩
def Mc {φ:List ai}{H:Hp}{μ:MS}{K:DK}{Q:VK}{ds:List D}{vs:List V}{p:ai}(L:u0 φ H K Q)(M:fe φ H μ)(h:eK φ H ds vs)(k:K (.lst ds) μ)(hp:H p=none):Q (.ref p) (upd H p (.lst vs)) :=
 L _ μ φ _ _ k (.new hp) (M.same (hU.upd hp)) ⟨p,vs,rfl,M.fresh hp,eI,h.mono (.new hp)⟩
def Fl {φ:List ai}{H:Hp}{μ:MS}{K:DK}{Q:VK}{ds:List D}{vs:List V}{p:ai}(L:u0 φ H K Q)(M:fe φ H μ)(h:eK φ H ds vs)(k:K (.tup ds) μ)(hp:H p=none):Q (.ref p) (upd H p (.tup vs)) :=
 L _ μ φ _ _ k (.new hp) (M.same (hU.upd hp)) ⟨p,vs,rfl,M.fresh hp,eI,h.mono (.new hp)⟩
def Wd {φ:List ai}{H:Hp}{μ:MS}{K:DK}{Q:VK}{ds:List D}{vs:List V}{p:ai}(L:u0 φ H K Q)(M:fe φ H μ)(h:eK φ H ds vs)(k:K (.mr μ.length) (μ++[.lst ds]))(hp:H p=none):Q (.ref p) (upd H p (.lst vs)):=by
 have f:Fr φ H (φ++[p]) (upd H p (.lst vs)):=⟨(Fr.snoc (φ:=φ) hp).ext,fun c u _ e=>hU.upd hp _ _ e,fun c e=>(hU.upd hp).free e⟩
 obtain⟨M',_⟩:=M.snoc (m:=.lst ds) (o:=.lst vs) hp ⟨vs,eI,h.mono f⟩
 exact L _ _ _ _ _ k f M' ⟨p,by rw[oP (by rw[M.len];exact aj _),M.len,aR];rfl,rfl⟩
def nL (m:Bool)(ds:List D)(μ:MS)(K:DK):Prop:=match m with | false=>K (.lst ds) μ | true=>K (.mr μ.length) (μ++[.lst ds])
def Fm {m:Bool}{φ:List ai}{H:Hp}{μ:MS}{K:DK}{Q:VK}{ds:List D}{vs:List V}{p:ai}(L:u0 φ H K Q)(M:fe φ H μ)(h:eK φ H ds vs)(k:nL m ds μ K)(hp:H p=none):Q (.ref p) (upd H p (.lst vs)):=by
 cases m with
 | false=>exact Mc L M h k hp
 | true=>exact Wd L M h k hp
def Y4 (m:Bool)(w:DA):De:=fun ρ μ K=>w ρ μ fun ds eF=>ds.length<=sizeLine/\nL m ds eF K
def YT (w:DA):De:=fun ρ μ K=>w ρ μ fun ds eF=>ds.length<=sizeLine/\K (.tup ds) eF
def iE {w:DA}(m:Bool)(h:vR X es w):PD X (.List es pos) (Y4 m w):=(JS h).imp fun σ H Q ⟨φ,ρ,μ,K,E,M,w,L⟩ =>
 ⟨φ,ρ,μ,_,E,M,w,fun ds eF eZ vs H1 k1 f1 M1 i1=>⟨by rw[i1.len];exact k1.1,fun p hp=>Fm (L.mono f1) M1 i1 k1.2 hp⟩⟩
def gO {w:DA}{x1}(h:vR X es w):PD X (.Tuple es x1 pos) (YT w):=(Rl h).imp fun σ H Q ⟨φ,ρ,μ,K,E,M,w,L⟩ =>
 ⟨φ,ρ,μ,_,E,M,w,fun ds eF eZ vs H1 k1 f1 M1 i1=>⟨by rw[i1.len];exact k1.1,fun p hp=>Fl (L.mono f1) M1 i1 k1.2 hp⟩⟩
abbrev jJ:=List D->MS->DK->Prop
def hV (f:jJ):Sp:=fun vs H Q _=>∃ φ ds μ K,eK φ H ds vs/\fe φ H μ/\f ds μ K/\u0 φ H K Q
def zR (f:jJ)(w:DA):De:=fun ρ μ K=>w ρ μ fun ds eF=>f ds eF K
def SI {f:jJ}{w:DA}{x:Str}{p:Pos}{k:Nat}{ps:List Str}(C:pO X.prog X.w X.K X.mg X.dD x k ps (hV f))(hr:iz k X.A)(hg:Gl X x)(ha:vR X (e::es) w)
 (uN:(x==("__debug__" : Str))=false:=by decide) (he:starEach (e::es) X.env=(false,eval e X.env)::starEach es X.env:=by rfl) (lW:(backTo pos (starEach es X.env)).any (·.1)=false:=by rfl) :
 PD X (.Call (.Name x p) (e::es) [] pos) (zR f w):=(xI C hr hg ha uN he lW).imp fun σ H Q ⟨φ,ρ,μ,K,E,M,w,L⟩ =>
 ⟨φ,ρ,μ,_,E,M,w,fun ds eF eZ vs H1 k1 f1 M1 i1=>by show hV f (vs++[]) H1 Q E0;rw[aV];exact⟨eZ,ds,eF,K,i1,M1,k1,L.mono f1⟩⟩
def nr (r:List V->Hp->VK->Prop)(f:jJ):Prop:=∀ φ H vs ds μ K Q,fe φ H μ->eK φ H ds vs->f ds μ K->u0 φ H K Q->r vs H Q
def Po {r:List V->Hp->VK->Prop}{f:jJ}{w:DA}(so:nr r f){σ:St}{H:Hp}{Q:VK}(h:tD (zR f w) σ H Q):WB r (TK w) σ H Q:=by
 obtain⟨φ,ρ,μ,K,E,M,w,L⟩:=h
 exact⟨φ,ρ,μ,_,E,M,w,fun ds eF eZ vs H1 k1 f1 M1 i1=>so eZ H1 vs ds eF K Q M1 i1 k1 (L.mono f1)⟩
def rQ {r:List V->Hp->VK->Prop}{f:jJ}{w:DA}{id:String}{x:Str}{p:Pos}(hc:iI X (.builtin id) r)(so:nr r f)(hg:Gl X x)(hm:X.mg x=none)(hv:bootBuiltins x=some (.builtin id))(ha:vR X (e::es) w)(hn:x ≠ "__name__":=by decide)(uN:(x==("__debug__" : Str))=false:=by decide)
 (he:starEach (e::es) X.env=(false,eval e X.env)::starEach es X.env:=by rfl) (lW:(backTo pos (starEach es X.env)).any (·.1)=false:=by rfl):PD X (.Call (.Name x p) (e::es) [] pos) (zR f w) :=
 (fZ hc hg hm hv ha hn uN he lW).imp fun σ H Q q=>Po so q
def DH {r:List V->Hp->VK->Prop}{f:jJ}{w:DA}{T:String}{x:Str}{p:Pos}(hc:iI X (.type T) r)(so:nr r f)(hg:Gl X x)(hm:X.mg x=none)(hv:bootBuiltins x=some (.type T))(ha:vR X (e::es) w)(hn:x ≠ "__name__":=by decide)(uN:(x==("__debug__" : Str))=false:=by decide)
 (he:starEach (e::es) X.env=(false,eval e X.env)::starEach es X.env:=by rfl) (lW:(backTo pos (starEach es X.env)).any (·.1)=false:=by rfl):PD X (.Call (.Name x p) (e::es) [] pos) (zR f w) :=
 (zy hc hg hm hv ha hn uN he lW).imp fun σ H Q q=>Po so q
abbrev QC:=D->List D->MS->DK->Prop
def IL (K:aa)(T:String)(r:V->List V->Hp->VK->Prop)(f:QC):Prop:=∀ φ H x vs d ds μ K' Q,fe φ H μ->jC φ H d x->eK φ H ds vs->f d ds μ K'->u0 φ H K' Q->r x vs H Q
def Tc (T:String)(μ:MS):D->Prop
 | .str _=>T = "str"
 | .lst _=>T = "list"
 | .jr _ _=>T = "dict"
 | .mr k=>match μ[k]? with | some (.lst _)=>T = "list" | some (.jr _ _)=>T = "dict" | _=>False
 | _=>False
def Tc.is {Kf:aa}{T:String}{φ:List ai}{H:Hp}{μ:MS}{d:D}{v:V}(M:fe φ H μ)(i:jC φ H d v)(h:Tc T μ d):Wx Kf T v H:=by
 cases d with
 | str z=>cases(show v=_ from i);exact h
 | lst ds=>obtain⟨p,vs,rfl,_,hp,_⟩:=i;exact .inl ⟨h,vs,pK.of hp⟩
 | jr ks ds=>obtain⟨p,kvs,vs,rfl,_,hp,_⟩:=i;exact .inr (.inr (.inl ⟨h,.inl ⟨kvs,hp⟩⟩))
 | mr k =>
  obtain⟨p,hp,rfl⟩:=i
  unfold Tc at h
  dsimp only at h
  cases e:μ[k]? with
  | none=>rw[e]at h;exact h.elim
  | some m =>
   obtain⟨q,e1,e2⟩:=M.at_ k m e
   rw[hp]at e1;cases e1
   rw[e]at h
   cases m with
   | box=>exact h.elim
   | lst ds=>obtain⟨vs,hv,_⟩:=e2;exact .inl ⟨h,vs,pK.of hv⟩
   | jr ks ds=>obtain⟨kvs,vs,hv,_⟩:=e2;exact .inr (.inr (.inl ⟨h,.inl ⟨kvs,hv⟩⟩))
   | _=>exact h.elim
 | _=>exact(show False from h).elim
def dMt (T:String)(f:QC)(wo:De)(w:DA):De:=fun ρ μ K=>wo ρ μ fun x eF=>Tc T eF x/\w ρ eF fun ds fG=>f x ds fG K
def yu {o:Expr}{name:Str}{fY gE:Pos}{T id:String}{r:V->List V->Hp->VK->Prop}{f:QC}{wo:De}{w:DA}(pa:PlainAttrs T)(slot:Slot T name id)(Sd:typeOf (.builtin id)=pure (.type "method_descriptor"))(hm:Fv X id r)(so:IL X.K T r f)(ho:PD X o wo)(ha:vR X (e::es) w)
 (lI:attributeBase o name X.env (eval o X.env)=eval o X.env:=by rfl)
 (Sk:((backTo gE (starEach (e::es) X.env)).all (fun x=>!x.1)&&(backToKw gE (keywordEach [] X.env)).all (fun x=>x.1.isSome)
   && decide ((e::es).length+([]:List Keyword).length+(if([]:List Keyword).isEmpty then 0 else 1)<30))=true:=by rfl)
 (lH:(fY.endLine==gE.line)=true:=by rfl) (hs:starEach (e::es) X.env=(false,eval e X.env)::starEach es X.env:=by rfl) (ER:(backTo gE (starEach es X.env)).any (·.1)=false:=by rfl) :
 PD X (.Call (.Attribute o name fY) (e::es) [] gE) (dMt T f wo w):=(UL pa slot Sd hm ho ha lI Sk lH hs ER).imp fun σ H Q q=>by
 obtain⟨φ,ρ,μ,K,E,M,w,L⟩:=q
 refine⟨φ,ρ,μ,_,E,M,w,fun d1 eF eZ v1 H1 k1 f1 M1 i1=>⟨Tc.is M1 i1 k1.1,?_⟩⟩
 exact⟨eZ,ρ,eF,_,E.mono f1,M1,k1.2,fun ds fG jD vs H2 k2 f2 M2 i2=>so jD H2 v1 vs d1 ds fG K Q M2 (i1.mono f2) i2 k2 (L.mono (f1.trans f2))⟩
def Qu {o:Expr}{name:Str}{fY gE:Pos}{T id:String}{r:V->List V->Hp->VK->Prop}{f:QC}{wo:De}(pa:PlainAttrs T)(slot:Slot T name id)(Sd:typeOf (.builtin id)=pure (.type "method_descriptor"))(hm:Fv X id r)(so:IL X.K T r f)(ho:PD X o wo)
 (lI:attributeBase o name X.env (eval o X.env)=eval o X.env:=by rfl) (lH:(fY.endLine==gE.line)=true:=by rfl):PD X (.Call (.Attribute o name fY) [] [] gE) (dMt T f wo Ff):=(Ru pa slot Sd hm ho lI lH).imp fun σ H Q q=>by
 obtain⟨φ,ρ,μ,K,E,M,w,L⟩:=q
 exact⟨φ,ρ,μ,_,E,M,w,fun d1 eF eZ v1 H1 k1 f1 M1 i1=>⟨Tc.is M1 i1 k1.1,so eZ H1 v1 [] d1 [] eF K Q M1 i1 rfl k1.2 (L.mono f1)⟩⟩
def Zf (wa wb:De):De:=fun ρ μ K=>wa ρ μ fun x eF=>match x with | .bl c=>if c=true then wb ρ eF K else K (.bl false) eF | _=>False
def Y2 (wa:De):De:=fun ρ μ K=>wa ρ μ fun x eF=>match x with | .bl c=>K (.bl (!c)) eF | _=>False
def GX {rest:List Expr}{wa wb:De}(ha:PD X a wa)(hb:PD X (.BoolOp .And (b::rest) pos) wb):PD X (.BoolOp .And (a::b::rest) pos) (Zf wa wb):=(wB ha hb).imp fun σ H Q q=>by
 obtain⟨φ,ρ,μ,K,E,M,w,L⟩:=q
 refine⟨φ,ρ,μ,_,E,M,w,fun d1 eF eZ v1 H1 k1 f1 M1 i1=>?_⟩
 cases d1 with
 | bl c =>
  cases(show v1=_ from i1)
  cases c with
  | true=>exact⟨eZ,ρ,eF,_,E.mono f1,M1,k1,L.mono f1⟩
  | false=>exact L _ eF eZ _ H1 k1 f1 M1 rfl
 | _=>exact k1.elim
def Ls {op}{w:De}(h:PD X a w):PD X (.BoolOp op [a] pos) w:=EC h
def VN {wa:De}(ha:PD X a wa):PD X (.UnaryOp .Not a pos) (Y2 wa):=(NI ha).imp fun σ H Q q=>by
 obtain⟨φ,ρ,μ,K,E,M,w,L⟩:=q
 refine⟨φ,ρ,μ,_,E,M,w,fun d1 eF eZ v1 H1 k1 f1 M1 i1=>?_⟩
 cases d1 with
 | bl c=>cases(show v1=_ from i1);exact L _ eF eZ _ H1 k1 f1 M1 rfl
 | _=>exact k1.elim
def Y3 (wa:De):De:=fun ρ μ K=>wa ρ μ fun x eF=>match x with | .int i=>K (.int (-i)) eF | _=>False
def rP {wa:De}(ha:PD X a wa):PD X (.UnaryOp .USub a pos) (Y3 wa):=(UK QF ha).imp fun σ H Q q=>by
 obtain⟨φ,ρ,μ,K,E,M,w,L⟩:=q
 refine⟨φ,ρ,μ,_,E,M,w,fun d1 eF eZ v1 H1 k1 f1 M1 i1=>?_⟩
 cases d1 with
 | int c=>cases(show v1=_ from i1);exact⟨c,rfl,L _ eF eZ _ H1 k1 f1 M1 rfl⟩
 | _=>exact k1.elim
def Lk (t u:Dt):Dt:=fun ρ μ K=>t ρ μ fun c eF=>if c=true then u ρ eF K else K false eF
def Sx (t u:Dt):Dt:=fun ρ μ K=>t ρ μ fun c eF=>if c=true then K true eF else u ρ eF K
def Qr (t:Dt):Dt:=fun ρ μ K=>t ρ μ fun c eF=>K (!c) eF
abbrev Hk (X:Cx)(e:Expr)(w:Dt):Prop:=PT X e (yT w)
def M9 {t u:Dt}{σ:St}{H:Hp}{Q:Bool->Hp->Prop}(h:yT (Lk t u) σ H Q):Up (yT t) (yT u) σ H Q:=by
 obtain⟨φ,ρ,μ,K,E,M,w,L⟩:=h
 refine⟨φ,ρ,μ,_,E,M,w,fun b eF eZ H1 k1 f1 M1=>?_⟩
 cases b with
 | true=>exact⟨eZ,ρ,eF,_,E.mono f1,M1,k1,fun b fG jD H2 k2 f2 M2=>L b fG jD H2 k2 (f1.trans f2) M2⟩
 | false=>exact L _ eF eZ H1 k1 f1 M1
def QK {t u:Dt}{σ:St}{H:Hp}{Q:Bool->Hp->Prop}(h:yT (Sx t u) σ H Q):tOr (yT t) (yT u) σ H Q:=by
 obtain⟨φ,ρ,μ,K,E,M,w,L⟩:=h
 refine⟨φ,ρ,μ,_,E,M,w,fun b eF eZ H1 k1 f1 M1=>?_⟩
 cases b with
 | false=>exact⟨eZ,ρ,eF,_,E.mono f1,M1,k1,fun b fG jD H2 k2 f2 M2=>L b fG jD H2 k2 (f1.trans f2) M2⟩
 | true=>exact L _ eF eZ H1 k1 f1 M1
abbrev T3 (X:Cx)(e:Expr)(w:Dt):Prop:=PW X e (yT w)
def PW.imp {e:Expr}{t t':TT}(h:PW X e t)(hi:∀ σ H Q,t' σ H Q->t σ H Q):PW X e t':=fun wh dA s σ H Q I q=>h wh dA s σ H Q I (hi σ H Q q)
def iJ {t:Dt}(h:Hk X a t):T3 X (.BoolOp .And [a] pos) t:=pw_and1 h
def lE {t:Dt}(h:Hk X a t):T3 X (.BoolOp .Or [a] pos) t:=pw_or1 h
def j6 {rest:List Expr}{t u:Dt}(ha:Hk X a t)(hb:T3 X (.BoolOp .And (b::rest) pos) u):T3 X (.BoolOp .And (a::b::rest) pos) (Lk t u):=(pw_and ha hb).imp fun σ H Q q=>M9 q
def pE {rest:List Expr}{t u:Dt}(ha:Hk X a t)(hb:T3 X (.BoolOp .Or (b::rest) pos) u):T3 X (.BoolOp .Or (a::b::rest) pos) (Sx t u):=(pw_or ha hb).imp fun σ H Q q=>QK q
def lO {t:Dt}(h:Hk X a t):Hk X (.UnaryOp .Not a pos) (Qr t):=(Q8 h).imp fun σ H Q q=>by
 obtain⟨φ,ρ,μ,K,E,M,w,L⟩:=q
 exact⟨φ,ρ,μ,_,E,M,w,fun b eF eZ H1 k1 f1 M1=>L _ eF eZ H1 k1 f1 M1⟩
def dIf (t:Dt)(wa wb:De):De:=fun ρ μ K=>t ρ μ fun c eF=>if c=true then wa ρ eF K else wb ρ eF K
def yw {c:Expr}{t:Dt}{wa wb:De}(hc:Hk X c t)(ha:PD X a wa)(hb:PD X b wb):PD X (.IfExp c a b pos) (dIf t wa wb):=(JU hc ha hb).imp fun σ H Q q=>by
 obtain⟨φ,ρ,μ,K,E,M,w,L⟩:=q
 refine⟨φ,ρ,μ,_,E,M,w,fun b eF eZ H1 k1 f1 M1=>?_⟩
 cases b with
 | true=>exact⟨eZ,ρ,eF,_,E.mono f1,M1,k1,L.mono f1⟩
 | false=>exact⟨eZ,ρ,eF,_,E.mono f1,M1,k1,L.mono f1⟩
def SF {j pos'}{w:De}(h:PD X a w):PD X (.Compare a [.IsNot] [.Constant .none j pos'] pos) (LA true w):=(Rt (Gq h)).imp fun σ H Q q=>FL q
def FR {w:De}{t:TE}{σ:St}{H:Hp}{Q:Bool->Hp->Prop}(hi:∀ Q,tD w σ H Q->t σ H Q)(h:yT (sF w) σ H Q):tB t σ H Q:=by
 obtain⟨φ,ρ,μ,K,E,M,k,L⟩:=h
 refine hi _ ⟨φ,ρ,μ,_,E,M,k,fun d μ' ft v H' k' f M' i=>?_⟩
 cases d with
 | bl b=>cases(show v=_ from i);exact⟨b,rfl,L b μ' ft H' k' f M'⟩
 | _=>exact k'.elim
def Pm {j pos'}{w:De}(h:PD X a w):Hk X (.Compare a [.Is] [.Constant .none j pos'] pos) (sF (LA false w)):=(AA (Rv h)).imp fun σ H Q q=>FR (fun Q q=>QI q) q
def xh {j pos'}{w:De}(h:PD X a w):Hk X (.Compare a [.IsNot] [.Constant .none j pos'] pos) (sF (LA true w)):=(AA (Gq h)).imp fun σ H Q q=>FR (fun Q q=>FL q) q
end
structure DN where
 nx:DE->MS->Prop
 rt:DK
 bk:DE->MS->Prop:=fun _ _=>False
 ct:DE->MS->Prop:=fun _ _=>False
abbrev Ds:=DN->DE->MS->Prop
def Mm (φ:List ai)(H:Hp)(k:DE->MS->Prop)(q:St->Hp->Prop):Prop:=∀ jE μ' ft gH H',k jE μ'->Fr φ H ft H'->jR ft H' jE gH->fe ft H' μ'->q gH H'
def Mm.mono {φ eZ:List ai}{H H1:Hp}{k:DE->MS->Prop}{q:St->Hp->Prop}(h:Mm φ H k q)(f:Fr φ H eZ H1):Mm eZ H1 k q:=fun jE μ' ft gH H' a b c d=>h jE μ' ft gH H' a (f.trans b) c d
structure Wq (φ:List ai)(H:Hp)(N:DN)(E:Ends):Prop where
 nx:Mm φ H N.nx E.nx
 rt:u0 φ H N.rt E.rt
 bk:Mm φ H N.bk E.bk
 ct:Mm φ H N.ct E.ct
def Wq.mono {φ eZ:List ai}{H H1:Hp}{N:DN}{E:Ends}(h:Wq φ H N E)(f:Fr φ H eZ H1):Wq eZ H1 N E:=⟨h.nx.mono f,h.rt.mono f,h.bk.mono f,h.ct.mono f⟩
def WA (w:Ds):TS:=fun E σ H=>∃ φ ρ μ N,jR φ H ρ σ/\fe φ H μ/\w N ρ μ/\Wq φ H N E
abbrev wZ (X:Cx)(st:Stmt)(w:Ds):Prop:=PS X st (WA w)
abbrev Ft (X:Cx)(st:List Stmt)(w:Ds):Prop:=BC X st (WA w)
section
variable {X:Cx}{a b e:Expr}{es:List Expr}{pos:Pos}{st:Stmt}{rest:List Stmt}
def dNx:Ds:=fun N ρ μ=>N.nx ρ μ
def YZ (t u:Ds):Ds:=fun N ρ μ=>t { N with nx:=fun jE μ'=>u N jE μ'} ρ μ
def V4 (t u:Ds):Ds:=fun N ρ μ=>∃ M:DE->MS->Prop,t { N with nx:=M} ρ μ/\∀ jE μ',M jE μ'->u N jE μ'
def fg:Ft X [] dNx:=mY.imp fun E σ H qu=>by obtain⟨φ,ρ,μ,N,A,M,w,L⟩:=qu;exact L.nx ρ μ φ σ H w (.refl _ _) A M
def dN {t u:Ds}(h1:wZ X st t)(h2:Ft X rest u):Ft X (st::rest) (YZ t u):=(gI h1 h2).imp fun E σ H ⟨φ,ρ,μ,N,A,M,w,L⟩ =>
 ⟨φ,ρ,μ,_,A,M,w,⟨fun jE μ' ft gH H' k f A' M'=>⟨ft,jE,μ',N,A',M',k,L.mono f⟩,L.rt,L.bk,L.ct⟩⟩
def vQ {t u:Ds}(h1:wZ X st t)(h2:Ft X rest u):Ft X (st::rest) (V4 t u):=(gI h1 h2).imp fun E σ H ⟨φ,ρ,μ,N,A,M,⟨P,w1,w2⟩,L⟩ =>
 ⟨φ,ρ,μ,_,A,M,w1,⟨fun jE μ' ft gH H' k f A' M'=>⟨ft,jE,μ',N,A',M',w2 jE μ' k,L.mono f⟩,L.rt,L.bk,L.ct⟩⟩
def dX {t:Ds}(h:wZ X st t):Ft X [st] t:=kA h
def V2 (w:De):Ds:=fun N ρ μ=>w ρ μ fun _ μ'=>N.nx ρ μ'
def i7 {w:De}(h:PD X e w)(hs:swapsWith e none pos.line X.env=pure false:=by rfl):wZ X (.Expr e pos) (V2 w):=(Nx h hs).imp fun E σ H sC=>by obtain⟨φ,ρ,μ,N,A,M,w,L⟩:=sC;exact⟨φ,ρ,μ,_,A,M,w,fun d eF eZ v1 H1 k1 f1 M1 i1=>L.nx ρ eF eZ σ H1 k1 f1 (A.mono f1) M1⟩
def Y1 (w:De):Ds:=fun N ρ μ=>w ρ μ N.rt
def eJ {w:De}(h:PD X e w):wZ X (.Return (some e) pos) (Y1 w):=(nc h).imp fun E σ H rl=>by obtain⟨φ,ρ,μ,N,A,M,w,L⟩:=rl;exact⟨φ,ρ,μ,_,A,M,w,L.rt⟩
def SO (c:Dt)(t u:Ds):Ds:=fun N ρ μ=>c ρ μ fun b eF=>if b=true then t N ρ eF else u N ρ eF
def fF {c:Expr}{body orelse:List Stmt}{t:Dt}{u v:Ds}(hc:Hk X c t)(h1:Ft X body u)(h2:Ft X orelse v):wZ X (.If c body orelse pos) (SO t u v):=(vj hc h1 h2).imp fun E σ H ⟨φ,ρ,μ,N,A,M,w,L⟩ =>
 ⟨φ,ρ,μ,_,A,M,w,fun b eF eZ H1 k1 f1 M1=>by
  cases b with
  | true=>exact⟨eZ,ρ,eF,N,A.mono f1,M1,k1,L.mono f1⟩
  | false=>exact⟨eZ,ρ,eF,N,A.mono f1,M1,k1,L.mono f1⟩⟩
def IG (i:Nat)(w:De):Ds:=fun N ρ μ=>w ρ μ fun d μ'=>N.nx (ρ.set i (some d)) μ'
def Uw {i:Nat}{x:Str}{w:De}{pos':Pos}(hN:X.N.Nodup)(hi:X.N[i]?=some x)(hx:Loc X.env.scope x)(he:PD X e w)(hf:X.fn x=true\/X.env.scope.names.lookup x=some .local:=by first | exact .inl rfl | exact .inr rfl | assumption)
 (KR:swapsWith e (some (.Name x pos')) pos.line X.env=pure false:=by rfl):wZ X (.Assign [.Name x pos'] e pos) (IG i w):=(uF (pos:=pos) (pos':=pos') hN hi hx he KR hf).imp fun E σ H ⟨φ,ρ,μ,N,A,M,w,L⟩ =>
 ⟨φ,ρ,μ,_,A,M,w,fun d eF eZ v1 H1 k1 f1 M1 i1=>L.nx _ eF eZ _ H1 k1 f1 ((A.mono f1).set i1 i) M1⟩
abbrev DG:=D->DE->MS->(DE->MS->Prop)->Prop
abbrev Ti:=List D->DE->MS->(DE->MS->Prop)->Prop
def IW (g:TG)(w:DG)(S:List Nat):Prop:=∀ φ H ρ σ μ d v K,jR φ H ρ σ->fe φ H μ->jC φ H d v->w d ρ μ K->g v σ H fun nA H2=>H2=H/\nA.length=σ.length/\(∀ i,i∉S->nA[i]?=σ[i]?)/\∃ lg,jR φ H lg nA/\K lg μ
def O4 (g:z9)(w:Ti)(S:List Nat):Prop:=∀ φ H ρ σ μ ds vs K,jR φ H ρ σ->fe φ H μ->eK φ H ds vs->w ds ρ μ K->g vs σ H fun nA H2=>H2=H/\nA.length=σ.length/\(∀ i,i∉S->nA[i]?=σ[i]?)/\∃ lg,jR φ H lg nA/\K lg μ
def n5 (g:TG):Prop:=∀ v σ H Q Q',(∀ gH H',Q gH H'->Q' gH H')->g v σ H Q->g v σ H Q'
def yL (g:z9):Prop:=∀ v σ H Q Q',(∀ gH H',Q gH H'->Q' gH H')->g v σ H Q->g v σ H Q'
def Bf (i:Nat):DG:=fun d ρ μ K=>K (ρ.set i (some d)) μ
def VG (n:Nat)(t:Ti):DG:=fun d ρ μ K=>match d with | .tup ds=>ds.length=n/\t ds ρ μ K | _=>False
def Sy (t:DG)(u:Ti):Ti:=fun ds ρ μ K=>match ds with | d::r=>t d ρ μ fun jE μ'=>u r jE μ' K | []=>False
def VH:Ti:=fun ds ρ μ K=>match ds with | []=>K ρ μ | _=>False
def eB (i:Nat):IW (tR i) (Bf i) [i]:=fun φ H ρ σ μ d v K E M h w=>⟨rfl,aG,fun j hj=>ak (fun z=>hj (by simp[z])),_,E.set h i,w⟩
def dF (i:Nat):n5 (tR i):=fun v σ H Q Q' h q=>h _ _ q
def ig:O4 OW VH []:=fun φ H ρ σ μ ds vs K E M h w=>by
 cases ds with
 | nil=>cases(show vs=[]from h);exact⟨rfl,rfl,fun _ _=>rfl,ρ,E,w⟩
 | cons d r=>exact w.elim
def eA:yL OW:=fun v σ H Q Q' h q=>by
 cases v with
 | nil=>exact h _ _ q
 | cons x r=>exact q
def dU {g:TG}{u:z9}(h1:n5 g)(h2:yL u):yL (He g u):=fun v σ H Q Q' h q=>by
 cases v with
 | nil=>exact q
 | cons x r=>exact h1 _ _ _ _ _ (fun gH H' q'=>h2 _ _ _ _ _ h q') q
def iu {n:Nat}{u:z9}(h2:yL u):n5 (OV n u):=fun v σ H Q Q' h q=>by
 cases v with
 | ref a=>obtain⟨xs,e,l,q⟩:=q;exact⟨xs,e,l,h2 _ _ _ _ _ h q⟩
 | _=>exact q
def eG {g:TG}{u:z9}{w:DG}{y:Ti}{S T:List Nat}(h1:IW g w S)(m1:n5 g)(h2:O4 u y T)(m2:yL u):O4 (He g u) (Sy w y) (S++T):=fun φ H ρ σ μ ds vs K E M h k=>by
 cases ds with
 | nil=>exact k.elim
 | cons d r =>
  obtain⟨v,vr,rfl,hd,hr⟩:=h
  refine m1 _ _ _ _ _ (fun BS H1 pF=>?_) (h1 φ H ρ σ μ d v _ E M hd k)
  obtain⟨e1,l1,n1,ρ1,E1,k1⟩:=pF
  subst e1
  refine m2 _ _ _ _ _ (fun nA H2 oN=>?_) (h2 φ H1 ρ1 BS μ r vr K E1 M hr k1)
  obtain⟨e2,l2,n2,lg,E2,k2⟩:=oN
  refine⟨e2,l2.trans l1,fun i hi=>?_,lg,E2,k2⟩
  rw[n2 i (fun z=>hi (aO _ z)),n1 i (fun z=>hi (bZ _ z))]
def ie {n:Nat}{u:z9}{y:Ti}{S:List Nat}(h2:O4 u y S):IW (OV n u) (VG n y) S:=fun φ H ρ σ μ d v K E M h k=>by
 cases d with
 | tup ds =>
  obtain⟨p,vs,rfl,hn,hp,ha⟩:=h
  exact⟨vs,hp,by rw[ha.len];exact k.1,h2 φ H ρ σ μ ds vs K E M ha k.2⟩
 | _=>exact k.elim
structure Tg (X:Cx)(tg:Expr)(g:TG)(w:DG)(S:List Nat):Prop where
 pg:PG X tg g
 so:IW g w S
 mo:n5 g
def Ze (w:De)(g:DG):Ds:=fun N ρ μ=>w ρ μ fun d eF=>g d ρ eF N.nx
def kz {tg:Expr}{w:De}{g:TG}{y:DG}{S:List Nat}(he:PD X e w)(hg:Tg X tg g y S)(hs:swapsWithSole [tg] e pos.line X.env=pure false:=by rfl)(hw:swappedStores [tg] e X.env=pure none:=by rfl)
 (h1:(assignEach [tg] X.env).map (·.2)=[assign tg X.env]:=by rfl):wZ X (.Assign [tg] e pos) (Ze w y):=(uG he hg.pg hs hw h1).imp fun E σ H ⟨φ,ρ,μ,N,A,M,w,L⟩ =>
 ⟨φ,ρ,μ,_,A,M,w,fun d eF eZ v1 H1 k1 f1 M1 i1=>hg.mo _ _ _ _ _ (fun nA H2 ⟨e2,_,_,lg,E2,k2⟩=>by subst e2;exact L.nx lg eF eZ nA _ k2 f1 E2 M1) (hg.so eZ H1 ρ σ eF d v1 _ (A.mono f1) M1 i1 k1)⟩
def We (t:Fq)(w:D->D->D->MS->(MS->Prop)->Prop):Prop:=∀ φ H o i v dO di d μ K Q,fe φ H μ->jC φ H dO o->jC φ H di i->jC φ H d v->w dO di d μ K->(∀ μ' H',K μ'->Fr φ H φ H'->fe φ H' μ'->Q H')->t o i v H Q
def Ll:D->D->D->MS->(MS->Prop)->Prop:=fun o i d μ K=>match o,i with
 | .mr k,.int j=>opt (AW μ k) fun ds=>opt (Ie ds.length j) fun n=>K (μ.set k (.lst (ds.set n d)))
 | _,_=>False
def QR:We JH Ll:=fun φ H o i v dO di d μ K Q M hO hi hd w q=>by
 unfold Ll at w
 split at w
 .rename_i k j
  obtain⟨ds,em,w⟩:=gL w
  have em:=qm em
  obtain⟨p,hp,rfl⟩:=hO
  cases(show i=_ from hi)
  obtain⟨p',e1,vs,hv,ha⟩:=M.at_ k _ em
  rw[hp]at e1;cases e1
  obtain⟨n,en,w⟩:=gL w
  refine⟨vs,hv,dH (v:=n) (by rw[ha.len];exact en) ?_⟩
  have f:Fr φ H φ (upd H p (.lst (vs.set n v))):=.put (A1 hp)
  exact q _ _ w f (M.put hp ⟨_,eI,(ha.set hd n).mono f⟩)
 .exact w.elim
def V6 (w wo wi:De):Ds:=fun N ρ μ=>w ρ μ fun d eF=>wo ρ eF fun o fG=>wi ρ fG fun i lS=>Ll o i d lS fun FI=>N.nx ρ FI
def Q3 {o i:Expr}{w wo wi:De}{pos':Pos}(he:PD X e w)(ho:PD X o wo)(hi:PD X i wi)
 (ha:∀ v,assign (.Subscript o i pos') X.env v=(do
   let ov <- holding [v] (eval o X.env)
   let iv <- holding [v,ov] (eval i X.env)
   standAt pos'
   holding [v,ov,iv] (setItem ov iv v)
   release [v,ov,iv] []):=by intro _;rfl) (hs:swapsWithSole [.Subscript o i pos'] e pos.line X.env=pure false:=by rfl) (hw:swappedStores [.Subscript o i pos'] e X.env=pure none:=by rfl)
 (h1:(assignEach [.Subscript o i pos'] X.env).map (·.2)=[assign (.Subscript o i pos') X.env]:=by rfl):wZ X (.Assign [.Subscript o i pos'] e pos) (V6 w wo wi):=(uG he (xH ho hi setC ha) hs hw h1).imp fun E σ H hq=>by
 obtain⟨φ,ρ,μ,N,A,M,w,L⟩:=hq
 refine⟨φ,ρ,μ,_,A,M,w,fun d eF eZ v1 H1 k1 f1 M1 i1=>?_⟩
 refine⟨eZ,ρ,eF,_,A.mono f1,M1,k1,fun d2 fG jD v2 H2 k2 f2 M2 i2=>?_⟩
 refine⟨jD,ρ,fG,_,A.mono (f1.trans f2),M2,k2,fun d3 lS Ab v3 H3 k3 f3 M3 i3=>?_⟩
 exact QR Ab H3 _ _ _ d2 d3 d lS _ _ M3 (i2.mono f3) i3 (i1.mono (f2.trans f3)) k3 fun μ' H' k4 f4 M4=>L.nx ρ μ' Ab σ H' k4 ((f1.trans (f2.trans f3)).trans f4) (A.mono ((f1.trans (f2.trans f3)).trans f4)) M4
def Wf (t:O3)(ro:wj):Prop:=∀ φ H x y dx dy μ K Q,fe φ H μ->jC φ H dx x->jC φ H dy y->ro dx dy μ K->u0 φ H K Q->t x y H Q
def V5 (i:Nat)(w:De)(ro:wj):Ds:=fun N ρ μ=>match ρ[i]? with | some (some x)=>w ρ μ fun y eF=>ro x y eF fun z fG=>N.nx (ρ.set i (some z)) fG | _=>False
def Ux {i:Nat}{x:Str}{w:De}{op:Operator}{ti:O3}{ro:wj}{pos':Pos}(hN:X.N.Nodup)(hi:X.N[i]?=some x)(hx:Loc X.env.scope x)(he:PD X e w)(ho:Wl X op ti)(so:Wf ti ro)(hf:X.fn x=true\/X.env.scope.names.lookup x=some .local:=by first | exact .inl rfl | exact .inr rfl | assumption) :
 wZ X (.AugAssign (.Name x pos') op e pos) (V5 i w ro):=(Rg (pos:=pos) (pos':=pos') hN hi hx he ho hf).imp fun E σ H hq=>by
 obtain⟨φ,ρ,μ,N,A,M,w,L⟩:=hq
 unfold V5 at w
 split at w
 .rename_i d hd
  obtain⟨v,hv,Yx⟩:=A.2 i d hd
  refine⟨v,hv,φ,ρ,μ,_,A,M,w,fun d1 eF eZ v1 H1 k1 f1 M1 i1=>?_⟩
  exact so eZ H1 _ _ d d1 eF _ _ M1 (Yx.mono f1) i1 k1 fun d2 fG jD v2 H2 k2 f2 M2 i2=>L.nx _ fG jD _ H2 k2 (f1.trans f2) ((A.mono (f1.trans f2)).set i2 i) M2
 .exact w.elim
def SJ (c:Dt)(b:Ds):Ds:=fun N ρ μ=>∃ W:Nat->DE->MS->Prop,(∃ m,W m ρ μ)/\∀ m ρ μ,W m ρ μ ->
 c ρ μ fun t eF=>if t=true then b { N with nx:=fun jE μ'=>∃ m',m'<m/\W m' jE μ',ct:=fun jE μ'=>∃ m',m'<m/\W m' jE μ',bk:=N.nx} ρ eF else N.nx ρ eF
def Ga {c:Expr}{body:List Stmt}{t:Dt}{u:Ds}(hp:PassesOwn (model X.prog X.w) X.A X.env X.xe)(hc:Hk X c t)(hb:Ft X body u):wZ X (.While c body [] pos) (SJ t u):=(JO hp hc hb).imp fun E σ H ⟨φ,ρ,μ,N,A,M,⟨W,⟨m0,w0⟩,turn⟩,L⟩=>by
 refine⟨fun m gH H'=>∃ ft jE μ',Fr φ H ft H'/\jR ft H' jE gH/\fe ft H' μ'/\W m jE μ',⟨m0,φ,ρ,μ,.refl _ _,A,M,w0⟩,?_⟩
 rintro m gH H' ⟨ft,jE,μ',f',A',M',w'⟩
 refine⟨ft,jE,μ',_,A',M',turn m jE μ' w',fun b eF eZ H1 k1 f1 M1=>?_⟩
 cases b with
 | true =>
  refine⟨fun nA H2=>∃ m',m'<m/\∃ jD lg fG,Fr φ H jD H2/\jR jD H2 lg nA/\fe jD H2 fG/\W m' lg fG,fun nA H2 q=>q,eZ,jE,eF,_,A'.mono f1,M1,k1,?_⟩
  have nx:Mm eZ H1 (fun jE μ'=>∃ m',m'<m/\W m' jE μ') fun nA H2=>∃ m',m'<m/\∃ jD lg fG,Fr φ H jD H2/\jR jD H2 lg nA/\fe jD H2 fG/\W m' lg fG:=fun lg fG jD nA H2 ⟨m',hm,w2⟩ f2 A2 M2=>⟨m',hm,jD,lg,fG,(f'.trans f1).trans f2,A2,M2,w2⟩
  exact⟨nx,L.rt.mono (f'.trans f1),L.nx.mono (f'.trans f1),nx⟩
 | false=>exact L.nx jE eF eZ gH H1 k1 (f'.trans f1) (A'.mono f1) M1
def Wk (J:It)(φ:List ai)(H:Hp)(ds:List D)(c:MS->Prop):Prop:=∀ ft H' μ',Fr φ H ft H'->fe ft H' μ'->c μ'->∀ i,
 (∀ d,ds[i]?=some d->J.go i H'/\∀ x Mn,J.Jh i H' x Mn->Fr ft H' ft Mn/\fe ft Mn μ'/\jC ft Mn d x)/\(i=ds.length->J.stop i H')
abbrev DI:=DE->MS->(List D->(MS->Prop)->MS->Prop)->Prop
def Ul (w:DI):TI:=fun σ H R=>∃ φ ρ μ K,jR φ H ρ σ/\fe φ H μ/\w ρ μ K/\∀ ds c μ' ft J H',K ds c μ'->Fr φ H ft H'->fe ft H' μ'->Wk J ft H' ds c->R J H'
abbrev Fs (X:Cx)(tg iter:Expr)(w:DI):Prop:=PI X tg iter (Ul w)
def PI.imp {tg iter:Expr}{t t':TI}(h:PI X tg iter t)(hi:∀ σ H Q,t' σ H Q->t σ H Q):PI X tg iter t':=fun dA s σ H Q I q=>h dA s σ H Q I (hi σ H Q q)
def zf (g:DG)(b:Ds)(N:DN)(c:MS->Prop):List D->DE->MS->Prop
 | [],ρ,μ=>c μ/\N.nx ρ μ
 | d::ds,ρ,μ=>c μ/\g d ρ μ fun lg fG=>b { N with nx:=fun jE μ'=>zf g b N c ds jE μ',ct:=fun jE μ'=>zf g b N c ds jE μ',bk:=N.nx} lg fG
def Zc (wi:DI)(g:DG)(b:Ds):Ds:=fun N ρ μ=>wi ρ μ fun ds c eF=>zf g b N c ds ρ eF
def vg {tg iter:Expr}{body:List Stmt}{wi:DI}{g:TG}{y:DG}{S:List Nat}{u:Ds}(hp:PassesOwn (model X.prog X.w) X.A X.env X.xe)(hc:X.gg=true)(hi:Fs X tg iter wi)(hg:Tg X tg g y S)(hb:Ft X body u)
 (hs:∀ x,foldedSetIterable iter X.env x=pure x:=by intro _;rfl):wZ X (.For tg iter body [] pos) (Zc wi y u):=(Rc hp hc hi hg.pg hb hs).imp fun E σ H hq=>by
 obtain⟨φ,ρ,μ,N,A,M,w,L⟩:=hq
 refine⟨φ,ρ,μ,_,A,M,w,fun ds c eF eZ J H1 k1 f1 M1 wk=>?_⟩
 refine⟨fun i m gH H'=>m=ds.length - i/\i<=ds.length/\∃ ft jE μ',Fr eZ H1 ft H'/\jR ft H' jE gH/\fe ft H' μ'/\zf y u N c (ds.drop i) jE μ',⟨ds.length,rfl,a6 _,eZ,ρ,eF,.refl _ _,A.mono f1,M1,k1⟩,?_⟩
 rintro i m gH H' ⟨rfl,hi,ft,jE,μ',f',A',M',w'⟩
 by_cases uu:i<ds.length
 .rw[cq uu]at w'
  obtain⟨c',w'⟩:=w'
  obtain⟨go,Jh⟩:=(wk ft H' μ' f' M' c' i).1 ds[i] (sP uu)
  refine .inr ⟨go,fun nA H2=>∃ jD lg fG,Fr eZ H1 jD H2/\jR jD H2 lg nA/\fe jD H2 fG/\zf y u N c (ds.drop (i+1)) lg fG,fun nA H2 q=>⟨ds.length - (i+1),by lia,rfl,uu,q⟩,fun x H2 hy=>?_⟩
  obtain⟨f2,M2,i2⟩:=Jh x H2 hy
  refine hg.mo _ _ _ _ _ (fun FH H3 rl=>?_) (hg.so ft H2 jE gH μ' _ x _ (A'.mono f2) M2 i2 w')
  obtain⟨e3,_,_,zo,E3,k3⟩:=rl
  subst e3
  refine⟨ft,zo,μ',_,E3,M2,k3,?_⟩
  have nx:Mm ft H3 (fun jE μ'=>zf y u N c (ds.drop (i+1)) jE μ') fun nA H2=>∃ jD lg fG,Fr eZ H1 jD H2/\jR jD H2 lg nA/\fe jD H2 fG/\zf y u N c (ds.drop (i+1)) lg fG:=fun lg fG jD nA H2 w2 g2 A2 N2=>⟨jD,lg,fG,(f'.trans f2).trans g2,A2,N2,w2⟩
  have ff:=f1.trans (f'.trans f2)
  exact⟨nx,L.rt.mono ff,L.nx.mono ff,nx⟩
 .have e:i=ds.length:=by lia
  subst e
  rw[List.drop_length]at w'
  exact .inl ⟨(wk ft H' μ' f' M' w'.1 _).2 rfl,L.nx jE μ' ft gH H' w'.2 (f1.trans f') A' M'⟩
end
def oa (js:List (Option Nat))(ρ:DE):DE:=js.map fun o=>o.bind fun j=>(ρ[j]?).join
def jR.gi {φ:List ai}{H:Hp}{ρ:DE}{σ:St}(h:jR φ H ρ σ)(js:List (Option Nat)):jR φ H (oa js ρ) (gi js σ):=by
 refine⟨by unfold oa L2.gi;rw[fH,fH],fun i d e=>?_⟩
 unfold oa at e
 rw[vB]at e
 unfold L2.gi
 rw[vB]
 cases q:js[i]? with
 | none=>rw[q]at e;cases e
 | some o =>
  rw[q]at e
  cases o with
  | none=>cases e
  | some j =>
   have e':(ρ[j]?).join=some d:=aS e
   have e2:ρ[j]?=some (some d):=by
    cases z:ρ[j]? with
    | none=>rw[z]at e';cases e'
    | some y=>rw[z]at e';have:y=some d:=e';rw[this]
   obtain⟨v,hv,hd⟩:=h.2 j d e2
   refine⟨v,?_,hd⟩
   show some ((σ[j]?).join)=_
   rw[hv];rfl
def Qw (ρ:DE)(y:DG)(t:Dt)(w:De)(d:D)(μ:MS)(K:Option D->MS->Prop):Prop:=y d ρ μ fun lg fG=>t lg fG fun b lS=>if b=true then w lg lS (fun z FI=>K (some z) FI)else K none lS
def qH (it:D->MS->(Option D->MS->Prop)->Prop)(c:MS->Prop):List D->MS->(List D->MS->Prop)->Prop
 | [],μ,K=>c μ/\K [] μ
 | d::ds,μ,K=>c μ/\it d μ fun o eF=>qH it c ds eF fun ys fG=>K (o.toList++ys) fG
def qg (S:List Nat)(js:List (Option Nat)):Bool:=S.all fun i=>js[i]?==some none
def Lh {js:List (Option Nat)}{σ nA:St}{S:List Nat}(ho:qg S js=true)(hl:nA.length=(gi js σ).length)(hn:∀ i,i∉S->nA[i]?=(gi js σ)[i]?):Ext (gi js σ) nA:=by
 refine⟨hl.symm,fun i v e=>?_⟩
 by_cases hi:i∈S
 .have q:=List.all_eq_true.mp ho i hi
  have q':js[i]?=some none:=by simpa using q
  obtain⟨j,e1,_⟩:=ya e
  rw[q']at e1;cases e1
 .rw[hn i hi];exact e
def vF (m:Bool)(wi:DI)(js:List (Option Nat))(y:DG)(t:Dt)(w:De):De:=fun ρ μ K=>wi ρ μ fun ds c eF=>ds.length<=sizeLine/\qH (Qw (oa js ρ) y t w) c ds eF fun ys fG=>nL m ys fG K
def Ae {m:Bool}{wi:DI}{js:List (Option Nat)}{g:TG}{y:DG}{S:List Nat}{t:Dt}{w:De}(so:IW g y S)(mo:n5 g)(ho:qg S js=true){σ:St}{H:Hp}{Q:VK}(h:tD (vF m wi js y t w) σ H Q):FQ (Ul wi) js g (yT t) (tD w) σ H Q:=by
 obtain⟨φ,ρ,μ,K,A,M,k,L⟩:=h
 refine⟨φ,ρ,μ,_,A,M,k,fun ds c eF eZ J H1 k1 f1 M1 wk=>?_⟩
 obtain⟨hz,k1⟩:=k1
 refine⟨fun i n ys H'=>n=ds.length - i/\i<=ds.length/\ys.length<=i/\∃ ft zs μ',Fr eZ H1 ft H'/\eK ft H' zs ys/\fe ft H' μ'/\qH (Qw (oa js ρ) y t w) c (ds.drop i) μ' fun r fG=>nL m (zs++r) fG K,
  ⟨ds.length,rfl,a6 _,a6 _,eZ,[],eF,.refl _ _,rfl,M1,k1⟩,?_⟩
 rintro i n ys H' ⟨rfl,hi,hy,ft,zs,μ',f',Z',M',w'⟩
 by_cases uu:i<ds.length
 .rw[cq uu]at w'
  obtain⟨c',w'⟩:=w'
  obtain⟨go,Jh⟩:=(wk ft H' μ' f' M' c' i).1 ds[i] (sP uu)
  refine .inr ⟨go,fun x H2 X7=>?_⟩
  obtain⟨f2,M2,i2⟩:=Jh x H2 X7
  have E2:jR ft H2 (oa js ρ) (gi js σ):=((A.mono (f1.trans (f'.trans f2))).gi js)
  refine mo _ _ _ _ _ (fun FH H3 pF=>?_) (so ft H2 _ _ μ' _ x _ E2 M2 i2 w')
  obtain⟨e3,l3,n3,zo,E3,k3⟩:=pF
  refine⟨Lh ho l3 n3,?_⟩
  subst e3
  refine⟨ft,zo,μ',_,E3,M2,k3,fun b FI QD H4 k4 f4 M4=>?_⟩
  have ff:=f'.trans (f2.trans f4)
  cases b with
  | true =>
   refine⟨QD,zo,FI,_,E3.mono f4,M4,k4,fun d5 T5 Xe v5 H5 k5 f5 M5 i5=>⟨by lia,ds.length - (i+1),by lia,rfl,uu,by rw[j3,aN];lia,Xe,zs++[d5],T5,ff.trans f5,(Z'.mono (f2.trans (f4.trans f5))).app ⟨v5,[],rfl,i5,rfl⟩,M5,?_⟩⟩
   have e:(fun r fG=>nL m (zs++[d5]++r) fG K)=fun r fG=>nL m (zs++((some d5).toList++r)) fG K:=by funext r fG;rw[aQ];rfl
   rw[e]
   exact k5
  | false =>
   exact⟨ds.length - (i+1),by lia,rfl,uu,by lia,QD,zs,FI,ff,Z'.mono (f2.trans f4),M4,k4⟩
 .have e:i=ds.length:=by lia
  subst e
  rw[List.drop_length]at w'
  refine .inl ⟨(wk ft H' μ' f' M' w'.1 _).2 rfl,fun p hp=>?_⟩
  have q:nL m (zs++[]) μ' K:=w'.2
  rw[aV]at q
  exact Fm (L.mono (f1.trans f')) M' Z' q hp
section
variable {X:Cx}{a b e:Expr}{es:List Expr}{pos:Pos}
variable {N:List Str}{js:List (Option Nat)}{sc:Scope}{tg elt iter:Expr}{ifs:List Expr}{g:TG}{y:DG}{S:List Nat}{t:Dt}{w:De}
abbrev zj (X:Cx)(ifs:List Expr)(t:Dt):Prop:=Ja X ifs (yT t)
def Ja.imp {ifs:List Expr}{t t':TT}(h:Ja X ifs t)(hi:∀ σ H Q,t' σ H Q->t σ H Q):Ja X ifs t':=fun dA s σ H Q I q=>h dA s σ H Q I (hi σ H Q q)
def YS:Dt:=fun _ μ K=>K true μ
def kq:zj X [] YS:=Gi.imp fun σ H Q oN=>by obtain⟨φ,ρ,μ,K,A,M,k,L⟩:=oN;exact L true μ φ H k (.refl _ _) M
def uw {c:Expr}(h:Hk X c t):zj X [c] t:=Nu h
def SH (m:Bool){wi:DI}(hc:i8 X N js sc)(gg:X.gg=true)(so:IW g y S)(mo:n5 g)(ho:qg S js=true)(hi:Fs X tg iter wi)(hg:∀ fp s H,PG (l9 X N sc fp s H) tg g)(ht:∀ fp s H,zj (l9 X N sc fp s H) ifs t)(he:∀ fp s H,PD (l9 X N sc fp s H) elt w)
 (hs:∀ x,foldedSetIterable iter X.env x=pure x:=by intro _;rfl):PD X (.ListComp elt [⟨tg,iter,ifs,0⟩] sc pos) (vF m wi js y t w):=(Gn hc gg hi hg ht he hs).imp fun σ H Q q=>Ae so mo ho q
def HE (m:Bool){wi:DI}{pos' xl:Pos}{i:Nat}{x:Str}(hc:i8 X N js sc)(gg:X.gg=true)(so:IW g y S)(mo:n5 g)(ho:qg S js=true)(hN:X.N.Nodup)(CZ:X.N[i]?=some x)(hx:Loc X.env.scope x)(hi:Fs X tg iter wi)(hg:∀ fp s H,PG (l9 X N sc fp s H) tg g)
 (ht:∀ fp s H,zj (l9 X N sc fp s H) ifs t) (he:∀ fp s H,PD (l9 X N sc fp s H) elt w) (KR:swapsWith (.ListComp elt [⟨tg,iter,ifs,0⟩] sc pos) (some (.Name x pos')) xl.line X.env=pure true:=by rfl)
 (hs:∀ x,foldedSetIterable iter X.env x=pure x:=by intro _;rfl) (hf:X.fn x=true\/X.env.scope.names.lookup x=some .local:=by first | exact .inl rfl | exact .inr rfl | assumption) :
 wZ X (.Assign [.Name x pos'] (.ListComp elt [⟨tg,iter,ifs,0⟩] sc pos) xl) (IG i (vF m wi js y t w)):=(EA hc gg hN CZ hx hi hg ht he KR hs hf).imp fun E σ H ⟨φ,ρ,μ,N,A,M,w,L⟩ =>
 Ae so mo ho ⟨φ,ρ,μ,_,A,M,w,fun d eF eZ v1 H1 k1 f1 M1 i1=>L.nx _ eF eZ _ H1 k1 f1 ((A.mono f1).set i1 i) M1⟩
def Y8 (w:De):DI:=fun ρ μ K=>w ρ μ fun d eF=>opt (lv eF d) fun ds=>K ds (lc d ds) eF
def MT {Kf:aa}{p:ai}{φ:List ai}{H:Hp}{ds:List D}{c:MS->Prop}(h:∀ ft H' μ',Fr φ H ft H'->fe ft H' μ'->c μ'->∃ vs,H' p=some (.lst vs)/\eK ft H' ds vs):Wk (Zs Kf p) φ H ds c:=fun ft H' μ' f M c' i=>by
 obtain⟨vs,hp,ha⟩:=h ft H' μ' f M c'
 refine⟨fun d hd=>?_,fun hi=>⟨vs,pK.of hp,by rw[ha.len,hi];exact aj _⟩⟩
 obtain⟨v,hv,hi⟩:=ha.get hd
 refine⟨⟨vs,v,pK.of hp,hv⟩,fun x Mn hy=>?_⟩
 obtain⟨rfl,hy⟩:=hy
 have e:=hy vs (pK.of hp)
 rw[hv]at e;cases e
 exact⟨.refl _ _,M,hi⟩
def AY {w:De}(h:PD X a w):Fs X tg a (Y8 w):=(NF h).imp fun σ H Q hq=>by
 obtain⟨φ,ρ,μ,K,A,M,k,L⟩:=hq
 refine⟨φ,ρ,μ,_,A,M,k,fun d eF eZ v1 H1 k1 f1 M1 i1=>?_⟩
 obtain⟨ds,el,k1⟩:=gL k1
 obtain⟨p,vs,rfl,hp,ha⟩:=qk M1 i1 el
 exact⟨p,rfl,⟨vs,pK.of hp⟩,L ds _ eF eZ _ H1 k1 f1 M1 (MT fun ft H' μ' f M c=>N6 M1 i1 el f M c)⟩
def lU (lo:Int)(n:Nat):List D:=(List.range n).map fun i=>D.int (lo+(i:Nat))
def BU {lo:Int}{n:Nat}{φ:List ai}{H:Hp}:Wk (Wr lo n) φ H (lU lo n) fun _=>True:=fun ft H' μ' f M _ i=>by
 have hl:(lU lo n).length=n:=by unfold lU;rw[fH,MJ]
 refine⟨fun d hd=>?_,fun hi=>by rw[hl]at hi;exact Nat.le_of_eq hi.symm⟩
 have hi:i<n:=by have:=(l8 hd).1;lia
 refine⟨hi,fun x Mn hy=>?_⟩
 obtain⟨rfl,rfl⟩:=hy
 refine⟨.refl _ _,M,?_⟩
 unfold lU at hd
 rw[vB,c7 hi]at hd
 cases hd
 rfl
def V0 (w:DA):DI:=fun ρ μ K=>w ρ μ fun ds eF=>match ds with
 | [.int j] => -(2 ^ 62)<=j/\j<2 ^ 62/\K (lU 0 j.toNat) (fun _=>True) eF
 | _=>False
def VZ (w:DA):DI:=fun ρ μ K=>w ρ μ fun ds eF=>match ds with
 | [.int i,.int j]=>(-(2 ^ 62)<=i/\i<2 ^ 62 /\ -(2 ^ 62)<=j/\j<2 ^ 62)/\K (lU i (j - i).toNat) (fun _=>True) eF
 | _=>False
def jN {w:DA}{p:Pos}(hg:Gl X "range")(hm:X.mg "range"=none)(ha:vR X [a] w)(hs:starEach [a] X.env=[(false,eval a X.env)]:=by rfl):Fs X tg (.Call (.Name "range" p) [a] [] pos) (V0 w):=(HK hg hm ha hs).imp fun σ H Q hq=>by
 obtain⟨φ,ρ,μ,K,A,M,k,L⟩:=hq
 refine⟨φ,ρ,μ,_,A,M,k,fun ds eF eZ vs H1 k1 f1 M1 i1=>?_⟩
 split at k1
 .obtain⟨v,r,rfl,h1,h2⟩:=i1
  cases(show v=_ from h1);cases(show r=[]from h2)
  exact⟨_,rfl,k1.1,k1.2.1,L _ _ eF eZ _ H1 k1.2.2 f1 M1 BU⟩
 .exact k1.elim
def CW {w:DA}{p:Pos}(hg:Gl X "range")(hm:X.mg "range"=none)(ha:vR X [a,b] w)(hs:starEach [a,b] X.env=[(false,eval a X.env),(false,eval b X.env)]:=by rfl)(Dc:starEach [b] X.env=[(false,eval b X.env)]:=by rfl):Fs X tg (.Call (.Name "range" p) [a,b] [] pos) (VZ w):=(HJ hg hm ha hs Dc).imp fun σ H Q hq=>by
 obtain⟨φ,ρ,μ,K,A,M,k,L⟩:=hq
 refine⟨φ,ρ,μ,_,A,M,k,fun ds eF eZ vs H1 k1 f1 M1 i1=>?_⟩
 split at k1
 .obtain⟨v,r,rfl,h1,u,r',rfl,h2,h3⟩:=i1
  cases(show v=_ from h1);cases(show u=_ from h2);cases(show r'=[]from h3)
  exact⟨_,_,rfl,k1.1,L _ _ eF eZ _ H1 k1.2 f1 M1 BU⟩
 .exact k1.elim
def Y7 (w:De):DI:=fun ρ μ K=>w ρ μ fun d eF=>match d with
 | .str z=>K (z.cps.toList.map fun c=>D.str ⟨#[c]⟩) (fun _=>True) eF
 | _=>False
def KO {w:De}(h:PD X a w):Fs X tg a (Y7 w):=(Rj h).imp fun σ H Q hq=>by
 obtain⟨φ,ρ,μ,K,A,M,k,L⟩:=hq
 refine⟨φ,ρ,μ,_,A,M,k,fun d eF eZ v1 H1 k1 f1 M1 i1=>?_⟩
 split at k1
 .rename_i z
  cases(show v1=_ from i1)
  refine⟨z,rfl,L _ _ eF eZ _ H1 k1 f1 M1 fun ft H' μ' f M _ i=>⟨fun d hd=>?_,fun hi=>by rw[fH]at hi;exact hi⟩⟩
  have hi:i<z.cps.toList.length:=by have:=(l8 hd).1;rwa [fH]at this
  refine⟨hi,fun x Mn hy=>?_⟩
  obtain⟨rfl,c,hc,rfl⟩:=hy
  rw[vB,hc]at hd
  cases hd
  exact⟨.refl _ _,M,rfl⟩
 .exact k1.elim
end
mutual
def yP (n:Nat):D->Prop
 | .lst ds=>rk n ds
 | .tup ds=>rk n ds
 | .jr _ ds=>rk n ds
 | .mr k=>k<n
 | .obj _ _ ds=>rk n ds
 | .mE _ ds=>rk n ds
 | _=>True
def rk (n:Nat):List D->Prop
 | []=>True
 | d::ds=>yP n d/\rk n ds
end
def Eh (n:Nat):MO->Prop
 | .box=>True
 | .lst ds=>rk n ds
 | .jr _ ds=>rk n ds
 | .oR _ _ ds=>rk n ds
 | .ins _ _ ds=>rk n ds
 | .Qq _ ds=>rk n ds
 | .gx fh _=>fh.length<=n
 | .exc _=>True
def Fr.Pl {fh φ:List ai}{H0 H:Hp}{n:Nat}(f:Fr fh H0 φ H)(h:fh.length<=n):Fr fh H0 (φ.take n) H:=by
 obtain⟨⟨ψ,rfl,Ik⟩,k,d⟩:=f
 exact⟨⟨ψ.take (n - fh.length),by rw[List.take_append,bf h],fun c hc=>Ik c (aX hc)⟩,k,d⟩
def Fr.XZ {fh φ:List ai}{H0 H:Hp}{j:Nat}{p:ai}(f:Fr fh H0 φ H)(h:fh.length<=j)(hp:φ[j]?=some p):H0 p=none:=by
 obtain⟨⟨ψ,rfl,Ik⟩,k,d⟩:=f
 rw[oP h]at hp
 exact Ik p (A1 hp)
def Fr.Uc {fh φ:List ai}{H0 H:Hp}{n:Nat}{p:ai}(f:Fr fh H0 φ H)(h:fh.length<=n)(hp:H0 p=none):Fr fh H0 (φ.take n++[p]) H:=by
 obtain⟨⟨ψ,e,Ik⟩,k,d⟩:=f.Pl h
 exact⟨⟨ψ++[p],by rw[e,aQ],fun c hc=>by rcases List.mem_append.mp hc with z | z;exact Ik c z;rw[List.mem_singleton.mp z];exact hp⟩,k,d⟩
mutual
def jC.jO {n:Nat}{φ:List ai}{H:Hp}:∀ {d:D} {v:V},yP n d->jC φ H d v->jC (φ.take n) H d v
 | .gy,_,_,h=>h
 | .bl _,_,_,h=>h
 | .int _,_,_,h=>h
 | .str _,_,_,h=>h
 | .lst _,_,m,h=>by obtain⟨p,vs,e,nn,hp,q⟩:=h;exact⟨p,vs,e,fun z=>nn (aX z),hp,eK.jO m q⟩
 | .tup _,_,m,h=>by obtain⟨p,vs,e,nn,hp,q⟩:=h;exact⟨p,vs,e,fun z=>nn (aX z),hp,eK.jO m q⟩
 | .jr _ _,_,m,h=>by obtain⟨p,kvs,vs,e,nn,hp,q1,q2,q⟩:=h;exact⟨p,kvs,vs,e,fun z=>nn (aX z),hp,q1,q2,eK.jO m q⟩
 | .mr k,_,m,h=>by obtain⟨p,e,q⟩:=h;exact⟨p,by rw[aZ m];exact e,q⟩
 | .obj _ _ _,_,m,h=>by obtain⟨p,dx,fs,vs,e,nn,hp,q1,q2,q⟩:=h;exact⟨p,dx,fs,vs,e,fun z=>nn (aX z),hp,q1,q2,eK.jO m q⟩
 | .mE _ _,_,m,h=>by obtain⟨p,dx,fs,vs,e,nn,hp,q1,q2,q⟩:=h;exact⟨p,dx,fs,vs,e,fun z=>nn (aX z),hp,q1,q2,eK.jO m q⟩
 | .fn _,_,_,h=>h
def eK.jO {n:Nat}{φ:List ai}{H:Hp}:∀ {ds:List D} {vs:List V},rk n ds->eK φ H ds vs->eK (φ.take n) H ds vs
 | [],_,_,h=>h
 | _::_,_,m,h=>by obtain⟨v,r,e,h1,h2⟩:=h;exact⟨v,r,e,jC.jO m.1 h1,eK.jO m.2 h2⟩
end
def fe.jO {n:Nat}{φ:List ai}{H:Hp}{μ:MS}(h:fe φ H μ)(hm:∀(k:Nat) (m:MO),k<n->μ[k]?=some m->Eh n m):fe (φ.take n) H (μ.take n):=by
 refine⟨h.nd.sublist (List.take_sublist _ _),by rw[aM,aM,h.len],fun k m e=>?_⟩
 have hk:k<n:=by have:=(l8 e).1;rw[aM]at this;lia
 rw[aZ hk]at e
 obtain⟨p,e1,e2⟩:=h.at_ k m e
 refine⟨p,by rw[aZ hk];exact e1,?_⟩
 have hb:=hm k m hk e
 cases m with
 | box=>obtain⟨q,ns,i,r,z,h1,h2,h3,h4⟩:=e2;exact⟨q,ns,i,r,z,h1,h2,fun z=>h3 (aX z),h4⟩
 | lst ds=>obtain⟨vs,h1,h2⟩:=e2;exact⟨vs,h1,h2.jO hb⟩
 | jr ks ds=>obtain⟨kvs,vs,h1,h2,h3,h4⟩:=e2;exact⟨kvs,vs,h1,h2,h3,h4.jO hb⟩
 | oR o kvs ds=>exact⟨e2.1,e2.2.jO hb⟩
 | ins C ns ds=>obtain⟨dx,fs,h1,h2,h3⟩:=e2;exact⟨dx,fs,h1,h2,h3.jO hb⟩
 | Qq ks ds=>obtain⟨kvs,h1,h2,h3⟩:=e2;exact⟨kvs,h1,h2,h3.jO hb⟩
 | gx fh H0=>exact⟨e2.1.Pl hb,e2.2⟩
 | exc c=>exact e2
mutual
def jC.bound {φ:List ai}{H:Hp}:∀ {d:D} {v:V},jC φ H d v->yP φ.length d
 | .gy,_,_=>True.intro
 | .bl _,_,_=>True.intro
 | .int _,_,_=>True.intro
 | .str _,_,_=>True.intro
 | .lst _,_,h=>by obtain⟨p,vs,e,nn,hp,q⟩:=h;exact eK.bound q
 | .tup _,_,h=>by obtain⟨p,vs,e,nn,hp,q⟩:=h;exact eK.bound q
 | .jr _ _,_,h=>by obtain⟨p,kvs,vs,e,nn,hp,q1,q2,q⟩:=h;exact eK.bound q
 | .mr k,_,h=>by obtain⟨p,e,q⟩:=h;exact(l8 e).1
 | .obj _ _ _,_,h=>by obtain⟨p,dx,fs,vs,e,nn,hp,q1,q2,q⟩:=h;exact eK.bound q
 | .mE _ _,_,h=>by obtain⟨p,dx,fs,vs,e,nn,hp,q1,q2,q⟩:=h;exact eK.bound q
 | .fn _,_,_=>True.intro
def eK.bound {φ:List ai}{H:Hp}:∀ {ds:List D} {vs:List V},eK φ H ds vs->rk φ.length ds
 | [],_,_=>True.intro
 | _::_,_,h=>by obtain⟨v,r,e,h1,h2⟩:=h;exact⟨jC.bound h1,eK.bound h2⟩
end
def fe.bound {φ:List ai}{H:Hp}{μ:MS}(h:fe φ H μ):∀(k:Nat) (m:MO),μ[k]?=some m->Eh μ.length m:=fun k m e=>by
 obtain⟨p,e1,e2⟩:=h.at_ k m e
 rw[<- h.len]
 cases m with
 | box=>exact True.intro
 | lst ds=>obtain⟨vs,h1,h2⟩:=e2;exact h2.bound
 | jr ks ds=>obtain⟨kvs,vs,h1,h2,h3,h4⟩:=e2;exact h4.bound
 | oR o kvs ds=>exact e2.2.bound
 | ins C ns ds=>obtain⟨dx,fs,h1,h2,h3⟩:=e2;exact h3.bound
 | Qq ks ds=>obtain⟨kvs,h1,h2,h3⟩:=e2;exact h3.bound
 | gx fh H0=>obtain⟨⟨ψ,e,_⟩,_⟩:=e2.1;show fh.length<=φ.length;rw[e,j3];lia
 | exc c=>exact True.intro
def kR {n:Nat}{ft:List ai}{p q:ai}(hp:p∈ft)(h:q∉ft):q∉ft.take n++[p]:=fun z=>by
 rcases List.mem_append.mp z with z | z
 .exact h (aX z)
 .exact h (by rw[List.mem_singleton.mp z];exact hp)
mutual
def jC.Zm {n:Nat}{ft:List ai}{H:Hp}{p:ai}(hp:p∈ft):∀ {d:D} {v:V},yP n d->jC ft H d v->jC (ft.take n++[p]) H d v
 | .gy,_,_,h=>h
 | .bl _,_,_,h=>h
 | .int _,_,_,h=>h
 | .str _,_,_,h=>h
 | .lst _,_,m,h=>by obtain⟨q,vs,e,nn,hq,z⟩:=h;exact⟨q,vs,e,kR hp nn,hq,eK.pC hp m z⟩
 | .tup _,_,m,h=>by obtain⟨q,vs,e,nn,hq,z⟩:=h;exact⟨q,vs,e,kR hp nn,hq,eK.pC hp m z⟩
 | .jr _ _,_,m,h=>by obtain⟨q,kvs,vs,e,nn,hq,q1,q2,z⟩:=h;exact⟨q,kvs,vs,e,kR hp nn,hq,q1,q2,eK.pC hp m z⟩
 | .mr k,_,m,h=>by
  obtain⟨q,e,z⟩:=h
  have hk:k<(ft.take n).length:=by rw[aM];have:=(l8 e).1;have m':k<n:=m;lia
  exact⟨q,by rw[uv hk,aZ m];exact e,z⟩
 | .obj _ _ _,_,m,h=>by obtain⟨q,dx,fs,vs,e,nn,hq,q1,q2,z⟩:=h;exact⟨q,dx,fs,vs,e,kR hp nn,hq,q1,q2,eK.pC hp m z⟩
 | .mE _ _,_,m,h=>by obtain⟨q,dx,fs,vs,e,nn,hq,q1,q2,z⟩:=h;exact⟨q,dx,fs,vs,e,kR hp nn,hq,q1,q2,eK.pC hp m z⟩
 | .fn _,_,_,h=>h
def eK.pC {n:Nat}{ft:List ai}{H:Hp}{p:ai}(hp:p∈ft):∀ {ds:List D} {vs:List V},rk n ds->eK ft H ds vs->eK (ft.take n++[p]) H ds vs
 | [],_,_,h=>h
 | _::_,_,m,h=>by obtain⟨v,r,e,h1,h2⟩:=h;exact⟨v,r,e,jC.Zm hp m.1 h1,eK.pC hp m.2 h2⟩
end
def wt (R:D->D->Prop)(ds es:List D):Prop:=ds.length=es.length/\∀(i:Nat) (a b:D),ds[i]?=some a->es[i]?=some b->R a b
def D4 (n:Nat)(μ:MS):Nat->D->D->Prop
 | 0,d,d'=>d'=d/\yP n d
 | k+1,d,d'=>(d'=d/\yP n d)\/(∃ j ds es,d=.mr j/\n<=j/\μ[j]?=some (.lst ds)/\d'=.lst es/\wt (D4 n μ k) ds es)\/(∃ ds es,d=.lst ds/\d'=.lst es/\wt (D4 n μ k) ds es)\/(∃ ds es,d=.tup ds/\d'=.tup es/\wt (D4 n μ k) ds es)\/(∃ j ks ds es,d=.mr j/\n<=j/\μ[j]?=some (.jr ks ds)/\d'=.jr ks es/\wt (D4 n μ k) ds es)
def eK.xR {φ:List ai}{H:Hp}:∀ {ds:List D} {vs:List V},ds.length=vs.length->(∀(i:Nat) (d:D) (v:V),ds[i]?=some d->vs[i]?=some v->jC φ H d v)->eK φ H ds vs
 | [],vs,hl,_=>by cases vs with
  | nil=>rfl
  | cons v r=>simp at hl
 | d::ds,vs,hl,h=>by cases vs with
  | nil=>simp at hl
  | cons v r=>exact⟨v,r,rfl,h 0 d v rfl rfl,eK.xR (by simpa using hl) fun i a b e1 e2=>h (i+1) a b (by simpa using e1) (by simpa using e2)⟩
def D4.is {n:Nat}{φ:List ai}{H:Hp}{μ:MS}(M:fe φ H μ)(Eg:∀ {j:Nat} {p:ai},n<=j->φ[j]?=some p->p∉φ.take n):∀ {k:Nat} {d d':D} {v:V},D4 n μ k d d'->jC φ H d v->jC (φ.take n) H d' v:=by
 intro k
 induction k with
 | zero=>intro d d' v h i;obtain⟨rfl,hb⟩:=h;exact i.jO hb
 | succ k ih =>
  have all:∀ {ds es:List D} {vs:List V},wt (D4 n μ k) ds es->eK φ H ds vs->eK (φ.take n) H es vs:=fun {ds es vs} ha hd =>
   eK.xR (by rw[hd.len,ha.1]) fun i b v e1 e2=>by
    obtain⟨a,e3,hv⟩:=hd.Vt e2
    exact ih (ha.2 i a b e3 e1) hv
  intro d d' v h i
  rcases h with⟨rfl,hb⟩ | ⟨j,ds,es,rfl,hj,e,rfl,ha⟩ | ⟨ds,es,rfl,rfl,ha⟩ | ⟨ds,es,rfl,rfl,ha⟩ | ⟨j,ks,ds,es,rfl,hj,e,rfl,ha⟩
  .exact i.jO hb
  .obtain⟨p,hp,rfl⟩:=i
   obtain⟨p',e1,vs,hv,hd⟩:=M.at_ j _ e
   rw[hp]at e1;cases e1
   exact⟨p,vs,rfl,Eg hj hp,hv,all ha hd⟩
  .obtain⟨p,vs,rfl,hn,hp,hd⟩:=i
   exact⟨p,vs,rfl,fun z=>hn (aX z),hp,all ha hd⟩
  .obtain⟨p,vs,rfl,hn,hp,hd⟩:=i
   exact⟨p,vs,rfl,fun z=>hn (aX z),hp,all ha hd⟩
  .obtain⟨p,hp,rfl⟩:=i
   obtain⟨p',e1,kvs,vs,hv,h1,h2,hd⟩:=M.at_ j _ e
   rw[hp]at e1;cases e1
   exact⟨p,kvs,vs,rfl,Eg hj hp,hv,h1,h2,all ha hd⟩
def yN (n:Nat)(μ:MS):Nat->D->D->Prop
 | 0,d,d'=>d'=d/\yP n d
 | k+1,d,d'=>(d'=d/\yP n d)\/(∃ j ds es,d=.mr j/\n<=j/\μ[j]?=some (.lst ds)/\d'=.lst es/\wt (yN n μ k) ds es)\/(∃ ds es,d=.lst ds/\d'=.lst es/\wt (yN n μ k) ds es)\/(∃ ds es,d=.tup ds/\d'=.tup es/\wt (yN n μ k) ds es)\/(∃ j o kvs ds es,d=.mr j/\n<=j/\μ[j]?=some (.oR o kvs ds)/\d'=.mE (kvs.map (·.1)) es/\wt (yN n μ k) ds es)\/(∃ j C ns ds es,d=.mr j/\n<=j/\μ[j]?=some (.ins C ns ds)/\d'=.obj C ns es/\wt (yN n μ k) ds es)
def yN.is {n:Nat}{φ:List ai}{H:Hp}{μ:MS}(M:fe φ H μ)(Eg:∀ {j:Nat} {p:ai},n<=j->φ[j]?=some p->p∉φ.take n):∀ {k:Nat} {d d':D} {v:V},yN n μ k d d'->jC φ H d v->jC (φ.take n) H d' v:=by
 intro k
 induction k with
 | zero=>intro d d' v h i;obtain⟨rfl,hb⟩:=h;exact i.jO hb
 | succ k ih =>
  have all:∀ {ds es:List D} {vs:List V},wt (yN n μ k) ds es->eK φ H ds vs->eK (φ.take n) H es vs:=fun {ds es vs} ha hd =>
   eK.xR (by rw[hd.len,ha.1]) fun i b v e1 e2=>by
    obtain⟨a,e3,hv⟩:=hd.Vt e2
    exact ih (ha.2 i a b e3 e1) hv
  intro d d' v h i
  rcases h with⟨rfl,hb⟩ | ⟨j,ds,es,rfl,hj,e,rfl,ha⟩ | ⟨ds,es,rfl,rfl,ha⟩ | ⟨ds,es,rfl,rfl,ha⟩ | ⟨j,o,kvs,ds,es,rfl,hj,e,rfl,ha⟩ | ⟨j,C,ns,ds,es,rfl,hj,e,rfl,ha⟩
  .exact i.jO hb
  .obtain⟨p,hp,rfl⟩:=i
   obtain⟨p',e1,vs,hv,hd⟩:=M.at_ j _ e
   rw[hp]at e1;cases e1
   exact⟨p,vs,rfl,Eg hj hp,hv,all ha hd⟩
  .obtain⟨p,vs,rfl,hn,hp,hd⟩:=i
   exact⟨p,vs,rfl,fun z=>hn (aX z),hp,all ha hd⟩
  .obtain⟨p,vs,rfl,hn,hp,hd⟩:=i
   exact⟨p,vs,rfl,fun z=>hn (aX z),hp,all ha hd⟩
  .obtain⟨p,hp,rfl⟩:=i
   obtain⟨p',e1,hv,hd⟩:=M.at_ j _ e
   rw[hp]at e1;cases e1
   exact⟨p,o,kvs,_,rfl,Eg hj hp,hv,rfl,rfl,all ha hd⟩
  .obtain⟨p,hp,rfl⟩:=i
   obtain⟨p',e1,dx,fs,hv,h1,hd⟩:=M.at_ j _ e
   rw[hp]at e1;cases e1
   exact⟨p,dx,fs,_,rfl,Eg hj hp,hv,h1,rfl,all ha hd⟩
inductive Fz (n:Nat)(K:DK):DK where
 | keep {d μ} (k:K d μ):Fz n K d μ
 | drop {d μ} (hd:yP n d) (hm:∀(j:Nat) (m:MO),j<n->μ[j]?=some m->Eh n m) (k:K d (μ.take n)):Fz n K d μ
 | lst {j ds μ} (hj:n<=j) (e:μ[j]?=some (.lst ds)) (hd:rk n ds) (hm:∀(j:Nat) (m:MO),j<n->μ[j]?=some m->Eh n m) (k:K (.lst ds) (μ.take n)):Fz n K (.mr j) μ
 | one {j ds μ} (hj:n<=j) (e:μ[j]?=some (.lst ds)) (hd:rk n ds) (hm:∀(j:Nat) (m:MO),j<n->μ[j]?=some m->Eh n m) (k:K (.mr n) (μ.take n++[.lst ds])):Fz n K (.mr j) μ
 | deep {f d d' μ} (e:D4 n μ f d d') (hm:∀(j:Nat) (m:MO),j<n->μ[j]?=some m->Eh n m) (k:K d' (μ.take n)):Fz n K d μ
 | jr {j ks ds μ} (hj:n<=j) (e:μ[j]?=some (.jr ks ds)) (hd:rk n ds) (hm:∀(j:Nat) (m:MO),j<n->μ[j]?=some m->Eh n m) (k:K (.jr ks ds) (μ.take n)):Fz n K (.mr j) μ
 | obj {j C ns ds μ} (hj:n<=j) (e:μ[j]?=some (.ins C ns ds)) (hd:rk n ds) (hm:∀(j:Nat) (m:MO),j<n->μ[j]?=some m->Eh n m) (k:K (.obj C ns ds) (μ.take n)):Fz n K (.mr j) μ
 | mE {j o kvs ds μ} (hj:n<=j) (e:μ[j]?=some (.oR o kvs ds)) (hd:rk n ds) (hm:∀(j:Nat) (m:MO),j<n->μ[j]?=some m->Eh n m) (k:K (.mE (kvs.map (·.1)) ds) (μ.take n)):Fz n K (.mr j) μ
 | Qs {f d d' μ} (e:yN n μ f d d') (hm:∀(j:Nat) (m:MO),j<n->μ[j]?=some m->Eh n m) (k:K d' (μ.take n)):Fz n K d μ
def u0.fz {φ:List ai}{H:Hp}{μ:MS}{K:DK}{Q:VK}(M:fe φ H μ)(L:u0 φ H K Q):u0 φ H (Fz μ.length K) Q:=fun d μ' ft v H' k f M' i=>by
 have GN:ft.take μ.length=φ:=by
  obtain⟨⟨ψ,rfl,_⟩,_,_⟩:=f
  rw[<- M.len,aW]
 have f0:Fr φ H (ft.take μ.length) H':=by
  rw[GN]
  exact⟨⟨[],by simp,fun _ h=>nomatch h⟩,f.keep,f.YN⟩
 have Eg:∀ {j:Nat} {p:ai},μ.length<=j->ft[j]?=some p->p∉ft.take μ.length:=fun {j p} hj e hp=>by
  obtain⟨i,hi,ei⟩:=cE hp
  rw[aM]at hi
  rw[List.getElem_take]at ei
  obtain⟨hj',ej⟩:=l8 e
  exact List.pairwise_iff_getElem.mp M'.nd i j (by lia) hj' (by lia) (ei.trans ej.symm)
 cases k with
 | keep k=>exact L d μ' ft v H' k f M' i
 | drop hd hm k=>exact L d _ _ v H' k f0 (M'.jO hm) (i.jO hd)
 | @lst j ds _ hj e hd hm k =>
  obtain⟨p,hp,rfl⟩:=i
  obtain⟨p',e1,vs,hv,ha⟩:=M'.at_ j _ e
  rw[hp]at e1;cases e1
  exact L _ _ _ _ H' k f0 (M'.jO hm) ⟨p,vs,rfl,Eg hj hp,hv,ha.jO hd⟩
 | @one j ds _ hj e hd hm k =>
  obtain⟨p,hp,rfl⟩:=i
  obtain⟨p',e1,vs,hv,ha⟩:=M'.at_ j _ e
  rw[hp]at e1;cases e1
  have M0:=M'.jO hm
  have hpn:p∉φ:=by have:=Eg hj hp;rwa [GN]at this
  have hH:H p=none:=by
   obtain⟨⟨ψ,rfl,Ik⟩,_,_⟩:=f
   refine Ik p ?_
   have q:=A1 hp
   rcases List.mem_append.mp q with q | q
   .exact absurd q hpn
   .exact q
  have M1:fe (ft.take μ.length) H' (μ'.take μ.length):=M0
  rw[GN]at M1
  have f1:Fr φ H (φ++[p]) H':=⟨⟨[p],rfl,fun c hc=>by rw[List.mem_singleton.mp hc];exact hH⟩,f.keep,f.YN⟩
  have len:(μ'.take μ.length).length=μ.length:=by rw[<- M1.len,M.len]
  have pin:p∈ft:=A1 hp
  have Yx:eK (φ++[p]) H' ds vs:=by
   have q:=eK.pC pin hd ha
   rwa [GN]at q
  have M2:fe (φ++[p]) H' (μ'.take μ.length++[.lst ds]):=by
   refine⟨?_,by rw[j3,j3,M1.len];rfl,fun k m ek=>?_⟩
   .rw[bL]
    exact⟨M.nd,by simp,fun a ha b hb=>by rw[List.mem_singleton.mp hb];intro z;exact hpn (by rw[<- z];exact ha)⟩
   .by_cases hk:k<μ.length
    .rw[uv (by rw[len];exact hk)]at ek
     rw[aZ hk]at ek
     obtain⟨q,e1,e2⟩:=M'.at_ k m ek
     have e1':φ[k]?=some q:=by rw[<- GN,aZ hk];exact e1
     refine⟨q,by rw[uv (by rw[M.len];exact hk)];exact e1',?_⟩
     have hb:=hm k m hk ek
     cases m with
     | box =>
      obtain⟨b,ns,i,r,z,h1,h2,h3,h4⟩:=e2
      exact⟨b,ns,i,r,z,h1,h2,by have:=kR (n:=μ.length) pin h3;rwa [GN]at this,h4⟩
     | lst es=>obtain⟨us,h1,h2⟩:=e2;exact⟨us,h1,by have:=eK.pC pin hb h2;rwa [GN]at this⟩
     | jr ks es=>obtain⟨kvs,us,h1,h2,h3,h4⟩:=e2;exact⟨kvs,us,h1,h2,h3,by have:=eK.pC pin hb h4;rwa [GN]at this⟩
     | oR o kvs es=>exact⟨e2.1,by have:=eK.pC pin hb e2.2;rwa [GN]at this⟩
     | ins C ns es=>obtain⟨dx,fs,h1,h2,h3⟩:=e2;exact⟨dx,fs,h1,h2,by have:=eK.pC pin hb h3;rwa [GN]at this⟩
     | Qq ks es=>obtain⟨kvs,h1,h2,h3⟩:=e2;exact⟨kvs,h1,h2,by have:=eK.pC pin hb h3;rwa [GN]at this⟩
     | gx fh H0=>exact⟨by have:=e2.1.Uc (n:=μ.length) hb (p:=p) (e2.1.XZ (aE hb hj) hp);rwa [GN]at this,e2.2⟩
     | exc c=>exact e2
    .have Ol:k=μ.length:=by
      have:=(l8 ek).1
      rw[j3,aN,len]at this
      lia
     subst Ol
     rw[oP (by rw[len];exact aj _),len,aR]at ek
     cases ek
     exact⟨p,by rw[oP (by rw[M.len];exact aj _),M.len,aR];rfl,vs,hv,Yx⟩
  exact L _ _ _ _ H' k f1 M2 ⟨p,by rw[oP (by rw[M.len];exact aj _),M.len,aR];rfl,rfl⟩
 | @deep f' d d' _ e hm k=>exact L _ _ _ _ H' k f0 (M'.jO hm) (e.is M' Eg i)
 | @jr j ks ds _ hj e hd hm k =>
  obtain⟨p,hp,rfl⟩:=i
  obtain⟨p',e1,kvs,vs,hv,h1,h2,ha⟩:=M'.at_ j _ e
  rw[hp]at e1;cases e1
  exact L _ _ _ _ H' k f0 (M'.jO hm) ⟨p,kvs,vs,rfl,Eg hj hp,hv,h1,h2,ha.jO hd⟩
 | @obj j C ns ds _ hj e hd hm k =>
  obtain⟨p,hp,rfl⟩:=i
  obtain⟨p',e1,dx,fs,h1,h2,h3⟩:=M'.at_ j _ e
  rw[hp]at e1;cases e1
  exact L _ _ _ _ H' k f0 (M'.jO hm) ⟨p,dx,fs,_,rfl,Eg hj hp,h1,h2,rfl,h3.jO hd⟩
 | @mE j o kvs ds _ hj e hd hm k =>
  obtain⟨p,hp,rfl⟩:=i
  obtain⟨p',e1,h1,h3⟩:=M'.at_ j _ e
  rw[hp]at e1;cases e1
  exact L _ _ _ _ H' k f0 (M'.jO hm) ⟨p,o,kvs,_,rfl,Eg hj hp,h1,rfl,rfl,h3.jO hd⟩
 | @Qs f' d d' _ e hm k=>exact L _ _ _ _ H' k f0 (M'.jO hm) (e.is M' Eg i)
def Et (n:Nat)(K:DK):DN:={ nx:=fun _ μ'=>Fz n K .gy μ',rt:=fun d μ'=>Fz n K d μ'}
def p5 (N:List Str)(ds:List D):DE:=ds.map some++List.replicate (N.length - ds.length) none
def jR.start {φ:List ai}{H:Hp}{N:List Str}{ds:List D}{vs:List V}(h:eK φ H ds vs):jR φ H (p5 N ds) (start N vs):=by
 have hl:=h.len
 unfold p5 L2.start
 refine⟨by simp[hl],fun i d e=>?_⟩
 by_cases hi:i<ds.length
 .rw[uv (by rw[fH];exact hi),vB]at e
  have e':ds[i]?=some d:=by
   cases q:ds[i]? with
   | none=>rw[q]at e;cases e
   | some z=>rw[q]at e;cases e;rfl
  obtain⟨v,hv,hd⟩:=h.get e'
  exact⟨v,by rw[uv (by rw[fH];lia),vB,hv];rfl,hd⟩
 .rw[oP (by rw[fH];lia)]at e
  have:=A1 e
  have:=List.eq_of_mem_replicate this
  cases this
section
variable {P:ae}{w:af}{K:aa}{mg:Str->Option Value}{dD:Heap}
def ic.oG {x qual:Str}{st:Stmt}{f:ai}{fd:ag}{N ps:List Str}{k:Nat}{fs:jJ}(F:ic K x qual st f fd)(S:d8 N ps (dR st))(len:∀ ds μ Kd,fs ds μ Kd->ds.length=ps.length)
 (qv:∀(gr:Value) (A:Around) (dW:List Env) (s:ah) (H:Hp) (E:XK),iz k (A.deeper (envOfC qual (dR st) s.heap.objs.size f gr)) ->
   ∃ W,Ft (pI kJ P w K mg dD N qual (dR st) f gr A dW s H E).UT (hX st) W/\∀ ds μ Kd,(∀(j:Nat) (m:MO),μ[j]?=some m->Eh μ.length m)->rk μ.length ds->fs ds μ Kd->W (Et μ.length Kd) (p5 N ds) μ):eV P w K mg dD kJ (k+1) f fd ps (hV fs):=by
 refine F.ok S (fun vs H Q E h=>?_) (fun gr A dW s H vs Q E hr h=>?_)
 .obtain⟨φ,ds,μ,Kd,ha,M,hf,L⟩:=h
  rw[ha.len];exact len ds μ Kd hf
 .obtain⟨φ,ds,μ,Kd,ha,M,hf,L⟩:=h
  obtain⟨W,hW,q⟩:=qv gr A dW s H E hr
  refine⟨_,hW,φ,p5 N ds,μ,Et μ.length Kd,.start ha,M,q ds μ Kd M.bound (by rw[<- M.len];exact ha.bound) hf,⟨fun jE μ' ft gH H' k' f' A' M'=>?_,L.fz M,fun _ _ _ _ _ k' _ _ _=>k'.elim,fun _ _ _ _ _ k' _ _ _=>k'.elim⟩⟩
  exact L.fz M .gy μ' ft .gy H' k' f' M' rfl
end
def u0.val {φ:List ai}{H:Hp}{μ:MS}{K:DK}{Q:VK}{d:D}{v:V}(L:u0 φ H K Q)(M:fe φ H μ)(k:K d μ)(i:jC φ H d v):Q v H:=L d μ φ v H k (.refl _ _) M i
def OM (m:Bool):wj:=fun x y μ K=>match x,y with
 | .int i,.int j=>K (.int (i+j)) μ
 | .str i,.str j=>i.length+j.length<=sizeLine/\K (.str (i++j)) μ
 | x,y=>opt (lv μ x) fun xs=>opt (lv μ y) fun ys=>xs.length+ys.length<=sizeLine/\nL m (xs++ys) μ K
def QV {m:Bool}:pL JN (OM m):=fun φ H x y dx dy μ K Q M hx hy k L=>by
 unfold OM at k
 split at k
 .cases(show x=_ from hx);cases(show y=_ from hy);exact L.val M k rfl
 .cases(show x=_ from hx);cases(show y=_ from hy);exact⟨k.1,L.val M k.2 rfl⟩
 .obtain⟨xs,ex,k⟩:=gL k
  obtain⟨ys,ey,k⟩:=gL k
  obtain⟨p,vx,rfl,hp,ax⟩:=qk M hx ex
  obtain⟨q,vy,rfl,hq,ay⟩:=qk M hy ey
  exact⟨vx,vy,hp,hq,by rw[ax.len,ay.len];exact k.1,fun l hl=>Fm L M (ax.app ay) k.2 hl⟩
def dI2 (C:Int->Int->Prop)(g:Int->Int->D):wj:=fun x y μ K=>match x,y with
 | .int i,.int j=>C i j/\K (g i j) μ
 | _,_=>False
def yy (g:Int->Int->D):wj:=fun x y μ K=>match x,y with
 | .int i,.int j=>K (g i j) μ
 | _,_=>False
def B5 {C:Int->Int->Prop}{g:Int->Int->Int}:pL (TN C fun i j=>.int (g i j)) (dI2 C fun i j=>.int (g i j)):=fun φ H x y dx dy μ K Q M hx hy k L=>by
 unfold dI2 at k
 split at k
 .cases(show x=_ from hx);cases(show y=_ from hy);exact⟨k.1,L.val M k.2 rfl⟩
 .exact k.elim
def QU {g:Int->Int->Int}:pL (Ax fun i j=>.int (g i j)) (yy fun i j=>.int (g i j)):=fun φ H x y dx dy μ K Q M hx hy k L=>by
 unfold yy at k
 split at k
 .cases(show x=_ from hx);cases(show y=_ from hy);exact L.val M k rfl
 .exact k.elim
def uA {g:Int->Int->Bool}:pL (Ax fun i j=>.bl (g i j)) (yy fun i j=>.bl (g i j)):=fun φ H x y dx dy μ K Q M hx hy k L=>by
 unfold yy at k
 split at k
 .cases(show x=_ from hx);cases(show y=_ from hy);exact L.val M k rfl
 .exact k.elim
def VV:wj:=fun x y μ K=>match x,y with
 | .int i,.int j=>Mt i j/\K (.int (i*j)) μ
 | .str z,.int n=>∃ c:Nat,z=⟨#[c]⟩ /\ -1000000<=n/\n<=1000000/\K (.str ⟨(List.replicate n.toNat c).toArray⟩) μ
 | _,_=>False
def xm:pL JJ VV:=fun φ H x y dx dy μ K Q M hx hy k L=>by
 unfold VV at k
 split at k
 .cases(show x=_ from hx);cases(show y=_ from hy);exact⟨k.1,L.val M k.2 rfl⟩
 .cases(show x=_ from hx);cases(show y=_ from hy)
  obtain⟨c,rfl,h1,h2,k⟩:=k
  exact⟨c,rfl,h1,h2,L.val M k rfl⟩
 .exact k.elim
def OL (neg:Bool):wj:=fun x y μ K=>match x,y with
 | .int i,.int j=>K (.bl (neg != decide (i=j))) μ
 | .str i,.str j=>K (.bl (neg != decide (i=j))) μ
 | .bl i,.bl j=>K (.bl (neg != decide (i=j))) μ
 | _,_=>False
def xn {neg:Bool}:pL (JM neg) (OL neg):=fun φ H x y dx dy μ K Q M hx hy k L=>by
 unfold OL at k
 split at k
 .cases(show x=_ from hx);cases(show y=_ from hy);exact L.val M k rfl
 .cases(show x=_ from hx);cases(show y=_ from hy);exact L.val M k rfl
 .cases(show x=_ from hx);cases(show y=_ from hy);exact L.val M k rfl
 .exact k.elim
def Y6:wj:=fun x y μ K=>match x,y with
 | .str z,.int i=>z.length<=sizeLine/\opt (pJ z.cps.toList i) fun c=>K (.str ⟨#[c]⟩) μ
 | .tup ds,.int i=>opt (pJ ds i) fun d=>K d μ
 | x,.int i=>opt (lv μ x) fun ds=>opt (pJ ds i) fun d=>K d μ
 | _,_=>False
def eK.pJ {φ:List ai}{H:Hp}{ds:List D}{vs:List V}{i:Int}{d:D}(h:eK φ H ds vs)(e:pJ ds i=some d):∃ v,pJ vs i=some v/\jC φ H d v:=by
 unfold L2.pJ at e ⊢
 rw[h.len]
 cases q:Ie ds.length i with
 | none=>rw[q]at e;cases e
 | some j=>rw[q]at e;exact h.get e
def Ur:pL Q6 Y6:=fun φ H x y dx dy μ K Q M hx hy k L=>by
 unfold Y6 at k
 split at k
 .cases(show x=_ from hx);cases(show y=_ from hy)
  obtain⟨c,e,k'⟩:=gL k.2
  exact⟨k.1,dH e (L.val M k' rfl)⟩
 .cases(show y=_ from hy)
  obtain⟨d,e,k⟩:=gL k
  obtain⟨p,vs,rfl,_,hp,ha⟩:=hx
  obtain⟨v,ev,iv⟩:=ha.pJ e
  exact⟨vs,.inr hp,dH ev (L.val M k iv)⟩
 .cases(show y=_ from hy)
  obtain⟨ds,el,k⟩:=gL k
  obtain⟨d,e,k⟩:=gL k
  obtain⟨p,vs,rfl,hp,ha⟩:=qk M hx el
  obtain⟨v,ev,iv⟩:=ha.pJ e
  exact⟨vs,.inl hp,dH ev (L.val M k iv)⟩
 .exact k.elim
abbrev DO:=DE->MS->(Option Int->MS->Prop)->Prop
def QM (w:DO):TO:=fun σ H Q=>∃ φ ρ μ K,jR φ H ρ σ/\fe φ H μ/\w ρ μ K/\∀ o μ' ft H',K o μ'->Fr φ H ft H'->fe ft H' μ'->Q o H'
def dNo:DO:=fun _ μ K=>K none μ
def VS (w:De):DO:=fun ρ μ K=>w ρ μ fun d eF=>match d with | .int i=>K (some i) eF | _=>False
def cutD (ds:List D)(lo hi:Option Int):List D:=(ds.drop (HT.iT ds.length 0 lo)).take (HT.iT ds.length ds.length hi - HT.iT ds.length 0 lo)
def YW (m:Bool)(w:De)(l h:DO):De:=fun ρ μ K=>w ρ μ fun x eF=>l ρ eF fun lo fG=>h ρ fG fun hi lS=>match x with
 | .str z=>z.length<=sizeLine/\K (.str ⟨(hZ z.cps.toList lo hi).toArray⟩) lS
 | x=>opt (lv lS x) fun ds=>nL m (cutD ds lo hi) lS K
section
variable {X:Cx}{a b e:Expr}{es:List Expr}{pos:Pos}
def PO.imp {e:Option Expr}{t t':TO}(h:PO X e t)(hi:∀ σ H Q,t' σ H Q->t σ H Q):PO X e t':=fun dA s σ H Q I q=>h dA s σ H Q I (hi σ H Q q)
def qi:PO X none (QM dNo):=Rh.imp fun σ H Q rl=>by obtain⟨φ,ρ,μ,K,A,M,k,L⟩:=rl;exact L none μ φ H k (.refl _ _) M
def iC {w:De}(h:PD X e w):PO X (some e) (QM (VS w)):=(JP h).imp fun σ H Q ⟨φ,ρ,μ,K,A,M,k,L⟩ =>
 ⟨φ,ρ,μ,_,A,M,k,fun d eF eZ v1 H1 k1 f1 M1 i1=>by
  cases d with
  | int i=>cases(show v1=_ from i1);exact L _ eF eZ H1 k1 f1 M1
  | _=>exact k1.elim⟩
def eK.cut {φ:List ai}{H:Hp}{ds:List D}{vs:List V}(h:eK φ H ds vs)(lo hi:Option Int):eK φ H (cutD ds lo hi) (Bm vs lo hi):=by
 unfold cutD Bm
 rw[h.len]
 exact(h.drop _).take _
def jz (m:Bool){lo hi:Option Expr}{w:De}{l h:DO}{p:Pos}(ha:PD X a w)(hl:PO X lo (QM l))(hh:PO X hi (QM h)):PD X (.Subscript a (.Slice lo hi none p) pos) (YW m w l h):=(Cn slC ha hl hh).imp fun σ H Q hq=>by
 obtain⟨φ,ρ,μ,K,A,M,k,L⟩:=hq
 refine⟨φ,ρ,μ,_,A,M,k,fun d eF eZ v1 H1 k1 f1 M1 i1=>?_⟩
 refine⟨eZ,ρ,eF,_,A.mono f1,M1,k1,fun lo fG jD H2 k2 f2 M2=>?_⟩
 refine⟨jD,ρ,fG,_,A.mono (f1.trans f2),M2,k2,fun hi lS Ab H3 k3 f3 M3=>?_⟩
 have i3:=i1.mono (f2.trans f3)
 have L3:=L.mono (f1.trans (f2.trans f3))
 split at k3
 .cases(show v1=_ from i3);exact⟨k3.1,L3.val M3 k3.2 rfl⟩
 .obtain⟨ds,el,k⟩:=gL k3
  obtain⟨p,vs,rfl,hp,ha⟩:=qk M3 i3 el
  exact⟨vs,hp,fun l hl=>Fm L3 M3 (ha.cut lo hi) k hl⟩
end
def Su:jJ:=fun ds μ K=>match ds with
 | [.str z]=>z.length<=sizeLine/\K (.int z.length) μ
 | [.tup xs]=>K (.int xs.length) μ
 | [x]=>opt (lv μ x) fun xs=>K (.int xs.length) μ
 | _=>False
def QS:nr JL Su:=fun φ H vs ds μ K Q M h k L=>by
 unfold Su at k
 split at k
 .obtain⟨v,r,rfl,h1,h2⟩:=h;cases(show r=[]from h2);cases(show v=_ from h1);exact⟨k.1,L.val M k.2 rfl⟩
 .obtain⟨v,r,rfl,h1,h2⟩:=h;cases(show r=[]from h2)
  obtain⟨p,vs,rfl,_,hp,ha⟩:=h1
  exact⟨vs,.inr hp,by rw[ha.len];exact L.val M k rfl⟩
 .obtain⟨v,r,rfl,h1,h2⟩:=h;cases(show r=[]from h2)
  obtain⟨xs,el,k⟩:=gL k
  obtain⟨p,vs,rfl,hp,ha⟩:=qk M h1 el
  exact⟨vs,.inl hp,by rw[ha.len];exact L.val M k rfl⟩
 .exact k.elim
def VB:jJ:=fun ds μ K=>match ds with | [.int i,.int j]=>K (.int (max i j)) μ | _=>False
def Eo:nr PF VB:=fun φ H vs ds μ K Q M h k L=>by
 unfold VB at k
 split at k
 .obtain⟨v,r,rfl,h1,u,r',rfl,h2,h3⟩:=h;cases(show r'=[]from h3);cases(show v=_ from h1);cases(show u=_ from h2);exact⟨_,_,rfl,L.val M k rfl⟩
 .exact k.elim
def fMaxL:jJ:=fun ds μ K=>match ds with
 | [x]=>∃ ns:List Int,lv μ x=some (ns.map D.int)/\ns≠[]/\∀ m,m∈ns->(∀ y∈ns,y<=m)->K (.int m) μ
 | _=>False
def VC (g:List Bool->Bool):jJ:=fun ds μ K=>match ds with
 | [x]=>∃ bs:List Bool,lv μ x=some (bs.map D.bl)/\K (.bl (g bs)) μ
 | _=>False
def Ai {g:List Bool->Bool}:nr (Cj g) (VC g):=fun φ H vs ds μ K Q M h k L=>by
 unfold VC at k
 split at k
 .obtain⟨v,r,rfl,h1,h2⟩:=h;cases(show r=[]from h2)
  obtain⟨bs,el,k⟩:=k
  obtain⟨p,vs,rfl,hp,ha⟩:=qk M h1 el
  exact⟨bs,by rw[hp,ha.bls],L.val M k rfl⟩
 .exact k.elim
def Ql (m:Bool):jJ:=fun ds μ K=>match ds with
 | [x]=>opt (lv μ x) fun xs=>nL m xs μ K
 | _=>False
def Nc {Kf:aa}{m:Bool}:nr (Ex Kf) (Ql m):=fun φ H vs ds μ K Q M h k L=>by
 unfold Ql at k
 split at k
 .obtain⟨v,r,rfl,h1,h2⟩:=h;cases(show r=[]from h2)
  obtain⟨xs,el,k⟩:=gL k
  obtain⟨p,vs,rfl,hp,ha⟩:=qk M h1 el
  exact⟨vs,pK.of hp,fun l hl=>Fm L M ha k hl⟩
 .exact k.elim
def Ld:QC:=fun d ds μ K=>match d,ds with
 | .str z,[x]=>z.cps=#[]/\∃ ys:List Str,lv μ x=some (ys.map D.str)/\(ys.map (·.length)).sum<=16777216/\K (.str ⟨(ys.map (·.cps.toList)).flatten.toArray⟩) μ
 | _,_=>False
def sW {Kf:aa}:IL Kf "str" Ey Ld:=fun φ H x vs d ds μ K Q M hx h k L=>by
 unfold Ld at k
 split at k
 .cases(show x=_ from hx)
  obtain⟨v,r,rfl,h1,h2⟩:=h;cases(show r=[]from h2)
  obtain⟨hz,ys,el,hs,k⟩:=k
  obtain⟨p,vs,rfl,hp,ha⟩:=qk M h1 el
  exact⟨hz,ys,by rw[hp,ha.strs],hs,L.val M k rfl⟩
 .exact k.elim
def Lf:QC:=fun d ds μ K=>match d,ds with
 | .str z,[.str y]=>∃ c:Nat,y=⟨#[c]⟩/\K (.int ((z.cps.toList.count c:Nat):Int)) μ
 | _,_=>False
def B6 {Kf:aa}:IL Kf "str" Ay Lf:=fun φ H x vs d ds μ K Q M hx h k L=>by
 unfold Lf at k
 split at k
 .cases(show x=_ from hx)
  obtain⟨v,r,rfl,h1,h2⟩:=h;cases(show r=[]from h2);cases(show v=_ from h1)
  obtain⟨c,rfl,k⟩:=k
  exact⟨c,rfl,L.val M k rfl⟩
 .exact k.elim
def PV {φ:List ai}{H:Hp}{μ:MS}{k:Nat}{x:V}{ds:List D}(M:fe φ H μ)(hx:jC φ H (.mr k) x)(e:μ[k]?=some (.lst ds)):∃ p vs,x=.ref p/\φ[k]?=some p/\H p=some (.lst vs)/\eK φ H ds vs:=by
 obtain⟨p,hp,rfl⟩:=hx
 obtain⟨q,e1,vs,hv,ha⟩:=M.at_ k _ e
 rw[hp]at e1;cases e1
 exact⟨p,vs,rfl,hp,hv,ha⟩
def Kn {φ:List ai}{H:Hp}{μ:MS}{K:DK}{Q:VK}{k:Nat}{p:ai}{ds:List D}{vs:List V}{d:D}{v:V}(L:u0 φ H K Q)(M:fe φ H μ)(hp:φ[k]?=some p)(ha:eK φ H ds vs)(hd:jC φ H d v)(kk:K d (μ.set k (.lst ds))):Q v (upd H p (.lst vs)):=by
 have f:Fr φ H φ (upd H p (.lst vs)):=.put (A1 hp)
 exact L d _ φ v _ kk f (M.put hp ⟨_,eI,ha.mono f⟩) (hd.mono f)
def GL:QC:=fun d ds μ K=>match d,ds with
 | .mr k,[y]=>opt (AW μ k) fun xs=>xs.length<sizeLine/\K .gy (μ.set k (.lst (xs++[y])))
 | _,_=>False
def qY {Kf:aa}:IL Kf "list" Ci GL:=fun φ H x vs d ds μ K Q M hx h k L=>by
 unfold GL at k
 split at k
 .obtain⟨xs,em,k⟩:=gL k
  .obtain⟨p,us,rfl,hp,hv,ha⟩:=PV M hx (qm em)
   obtain⟨v,r,rfl,h1,h2⟩:=h;cases(show r=[]from h2)
   exact⟨_,_,us,rfl,rfl,hv,by rw[ha.len];exact k.1,Kn (d:=.gy) (v:=.gy) L M hp (ha.app (show eK φ H [_] [v]from⟨v,[],rfl,h1,rfl⟩)) rfl k.2⟩
 .exact k.elim
section
variable {X:Cx}
def JI:V->List V->Hp->VK->Prop:=fun x vs H Q=>match x,vs with
 | .ref l,[]=>∃ xs y,H l=some (.lst xs)/\xs[xs.length - 1]?=some y/\Q y (upd H l (.lst xs.dropLast))
 | _,_=>False
def UJ:Fv X "list.pop" JI:=Fv.imp RN fun x vs H Q q=>by
 unfold JI at q
 split at q
 .obtain⟨xs,y,a,b,c⟩:=q;exact⟨_,xs,y,rfl,rfl,a,b,c⟩
 .exact q.elim
end
def eK.dropLast {φ:List ai}{H:Hp}{ds:List D}{vs:List V}(h:eK φ H ds vs):eK φ H ds.dropLast vs.dropLast:=by
 rw[List.dropLast_eq_take,List.dropLast_eq_take,h.len]
 exact h.take _
def VA:QC:=fun d ds μ K=>match d,ds with
 | .mr k,[]=>opt (AW μ k) fun xs=>opt (xs[xs.length - 1]?) fun y=>K y (μ.set k (.lst xs.dropLast))
 | _,_=>False
def Jy {Kf:aa}:IL Kf "list" JI VA:=fun φ H x vs d ds μ K Q M hx h k L=>by
 unfold VA at k
 split at k
 .obtain⟨xs,em,k⟩:=gL k
  .obtain⟨p,us,rfl,hp,hv,ha⟩:=PV M hx (qm em)
   cases(show vs=[]from h)
   obtain⟨y,ey,k⟩:=gL k
   obtain⟨v,ev,iv⟩:=ha.get ey
   exact⟨us,v,hv,by rw[ha.len];exact ev,Kn (d:=y) L M hp ha.dropLast iv k⟩
 .exact k.elim
def QT {f:Int->Int->Int}:Wf (X3 f) (yy fun i j=>.int (f i j)):=fun φ H x y dx dy μ K Q M hx hy k L=>by
 unfold yy at k
 split at k
 .cases(show x=_ from hx);cases(show y=_ from hy);exact L.val M k rfl
 .exact k.elim
mutual
def IV:D->D->Bool
 | .gy,.gy=>true
 | .bl a,.bl b=>a==b
 | .bl a,.int b=>(if a then 1 else 0)==b
 | .int a,.bl b=>a==(if b then 1 else 0)
 | .int a,.int b=>a==b
 | .str a,.str b=>a==b
 | .lst xs,.lst ys=>Sz xs ys
 | .tup xs,.tup ys=>Sz xs ys
 | _,_=>false
def Sz:List D->List D->Bool
 | [],[]=>true
 | x::xs,y::ys=>IV x y&&Sz xs ys
 | _,_=>false
end
def A4:D->Bool
 | .gy=>true
 | .bl _=>true
 | .int _=>true
 | .str _=>true
 | _=>false
section
variable {X:Cx}
def Cg (neg:Bool):R2:=fun x y H Q=>match x,y with
 | .str z,.str t=>∃ c:Nat,z=⟨#[c]⟩/\Q (.bl (neg != decide (c∈t.cps.toList))) H
 | x,.ref p=>∃ xs,(H p=some (.lst xs)\/H p=some (.tup xs))/\lQ x=true/\xs.all lQ=true/\Q (.bl (neg != R9 x xs)) H
 | _,_=>False
def X4:kg X (compareOp .In) (Cg false):=(HM.or HN).imp fun x y H Q q=>by
 unfold Cg at q
 split at q
 .obtain⟨c,rfl,q⟩:=q
  exact .inl ⟨_,_,rfl,rfl,by rw[StrLaws.found_one];rw[TY]at q;exact q⟩
 .obtain⟨xs,h,h1,h2,q⟩:=q
  rw[TY]at q
  rcases h with h | h
  .exact .inr ⟨_,xs,rfl,.inl (pK.of h),h1,h2,q⟩
  .exact .inr ⟨_,xs,rfl,.inr (BA.of h),h1,h2,q⟩
 .exact q.elim
def RK:kg X (compareOp .NotIn) (Cg true):=(AE.or AF).imp fun x y H Q q=>by
 unfold Cg at q
 split at q
 .obtain⟨c,rfl,q⟩:=q
  exact .inl ⟨_,_,rfl,rfl,by rw[StrLaws.found_one];rw[Xg]at q;exact q⟩
 .obtain⟨xs,h,h1,h2,q⟩:=q
  rw[Xg]at q
  rcases h with h | h
  .exact .inr ⟨_,xs,rfl,.inl (pK.of h),h1,h2,q⟩
  .exact .inr ⟨_,xs,rfl,.inr (BA.of h),h1,h2,q⟩
 .exact q.elim
end
def dIn (neg:Bool):wj:=fun x y μ K=>match x,y with
 | .str z,.str t=>∃ c:Nat,z=⟨#[c]⟩/\K (.bl (neg != decide (c∈t.cps.toList))) μ
 | x,y=>opt (lv μ y) fun ds=>A4 x=true/\ds.all A4=true/\K (.bl (neg != ds.any fun d=>IV d x)) μ
def EX {φ:List ai}{H:Hp}{d:D}{v:V}(i:jC φ H d v)(h:A4 d=true):lQ v=true:=by
 cases d <;> first | exact(Bool.noConfusion (show false=true from h)) | (cases(show v=_ from i);rfl)
def Ss {φ:List ai}{H:Hp}{d e:D}{v u:V}(i:jC φ H d v)(j:jC φ H e u)(h:A4 d=true)(h':A4 e=true):ML v u=IV d e:=by
 cases d <;> first
  | exact(Bool.noConfusion (show false=true from h))
  | (cases(show v=_ from i)
     cases e <;> first
      | exact(Bool.noConfusion (show false=true from h'))
      | (cases(show u=_ from j);unfold ML IV;rfl))
def A3 {φ:List ai}{H:Hp}{x:D}{v:V}(i:jC φ H x v)(hx:A4 x=true):∀ {ds:List D} {vs:List V},eK φ H ds vs->ds.all A4=true->vs.all lQ=true/\R9 v vs=ds.any fun d=>IV d x
 | [],_,h,_=>by cases(show _=[]from h);exact⟨rfl,rfl⟩
 | d::ds,_,h,f=>by
  obtain⟨u,r,rfl,h1,h2⟩:=h
  rw[c9,aT]at f
  obtain⟨a,b⟩:=A3 i hx h2 f.2
  unfold R9 at b ⊢
  rw[c9,bz,bz,a,b,EX h1 f.1,Ss h1 i f.1 hx]
  exact⟨rfl,rfl⟩
def Pr {neg:Bool}:pL (Cg neg) (dIn neg):=fun φ H x y dx dy μ K Q M hx hy k L=>by
 unfold dIn at k
 split at k
 .cases(show x=_ from hx);cases(show y=_ from hy)
  obtain⟨c,rfl,k⟩:=k
  exact⟨c,rfl,L.val M k rfl⟩
 .obtain⟨ds,el,f1,f2,k⟩:=gL k
  obtain⟨p,vs,rfl,hp,ha⟩:=qk M hy el
  obtain⟨a,b⟩:=A3 hx f1 ha f2
  have fx:=EX hx f1
  have key:∃ xs,(H p=some (.lst xs)\/H p=some (.tup xs))/\lQ x=true/\xs.all lQ=true/\Q (.bl (neg != R9 x xs)) H:=⟨vs,.inl hp,fx,a,by rw[b];exact L.val M k rfl⟩
  unfold Cg
  cases x <;> exact key
def range_any (bs:List Bool):(List.range bs.length).any (fun i=>bs.getD i false)=bs.any id:=by
 rw[cM,List.any_eq_true,List.any_eq_true]
 constructor
 .rintro⟨i,hi,e⟩
  have WX:i<bs.length:=by simpa using hi
  rw[a9,sP WX]at e
  exact⟨_,c4 WX,e⟩
 .rintro⟨b,hb,e⟩
  obtain⟨i,hi,e2⟩:=cE hb
  refine⟨i,by simpa using hi,?_⟩
  rw[a9,sP hi,e2]
  exact e
def anyC {X:Cx}(hc:X.gg=true):iI X (.builtin "any") (Cj fun bs=>bs.any id):=by
 intro dA s σ H vs us Q I rv h
 unfold Cj at h
 split at h
 .rename_i p
  obtain⟨bs,hp,q⟩:=h
  obtain⟨u,rfl,ru⟩:=rv.one
  cases ru
  obtain⟨z,eW,n,r,hl,e⟩:=I.vV hp
  have U9:s.heap.IsList p eW.toArray:=⟨_,e,rfl,n,rfl⟩
  have lt:p≠s.heap.objs.size:=aL (kK e)
  refine call_any_walk (wpAny_pyIter_list U9 ⟨_,_,_,_,_,_,fun i=>bs.getD i false,rfl,Walks.list (A:=X.A.in1) (I.ok.hd hc) s.heap.objs.size p lt eW.toArray,⟨⟨_,aD _ rfl,rfl,rfl⟩,U9.push _⟩,?_,fun h' tk kp=>?_⟩)
  .intro i v s' Q' E' hv hq
   have Sb:eW[i]?=some v:=by simpa using hv
   have hb:∃ b,bs[i]?=some b/\v=.bool b:=by
    cases eb:(bs.map V.bl)[i]? with
    | none=>have:=r.none_of eb;rw[Sb]at this;cases this
    | some y =>
     obtain⟨u,hu,ry⟩:=r.get eb
     rw[Sb]at hu;cases hu
     rw[vB]at eb
     cases e2:bs[i]? with
     | none=>rw[e2]at eb;cases eb
     | some b=>rw[e2]at eb;cases eb;exact⟨b,rfl,ry⟩
   obtain⟨b,eb,rfl⟩:=hb
   have e3:bs.getD i false=b:=by rw[a9,eb];rfl
   have KU:Q' (bs.getD i false) s':=hq
   rw[e3]at KU
   exact bQ KU
  .have I2:Inv X dA σ H { s with heap:=h',toks:=tk}:=I.dE fun b o e'=>kp b o (by simpa using aL (kK e')) (j0 _ e')
   have len:eW.toArray.size=bs.length:=by rw[aB,<- hl,fH]
   rw[len,range_any]
   exact⟨.bl _,H,I2,rfl,q⟩
 .cases h
def TJ (H:Hp)(b q:ai):Prop:=∃(ns:List Int) (i r z:Int),H b=some (.lst [.ref q,.int i,.int r,.int z])/\H q=some (.lst (ns.map V.int))/\q≠b/\0<=i/\0<=z/\z<2147483647
def wu:Sp:=fun vs H Q _=>match vs with
 | [.ref b,.int n]=>∃ q,TJ H b q/\0<n/\n<1073741824/\∀ v H',0<=v->v<n->TJ H' b q->OB b H H'->Q (.int v) H'
 | _=>False
def u6 {vs:List V}{H:Hp}{Q:VK}{E:XK}(h:wu vs H Q E):∃ b n q,vs=[.ref b,.int n]/\TJ H b q/\0<n/\n<1073741824/\∀ v H',0<=v->v<n->TJ H' b q->OB b H H'->Q (.int v) H':=by
 unfold wu at h
 split at h
 .obtain⟨q,h⟩:=h;exact⟨_,_,q,rfl,h⟩
 .cases h
def GK:jJ:=fun ds μ K=>match ds with
 | [.mr k,.int n]=>μ[k]?=some .box/\0<n/\n<1073741824/\∀ v,0<=v->v<n->K (.int v) μ
 | _=>False
def Jq {vs:List V}{H:Hp}{Q:VK}{E:XK}(h:hV GK vs H Q E):wu vs H Q E:=by
 obtain⟨φ,ds,μ,K,ha,M,k,L⟩:=h
 unfold GK at k
 split at k
 .rename_i kk n
  obtain⟨v,r,rfl,h1,u,r',rfl,h2,h3⟩:=ha
  cases(show r'=[]from h3);cases(show u=_ from h2)
  obtain⟨b,hb,rfl⟩:=h1
  obtain⟨em,hn,Oi,k⟩:=k
  obtain⟨b',e1,q,ns,i,r,z,g1,g2,g3,g4,g5,g6⟩:=M.at_ kk _ em
  rw[hb]at e1;cases e1
  have bin:b∈φ:=A1 hb
  have qb:q≠b:=fun e=>g3 (by rw[e];exact bin)
  refine⟨q,⟨ns,i,r,z,g1,g2,qb,g4,g5,g6⟩,hn,Oi,fun v H' v0 v1 B' ob=>?_⟩
  obtain⟨XQ,i',r',z',b1,b2,b3,b4,b5,b6⟩:=B'
  have f:Fr φ H φ H':=⟨⟨[],by simp,fun _ h=>nomatch h⟩,fun c o hc e=>(ob c (fun e'=>hc (by rw[e'];exact bin))).trans e,fun c e=>by
   by_cases hc:c=b
   .rw[hc,b1]at e;cases e
   .rw[<- ob c hc];exact e⟩
  refine L _ μ φ _ H' (k v v0 v1) f ⟨M.nd,M.len,fun j m ej=>?_⟩ rfl
  by_cases hj:j=kk
  .subst hj
   rw[em]at ej;cases ej
   exact⟨b,hb,q,XQ,i',r',z',b1,b2,g3,b4,b5,b6⟩
  .obtain⟨p,e1,e2⟩:=M.at_ j m ej
   refine⟨p,e1,e2.mono f fun o eo=>?_⟩
   have pb:p≠b:=fun e=>by
    subst e
    obtain⟨i1,r1⟩:=l8 hb
    obtain⟨i2,r2⟩:=l8 e1
    rcases Nat.lt_or_gt_of_ne hj with z | z
    .exact List.pairwise_iff_getElem.mp M.nd j kk i2 i1 z (r2.trans r1.symm)
    .exact List.pairwise_iff_getElem.mp M.nd kk j i1 i2 z (r1.trans r2.symm)
   rw[ob p pb];exact eo
 .exact k.elim
def Ah (K:aa):Sp:=fun vs H Q _=>match vs with
 | [.ref a]=>∃ ns:List Int,pK K H a (ns.map V.int)/\∀ b q H',TJ H' b q->H b=none->H q=none->hU H H'->Q (.ref b) H'
 | _=>False
def IJ {H:Hp}{b q:ai}(h:TJ H b q):fe [b] H [.box]:=by
 obtain⟨ns,i,r,z,h1,h2,h3,h4,h5,h6⟩:=h
 refine⟨by simp,rfl,fun k m e=>?_⟩
 cases k with
 | zero=>cases e;exact⟨b,rfl,q,ns,i,r,z,h1,h2,by simpa using h3,h4,h5,h6⟩
 | succ k=>simp at e
mutual
def n6:Nat->D->Prop
 | n+1,.lst ds=>ds.length<=100000/\Px n ds
 | n+1,.tup ds=>ds.length<=100000/\Px n ds
 | 0,.lst _=>False
 | 0,.tup _=>False
 | _,.jr _ _=>False
 | _,.mr _=>False
 | _,.obj _ _ _=>False
 | _,.mE _ _=>False
 | _,.fn _=>False
 | _,_=>True
def Px:Nat->List D->Prop
 | _,[]=>True
 | n,d::ds=>n6 n d/\Px n ds
end
def Ak {n:Nat}:∀ {ds:List D},(∀ d∈ds,n6 n d)->Px n ds
 | [],_=>by unfold Px;trivial
 | d::ds,h=>by unfold Px;exact⟨h d aH,Ak fun x hx=>h x (oO _ hx)⟩
def xp {n:Nat}{ds:List D}(hl:ds.length<=100000)(h:∀ d∈ds,n6 n d):n6 (n+1) (.lst ds):=by unfold n6;exact⟨hl,Ak h⟩
def rT {n:Nat}{ds:List D}(hl:ds.length<=100000)(h:∀ d∈ds,n6 n d):n6 (n+1) (.tup ds):=by unfold n6;exact⟨hl,Ak h⟩
def lL {n:Nat}{i:Int}:n6 n (.int i):=by cases n <;> (unfold n6;trivial)
def jF {n:Nat}{i:Str}:n6 n (.str i):=by cases n <;> (unfold n6;trivial)
def Us {n:Nat}{i:Bool}:n6 n (.bl i):=by cases n <;> (unfold n6;trivial)
def Nd {n:Nat}{ns:List Int}(h:ns.length<=100000):n6 (n+1) (.lst (ns.map D.int)):=xp (by rw[fH];exact h) fun d hd=>by
 obtain⟨i,_,rfl⟩:=List.mem_map.mp hd;exact lL
mutual
def uy:D->DV
 | .gy=>.gy
 | .bl b=>.bl b
 | .int i=>.int i
 | .str z=>.str z
 | .lst ds=>.lst (pY ds)
 | .tup ds=>.tup (pY ds)
 | _=>.gy
def pY:List D->List DV
 | []=>[]
 | d::ds=>uy d::pY ds
end
def ux:∀ ds:List D,(pY ds).length=ds.length
 | []=>rfl
 | d::ds=>by unfold pY;rw[aI,aI,ux ds]
mutual
def p6 {φ:List ai}{H:Hp}:∀ {n:Nat} {d:D},n6 n d->(∀ v,jC φ H d v->Is H (uy d) v)/\dep (uy d)<=n/\Mv (uy d)<=100000:=fun {n d} h=>by
 cases d with
 | lst ds =>
  cases n with
  | zero=>exact absurd h (by unfold n6;exact id)
  | succ n =>
   unfold n6 at h
   obtain⟨a,b,c⟩:=Aj (φ:=φ) (H:=H) h.2
   refine⟨fun v hv=>?_,?_,?_⟩
   .obtain⟨p,vs,rfl,_,hp,q⟩:=hv
    unfold uy
    exact⟨p,vs,rfl,hp,a vs q⟩
   .unfold uy dep;lia
   .have:=ux ds
    unfold uy Mv;lia
 | tup ds =>
  cases n with
  | zero=>exact absurd h (by unfold n6;exact id)
  | succ n =>
   unfold n6 at h
   obtain⟨a,b,c⟩:=Aj (φ:=φ) (H:=H) h.2
   refine⟨fun v hv=>?_,?_,?_⟩
   .obtain⟨p,vs,rfl,_,hp,q⟩:=hv
    unfold uy
    exact⟨p,vs,rfl,hp,a vs q⟩
   .unfold uy dep;lia
   .have:=ux ds
    unfold uy Mv;lia
 | gy=>exact⟨fun v hv=>hv,a6 _,a6 _⟩
 | bl b=>exact⟨fun v hv=>hv,a6 _,a6 _⟩
 | int b=>exact⟨fun v hv=>hv,a6 _,a6 _⟩
 | str b=>exact⟨fun v hv=>hv,a6 _,a6 _⟩
 | jr _ _=>exact absurd h (by cases n <;> (unfold n6;exact id))
 | mr _=>exact absurd h (by cases n <;> (unfold n6;exact id))
 | obj _ _ _=>exact absurd h (by cases n <;> (unfold n6;exact id))
 | mE _ _=>exact absurd h (by cases n <;> (unfold n6;exact id))
 | fn _=>exact absurd h (by cases n <;> (unfold n6;exact id))
def Aj {φ:List ai}{H:Hp}:∀ {n:Nat} {ds:List D},Px n ds->(∀ vs,eK φ H ds vs->lJ H (pY ds) vs)/\zh (pY ds)<=n/\yS (pY ds)<=100000:=fun {n ds} h=>by
 cases ds with
 | nil=>exact⟨fun vs hv=>hv,a6 _,a6 _⟩
 | cons d ds =>
  unfold Px at h
  obtain⟨a,b,c⟩:=p6 (φ:=φ) (H:=H) h.1
  obtain⟨a',b',c'⟩:=Aj (φ:=φ) (H:=H) h.2
  refine⟨fun vs hv=>?_,?_,?_⟩
  .obtain⟨v,r,rfl,h1,h2⟩:=hv
   unfold pY
   exact⟨v,r,rfl,a v h1,a' r h2⟩
  .unfold pY zh;lia
  .unfold pY yS;lia
end
def Oy (μ:MS):D->Option D
 | .mr k=>(AW μ k).map .lst
 | x=>some x
def GI {φ:List ai}{H:Hp}{μ:MS}{x d:D}{v:V}{n:Nat}(M:fe φ H μ)(e:Oy μ x=some d)(hs:n6 n d)(h:jC φ H x v):Is H (uy d) v:=by
 cases x with
 | mr k =>
  obtain⟨p,hp,rfl⟩:=h
  have e':(AW μ k).map D.lst=some d:=e
  cases q:AW μ k with
  | none=>rw[q]at e';cases e'
  | some ds =>
   rw[q]at e';cases e'
   obtain⟨p',e1,vs,hv,ha⟩:=M.at_ k _ (qm q)
   rw[hp]at e1;cases e1
   cases n with
   | zero=>exact absurd hs (by unfold n6;exact id)
   | succ n =>
    unfold n6 at hs
    unfold uy
    exact⟨p,vs,rfl,hv,(Aj (φ:=φ) (H:=H) hs.2).1 vs ha⟩
 | gy=>cases e;exact(p6 (φ:=φ) (H:=H) hs).1 v h
 | bl b=>cases e;exact(p6 (φ:=φ) (H:=H) hs).1 v h
 | int b=>cases e;exact(p6 (φ:=φ) (H:=H) hs).1 v h
 | str b=>cases e;exact(p6 (φ:=φ) (H:=H) hs).1 v h
 | lst b=>cases e;exact(p6 (φ:=φ) (H:=H) hs).1 v h
 | tup b=>cases e;exact(p6 (φ:=φ) (H:=H) hs).1 v h
 | obj _ _ _=>cases e;exact(p6 (φ:=φ) (H:=H) hs).1 v h
 | mE _ _=>cases e;exact(p6 (φ:=φ) (H:=H) hs).1 v h
 | fn _=>cases e;exact(p6 (φ:=φ) (H:=H) hs).1 v h
 | jr _ _=>cases e;exact absurd hs (by cases n <;> (unfold n6;exact id))
def K9:jJ:=fun ds μ K=>match ds with
 | [x,y]=>∃ d,Oy μ x=some d/\Oy μ y=some d/\n6 5 d/\K (.bl true) μ
 | _=>False
def JD {vs:List V}{H:Hp}{Q:VK}{E:XK}(h:hV K9 vs H Q E):uz 5 vs H Q E:=by
 obtain⟨φ,ds,μ,K,ha,M,k,L⟩:=h
 unfold K9 at k
 split at k
 .obtain⟨v,r,rfl,h1,u,r',rfl,h2,h3⟩:=ha
  cases(show r'=[]from h3)
  obtain⟨d,e1,e2,hs,k⟩:=k
  obtain⟨a,b,c⟩:=p6 (φ:=φ) (H:=H) hs
  exact⟨uy d,b,cj c (by decide),GI M e1 hs h1,GI M e2 hs h2,fun H' S=>L _ μ φ _ H' k (.same S) (M.same S) rfl⟩
 .exact k.elim
def kD {g:DG}{b:Ds}{N:DN}{c:MS->Prop}(Pv:List D->DE->MS->Prop):∀ {ds:List D} {ρ:DE} {μ:MS},Pv ds ρ μ->(∀ d MM ρ μ,Pv (d::MM) ρ μ->c μ/\∀(nx:DE->MS->Prop),(∀ jE μ',Pv MM jE μ'->nx jE μ')->g d ρ μ fun lg fG=>b { N with nx:=nx,ct:=nx,bk:=N.nx} lg fG)->(∀ ρ μ,Pv [] ρ μ->c μ/\N.nx ρ μ)->zf g b N c ds ρ μ
 | [],ρ,μ,h,hs,hd=>hd ρ μ h
 | d::ds,ρ,μ,h,hs,hd=>by
  obtain⟨c',st⟩:=hs d ds ρ μ h
  exact⟨c',st _ fun jE μ' h'=>kD Pv h' hs hd⟩
structure jx (mg:Str->Option Value):Prop where
 len:mg "len"=none
 range:mg "range"=none
 list:mg "list"=none
 isinstance:mg "isinstance"=none
 max:mg "max"=none
 min:mg "min"=none
 bool:mg "bool"=none
 tuple:mg "tuple"=none
 str:mg "str"=none
 int:mg "int"=none
 all:mg "all"=none
 any:mg "any"=none
 zip:mg "zip"=none
 enumerate:mg "enumerate"=none
 reversed:mg "reversed"=none
 dict:mg "dict"=none
 sorted:mg "sorted"=none
abbrev txt (l:List Nat):Str:=⟨l.toArray⟩
def Dq:jJ:=fun ds μ K=>match ds with
 | [.mr k,.int n]=>μ[k]?=some .box/\1<=n/\n<=1000/\∀ l:List Nat,l.length=n.toNat->OX l->K (.str (txt l)) μ
 | _=>False
def Di:jJ:=fun ds μ K=>match ds with
 | [.mr k,.int n]=>μ[k]?=some .box/\∀ m,(m=n\/m=40)->K (.int m) μ
 | _=>False
abbrev Tk:=List Nat×Int
def kh (t:Tk):D:=.tup [.str (txt t.1),.int t.2]
def sz {n:Nat}(h:n<=100000):n<=sizeLine:=aE h (by decide)
def Zh (l:List Nat)(a b:Int):List Nat:=hZ l (some a) (some b)
def bad (ts:List Tk)(p:Int×Int):Bool:=ts.all fun t=>decide (120∈Zh t.1 p.1 p.2)
def rB {α:Type}(g:α->D)(P:α->Prop){it:D->MS->(Option D->MS->Prop)->Prop}{c:MS->Prop}{μ:MS}(hc:c μ):∀ {ds:List D} {K:List D->MS->Prop},(∀ d∈ds,∀(K':Option D->MS->Prop),(∀ a,P a->K' (some (g a)) μ)->it d μ K')->(∀ as:List α,as.length=ds.length->(∀ a∈as,P a)->K (as.map g) μ)->qH it c ds μ K
 | [],K,_,k=>⟨hc,k [] rfl fun _ h=>nomatch h⟩
 | d::ds,K,h,k=>⟨hc,h d aH _ fun a ha=>rB g P hc (fun x hx=>h x (oO _ hx)) fun as hl hp=>k (a::as) (by rw[aI,aI,hl]) fun x hx=>by
  rcases List.mem_cons.mp hx with e | e
  .rw[e];exact ha
  .exact hp x e⟩
def Gf (lo:Int)(n:Nat):lU lo n=((List.range n).map fun i=>lo+(i:Nat)).map D.int:=by unfold lU;rw[aJ];rfl
def jl (lo:Int)(n:Nat):(lU lo n).length=n:=by unfold lU;rw[fH,MJ]
def o3 {α β:Type}{g:α->β}{xs:List α}{i:Nat}{a:α}(h:xs[i]?=some a):pJ (xs.map g) (i:Int)=some (g a):=lZ (by rw[vB,h];rfl)
def mR (l:List Nat):(txt l).length=l.length:=EM l
def oV {α:Type}(l:List α)(lo hi:Option Int):(hZ l lo hi).length<=l.length:=DL l lo hi
def Pu {n:Nat}(t:Tk):n6 (n+1) (kh t):=by
 unfold kh
 refine rT (by simp) fun d hd=>?_
 simp only[bH,bp,cL]at hd
 rcases hd with rfl | rfl
 .exact jF
 .exact lL
def QW {n:Nat}{ts:List Tk}(h:ts.length<=100000):n6 (n+2) (.lst (ts.map kh)):=xp (by rw[fH];exact h) fun d hd=>by
 obtain⟨t,_,rfl⟩:=List.mem_map.mp hd;exact Pu t
def gD {μ:MS}{x y:MO}:(μ++[x]).set μ.length y=μ++[y]:=by
 rw[List.set_append_right _ _ (aj _),aR];rfl
def Oa {m:Nat}{b:ai}{H:Hp}{x:Option V}:jR [b] H (none::some (.mr 0)::List.replicate m none) (x::some (.ref b)::List.replicate m none):=by
 refine⟨by simp,fun i d e=>?_⟩
 cases i with
 | zero=>cases e
 | succ i =>
  cases i with
  | zero=>cases e;exact⟨_,rfl,b,rfl,rfl⟩
  | succ i =>
   have:=List.eq_of_mem_replicate (A1 (show(List.replicate m (none:Option D))[i]?=some (some d)from e))
   cases this
def U4:DN:={ nx:=fun _ _=>False,rt:=fun d _=>d=.bl true}
def RR {m:Nat}{b q a:ai}{H:Hp}{Q:VK}{W:Ds}(B:TJ H b q)(w:W U4 (none::some (.mr 0)::List.replicate m none) [.box])(k:∀ H',Q (.bl true) H'):WA W { nx:=fun _ H'=>Q .gy H',rt:=Q} (some (.ref a)::some (.ref b)::List.replicate m none) H :=
 ⟨[b],_,[.box],U4,Oa,IJ B,w,⟨fun _ _ _ _ _ z=>z.elim,fun d μ' ft v H' kd _ _ i=>by cases(show d=.bl true from kd);cases(show v=_ from i);exact k H',fun _ _ _ _ _ z=>z.elim,fun _ _ _ _ _ z=>z.elim⟩⟩
section
variable {κ:Type}[DecidableEq κ]
def nG (kvs:List (κ×V))(k:κ):Option V:=(kvs.find? fun kv=>decide (kv.1=k)).map (·.2)
def putK (kvs:List (κ×V))(k:κ)(v:V):List (κ×V) :=
 if(kvs.any fun kv=>decide (kv.1=k))=true then kvs.map (fun kv=>if kv.1=k then(kv.1,v)else kv)else kvs++[(k,v)]
def rO (kvs:List (κ×V))(k:κ):List (κ×V):=kvs.filter fun kv=>decide (kv.1≠k)
def pS {p:κ×V}{r:List (κ×V)}{k:κ}(e:p.1=k):nG (p::r) k=some p.2:=by simp[nG,bA,e]
def pT {p:κ×V}{r:List (κ×V)}{k:κ}(e:¬ p.1=k):nG (p::r) k=nG r k:=by simp[nG,bA,e]
def BV (k:κ):∀ kvs:List (κ×V),(kvs.any fun kv=>decide (kv.1=k))=(nG kvs k).isSome
 | []=>rfl
 | p::r=>by
  rw[bz]
  by_cases e:p.1=k
  .simp only[pS e,ar e,Bool.true_or,Option.isSome_some]
  .rw[pT e,az e,Bool.false_or];exact BV k r
def qo (kvs:List (κ×V))(k:κ)(v:V):(putK kvs k v).length<=kvs.length+1:=by
 unfold putK
 split
 .rw[fH];lia
 .rw[j3,aI,bN];lia
def qO.l7 {o:Option V}{u:Option Value}(r:qO o u):o.isSome=u.isSome:=by
 cases o with
 | none=>cases u with
  | none=>rfl
  | some _=>exact(show False from r).elim
 | some _=>cases u with
  | none=>exact(show False from r).elim
  | some _=>rfl
def KV.val {kvs:List (κ×V)}{vs:List (κ×Value)}(r:KV kvs vs)(k:κ):qO (nG kvs k) (valueAt vs k):=by
 unfold KV at r
 induction r with
 | nil=>exact True.intro
 | @cons p q ps qs h t ih =>
  obtain⟨h1,h2⟩:=h
  by_cases e:p.1=k
  .have e':q.1=k:=h1.symm.trans e
   have b:valueAt (q::qs) k=some q.2:=by simp[valueAt,bA,e']
   rw[pS e,b];exact h2
  .have e':¬ q.1=k:=fun z=>e (h1.trans z)
   have b:valueAt (q::qs) k=valueAt qs k:=by simp[valueAt,bA,e']
   rw[pT e,b];exact ih
def KV.any {kvs:List (κ×V)}{vs:List (κ×Value)}(r:KV kvs vs)(k:κ):(kvs.any fun kv=>decide (kv.1=k))=vs.any fun kv=>decide (kv.1=k):=by
 unfold KV at r
 induction r with
 | nil=>rfl
 | cons h t ih=>rw[bz,bz,ih,h.1]
def KV.Q4 {kvs:List (κ×V)}{vs:List (κ×Value)}(r:KV kvs vs)(k:κ){y:V}{u:Value}(ry:fm y u) :
 KV (kvs.map fun kv=>if kv.1=k then(kv.1,y)else kv) (vs.map fun kv=>if kv.1=k then(kv.1,u)else kv):=by
 unfold KV at r ⊢
 induction r with
 | nil=>exact .nil
 | @cons p q ps qs h t ih =>
  rw[aw,aw]
  refine .cons ?_ ih
  obtain⟨h1,h2⟩:=h
  by_cases e:p.1=k
  .rw[au e,au (h1.symm.trans e)];exact⟨h1,ry⟩
  .rw[aq e,aq (fun z=>e (h1.trans z))];exact⟨h1,h2⟩
def KV.put {kvs:List (κ×V)}{vs:List (κ×Value)}(r:KV kvs vs)(k:κ){y:V}{u:Value}(ry:fm y u):KV (putK kvs k y) (stored vs k u):=by
 unfold putK stored
 rw[r.any k]
 by_cases e:(vs.any fun kv=>decide (kv.1=k))=true
 .rw[au e,au e];exact r.Q4 k ry
 .rw[aq e,aq e];exact Paired.snoc r ⟨rfl,ry⟩
def KV.drop {kvs:List (κ×V)}{vs:List (κ×Value)}(r:KV kvs vs)(k:κ):KV (rO kvs k) (without vs k):=by
 unfold KV at r ⊢
 unfold rO without
 induction r with
 | nil=>exact .nil
 | @cons p q ps qs h t ih =>
  obtain⟨h1,h2⟩:=h
  rw[bg,bg]
  by_cases e:p.1=k
  .have a:¬ decide (p.1≠k)=true:=by simp[e]
   have b:¬ decide (q.1≠k)=true:=by simp[h1.symm.trans e]
   rw[aq a,aq b];exact ih
  .have e':¬ q.1=k:=fun z=>e (h1.trans z)
   have a:decide (p.1≠k)=true:=by simp[e]
   have b:decide (q.1≠k)=true:=by simp[e']
   rw[au a,au b];exact .cons ⟨h1,h2⟩ ih
def KV.length {kvs:List (κ×V)}{vs:List (κ×Value)}(r:KV kvs vs):kvs.length=vs.length:=Paired.length r
def Dy (kvs:List (κ×V))(k:κ):(rO kvs k).length<=kvs.length:=bM _ _
end
def tJ {P:ae}{w:af}{k:Key}{u:Value}(r:fm (kV k) u):(fK P w).is k u=true:=by
 cases k with
 | inl i=>obtain⟨t,e⟩:=(show ∃ t,u=Value.int i t from r);subst e;exact CH P w i t
 | inr x=>obtain⟨t,e⟩:=(show ∃ t,u=Value.str x t from r);subst e;exact CG P w x t
def zG {P:ae}{w:af}:∀ {ks:List Key} {us:List Value},fj (ks.map kV) us->ItemsAre (fK P w) ks us
 | [],_,r=>by rw[List.map_nil]at r;cases r;exact .nil
 | k::ks,_,r=>by
  rw[aw]at r
  cases r with
  | cons h t=>exact .cons (tJ h) (zG t)
abbrev KT (H:Hp):List (List Key×V)->List (List Key×ai×Value)->Prop:=Paired fun p q=>p.1=q.1/\H q.2.1=some (.tup (p.1.map kV))/\fm p.2 q.2.2
def KT.val {H:Hp}{kvs:List (List Key×V)}{xs:List (List Key×ai×Value)}(r:KT H kvs xs)(k:List Key):qO (nG kvs k) ((atKey xs k).map (·.2)):=by
 induction r with
 | nil=>exact True.intro
 | @cons p q ps qs h t ih =>
  obtain⟨h1,_,h2⟩:=h
  by_cases e:p.1=k
  .have e':q.1=k:=h1.symm.trans e
   have b:atKey (q::qs) k=some q.2:=by simp[atKey,bA,e']
   rw[pS e,b];exact h2
  .have e':¬ q.1=k:=fun z=>e (h1.trans z)
   have b:atKey (q::qs) k=atKey qs k:=by simp[atKey,bA,e']
   rw[pT e,b];exact ih
def KT.Q4 {H:Hp}{kvs:List (List Key×V)}{xs:List (List Key×ai×Value)}(r:KT H kvs xs)(k:List Key){y:V}{u:Value}(ry:fm y u) :
 KT H (kvs.map fun kv=>if kv.1=k then(kv.1,y)else kv) (xs.map (putAt k u)):=by
 induction r with
 | nil=>exact .nil
 | @cons p q ps qs h t ih =>
  rw[aw,aw]
  refine .cons ?_ ih
  obtain⟨h1,h2,h3⟩:=h
  unfold putAt
  by_cases e:p.1=k
  .rw[au e,au (h1.symm.trans e)];exact⟨h1,h2,ry⟩
  .rw[aq e,aq (fun z=>e (h1.trans z))];exact⟨h1,h2,h3⟩
def KT.put {H:Hp}{kvs:List (List Key×V)}{xs:List (List Key×ai×Value)}(r:KT H kvs xs)(k:List Key){b:ai}{y:V}{u:Value}(hb:H b=some (.tup (k.map kV)))(ry:fm y u) :
 KT H (putK kvs k y) (storedH xs k b u):=by
 have e:(kvs.any fun kv=>decide (kv.1=k))=(atKey xs k).isSome:=by
  rw[BV,(r.val k).l7,bE]
 unfold putK storedH
 rw[e]
 by_cases q:(atKey xs k).isSome=true
 .rw[au q,au q];exact r.Q4 k ry
 .rw[aq q,aq q];exact Paired.snoc r ⟨rfl,hb,ry⟩
def KT.keeps {H H':Hp}{kvs:List (List Key×V)}{xs:List (List Key×ai×Value)}(r:KT H kvs xs)(ht:∀ b ys,H b=some (.tup ys)->H' b=some (.tup ys)):KT H' kvs xs :=
 Paired.UZ r fun _ _ z=>⟨z.1,ht _ _ z.2.1,z.2.2⟩
section
variable {P:ae}{w:af}{H:Hp}{h:Heap}{a:ai}
def PB {u:HO}(ok:o7 P w H h)(e:Rd H a u):gh P w H h a u:=e.ok ok
def m7 {kvs:List (Key×V)}(ok:o7 P w H h)(e:Rd H a (.dK kvs)):kvs.length<=sizeLine/\(a==sysModules)=false/\∃ vs,KV kvs vs/\h.DictOf (fK P w) a vs :=
 show gh P w H h a (.dK kvs)from PB ok e
def GR {kvs:List (Key×V)}(ok:o7 P w H h)(e:H a=some (.dK kvs)):kvs.length<=sizeLine/\(a==sysModules)=false/\∃ vs,KV kvs vs/\h.DictOf (fK P w) a vs:=m7 ok (.inl e)
def xW {ks:List Key}(ok:o7 P w H h)(e:H a=some (.tup (ks.map kV))):(tupleKind (fK P w)).is h ks a:=by
 obtain⟨_,eW,r,o,h1,h2,n,h3⟩:=(show gh P w H h a (.tup (ks.map kV))from ok a _ e)
 exact⟨o,eW.toArray,n,h1,h2,h3,by simpa using zG r⟩
def zQ {kvs:List (List Key×V)}(ok:o7 P w H h)(e:Rd H a (.dT kvs)):kvs.length<=sizeLine/\(a==sysModules)=false /\
 ∃ xs,KT H kvs xs/\h.DictOfH (tupleKind (fK P w)) a xs:=by
 obtain⟨z,y,xs,r,o,es,ep,h1,h2,h3,h4,h5⟩:=(show gh P w H h a (.dT kvs)from PB ok e)
 refine⟨z,y,xs,r,o,es,ep,h1,h2,h3,h4,fun x hx=>?_,h5⟩
 have all:∀ {l:List (List Key×V)} {m:List (List Key×ai×Value)},KT H l m->∀ x∈m,(tupleKind (fK P w)).is h x.1 x.2.1:=by
  intro l m q
  induction q with
  | nil=>intro x hx;exact nomatch hx
  | @cons p q ps qs hq t ih =>
   intro x hx
   rcases List.mem_cons.mp hx with e | hx
   .subst e
    exact xW ok (by rw[<- hq.1];exact hq.2.1)
   .exact ih x hx
 exact all r x hx
def VF {kvs:List (List Key×V)}(ok:o7 P w H h)(e:H a=some (.dT kvs)):kvs.length<=sizeLine/\(a==sysModules)=false /\
 ∃ xs,KT H kvs xs/\h.DictOfH (tupleKind (fK P w)) a xs:=zQ ok (.inl e)
end
def D5 (H:Hp)(a:ai)(y:V)(r:Option V):Prop :=
 (∃ kvs k,Rd H a (.dK kvs)/\y=kV k/\r=nG kvs k)\/∃ kvs k b,Rd H a (.dT kvs)/\y=.ref b/\H b=some (.tup (k.map kV))/\r=nG kvs k
def Mp (H:Hp)(a:ai)(y v:V)(H':Hp):Prop :=
 (∃ kvs k,H a=some (.dK kvs)/\y=kV k/\kvs.length<sizeLine/\H'=upd H a (.dK (putK kvs k v))) \/
 ∃ kvs k b,H a=some (.dT kvs)/\y=.ref b/\H b=some (.tup (k.map kV))/\kvs.length<sizeLine/\H'=upd H a (.dT (putK kvs k v))
def Mp.k {H:Hp}{a:ai}{kvs:List (Key×V)}{k:Key}{v:V}(e:H a=some (.dK kvs))(hl:kvs.length<sizeLine):Mp H a (kV k) v (upd H a (.dK (putK kvs k v))):=.inl ⟨kvs,k,e,rfl,hl,rfl⟩
section
variable {X:Cx}{dA:List (ai×Obj)}{σ:St}{H:Hp}{s:ah}{a:ai}{y v:V}{u r:Value}{o:Option V}{A:Around}{E:Value->ah->Prop}
def Inv.big (I:Inv X dA σ H s):sysModules<s.heap.objs.size:=by
 have h:mainGlobals<s.heap.objs.size:=(I.mod.glob.keeps I.bk).lt
 exact Nat.lt_trans (by decide) h
def IF {Q:Value->ah->Prop}(hu:A.units+1<cLine)(I:Inv X dA σ H s)(g:D5 H a y (some v))(ry:fm y u)(h:∀ w' s',Inv X dA σ H s'->fm v w'->Q w' s') :
 wpAny (model X.prog X.w) A (getItem (.ref a) u) Q E s:=by
 rcases g with⟨kvs,k,e,ey,l⟩ | ⟨kvs,k,b,e,ey,eb,l⟩
 .subst ey
  obtain⟨z,hd,vs,rel,dd⟩:=m7 I.fc e
  obtain⟨w',hw,Cc⟩:=qO.some_of (v:=v) (o:=valueAt vs k) (by rw[l];exact rel.val k)
  exact wpAny_getItem_of (tJ ry) dd.mapOf hw (h w' _ (I.tok _) Cc)
 .subst ey
  cases(show u=Value.ref b from ry)
  obtain⟨z,hd,xs,rel,dd⟩:=zQ I.fc e
  obtain⟨w',hw,Cc⟩:=qO.some_of (v:=v) (o:=(atKey xs k).map (·.2)) (by rw[l];exact rel.val k)
  obtain⟨p,hp,Oh⟩:=Option.map_eq_some_iff.mp hw
  refine wpAny_getItem_heap (dh hu) (xW I.fc eb) dd hp ?_
  rw[Oh]
  exact h w' _ (I.tok _) Cc
def YR {Q:Value->ah->Prop}(hu:A.units+1<cLine)(I:Inv X dA σ H s)(g:D5 H a y o)(ry:fm y u)(h:∀ s',Inv X dA σ H s'->Q (.bool o.isSome) s') :
 wpAny (model X.prog X.w) A (compareOp .In u (.ref a)) Q E s:=by
 rcases g with⟨kvs,k,e,ey,l⟩ | ⟨kvs,k,b,e,ey,eb,l⟩
 .subst ey
  obtain⟨z,hd,vs,rel,dd⟩:=m7 I.fc e
  refine wpAny_in_of (tJ ry) hd dd.mapOf ?_
  rw[<- (rel.val k).l7,<- l]
  exact h _ (I.tok _)
 .subst ey
  cases(show u=Value.ref b from ry)
  obtain⟨z,hd,xs,rel,dd⟩:=zQ I.fc e
  refine wpAny_in_heap (dh hu) (xW I.fc eb) hd dd ?_
  have q:=(rel.val k).l7
  rw[bE]at q
  rw[<- q,<- l]
  exact h _ (I.tok _)
def OA {Q:Value->ah->Prop}(hu:A.units+1<cLine)(I:Inv X dA σ H s)(g:D5 H a y o)(ry:fm y u)(h:∀ s',Inv X dA σ H s'->Q (.bool (!o.isSome)) s') :
 wpAny (model X.prog X.w) A (compareOp .NotIn u (.ref a)) Q E s:=by
 rcases g with⟨kvs,k,e,ey,l⟩ | ⟨kvs,k,b,e,ey,eb,l⟩
 .subst ey
  obtain⟨z,hd,vs,rel,dd⟩:=m7 I.fc e
  refine wpAny_notIn_of (tJ ry) hd dd.mapOf ?_
  rw[<- (rel.val k).l7,<- l]
  exact h _ (I.tok _)
 .subst ey
  cases(show u=Value.ref b from ry)
  obtain⟨z,hd,xs,rel,dd⟩:=zQ I.fc e
  refine wpAny_notIn_heap (dh hu) (xW I.fc eb) hd dd ?_
  have q:=(rel.val k).l7
  rw[bE]at q
  rw[<- q,<- l]
  exact h _ (I.tok _)
def rq {h':Heap}{t':Nat}{ob:HO}(I:Inv X dA σ H s)(mu:Wo (H a))(hs:Heap.SameBut a s.heap h')(he:∃ q,h'.get? a=some q)(new:gh X.prog X.w (upd H a ob) h' a ob) :
 Inv X dA σ (upd H a ob) { s with heap:=h',toks:=t'} :=
 I.write (x:=a) (e:=a) mu (.inl rfl) (fun b q hb z=>(hs.2 b hb).trans z) he new
def uQ {P:ae}{w:af}{H':Hp}{h':Heap}{kvs:List (Key×V)}{vs:List (Key×Value)}(z:kvs.length<=sizeLine)(hd:(a==sysModules)=false)(rel:KV kvs vs)(dd:h'.DictOf (fK P w) a vs) :
 gh P w H' h' a (.dK kvs):=⟨z,hd,vs,rel,dd⟩
def IE {H':Hp}{Q:Unit->ah->Prop}(hu:A.units+1<cLine)(I:Inv X dA σ H s)(g:Mp H a y v H')(ry:fm y u)(rv:fm v r)(h:∀ s',Inv X dA σ H' s'->Q () s') :
 wpAny (model X.prog X.w) A (setItem (.ref a) u r) Q E s:=by
 rcases g with⟨kvs,k,e,ey,l,eH⟩ | ⟨kvs,k,b,e,ey,eb,l,eH⟩
 .subst ey eH
  obtain⟨z,hd,vs,rel,dd⟩:=GR I.fc e
  have hz:vs.length<=sizeLine:=by rw[<- rel.length];exact z
  have hl:(putK kvs k v).length<=sizeLine:=by have:=qo kvs k v;lia
  refine wpAny_setItem_pairs (hsz:=hz) (tJ ry) dd fun h' DF hs=>h _ ?_
  have he:∃ q,h'.get? a=some q:=let ⟨q,_,_,hq,_⟩:=DF;⟨q,hq⟩
  exact rq I (by rw[e];exact True.intro) hs he (uQ hl hd (rel.put k rv) DF)
 .subst ey eH
  cases(show u=Value.ref b from ry)
  obtain⟨z,hd,xs,rel,dd⟩:=VF I.fc e
  have hz:xs.length<=sizeLine:=by rw[<- Paired.length rel];exact z
  have hl:(putK kvs k v).length<=sizeLine:=by have:=qo kvs k v;lia
  refine wpAny_setItem_heap (hsz:=hz) (dh hu) (xW I.fc eb) dd fun h' DF hs=>h _ ?_
  obtain⟨q,es,ep,hq,h2,h3,h4,_,h5⟩:=DF
  refine rq I (by rw[e];exact True.intro) hs ⟨q,hq⟩ ⟨hl,hd,_,(rel.put k eb rv).keeps fun c ys ec=>?_,q,es,ep,hq,h2,h3,h4,h5⟩
  rw[eP (UX ec e (fun z=>nomatch z))]
  exact ec
end
section
variable {X:Cx}{dA:List (ai×Obj)}{σ:St}{H:Hp}{s:ah}{a:ai}{kvs:List (Key×V)}{k:Key}{u:Value}{A:Around}{E:Value->ah->Prop}
def T1 {Q:Unit->ah->Prop}(I:Inv X dA σ H s)(e:H a=some (.dK kvs))(ry:fm (kV k) u)(l:(nG kvs k).isSome=true)(h:∀ s',Inv X dA σ (upd H a (.dK (rO kvs k))) s'->Q () s') :
 wpAny (model X.prog X.w) A (delItem (.ref a) u) Q E s:=by
 obtain⟨z,hd,vs,rel,dd⟩:=GR I.fc e
 refine wpAny_delItem_slot dd.typeIs (by decide) PySem.F.slot_dict_delitem
  (call_meetsIn PySem.F.slot_dict_delitem dd.typeIs PySem.F.entry_dict_delitem (PySem.F.args_dict_delitem_2 _ _) (meets_dict_delitem_pairs (fK X.prog X.w) a (tJ ry)) ⟨vs,dd,by rw[<- rel.length];exact z,by rw[<- (rel.val k).l7];exact l,fun h' DF hs=>h _ ?_⟩)
 have he:∃ q,h'.get? a=some q:=let ⟨q,_,_,hq,_⟩:=DF;⟨q,hq⟩
 exact rq I (by rw[e];exact True.intro) hs he (uQ (aE (Dy kvs k) z) hd (rel.drop k) DF)
def VM {v:V}{more:List Value}{Q:Value->ah->Prop}(I:Inv X dA σ H s)(e:H a=some (.dK kvs))(ry:fm (kV k) u)(l:nG kvs k=some v)(hm:more=[]\/∃ x,more=[x])
 (h:∀ w' s',Inv X dA σ (upd H a (.dK (rO kvs k))) s'->fm v w'->Q w' s'):wpAny (model X.prog X.w) A (call (.builtin "dict.pop") (.ref a::u::more)) Q E s:=by
 obtain⟨z,hd,vs,rel,dd⟩:=GR I.fc e
 obtain⟨w',hw,Cc⟩:=qO.some_of (v:=v) (o:=valueAt vs k) (by rw[<- l];exact rel.val k)
 have hp:(keyPart u).isSome=true:=by
  cases k with
  | inl i=>obtain⟨t,q⟩:=(show ∃ t,u=Value.int i t from ry);subst q;rfl
  | inr x=>obtain⟨t,q⟩:=(show ∃ t,u=Value.str x t from ry);subst q;rfl
 have ha:argsOk "dict.pop" ⟨.ref a::u::more,[]⟩:=by
  rcases hm with q | ⟨x,q⟩
  .subst q;exact PySem.F.args_dict_pop_2 _ _
  .subst q;exact PySem.F.args_dict_pop_3 _ _ _
 refine call_meetsIn PySem.F.slot_dict_pop dd.typeIs PySem.F.entry_dict_pop ha (meets_dict_pop_there (fK X.prog X.w) a (tJ ry) more hm hp)
  ⟨vs,w',dd,by rw[<- rel.length];exact z,hw,fun h' DF hs=>h w' _ ?_ Cc⟩
 have he:∃ q,h'.get? a=some q:=let ⟨q,_,_,hq,_⟩:=DF;⟨q,hq⟩
 exact rq I (by rw[e];exact True.intro) hs he (uQ (aE (Dy kvs k) z) hd (rel.drop k) DF)
def VO {Q:Value->ah->Prop}(I:Inv X dA σ H s)(e:Rd H a (.dK kvs))(h:∀ t s',Inv X dA σ H s'->Q (.int kvs.length t) s'):wpAny (model X.prog X.w) A (call (.builtin "len") [.ref a]) Q E s:=by
 obtain⟨z,hd,vs,rel,dd⟩:=m7 I.fc e
 refine call_len_dict hd dd (by rw[<- rel.length];rw[sizeLine_eq]at z;lia) ?_
 rw[<- rel.length]
 exact h _ _ (I.tok _)
end
def O7 (i:Expr):Prop:=∀ ov iv,subscripted i false ov iv=operate [ov,iv] (getItem ov iv)
def FT {prog:ae}{w:af}{A:Around}{E:Value->ah->Prop}{s:ah}{env:Env}{value slice:Expr}{pos:Pos}{T id:String}{Q:Value->ah->Prop}
 (hl:typeLookup (.type T) "__getitem__"=pure (some (.builtin id))) (hs:O7 slice)
 (h:wpAny (model prog w) A (eval value env) (fun o s₁=>wpAny (model prog w) A (eval slice env) (fun i s₂=>s₂.TypeIs o T/\wpAny (model prog w) A (getItem o i) Q E s₂) E s₁) E s) :
 wpAny (model prog w) A (eval (.Subscript value slice pos) env) Q E s:=by
 refine Subscript_ (bo h (fun o s₁ h₁=>bo h₁ (fun i s₂ h₂=>?_) fun _ _ x=>x) fun _ _ x=>x)
 obtain⟨hT,h₂⟩:=h₂
 unfold subscriptTail
 refine fb ?_
 rw[getitemInPython_of_ne hT.not_modules]
 refine fb (wpAny_specialOf hT hl ?_)
 have fin:wpAny (model prog w) A (subscripted slice false o i) (fun r s₃=>wpAny (model prog w) A (letTemporaryGo value o r >>= fun _=>pure r) Q E s₃) E s₂:=by
  rw[hs o i]
  exact wpAny_operating (bo h₂ (fun r s₃ h₃=>fb (wpAny_letTemporaryGo (av h₃))) fun _ _ x=>x)
 first
  | exact av (fb fin)
  | exact fb (av (fb fin))
  | exact fb fin
def DC {X:Cx}{dA:List (ai×Obj)}{σ:St}{H:Hp}{s:ah}{a:ai}{y:V}{o:Option V}(I:Inv X dA σ H s)(g:D5 H a y o):s.TypeIs (.ref a) "dict":=by
 rcases g with⟨kvs,k,e,_,_⟩ | ⟨kvs,k,b,e,_,_,_⟩
 .obtain⟨_,_,vs,_,dd⟩:=m7 I.fc e
  exact dd.typeIs
 .obtain⟨_,_,xs,_,dd⟩:=zQ I.fc e
  exact dd.typeIs
def Um (td ty:TE):TE:=fun σ H Q=>td σ H fun x H1=>ty σ H1 fun y H2=>∃ a v,x=.ref a/\D5 H2 a y (some v)/\Q v H2
def Uk (ty td:TE):TE:=fun σ H Q=>ty σ H fun y H1=>td σ H1 fun x H2=>∃ a o,x=.ref a/\D5 H2 a y o/\Q (.bl o.isSome) H2
def FP (ty td:TE):TE:=fun σ H Q=>ty σ H fun y H1=>td σ H1 fun x H2=>∃ a o,x=.ref a/\D5 H2 a y o/\Q (.bl (!o.isSome)) H2
def Uy (td ty tv:TE):TS:=fun D σ H=>tv σ H fun v H1=>td σ H1 fun x H2=>ty σ H2 fun y H3=>∃ a H4,x=.ref a/\Mp H3 a y v H4/\D.nx σ H4
section
variable {X:Cx}{o i e value:Expr}{pos pos' rG:Pos}{td ty tv:TE}
def NJ (hu:X.A.units+1<cLine)(ho:PE X o td)(hi:PE X i ty)(hs:O7 i):PE X (.Subscript o i pos) (Um td ty):=by
 intro dA s σ H Q I h
 refine FT PySem.F.slot_dict_getitem.lookup hs (gc (ho dA s σ H _ I h) fun u s1 oN=>?_)
 obtain⟨x,H1,I1,rx,q1⟩:=oN
 refine gc (hi dA s1 σ H1 _ I1 q1) fun iv s2 tO=>?_
 obtain⟨y,H2,I2,ry,a,v,ex,g,q2⟩:=tO
 subst ex
 obtain rfl:u=Value.ref a:=rx
 exact⟨DC I2 g,IF hu I2 g ry fun w' s3 I3 Cc=>⟨v,H2,I3,Cc,q2⟩⟩
def Rw (hu:X.A.units+1<cLine)(hi:PE X i ty)(ho:PE X o td):PC X .In i o (Uk ty td):=by
 intro dA s σ H Q I h
 refine gc (hi dA s σ H _ I h) fun iv s1 sD=>?_
 obtain⟨y,H1,I1,ry,q1⟩:=sD
 refine gc (ho dA s1 σ H1 _ I1 q1) fun u s2 qu=>?_
 obtain⟨x,H2,I2,rx,a,ov,ex,g,q2⟩:=qu
 subst ex
 obtain rfl:u=Value.ref a:=rx
 exact YR hu I2 g ry fun s3 I3=>⟨.bl ov.isSome,H2,I3,rfl,q2⟩
def HL (hu:X.A.units+1<cLine)(hi:PE X i ty)(ho:PE X o td):PC X .NotIn i o (FP ty td):=by
 intro dA s σ H Q I h
 refine gc (hi dA s σ H _ I h) fun iv s1 sC=>?_
 obtain⟨y,H1,I1,ry,q1⟩:=sC
 refine gc (ho dA s1 σ H1 _ I1 q1) fun u s2 rl=>?_
 obtain⟨x,H2,I2,rx,a,ov,ex,g,q2⟩:=rl
 subst ex
 obtain rfl:u=Value.ref a:=rx
 exact OA hu I2 g ry fun s3 I3=>⟨.bl (!ov.isSome),H2,I3,rfl,q2⟩
def Ny (hu:X.A.units+1<cLine)(ho:PE X o td)(hi:PE X i ty)(hv:PE X value tv)(hs:swapsWith value (some (.Subscript o i pos')) pos.line X.env=pure false) :
 PS X (.Assign [.Subscript o i pos'] value pos) (Uy td ty tv):=by
 intro dA s σ H D I h
 refine wpAny_Assign_Subscript (gc (hv dA s σ H _ I h) fun r s1 pF=>?_) hs
 obtain⟨v,H1,I1,rv,q1⟩:=pF
 refine gc (ho dA s1 σ H1 _ I1 q1) fun u s2 oN=>?_
 obtain⟨x,H2,I2,rx,q2⟩:=oN
 refine gc (hi dA s2 σ H2 _ I2 q2) fun iv s3 tO=>?_
 obtain⟨y,H3,I3,ry,a,H4,ex,g,q3⟩:=tO
 subst ex
 obtain rfl:u=Value.ref a:=rx
 exact IE hu I3 g ry rv fun s4 I4=>⟨σ,H4,I4,q3⟩
end
def DB {P:ae}{w:af}{H:Hp}(h:Heap)(hb:sysModules<h.objs.size):gh P w H (h.push { cls:=.type "dict",data:=.dict #[]}) h.objs.size (.dK []) :=
 ⟨a6 _,beq_eq_false_iff_ne.mpr (bj (aL hb)),[],.nil,Heap.DictOf.new h⟩
def QN:TE:=fun _ H Q=>∀ p,H p=none->Q (.ref p) (upd H p (.dK []))
section
variable {X:Cx}{pos:Pos}
def JW:PE X (.Dict [] [] pos) QN:=fun dA s σ H Q I h =>
 wpAny_Dict_empty ⟨.ref s.heap.objs.size,_,I.laid (a:=s.heap.objs.size) (o:=.dK []) (t':=s.toks) (fun _ _ q=>j0 _ q) (aj _) (DB s.heap I.big),rfl,h _ (I.fc.fresh (aj _))⟩
end
structure M1 (X:Cx)(o:Expr)(m:Str)(fY:Pos)(e:Expr)(gE:Pos):Prop where
 dD:attributeBase o m X.env (eval o X.env)=eval o X.env
 kX:((backTo gE (starEach [e] X.env)).all (fun x=>!x.1)&&(backToKw gE (keywordEach [] X.env)).all (fun x=>x.1.isSome)
  && decide (([e]:List Expr).length+([]:List Keyword).length+(if([]:List Keyword).isEmpty then 0 else 1)<30))=true
 line:(fY.endLine==gE.line)=true
 trees:backTo gE (starEach [e] X.env)=[(false,eval e X.env)]
structure M2 (X:Cx)(o:Expr)(m:Str)(fY:Pos)(e f:Expr)(gE:Pos):Prop where
 dD:attributeBase o m X.env (eval o X.env)=eval o X.env
 kX:((backTo gE (starEach [e,f] X.env)).all (fun x=>!x.1)&&(backToKw gE (keywordEach [] X.env)).all (fun x=>x.1.isSome)
  && decide (([e,f]:List Expr).length+([]:List Keyword).length+(if([]:List Keyword).isEmpty then 0 else 1)<30))=true
 line:(fY.endLine==gE.line)=true
 trees:backTo gE (starEach [e,f] X.env)=[(false,eval e X.env),(false,eval f X.env)]
def IsD (H:Hp)(a:ai):Prop:=(∃ kvs,Rd H a (.dK kvs))\/∃ kvs,Rd H a (.dT kvs)
def R4 {X:Cx}{dA:List (ai×Obj)}{σ:St}{H:Hp}{s:ah}{a:ai}(I:Inv X dA σ H s)(d:IsD H a) :
 s.TypeIs (.ref a) "dict"/\(∀ b,Value.ref a=.ref b->∃ ob,s.heap.get? b=some ob/\ob.dict=none)/\(a==sysModules)=false:=by
 rcases d with⟨kvs,e⟩ | ⟨kvs,e⟩
 .obtain⟨_,hd,vs,_,dd⟩:=m7 I.fc e
  refine⟨dd.typeIs,fun b q=>?_,hd⟩
  cases q
  obtain⟨ob,_,_,h1,h2,_⟩:=dd
  exact⟨ob,h1,h2.2.1⟩
 .obtain⟨_,hd,xs,_,dd⟩:=zQ I.fc e
  refine⟨dd.typeIs,fun b q=>?_,hd⟩
  cases q
  obtain⟨ob,_,_,h1,h2,_⟩:=dd
  exact⟨ob,h1,h2.2.1⟩
def QL (td ty:TE):TE:=fun σ H Q=>td σ H fun x H1=>∃ a,x=.ref a/\IsD H1 a/\ty σ H1 fun y H2=>∃ kvs k v,H2 a=some (.dK kvs)/\y=kV k/\nG kvs k=some v/\Q v (upd H2 a (.dK (rO kvs k)))
section
variable {X:Cx}{o e f:Expr}{fY gE:Pos}{td ty tx:TE}
def JV (ho:PE X o td)(he:PE X e ty)(m:M1 X o "pop" fY e gE):PE X (.Call (.Attribute o "pop" fY) [e] [] gE) (QL td ty):=by
 intro dA s σ H Q I h
 refine wpAny_Call_method m.dD m.kX m.line PySem.F.plainAttrs_dict PySem.F.slot_dict_pop PySem.F.type_dict_pop (gc (ho dA s σ H _ I h) fun u s1 sD=>?_)
 obtain⟨x,H1,I1,rx,a,ex,d,q1⟩:=sD
 subst ex
 obtain rfl:u=Value.ref a:=rx
 obtain⟨t1,t2,_⟩:=R4 I1 d
 refine⟨t1,t2,?_⟩
 rw[m.trees]
 refine cf rfl (Calls.evalArgs_plain (Calls.spliced_cons (gc (he dA s1 σ H1 _ I1 q1) fun iv s2 qu=>?_)))
 obtain⟨y,H2,I2,ry,kvs,k,v,ea,ey,l,q2⟩:=qu
 refine Calls.spliced_nil ?_
 subst ey
 exact VM I2 ea ry l (.inl rfl) fun w' s3 I3 Cc=>⟨v,_,I3,Cc,q2⟩
end
section
variable {X:Cx}{dA:List (ai×Obj)}{σ:St}{H:Hp}{s:ah}{a:ai}{kvs:List (Key×V)}{A:Around}{E:Value->ah->Prop}
def Lw {Q:Value->ah->Prop}(I:Inv X dA σ H s)(e:Rd H a (.dK kvs))(h:∀ p s',H p=none->Inv X dA σ (upd H p (.dK kvs)) s'->Q (.ref p) s'):wpAny (model X.prog X.w) A (call (.type "dict") [.ref a]) Q E s:=by
 obtain⟨z,hd,vs,rel,dd⟩:=m7 I.fc e
 refine kt_call_dict hd dd (by rw[<- rel.length];exact z) fun h' DF hs=>?_
 refine h _ _ (I.fc.fresh (aj _)) (I.laid (a:=s.heap.objs.size) (o:=.dK kvs) (t':=s.toks) (fun b q hq=>?_) (aj _) (uQ z (beq_eq_false_iff_ne.mpr (bj (aL I.big))) rel DF))
 exact(hs.2 b (aL (kK hq))).trans (j0 _ hq)
end
def yQ (X:Cx)(N:List Str)(sc:Scope)(fp:List ai)(s:ah)(H:Hp):Cx where
 prog:=X.prog
 w:=X.w
 K:=X.K
 mg:=X.mg
 dD:=X.dD
 A:=X.A
 N:=N
 s₀:=s
 H₀:=H
 env:=mP sc s.heap.objs.size X.env
 dW:=X.stack
 stack:=X.stack
 ex:=fp
 fn:=fun x=>sc.names.lookup x==some .cell
 gg:=X.gg
 pn:=[]
 xe:=fun _ _=>False
def x8 (sc:Scope)(h:Heap):Heap:=pushCells (h.push { cls:=.type "dict",data:=.dict #[]}) sc.names
def vw {sc:Scope}{h:Heap}:∀ b o,h.get? b=some o->(x8 sc h).get? b=some o:=fun b o e=>de _ _ b o (j0 _ e)
section
variable {X:Cx}{dA:List (ai×Obj)}{σ:St}{H:Hp}{s:ah}{N:List Str}{js:List (Option Nat)}{sc:Scope}{fp:List ai}
def Ii (I:Inv X dA σ H s)(hc:i8 X N js sc)(hf:∀ b∈fp,o9 X dA H b)(ho:∀ b∈fp,∃ o,s.heap.get? b=some o)(tk:Nat) :
 Inv (yQ X N sc fp s H) [] (gi js σ) H { s with heap:=x8 sc s.heap,toks:=tk}:=by
 have K8:∀ y∈sc.names,y.2=.free->∃ c,X.env.cells.lookup y.1=some c:=fun y hy e=>I.ok.has y.1 (hc.free y hy e)
 have ok:=cellsFrom_ok sc.names (s.heap.push { cls:=.type "dict",data:=.dict #[]}) (s.heap.objs.size+1) [] ⟨fun _ _ hm=>(nomatch hm),List.Pairwise.nil⟩
  (by rw[bc];exact aj _)
 rw[bc]at ok
 have eC:(mP sc s.heap.objs.size X.env).cells=cellsFrom (s.heap.objs.size+1) sc.names []++kF X.env.cells sc.names []:=lu sc.names _ [] _
 have lk:∀ x c,(mP sc s.heap.objs.size X.env).cells.lookup x=some c->(x,c)∈cellsFrom (s.heap.objs.size+1) sc.names []\/X.env.cells.lookup x=some c:=fun x c e=>by
  rw[eC]at e
  rcases List.mem_append.mp (mem_of_lookup e)with h | h
  .exact .inl h
  .rcases oW K8 x c h with h | h
   .cases h
   .exact .inr h
 have big:∀(x:Str) (c:Nat),(x,c)∈cellsFrom (s.heap.objs.size+1) sc.names []->s.heap.objs.size+1<=c:=fun x c h=>(ok.empty x c h).2
 have small:∀(x:Str) (c:Nat),X.env.cells.lookup x=some c->c<s.heap.objs.size:=fun x c h=>let ⟨_,q⟩:=I.cell x c h;q.lt
 have has:∀ x,((mP sc s.heap.objs.size X.env).kindOf x=some .cell\/(mP sc s.heap.objs.size X.env).kindOf x=some .free)->∃ c,(mP sc s.heap.objs.size X.env).cells.lookup x=some c:=fun x h=>by
  have h':(relabel sc X.env).names.lookup x=some .cell\/(relabel sc X.env).names.lookup x=some .free:=h
  rw[kC]at h'
  rw[eC,dn]
  cases q:sc.names.lookup x with
  | none=>rw[q]at h';rcases h' with h' | h' <;> cases h'
  | some k =>
   rw[q]at h'
   have hk:=Cd (env:=X.env) (x:=x) (k:=k) (h'.elim (fun z=>.inl (aS z)) fun z=>.inr (aS z))
   rcases hk with rfl | rfl
   .obtain⟨c,uO⟩:=nQ (n:=s.heap.objs.size+1) q
    exact⟨c,by rw[uO];rfl⟩
   .have z:=oX (cells:=X.env.cells) sc.names [] x (mem_of_lookup q)
    obtain⟨c,uO⟩:=Option.isSome_iff_exists.mp z
    cases q2:(cellsFrom (s.heap.objs.size+1) sc.names []).lookup x with
    | none=>exact⟨c,by rw[uO];rfl⟩
    | some d=>exact⟨d,rfl⟩
 have IQ:(yQ X N sc fp s H).Ok:=by
  refine⟨I.ok.mod,hc.kind,I.ok.glob,I.ok.blt,aj _,fun x y c h1 h2=>?_,has,fun x c hx h=>?_,I.ok.hd,I.ok.frames,.inl rfl,fun b hb=>⟨?_,fun x c h=>?_⟩,I.bs,aE I.ok.Fj I.sz,fun b o e hb=>?_,fun b hb hs=>?_,I.stack,I.qX⟩
  .rcases lk x c h1 with g1 | g1 <;> rcases lk y c h2 with g2 | g2
   .exact name_of_addr ok.apart g1 g2
   .exact absurd (aA (small _ _ g2) (aE (bb _ 1) (big _ _ g1))) (bB _)
   .exact absurd (aA (small _ _ g1) (aE (bb _ 1) (big _ _ g2))) (bB _)
   .exact I.ok.inj x y c g1 g2
  .have CZ:sc.names.lookup x=some .cell:=by simpa [yQ]using hx
   have h':(mP sc s.heap.objs.size X.env).cells.lookup x=some c:=h
   rw[eC,dn]at h'
   obtain⟨c2,uO⟩:=nQ (n:=s.heap.objs.size+1) CZ
   rw[uO]at h'
   have e:c2=c:=aS h'
   subst e
   exact aE (bb _ 1) (big _ _ (mem_of_lookup uO))
  .obtain⟨o,e⟩:=ho b hb
   exact aL (kK e)
  .obtain⟨o,e⟩:=ho b hb
   have l:=kK e
   rcases lk x c h with g | g
   .exact bt (aA l (aE (bb _ 1) (big _ _ g)))
   .exact(hf b hb).2.2.2.2.1 x c g
  .rcases(hf b hb).2.2.2.1 with z | z
   .exact I.ok.CA b o e z
   .exact absurd (aA (kK e) (aE I.ok.Fj z)) (bB _)
  .rcases List.mem_cons.mp (I.xi b hs)with z | z
   .exact(hf b hb).2.1 z
   .exact(hf b hb).2.2.1 z
 have tI:∀ b u,s.heap.get? b=some u->(x8 sc s.heap).get? b=some u:=vw
 have XO:(x8 sc s.heap).Ns s.heap.objs.size fun _=>none:=by
  have q:=(Heap.Ns.new s.heap (.type "dict")).keeps (de sc.names _)
  exact q
 refine⟨IQ,rfl,I.bare,Un.dE tI,⟨_,XO,fun i x v e1 e2 e3=>?_⟩,fun x c h=>?_,I.fc.fresh (aj _),fun x c h=>?_,fun p hp=>absurd (show p∈([]:List (ai×Obj))from hp) (by simp),I.fc.dE tI,?_⟩
 .obtain⟨j,hj,hv⟩:=ya e2
  obtain⟨g1,g2,g3,g4⟩:=hc.slot i x j e1 hj
  have kx:=hc.free _ g2 rfl
  obtain⟨m,hn,hl⟩:=I.loc
  obtain⟨u,r,l⟩:=hl j x v g1 hv (.inr kx)
  refine⟨u,r,?_⟩
  rcases l with⟨z,_⟩ | ⟨_,c,MG,vA⟩
  .have z':X.env.kindOf x=some .local:=z
   rcases kx with k | k <;> (have k':X.env.kindOf x=_:=k;rw[z']at k';cases k')
  .have kY:(mP sc s.heap.objs.size X.env).kindOf x=some .cell\/(mP sc s.heap.objs.size X.env).kindOf x=some .free:=by
    show(relabel sc X.env).names.lookup x=some .cell\/(relabel sc X.env).names.lookup x=some .free
    rw[kC,g3]
    rcases zt (env:=X.env) (x:=x)with q | q
    .exact .inl (show some (uE X.env x .free)=_ by rw[q])
    .exact .inr (show some (uE X.env x .free)=_ by rw[q])
   obtain⟨c',h'⟩:=has x kY
   refine .inr ⟨kY,c',h',?_⟩
   rcases lk x c' h' with g | g
   .rcases lr _ _ _ _ _ g with z | z
    .exact absurd z g4
    .cases z
   .rw[MG]at g;cases g
    exact vA.keeps tI
 .rcases lk x c h with g | g
  .exact⟨_,(ok.empty x c g).1⟩
  .obtain⟨v,q⟩:=I.cell x c g
   exact⟨v,q.keeps tI⟩
 .rcases lk x c h with g | g
  .exact I.fc.fresh (aE (bb _ 1) (big _ _ g))
  .exact I.kO x c g
 .show(gi js σ).length=N.length
  unfold gi
  rw[fH];exact hc.len
end
def zi {prog:ae}{w:af}{A:Around}{R:Result->ah->Prop}{s:ah}{kx vx target iter:Expr}{ifs:List Expr}{scope:Scope}{pos:Pos}{it:Value}{D:ai}{env:Env}(I:Nat->ah->Prop)
 (turn:∀ n s,I n s->wpAny (model prog w) A (pyNext it) (fun r s₁=>match r with
   | none=>R (.ok .next) s₁
   | some v=>wpAny (model prog w) A (letOwnedTupleGo target it v) (fun _ B3=>wpAny (model prog w) A (assign target env v) (fun _ s₂ =>
    wpAny (model prog w) A (forIn ifs true fun c r=>if r=true then do let ok <- isTrue c env (eval c env);pure (ForInStep.yield ok)else pure (ForInStep.yield r)) (fun ok s₃ =>
     if ok=true then wpAny (model prog w) A (eval kx env) (fun kv s₄=>wpAny (model prog w) A (eval vx env) (fun vv s₅ =>
      wpAny (model prog w) A (dictSet D kv vv) (fun _ s₆=>∃ m,m<n/\I m s₆) (fun _ _=>False) s₅) (fun _ _=>False) s₄) (fun _ _=>False) s₃
     else ∃ m,m<n/\I m s₃) (fun _ _=>False) s₂) (fun _ _=>False) B3) (fun _ _=>False) s₁) (fun _ _=>False) s)
 (n:Nat) (h:I n s) :
 codeAny (model prog w) A (.compLoop (.DictComp kx vx [⟨target,iter,ifs,0⟩] scope pos) 0 it (.ref D) env) R s:=by
 refine codeAny_loop rfl I (fun n s hI=>?_) n h
 show wpAny _ A ((compTurn (.DictComp kx vx [⟨target,iter,ifs,0⟩] scope pos) 0 it (.ref D) env).onRaise (fun x=>do noteFrame x env;theTreesLotGoes x)) _ _ s
 refine wpAny_noted ?_
 rw[compTurn_dict]
 refine fb (c8 (fb (bo (turn n s hI) (fun r s₁ h₁=>?_) fun _ _ h'=>h'.elim)))
 cases r with
 | none=>exact av h₁
 | some v =>
  refine fb (bo h₁ (fun _ B3 KQ=>?_) fun _ _ h'=>h'.elim)
  refine fb (bo KQ (fun _ s₂ h₂=>fb (bo h₂ (fun ok s₃ h₃=>?_) fun _ _ h'=>h'.elim)) fun _ _ h'=>h'.elim)
  cases ok with
  | false=>exact av ⟨rfl,h₃⟩
  | true =>
   exact fb (fb (bo h₃ (fun x s₄ h₄=>fb (bP (bo h₄ (fun y s₅ h₅=>fb (c8 (bP (bo h₅ (fun _ s₆ h₆=>av ⟨rfl,h₆⟩) fun _ _ h'=>h'.elim)))) fun _ _ h'=>h'.elim))) fun _ _ h'=>h'.elim))
def Jj (js:List (Option Nat))(g:TG)(tt:TT)(tk tv:TE)(J:It)(σ:St)(D:ai)(H1:Hp)(fin:List (Key×V)->Hp->Prop):Prop :=
 ∃ W:Nat->Nat->List (Key×V)->Hp->Prop,(∃ m,W 0 m [] H1)/\∀ i m kvs H,W i m kvs H ->
  (J.stop i H/\fin kvs H)\/(J.go i H/\∀ x H',J.Jh i H x H'->g x (gi js σ) H' fun nA H2=>Ext (gi js σ) nA/\tt nA H2 fun b H3 =>
    if b=true then tk nA H3 fun k H4=>tv nA H4 fun v H5=>∃(kk:Key) (Ku:List (Key×V)),k=kV kk/\H5 D=some (.dK Ku)/\Ku.length<sizeLine/\∃ m',m'<m/\W (i+1) m' (putK Ku kk v) (upd H5 D (.dK (putK Ku kk v)))else ∃ m',m'<m/\W (i+1) m' kvs H3)
section
variable {X:Cx}{dA:List (ai×Obj)}{σ:St}{H:Hp}{s:ah}
def dict_set {A:Around}{E:Value->ah->Prop}{a:ai}{kvs:List (Key×V)}{k:Key}{u r:Value}{v:V}{Q:Unit->ah->Prop}(I:Inv X dA σ H s)(e:H a=some (.dK kvs))(l:kvs.length<sizeLine)(ry:fm (kV k) u)(rv:fm v r)
 (h:∀ s',Inv X dA σ (upd H a (.dK (putK kvs k v))) s'->Q () s'):wpAny (model X.prog X.w) A (dictSet a u r) Q E s:=by
 obtain⟨z,hd,vs,rel,dd⟩:=GR I.fc e
 have hz:vs.length<=sizeLine:=by rw[<- rel.length];exact z
 have hl:(putK kvs k v).length<=sizeLine:=by have:=qo kvs k v;lia
 refine wpAny_dictSet_pairs (hsz:=hz) (tJ ry) dd fun h' DF hs=>h _ ?_
 have he:∃ q,h'.get? a=some q:=let ⟨q,_,_,hq,_⟩:=DF;⟨q,hq⟩
 exact rq I (by rw[e];exact True.intro) hs he (uQ hl hd (rel.put k rv) DF)
variable {N:List Str}{js:List (Option Nat)}{sc:Scope}{fp:List ai}{tg kx vx iter:Expr}{ifs:List Expr}{g:TG}{tt:TT}{tk tv:TE}
def DQ {J:It}{it D:ai}{tn:Nat->Heap->Prop}{pos:Pos}{R:Result->ah->Prop}{fin:List (Key×V)->Hp->Prop}{tok:Nat}(I:Inv X dA σ H s)(hc:i8 X N js sc)(gg:X.gg=true)
 (T:Turn X.prog X.w X.K tg J fp it tn) (st:tn 0 s.heap) (hf:∀ b∈fp,o9 X dA H b)
 (hg:PG (yQ X N sc fp s H) tg g) (ht:Ja (yQ X N sc fp s H) ifs tt) (hk:PE (yQ X N sc fp s H) kx tk) (hv:PE (yQ X N sc fp s H) vx tv) (q:Jj js g tt tk tv J σ D H fin)
 (hR:∀ s' H' kvs m,Inv X dA σ H' s'->fin kvs H'->s'.heap.Ns s.heap.objs.size m->H' s.heap.objs.size=none->R (.ok .next) s') :
 codeAny (model X.prog X.w) X.A (.compStart (.DictComp kx vx [⟨tg,iter,ifs,0⟩] sc pos) 0 (.ref it) (.ref D) (mP sc s.heap.objs.size X.env)) R { s with heap:=x8 sc s.heap,toks:=tok}:=by
 have TR:∀ b∈fp,∃ o,s.heap.get? b=some o:=fun b hb=>let ⟨o,e,_⟩:=T.obj 0 s.heap st b hb;⟨o,e⟩
 have I0:=Ii I hc hf TR tok
 have IQ:=I0.ok
 obtain⟨W,⟨m0,w0⟩,turn⟩:=q
 have xk:∀ {H':Hp},(∀ b∈fp,H' b=none)->∀ b∈fp,o9 (yQ X N sc fp s H) [] H' b:=fun {H'} hn b hb =>
  ⟨hn b hb,(IQ.Qn b hb).1,IQ.Du b hb,.inl hb,(IQ.Qn b hb).2,fun p hp=>absurd (show p∈([]:List (ai×Obj))from hp) (by simp)⟩
 have Uq:tn 0 (x8 sc s.heap):=T.keep 0 _ _ st fun b _ o e=>vw b o e
 have loop:codeAny (model X.prog X.w) X.A (.compLoop (.DictComp kx vx [⟨tg,iter,ifs,0⟩] sc pos) 0 (.ref it) (.ref D) (mP sc s.heap.objs.size X.env)) R { s with heap:=x8 sc s.heap,toks:=tok}:=by
  refine zi (fun n s'=>∃ i kvs H',Inv (yQ X N sc fp s H) [] (gi js σ) H' s'/\tn i s'.heap/\(∀ b∈fp,H' b=none)/\W i n kvs H') ?_ m0
   ⟨0,[],H,I0,Uq,fun b hb=>(hf b hb).1,w0⟩
  rintro n s3 ⟨i,kvs,H3,I3,Mw,Qi,w3⟩
  rcases turn i n kvs H3 w3 with⟨stop,qf⟩ | ⟨go,step⟩
  .refine gc (T.done (yQ X N sc fp s H) rfl rfl rfl gg i _ s3 _ H3 _ I3 (xk Qi) Mw stop) fun r s4 sC=>?_
   obtain⟨hr,I4⟩:=sC
   subst hr
   show R (.ok .next) s4
   obtain⟨m,Qd,_⟩:=I4.loc
   have IX:Inv X dA σ H3 s4:=I.zU (ch:=fp) I4.os I4.dD I4.fc I4.bare fun b hb=>by
    obtain⟨f0,f1,f2,f3,f4,f5⟩:=hf b hb
    exact⟨f3,f1,f4,f5⟩
   exact hR s4 H3 kvs m IX qf Qd I4.free
  .refine gc (T.item (yQ X N sc fp s H) rfl rfl rfl gg i _ s3 _ H3 _ I3 (xk Qi) Mw go) fun r s4 rl=>?_
   obtain⟨u,hr,h4⟩:=rl
   subst hr
   refine gc h4 fun _ s5 pF=>?_
   obtain⟨x,H5,I5,r5,y5,Jx,Vw⟩:=pF
   have Wt:=I5.pinned (xk Vw) (T.obj _ _ Jx)
   refine gc (hg _ s5 _ H5 x u _ Wt r5 (step x H5 y5)) fun _ s6 ⟨Mu,H6,I6,⟨Li,q6⟩⟩=>?_
   refine gc (ht _ s6 Mu H6 _ I6 q6) fun b s7 oN=>?_
   obtain⟨H7,I7,q7⟩:=oN
   have back:∀ {s':ah} {H':Hp},Inv (yQ X N sc fp s H) ([]++uH fp s5.heap) Mu H' s'->tn (i+1) s'.heap/\(∀ b∈fp,H' b=none)/\Inv (yQ X N sc fp s H) [] (gi js σ) H' s':=fun {s' H'} I'=>by
    refine⟨T.keep _ _ _ Jx fun b hb o e=>(I'.pin (b,o) (aO _ (aO _ (kU hb e)))).1,fun b hb=>?_,(I'.weak Li.1 Li.2).pV⟩
    obtain⟨o,e,d⟩:=T.obj _ _ Jx b hb
    exact(I'.pin (b,o) (aO _ (aO _ (kU hb e)))).2.1
   cases b with
   | false =>
    obtain⟨m',hm,w7⟩:=q7
    obtain⟨t7,f7,Zu⟩:=back I7
    exact⟨m',hm,i+1,kvs,H7,Zu,t7,f7,w7⟩
   | true =>
    refine gc (hk _ s7 Mu H7 _ I7 q7) fun y s8 tO=>?_
    obtain⟨yk,H8,I8,ry,q8⟩:=tO
    refine gc (hv _ s8 Mu H8 _ I8 q8) fun z s9 sD=>?_
    obtain⟨zv,H9,I9,rz,kk,Ku,ek,eD,hl,m',hm,w9⟩:=sD
    subst ek
    refine dict_set (X:=yQ X N sc fp s H) I9 eD hl ry rz fun s10 I10=>?_
    obtain⟨t8,f8,Ws⟩:=back I10
    exact⟨m',hm,i+1,_,_,Ws,t8,f8,w9⟩
 exact codeAny_compStart_dict loop (T.self _ 0 _ _ _ Uq loop)
def Jv (wi:TI)(js:List (Option Nat))(g:TG)(tt:TT)(tk tv:TE):TE:=fun σ H Q=>wi σ H fun J H1=>∀ D,H1 D=none->Jj js g tt tk tv J σ D (upd H1 D (.dK [])) fun _ H'=>Q (.ref D) H'
end
def oM:D->Option Key
 | .int i=>some (.inl i)
 | .str z=>some (.inr z)
 | _=>none
def oK {φ:List ai}{H:Hp}{d:D}{v:V}{k:Key}(e:oM d=some k)(i:jC φ H d v):v=kV k:=by
 cases d with
 | int n=>cases e;exact i
 | str z=>cases e;exact i
 | _=>cases e
def dput (kvs:List (Key×D))(k:Key)(d:D):List (Key×D):=if(kvs.any fun kv=>decide (kv.1=k))=true then kvs.map (fun kv=>if kv.1=k then(kv.1,d)else kv)else kvs++[(k,d)]
def qE (kvs:List (Key×D))(k:Key):Option D:=(kvs.find? fun kv=>decide (kv.1=k)).map (·.2)
def Lo (kvs:List (Key×D))(k:Key)(d:D):(dput kvs k d).length<=kvs.length+1:=by
 unfold dput
 split
 .rw[fH];lia
 .rw[j3,aN];lia
def Ly (ρ:DE)(y:DG)(t:Dt)(wk wv:De)(d:D)(μ:MS)(K:Option (Key×D)->MS->Prop):Prop:=y d ρ μ fun lg fG=>t lg fG fun b lS=>if b=true then wk lg lS fun kd FI=>opt (oM kd) fun k=>wv lg FI fun v T5=>K (some (k,v)) T5 else K none lS
def Fr.PR {φ ft:List ai}{H H':Hp}(f:Fr φ H ft H')(hl:ft.length=φ.length):ft=φ:=by
 obtain⟨⟨ψ,rfl,_⟩,_,_⟩:=f
 rw[j3]at hl
 have:ψ=[]:=List.length_eq_zero_iff.mp (by lia)
 rw[this,aV]
section
variable {X:Cx}{a b e:Expr}{es:List Expr}{pos:Pos}
variable {N:List Str}{js:List (Option Nat)}{sc:Scope}{tg kx vx iter:Expr}{ifs:List Expr}{g:TG}{y:DG}{S:List Nat}{t:Dt}{wk wv:De}
def yq {φ:List ai}{H:Hp}{ks:List Key}:∀ {ds:List D} {kvs:List (Key×V)} {k:Key} {d:D},kvs.map (·.1)=ks->eK φ H ds (kvs.map (·.2))->qE (ks.zip ds) k=some d->∃ v,nG kvs k=some v/\jC φ H d v:=by
 intro ds kvs
 induction kvs generalizing ks ds with
 | nil=>intro k d h1 h2 h3;cases h1;cases h3
 | cons p kvs ih =>
  intro k d h1 h2 h3
  cases ks with
  | nil=>cases h1
  | cons k0 ks =>
   cases ds with
   | nil=>cases(show _=_ from h2)
   | cons d0 ds =>
    obtain⟨v,r,e,h4,h5⟩:=h2
    simp only[aw,bU]at h1 e
    obtain⟨rfl,rfl⟩:=e
    obtain⟨rfl,h1⟩:=h1
    rw[dm]at h3
    unfold qE at h3
    rw[bA]at h3
    by_cases hk:p.1=k
    .simp only[hk,decide_true]at h3
     cases h3
     exact⟨p.2,pS hk,h4⟩
    .simp only[hk,decide_false]at h3
     obtain⟨v,a,b⟩:=ih h1 h5 (k:=k) (d:=d) h3
     exact⟨v,by rw[pT hk];exact a,b⟩
end
def clN (l:List Nat)(e:Nat):Nat:=e+((l.drop e).takeWhile (·==111)).length
def Vz (es:List Int)(l:List Nat)(e:Int):Int:=(es.filter fun x=>decide (x<=(clN l e.toNat:Int))).foldl max e
structure Wi (es row:List Int):Prop where
 len:row.length=es.length
 mem:∀ x∈row,x∈es
def zip_parts {α β:Type}:∀ l:List (α×β),(l.map (·.1)).zip (l.map (·.2))=l
 | []=>rfl
 | p::l=>by rw[aw,aw,dm,zip_parts l]
section
variable {X:Cx}{N:List Str}{sc:Scope}{js:List (Option Nat)}{tg iter kx vx:Expr}{ifs:List Expr}{g:TG}{tt:TT}{tk tv:TE}
def JY {wi:TI}{pos:Pos}(hc:i8 X N js sc)(gg:X.gg=true)(hi:PI X tg iter wi)(hg:∀ fp s H,PG (yQ X N sc fp s H) tg g)
 (ht:∀ fp s H,Ja (yQ X N sc fp s H) ifs tt) (hk:∀ fp s H,PE (yQ X N sc fp s H) kx tk) (hv:∀ fp s H,PE (yQ X N sc fp s H) vx tv)
 (hs:∀ x,foldedSetIterable iter X.env x=pure x:=by intro _;rfl):PE X (.DictComp kx vx [⟨tg,iter,ifs,0⟩] sc pos) (Jv wi js g tt tk tv):=by
 intro dA s σ H Q I h
 rw[show eval (.DictComp kx vx [⟨tg,iter,ifs,0⟩] sc pos) X.env=comprehension (.DictComp kx vx [⟨tg,iter,ifs,0⟩] sc pos) sc X.env (firstIterPos [⟨tg,iter,ifs,0⟩] pos) newDict (firstAsync [⟨tg,iter,ifs,0⟩]) (firstIter [⟨tg,iter,ifs,0⟩] X.env)from rfl]
 refine cy (use:=none) rfl hs (lj fun y hy e=>I.ok.has y.1 (hc.free y hy e)) hc.kind hc.loc (gc (hi dA s σ H _ I h) fun v s1 h1=>gc h1 fun Qb s2 h2=>?_)
 obtain⟨it,fp,tn,J,H2,e,I2,T,FU,f2,q⟩:=h2
 subst e
 refine ba (m3 ?_)
 have hD:H2 s2.heap.objs.size=none:=I2.fc.fresh (aj _)
 have I3:Inv X dA σ (upd H2 s2.heap.objs.size (.dK [])) { s2 with heap:=s2.heap.push { cls:=.type "dict",data:=.dict #[]}}:=I2.laid (t':=s2.toks) (fun _ _ q=>j0 _ q) (aj _) (DB s2.heap I2.big)
 have hC:(s2.heap.push { cls:=.type "dict",data:=.dict #[]}).objs.size=s2.heap.objs.size+1:=bc ..
 have Mw:tn 0 (s2.heap.push { cls:=.type "dict",data:=.dict #[]}):=T.keep 0 _ _ FU fun b _ o e=>j0 _ e
 have TR:∀ b∈fp,b≠s2.heap.objs.size:=fun b hb=>let ⟨o,e,_⟩:=T.obj 0 s2.heap FU b hb;aL (kK e)
 have f3:∀ b∈fp,o9 X dA (upd H2 s2.heap.objs.size (.dK [])) b:=fun b hb=>⟨by rw[eP (TR b hb)];exact(f2 b hb).1,(f2 b hb).2⟩
 refine DQ (s:={ s2 with heap:=s2.heap.push { cls:=.type "dict",data:=.dict #[]}}) (tok:=s2.toks) I3 hc gg T Mw f3 (hg fp _ _) (ht fp _ _) (hk fp _ _) (hv fp _ _) (q s2.heap.objs.size hD) fun s' H' kvs m IX qf nC hn=>?_
 have uu:s2.heap.objs.size<(s2.heap.push { cls:=.type "dict",data:=.dict #[]}).objs.size:=by rw[hC];exact bX _
 have BP:∀(b:ai) (o:Obj),s2.heap.get? b=some o->b≠(s2.heap.push { cls:=.type "dict",data:=.dict #[]}).objs.size:=fun b o e=>aL (Nat.lt_trans (kK e) uu)
 refine⟨m,nC,fun h' sb=>?_⟩
 have IY:Inv X dA σ H' { s' with heap:=h'}:=IX.turned (t':=s'.toks) (it:=(s2.heap.push { cls:=.type "dict",data:=.dict #[]}).objs.size) (fun b o hb e=>(sb.2 b hb).trans e) hn
  (bt (Nat.lt_trans I2.lt uu)) (.inr (Nat.le_of_lt (cj I2.sz uu))) (fun x c e=>let ⟨v,z⟩:=I2.cell x c e;aL (Nat.lt_trans z.lt uu)) (fun p hp=>BP _ _ (I2.pin p hp).1)
 exact⟨.ref _,_,IY,rfl,qf⟩
variable {y:DG}{S:List Nat}{t:Dt}{wk wv:De}
end
def l6 (lo:Int)(n:Nat):lU lo (n+1)=.int lo::lU (lo+1) n:=by
 unfold lU
 rw[List.range_succ_eq_map,aw,aJ]
 congr 1
 .simp
 .refine cb fun i _=>?_
  show D.int (lo+((i+1:Nat):Int))=_
  congr 1
  lia
def gQ {μ g:MS}(hm:∀(j:Nat) (m:MO),μ[j]?=some m->Eh μ.length m):∀(j:Nat) (m:MO),j<μ.length->(μ++g)[j]?=some m->Eh μ.length m:=fun j m hj e=>by
 rw[uv hj]at e;exact hm j m e
def uJ {μ:MS}{k:Nat}{ds:List D}(h:AW μ k=some ds):Tc "list" μ (.mr k):=by show(match μ[k]? with | some (.lst _) => "list" = "list" | some (.jr _ _) => "list" = "dict" | _=>False);rw[qm h]
def o4 {α:Type}(xs:List α)(x:α):pJ (xs++[x]) (-1)=some x:=by
 unfold pJ Ie
 rw[aq (by decide),au (by rw[j3,aN];lia)]
 show(xs++[x])[((-1:Int)+((xs++[x]).length:Nat)).toNat]?=some x
 rw[j3,aN,show((-1:Int)+((xs.length+1:Nat):Int)).toNat=xs.length by lia,oP (aj _),aR]
 rfl
def G1 {α:Type}(g:α->D)(ts:List α)(k:Nat):cutD (ts.map g) none (some (k:Int))=(ts.take k).map g:=by
 unfold cutD
 rw[HT.tu,HT.mV,fH,List.drop_zero,Nat.sub_zero,<- List.map_take]
 congr 1
 rcases Nat.le_total k ts.length with h | h
 .rw[b9 h]
 .rw[Nat.min_eq_right h,bf (aj _),bf h]
def XU {ds:List D}{μ:MS}{K:DK}(h:K (.lst ds) μ):nL false ds μ K:=h
def Wj (row:List Int):Prop:=∀(i j:Nat) (a b:Int),i<=j->row[i]?=some a->row[j]?=some b->a<=b
structure O5 (es:List Int)(ts:List Tk)(a:Int)(row:List Int):Prop where
 ok:Wi es row
 up:Wj row
 ge:∀(i:Nat) (x e:Int),row[i]?=some x->es[i]?=some e->e<=x
 far:∀(i:Nat) (x e:Int),row[i]?=some x->es[i]?=some e->∀ t∈ts,t.2<=a->Vz es t.1 e<=x
structure Mo (es:List Int)(ts:List Tk)(a:Int)(row:List Int)(k:Nat):Prop where
 mem:∀(i:Nat) (x:Int),i<k->row[i]?=some x->x∈es
 up:∀(i j:Nat) (x y:Int),i<=j->j<k->row[i]?=some x->row[j]?=some y->x<=y
 ge:∀(i:Nat) (x e:Int),i<k->row[i]?=some x->es[i]?=some e->e<=x
 far:∀(i:Nat) (x e:Int),i<k->row[i]?=some x->es[i]?=some e->∀ t∈ts,t.2<=a->Vz es t.1 e<=x
def Mo.all {es:List Int}{ts:List Tk}{a:Int}{row:List Int}(g:Mo es ts a row row.length)(hl:row.length=es.length):O5 es ts a row:=by
 have lt:∀ {i:Nat} {x:Int},row[i]?=some x->i<row.length:=fun e=>(l8 e).1
 exact⟨⟨hl,fun x hx=>by obtain⟨i,hi,e⟩:=cE hx;exact g.mem i x hi (by rw[sP hi,e])⟩,fun i j x y Io e1 e2=>g.up i j x y Io (lt e2) e1 e2,fun i x e e1 e2=>g.ge i x e (lt e1) e1 e2,fun i x e e1 e2=>g.far i x e (lt e1) e1 e2⟩
def iF {α:Type}{it:D->MS->(Option D->MS->Prop)->Prop}{c:MS->Prop}{μ:MS}(hc:c μ)(g:α->D)(f:α->Option D):∀ {xs:List α} {K:List D->MS->Prop},(∀ x∈xs,∀(K':Option D->MS->Prop),K' (f x) μ->it (g x) μ K')->K (xs.filterMap f) μ->qH it c (xs.map g) μ K
 | [],K,_,k=>⟨hc,k⟩
 | x::xs,K,h,k=>⟨hc,h x aH _ (iF hc g f (fun y hy=>h y (oO _ hy)) (by
  cases e:f x with
  | none=>rw[List.filterMap_cons_none e]at k;exact k
  | some y=>rw[List.filterMap_cons_some e]at k;exact k))⟩
def rC {α:Type}{it:D->MS->(Option D->MS->Prop)->Prop}{c:MS->Prop}{μ:MS}(hc:c μ)(g f:α->D){xs:List α}{K:List D->MS->Prop}(h:∀ x∈xs,∀(K':Option D->MS->Prop),K' (some (f x)) μ->it (g x) μ K')(k:K (xs.map f) μ):qH it c (xs.map g) μ K:=by
 refine iF hc g (fun x=>some (f x)) h ?_
 rw[List.filterMap_eq_map']
 exact k
def L9 {α:Type}{g:α->D}{xs:List α}{k:Nat}{x:α}(h:xs[k]?=some x):pJ (xs.map g) (k:Int)=some (g x):=o3 h
def iz.le {j k:Nat}{A:Around}(r:iz k A)(h:j<=k:=by first | decide | exact aj _ | lia):iz j A:=r.mono h
def lo {sc:Scope}{x:Str}(h:Loc sc x:=by first | exact Or.inl rfl | exact Or.inr rfl):Loc sc x:=h
def RP {μ g:MS}{i:Nat}{ds:List D}(h:g[i]?=some (.lst ds)):AW (μ++g) (μ.length+i)=some ds:=fJ (by rw[oP (by lia),b8];exact h)
def kT {n:Nat}:∀ {ds:List D},(∀ d∈ds,yP n d)->rk n ds
 | [],_=>by unfold rk;trivial
 | d::ds,h=>by unfold rk;exact⟨h d aH,kT fun x hx=>h x (oO _ hx)⟩
def P0 (a b:Tk)(p:Int):Tk:=(a.1.take p.toNat++b.1.drop p.toNat,max a.2 b.2+1)
def wN:jJ:=fun ds μ K=>match ds with
 | [.tup [.str z,.int a],.tup [.str y,.int b],.int p]=>∃ x u:Tk,z=txt x.1/\a=x.2/\y=txt u.1/\b=u.2/\0<=p/\x.1.length<=1000/\u.1.length<=1000/\K (kh (P0 x u p)) μ
 | _=>False
def SW {μ:MS}{x:List D}{y:MO}:AW (μ++[.lst x,y]) μ.length=some x:=RP (μ:=μ) (g:=[.lst x,y]) (i:=0) rfl
section
variable {X:Cx}{e:Expr}{pos:Pos}
def V3:De:=fun _ μ K=>K (.mr μ.length) (μ++[.jr [] []])
def Bk:PD X (.Dict [] [] pos) V3:=JW.imp fun σ H Q ⟨φ,ρ,μ,K,A,M,k,L⟩=>fun p hp=>by
 obtain⟨M',f⟩:=M.snoc (o:=.dK []) (m:=.jr [] []) hp ⟨[],[],eI,rfl,rfl,rfl⟩
 exact L _ _ _ _ _ k f M' ⟨p,by rw[oP (by rw[M.len];exact aj _),M.len,aR];rfl,rfl⟩
end
def Xc (a:ai)(o:Obj)(kvs:List (Key×V)):It:=⟨fun i H=>i<kvs.length/\H a=some (.mC o (.dK kvs)),fun i H x H'=>H'=H/\∃ p,kvs[i]?=some p/\x=kV p.1,fun i H=>kvs.length<=i/\H a=some (.mC o (.dK kvs))⟩
def Kz {k:Key}{u:Value}(h:xX k u=true):fm (kV k) u:=by
 rcases gV h with⟨i,t,rfl,rfl⟩ | ⟨x,t,rfl,rfl⟩
 .exact⟨t,rfl⟩
 .exact⟨t,rfl⟩
def Gs {κ:Type}{kvs:List (κ×V)}{vs:List (κ×Value)}(h:KV kvs vs):∀ {i:Nat} {p:κ×V},kvs[i]?=some p->∃ v,vs[i]?=some (p.1,v):=by
 unfold KV at h
 induction h with
 | nil=>intro i p e;simp at e
 | @cons a b as bs r _ ih =>
  intro i p e
  cases i with
  | zero =>
   simp at e
   subst e
   refine⟨b.2,?_⟩
   rw[r.1];rfl
  | succ i=>exact ih (by simpa using e)
def Hx {P:ae}{w:af}{K:aa}{tg:Expr}(a it:ai){o:Obj}{kvs:List (Key×V)}{vs:List (Key×Value)}{ep:Nat}(kv:KV kvs vs)(hd:∀ h:Heap,h.get? a=some o->h.DictAt (fK P w) a vs ep) :
 Turn P w K tg (Xc a o kvs) [it] it (fun i h=>h.IsKeyIter it a i vs.length ep) where
 mem:=by simp
 obj:=fun i h st b hb=>by
  have e:b=it:=by simpa using hb
  subst e
  obtain⟨o,e,c,d⟩:=st
  exact⟨o,e,fun v z=>by rw[d]at z;cases z⟩
 keep:=fun i h h' st k=>st.at fun o e=>k it (by simp) o e
 item:=by
  intro X hP hw hK hc i dA s σ H E I hf st hg
  subst hP hw hK
  obtain⟨hi,hq⟩:=hg
  obtain⟨p,hp⟩:∃ p,kvs[i]?=some p:=⟨_,sP hi⟩
  obtain⟨v,hv⟩:=Gs kv hp
  have ho:s.heap.get? a=some o:=(show gh X.prog X.w H s.heap a (.mC o (.dK kvs))from I.fc a _ hq).1
  obtain⟨f0,f1,f2,f3,f4,f5⟩:=hf it (by simp)
  refine wpAny_pyNext_dict_item st (hd _ ho) hv fun key h' KY B4 sb=>?_
  have I1:Inv X dA σ H { s with heap:=h'}:=I.turned (t':=s.toks) (fun b o hb e=>(sb.2 b hb).trans e) f0 f1 f3 f4 f5
  obtain⟨oi,e,c,d⟩:=id B4
  exact⟨key,rfl,zN (s:={ s with heap:=h'}) e c d (by decide) ⟨kV p.1,H,I1,Kz KY,⟨rfl,p,hp,rfl⟩,B4,fun b hb=>(hf b hb).1⟩⟩
 done:=by
  intro X hP hw hK hc i dA s σ H E I hf st hg
  subst hP hw hK
  obtain⟨hi,hq⟩:=hg
  have ho:s.heap.get? a=some o:=(show gh X.prog X.w H s.heap a (.mC o (.dK kvs))from I.fc a _ hq).1
  obtain⟨f0,f1,f2,f3,f4,f5⟩:=hf it (by simp)
  have hl:=KV.length kv
  exact wpAny_pyNext_dict_end (I.ok.hd hc) st (hd _ ho) (List.getElem?_eq_none_iff.mpr (by lia)) fun h' eb=>⟨rfl,I.turned (t':=s.toks) (fun b o hb e=>eb b o hb e) f0 f1 f3 f4 f5⟩
 self:=fun _ _ _ _ _ st h=>wpAny_pyIter_keyiter st h
def freeze {X:Cx}{dA:List (ai×Obj)}{σ:St}{H:Hp}{s:ah}{a:ai}{kvs:List (Key×V)}(I:Inv X dA σ H s)(e:Rd H a (.dK kvs)):∃ o vs ep,KV kvs vs/\(∀ h:Heap,h.get? a=some o->h.DictAt (fK X.prog X.w) a vs ep)/\s.heap.DictAt (fK X.prog X.w) a vs ep/\(a==sysModules)=false/\Inv X dA σ (upd H a (.mC o (.dK kvs))) s:=by
 obtain⟨z,hd,vs,rel,dd⟩:=m7 I.fc e
 obtain⟨ep,da⟩:=dd.dictAt
 obtain⟨o,es,ho,r⟩:=id da
 refine⟨o,vs,ep,rel,fun h e=>⟨o,es,e,r⟩,da,hd,?_⟩
 rcases e with e | ⟨o',e⟩
 .exact rq (t':=s.toks) I (by rw[e];exact True.intro) ⟨rfl,fun b _=>rfl⟩ ⟨o,ho⟩ ⟨ho,uQ z hd rel dd⟩
 .have x6:s.heap.get? a=some o':=(show gh X.prog X.w H s.heap a (.mC o' (.dK kvs))from I.fc a _ e).1
  rw[ho]at x6
  cases x6
  have:upd H a (.mC o (.dK kvs))=H:=by
   funext b
   unfold upd
   split
   .rename_i q;rw[q,e]
   .rfl
  rw[this];exact I
section
variable {X:Cx}{tg:Expr}
def Vf (tl:TE):TI:=fun σ H R=>tl σ H fun v H1=>∃ a kvs,v=.ref a/\((H1 a=some (.dK kvs)/\∀ o,R (Xc a o kvs) (upd H1 a (.mC o (.dK kvs))))\/∃ o,H1 a=some (.mC o (.dK kvs))/\R (Xc a o kvs) H1)
def NG {l:Expr}{tl:TE}(hl:PE X l tl):PI X tg l (Vf tl):=by
 intro dA s σ H R I h
 refine gc (hl dA s σ H _ I h) fun v s1 hq=>?_
 obtain⟨x,H1,I1,r1,q1⟩:=hq
 obtain⟨a,kvs,e,q⟩:=q1
 subst e
 cases r1
 obtain⟨o,vs,ep,kv,hd,da,hs,I2,q⟩:∃ o vs ep,KV kvs vs/\(∀ h:Heap,h.get? a=some o->h.DictAt (fK X.prog X.w) a vs ep)/\s1.heap.DictAt (fK X.prog X.w) a vs ep/\(a==sysModules)=false/\Inv X dA σ (upd H1 a (.mC o (.dK kvs))) s1/\R (Xc a o kvs) (upd H1 a (.mC o (.dK kvs))):=by
  rcases q with⟨e,q⟩ | ⟨o,e,q⟩
  .obtain⟨o,vs,ep,kv,hd,da,hs,I2⟩:=freeze I1 (.inl e)
   exact⟨o,vs,ep,kv,hd,da,hs,I2,q o⟩
  .obtain⟨o',vs,ep,kv,hd,da,hs,I2⟩:=freeze I1 (.inr ⟨o,e⟩)
   have ho:s1.heap.get? a=some o:=(show gh X.prog X.w H1 s1.heap a (.mC o (.dK kvs))from I1.fc a _ e).1
   have x6:s1.heap.get? a=some o':=(show gh X.prog X.w _ s1.heap a (.mC o' (.dK kvs))from I2.fc a _ eI).1
   rw[ho]at x6
   cases x6
   have:upd H1 a (.mC o (.dK kvs))=H1:=by
    funext b
    unfold upd
    split
    .rename_i q;rw[q,e]
    .rfl
   exact⟨o,vs,ep,kv,hd,da,hs,I2,by rw[this];exact q⟩
 refine wpAny_pyIter_dict hs da ?_
 refine⟨s1.heap.objs.size,[s1.heap.objs.size],_,_,_,rfl,I2.dE (t':=s1.toks) fun b o e=>j0 _ e,Hx a _ kv hd,⟨_,aD _ rfl,rfl,rfl⟩,fun b hb=>?_,q⟩
 have e:b=s1.heap.objs.size:=by simpa using hb
 subst e
 exact I2.Df (aj _) (I2.fc.fresh (aj _))
end
def oJ:Key->D
 | .inl i=>.int i
 | .inr z=>.str z
def AX {φ:List ai}{H:Hp}(k:Key):jC φ H (oJ k) (kV k):=by cases k <;> rfl
def vZ (μ:MS)(k:Nat):Option (List Key×List D):=match μ[k]? with | some (.jr ks ds)=>some (ks,ds) | some (.oR _ kvs ds)=>some (kvs.map (·.1),ds) | _=>none
def Be {φ:List ai}{H:Hp}{μ:MS}{k:Nat}{ks:List Key}{ds:List D}{v:V}(M:fe φ H μ)(i:jC φ H (.mr k) v)(h:vZ μ k=some (ks,ds)):∃ p kvs,φ[k]?=some p/\v=.ref p/\Rd H p (.dK kvs)/\kvs.map (·.1)=ks/\eK φ H ds (kvs.map (·.2)):=by
 obtain⟨p,hp,rfl⟩:=i
 unfold vZ at h
 split at h
 .rename_i e;cases h
  obtain⟨q,e1,kvs,vs,h1,h2,h3,h4⟩:=M.at_ k _ e
  rw[hp]at e1;cases e1
  subst h3
  exact⟨p,kvs,hp,rfl,.inl h1,h2,h4⟩
 .rename_i e;cases h
  obtain⟨q,e1,h1,h4⟩:=M.at_ k _ e
  rw[hp]at e1;cases e1
  exact⟨p,_,hp,rfl,.inr ⟨_,h1⟩,rfl,h4⟩
 .cases h
def Dw {φ:List ai}{H:Hp}{ks:List Key}:∀ {ds:List D} {kvs:List (Key×V)} (k:Key),kvs.map (·.1)=ks->eK φ H ds (kvs.map (·.2))->(qE (ks.zip ds) k=none/\nG kvs k=none)\/∃ d v,qE (ks.zip ds) k=some d/\nG kvs k=some v/\jC φ H d v:=by
 intro ds kvs
 induction kvs generalizing ks ds with
 | nil=>intro k h1 h2;cases h1;exact .inl ⟨rfl,rfl⟩
 | cons p kvs ih =>
  intro k h1 h2
  cases ks with
  | nil=>cases h1
  | cons k0 ks =>
   cases ds with
   | nil=>cases(show _=_ from h2)
   | cons d0 ds =>
    obtain⟨v,r,e,h4,h5⟩:=h2
    simp only[aw,bU]at h1 e
    obtain⟨rfl,rfl⟩:=e
    obtain⟨rfl,h1⟩:=h1
    rw[dm]
    unfold qE
    rw[bA]
    by_cases hk:p.1=k
    .simp only[hk,decide_true]
     exact .inr ⟨_,_,rfl,pS hk,h4⟩
    .simp only[hk,decide_false]
     rw[pT hk]
     exact ih k h1 h5
def Dz {φ:List ai}{H:Hp}{k:Key}{d:D}{v:V}(hd:jC φ H d v){kd:List (Key×D)}{kv:List (Key×V)}(e:kv.map (·.1)=kd.map (·.1))(ha:eK φ H (kd.map (·.2)) (kv.map (·.2))):(putK kv k v).map (·.1)=(dput kd k d).map (·.1)/\eK φ H ((dput kd k d).map (·.2)) ((putK kv k v).map (·.2)):=by
 have ea:(kv.any fun p=>decide (p.1=k))=kd.any fun p=>decide (p.1=k):=by
  have:(kv.map (·.1)).any (fun x=>decide (x=k))=(kd.map (·.1)).any fun x=>decide (x=k):=by rw[e]
  rw[List.any_map,List.any_map]at this
  exact this
 unfold putK dput
 rw[ea]
 by_cases q:(kd.any fun p=>decide (p.1=k))=true
 .rw[au q,au q]
  clear q ea
  induction kd generalizing kv with
  | nil =>
   cases kv with
   | nil=>exact⟨rfl,rfl⟩
   | cons _ _=>cases e
  | cons p kd ih =>
   cases kv with
   | nil=>cases e
   | cons p' kv =>
    simp only[aw,bU]at e
    obtain⟨v0,r,e2,h4,h5⟩:=ha
    simp only[aw,bU]at e2
    obtain⟨rfl,rfl⟩:=e2
    obtain⟨i1,i2⟩:=ih e.2 h5
    by_cases hk:p.1=k
    .have Ol:p'.1=k:=by rw[e.1,hk]
     simp only[aw,au hk,au Ol]
     exact⟨by rw[i1,e.1],_,_,rfl,hd,i2⟩
    .have Ol:¬ p'.1=k:=by rw[e.1];exact hk
     simp only[aw,aq hk,aq Ol]
     exact⟨by rw[i1,e.1],_,_,rfl,h4,i2⟩
 .rw[aq q,aq q,aF,aF,aF,aF]
  exact⟨by rw[e];rfl,ha.app ⟨v,[],rfl,hd,rfl⟩⟩
section
variable {X:Cx}{a b e:Expr}{pos:Pos}
def Qa (μ:MS)(j:Nat)(y:D):Option (Option D):=(vZ μ j).bind fun q=>(oM y).map fun k=>qE (q.1.zip q.2) k
def KH {μ:MS}{j:Nat}{y:D}{o:Option D}(h:Qa μ j y=some o):∃ ks ds k,vZ μ j=some (ks,ds)/\oM y=some k/\qE (ks.zip ds) k=o:=by
 unfold Qa at h
 cases e:vZ μ j with
 | none=>rw[e]at h;cases h
 | some q =>
  rw[e]at h
  cases e2:oM y with
  | none=>rw[e2]at h;cases h
  | some k=>rw[e2]at h;cases h;exact⟨q.1,q.2,k,rfl,rfl,rfl⟩
def dIxKM:wj:=fun x y μ K=>match x with
 | .mr j=>∃ d,Qa μ j y=some (some d)/\K d μ
 | _=>False
def SU (w wo wi:De):Ds:=fun N ρ μ=>w ρ μ fun d eF=>wo ρ eF fun o fG=>wi ρ fG fun i lS=>match o with
 | .mr j=>∃ kd Ei:List (Key×D),lS[j]?=some (.jr (kd.map (·.1)) (kd.map (·.2)))/\kd.length<sizeLine/\(oM i).map (fun k=>dput kd k d)=some Ei/\N.nx ρ (lS.set j (.jr (Ei.map (·.1)) (Ei.map (·.2))))
 | _=>False
def ky {o i:Expr}{w wo wi:De}{pos':Pos}(hu:X.A.units+1<cLine)(he:PD X e w)(ho:PD X o wo)(hi:PD X i wi)(hs:swapsWith e (some (.Subscript o i pos')) pos.line X.env=pure false:=by rfl) :
 wZ X (.Assign [.Subscript o i pos'] e pos) (SU w wo wi):=(Ny hu ho hi he hs).imp fun E σ H hq=>by
 obtain⟨φ,ρ,μ,N,A,M,w,L⟩:=hq
 refine⟨φ,ρ,μ,_,A,M,w,fun d eF eZ v1 H1 k1 f1 M1 i1=>?_⟩
 refine⟨eZ,ρ,eF,_,A.mono f1,M1,k1,fun d2 fG jD v2 H2 k2 f2 M2 i2=>?_⟩
 refine⟨jD,ρ,fG,_,A.mono (f1.trans f2),M2,k2,fun d3 lS Ab v3 H3 k3 f3 M3 i3=>?_⟩
 cases d2 with
 | mr j =>
  obtain⟨kd,Ei,em,hl,ek',k3⟩:=k3
  obtain⟨k,ek,rfl⟩:=Option.map_eq_some_iff.mp ek'
  obtain⟨p,hp,rfl⟩:=i2.mono f3
  obtain⟨p',e1,kvs,vs,hv,h1,h2,ha⟩:=M3.at_ j _ em
  rw[hp]at e1;cases e1
  subst h2
  cases oK ek i3
  have f4:Fr Ab H3 Ab (upd H3 p (.dK (putK kvs k v1))):=.put (A1 hp)
  obtain⟨g1,g2⟩:=Dz (k:=k) ((i1.mono (f2.trans f3)).mono f4) h1 (ha.mono f4)
  refine⟨p,_,rfl,Mp.k hv (by have:=bx List.length h1;rw[fH,fH]at this;lia),?_⟩
  have M4:=M3.put (k:=j) (p:=p) (o:=.dK (putK kvs k v1)) (m:=.jr ((dput kd k d).map (·.1)) ((dput kd k d).map (·.2))) hp ⟨putK kvs k v1,_,eI,g1,rfl,g2⟩
  exact L.nx ρ _ Ab σ _ k3 ((f1.trans (f2.trans f3)).trans f4) (A.mono ((f1.trans (f2.trans f3)).trans f4)) M4
 | _=>exact k3.elim
def Ez:List V->Hp->VK->Prop:=fun vs H Q=>match vs with
 | [.ref a]=>∃ kvs,Rd H a (.dK kvs)/\∀ p,H p=none->Q (.ref p) (upd H p (.dK kvs))
 | _=>False
def Lp:iI X (.type "dict") Ez:=by
 intro dA s σ H xs us Q I r h
 unfold Ez at h
 split at h
 .rename_i a
  obtain⟨kvs,rd,q⟩:=h
  cases r with
  | cons r1 r2 =>
   cases r2
   cases r1
   exact Lw I rd fun p s' hp I'=>⟨.ref p,_,I',rfl,q p hp⟩
 .cases h
end
def Ic (l1 l2:List Nat)(p:Int):List Nat:=l1.take p.toNat++l2.drop p.toNat
def Ob {l1 l2:List Nat}{p:Int}{k:Nat}(h:p<=l1.length)(hk:(k:Int)<p):(Ic l1 l2 p)[k]?=l1[k]?:=by
 unfold Ic
 rw[uv (by rw[aM];lia),List.getElem?_take,au (by lia)]
def KG {l1 l2:List Nat}{p:Int}{k:Nat}(h0:0<=p)(h:p<=l1.length)(hk:p<=(k:Int)):(Ic l1 l2 p)[k]?=l2[k]?:=by
 unfold Ic
 rw[oP (by rw[aM];lia),aM,List.getElem?_drop]
 congr 1;lia
def Oc {l1 l2:List Nat}{p:Int}(h0:0<=p)(h1:p<=l1.length)(h:l1.length=l2.length):(Ic l1 l2 p).length=l1.length:=by
 unfold Ic
 rw[j3,aM,bC];lia
def RX {l1 l2:List Nat}{p:Int}(h1:OX l1)(h2:OX l2):OX (Ic l1 l2 p):=fun c hc=>by
 rcases List.mem_append.mp hc with q | q
 .exact h1 c (aX q)
 .exact h2 c (List.mem_of_mem_drop q)
end L2
namespace L2
open PySem PySem.Spec PyProof.Rows PySem.SeqAt
end L2
namespace L2
open PySem PySem.Spec PyProof.Rows
def uU {α:Type}(g:α->D)(ts:List α)(k:Nat):cutD (ts.map g) (some (k:Int)) none=(ts.drop k).map g:=by
 unfold cutD
 rw[HT.mV,HT.tu,fH,<- List.map_drop,<- List.map_take]
 by_cases q:k<=ts.length
 .rw[b9 q,bf (by rw[bC];lia)]
 .rw[bR (by lia),bR (by lia),List.take_nil]
def lV (C:ai)(μ:MS)(k:Nat):Option (List Str×List D):=match μ[k]? with | some (.ins C' ns ds)=>if C'=C then some (ns,ds)else none | _=>none
def tM {C:ai}{μ:MS}{k:Nat}{q:List Str×List D}(h:lV C μ k=some q):μ[k]?=some (.ins C q.1 q.2):=by
 unfold lV at h
 split at h
 .rename_i C' ns ds e
  by_cases z:C'=C
  .rw[au z]at h;cases h;rw[e,z]
  .rw[aq z]at h;cases h
 .cases h
def fM {C:ai}{μ:MS}{k:Nat}{ns:List Str}{ds:List D}(h:μ[k]?=some (.ins C ns ds)):lV C μ k=some (ns,ds):=by unfold lV;rw[h];exact au rfl
def m5 (f:Str):List Str->List D->Option D
 | n::ns,d::ds=>if n=f then some d else m5 f ns ds
 | _,_=>none
def putN (f:Str)(d:D):List Str->List D->List Str×List D
 | n::ns,e::ds=>if n=f then(n::ns,d::ds)else(n::(putN f d ns ds).1,e::(putN f d ns ds).2)
 | _,_=>([f],[d])
def tH {φ:List ai}{H:Hp}{f:Str}{d:D}:∀ {fs:List (Str×V)} {ds:List D},eK φ H ds (fs.map (·.2))->m5 f (fs.map (·.1)) ds=some d->∃ v,fs.lookup f=some v/\jC φ H d v
 | [],ds,h,e=>by cases ds <;> cases e
 | (n,x)::fs,ds,h,e=>by
  cases ds with
  | nil=>cases e
  | cons d0 ds =>
   obtain⟨v,r,e1,h1,h2⟩:=h
   simp only[aw,bU]at e1
   obtain⟨rfl,rfl⟩:=e1
   simp only[aw,m5]at e
   rw[cZ]
   by_cases q:n=f
   .rw[au q]at e;cases e
    subst q
    exact⟨x,by simp,h1⟩
   .rw[aq q]at e
    have:(f==n)=false:=beq_eq_false_iff_ne.mpr fun z=>q z.symm
    simp only[this]
    exact tH h2 e
def xV {φ:List ai}{H:Hp}{f:Str}:∀ {fs:List (Str×V)} {ds:List D},eK φ H ds (fs.map (·.2))->m5 f (fs.map (·.1)) ds=none->fs.lookup f=none
 | [],ds,h,e=>rfl
 | (n,x)::fs,ds,h,e=>by
  cases ds with
  | nil=>cases(show _=_ from h)
  | cons d0 ds =>
   obtain⟨v,r,e1,h1,h2⟩:=h
   simp only[aw,bU]at e1
   obtain⟨rfl,rfl⟩:=e1
   simp only[aw,m5]at e
   rw[cZ]
   by_cases q:n=f
   .rw[au q]at e;cases e
   .rw[aq q]at e
    have:(f==n)=false:=beq_eq_false_iff_ne.mpr fun z=>q z.symm
    simp only[this]
    exact xV h2 e
def Az {φ:List ai}{H:Hp}{f:Str}{d:D}{v:V}(hd:jC φ H d v):∀ {fs:List (Str×V)} {ds:List D},eK φ H ds (fs.map (·.2))->(mB f v fs).map (·.1)=(putN f d (fs.map (·.1)) ds).1/\eK φ H (putN f d (fs.map (·.1)) ds).2 ((mB f v fs).map (·.2))
 | [],ds,h=>by cases ds <;> exact⟨rfl,v,[],rfl,hd,rfl⟩
 | (n,x)::fs,ds,h=>by
  cases ds with
  | nil=>cases(show _=_ from h)
  | cons d0 ds =>
   obtain⟨v',r,e1,h1,h2⟩:=h
   simp only[aw,bU]at e1
   obtain⟨rfl,rfl⟩:=e1
   simp only[mB,aw,putN]
   by_cases q:n=f
   .rw[au q,au q]
    exact⟨rfl,_,_,rfl,hd,h2⟩
   .rw[aq q,aq q]
    obtain⟨i1,i2⟩:=Az hd h2
    exact⟨by simp only[aw,i1],_,_,rfl,h1,i2⟩
section
variable {X:Cx}{a b e o:Expr}{es:List Expr}{pos:Pos}{C:ai}
def Zd (C:ai)(f:Str)(w:De):De:=fun ρ μ K=>w ρ μ fun x eF=>match x with
 | .mr k=>∃ d,(lV C eF k).bind (fun q=>m5 f q.1 q.2)=some d/\K d eF
 | .obj C' ns ds=>C'=C/\∃ d,m5 f ns ds=some d/\K d eF
 | _=>False
def eY {f:Str}{w:De}(c:xa X.K C)(n:lM X.K C f)(h:PD X e w)(hb:attributeBase e f X.env (eval e X.env)=eval e X.env:=by rfl):PD X (.Attribute e f pos) (Zd C f w):=(Rr h hb).imp fun σ H Q hq=>by
 obtain⟨φ,ρ,μ,K,A,M,k,L⟩:=hq
 refine⟨φ,ρ,μ,_,A,M,k,fun d1 eF eZ v1 H1 k1 f1 M1 i1=>?_⟩
 cases d1 with
 | mr j =>
  obtain⟨d,e1,k1⟩:=k1
  obtain⟨q,e2,e3⟩:=Option.bind_eq_some_iff.mp e1
  obtain⟨p,hp,rfl⟩:=i1
  obtain⟨p',e4,dx,fs,h1,h2,h3⟩:=M1.at_ j _ (tM e2)
  rw[hp]at e4;cases e4
  rw[<- h2]at e3
  obtain⟨v,l,iv⟩:=tH h3 e3
  exact⟨p,C,dx,fs,v,rfl,h1,c,n,l,L _ eF eZ v H1 k1 f1 M1 iv⟩
 | obj C' ns ds =>
  obtain⟨rfl,d,e3,k1⟩:=k1
  obtain⟨p,dx,fs,vs,rfl,_,h1,h2,rfl,h3⟩:=i1
  rw[<- h2]at e3
  obtain⟨v,l,iv⟩:=tH h3 e3
  exact⟨p,_,dx,fs,v,rfl,h1,c,n,l,L _ eF eZ v H1 k1 f1 M1 iv⟩
 | _=>exact k1.elim
def VQ (C:ai)(f:Str)(w wo:De):Ds:=fun N ρ μ=>w ρ μ fun d eF=>wo ρ eF fun x fG=>match x with
 | .mr k=>∃ q q':List Str×List D,lV C fG k=some q/\putN f d q.1 q.2=q'/\q.1.length<1000/\N.nx ρ (fG.set k (.ins C q'.1 q'.2))
 | _=>False
def xD {f:Str}{w wo:De}{pos':Pos}(c:xa X.K C)(n:lM X.K C f)(he:PD X e w)(ho:PD X o wo)(hs:swapsWith e (some (.Attribute o f pos')) pos.line X.env=pure false:=by rfl):wZ X (.Assign [.Attribute o f pos'] e pos) (VQ C f w wo) :=
 (Rf ho he hs).imp fun E σ H hq=>by
 obtain⟨φ,ρ,μ,N,A,M,k,L⟩:=hq
 refine⟨φ,ρ,μ,_,A,M,k,fun d eF eZ v1 H1 k1 f1 M1 i1=>?_⟩
 refine⟨eZ,ρ,eF,_,A.mono f1,M1,k1,fun d2 fG jD v2 H2 k2 f2 M2 i2=>?_⟩
 cases d2 with
 | mr j =>
  obtain⟨q,_,e2,rfl,hl,k2⟩:=k2
  obtain⟨p,hp,rfl⟩:=i2
  obtain⟨p',e4,dx,fs,h1,h2,h3⟩:=M2.at_ j _ (tM e2)
  rw[hp]at e4;cases e4
  have f4:Fr jD H2 jD (upd H2 p (.ins C dx (mB f v1 fs))):=.put (A1 hp)
  obtain⟨g1,g2⟩:=Az (f:=f) ((i1.mono f2).mono f4) (h3.mono f4)
  rw[h2]at g1 g2
  refine⟨p,C,dx,fs,rfl,h1,c,n,by rw[<- h2,fH]at hl;exact hl,?_⟩
  exact L.nx ρ _ jD σ _ k2 ((f1.trans f2).trans f4) (A.mono ((f1.trans f2).trans f4)) (M2.put hp ⟨dx,_,eI,g1,g2⟩)
 | _=>exact k2.elim
structure wm (P:ae)(w:af)(K:aa)(mg:Str->Option Value)(dD:Heap)(C:ai)(m:Str)(k:Nat)(ps:List Str)(sp:Sp):Prop where
 ex:∃ f fd,eV P w K mg dD kJ k f fd ps sp/\Meth K C m f/\Binds K fd ps []
def rK (C:ai)(m:Str)(μ:MS):D->Prop
 | .mr k=>(lV C μ k).map (fun q=>m5 m q.1 q.2)=some none
 | .obj C' ns es=>C'=C/\m5 m ns es=none
 | _=>False
def tw {m:Str}{φ:List ai}{H:Hp}{μ:MS}{d:D}{v:V}(M:fe φ H μ)(i:jC φ H d v)(h:rK C m μ d):∃ p dx fs,v=.ref p/\H p=some (.ins C dx fs)/\fs.lookup m=none:=by
 cases d with
 | mr j =>
  obtain⟨q,e2,e3⟩:=Option.map_eq_some_iff.mp (show(lV C μ j).map (fun q=>m5 m q.1 q.2)=some none from h)
  obtain⟨p,hp,rfl⟩:=i
  obtain⟨p',e4,dx,fs,h1,h2,h3⟩:=M.at_ j _ (tM e2)
  rw[hp]at e4;cases e4
  rw[<- h2]at e3
  exact⟨p,dx,fs,rfl,h1,xV h3 e3⟩
 | obj C' ns es =>
  obtain⟨rfl,e3⟩:=(show C'=C/\m5 m ns es=none from h)
  obtain⟨p,dx,fs,vs0,rfl,_,h1,h2,rfl,h3⟩:=i
  rw[<- h2]at e3
  exact⟨p,dx,fs,rfl,h1,xV h3 e3⟩
 | _=>exact(show False from h).elim
def Lx (C:ai)(m:Str)(f:jJ)(wo:De)(w:DA):De:=fun ρ μ K=>wo ρ μ fun x eF=>rK C m eF x/\w ρ eF fun ds fG=>f (x::ds) fG K
def MZ {m:Str}{f:jJ}{wo:De}{w:DA}{σ:St}{H:Hp}{Q:VK}(h:tD (Lx C m f wo w) σ H Q):B1 C m (hV f) [] E0 (tD wo) (TK w) σ H Q:=by
 obtain⟨φ,ρ,μ,K,A,M,k,L⟩:=h
 refine⟨φ,ρ,μ,_,A,M,k,fun d1 eF eZ v1 H1 k1 f1 M1 i1=>?_⟩
 obtain⟨p,dx,fs,rfl,h1,h2⟩:=tw M1 i1 k1.1
 refine⟨p,dx,fs,rfl,h1,h2,eZ,ρ,eF,_,A.mono f1,M1,k1.2,fun ds fG jD vs H2 k2 f2 M2 i2=>?_⟩
 show hV f (.ref p::(vs++[])) H2 Q E0
 rw[aV]
 exact⟨jD,d1::ds,fG,K,⟨_,vs,rfl,jC.mono f2 i1,i2⟩,M2,k2,L.mono (f1.trans f2)⟩
def YO {m:Str}{f:jJ}{wo:De}{w:DA}{fY:Pos}{pl:Sem Bool}{k:Nat}{ps:List Str}(CM:wm X.prog X.w X.K X.mg X.dD C m k ps (hV f))(c:xa X.K C)(hr:iz k X.A)(ho:PD X o wo)(ha:vR X (e::es) w)
 (BR:starEach (e::es) X.env=(false,eval e X.env)::starEach es X.env:=by rfl) (lW:(backTo pos (starEach es X.env)).any (·.1)=false:=by rfl)
 (ht:eval (.Call (.Attribute o m fY) (e::es) [] pos) X.env=(do
   let ov <- eval o X.env
   standAt fY.atName
   let (f,first) <- holding [ov] (getMethod ov m pl)
   callWith pos f first (backTo pos (starEach (e::es) X.env)) (backToKw pos (keywordEach [] X.env))):=by rfl) :
 PD X (.Call (.Attribute o m fY) (e::es) [] pos) (Lx C m f wo w):=by
 obtain⟨f',fd,F,hm,hb⟩:=CM.ex
 exact(AD ho c hm F hr hb .nil Gr ha BR lW ht).imp fun σ H Q hq=>MZ hq
def gU {m:Str}{f:jJ}{wo:De}{fY:Pos}{pl:Sem Bool}{k:Nat}{ps:List Str}(CM:wm X.prog X.w X.K X.mg X.dD C m k ps (hV f))(c:xa X.K C)(hr:iz k X.A)(ho:PD X o wo)
 (ht:eval (.Call (.Attribute o m fY) [] [] pos) X.env=(do
   let ov <- eval o X.env
   standAt fY.atName
   let (f,first) <- holding [ov] (getMethod ov m pl)
   callWith pos f first (backTo pos (starEach [] X.env)) (backToKw pos (keywordEach [] X.env))):=by rfl) :
 PD X (.Call (.Attribute o m fY) [] [] pos) (Lx C m f wo Ff):=by
 obtain⟨f',fd,F,hm,hb⟩:=CM.ex
 refine(Co ho c hm F hr hb .nil Gr ht).imp fun σ H Q hq=>?_
 obtain⟨φ,ρ,μ,K,A,M,k,L⟩:=hq
 refine⟨φ,ρ,μ,_,A,M,k,fun d1 eF eZ v1 H1 k1 f1 M1 i1=>?_⟩
 obtain⟨p,dx,fs,rfl,h1,h2⟩:=tw M1 i1 k1.1
 exact⟨p,dx,fs,rfl,h1,h2,eZ,[d1],eF,K,⟨_,[],rfl,i1,rfl⟩,M1,k1.2,L.mono f1⟩
structure Tj (P:ae)(w:af)(K:aa)(mg:Str->Option Value)(dD:Heap)(x:Str)(C:ai)(k:Nat)(ps:List Str)(sp:Sp):Prop where
 ex:∃ f fd,eV P w K mg dD kJ k f fd ps sp/\Mk K C f/\mg x=some (.ref C)/\Binds K fd ps []
def Qv (C:ai)(f:jJ)(w:DA):De:=fun ρ μ K=>w ρ μ fun ds eF=>f (.mr eF.length::ds) (eF++[.ins C [] []]) fun d fG=>d=.gy/\K (.mr eF.length) fG
def M7 {f:jJ}{w:DA}{σ:St}{H:Hp}{Q:VK}(h:tD (Qv C f w) σ H Q):Jr C (hV f) [] E0 (TK w) σ H Q:=by
 obtain⟨φ,ρ,μ,K,A,M,k,L⟩:=h
 refine⟨φ,ρ,μ,_,A,M,k,fun ds eF eZ vs H1 k1 f1 M1 i1 x dx hx Yw ne=>?_⟩
 have S1:hU H1 (upd H1 dx (.own x)):=hU.upd Yw
 have CZ:upd H1 dx (.own x) x=none:=by rw[eP (bj ne)];exact hx
 have fa:Fr eZ H1 eZ (upd H1 dx (.own x)):=.same S1
 obtain⟨M2,f2⟩:=(M1.same S1).snoc (m:=.ins C [] []) (o:=.ins C dx []) CZ ⟨dx,[],eI,rfl,rfl⟩
 have f3:=fa.trans f2
 have Om:jC (eZ++[x]) (upd (upd H1 dx (.own x)) x (.ins C dx [])) (.mr eF.length) (.ref x):=⟨x,by rw[oP (by rw[M1.len];exact aj _),M1.len,aR];rfl,rfl⟩
 show hV f (.ref x::(vs++[])) _ _ E0
 rw[aV]
 refine⟨eZ++[x],.mr eF.length::ds,eF++[.ins C [] []],_,⟨_,vs,rfl,Om,i1.mono f3⟩,M2,k1,fun d lS Ab v H3 k3 f4 M3 i3=>?_⟩
 obtain⟨rfl,k3⟩:=k3
 exact⟨i3,L _ lS Ab _ H3 k3 ((f1.trans f3).trans f4) M3 (Om.mono f4)⟩
def qG {x:Str}{f:jJ}{w:DA}{p:Pos}{k:Nat}{ps:List Str}(CI:Tj X.prog X.w X.K X.mg X.dD x C k ps (hV f))(hr:iz (k+1) X.A)(hg:Gl X x)(ha:vR X (e::es) w)
 (uN:(x==("__debug__" : Str))=false:=by decide) (he:starEach (e::es) X.env=(false,eval e X.env)::starEach es X.env:=by rfl) (lW:(backTo pos (starEach es X.env)).any (·.1)=false:=by rfl) :
 PD X (.Call (.Name x p) (e::es) [] pos) (Qv C f w):=by
 obtain⟨f',fd,F,M,hm,hb⟩:=CI.ex
 exact(Gj M F hr hg hm hb .nil Gr ha uN he lW).imp fun σ H Q hq=>M7 hq
def gb {P:ae}{w:af}{K:aa}{mg:Str->Option Value}{dD h:Heap}{x q:Str}{st:Stmt}{f:ai}{fd:ag}{k:Nat}{ps:List Str}{sp:Sp}(G:K.In h)(N:h.Ns mainGlobals mg)(F:ic K x q st f fd)(ok:eV P w K mg dD kJ k f fd ps sp)(hb:Binds K fd ps [])
 (a:W.nsIn K mainGlobals x=some (some (.ref f)):=by kernel_rfl):pO P w K mg dD x k ps sp:=⟨f,fd,ok,b7 G N a,F.kp,hb⟩
def lY {P:ae}{w:af}{K:aa}{mg:Str->Option Value}{dD:Heap}{C:ai}{x q:Str}{st:Stmt}{f:ai}{fd:ag}{k:Nat}{ps:List Str}{sp:Sp}(F:ic K x q st f fd)(ok:eV P w K mg dD kJ k f fd ps sp)(hb:Binds K fd ps [])
 (a:W.findIn K (.ref C) x=some (some (.ref f)):=by kernel_rfl) (i:W.isFn K (.ref f)=true:=by kernel_rfl):wm P w K mg dD C x k ps sp:=⟨f,fd,ok,⟨a,i,F.kp⟩,hb⟩
def OT {P:ae}{w:af}{K:aa}{mg:Str->Option Value}{dD h:Heap}{C:ai}{y q:Str}{st:Stmt}{f:ai}{fd:ag}{k:Nat}{ps:List Str}{sp:Sp}(G:K.In h)(N:h.Ns mainGlobals mg)(F:ic K "__init__" q st f fd)(ok:eV P w K mg dD kJ k f fd ps sp)(hb:Binds K fd ps [])
 (n:W.nsIn K mainGlobals y=some (some (.ref C)):=by kernel_rfl) (a:W.findIn K (.ref C) "__init__"=some (some (.ref f)):=by kernel_rfl) (i:W.isFn K (.ref f)=true:=by kernel_rfl) (m:W.makesIn K C=true:=by kernel_rfl) (p:W.keepIn K (.ref C)=true:=by kernel_rfl):Tj P w K mg dD y C k ps sp:=⟨f,fd,ok,⟨m,a,i,p⟩,b7 G N n,hb⟩
end
def bmN:List Str:=["places", "rows", "tables", "whole", "counts"]
abbrev At (g:Heap)(b:ai):Prop:=∃ u,g.get? b=some u
structure Kp (g:Heap)(l:List Env)(h h':Heap):Prop where
 other:∀ b o,h.get? b=some o->At g b->b∉ze l->h'.get? b=some o
 slot:∀ b o,h.get? b=some o->At g b->b∈ze l->∃ sl,h'.get? b=some { o with slots:=sl}
def Kp.trans {g:Heap}{l:List Env}{h1 h2 h3:Heap}(a:Kp g l h1 h2)(b:Kp g l h2 h3):Kp g l h1 h3 :=
 ⟨fun c o q lt hc=>b.other c o (a.other c o q lt hc) lt hc,fun c o q lt hc=>by
  obtain⟨sl,e⟩:=a.slot c o q lt hc
  obtain⟨QZ,e'⟩:=b.slot c _ e lt hc
  exact⟨QZ,e'⟩⟩
def Kp.any {g:Heap}{l:List Env}{h h':Heap}(a:Kp g l h h'){b:ai}{o:Obj}(q:h.get? b=some o)(lt:At g b):∃ sl,h'.get? b=some { o with slots:=sl}:=by
 by_cases hb:b∈ze l
 .exact a.slot b o q lt hb
 .exact⟨o.slots,a.other b o q lt hb⟩
def Kp.of {g:Heap}{l:List Env}{h h':Heap}(k:∀ b o,h.get? b=some o->At g b->h'.get? b=some o):Kp g l h h':=⟨fun b o q lt _=>k b o q lt,fun b o q lt _=>⟨o.slots,k b o q lt⟩⟩
abbrev Gk (g h:Heap):Prop:=∀ b,At g b->At h b
def Kp.gk {g:Heap}{l:List Env}{h h':Heap}(a:Kp g l h h')(k:Gk g h):Gk g h':=fun b hb=>by
 obtain⟨o,e⟩:=k b hb
 obtain⟨sl,e'⟩:=a.any e hb
 exact⟨_,e'⟩
def Gk.fresh {g h:Heap}(k:Gk g h):g.get? h.objs.size=none:=by
 cases q:g.get? h.objs.size with
 | none=>rfl
 | some o=>obtain⟨o',e⟩:=k _ ⟨o,q⟩;exact absurd (kK e) (bB _)
def Hh {g:Heap}{b c:ai}(h:At g b)(hc:g.get? c=none):c≠b:=fun z=>by obtain⟨u,e⟩:=h;rw[<- z,hc]at e;cases e
def BH (g:Heap)(e:ai)(cls fl:Value)(h:Heap):Prop:=∃(oe:Obj) (vs:Array Value) (T:ai) (oT:Obj) (ts:Array Value),(h.get? e=some oe/\(oe.cls=cls/\oe.dict=none)/\oe.data=.fields vs/\vs[1]?=some (.ref T)/\vs[2]?=some .none)/\(g.get? T=none/\T≠e/\h.get? T=some oT/\oT.data=.fields ts/\ts[3]?=some fl)/\g.get? e=none
section
variable {M:Model}{A:Around}{E:Value->ah->Prop}{s:ah}
def zP {dD:Heap}{env:Env}{dW:List Env}{L e:ai}{oe:Obj}{vs:Array Value}{head:Value}{Ou:Bool}{g:Heap}{Q:Unit->ah->Prop}
 (K0:A.frames=some (env::dW)) (hl:s.heap.FunFrames dD (env::dW)) (hf:env.frame=some L) (he:s.heap.get? e=some oe) (Yz:oe.dict=none) (hd:oe.data=.fields vs) (h1:1<vs.size) (h2:vs[2]?=some .none) (hn:g.get? e=none) (hs:Gk g s.heap)
 (h:∀ h',BH g e oe.cls (rawInt L) h'->Kp g (env::dW) s.heap h'->Q () { s with heap:=h'}) :
 wpAny M A (do let a <- frameOf env;let pl <- entryPlaceOf L Ou;let b <- EntryCells.newEntry head a .none (rawInt L) .none pl;setField (.ref e) 1 b) Q E s:=by
 have Yv:e∉(env::dW).filterMap (·.frame):=fun hm=>by
  obtain⟨_,o,ho,hnf⟩:=hl.mem hm
  rw[he]at ho;injection ho with ho;subst ho;exact hnf vs hd
 refine fb (wpAny_frameOf_fun K0 hl hf fun m x=>?_)
 refine fb (wpAny_entryPlaceOf fun pl lW=>?_)
 unfold EntryCells.newEntry newFields
 refine fb (ba ?_ (lW.sizeOk5 _ _ _ _ _))
 obtain⟨rec,Sf⟩:∃ rec:Obj,rec={ cls:=.type "traceback",dict:=none,data:=.fields ([head,.ref L,.none,rawInt L,.none]++(if pl.isEmpty then List.replicate 6 Value.none else pl)).toArray}:=⟨_,rfl⟩
 rw[<- Sf]
 have e1:m.get? e=some oe:=(x.2.1 e Yv).trans he
 have e2:=j0 rec e1
 have hT:(m.push rec).get? m.objs.size=some rec:=aD m (by rw[Sf];rfl)
 have Sq:m.objs.size≠e:=bt (kK e1)
 have Vp:=dk hd (·.setIfInBounds 1 (Value.ref m.objs.size))
 have e3:=cp (Obj.mapFields (·.setIfInBounds 1 (Value.ref m.objs.size))) e2 (Obj.isFreed_of_fields Vp)
 refine cV e2 hd h1 (h _ ⟨_,_,m.objs.size,rec,_,⟨e3,⟨Obj.cls_mapFields _ _,by show(Obj.mapFields _ oe).dict=none;unfold Obj.mapFields;split <;> exact Yz⟩,Vp,by simp[h1],by rw[Array.getElem?_setIfInBounds_ne (by decide)];exact h2⟩,⟨by rw[x.1];exact hs.fresh,Sq,?_,by rw[Sf],?_⟩,hn⟩ ⟨fun b o q lt hb=>?_,fun b o q lt hb=>?_⟩)
 .rw[bw _ _ (bj Sq)];exact hT
 .first | (simp;done) | (rcases lW with rfl | ⟨_,_,_,_,_,_,_,rfl⟩<;> simp)
 .rw[bw _ _ (Hh lt hn)]
  exact j0 _ ((x.2.1 b hb).trans q)
 .obtain⟨sl,q'⟩:=x.2.2 b o q
  exact⟨sl,by rw[bw _ _ (Hh lt hn)];exact j0 _ q'⟩
def EH {dD:Heap}{env:Env}{dW:List Env}{L e:ai}{oe:Obj}{vs:Array Value}{g:Heap}{Q:Unit->ah->Prop}
 (K0:A.frames=some (env::dW)) (hl:s.heap.FunFrames dD (env::dW)) (hf:env.frame=some L) (he:s.heap.get? e=some oe) (Yz:oe.dict=none) (hd:oe.data=.fields vs) (h1:vs[1]?=some .none) (h2:vs[2]?=some .none) (hn:g.get? e=none) (hs:Gk g s.heap)
 (h:∀ h',BH g e oe.cls (rawInt L) h'->Kp g (env::dW) s.heap h'->Q () { s with heap:=h'}):wpAny M A (noteFrame (.ref e) env) Q E s:=by
 unfold noteFrame
 simp only[hf]
 refine fb (aY he hd h1 ?_)
 rw[aq (by decide)]
 exact zP K0 hl hf he Yz hd (Array.getElem?_eq_some_iff.mp h1).1 h2 hn hs h
def zE {dD:Heap}{env:Env}{dW:List Env}{L e:ai}{cls:Value}{g:Heap}{Q:Unit->ah->Prop}
 (K0:A.frames=some (env::dW)) (hl:s.heap.FunFrames dD (env::dW)) (hf:env.frame=some L) (hs:Gk g s.heap) (x:BH g e cls .none s.heap)
 (h:∀ h',BH g e cls (rawInt L) h'->Kp g (env::dW) s.heap h'->Q () { s with heap:=h'}):wpAny M A (noteFrame (.ref e) env) Q E s:=by
 obtain⟨oe,vs,T,oT,ts,⟨he,hc,hd,h1,h2⟩,⟨hn,Sq,hT,Sl,h3⟩,Il⟩:=x
 unfold noteFrame
 simp only[hf]
 refine fb (aY he hd h1 ?_)
 rw[au (show(Value.ref T != Value.none)=true from by simp)]
 refine fb (aY hT Sl h3 ?_)
 rw[aq (show ¬ ((Value.none==rawInt L)=true)from by simp[rawInt])]
 refine fb (cV hT Sl (Array.getElem?_eq_some_iff.mp h3).1 ?_)
 have other:∀ b,b≠T->(s.heap.update T (Obj.mapFields (·.setIfInBounds 3 Value.none))).get? b=s.heap.get? b:=fun b hb=>bw _ _ (bj hb)
 have ff:(s.heap.update T (Obj.mapFields (·.setIfInBounds 3 Value.none))).FunFrames dD (env::dW):=hl.of_keeps fun b o q nf=>⟨o,(other b fun z=>by rw[z,hT]at q;cases q;exact nf _ Sl).trans q,rfl⟩
 have k0:Kp g (env::dW) s.heap (s.heap.update T (Obj.mapFields (·.setIfInBounds 3 Value.none))):=Kp.of fun b o q lt=>(other b (bj (Hh lt hn))).trans q
 exact zP (g:=g) K0 ff hf ((other e (bj Sq)).trans he) hc.2 hd (Array.getElem?_eq_some_iff.mp h1).1 h2 Il (k0.gk hs) fun h' a k=>h h' (hc.1▸a) (k0.trans k)
def m6 {l:List Env}{e:ai}{cls fl:Value}{g:Heap}{Q:Unit->ah->Prop}(x:BH g e cls fl s.heap)
 (h:∀ h',BH g e cls .none h'->Kp g l s.heap h'->(∀ b o,s.heap.get? b=some o->(∀ vs,o.data≠.fields vs)->h'.get? b=some o)->Q () { s with heap:=h'}):wpAny M A (setFlight (.ref e) none) Q E s:=by
 obtain⟨oe,vs,T,oT,ts,⟨he,hc,hd,h1,h2⟩,⟨hn,Sq,hT,Sl,h3⟩,Il⟩:=x
 unfold setFlight
 refine fb (aY he hd h1 ?_)
 rw[au (show(Value.ref T != Value.none)=true from by simp)]
 have h3s:=(Array.getElem?_eq_some_iff.mp h3).1
 have Vp:=dk Sl (·.setIfInBounds 3 ((none:Option ai).elim Value.none fun f=>rawInt f))
 have other:∀ b,b≠T->(s.heap.update T (Obj.mapFields (·.setIfInBounds 3 ((none:Option ai).elim Value.none fun f=>rawInt f)))).get? b=s.heap.get? b:=fun b hb=>bw _ _ (bj hb)
 refine cV hT Sl h3s (h _ ⟨oe,vs,T,_,_,⟨(other e (bj Sq)).trans he,hc,hd,h1,h2⟩,⟨hn,Sq,cp _ hT (Obj.isFreed_of_fields Vp),Vp,by simp[h3s]⟩,Il⟩ (Kp.of fun b o q lt=>(other b (bj (Hh lt hn))).trans q) fun b o q nf=>(other b fun z=>by rw[z,hT]at q;cases q;exact nf _ Sl).trans q)
end
def nz (P:ae)(w:af):IP:=fun dW H s E ev s'=>∃(e:ai) (cls:Value) (H':Hp) (g:Heap),ev=.ref e/\s'.os=s.os/\AllBare s'.gens/\Un (ze dW) [] H H' s.heap s'.heap/\o7 P w H' s'.heap/\(Gk s.heap g/\(∀ b,H' b≠none->At g b)/\Gk g s'.heap)/\BH g e cls .none s'.heap/\E cls none H'
def at_of {P:ae}{w:af}{H:Hp}{h:Heap}{a:ai}{o:HO}(x:o7 P w H h)(e:H a=some o):At h a:=by
 have x:=x a o e
 cases o with
 | lst xs=>obtain⟨_,_,_,_,e⟩:=x;exact⟨_,e⟩
 | tup xs=>obtain⟨_,_,_,_,e,_⟩:=x;exact⟨_,e⟩
 | dK kvs=>obtain⟨_,_,_,_,o,_,_,e,_⟩:=x;exact⟨_,e⟩
 | dT kvs=>obtain⟨_,_,_,_,o,_,_,e,_⟩:=x;exact⟨_,e⟩
 | set S n=>obtain⟨o,_,_,_,e,_⟩:=x;exact⟨_,e⟩
 | ins C dx fs=>obtain⟨_,_,_,e,_⟩:=x;exact⟨_,e⟩
 | own y=>obtain⟨_,e⟩:=x;exact⟨_,e⟩
 | xd fs=>obtain⟨_,⟨_,_,_,e,_⟩,_⟩:=x;exact⟨_,e⟩
 | WK lo hi=>obtain⟨_,_,_,e⟩:=x;exact⟨_,e⟩
 | mC ob u=>obtain⟨e,_⟩:=x;exact⟨_,e⟩
 | Pk ps=>exact⟨_,(show h.get? a=some _ from x)⟩
 | met f y=>exact⟨_,(show h.get? a=some _ from x)⟩
 | ext φ=>obtain⟨_,⟨_,e⟩,_⟩:=x;exact⟨_,e⟩
def ES {P:ae}{w:af}{g h h':Heap}{l:List Env}{H:Hp}(x:o7 P w H h)(hb:∀ b,H b≠none->At g b/\b∉ze l)(k:Kp g l h h'):o7 P w H h':=fun a o e =>
 (x a o e).xj (fun b u Oq q=>by
   have hn:H b≠none:=by rcases Oq with rfl | z <;> intro y <;> simp_all
   exact k.other b u q (hb b hn).1 (hb b hn).2) (fun _ q=>q) fun _ _ q=>q
section
variable {X:Cx}{dA:List (ai×Obj)}{σ:St}{H H':Hp}{s:ah}{g h1 h2:Heap}
def Inv.exit (I:Inv X dA σ H s)(hx:X.ex=[])(u:Un (ze X.stack) [] H H' s.heap h1)(hg:Gk s.heap g)(k:Kp g X.stack h1 h2):Un X.fs [] X.H₀ H' X.s₀.heap h2:=by
 have nx:∀ b,b∉X.ex:=fun b z=>by rw[hx]at z;cases z
 have nn:∀ b:ai,b∉([]:List ai):=fun b z=>by cases z
 have QB:∀ b o,X.s₀.heap.get? b=some o->At g b:=fun b o e=>by
  obtain⟨o',e'⟩:=I.dD.there b o e (nx b)
  exact hg b ⟨o',e'⟩
 refine⟨fun b o e n hb _=>?_,fun b o e n hb _=>?_,fun b o e n _=>?_,fun b o e _=>?_,fun b xs e=>u.pW b xs (I.dD.pW b xs e),fun b o xs e=>u.pG b o xs (I.dD.pG b o xs e),fun b ps e=>?_⟩
 .have e1:=I.dD.keep b o e n hb (nx b)
  have n1:=I.dD.free b o e n (nx b)
  have hs:b∉ze X.stack:=fun z=>by
   rcases List.mem_cons.mp (I.xi b z)with y | y
   .exact absurd y (aL (aA (kK e) I.ok.above))
   .exact hb y
  exact k.other b o (u.keep b o e1 n1 hs (nn b)) (QB b o e) hs
 .obtain⟨sl,e1⟩:=I.dD.slot b o e n hb (nx b)
  have n1:=I.dD.free b o e n (nx b)
  obtain⟨Ut,e2⟩:=u.any e1 n1 (nn b)
  obtain⟨sl3,e3⟩:=k.any e2 (QB b o e)
  exact⟨sl3,e3⟩
 .obtain⟨o',e1⟩:=I.dD.there b o e (nx b)
  exact u.free b o' e1 (I.dD.free b o e n (nx b)) (nn b)
 .obtain⟨o',e1⟩:=I.dD.there b o e (nx b)
  obtain⟨o2,e2⟩:=u.there b o' e1 (nn b)
  obtain⟨sl,e3⟩:=k.any e2 (QB b o e)
  exact⟨_,e3⟩
 .obtain⟨m1,e1⟩:=I.dD.p4 b ps e
  obtain⟨m2,e2⟩:=u.p4 b _ e1
  exact⟨m1++m2,by rw[e2,Array.append_assoc]⟩
end
section
variable {P:ae}{w:af}{K:aa}{mg:Str->Option Value}{dD:Heap}{N:List Str}{qual:Str}{scope:Scope}{f:ai}{cd:Value}{A:Around}{dW:List Env}{s₀ s:ah}{H₀ H:Hp}{E:XK}{dA:List (ai×Obj)}{σ:St}
def Vy:Passes (nz P w) (pI (nz P w) P w K mg dD N qual scope f cd A dW s₀ H₀ E) E:=fun dA σ H s ev s' I c=>by
 obtain⟨e,cls,H',g,rfl,os,bare,un,fc,⟨g1,g2,g3⟩,ex,hE⟩:=c
 have I2:=I.zU (s':=s') (ch:=[]) os un fc bare (fun b z=>absurd z (by simp))
 have K0:(pI (nz P w) P w K mg dD N qual scope f cd A dW s₀ H₀ E).A.frames=some (envOfC qual scope s₀.heap.objs.size f cd::dW):=I.ok.frames
 show wpAny _ _ (leaving _ (.ref e)) _ _ s'
 unfold leaving
 refine fb (zE K0 I2.stack rfl g3 ex fun h1 x1 k1=>?_)
 refine m6 (l:=envOfC qual scope s₀.heap.objs.size f cd::dW) x1 fun h2 x2 k2 _=>?_
 have k:=k1.trans k2
 exact⟨e,cls,H',g,rfl,os.trans I.os,bare,I.exit rfl un g1 k,ES fc (fun b hb=>⟨g2 b hb,fun z=>hb (I2.qX b z)⟩) k,⟨fun b hb=>by
  obtain⟨o,e0⟩:=hb
  obtain⟨o',e1⟩:=I.dD.there b o e0 (by simp[pI])
  exact g1 b ⟨o',e1⟩,g2,k.gk g3⟩,x2,hE⟩
def raises {h':Heap}{e:ai}{cls:Value}{vs:List Value}(I:Inv (pI (nz P w) P w K mg dD N qual scope f cd A dW s₀ H₀ E) dA σ H s)(x:Heap.MadeExcOf s.heap h' e cls vs)(hE:E cls none H):(pI (nz P w) P w K mg dD N qual scope f cd A dW s₀ H₀ E).xe (.ref e) { s with heap:=h'}:=by
 have K0:(pI (nz P w) P w K mg dD N qual scope f cd A dW s₀ H₀ E).A.frames=some (envOfC qual scope s₀.heap.objs.size f cd::dW):=I.ok.frames
 obtain⟨t,he,htn,ht⟩:=x.there
 have ff:h'.FunFrames dD (envOfC qual scope s₀.heap.objs.size f cd::dW):=(show s.heap.FunFrames dD _ from I.stack).of_keeps fun b o q _=>⟨o,x.keeps b o q,rfl⟩
 have gk:Gk s.heap h':=fun b sC=>by obtain⟨o,q⟩:=sC;exact⟨o,x.keeps b o q⟩
 show wpAny _ _ (leaving _ (.ref e)) _ _ _
 unfold leaving
 refine fb (EH (s:={ s with heap:=h'}) (g:=s.heap) K0 ff rfl he rfl rfl rfl rfl x.new gk fun h1 x1 k1=>?_)
 refine m6 (l:=envOfC qual scope s₀.heap.objs.size f cd::dW) x1 fun h2 x2 k2 _=>?_
 have k:=k1.trans k2
 have un:Un (ze (envOfC qual scope s₀.heap.objs.size f cd::dW)) [] H H s.heap h':=Un.dE x.keeps
 have fc:o7 P w H h':=(show o7 P w H s.heap from I.fc).dE x.keeps
 refine⟨e,cls,H,s.heap,rfl,I.os,I.bare,I.exit rfl un (fun b hb=>hb) k,ES fc (fun b hb=>⟨?_,fun z=>hb (I.qX b z)⟩) k,⟨fun b hb=>?_,fun b hb=>?_,k.gk gk⟩,x2,hE⟩
 .cases q:H b with
  | none=>exact absurd q hb
  | some o=>exact at_of (show o7 P w H s.heap from I.fc) q
 .obtain⟨o,e0⟩:=hb
  obtain⟨o',e1⟩:=I.dD.there b o e0 (by simp[pI])
  exact⟨o',e1⟩
 .cases q:H b with
  | none=>exact absurd q hb
  | some o=>exact at_of (show o7 P w H s.heap from I.fc) q
end
abbrev DX:=Value->MS->Prop
def sM (φ:List ai)(H:Hp)(Kx:DX)(E:XK):Prop:=∀ c μ' ft H',Kx c μ'->Fr φ H ft H'->fe ft H' μ'->E c none H'
def sM.mono {φ eZ:List ai}{H H1:Hp}{Kx:DX}{E:XK}(h:sM φ H Kx E)(f:Fr φ H eZ H1):sM eZ H1 Kx E:=fun c μ' ft H' k g M=>h c μ' ft H' k (f.trans g) M
abbrev i9:=List D->MS->DK->DX->Prop
def kj (f:i9):Sp:=fun vs H Q E=>∃ φ ds μ K Kx,eK φ H ds vs/\fe φ H μ/\f ds μ K Kx/\u0 φ H K Q/\sM φ H Kx E
structure ur (P:ae)(w:af)(K:aa)(mg:Str->Option Value)(dD:Heap)(x:Str)(k:Nat)(ps:List Str)(sp:Sp):Prop where
 ex:∃ f fd,eV P w K mg dD (nz P w) k f fd ps sp/\mg x=some (.ref f)/\W.keepIn K (.ref f)=true/\Binds K fd ps []
structure Rz (X:Cx)(fh:List ai)(H0:Hp)(Kx:DX):Prop where
 ex:∃ E:XK,sM fh H0 Kx E/\Passes (nz X.prog X.w) X E
structure Rm (X:Cx)(fh:List ai)(H0:Hp)(Kx:DX):Prop where
 ex:∃ E:XK,sM fh H0 Kx E/\Passes (nz X.prog X.w) X E/\∀(dA:List (ai×Obj)) (σ:St) (H:Hp) (s:ah) (h':Heap) (e:ai) (cls:Value) (vs:List Value),Inv X dA σ H s->Heap.MadeExcOf s.heap h' e cls vs->E cls none H->X.xe (.ref e) { s with heap:=h'}
def Rm.z {X:Cx}{fh:List ai}{H0:Hp}{Kx:DX}(h:Rm X fh H0 Kx):Rz X fh H0 Kx:=let ⟨E,a,b,_⟩:=h.ex;⟨E,a,b⟩
def fe.Im {φ fh:List ai}{H H0:Hp}{μ:MS}(M:fe φ H μ)(e:μ[0]?=some (.gx fh H0)):Fr fh H0 φ H:=let ⟨_,_,h⟩:=M.at_ 0 _ e;h.1
def zk.nt {φ:List ai}{H:Hp}{m:MO}{p:ai}(h:zk φ H m p)(zs:List V):H p≠some (.tup zs):=fun e=>by
 cases m with
 | box=>obtain⟨q,ns,i,r,z,h1,_⟩:=h;rw[e]at h1;cases h1
 | lst ds=>obtain⟨vs,h1,_⟩:=h;rw[e]at h1;cases h1
 | jr ks ds=>obtain⟨kvs,vs,h1,_⟩:=h;rw[e]at h1;cases h1
 | oR o kvs ds=>have h1:=h.1;rw[e]at h1;cases h1
 | ins C ns ds=>obtain⟨dx,fs,h1,_⟩:=h;rw[e]at h1;cases h1
 | Qq ks ds=>obtain⟨kvs,h1,_⟩:=h;rw[e]at h1;cases h1
 | gx fh H0=>exact h.2.2.2 zs e
 | exc c=>rw[show _=_ from h]at e;cases e
def fe.ghost {φ:List ai}{H:Hp}{μ:MS}{m:MO}(M:fe φ H μ)(e:μ[0]?=some m):fe φ H (μ.set 0 (.gx φ H)):=by
 have h0:0<μ.length:=(l8 e).1
 refine⟨M.nd,by rw[aG];exact M.len,fun k n en=>?_⟩
 by_cases hk:k=0
 .subst hk
  rw[aC h0]at en
  cases en
  obtain⟨p,e1,e2⟩:=M.at_ 0 m e
  exact⟨p,e1,.refl _ _,rfl,e2.ex,e2.nt⟩
 .rw[ak (bj hk)]at en
  exact M.at_ k n en
def fe.back {φ ft:List ai}{H H':Hp}{μ μ':MS}{m:MO}(M:fe φ H μ)(e:μ[0]?=some m)(M':fe ft H' μ')(e':μ'[0]?=some (.gx φ H)):fe ft H' (μ'.set 0 m):=by
 have h0:0<μ'.length:=(l8 e').1
 refine⟨M'.nd,by rw[aG];exact M'.len,fun k n en=>?_⟩
 by_cases hk:k=0
 .subst hk
  rw[aC h0]at en
  cases en
  obtain⟨p',e1,f,hp,_⟩:=M'.at_ 0 _ e'
  obtain⟨p,e2,im⟩:=M.at_ 0 m e
  have:=f.get e2
  rw[e1]at this
  cases this
  exact⟨p',e1,im.mono f fun o q=>hp.trans q⟩
 .rw[ak (bj hk)]at en
  exact M'.at_ k n en
def gK (fh:List ai)(H0:Hp)(m:MO)(K:DK):DK:=fun d μ'=>μ'[0]?=some (.gx fh H0)/\K d (μ'.set 0 m)
def gX (fh:List ai)(H0:Hp)(m:MO)(K:DX):DX:=fun c μ'=>μ'[0]?=some (.gx fh H0)/\K c (μ'.set 0 m)
def u0.ghost {φ:List ai}{H:Hp}{μ:MS}{m:MO}{K:DK}{Q:VK}(L:u0 φ H K Q)(M:fe φ H μ)(e:μ[0]?=some m):u0 φ H (gK φ H m K) Q:=fun d μ' ft v H' ⟨e',k⟩ f M' i=>L d _ ft v H' k f (M.back e M' e') i
def sM.ghost {φ:List ai}{H:Hp}{μ:MS}{m:MO}{K:DX}{Q:XK}(L:sM φ H K Q)(M:fe φ H μ)(e:μ[0]?=some m):sM φ H (gX φ H m K) Q:=fun c μ' ft H' ⟨e',k⟩ f M'=>L c _ ft H' k f (M.back e M' e')
section
variable {X:Cx}{e:Expr}{es:List Expr}{pos:Pos}{fh:List ai}{H0:Hp}{Kx:DX}
def SR (fh:List ai)(H0:Hp)(Kx:DX)(f:i9)(w:DA):De:=fun ρ μ K=>w ρ μ fun ds eF=>eF[0]?=some (.gx fh H0)/\f ds eF K Kx
def m8 {f:i9}{w:DA}{x:Str}{p:Pos}{k:Nat}{ps:List Str}(Z:Rz X fh H0 Kx)(C:ur X.prog X.w X.K X.mg X.dD x k ps (kj f))(hr:iz k X.A)(hg:Gl X x)(ha:vR X (e::es) w)
 (uN:(x==("__debug__" : Str))=false:=by decide) (he:starEach (e::es) X.env=(false,eval e X.env)::starEach es X.env:=by rfl) (lW:(backTo pos (starEach es X.env)).any (·.1)=false:=by rfl) :
 PD X (.Call (.Name x p) (e::es) [] pos) (SR fh H0 Kx f w):=by
 obtain⟨E,LX,hp⟩:=Z.ex
 obtain⟨f',fd,F,hm,hk,hb⟩:=C.ex
 exact(Gp F hr hg hm hk hb .nil hp ha uN he lW).imp fun σ H Q ⟨φ,ρ,μ,K,Ee,M,w,L⟩ =>
  ⟨φ,ρ,μ,_,Ee,M,w,fun ds eF eZ vs H1 k1 f1 M1 i1=>by show kj f (vs++[]) H1 Q E;rw[aV];exact⟨eZ,ds,eF,K,Kx,i1,M1,k1.2,L.mono f1,LX.mono (M1.Im k1.1)⟩⟩
def SK (fh:List ai)(H0:Hp)(Kx:DX)(C:ai)(w:DA):Ds:=fun _ ρ μ=>w ρ μ fun ds eF=>ds.length<=sizeLine/\eF[0]?=some (.gx fh H0)/\Kx (.ref C) eF
def iL {w:DA}{x:Str}{C:ai}{bm bmN:List Value}{B Bn newId nid R6 inN:String}{np gE:Pos}(Z:Rm X fh H0 Kx)(hc:X.gg=true)(O:OwnCls x C bm newId X.mg X.dD)(Fn:ExcBaseFacts Bn newId inN bmN)(hBn:bm.contains (.type Bn)=true)
 (FB:ExcBaseFacts B nid R6 bm) (hg:Gl X x) (ha:vR X (e::es) w) (hd:(x==("__debug__" : Str))=false:=by decide)
 (he:starEach (e::es) X.env=(false,eval e X.env)::starEach es X.env:=by rfl) (lW:(backTo gE (starEach es X.env)).any (·.1)=false:=by rfl) :
 wZ X (.Raise (some (.Call (.Name x np) (e::es) [] gE)) none pos) (SK fh H0 Kx C w):=fun dA s σ H D I hq=>by
 obtain⟨φ,ρ,μ,N,A,M,k,L⟩:=hq
 obtain⟨E,LX,hp,mk⟩:=Z.ex
 obtain⟨tl,Na,nm,q,bs,hdct,sn,sub,ab,col,dd,k0,k1,k2,k3,k5,mN,hC,hN,WW,T⟩:=O.obj
 refine wpAny_Raise_call_subU (C:=C) (nm:=nm) (q:=q) (N:=Na) (bs:=bs) (bm:=tl) (hdct:=hdct) (sn:=sn) (sub:=sub) (ab:=ab) (col:=col) (dd:=dd) (k0:=k0) (k1:=k1) (k2:=k2) (k3:=k3) (k5:=k5)
  Fn hBn FB (mN:=mN) (T.hasType FB.hasBase) (I.ok.hd hc) (by rw[he];show(false||(backTo gE (starEach es X.env)).any (·.1))=false;rw[lW];rfl) WW (oI I hg O.bound ⟨rfl,?_⟩ hd)
 have h:=ha gE dA s σ H (fun vs H1=>vs.length<=sizeLine/\E (.ref C) none H1) I ⟨φ,ρ,μ,_,A,M,k,fun ds eF eZ vs H1 k1 f1 M1 i1=>⟨by rw[i1.len];exact k1.1,LX (.ref C) eF eZ H1 k1.2.2 (M1.Im k1.2.1) M1⟩⟩
 rw[he]at h ⊢
 refine Calls.evalArgs_plain (bo h (fun us s2 rl=>by obtain⟨vs,H1,I1,r1,q1⟩:=rl;exact⟨rfl,by rw[<- r1.length];exact q1.1,I1.bk _ _ hC,hN.keeps I1.bk,T.keeps I1.bk,fun h' e' mx=>mk dA σ H1 s2 h' e' _ _ I1 mx q1.2⟩) fun _ _ y=>y)
end
def FX (n:Nat)(K:DX):DX:=fun c μ'=>K c μ'\/((∀(j:Nat) (m:MO),j<n->μ'[j]?=some m->Eh n m)/\K c (μ'.take n))
def sM.fx {φ:List ai}{H:Hp}{μ:MS}{K:DX}{E:XK}(M:fe φ H μ)(L:sM φ H K E):sM φ H (FX μ.length K) E:=fun c μ' ft H' k f M'=>by
 rcases k with k | ⟨hm,k⟩
 .exact L c μ' ft H' k f M'
 .have GN:ft.take μ.length=φ:=by
   obtain⟨⟨ψ,rfl,_⟩,_,_⟩:=f
   rw[<- M.len,aW]
  have f0:Fr φ H (ft.take μ.length) H':=by
   rw[GN]
   exact⟨⟨[],by simp,fun _ h=>nomatch h⟩,f.keep,f.YN⟩
  exact L c _ _ H' k f0 (M'.jO hm)
section
variable {P:ae}{w:af}{K:aa}{mg:Str->Option Value}{dD:Heap}
def ic.xQ {x qual:Str}{st:Stmt}{f:ai}{fd:ag}{N ps:List Str}{k:Nat}{fs:i9}(F:ic K x qual st f fd)(S:d8 N ps (dR st))(len:∀ ds μ Kd Kx,fs ds μ Kd Kx->ds.length=ps.length/\∃ m,μ[0]?=some m)
 (qv:∀(gr:Value) (A:Around) (dW:List Env) (s:ah) (H:Hp) (E:XK),iz k (A.deeper (envOfC qual (dR st) s.heap.objs.size f gr))->∀(fh:List ai) (Kb:DX),Rm (pI (nz P w) P w K mg dD N qual (dR st) f gr A dW s H E) fh H Kb ->
   ∃ W,Ft (pI (nz P w) P w K mg dD N qual (dR st) f gr A dW s H E) (hX st) W/\∀ ds μ m Kd Kx,(∀(j:Nat) (m':MO),(μ.set 0 (.gx fh H))[j]?=some m'->Eh (μ.set 0 (.gx fh H)).length m')->rk (μ.set 0 (.gx fh H)).length ds->μ[0]?=some m->fs ds μ Kd Kx->Kb=FX (μ.set 0 (.gx fh H)).length (gX fh H m Kx) ->
    W (Et (μ.set 0 (.gx fh H)).length (gK fh H m Kd)) (p5 N ds) (μ.set 0 (.gx fh H))):eV P w K mg dD (nz P w) (k+1) f fd ps (kj fs):=by
 obtain⟨oc,od,kV,doc,pm,an,gr,ct,My,rfl,lk,zd⟩:=F.ex
 refine Qj lk zd S (fun vs H Q E h=>?_) fun A dW s H vs Q E hr IS=>?_
 .obtain⟨φ,ds,μ,Kd,Kx,ha,M,hf,L,LX⟩:=h
  rw[ha.len];exact(len ds μ Kd Kx hf).1
 .obtain⟨φ,ds,μ,Kd,Kx,ha,M,hf,L,LX⟩:=IS
  obtain⟨_,m,em⟩:=len ds μ Kd Kx hf
  have Mg:=M.ghost em
  have Lg:=(L.ghost M em).fz Mg
  obtain⟨W,hW,q⟩:=qv gr A dW s H E hr φ (FX (μ.set 0 (.gx φ H)).length (gX φ H m Kx)) ⟨E,(LX.ghost M em).fx Mg,Vy,fun dA σ H' s' h' e cls vs I x hE=>raises I x hE⟩
  refine⟨_,hW,φ,p5 N ds,μ.set 0 (.gx φ H),Et (μ.set 0 (.gx φ H)).length (gK φ H m Kd),.start ha,Mg,q ds μ m Kd Kx Mg.bound (by rw[<- Mg.len];exact ha.bound) em hf rfl,⟨fun jE μ' ft gH H' k' f' A' M'=>?_,Lg,fun _ _ _ _ _ k' _ _ _=>k'.elim,fun _ _ _ _ _ k' _ _ _=>k'.elim⟩⟩
  exact Lg .gy μ' ft .gy H' k' f' M' rfl
end
def zg:entryFor table "proto.unchain"=some Builtin.«proto.unchain»:=entryFor_of_tree (by kernel_rfl)
section
variable {prog:ae}{w:af}{A:Around}{E:Value->ah->Prop}{s:ah}
def Aw {α:Type}{e h:ai}{oh oe:Obj}{vs ws:Array Value}{Q:α->ah->Prop}(hh:A.handled=some (.ref h))(Il:h≠e)(ho:s.heap.get? h=some oh)(hd:oh.data=.fields vs)(h2:vs[2]?=some .none)(he:s.heap.get? e=some oe)(hde:oe.data=.fields ws)(h2e:2<ws.size)
 (hE:E (.ref e) { s with heap:=s.heap.update e (Obj.mapFields (·.setIfInBounds 2 (.ref h)))}):wpAny (model prog w) A (raiseNew (.ref e):Sem α) Q E s:=by
 unfold raiseNew
 refine fb (wpAny_handled ?_)
 rw[hh]
 dsimp only
 rw[au (show(Value.ref h != Value.ref e)=true from by simp[Il])]
 refine fb (bP (wpAny_runValue (codeAny_builtin zg ?_)))
 unfold Builtin.«proto.unchain»
 dsimp only
 refine fb (aY ho hd h2 ?_)
 rw[au (by decide)]
 refine fb (av (av ?_))
 exact fb (show wpAny _ _ (setField (.ref e) 2 (.ref h)) _ _ _ from cV he hde h2e (wpAny_throw hE))
def Eu {it h:ai}{oh:Obj}{vs:Array Value}{x left step:Int}{Q:Option Value->ah->Prop}(hh:A.handled=some (.ref h))(ho:s.heap.get? h=some oh)(hd:oh.data=.fields vs)(h2:vs[2]?=some .none)(hit:IsRangeIter s.heap it x left step)(Vk:left<=0)
 (hQ:∀ h',(∀ b o,s.heap.get? b=some o->h'.get? b=some o)->Q none { s with heap:=h'}):wpAny (model prog w) A (pyNext (.ref it)) Q E s:=by
 have hT:s.TypeIs (.ref it) "range_iterator":=⟨_,hit,rfl⟩
 unfold pyNext
 refine fb (wpAny_attempt (bG (name:=Str.ofString "__next__") hT F.slot_range_iterator_next
  (bV F.slot_range_iterator_next hT F.entry_range_iterator_next ?_ (F.args_range_iterator_next_1 _))))
 show wpAny _ _ (field (.ref it) 0 >>= _) _ _ s
 refine fb (aY hit rfl (x:=rawInt x) rfl ?_)
 show wpAny _ _ (field (.ref it) 1 >>= _) _ _ s
 refine fb (aY hit rfl (x:=rawInt left) rfl ?_)
 show wpAny _ _ (field (.ref it) 2 >>= _) _ _ s
 refine fb (aY hit rfl (x:=rawInt step) rfl ?_)
 show wpAny _ _ (if left<=0 then _ else _) _ _ s
 rw[au Vk]
 refine fb (wpAny_rule (fb ?_))
 show wpAny _ _ (newExc (.type "StopIteration") [] >>= _) _ _ _
 refine fb ?_
 simp only[newExc,newTuple]
 refine fb (ba ?_ (by size_fits))
 refine fb (m:=firstArgMember _ _) (wpAny_of_eq (a:=Value.none) (by first | rfl | (simp only[firstArgMember];rfl)) ?_)
 refine ba ?_ (by size_fits)
 obtain⟨g,hg⟩:∃ g,g=s.heap.push { cls:=Value.type "tuple",data:=Data.seq #[]}:=⟨_,rfl⟩
 show wpAny _ _ (raiseNew (.ref (s.heap.push { cls:=Value.type "tuple",data:=Data.seq #[]}).objs.size)) _ _ { s with heap:=(s.heap.push { cls:=Value.type "tuple",data:=Data.seq #[]}).push { cls:=Value.type "StopIteration",data:=Data.fields (#[Value.ref s.heap.objs.size,Value.none,Value.none,Value.none,Value.bool false,Value.none]++ownMembersOf (Value.type "StopIteration") [])}}
 rw[<- hg]
 have k1:∀ b o,s.heap.get? b=some o->g.get? b=some o:=fun b o e=>by rw[hg];exact j0 _ e
 have k2:=fun b o (e:g.get? b=some o)=>j0 (h:=g) { cls:=Value.type "StopIteration",data:=Data.fields (#[Value.ref s.heap.objs.size,Value.none,Value.none,Value.none,Value.bool false,Value.none]++ownMembersOf (Value.type "StopIteration") [])} e
 have ne:h≠g.objs.size:=aL (kK (k1 _ _ ho))
 have eN:=aD g (o:={ cls:=Value.type "StopIteration",data:=Data.fields (#[Value.ref s.heap.objs.size,Value.none,Value.none,Value.none,Value.bool false,Value.none]++ownMembersOf (Value.type "StopIteration") [])}) rfl
 refine Aw (s:={ s with heap:=g.push _}) (hh:=hh) ne (k2 _ _ (k1 _ _ ho)) hd h2 eN rfl (by rw[Array.size_append];show 2<6+_;lia) ?_
 refine fb (wpAny_isInstance (T := "StopIteration") (b:=true) ⟨_,cp _ eN rfl,rfl⟩ isSubtype_stop ?_)
 exact av (hQ _ fun b o e=>by
  have e2:=k2 _ _ (k1 _ _ e)
  rw[bw _ _ (bt (kK (k1 _ _ e)))]
  exact e2)
end
structure T4 (K:aa)(C:ai):Prop where
 cl:(W.clsIn K C).isSome=true
 ga:W.findIn K (.ref C) "__getattribute__"=some (some (.builtin "BaseException.__getattribute__"))
 gn:W.findIn K (.ref C) "__getattr__"=some none
 ca:W.findIn K (.ref C) "__class__"=some (some (.builtin "object.__class__"))
 cg:W.specialIn K (.builtin "object.__class__") "__get__"=some (some (.builtin "getset_descriptor.__get__"))
 ct:W.takesIn K (.builtin "object.__class__")=some true
 mo:W.mroIn K C (.type "object")=some true
 mb:W.mroIn K C (.type "BaseException")=some true
section
variable {prog:ae}{w:af}{A:Around}{E:Value->ah->Prop}{s:ah}{K:aa}{e C:ai}{oe:Obj}
def IB {Q:Option Value->ah->Prop}(X:K.In s.heap)(I:W.InstAt s.heap e oe C none)(f:T4 K C)(h:Q (some (.ref C)) { s with toks:=s.toks+1}):wpAny (model prog w) A (getAttr? (.ref e) "__class__") Q E s:=by
 obtain⟨hh,g,d,t,os⟩:=s
 have L0:=I.type (M:=model prog w)
 have L1:=W.looks_findIn (M:=model prog w) X f.ga
 have L2:=W.looks_findIn (M:=model prog w) X f.gn
 have hf:W.findObj K C none "__class__"=some (.bind (.builtin "getset_descriptor.__get__") (.builtin "object.__class__")):=by
  obtain⟨cd,hc⟩:=Option.isSome_iff_exists.mp f.cl
  unfold W.findObj
  rw[hc,Option.bind_some,f.ca,Option.bind_some]
  simp[f.cg,f.ct]
 have L3:=W.looks_find (M:=model prog w) X I hf
 have LB:=W.looks_mroIn (M:=model prog w) X f.mb
 unfold getAttr? getAttrBy? getAttrBy
 refine fb (wpAny_mkText (fb (wpAny_attempt (bP (fb (L0.at (fb (L1.at ?_))))))))
 show wpAny _ _ (getAttrByItsOwn _ _ _ _ _ _) _ _ _
 unfold getAttrByItsOwn
 refine fb (show wpAny _ _ (typeLookup (.ref C) "__getattr__") _ _ _ from L2.at ?_)
 refine fb (wpAny_attempt (bP ?_))
 show wpAny _ _ (boundAndCalled _ _ _) _ _ _
 unfold boundAndCalled
 have ga:=PySem.F.attr_ValueError.ga
 refine fb (wpAny_of_eq (ga.bind (.ref e)) (wpAny_call (codeAny_call_builtin ga.plain F.entry_bexc_ga ?_)))
 have LI:W.Looks (model prog w) hh (isInstance (.ref e) (.type "BaseException")) true:=L0.andThen LB
 have hk:builtinKind "BaseException.__getattribute__"=some .slot:=by decide +kernel
 have Se:splitId "BaseException.__getattribute__"=some ("BaseException", "__getattribute__"):=by decide +kernel
 have ha:=F.args_bexc_ga (.ref e) (.str "__class__" t)
 show wpAny _ _ (checkBuiltinCall "BaseException.__getattribute__" ⟨[.ref e,.str "__class__" t],[]⟩) _ _ _
 simp only[checkBuiltinCall,hk,Se]
 refine fb (LI.at ?_)
 simp only[if_true,Bool.not_true,dq,if_false]
 refine wpAny_of_eq ha ?_
 show wpAny _ _ (Builtin.«object.__getattribute__» ⟨[.ref e,.str "__class__" t],[]⟩) _ _ _
 unfold Builtin.«object.__getattribute__»
 refine fb (av (fb (av (fb (L0.at (fb (L3.at ?_)))))))
 show wpAny _ _ (holding [Value.builtin "object.__class__"] (call (.builtin "getset_descriptor.__get__") [.builtin "object.__class__",.ref e,.ref C]) >>= fun v=>ret v) _ _ _
 refine fb (bP (wpAny_call (W.class_get (ox:=oe) (od:=none) X I f.mo ?_)))
 refine av ?_
 exact W.handed_on rfl (av h)
def Kv (f:T4 K C):W.KitX K (.ref e) (.ref C) (fun h=>∃ oe,W.InstAt h e oe C none) where
 ty:=fun _ _ _ pF=>by obtain⟨_,I⟩:=pF;exact I.type
 it:=fun _ _ X _=>by
  obtain⟨cdD,Oo⟩:=Option.isSome_iff_exists.mp f.cl
  unfold W.clsIn at Oo
  split at Oo
  .rename_i c' d' cd' QZ ho
   intro A' Q' E' s' k q
   unfold isType loadHead
   exact fb (wpAny_loadPart (k _ _ (X _ _ ho)) (av q))
  .cases Oo
 ne:=fun h tp dd eW n sl X htp=>by
  obtain⟨cdD,Oo⟩:=Option.isSome_iff_exists.mp f.cl
  refine Bool.eq_false_iff.mpr fun q=>?_
  have e:C=tp:=Value.ref.inj (beq_iff_eq.mp q)
  subst e
  unfold W.clsIn at Oo
  split at Oo
  .rename_i c' d' cd' QZ ho
   have z:=(X _ _ ho).symm.trans htp
   cases z
  .cases Oo
 ca:=fun X ⟨_,I⟩ k=>IB X I f k
def IA {h:Heap}{g:Array GenState}{d:Drawn}{t:Nat}{os:OsState}{B:ai}{Q:Bool->ah->Prop}{nB qB nC qC:Str}{NB NC:ai}{W8 MP W7 T2:List Value}{WZ WY:Bool}{WG WE:List Str}{subB HA:List Value}{Xa W9:Bool}{OO ON:Option Bool}{W6 W5:Option ai}{b0 b1 b2 b3 b5 c0 c1 c2 c3 c5:Option Value}{WR WQ:String}
 (hB:h.get? B=some (excClassObj nB qB B NB W8 MP WZ WG subB Xa OO W6 b0 b1 b2 b3 b5 WR)) (hC:h.get? C=some (excClassObj nC qC C NC W7 T2 WY WE HA W9 ON W5 c0 c1 c2 c3 c5 WQ)) (he:h.get? e=some oe) (Sm:oe.cls=.ref C)
 (YB:MP.contains (.type "BaseException")=true) (Om:(Value.ref C::T2).contains (.ref B)=true) (hq:Q true ⟨h,g,d,t,os⟩):wpAny (model prog w) A (excMatches (.ref e) (.ref B)) Q E ⟨h,g,d,t,os⟩:=by
 have hcB:(Value.ref B::MP).contains (.type "BaseException")=true:=by rw[List.contains_cons,YB,Bool.or_true]
 have f:=tc_notTuple
 unfold excMatches
 repeat (first | (with_reducible refine wpAny_loadPart_at he ?_;rw[Sm]) | with_reducible refine wpAny_loadPart_at hB ?_ | (with_reducible refine wpAny_isSubtype_exc hB ?_;rw[hcB]) | (with_reducible refine wpAny_isSubtype_exc hC ?_;rw[Om]) | wp_step)
 exact hq
end
section
variable {X:Cx}{a e:Expr}{es:List Expr}{pos:Pos}
def Va {c:V}{cv:Value}(rc:∀ u,fm c u->u=cv):iI X (.builtin "isinstance") (fun vs H Q=>∃ e C b,vs=[.ref e,c]/\H e=some (.ext (lR e (.ref C)))/\T4 X.K C/\W.kitOne X.K (.ref C) cv=some b/\Q (.bl b) H):=by
 intro dA s σ H vs us Q I r q
 obtain⟨e,C,b,rfl,he,f,hk,q⟩:=q
 obtain⟨u1,u2,rfl,r1,r2⟩:=r.two
 cases(show u1=.ref e from r1)
 have:=rc u2 r2
 subst this
 obtain⟨⟨oe,ws,h1,h2,h3,h4,_⟩,_,_⟩:=(show gh X.prog X.w H s.heap e (.ext (lR e (.ref C)))from I.fc e _ he)
 exact cG (Kv f) I.rN ⟨oe,h1,h2,by unfold W.notCls;rw[h4],by rw[h3];trivial⟩ hk (fun z=>nomatch z) fun tk=>⟨.bl b,H,I.tok tk,rfl,q⟩
def Lz (K:aa)(cv:Value)(w:De):De:=fun ρ μ Kd=>w ρ μ fun d eF=>match d with
 | .mr k=>∃ C b,eF[k]?=some (.exc (.ref C))/\T4 K C/\W.kitOne K (.ref C) cv=some b/\Kd (.bl b) eF
 | _=>False
def FN {c:V}{cv:Value}{w:De}{σ:St}{H:Hp}{Q:VK}(h:tD (Lz X.K cv w) σ H Q):WB (fun vs H Q=>∃ e C b,vs=[.ref e,c]/\H e=some (.ext (lR e (.ref C)))/\T4 X.K C/\W.kitOne X.K (.ref C) cv=some b/\Q (.bl b) H) (Ju (tD w) (Ju (tC c) MY)) σ H Q:=by
 obtain⟨φ,ρ,μ,K,A,M,k,L⟩:=h
 refine⟨φ,ρ,μ,_,A,M,k,fun d eF eZ v1 H1 k1 f1 M1 i1=>?_⟩
 cases d with
 | mr j =>
  obtain⟨C,b,e1,f,hk,k1⟩:=k1
  obtain⟨p,hp,rfl⟩:=i1
  obtain⟨p',e2,e3⟩:=M1.at_ j _ e1
  rw[hp]at e2;cases e2
  exact⟨p,C,b,rfl,e3,f,hk,L _ eF eZ _ H1 k1 f1 M1 rfl⟩
 | _=>exact k1.elim
def jt {w:De}{B:ai}{x:Str}{p p2:Pos}(hg:Gl X "isinstance")(hm:X.mg "isinstance"=none)(Yt:Gl X x)(Si:X.mg x=some (.ref B))(ha:PD X a w)(hd:(x==("__debug__" : Str))=false:=by decide)
 (hs:starEach [a,.Name x p2] X.env=(false,eval a X.env)::starEach [.Name x p2] X.env:=by rfl) (Dc:starEach [.Name x p2] X.env=(false,eval (.Name x p2) X.env)::starEach [] X.env:=by rfl) (lW:(backTo pos (starEach [.Name x p2] X.env)).any (·.1)=false:=by rfl) :
 PD X (.Call (.Name "isinstance" p) [a,.Name x p2] [] pos) (Lz X.K (.ref B) w) :=
 (fZ (Va (c:=.ref B) (cv:=.ref B) fun u r=>r) hg hm boot_isinstance (eO ha (eO (Gm (v:=.ref B) Yt Si rfl hd) gJ Dc) hs) (by decide) (by decide) hs lW).imp fun σ H Q q=>FN q
def SG {w:De}{T:String}{x:Str}{p p2:Pos}(hg:Gl X "isinstance")(hm:X.mg "isinstance"=none)(Yt:Gl X x)(Si:X.mg x=none)(hv:bootBuiltins x=some (.type T))(ha:PD X a w)(hn:x ≠ "__name__":=by decide)(hd:(x==("__debug__" : Str))=false:=by decide)
 (hs:starEach [a,.Name x p2] X.env=(false,eval a X.env)::starEach [.Name x p2] X.env:=by rfl) (Dc:starEach [.Name x p2] X.env=(false,eval (.Name x p2) X.env)::starEach [] X.env:=by rfl) (lW:(backTo pos (starEach [.Name x p2] X.env)).any (·.1)=false:=by rfl) :
 PD X (.Call (.Name "isinstance" p) [a,.Name x p2] [] pos) (Lz X.K (.type T) w) :=
 (fZ (Va (c:=.ty T) (cv:=.type T) fun u r=>r) hg hm boot_isinstance (eO ha (eO (iU (v:=.ty T) Yt Si hv rfl hn hd) gJ Dc) hs) (by decide) (by decide) hs lW).imp fun σ H Q q=>FN q
end
def Tf (lo:Int)(n:Nat)(e:ai):It:=⟨fun i _=>i<n,fun i H x H'=>H'=H/\x=.int (lo+i),fun i H=>n<=i/\∃ c,H e=some (.ext (lR e c))⟩
def Hn (e:ai):Cx->Prop:=fun X=>X.A.handled=some (.ref e)
def BX {P:ae}{w:af}{K:aa}{tg:Expr}(it:ai)(lo:Int)(n:Nat)(e:ai):Turn P w K tg (Tf lo n e) [it] it (fun i h=>IsRangeIter h it (lo+(i:Nat)*1) ((n:Int) - (i:Nat)) 1) (Hn e) where
 mem:=by simp
 obj:=(n9 (P:=P) (w:=w) (K:=K) (tg:=tg) it lo n).obj
 keep:=(n9 (P:=P) (w:=w) (K:=K) (tg:=tg) it lo n).keep
 item:=by
  intro X hP hw hK hc i dA s σ H E I hf st hg
  subst hP hw hK
  obtain⟨f0,f1,f2,f3,f4,f5⟩:=hf it (by simp)
  refine wpAny_pyNext_range_item st (by have:i<n:=hg;lia) fun h' B4 kk=>?_
  have I1:Inv X dA σ H { s with heap:=h',toks:=s.toks+1}:=I.turned (fun b o hb e=>kk.extBut b o hb e) f0 f1 f3 f4 f5
  have FU:IsRangeIter h' it (lo+((i+1:Nat):Int)*1) ((n:Int) - ((i+1:Nat):Int)) 1:=by
   have e1:lo+((i+1:Nat):Int)*1=lo+(i:Int)*1+1:=by lia
   have e2:(n:Int) - ((i+1:Nat):Int)=(n:Int) - (i:Int) - 1:=by lia
   rw[e1,e2];exact B4
  refine⟨_,rfl,zN (s:={ s with heap:=h',toks:=s.toks+1}) (n := "range_iterator") B4 rfl rfl (by decide) ⟨.int (lo+i),H,I1,⟨s.toks,by rw[Int.mul_one]⟩,⟨rfl,rfl⟩,FU,fun b hb=>(hf b hb).1⟩⟩
 done:=by
  intro X hP hw hK hc i dA s σ H E I hf st hg
  subst hP hw hK
  obtain⟨f0,f1,f2,f3,f4,f5⟩:=hf it (by simp)
  obtain⟨hg,c,he⟩:=hg
  obtain⟨⟨oe,ws,h1,h2,h3,h4,h5⟩,_,_⟩:=(show gh X.prog X.w H s.heap e (.ext (lR e c))from I.fc e _ he)
  exact Eu hc h1 h4 h5 st (by lia) fun h' k=>⟨rfl,I.dE (t':=s.toks) k⟩
 self:=(n9 (P:=P) (w:=w) (K:=K) (tg:=tg) it lo n).self
section
variable {X:Cx}{tg:Expr}{CM:Cx->Prop}
def Td (X:Cx)(CM:Cx->Prop)(tg iter:Expr)(wi:TI):Prop :=
 ∀(dA:List (ai×Obj)) (s:ah) (σ:St) (H:Hp) (R:It->Hp->Prop),Inv X dA σ H s->wi σ H R ->
  wpAny (model X.prog X.w) X.A (eval iter X.env) (fun v s1=>wpAny (model X.prog X.w) X.A (pyIter v) (fun Qb s2=>∃(it:ai) (fp:List ai) (tn:Nat->Heap->Prop) (J:It) (H':Hp),Qb=.ref it/\Inv X dA σ H' s2/\Turn X.prog X.w X.K tg J fp it tn CM/\tn 0 s2.heap/\(∀ b∈fp,o9 X dA H' b)/\R J H') X.xe s1) X.xe s
def Td.imp {iter:Expr}{t t':TI}(h:Td X CM tg iter t)(hi:∀ σ H Q,t' σ H Q->t σ H Q):Td X CM tg iter t':=fun dA s σ H R I q=>h dA s σ H R I (hi σ H R q)
def Vb (e:ai)(ta:TA):TI:=fun σ H R=>ta σ H fun vs H1=>∃ j:Int,vs=[.int j] /\ -(2 ^ 62)<=j/\j<2 ^ 62/\R (Tf 0 j.toNat e) H1
def HI {a:Expr}{ta:TA}{e:ai}{p pos:Pos}(hg:Gl X "range")(hm:X.mg "range"=none)(ha:PA X [a] ta)(hs:starEach [a] X.env=[(false,eval a X.env)]:=by rfl):Td X (Hn e) tg (.Call (.Name "range" p) [a] [] pos) (Vb e ta):=by
 intro dA s σ H R I h
 refine Call_ (qt I hg hm boot_range (bD (gc (ha pos dA s σ H _ I h) fun us s1 oN=>?_) hs rfl))
 obtain⟨vs,H1,I1,r1,q1⟩:=oN
 obtain⟨j,e',q1,q2,q⟩:=q1
 subst e'
 cases r1 with
 | cons r rr =>
  cases rr
  obtain⟨t,rfl⟩:=r
  refine call_range_1 ?_
  refine wpAny_pyIter_range (IsRange.new ..) (small_one (by lia) (by lia) q1 q2) ?_
  obtain⟨o,ho⟩:∃ o:Obj,o={ cls:=.type "range",data:=.fields #[.int 0 s1.toks,.int j t,.int 1 (s1.toks+1)]}:=⟨_,rfl⟩
  have I2:Inv X dA σ H1 { s1 with heap:=s1.heap.push o,toks:=s1.toks+1+1}:=I1.dE fun b u e=>j0 _ e
  rw[<- ho]
  refine⟨(s1.heap.push o).objs.size,[(s1.heap.push o).objs.size],_,_,H1,rfl,I2.dE (t':=s1.toks+1+1) fun b u e=>j0 _ e,BX _ 0 j.toNat e,?_,fun b hb=>?_,q⟩
  .have e1:(0:Int)+((0:Nat):Int)*1=0:=by simp
   have e2:((j.toNat:Nat):Int) - ((0:Nat):Int)=Builtin.Range.rangeSize 0 j 1:=by rw[rangeSize_one];split <;> lia
   show IsRangeIter _ _ ((0:Int)+((0:Nat):Int)*1) (((j.toNat:Nat):Int) - ((0:Nat):Int)) 1
   rw[e1,e2]
   exact aD _ rfl
  .have e':b=(s1.heap.push o).objs.size:=by simpa using hb
   subst e'
   exact I2.Df (aj _) (I2.fc.fresh (aj _))
variable {N:List Str}{js:List (Option Nat)}{sc:Scope}{elt iter:Expr}{ifs:List Expr}{g:TG}{tt:TT}{te:TE}
def JX {wi:TI}{pos:Pos}(hc:i8 X N js sc)(gg:∀ fp s H,CM (l9 X N sc fp s H))(hi:Td X CM tg iter wi)(hg:∀ fp s H,PG (l9 X N sc fp s H) tg g)(ht:∀ fp s H,Ja (l9 X N sc fp s H) ifs tt)(he:∀ fp s H,PE (l9 X N sc fp s H) elt te)
 (hs:∀ x,foldedSetIterable iter X.env x=pure x:=by intro _;rfl):PE X (.ListComp elt [⟨tg,iter,ifs,0⟩] sc pos) (FQ wi js g tt te):=by
 intro dA s σ H Q I h
 rw[eval_ListComp]
 refine cy (use:=none) rfl hs (lj fun y hy e=>I.ok.has y.1 (hc.free y hy e)) hc.kind hc.loc (gc (hi dA s σ H _ I h) fun v s1 h1=>gc h1 fun Qb s2 h2=>?_)
 obtain⟨it,fp,tn,J,H2,e,I2,T,FU,f2,q⟩:=h2
 subst e
 refine ba (m3 ?_)
 have hC:(s2.heap.push { cls:=.type "list",dict:=none,data:=.seq ([]:List Value).toArray}).objs.size=s2.heap.objs.size+1:=bc ..
 simp only[hC]
 refine sG (tk:=s2.toks) I2 hc (gg fp s2 H2) T FU f2 (hg fp s2 H2) (ht fp s2 H2) (he fp s2 H2) q fun s' H' ys m IX nD qf nC hn=>?_
 refine⟨m,nC,fun h' sb=>?_⟩
 have BP:∀(b:ai) (o:Obj),s2.heap.get? b=some o->b≠s2.heap.objs.size+1:=fun b o e=>aL (bu (kK e))
 have IY:Inv X dA σ (upd H' s2.heap.objs.size (.lst ys)) { s' with heap:=h'}:=IX.turned (t':=s'.toks) (it:=s2.heap.objs.size+1) (fun b o hb e=>(sb.2 b hb).trans e) (by rw[eP (bt (bX _))];exact hn)
  (bt (bu I2.lt)) (.inr (bF I2.sz)) (fun x c e=>let ⟨v,z⟩:=I2.cell x c e;aL (bu z.lt)) (fun p hp=>BP _ _ (I2.pin p hp).1)
 exact⟨.ref _,_,IY,rfl,qf _ nD⟩
end
abbrev hC (fh:List ai)(H0:Hp)(k:Nat):MS->Prop:=fun μ=>μ[0]?=some (.gx fh H0)/\∃ c,μ[k]?=some (.exc c)
def K4 {fh φ:List ai}{H0 H:Hp}{k:Nat}{μ:MS}{e:ai}(hk:fh[k]?=some e)(M:fe φ H μ)(h:hC fh H0 k μ):φ[k]?=some e/\∃ c,H e=some (.ext (lR e c)):=by
 obtain⟨h1,c,h2⟩:=h
 have:=(M.Im h1).get hk
 obtain⟨p,e1,e2⟩:=M.at_ k _ h2
 rw[this]at e1;cases e1
 exact⟨this,c,e2⟩
def Hu {lo:Int}{n k:Nat}{φ fh:List ai}{H H0:Hp}{e:ai}(hk:fh[k]?=some e):Wk (Tf lo n e) φ H (lU lo n) (hC fh H0 k):=fun ft H' μ' f M c i=>by
 have hl:(lU lo n).length=n:=by unfold lU;rw[fH,MJ]
 refine⟨fun d hd=>?_,fun hi=>⟨by rw[hl]at hi;exact Nat.le_of_eq hi.symm,(K4 hk M c).2⟩⟩
 have hi:i<n:=by have:=(l8 hd).1;lia
 refine⟨hi,fun x Mn hy=>?_⟩
 obtain⟨rfl,rfl⟩:=hy
 refine⟨.refl _ _,M,?_⟩
 unfold lU at hd
 rw[vB,c7 hi]at hd
 cases hd
 rfl
def VY (fh:List ai)(H0:Hp)(k:Nat)(w:DA):DI:=fun ρ μ K=>w ρ μ fun ds eF=>match ds with
 | [.int j] => -(2 ^ 62)<=j/\j<2 ^ 62/\K (lU 0 j.toNat) (hC fh H0 k) eF
 | _=>False
section
variable {X:Cx}{a:Expr}{pos:Pos}{N:List Str}{js:List (Option Nat)}{sc:Scope}{tg elt iter:Expr}{ifs:List Expr}{g:TG}{y:DG}{S:List Nat}{t:Dt}{w:De}{fh:List ai}{H0:Hp}{k:Nat}{e:ai}
def KP {w:DA}{p:Pos}(hk:fh[k]?=some e)(hg:Gl X "range")(hm:X.mg "range"=none)(ha:vR X [a] w)(hs:starEach [a] X.env=[(false,eval a X.env)]:=by rfl):Td X (Hn e) tg (.Call (.Name "range" p) [a] [] pos) (Ul (VY fh H0 k w)):=(HI hg hm ha hs).imp fun σ H Q hq=>by
 obtain⟨φ,ρ,μ,K,A,M,k,L⟩:=hq
 refine⟨φ,ρ,μ,_,A,M,k,fun ds eF eZ vs H1 k1 f1 M1 i1=>?_⟩
 split at k1
 .obtain⟨v,r,rfl,h1,h2⟩:=i1
  cases(show v=_ from h1);cases(show r=[]from h2)
  exact⟨_,rfl,k1.1,k1.2.1,L _ _ eF eZ _ H1 k1.2.2 f1 M1 (Hu hk)⟩
 .exact k1.elim
def OD (m:Bool){wi:DI}(hc:i8 X N js sc)(hh:X.A.handled=some (.ref e))(so:IW g y S)(mo:n5 g)(ho:qg S js=true)(hi:Td X (Hn e) tg iter (Ul wi))(hg:∀ fp s H,PG (l9 X N sc fp s H) tg g)(ht:∀ fp s H,zj (l9 X N sc fp s H) ifs t)(he:∀ fp s H,PD (l9 X N sc fp s H) elt w)
 (hs:∀ x,foldedSetIterable iter X.env x=pure x:=by intro _;rfl):PD X (.ListComp elt [⟨tg,iter,ifs,0⟩] sc pos) (vF m wi js y t w):=(JX hc (fun _ _ _=>hh) hi hg ht he hs).imp fun σ H Q q=>Ae so mo ho q
end
structure uq (k:Nat)(A:Around):Prop where
 dp:A.depth+3*k+5<recursionLimit
 un:A.units+16*k+200<cLine
def uq.deeper {k:Nat}{A:Around}(r:uq (k+1) A)(env:Env):uq k (A.deeper env) :=
 ⟨by have:=r.dp;show A.depth+1+3*k+5<_;lia,by have:=r.un;show A.units+3+16*k+200<_;lia⟩
def uq.depth {k:Nat}{A:Around}(r:uq k A):A.depth<recursionLimit:=by have:=r.dp;lia
abbrev Cx.MB (X:Cx)(A:Around):Cx:={ X with A:=A,gg:=false,xe:=fun _ _=>False}
def Inv.MB {X:Cx}{dA:List (ai×Obj)}{σ:St}{H:Hp}{s:ah}(I:Inv X dA σ H s){A:Around}(hf:A.frames=some X.stack):Inv (X.MB A) dA σ H s :=
 ⟨⟨I.ok.mod,I.ok.kind,I.ok.glob,I.ok.blt,I.ok.above,I.ok.inj,I.ok.has,I.ok.SV,(fun z=>by cases z),hf,I.ok.TL,I.ok.Qn,I.ok.bs,I.ok.Fj,I.ok.CA,I.ok.Du,I.ok.rH,I.ok.MK⟩,I.os,I.bare,I.dD,I.loc,I.cell,I.free,I.kO,I.pin,I.fc,I.len⟩
structure Ho (P:ae)(w:af)(K:aa)(mg:Str->Option Value)(dD:Heap)(k:Nat)(f:ai)(fd:ag)(ps:List Str)(fs:jJ):Prop where
 len:∀ ds μ Kd,fs ds μ Kd->ds.length=ps.length
 run:∀(A:Around) (dW:List Env) (s:ah) (H:Hp) (args:Args) (us:List Value) (vs:List V) (Q:VK) (e:ai),uq k A->A.handled=some (.ref e)->BI P w K mg dD A dW s H->BindsTo s fd args (ps.zip us)->fj vs us ->
  (∃ φ ds μ Kd kx,eK φ H ds vs/\fe φ H μ/\φ[kx]?=some e/\kx≠0/\(∃ c,μ[kx]?=some (.exc c))/\fs ds μ Kd/\u0 φ H Kd Q)->codeAny (model P w) A (.call (.ref f) args) (CR kJ dW P w H s Q E0) s
section
variable {P:ae}{w:af}{K:aa}{mg:Str->Option Value}{dD:Heap}
abbrev Zg (P:ae)(w:af)(K:aa)(mg:Str->Option Value)(dD:Heap)(N:List Str)(qual:Str)(scope:Scope)(f:ai)(cd:Value)(A:Around)(dW:List Env)(s:ah)(H:Hp):Cx :=
 (pI kJ P w K mg dD N qual scope f cd { A with handled:=none} dW s H E0).MB (A.deeper (envOfC qual scope s.heap.objs.size f cd))
def ic.okH {x qual:Str}{st:Stmt}{f:ai}{fd:ag}{N ps:List Str}{k:Nat}{fs:jJ}(F:ic K x qual st f fd)(S:d8 N ps (dR st))(len:∀ ds μ Kd,fs ds μ Kd->ds.length=ps.length/\∃ m,μ[0]?=some m)
 (qv:∀(gr:Value) (A:Around) (dW:List Env) (s:ah) (H:Hp),uq k (A.deeper (envOfC qual (dR st) s.heap.objs.size f gr))->∀(fh:List ai) (kx:Nat) (e:ai),fh[kx]?=some e->A.handled=some (.ref e) ->
   ∃ W,Ft (Zg P w K mg dD N qual (dR st) f gr A dW s H) (hX st) W/\∀ ds μ m Kd,(∀(j:Nat) (m':MO),(μ.set 0 (.gx fh H))[j]?=some m'->Eh (μ.set 0 (.gx fh H)).length m')->rk (μ.set 0 (.gx fh H)).length ds->μ[0]?=some m->hC fh H kx (μ.set 0 (.gx fh H))->fs ds μ Kd ->
    W (Et (μ.set 0 (.gx fh H)).length (gK fh H m Kd)) (p5 N ds) (μ.set 0 (.gx fh H))):Ho P w K mg dD (k+1) f fd ps fs:=by
 obtain⟨oc,od,kV,doc,pm,an,gr,ct,My,rfl,lk,zd⟩:=F.ex
 refine⟨fun ds μ Kd h=>(len ds μ Kd h).1,fun A dW s H args us vs Q e hr hh e0 hb r IS=>?_⟩
 obtain⟨φ,ds,μ,Kd,kx,ha,M,hk,Vm,hex,hf,L⟩:=IS
 obtain⟨ME,m,em⟩:=len ds μ Kd hf
 have hl:vs.length=ps.length:=by rw[ha.len];exact ME
 have KX:K.In s.heap:=e0.mod.PZ.keeps fun b o e=>(e0.bs b o e).1
 have lim:s.heap.NoLimit:=e0.mod.nolimit.keeps fun b o e=>(e0.bs b o e).1
 have KW:∀ y∈ps.zip us,(dR st).names.lookup y.1=some .local\/((dR st).names.lookup y.1=some .cell/\((cellsFrom (s.heap.objs.size+1) (dR st).names []).lookup y.1).isSome=true):=fun⟨n,v⟩ hy=>by
  rcases S.par n (List.of_mem_zip hy).1 with q | q
  .exact .inl q
  .exact .inr ⟨q,W.cellsFrom_some _ _ _ (.inl q)⟩
 refine codeAny_call_function hr.depth (KX _ _ lk) rfl S.co S.gen rfl (W.codeRec_of KX zd) (hb _ _ _ _ ?_)
 refine wpAny_newFunctionEnv_cells S.kind KW fun env he s1 x=>?_
 subst he
 refine⟨lim.keeps x.toInCall.keep,codeAny_func ?_⟩
 have e1:BI P w K mg dD { A with handled:=none} dW s H:=⟨e0.frames,e0.mod,e0.bs,e0.Fj,e0.rH,e0.MK,e0.fc,e0.bare⟩
 have I0:Inv (pI kJ P w K mg dD N qual (dR st) f gr { A with handled:=none} dW s H E0) [] (start N vs) H s1:=zJ S rfl e1 hl r x
 have I:Inv (Zg P w K mg dD N qual (dR st) f gr A dW s H) [] (start N vs) H s1:=I0.MB (Around.frames_deeper e0.frames)
 have Mg:=M.ghost em
 have Lg:=(L.ghost M em).fz Mg
 have hc:hC φ H kx (μ.set 0 (.gx φ H)):=⟨aC (l8 em).1,by rw[ak (bj Vm)];exact hex⟩
 obtain⟨W,hW,q⟩:=qv gr A dW s H (hr.deeper _) φ kx e hk hh
 refine bo (hW [] s1 (start N vs) H { nx:=fun _ H'=>Q .gy H',rt:=Q} I ⟨φ,p5 N ds,μ.set 0 (.gx φ H),Et (μ.set 0 (.gx φ H)).length (gK φ H m Kd),.start ha,Mg,q ds μ m Kd Mg.bound (by rw[<- Mg.len];exact ha.bound) em hc hf,⟨fun jE μ' ft gH H' k' f' A' M'=>Lg .gy μ' ft .gy H' k' f' M' rfl,Lg,fun _ _ _ _ _ k' _ _ _=>k'.elim,fun _ _ _ _ _ k' _ _ _=>k'.elim⟩⟩) (fun fl s' hs=>?_) fun e s' hs=>hs.elim
 have fin:∀ {gH:St} {H':Hp} {v:V} {u:Value},Inv (Zg P w K mg dD N qual (dR st) f gr A dW s H) [] gH H' s'->fm v u->Q v H'->CE dW P w H s Q u s' :=
  fun {gH H' v u} J rv q=>⟨v,H',J.os,J.bare,J.dD,J.fc,rv,q⟩
 cases fl with
 | ret u =>
  obtain⟨v,gH,H',J,rv,q⟩:=hs
  exact fin J rv q
 | next =>
  obtain⟨gH,H',J,q⟩:=hs
  exact fin (v:=V.gy) (u:=Value.none) J rfl q
 | brk =>
  obtain⟨_,_,_,q⟩:=hs
  exact False.elim q
 | cont =>
  obtain⟨_,_,_,q⟩:=hs
  exact False.elim q
end
structure Tn (P:ae)(w:af)(K:aa)(mg:Str->Option Value)(dD:Heap)(x:Str)(k:Nat)(ps:List Str)(fs:jJ):Prop where
 ex:∃ f fd,Ho P w K mg dD k f fd ps fs/\mg x=some (.ref f)/\W.keepIn K (.ref f)=true/\Binds K fd ps []
section
variable {X:Cx}{e:Expr}{es:List Expr}{pos:Pos}{fh:List ai}{H0:Hp}{kx:Nat}{ea:ai}
def SS (fh:List ai)(H0:Hp)(kx:Nat)(f:jJ)(w:DA):De:=fun ρ μ K=>w ρ μ fun ds eF=>hC fh H0 kx eF/\f ds eF K
def OG {f:jJ}{w:DA}{x:Str}{p:Pos}{k:Nat}{ps:List Str}(hk:fh[kx]?=some ea)(Vm:kx≠0)(hh:X.A.handled=some (.ref ea))(C:Tn X.prog X.w X.K X.mg X.dD x k ps f)(hr:uq k X.A)(hg:Gl X x)(ha:vR X (e::es) w)
 (uN:(x==("__debug__" : Str))=false:=by decide) (he:starEach (e::es) X.env=(false,eval e X.env)::starEach es X.env:=by rfl) (lW:(backTo pos (starEach es X.env)).any (·.1)=false:=by rfl) :
 PD X (.Call (.Name x p) (e::es) [] pos) (SS fh H0 kx f w):=by
 obtain⟨f',fd,F,hm,hkp,hb⟩:=C.ex
 intro dA s σ H Q I h
 obtain⟨φ,ρ,μ,K,A,M,w,L⟩:=h
 refine bW (oI I hg hm ?_ uN)
 refine W.callWith_K (h₀:=X.dD) I.ok.mod.PZ hkp (gc (ha pos dA s σ H (fun vs H1=>∃ φ ds μ Kd kx,eK φ H1 ds vs/\fe φ H1 μ/\φ[kx]?=some ea/\kx≠0/\(∃ c,μ[kx]?=some (.exc c))/\f ds μ Kd/\u0 φ H1 Kd Q) I ⟨φ,ρ,μ,_,A,M,w,fun ds eF eZ vs H1 k1 f1 M1 i1=>⟨eZ,ds,eF,K,kx,i1,M1,(K4 hk M1 k1.1).1,Vm,k1.1.2,k1.2,L.mono f1⟩⟩) fun us s1 sD=>?_) he lW
 obtain⟨vs,H1,I1,r,q⟩:=sD
 refine⟨I1.rN,?_⟩
 have hl:us.length=ps.length:=by
  obtain⟨eZ,ds,eF,Kd,kx1,i1,_,_,_,_,hf,_⟩:=q
  rw[<- r.length,i1.len];exact F.len _ _ _ hf
 refine wpAny_call (codeAny_mono (F.run X.A X.stack s1 H1 ⟨us,[]⟩ us vs Q ea hr hh I1.Sw (by have:=hb s1 us I1.rN (by rw[aV];exact hl);rwa [aV]at this) r q) fun r s' hq=>?_)
 cases r with
 | error e=>exact hq.elim
 | ok fl =>
  cases fl with
  | ret u=>exact I1.after hq
  | next=>exact False.elim hq
  | brk=>exact False.elim hq
  | cont=>exact False.elim hq
end
structure Hq (K:aa)(C B:ai):Prop where
 ex:∃(nB qB:Str) (NB:ai) (W8 MP:List Value) (WZ:Bool) (WG:List Str) (subB:List Value) (Xa:Bool) (OO:Option Bool) (W6:Option ai) (b0 b1 b2 b3 b5:Option Value) (WR:String) (nC qC:Str) (NC:ai) (W7 T2:List Value) (WY:Bool) (WE:List Str) (HA:List Value) (W9:Bool) (ON:Option Bool) (W5:Option ai) (c0 c1 c2 c3 c5:Option Value) (WQ:String),
  K.lookup B=some (excClassObj nB qB B NB W8 MP WZ WG subB Xa OO W6 b0 b1 b2 b3 b5 WR)/\K.lookup C=some (excClassObj nC qC C NC W7 T2 WY WE HA W9 ON W5 c0 c1 c2 c3 c5 WQ)/\MP.contains (.type "BaseException")=true/\(Value.ref C::T2).contains (.ref B)=true
section
variable {X:Cx}{dA:List (ai×Obj)}{σ:St}{H:Hp}{s:ah}
def Inv.Ua (I:Inv X dA σ H s){e:ai}{c:Value}(hn:H e=none)(x:lR e c s.heap)(h0:X.s₀.heap.get? e=none)(hl:e≠X.env.locals)(hc:∀ y a,X.env.cells.lookup y=some a->a≠e)(hp:∀ p∈X.pn++dA,p.1≠e) :
 Inv X dA σ (upd H e (.ext (lR e c))) s:=by
 have ne0:∀ b o,X.s₀.heap.get? b=some o->b≠e:=fun b o q z=>by rw[z,h0]at q;cases q
 have ne1:∀ b o,H b=some o->b≠e:=fun b o q z=>by rw[z,hn]at q;cases q
 refine⟨I.ok,I.os,I.bare,⟨I.dD.keep,I.dD.slot,fun b o q n hx=>?_,I.dD.there,fun b xs q=>?_,fun b o xs q=>?_,fun b ps q=>?_⟩,I.loc,I.cell,?_,fun y a q=>?_,fun p hq=>?_,fun a o q=>?_,I.len⟩
 .rw[eP (ne0 b o q)];exact I.dD.free b o q n hx
 .have:=I.dD.pW b xs q
  rw[eP (ne1 b _ this)];exact this
 .have:=I.dD.pG b o xs q
  rw[eP (ne1 b _ this)];exact this
 .obtain⟨m,this⟩:=I.dD.p4 b ps q
  exact⟨m,by rw[eP (ne1 b _ this)];exact this⟩
 .rw[eP (bj hl)];exact I.free
 .rw[eP (hc y a q)];exact I.kO y a q
 .obtain⟨h1,h2,h3⟩:=I.pin p hq
  exact⟨h1,by rw[eP (hp p hq)];exact h2,h3⟩
 .by_cases z:a=e
  .subst z
   rw[eI]at q
   cases q
   obtain⟨oe,vs,q1,q2⟩:=x
   exact⟨⟨oe,vs,q1,q2⟩,⟨oe,q1⟩,fun h1 h2 ⟨o,v,e1,e2⟩ k=>⟨o,v,k o e1,e2⟩⟩
  .rw[eP z]at q
   exact(I.fc a o q).xj (fun _ _ _ k=>k) (fun b k=>by rw[eP (ne1 b _ k)];exact k) fun b xs k=>by rw[eP (ne1 b _ k)];exact k
def Inv.forget (I:Inv X dA σ H s){h':Heap}{m':Str->Option Value}{t:Nat}(hn:h'.Ns X.env.locals m')(hs:Heap.SameBut X.env.locals s.heap h'):Inv X dA (σ.map fun _=>none) H { s with heap:=h',toks:=t}:=by
 have ne:∀ b o,X.s₀.heap.get? b=some o->b≠X.env.locals:=fun b o e=>aL (aA (kK e) I.ok.above)
 refine⟨I.ok,I.os,I.bare,⟨fun b o e n hb hx=>?_,fun b o e n hb hx=>?_,I.dD.free,fun b o e hx=>?_,I.dD.pW,I.dD.pG,I.dD.p4⟩,⟨m',hn,fun j y v' e1 e2 e3=>?_⟩,fun y c e=>?_,I.free,I.kO,fun p hp=>?_,fun b ob e=>?_,by rw[fH];exact I.len⟩
 .exact(hs.2 b (ne b o e)).trans (I.dD.keep b o e n hb hx)
 .obtain⟨sl,e1⟩:=I.dD.slot b o e n hb hx
  exact⟨sl,(hs.2 b (ne b o e)).trans e1⟩
 .obtain⟨o',e1⟩:=I.dD.there b o e hx
  exact⟨o',(hs.2 b (ne b o e)).trans e1⟩
 .rw[vB]at e2
  cases q:σ[j]? <;> rw[q]at e2 <;> cases e2
 .obtain⟨w',z⟩:=I.cell y c e
  exact⟨w',z.sameBut hs (I.Qy y c e)⟩
 .obtain⟨e,n,ne,nf,d⟩:=I.pin p hp
  exact⟨(hs.2 p.1 ne).trans e,n,ne,nf,d⟩
 .refine(I.fc b ob e).xj (fun c w' hc q=>(hs.2 c ?_).trans q) (fun _ q=>q) fun _ _ q=>q
  rintro rfl
  rcases hc with rfl | hc
  .rw[I.free]at e;cases e
  .rw[I.free]at hc;cases hc
def Un.kp {fs:List ai}{l:List Env}{H H':Hp}{h h1 h2 g:Heap}(u:Un fs [] H H' h h1)(k:Kp g l h1 h2)(hg:Gk h g)(hl:∀ b,b∈ze l->b∈fs):Un fs [] H H' h h2:=by
 refine⟨fun b o e n hb hx=>k.other b o (u.keep b o e n hb hx) (hg b ⟨o,e⟩) fun z=>hb (hl b z),fun b o e n hb hx=>?_,u.free,fun b o e hx=>?_,u.pW,u.pG,u.p4⟩
 .obtain⟨sl,e1⟩:=u.slot b o e n hb hx
  obtain⟨Ut,e2⟩:=k.any e1 (hg b ⟨o,e⟩)
  exact⟨Ut,e2⟩
 .obtain⟨o',e1⟩:=u.there b o e hx
  obtain⟨sl,e2⟩:=k.any e1 (hg b ⟨o,e⟩)
  exact⟨_,e2⟩
end
def YU (K:aa)(B:ai)(n i:Nat)(u:List ai->Hp->DX->Ds)(v:List ai->Hp->Nat->Ds):Ds:=fun N ρ μ=>∃ m,μ[0]?=some m/\∀ fh H0,
 u fh H0 (gX fh H0 m fun c μ'=>∃ C,c=.ref C/\Hq K C B/\∀ eZ H1,v eZ H1 μ'.length { nx:=fun _ _=>False,rt:=gK eZ H1 m N.rt} ((List.replicate n none).set i (some (.mr μ'.length))) ((μ'++[MO.exc c]).set 0 (.gx eZ H1)))
  { nx:=fun jE μ'=>μ'[0]?=some (.gx fh H0)/\N.nx jE (μ'.set 0 m),rt:=gK fh H0 m N.rt,bk:=fun jE μ'=>μ'[0]?=some (.gx fh H0)/\N.bk jE (μ'.set 0 m),ct:=fun jE μ'=>μ'[0]?=some (.gx fh H0)/\N.ct jE (μ'.set 0 m)} ρ (μ.set 0 (.gx fh H0))
def Mm.ghost {φ:List ai}{H:Hp}{μ:MS}{m:MO}{k:DE->MS->Prop}{q:St->Hp->Prop}(L:Mm φ H k q)(M:fe φ H μ)(e:μ[0]?=some m):Mm φ H (fun jE μ'=>μ'[0]?=some (.gx φ H)/\k jE (μ'.set 0 m)) q:=fun jE μ' ft gH H' ⟨e',k'⟩ f A M'=>L jE _ ft gH H' k' f A (M.back e M' e')
def Inv.LM {X:Cx}{dA:List (ai×Obj)}{σ:St}{H H':Hp}{s s':ah}{g h2:Heap}(I:Inv X dA σ H s)(os:s'.os=s.os)(bare:AllBare s'.gens)(un:Un (ze X.stack) [] H H' s.heap s'.heap)(fc:o7 X.prog X.w H' s'.heap)(g1:Gk s.heap g)(g2:∀ b,H' b≠none->At g b)(k:Kp g X.stack s'.heap h2) :
 Inv X dA σ H' { s' with heap:=h2}:=by
 have I2:=I.zU (s':=s') (ch:=[]) os un fc bare (fun b z=>absurd z (by simp))
 exact I.zU (s':={ s' with heap:=h2}) (ch:=[]) os (un.kp k g1 fun b z=>z) (ES fc (fun b hb=>⟨g2 b hb,fun z=>hb (I2.qX b z)⟩) k) bare (fun b z=>absurd z (by simp))
def BH.is {g h:Heap}{e:ai}{cls fl:Value}(x:BH g e cls fl h):lR e cls h:=by
 obtain⟨oe,vs,T,oT,ts,⟨h1,⟨h2,h3⟩,h4,_,h5⟩,_⟩:=x
 exact⟨oe,vs,h1,h2,h3,h4,h5⟩
section
variable {X:Cx}{body Jw:List Stmt}{b0:Stmt}{x n:Str}{np Sg pos:Pos}{B:ai}{i:Nat}{u:List ai->Hp->DX->Ds}{v:List ai->Hp->Nat->Ds}
def Uv (hex:X.ex=[])(BR:X.stack=X.env::X.dW)(hfm:X.env.frame=some X.env.locals)(hN:X.N.Nodup)(hi:X.N[i]?=some n)(hn:X.env.scope.names.lookup n=some .local)(hg:Gl X x)(hm:X.mg x=some (.ref B))
 (hb:∀(pn:List (ai×Obj)) (xe:Value->ah->Prop) (fh:List ai) (H0:Hp) (Kx:DX),Rz { X with pn:=pn,xe:=xe} fh H0 Kx->Ft { X with pn:=pn,xe:=xe} body (u fh H0 Kx))
 (hs:∀(pn:List (ai×Obj)) (e:ai) (eZ:List ai) (H1:Hp) (kx:Nat),eZ[kx]?=some e->kx≠0->Ft (Cx.MB { X with pn:=pn} (X.A.mark (some (.ref e)))) (b0::Jw) (v eZ H1 kx)) (hd:(x==("__debug__" : Str))=false:=by decide) :
 wZ X (.Try body [.ExceptHandler (some (.Name x np)) (some n) (b0::Jw) Sg] [] [] pos) (YU X.K B X.N.length i u v):=fun dA s σ H D I hq=>by
 obtain⟨φ,ρ,μ,N,A,M,⟨m,em,w⟩,L⟩:=hq
 have w:=w φ H
 refine wpAny_Try_except ?_
 obtain⟨xe,hxe⟩:∃ xe:Value->ah->Prop,xe=fun ev s₁=>wpAny (model X.prog X.w) X.A (noteFrame ev X.env) (fun _ s₂=>wpAny (model X.prog X.w) X.A (setFlight ev none) (fun _ s₃=>wpAny (model X.prog X.w) X.A (handleBy ev X.env [.ExceptHandler (some (.Name x np)) (some n) (b0::Jw) Sg]) (SP X dA D) X.xe s₃) X.xe s₂) X.xe s₁:=⟨_,rfl⟩
 have I':Inv { X with pn:=X.pn++dA,xe:=xe} [] σ H s:=⟨⟨I.ok.mod,I.ok.kind,I.ok.glob,I.ok.blt,I.ok.above,I.ok.inj,I.ok.has,I.ok.SV,I.ok.hd,I.ok.frames,I.ok.TL,I.ok.Qn,I.ok.bs,I.ok.Fj,I.ok.CA,I.ok.Du,I.ok.rH,I.ok.MK⟩,I.os,I.bare,I.dD,I.loc,I.cell,I.free,I.kO,(fun p hp=>I.pin p (by simpa using hp)),I.fc,I.len⟩
 have back:∀ {PL:List (ai×Obj)} {BS:St} {H1:Hp} {s1:ah},Inv { X with pn:=X.pn++dA,xe:=xe} PL BS H1 s1->Inv X dA BS H1 s1:=fun J=>⟨I.ok,J.os,J.bare,J.dD,J.loc,J.cell,J.free,J.kO,(fun p hp=>J.pin p (bZ _ hp)),J.fc,J.len⟩
 have Mg:=M.ghost em
 have K0:X.A.frames=some (X.env::X.dW):=by rw[<- BR];exact I.ok.frames
 obtain⟨Kx,hKx⟩:∃ Kx:DX,Kx=fun c μ'=>∃ C,c=.ref C/\Hq X.K C B/\∀ eZ H1,v eZ H1 μ'.length { nx:=fun _ _=>False,rt:=gK eZ H1 m N.rt} ((List.replicate X.N.length none).set i (some (.mr μ'.length))) ((μ'++[MO.exc c]).set 0 (.gx eZ H1)):=⟨_,rfl⟩
 rw[<- hKx]at w
 have Z:Rz { X with pn:=X.pn++dA,xe:=xe} φ H (gX φ H m Kx):=by
  refine⟨fun c _ H'=>∃ ft μ',gX φ H m Kx c μ'/\Fr φ H ft H'/\fe ft H' μ',fun c μ' ft H' k f M=>⟨ft,μ',k,f,M⟩,fun PL BS H1 s1 ev s' J c=>?_⟩
  obtain⟨e,cls,H',g,rfl,os,bare,un,fc,⟨g1,g2,g3⟩,ex,ft,μ',⟨e0,hK⟩,f',M'⟩:=c
  rw[hKx]at hK
  obtain⟨C,rfl,sub,hv⟩:=hK
  show xe (.ref e) s'
  rw[hxe]
  have J2:=J.zU (s':=s') (ch:=[]) os un fc bare (fun b z=>absurd z (by simp))
  have ff:s'.heap.FunFrames X.dD (X.env::X.dW):=by rw[<- BR];exact J2.stack
  refine zE K0 ff hfm g3 ex fun h1 x1 k1=>?_
  refine m6 (l:=X.env::X.dW) x1 fun h2 x2 k2 _=>?_
  have k12:Kp g X.stack s'.heap h2:=by rw[BR];exact k1.trans k2
  have J3:=(J.LM os bare un fc g1 g2 k12).oF (pins':=[]) (fun p hp=>absurd hp (by simp))
  have eN:g.get? e=none:=by obtain⟨_,_,_,_,_,_,_,z⟩:=ex;exact z
  have hHe:H' e=none:=by
   cases q:H' e with
   | none=>rfl
   | some o=>obtain⟨u,z⟩:=g2 e (by rw[q];simp);rw[eN]at z;cases z
  have J4:Inv (Cx.MB { X with pn:=X.pn++dA} (X.A.mark (some (.ref e)))) [] BS H' { s' with heap:=h2}:=J3.MB I.ok.frames
  refine wpAny_handleBy_cons (codeAny_handlers_test (oI J4 hg hm ?_ hd)) (by intro q;cases q)
  obtain⟨nB,qB,NB,W8,MP,WZ,WG,subB,Xa,OO,W6,b0',b1,b2,b3,b5,WR,nC,qC,NC,W7,T2,WY,WE,HA,W9,ON,W5,c0,c1,c2,c3,c5,WQ,lB,lC,YB,Om⟩:=sub.ex
  obtain⟨oe,vs,q1,q2,q3,q4,q5⟩:=x2.is
  refine IA (J4.rN _ _ lB) (J4.rN _ _ lC) q1 q2 YB Om ?_
  refine codeAny_handlers_suite_as (m6 (l:=X.env::X.dW) (s:={ s' with heap:=h2}) x2 fun h3 x3 k3 _=>?_)
  have k13:Kp g X.stack s'.heap h3:=k12.trans (by rw[BR];exact k3)
  have J5:=(J.LM os bare un fc g1 g2 k13).oF (pins':=[]) (fun p hp=>absurd hp (by simp))
  have QB:∀ b o,s1.heap.get? b=some o->b≠e:=fun b o q z=>by
   obtain⟨u,y⟩:=g1 b ⟨o,q⟩
   rw[z,eN]at y;cases y
  have J6:=J5.Ua hHe x3.is (by
   cases q:X.s₀.heap.get? e with
   | none=>rfl
   | some o =>
    obtain⟨o',y⟩:=J.dD.there e o q (by show e∉X.ex;rw[hex];simp)
    exact absurd rfl (QB e o' y)) (by
   obtain⟨mm,⟨oo,_,_,y,_⟩,_⟩:=J.loc
   exact fun z=>QB _ oo y z.symm) (fun y a q=>by
   obtain⟨w',o,z,_⟩:=J.cell y a q
   exact QB a o z) (fun p hp=>QB p.1 p.2 (J.pin p (bZ _ (by simpa using hp))).1)
  have J7:Inv (Cx.MB { X with pn:=X.pn++dA} (X.A.mark (some (.ref e)))) [] BS (upd H' e (.ext (lR e (.ref C)))) { s' with heap:=h3}:=J6.MB I.ok.frames
  refine mi (X:=Cx.MB { X with pn:=X.pn++dA} (X.A.mark (some (.ref e)))) J7 hN hi (.inl hn) (v:=.ref e) (u:=.ref e) rfl (fun s8 J8=>?_) (.inr hn)
  have Mb:=M.back em M' e0
  obtain⟨eF,Sa⟩:∃ eF,eF=μ'.set 0 m:=⟨_,rfl⟩
  rw[<- Sa]at Mb hv
  have h0l:0<μ'.length:=(l8 e0).1
  have em1:eF[0]?=some m:=by rw[Sa];exact aC h0l
  have l1:eF.length≠0:=by rw[Sa,aG];lia
  obtain⟨Msn,f2⟩:=Mb.snoc (m:=.exc (.ref C)) (o:=.ext (lR e (.ref C))) hHe eI
  have Bc:(eF++[MO.exc (.ref C)])[0]?=some m:=by rw[uv (by lia)];exact em1
  have hk:(ft++[e])[eF.length]?=some e:=by rw[oP (by rw[Mb.len];exact aj _),Mb.len,aR];rfl
  have ls:BS.length=X.N.length:=J.len
  have hil:i<BS.length:=by rw[ls];exact(l8 hi).1
  have A2:jR (ft++[e]) (upd H' e (.ext (lR e (.ref C)))) ((List.replicate X.N.length none).set i (some (.mr eF.length))) (BS.set i (some (.ref e))):=by
   refine⟨by rw[aG,aG,aU,ls],fun j d q=>?_⟩
   by_cases z:i=j
   .subst z
    rw[aC (by rw[aU,<- ls];exact hil)]at q
    cases q
    exact⟨.ref e,aC hil,e,hk,rfl⟩
   .rw[ak z,List.getElem?_replicate]at q
    split at q <;> cases q
  have L2:Wq (ft++[e]) (upd H' e (.ext (lR e (.ref C)))) { nx:=fun _ _=>False,rt:=gK (ft++[e]) (upd H' e (.ext (lR e (.ref C)))) m N.rt} { nx:=fun _ _=>False,rt:=D.rt} :=
   ⟨fun _ _ _ _ _ k' _ _ _=>k'.elim,(L.rt.mono (f'.trans f2)).ghost Msn Bc,fun _ _ _ _ _ k' _ _ _=>k'.elim,fun _ _ _ _ _ k' _ _ _=>k'.elim⟩
  refine bo (hs (X.pn++dA) e (ft++[e]) (upd H' e (.ext (lR e (.ref C)))) eF.length hk l1 [] s8 _ _ { nx:=fun _ _=>False,rt:=D.rt} J8 ⟨ft++[e],_,_,_,A2,Msn.ghost Bc,hv _ _,L2⟩) (fun f s9 q=>?_) (fun _ _ z=>z.elim)
  cases f with
  | next=>obtain⟨_,_,_,q⟩:=q;exact q.elim
  | brk=>obtain⟨_,_,_,q⟩:=q;exact q.elim
  | cont=>obtain⟨_,_,_,q⟩:=q;exact q.elim
  | ret r =>
   obtain⟨v',σ9,H9,J9,rv,qr⟩:=q
   have J9x:Inv X dA σ9 H9 s9:=⟨I.ok,J9.os,J9.bare,J9.dD,J9.loc,J9.cell,J9.free,J9.kO,(fun p hp=>J9.pin p (bZ _ hp)),J9.fc,J9.len⟩
   obtain⟨mm,Qd,_⟩:=J9.loc
   show wpAny _ _ (do bindName X.env n .none;unbindBehindTheSuite X.env n Sg) _ _ _
   refine wpAny_nameGoes hn Qd (by rw[I.ok.kind];rfl) fun h' m' Yk hsb=>?_
   exact⟨v',_,H9,J9x.forget Yk hsb,rv,qr⟩
 have qv:=hb _ _ φ H _ Z [] s σ H D I' ⟨φ,ρ,μ.set 0 (.gx φ H),_,A,Mg,w,⟨L.nx.ghost M em,L.rt.ghost M em,L.bk.ghost M em,L.ct.ghost M em⟩⟩
 refine bo qv (fun f s1 q=>?_) (fun ev s1 q=>by have q:xe ev s1:=q;rw[hxe]at q;exact q)
 cases f with
 | next=>obtain⟨gH,H',J,q⟩:=q;exact dc ⟨gH,H',back J,q⟩
 | brk=>obtain⟨gH,H',J,q⟩:=q;exact⟨gH,H',back J,q⟩
 | cont=>obtain⟨gH,H',J,q⟩:=q;exact⟨gH,H',back J,q⟩
 | ret u=>obtain⟨v',gH,H',J,r,q⟩:=q;exact⟨v',gH,H',back J,r,q⟩
end
abbrev nF:List Value:=[.type "ValueError",.type "Exception",.type "BaseException",.type "object"]
def Fg {K:aa}{C:ai}{MP:List Value}{newId:String}(q:W.excIn K C MP newId=true):∃(bm:List Value) (ns:ai) (nm qn:Str) (bs:List Value) (hd:Bool) (sn:List Str) (sub:List Value) (ab:Bool) (col:Option Bool) (dd:Option ai) (k0 k1 k2 k3 k5:Option Value),
 K.lookup C=some (excClassObj nm qn C ns bs bm hd sn sub ab col dd k0 k1 k2 k3 k5 newId)/\W.nsOkIn K ns=true/\W.nsIn K ns "__init__"=some none/\W.tailIn K MP bm=true:=by
 unfold W.excIn at q
 split at q
 .rename_i dd cd sl ho
  split at q
  .rename_i C' bm k0 k1 k2 k3 n k5 hm hs
   simp only[aT,beq_iff_eq,Bool.not_eq_true']at q
   obtain⟨⟨⟨⟨⟨rfl,rfl⟩,Vo⟩,ht⟩,fc⟩,WW⟩:=q
   obtain⟨nm,bs,mro,ns,qn,hd,sn,sub,ab,col,del⟩:=cd
   dsimp only at hm Vo fc WW
   subst hm Vo
   have hsl:sl=#[k0,k1,k2,k3,some (.builtin n),k5]:=by
    obtain⟨l⟩:=sl
    simp only at hs
    rw[hs]
   subst hsl
   exact⟨bm,ns,nm,qn,bs,hd,sn,sub,ab,col,dd,k0,k1,k2,k3,k5,ho,fc,WW,ht⟩
  .cases q
 .cases q
def jm {K:aa}{h:Heap}{mg:Str->Option Value}{x:Str}{C:ai}(X:K.In h)(G:h.Ns mainGlobals mg)(e:W.nsIn K mainGlobals x=some (some (.ref C)))(q:W.excIn K C nF "ValueError.__new__"=true):OwnCls x C nF "ValueError.__new__" mg h:=by
 obtain⟨bm,ns,nm,qn,bs,hd,sn,sub,ab,col,dd,k0,k1,k2,k3,k5,h1,h2,h3,h4⟩:=Fg q
 exact⟨b7 X G e,bm,ns,nm,qn,bs,hd,sn,sub,ab,col,dd,k0,k1,k2,k3,k5,_,X _ _ h1,.of_isNs (W.isNs_of_in X h2),W.nsMap_none_of_in X h2 h3,W.tail_of_in X h4⟩
def subIn (K:aa)(C B:ai):Bool:=match K.lookup C with
 | some ⟨_,_,.cls cd,_⟩=>cd.mro.contains (.ref B)
 | _=>false
def QQ {K:aa}{C B:ai}(qB:W.excIn K B nF "ValueError.__new__"=true)(qC:W.excIn K C nF "ValueError.__new__"=true)(s:subIn K C B=true):Hq K C B:=by
 obtain⟨bm,ns,nm,qn,bs,hd,sn,sub,ab,col,dd,k0,k1,k2,k3,k5,h1,h2,h3,h4⟩:=Fg qB
 obtain⟨bm',XQ,nm',qn',bs',K3,sn',Xw,ab',Zi,DF,k0',k1',k2',k3',k5',K5,h2',h3',h4'⟩:=Fg qC
 refine⟨nm,qn,ns,bs,bm,hd,sn,sub,ab,col,dd,k0,k1,k2,k3,k5,_,nm',qn',XQ,bs',bm',K3,sn',Xw,ab',Zi,DF,k0',k1',k2',k3',k5',_,h1,K5,?_,?_⟩
 .have tl:∀ l,W.tailIn K nF l=true->l.contains (.type "BaseException")=true:=fun l=>by
   induction l with
   | nil=>intro z;exact absurd (show(nF==[])=true from z) (by decide)
   | cons v r ih =>
    intro z
    unfold W.tailIn at z
    rcases Bool.or_eq_true_iff.mp z with q | q
    .rw[beq_iff_eq.mp q];decide
    .rw[List.contains_cons]
     have:W.tailIn K nF r=true:=by
      split at q
      .split at q
       .simp only[aT]at q;exact q.2
       .cases q
      .cases q
     rw[ih this,Bool.or_true]
  exact tl _ h4
 .unfold subIn at s
  rw[K5]at s
  exact s
def Uz {k:Nat}{A:Around}{h:Option Value}(r:iz k A):uq k (A.mark h):=⟨r.dp,r.un⟩
def kG {P:ae}{w:af}{K:aa}{mg:Str->Option Value}{dD h:Heap}{x q:Str}{st:Stmt}{f:ai}{fd:ag}{k:Nat}{ps:List Str}{sp:Sp}(G:K.In h)(N:h.Ns mainGlobals mg)(F:ic K x q st f fd)(ok:eV P w K mg dD (nz P w) k f fd ps sp)(hb:Binds K fd ps [])
 (a:W.nsIn K mainGlobals x=some (some (.ref f)):=by kernel_rfl):ur P w K mg dD x k ps sp:=⟨f,fd,ok,b7 G N a,F.kp,hb⟩
def OU {P:ae}{w:af}{K:aa}{mg:Str->Option Value}{dD h:Heap}{x q:Str}{st:Stmt}{f:ai}{fd:ag}{k:Nat}{ps:List Str}{sp:jJ}(G:K.In h)(N:h.Ns mainGlobals mg)(F:ic K x q st f fd)(ok:Ho P w K mg dD k f fd ps sp)(hb:Binds K fd ps [])
 (a:W.nsIn K mainGlobals x=some (some (.ref f)):=by kernel_rfl):Tn P w K mg dD x k ps sp:=⟨f,fd,ok,b7 G N a,F.kp,hb⟩
def eU {μ:MS}{m n:MO}(em:μ[0]?=some m):(μ.set 0 n)[0]?=some n:=aC (l8 em).1
def lX {μ:MS}{m n:MO}(em:μ[0]?=some m):(μ.set 0 n).set 0 m=μ:=by
 cases μ with
 | nil=>cases em
 | cons a r=>cases em;rfl
def fX {μ:MS}{m:MO}{n:Nat}{fh:List ai}{H:Hp}{c:Value}{Kb Kx:DX}(hK:Kb=FX n (gX fh H m Kx))(em:μ[0]?=some m)(k:Kx c μ):(μ.set 0 (.gx fh H))[0]?=some (.gx fh H)/\Kb c (μ.set 0 (.gx fh H)):=⟨eU em,by rw[hK];exact .inl ⟨eU em,by rw[lX em];exact k⟩⟩
def kc {μ:MS}{m:MO}{fh:List ai}{H:Hp}{d:D}{K:DK}(em:μ[0]?=some m)(k:K d μ):gK fh H m K d (μ.set 0 (.gx fh H)):=⟨eU em,by rw[lX em];exact k⟩
def Pz (n e a b:Int):Prop:=e<a/\a<b/\b<=n
instance (n e a b:Int):Decidable (Pz n e a b):=by unfold Pz;infer_instance
def U7 (K:aa)(cs:List ai)(j:Nat):Bool:=(List.range 17).all fun i=>W.kitOne K (.ref (cs.getD j 0)) (.ref (cs.getD i 0))==some (decide (i=j))
structure lN (K:aa)(cs:List ai)(cH:ai)(j:Nat):Prop where
 ef:T4 K (cs.getD j 0)
 kit:U7 K cs j=true
 kv:W.kitOne K (.ref (cs.getD j 0)) (.type "ValueError")=some true
 sub:Hq K (cs.getD j 0) cH
def lN.at_ {K:aa}{cs:List ai}{cH:ai}{j:Nat}(h:lN K cs cH j)(i:Nat)(hi:i<17):W.kitOne K (.ref (cs.getD j 0)) (.ref (cs.getD i 0))=some (decide (i=j)):=by
 have:=List.all_eq_true.mp h.kit i (List.mem_range.mpr hi)
 simpa using this
def rM (j:Nat):Str:=(["BadBars", "BadMake", "BadNumber", "BadText", "BadName", "BadAge", "BadBar", "BadPlace", "BadSize", "Taken", "Full", "NoTake", "Shut", "Joined", "Needed", "NothingLeft", "NoWay"]:List Str).getD j ""
structure Wn (x:Str)(C:ai)(mg:Str->Option Value):Prop where
 bound:mg x=some (.ref C)
section
variable {X:Cx}{a b e o:Expr}{es:List Expr}{pos:Pos}
def dFz (w:De):De:=fun ρ μ K=>w ρ μ (Fz μ.length K)
def Bj {w:De}(h:PD X e w):PD X e (dFz w):=h.imp fun σ H Q hq=>by
 obtain⟨φ,ρ,μ,K,A,M,k,L⟩:=hq
 exact⟨φ,ρ,μ,_,A,M,k,L.fz M⟩
def Xo (t:TE):TE:=fun σ H Q=>t σ H fun v H1=>∃ a kvs,v=.ref a/\H1 a=some (.dK kvs)/\∀ o,Q v (upd H1 a (.mC o (.dK kvs)))
def Rq {t:TE}(h:PE X e t):PE X e (Xo t):=fun dA s σ H Q I q =>
 gc (h dA s σ H _ I q) fun v s1 hq=>by
  obtain⟨x,H1,I1,r1,a,kvs,ex,e1,q1⟩:=hq
  subst ex
  obtain⟨o,vs,ep,kv,hd,da,hs,I2⟩:=freeze I1 (.inl e1)
  exact⟨_,_,I2,r1,q1 o⟩
def Zb (w:De):De:=fun ρ μ K=>w ρ μ fun x eF=>match x with
 | .mr j=>∃ ks ds,eF[j]?=some (.jr ks ds)/\∀(o:Obj) (kvs:List (Key×V)),kvs.map (·.1)=ks->K (.mr j) (eF.set j (.oR o kvs ds))
 | _=>False
def yx {w:De}(h:PD X e w):PD X e (Zb w):=(Rq h).imp fun σ H Q hq=>by
 obtain⟨φ,ρ,μ,K,A,M,k,L⟩:=hq
 refine⟨φ,ρ,μ,_,A,M,k,fun d eF eZ v1 H1 k1 f1 M1 i1=>?_⟩
 cases d with
 | mr k =>
  have WS:=i1
  obtain⟨p,hp,rfl⟩:=i1
  obtain⟨ks,ds,em,k1⟩:=k1
  obtain⟨p',e1,kvs,vs,h1,h2,h3,h4⟩:=M1.at_ k _ em
  rw[hp]at e1;cases e1
  subst h3
  refine⟨p,kvs,rfl,h1,fun o=>?_⟩
  have f2:Fr eZ H1 eZ (upd H1 p (.mC o (.dK kvs))):=.put (A1 hp)
  have M2:=M1.put (k:=k) (p:=p) (o:=.mC o (.dK kvs)) (m:=.oR o kvs ds) hp ⟨eI,h4.mono f2⟩
  exact L _ _ eZ _ _ (k1 o kvs h2) (f1.trans f2) M2 (WS.mono f2)
 | _=>exact k1.elim
def VU:De:=fun _ μ K=>K (.mE [] []) μ
def ud:PD X (.Dict [] [] pos) VU:=(Bj (yx Bk)).imp fun σ H Q hq=>by
 obtain⟨φ,ρ,μ,K,A,M,k,L⟩:=hq
 refine⟨φ,ρ,μ,K,A,M,⟨[],[],by rw[oP (aj _),aR];rfl,fun o kvs hk=>?_⟩,L⟩
 have e0:(μ++[MO.jr [] []]).set μ.length (.oR o kvs [])=μ++[.oR o kvs []]:=gD
 rw[e0]
 refine Fz.mE (aj _) (by rw[oP (aj _),aR];rfl) (show rk _ []from True.intro) (gQ M.bound) ?_
 rw[aW,hk]
 exact k
def EZ {φ:List ai}{H:Hp}{ks:List Key}{ds:List D}{v:V}(i:jC φ H (.mE ks ds) v):∃ p o kvs,v=.ref p/\H p=some (.mC o (.dK kvs))/\kvs.map (·.1)=ks/\eK φ H ds (kvs.map (·.2)):=by
 obtain⟨p,o,kvs,vs,rfl,_,h1,h2,rfl,h3⟩:=i
 exact⟨p,o,kvs,rfl,h1,h2,h3⟩
def Oe (ks:List Key)(ds:List D)(y:D):Option (Option D):=(oM y).map fun k=>qE (ks.zip ds) k
def Y5:wj:=fun x y μ K=>match x with
 | .mE ks ds=>∃ d,Oe ks ds y=some (some d)/\K d μ
 | .mr j=>∃ d,Qa μ j y=some (some d)/\K d μ
 | _=>False
def ke {wa wb:De}(hu:X.A.units+1<cLine)(ha:PD X a wa)(hb:PD X b wb)(hs:O7 b):PD X (.Subscript a b pos) (Bl Y5 wa wb):=(NJ hu ha hb hs).imp fun σ H Q hq=>by
 obtain⟨φ,ρ,μ,K,A,M,k,L⟩:=hq
 refine⟨φ,ρ,μ,_,A,M,k,fun d1 eF eZ v1 H1 k1 f1 M1 i1=>?_⟩
 refine⟨eZ,ρ,eF,_,A.mono f1,M1,k1,fun d2 fG jD v2 H2 k2 f2 M2 i2=>?_⟩
 cases d1 with
 | mE ks ds =>
  obtain⟨d,ex,k2⟩:=k2
  obtain⟨k,ek,ed⟩:=Option.map_eq_some_iff.mp ex
  obtain⟨p,o,kvs,rfl,rd,e1,ha⟩:=EZ (i1.mono f2)
  cases oK ek i2
  obtain⟨v,ev,iv⟩:=yq e1 ha ed
  exact⟨p,v,rfl,.inl ⟨kvs,k,.inr ⟨o,rd⟩,rfl,ev.symm⟩,(L.mono (f1.trans f2)).val M2 k2 iv⟩
 | mr j =>
  obtain⟨d,ex,k2⟩:=k2
  obtain⟨ks,ds,k,em,ek,ed⟩:=KH ex
  obtain⟨p,kvs,hp,rfl,rd,e1,ha⟩:=Be M2 (i1.mono f2) em
  cases oK ek i2
  obtain⟨v,ev,iv⟩:=yq e1 ha ed
  exact⟨p,v,rfl,.inl ⟨kvs,k,rd,rfl,ev.symm⟩,(L.mono (f1.trans f2)).val M2 k2 iv⟩
 | _=>exact k2.elim
def LC (neg:Bool):wj:=fun x y μ K=>match y with
 | .mE ks ds=>∃ o,Oe ks ds x=some o/\K (.bl (neg != o.isSome)) μ
 | .mr j=>∃ o,Qa μ j x=some o/\K (.bl (neg != o.isSome)) μ
 | _=>False
def KN {neg:Bool}{φ:List ai}{H:Hp}{μ:MS}{x y:D}{vx vy:V}{K:DK}{Q:VK}(M:fe φ H μ)(ix:jC φ H x vx)(iy:jC φ H y vy)(k:LC neg x y μ K)(L:u0 φ H K Q):∃ p o,vy=.ref p/\D5 H p vx o/\Q (.bl (neg != o.isSome)) H:=by
 cases y with
 | mE ks ds =>
  obtain⟨oo,ex,k2⟩:=k
  obtain⟨k,ek,rfl⟩:=Option.map_eq_some_iff.mp ex
  obtain⟨p,o,kvs,rfl,rd,e1,ha⟩:=EZ iy
  cases oK ek ix
  refine⟨p,nG kvs k,rfl,.inl ⟨kvs,k,.inr ⟨o,rd⟩,rfl,rfl⟩,?_⟩
  have es:(nG kvs k).isSome=(qE (ks.zip ds) k).isSome:=by
   rcases Dw k e1 ha with⟨g1,g2⟩ | ⟨d,v,g1,g2,_⟩<;> (rw[g1,g2];rfl)
  rw[es]
  exact L.val M k2 rfl
 | mr j =>
  obtain⟨oo,ex,k2⟩:=k
  obtain⟨ks,ds,k,em,ek,rfl⟩:=KH ex
  obtain⟨p,kvs,hp,rfl,rd,e1,ha⟩:=Be M iy em
  cases oK ek ix
  refine⟨p,nG kvs k,rfl,.inl ⟨kvs,k,rd,rfl,rfl⟩,?_⟩
  have es:(nG kvs k).isSome=(qE (ks.zip ds) k).isSome:=by
   rcases Dw k e1 ha with⟨g1,g2⟩ | ⟨d,v,g1,g2,_⟩<;> (rw[g1,g2];rfl)
  rw[es]
  exact L.val M k2 rfl
 | _=>exact(show False from k).elim
def QJ {wa wb:De}{σ:St}{H:Hp}{Q:VK}(h:tD (Bl (LC false) wa wb) σ H Q):Uk (tD wa) (tD wb) σ H Q:=by
 obtain⟨φ,ρ,μ,K,A,M,k,L⟩:=h
 refine⟨φ,ρ,μ,_,A,M,k,fun d1 eF eZ v1 H1 k1 f1 M1 i1=>?_⟩
 refine⟨eZ,ρ,eF,_,A.mono f1,M1,k1,fun d2 fG jD v2 H2 k2 f2 M2 i2=>?_⟩
 obtain⟨p,o,e,g,q⟩:=KN M2 (i1.mono f2) i2 k2 (L.mono (f1.trans f2))
 rw[TY]at q
 exact⟨p,o,e,g,q⟩
def Hy {wa wb:De}{σ:St}{H:Hp}{Q:VK}(h:tD (Bl (LC true) wa wb) σ H Q):FP (tD wa) (tD wb) σ H Q:=by
 obtain⟨φ,ρ,μ,K,A,M,k,L⟩:=h
 refine⟨φ,ρ,μ,_,A,M,k,fun d1 eF eZ v1 H1 k1 f1 M1 i1=>?_⟩
 refine⟨eZ,ρ,eF,_,A.mono f1,M1,k1,fun d2 fG jD v2 H2 k2 f2 M2 i2=>?_⟩
 obtain⟨p,o,e,g,q⟩:=KN M2 (i1.mono f2) i2 k2 (L.mono (f1.trans f2))
 rw[Xg]at q
 exact⟨p,o,e,g,q⟩
def BZ {wa wb:De}(hu:X.A.units+1<cLine)(ha:PD X a wa)(hb:PD X b wb)(Yl:behindInMarks .In b=false):Hk X (.Compare a [.In] [b] pos) (sF (Bl (LC false) wa wb)):=(AA (Rw hu ha hb) Yl).imp fun σ H Q hq=>FR (fun Q q=>QJ q) hq
def lF {wa wb:De}(hu:X.A.units+1<cLine)(ha:PD X a wa)(hb:PD X b wb)(Yl:behindInMarks .NotIn b=false):Hk X (.Compare a [.NotIn] [b] pos) (sF (Bl (LC true) wa wb)):=(AA (HL hu ha hb) Yl).imp fun σ H Q hq=>FR (fun Q q=>Hy q) hq
def TZ (μ:MS):D->Option (List Key×List D)
 | .mE ks ds=>some (ks,ds)
 | .mr j=>vZ μ j
 | _=>none
def Bh {φ:List ai}{H:Hp}{μ:MS}{d:D}{v:V}{q:List Key×List D}(M:fe φ H μ)(i:jC φ H d v)(h:TZ μ d=some q):∃ p kvs,v=.ref p/\Rd H p (.dK kvs)/\kvs.map (·.1)=q.1/\eK φ H q.2 (kvs.map (·.2)):=by
 cases d with
 | mE ks ds =>
  cases h
  obtain⟨p,o,kvs,rfl,rd,e1,ha⟩:=EZ i
  exact⟨p,kvs,rfl,.inr ⟨o,rd⟩,e1,ha⟩
 | mr j =>
  obtain⟨p,kvs,hp,rfl,rd,e1,ha⟩:=Be M i (ks:=q.1) (ds:=q.2) h
  exact⟨p,kvs,rfl,rd,e1,ha⟩
 | _=>cases h
def Le:jJ:=fun ds μ K=>match ds with
 | [x]=>opt (TZ μ x) fun q=>K (.mr μ.length) (μ++[.jr q.1 q.2])
 | _=>False
def xo:nr Ez Le:=fun φ H vs ds μ K Q M h k L=>by
 unfold Le at k
 split at k
 .obtain⟨v,r,rfl,h1,h2⟩:=h;cases(show r=[]from h2)
  obtain⟨q,em,k⟩:=gL k
  obtain⟨p,kvs,rfl,rd,e1,ha⟩:=Bh M h1 em
  refine⟨kvs,rd,fun p' Mz=>?_⟩
  have f:Fr φ H (φ++[p']) (upd H p' (.dK kvs)):=⟨(Fr.snoc (φ:=φ) Mz).ext,fun c u _ e=>hU.upd Mz _ _ e,fun c e=>(hU.upd Mz).free e⟩
  obtain⟨M',f'⟩:=M.snoc (o:=.dK kvs) (m:=.jr q.1 q.2) Mz ⟨kvs,_,eI,e1,rfl,ha.mono f⟩
  exact L _ _ _ _ _ k f' M' ⟨p',by rw[oP (by rw[M.len];exact aj _),M.len,aR];rfl,rfl⟩
 .exact k.elim
def JK:List V->Hp->VK->Prop:=fun vs H Q=>match vs with
 | [.ref a]=>∃ kvs,Rd H a (.dK kvs)/\Q (.int kvs.length) H
 | _=>False
def U1:iI X (.builtin "len") JK:=by
 intro dA s σ H xs us Q I r h
 unfold JK at h
 split at h
 .obtain⟨kvs,rd,q⟩:=h
  obtain⟨u,rfl,ru⟩:=r.one
  cases ru
  exact VO I rd fun t s' I'=>⟨.int _,H,I',⟨t,rfl⟩,q⟩
 .cases h
def Qm:jJ:=fun ds μ K=>match ds with
 | [x]=>opt (TZ μ x) fun q=>K (.int q.1.length) μ
 | _=>False
def FV:nr JK Qm:=fun φ H vs ds μ K Q M h k L=>by
 unfold Qm at k
 split at k
 .obtain⟨v,r,rfl,h1,h2⟩:=h;cases(show r=[]from h2)
  obtain⟨q,em,k⟩:=gL k
  obtain⟨p,kvs,rfl,rd,e1,ha⟩:=Bh M h1 em
  have el:kvs.length=q.1.length:=by rw[<- e1,fH]
  exact⟨kvs,rd,by rw[el];exact L.val M k rfl⟩
 .exact k.elim
def Ew:List V->Hp->VK->Prop:=fun vs H Q=>match vs with
 | [.ref a]=>∃ kvs,Rd H a (.dK kvs)/\∀ p,H p=none->Q (.ref p) (upd H p (.lst (kvs.map fun kv=>kV kv.1)))
 | _=>False
def _root_.L2.fj.xR:∀ {xs:List V} {us:List Value},xs.length=us.length->(∀(i:Nat) (x:V) (u:Value),xs[i]?=some x->us[i]?=some u->fm x u)->fj xs us
 | [],us,hl,_=>by cases us with
  | nil=>exact .nil
  | cons v r=>simp at hl
 | d::ds,us,hl,h=>by cases us with
  | nil=>simp at hl
  | cons v r=>exact .cons (h 0 d v rfl rfl) (fj.xR (by simpa using hl) fun i a b e1 e2=>h (i+1) a b (by simpa using e1) (by simpa using e2))
def Ig {kvs:List (Key×V)}{vs:List (Key×Value)}{acc:Array Value}(kv:KV kvs vs)(h:ItemsOf (fun i v=>∃ k x,vs[i]?=some (k,x)/\(fK X.prog X.w).is k v=true) acc vs.length):fj (kvs.map fun kv=>kV kv.1) acc.toList:=by
 refine fj.xR (by rw[fH,kv.length,<- h.1];exact(cc (xs:=acc)).symm) fun i x u e1 e2=>?_
 rw[vB]at e1
 cases q:kvs[i]? with
 | none=>rw[q]at e1;cases e1
 | some p =>
  rw[q]at e1;cases e1
  obtain⟨v,hv⟩:=Gs kv q
  obtain⟨k,x,e3,e4⟩:=h.2 i u (by rw[<- Array.getElem?_toList];exact e2)
  rw[hv]at e3;cases e3
  exact Kz e4
def Gy (gg:X.gg=true):iI X (.type "list") Ew:=by
 intro dA s σ H xs us Q I r h
 unfold Ew at h
 split at h
 .rename_i a
  obtain⟨kvs,rd,q⟩:=h
  obtain⟨u,rfl,ru⟩:=r.one
  cases ru
  obtain⟨z,hd,vs,rel,dd⟩:=m7 I.fc rd
  obtain⟨ep,da⟩:=dd.dictAt
  refine W.kdl_call (W.kdl_dict (knd:=fK X.prog X.w) (kvs:=vs) (ep:=ep) hd) (I.ok.hd gg) da (by rw[<- rel.length];exact z) fun h' tk SY c' kp hl it=>?_
  have I2:Inv X dA σ (upd H s.heap.objs.size (.lst (kvs.map fun kv=>kV kv.1))) { s with heap:=h',toks:=tk}:=I.laid (a:=s.heap.objs.size) (o:=.lst _) (t':=tk) kp (aj _) ⟨by rw[fH];exact z,SY.toList,c',Ig (X:=X) rel it,hl⟩
  exact⟨.ref s.heap.objs.size,_,I2,rfl,q _ (I.fc.fresh (aj _))⟩
 .cases h
def Lc (m:Bool):jJ:=fun ds μ K=>match ds with
 | [x]=>opt (TZ μ x) fun q=>nL m (q.1.map oJ) μ K
 | _=>False
def CK {φ:List ai}{H:Hp}:∀(kvs:List (Key×V)),eK φ H ((kvs.map (·.1)).map oJ) (kvs.map fun kv=>kV kv.1)
 | []=>rfl
 | p::kvs=>⟨_,_,rfl,AX _,CK kvs⟩
def sV {m:Bool}:nr Ew (Lc m):=fun φ H vs ds μ K Q M h k L=>by
 unfold Lc at k
 split at k
 .obtain⟨v,r,rfl,h1,h2⟩:=h;cases(show r=[]from h2)
  obtain⟨q,em,k⟩:=gL k
  obtain⟨p,kvs,rfl,rd,e1,ha⟩:=Bh M h1 em
  refine⟨kvs,rd,fun p' Mz=>?_⟩
  rw[<- e1]at k
  exact Fm L M (CK kvs) k Mz
 .exact k.elim
def Za (w:De):DI:=fun ρ μ K=>w ρ μ fun d eF=>match d with
 | .mE ks ds=>K (ks.map oJ) (fun _=>True) eF
 | _=>False
def AZ {tg:Expr}{w:De}(h:PD X a w):Fs X tg a (Za w):=(NG h).imp fun σ H Q hq=>by
 obtain⟨φ,ρ,μ,K,A,M,k,L⟩:=hq
 refine⟨φ,ρ,μ,_,A,M,k,fun d eF eZ v1 H1 k1 f1 M1 i1=>?_⟩
 cases d with
 | mE ks ds =>
  have WS:=i1
  obtain⟨p,o,kvs,vs,rfl,hn,h1,rfl,rfl,h3⟩:=i1
  refine⟨p,kvs,rfl,.inr ⟨o,h1,L _ _ _ eZ _ _ k1 f1 M1 fun ft H' μ' f' M' c i=>?_⟩⟩
  have K5:=f'.keep _ _ hn h1
  refine⟨fun d hd=>⟨⟨?_,K5⟩,fun x Mn hy=>?_⟩,fun hi=>⟨by rw[hi,fH,fH];exact aj _,K5⟩⟩
  .have:=(l8 hd).1
   rw[fH,fH]at this
   exact this
  .obtain⟨rfl,q,hq,rfl⟩:=hy
   rw[vB,vB,hq]at hd
   cases hd
   exact⟨.refl _ _,M',AX _⟩
 | _=>exact k1.elim
def Zr (a:ai)(o:Obj)(kvs:List (Key×V)):It:=⟨fun i H=>i<kvs.length/\H a=some (.mC o (.dK kvs)),fun i H x H'=>H'=H/\∃ p,kvs[i]?=some p/\x=p.2,fun i H=>kvs.length<=i/\H a=some (.mC o (.dK kvs))⟩
def xJ {κ:Type}{kvs:List (κ×V)}{vs:List (κ×Value)}(h:KV kvs vs):∀ {i:Nat} {p:κ×V},kvs[i]?=some p->∃ v,vs[i]?=some (p.1,v)/\fm p.2 v:=by
 unfold KV at h
 induction h with
 | nil=>intro i p e;simp at e
 | @cons a b as bs r _ ih =>
  intro i p e
  cases i with
  | zero =>
   simp at e
   subst e
   refine⟨b.2,?_,r.2⟩
   rw[r.1];rfl
  | succ i=>exact ih (by simpa using e)
def Ad {P:ae}{w:af}{K:aa}{tg:Expr}(a it:ai){o:Obj}{kvs:List (Key×V)}{vs:List (Key×Value)}{ep:Nat}(kv:KV kvs vs)(hd:∀ h:Heap,h.get? a=some o->h.DictAt (fK P w) a vs ep) :
 Turn P w K tg (Zr a o kvs) [it] it (fun i h=>h.IsValIter it a i vs.length ep) where
 mem:=by simp
 obj:=fun i h st b hb=>by
  have e:b=it:=by simpa using hb
  subst e
  obtain⟨o,e,c,d⟩:=st
  exact⟨o,e,fun v z=>by rw[d]at z;cases z⟩
 keep:=fun i h h' st k=>by
  obtain⟨o,e,c⟩:=st
  exact⟨o,k it (by simp) o e,c⟩
 item:=by
  intro X hP hw hK hc i dA s σ H E I hf st hg
  subst hP hw hK
  obtain⟨hi,hq⟩:=hg
  obtain⟨p,hp⟩:∃ p,kvs[i]?=some p:=⟨_,sP hi⟩
  obtain⟨v,hv,rv⟩:=xJ kv hp
  have ho:s.heap.get? a=some o:=(show gh X.prog X.w H s.heap a (.mC o (.dK kvs))from I.fc a _ hq).1
  obtain⟨f0,f1,f2,f3,f4,f5⟩:=hf it (by simp)
  refine wpAny_pyNext_values_item st (hd _ ho) hv fun h' B4 sb=>?_
  have I1:Inv X dA σ H { s with heap:=h'}:=I.turned (t':=s.toks) (fun b o hb e=>(sb.2 b hb).trans e) f0 f1 f3 f4 f5
  obtain⟨oi,e,c,d⟩:=id B4
  exact⟨v,rfl,zN (s:={ s with heap:=h'}) e c d (by decide) ⟨p.2,H,I1,rv,⟨rfl,p,hp,rfl⟩,B4,fun b hb=>(hf b hb).1⟩⟩
 done:=by
  intro X hP hw hK hc i dA s σ H E I hf st hg
  subst hP hw hK
  obtain⟨hi,hq⟩:=hg
  have ho:s.heap.get? a=some o:=(show gh X.prog X.w H s.heap a (.mC o (.dK kvs))from I.fc a _ hq).1
  obtain⟨f0,f1,f2,f3,f4,f5⟩:=hf it (by simp)
  have hl:=KV.length kv
  exact wpAny_pyNext_values_end (I.ok.hd hc) st (hd _ ho) (List.getElem?_eq_none_iff.mpr (by lia)) fun h' eb=>⟨rfl,I.turned (t':=s.toks) (fun b o hb e=>eb b o hb e) f0 f1 f3 f4 f5⟩
 self:=fun _ _ _ _ _ st h=>wpAny_pyIter_valiter st h
end
section
variable {X:Cx}{a b e o:Expr}{es:List Expr}{pos fY gE:Pos}{tg:Expr}
def GS {dA:List (ai×Obj)}{σ:St}{H:Hp}{s:ah}{p:ai}{kvs:List (Key×V)}(I:Inv X dA σ H s)(rd:Rd H p (.dK kvs)):s.TypeIs (.ref p) "dict"/\∀ a,Value.ref p=.ref a->∃ ob,s.heap.get? a=some ob/\ob.dict=none:=by
 obtain⟨_,_,_,_,ob,_,_,e,ex,_⟩:=m7 I.fc rd
 exact⟨⟨ob,e,ex.1⟩,fun a e2=>by cases e2;exact⟨ob,e,ex.2.1⟩⟩
def zx {t:TE}{dA:List (ai×Obj)}{σ:St}{H:Hp}{s:ah}{Q:Value->ah->Prop}(ho:PE X o t)(I:Inv X dA σ H s)
 (h:t σ H fun x H1=>∃ d kvs,x=.ref d/\Rd H1 d (.dK kvs)/\∀ s1,Inv X dA σ H1 s1->∀ v,v<s1.heap.objs.size->(∀ b,H1 b≠none->b≠v)->H1 v=none->s1.heap.IsValuesView v d->Q (.ref v) s1)
 (lI:attributeBase o "values" X.env (eval o X.env)=eval o X.env:=by rfl) (lH:(fY.endLine==gE.line)=true:=by rfl):wpAny (model X.prog X.w) X.A (eval (.Call (.Attribute o "values" fY) [] [] gE) X.env) Q X.xe s:=by
 refine dr lI lH (gc (ho dA s σ H _ I h) fun v s1 hq=>?_)
 obtain⟨x,H1,I1,r1,d,kvs,ex,rd,q⟩:=hq
 subst ex
 cases r1
 obtain⟨z,hd,vs,rel,dd⟩:=m7 I1.fc rd
 obtain⟨h1,h2⟩:=GS I1 rd
 refine⟨"dict", "dict.values",F.plainAttrs_dict,F.slot_dict_values,F.type_dict_values,h1,h2,cf rfl (PySem.evalArgs_none ?_)⟩
 refine call_meetsIn F.slot_dict_values h1 F.entry_dict_values (F.args_dict_values_1 _) (meets_dict_values (fK X.prog X.w) d hd) ⟨⟨vs,dd⟩,?_⟩
 exact q _ (I1.dE (t':=s1.toks) fun b o e=>j0 _ e) s1.heap.objs.size (by show _<(s1.heap.objs.push _).size;rw[Array.size_push];exact bX _) (fun b hb e=>hb (by rw[e];exact I1.fc.fresh (aj _))) (I1.fc.fresh (aj _)) ⟨_,aD _ rfl,rfl,rfl⟩
def VX (w:De):DI:=fun ρ μ K=>w ρ μ fun d eF=>match d with
 | .mE ks ds=>ks.length=ds.length->K ds (fun _=>True) eF
 | _=>False
def uM {w:De}(h:PD X o w)(lI:attributeBase o "values" X.env (eval o X.env)=eval o X.env:=by rfl)(lH:(fY.endLine==gE.line)=true:=by rfl):Fs X tg (.Call (.Attribute o "values" fY) [] [] gE) (VX w):=by
 intro dA s σ H R I hq
 obtain⟨φ,ρ,μ,K,A,M,k,L⟩:=hq
 refine zx h I ⟨φ,ρ,μ,_,A,M,k,fun d eF eZ v1 H1 k1 f1 M1 i1=>?_⟩ lI lH
 cases d with
 | mE ks ds =>
  obtain⟨p,oo,kvs,vs,rfl,hn,h1,rfl,rfl,h3⟩:=i1
  refine⟨p,kvs,rfl,.inr ⟨oo,h1⟩,fun s1 I1 v hv Il hvn view=>?_⟩
  obtain⟨o',vs',ep,kv,hd,da,hs,I2⟩:=freeze I1 (.inr ⟨oo,h1⟩)
  have ho:s1.heap.get? p=some oo:=(show gh X.prog X.w H1 s1.heap p (.mC oo (.dK kvs))from I1.fc p _ h1).1
  have x6:s1.heap.get? p=some o':=(show gh X.prog X.w _ s1.heap p (.mC o' (.dK kvs))from I2.fc p _ eI).1
  rw[ho]at x6
  cases x6
  refine wpAny_pyIter_values view da ?_
  have hl:ds.length=kvs.length:=by have:=h3.len;rw[fH]at this;exact this.symm
  refine⟨s1.heap.objs.size,[s1.heap.objs.size],_,_,H1,rfl,I1.dE (t':=s1.toks) fun b o e=>j0 _ e,Ad p _ kv hd,⟨_,aD _ rfl,rfl,rfl⟩,fun b hb=>?_,?_⟩
  .have e:b=s1.heap.objs.size:=by simpa using hb
   subst e
   exact I1.Df (aj _) (I1.fc.fresh (aj _))
  .refine L _ _ _ eZ _ _ (k1 (by rw[fH,hl])) f1 M1 fun ft H' μ' f' M' c i=>?_
   have K5:=f'.keep _ _ hn h1
   refine⟨fun d hd=>⟨⟨?_,K5⟩,fun x Mn hy=>?_⟩,fun hi=>⟨by lia,K5⟩⟩
   .have:=(l8 hd).1
    lia
   .obtain⟨rfl,q,hq,rfl⟩:=hy
    obtain⟨v',e1,e2⟩:=(h3.mono f').get hd
    rw[vB,hq]at e1
    cases e1
    exact⟨.refl _ _,M',e2⟩
 | _=>exact k1.elim
def SN (m:Bool)(w:De):De:=fun ρ μ K=>w ρ μ fun d eF=>opt (TZ eF d) fun q=>nL m q.2 eF K
def Jl {kvs:List (Key×V)}{vs:List (Key×Value)}{acc:Array Value}(kv:KV kvs vs)(h:ItemsOf (fun i v=>∃ k,vs[i]?=some (k,v)) acc vs.length):fj (kvs.map (·.2)) acc.toList:=by
 refine fj.xR (by rw[fH,kv.length,<- h.1];exact(cc (xs:=acc)).symm) fun i x u e1 e2=>?_
 rw[vB]at e1
 cases q:kvs[i]? with
 | none=>rw[q]at e1;cases e1
 | some p =>
  rw[q]at e1;cases e1
  obtain⟨v,hv,rv⟩:=xJ kv q
  obtain⟨k,e3⟩:=h.2 i u (by rw[<- Array.getElem?_toList];exact e2)
  rw[hv]at e3;cases e3
  exact rv
def Fe (m:Bool){w:De}{p:Pos}(gg:X.gg=true)(hg:Gl X "list")(hm:X.mg "list"=none)(h:PD X o w)(lI:attributeBase o "values" X.env (eval o X.env)=eval o X.env:=by rfl)(lH:(fY.endLine==gE.line)=true:=by rfl)
 (hs3:starEach [.Call (.Attribute o "values" fY) [] [] gE] X.env=[(false,eval (.Call (.Attribute o "values" fY) [] [] gE) X.env)]:=by rfl) :
 PD X (.Call (.Name "list" p) [.Call (.Attribute o "values" fY) [] [] gE] [] pos) (SN m w):=by
 intro dA s σ H Q I hq
 refine bW (qt I hg hm boot_list ?_)
 obtain⟨φ,ρ,μ,K,A,M,k,L⟩:=hq
 refine bD ?_ hs3 rfl
 rw[hs3]
 show wpAny _ _ (spliced ((false,eval (.Call (.Attribute o "values" fY) [] [] gE) X.env)::backTo pos [])) _ _ s
 refine Calls.spliced_cons ?_
 refine zx h I ⟨φ,ρ,μ,_,A,M,k,fun d eF eZ v1 H1 k1 f1 M1 i1=>?_⟩ lI lH
 obtain⟨q,em,k1⟩:=gL k1
 obtain⟨p',kvs,rfl,rd,e1,ha⟩:=Bh M1 i1 em
 refine⟨p',kvs,rfl,rd,fun s1 I1 v hv Il hvn view=>Calls.spliced_nil ?_⟩
 obtain⟨z,hd,vs,rel,dd⟩:=m7 I1.fc rd
 obtain⟨ep,da⟩:=dd.dictAt
 refine W.kdl_call (W.kdl_values (knd:=fK X.prog X.w) (kvs:=vs) (ep:=ep)) (I1.ok.hd gg) ⟨view,da⟩ (by rw[<- rel.length];exact z) fun h' tk SY c' kp hl it=>?_
 have I2:Inv X dA σ (upd H1 s1.heap.objs.size (.lst (kvs.map (·.2)))) { s1 with heap:=h',toks:=tk}:=I1.laid (a:=s1.heap.objs.size) (o:=.lst _) (t':=tk) kp (aj _) ⟨by rw[fH];exact z,SY.toList,c',Jl rel it,hl⟩
 exact⟨.ref s1.heap.objs.size,_,I2,rfl,Fm (L.mono f1) M1 ha k1 (I1.fc.fresh (aj _))⟩
end
def vY:entryFor table "dict_itemiterator.__iter__"=some Builtin.«dict_keyiterator.__iter__»:=entryFor_alias (id (Eq.refl (fastTable "dict_itemiterator.__iter__"))) rfl (by decide +kernel) (id (Eq.refl (fastTable "dict_keyiterator.__iter__")))
def Ck {prog:ae}{w:af}{A:Around}{E:Value->ah->Prop}{s:ah}{it d:ai}{i n ep:Nat}{ok ov:Value}{Q:Value->ah->Prop}(st:IsItemIter s.heap it d i n ep ok ov)(h:Q (.ref it) s):wpAny (model prog w) A (pyIter (.ref it)) Q E s:=by
 have hT:s.TypeIs (.ref it) "dict_itemiterator":=⟨_,st,rfl⟩
 refine wpAny_pyIter_slot hT F.slot_dict_itemiterator_iter ?_
 refine bV F.slot_dict_itemiterator_iter hT vY ?_ (F.args_dict_itemiterator_iter_1 _)
 unfold Builtin.«dict_keyiterator.__iter__»
 have hn:typeLookup (.type "dict_itemiterator") "__next__"=pure (some (.builtin "dict_itemiterator.__next__")):=F.slot_dict_itemiterator_next.lookup
 exact av ⟨.ref it,rfl,_,_,hT,hn,h⟩
def Iti (a:ai)(o:Obj)(kvs:List (Key×V)):It:=⟨fun i H=>i<kvs.length/\H a=some (.mC o (.dK kvs)),fun i H x H'=>∃ T p,x=.ref T/\H T=none/\kvs[i]?=some p/\H'=upd H T (.tup [kV p.1,p.2]),fun i H=>kvs.length<=i/\H a=some (.mC o (.dK kvs))⟩
def El {P:ae}{w:af}{K:aa}{elts:List Expr}{kk:Nat}{rG:Pos}(a it:ai){o:Obj}{kvs:List (Key×V)}{vs:List (Key×Value)}{ep:Nat}(kv:KV kvs vs)(hd:∀ h:Heap,h.get? a=some o->h.DictAt (fK P w) a vs ep) :
 Turn P w K (.Tuple elts kk rG) (Iti a o kvs) [it] it (fun i h=>∃ ok ov,IsItemIter h it a i vs.length ep ok ov) where
 mem:=by simp
 obj:=fun i h st b hb=>by
  have e:b=it:=by simpa using hb
  subst e
  obtain⟨ok,ov,e⟩:=st
  exact⟨_,e,fun v z=>by cases z⟩
 keep:=fun i h h' st k=>by
  obtain⟨ok,ov,e⟩:=st
  exact⟨ok,ov,k it (by simp) _ e⟩
 item:=by
  intro X hP hw hK hc i dA s σ H E I hf st hg
  subst hP hw hK
  obtain⟨ok,ov,st⟩:=st
  obtain⟨hi,hq⟩:=hg
  obtain⟨p,hp⟩:∃ p,kvs[i]?=some p:=⟨_,sP hi⟩
  obtain⟨v,hv,rv⟩:=xJ kv hp
  have ho:s.heap.get? a=some o:=(show gh X.prog X.w H s.heap a (.mC o (.dK kvs))from I.fc a _ hq).1
  refine wpAny_pyNext_items_item st (hd _ ho) hv fun key h1 KY out hT hsz kp1=>?_
  refine⟨_,rfl,wpAny_letOwnedTupleGo_items (s:={ s with heap:=h1}) out fun h2 FU Dc=>?_⟩
  have lte:it<s.heap.objs.size:=kK st
  have ne1:s.heap.objs.size≠it:=bt lte
  have hT2:IsPair h2 s.heap.objs.size key v:=(Dc.2 _ ne1).trans hT
  have kp:∀ b o,b∉[it]->s.heap.get? b=some o->h2.get? b=some o:=fun b o hb q=>by
   have b1:b≠it:=fun z=>hb (by simp[z])
   exact(Dc.2 b b1).trans (kp1 b o b1 q)
  have hn:H s.heap.objs.size=none:=I.fc.fresh (aj _)
  have I1:=I.Pj (ch:=[it]) (h'':=h2) (x:=kV p.1) (y:=p.2) hf kp hT2 (Kz KY) rv
  refine⟨.ref s.heap.objs.size,_,I1,rfl,⟨_,p,rfl,hn,hp,rfl⟩,⟨_,_,FU⟩,fun b hb=>?_⟩
  rw[eP]
  .exact(hf b hb).1
  .have e:b=it:=by simpa using hb
   rw[e];exact aL lte
 done:=by
  intro X hP hw hK hc i dA s σ H E I hf st hg
  subst hP hw hK
  obtain⟨ok,ov,st⟩:=st
  obtain⟨hi,hq⟩:=hg
  have ho:s.heap.get? a=some o:=(show gh X.prog X.w H s.heap a (.mC o (.dK kvs))from I.fc a _ hq).1
  obtain⟨f0,f1,f2,f3,f4,f5⟩:=hf it (by simp)
  have hl:=KV.length kv
  exact wpAny_pyNext_items_end (I.ok.hd hc) st (hd _ ho) (List.getElem?_eq_none_iff.mpr (by lia)) fun h' eb=>⟨rfl,I.turned (t':=s.toks) (fun b o hb e=>eb b o hb e) f0 f1 f3 f4 f5⟩
 self:=fun _ _ _ _ _ st h=>let ⟨_,_,e⟩:=st;Ck e h
section
variable {X:Cx}{a b e o:Expr}{es:List Expr}{pos fY gE:Pos}{tg:Expr}
def JT {t:TE}{dA:List (ai×Obj)}{σ:St}{H:Hp}{s:ah}{Q:Value->ah->Prop}(ho:PE X o t)(I:Inv X dA σ H s)
 (h:t σ H fun x H1=>∃ d kvs,x=.ref d/\Rd H1 d (.dK kvs)/\∀ s1,Inv X dA σ H1 s1->∀ v,s1.heap.IsItemsView v d->Q (.ref v) s1)
 (lI:attributeBase o "items" X.env (eval o X.env)=eval o X.env:=by rfl) (lH:(fY.endLine==gE.line)=true:=by rfl):wpAny (model X.prog X.w) X.A (eval (.Call (.Attribute o "items" fY) [] [] gE) X.env) Q X.xe s:=by
 refine dr lI lH (gc (ho dA s σ H _ I h) fun v s1 hq=>?_)
 obtain⟨x,H1,I1,r1,d,kvs,ex,rd,q⟩:=hq
 subst ex
 cases r1
 obtain⟨z,hd,vs,rel,dd⟩:=m7 I1.fc rd
 obtain⟨h1,h2⟩:=GS I1 rd
 refine⟨"dict", "dict.items",F.plainAttrs_dict,F.slot_dict_items,F.type_dict_items,h1,h2,cf rfl (PySem.evalArgs_none ?_)⟩
 refine call_meetsIn F.slot_dict_items h1 F.entry_dict_items (F.args_dict_items_1 _) (meets_dict_items (fK X.prog X.w) d hd) ⟨⟨vs,dd⟩,?_⟩
 exact q _ (I1.dE (t':=s1.toks) fun b o e=>j0 _ e) s1.heap.objs.size ⟨_,aD _ rfl,rfl,rfl⟩
def Y9 (w:De):DI:=fun ρ μ K=>w ρ μ fun d eF=>match d with
 | .mE ks ds=>ks.length=ds.length->K (List.zipWith (fun k d=>D.tup [oJ k,d]) ks ds) (fun _=>True) eF
 | _=>False
def CY {elts:List Expr}{kk:Nat}{rG:Pos}{w:De}(h:PD X o w)(lI:attributeBase o "items" X.env (eval o X.env)=eval o X.env:=by rfl)(lH:(fY.endLine==gE.line)=true:=by rfl):Fs X (.Tuple elts kk rG) (.Call (.Attribute o "items" fY) [] [] gE) (Y9 w):=by
 intro dA s σ H R I hq
 obtain⟨φ,ρ,μ,K,A,M,k,L⟩:=hq
 refine JT h I ⟨φ,ρ,μ,_,A,M,k,fun d eF eZ v1 H1 k1 f1 M1 i1=>?_⟩ lI lH
 cases d with
 | mE ks ds =>
  obtain⟨p,oo,kvs,vs,rfl,hn,h1,rfl,rfl,h3⟩:=i1
  refine⟨p,kvs,rfl,.inr ⟨oo,h1⟩,fun s1 I1 v view=>?_⟩
  obtain⟨o',vs',ep,kv,hd,da,hs,I2⟩:=freeze I1 (.inr ⟨oo,h1⟩)
  have ho:s1.heap.get? p=some oo:=(show gh X.prog X.w H1 s1.heap p (.mC oo (.dK kvs))from I1.fc p _ h1).1
  have x6:s1.heap.get? p=some o':=(show gh X.prog X.w _ s1.heap p (.mC o' (.dK kvs))from I2.fc p _ eI).1
  rw[ho]at x6
  cases x6
  refine wpAny_pyIter_items view da ?_
  have hl:ds.length=kvs.length:=by have:=h3.len;rw[fH]at this;exact this.symm
  refine⟨s1.heap.objs.size,[s1.heap.objs.size],_,_,H1,rfl,I1.dE (t':=s1.toks) fun b o e=>j0 _ e,El p _ kv hd,⟨_,_,aD _ rfl⟩,fun b hb=>?_,?_⟩
  .have e:b=s1.heap.objs.size:=by simpa using hb
   subst e
   exact I1.Df (aj _) (I1.fc.fresh (aj _))
  .refine L _ _ _ eZ _ _ (k1 (by rw[fH,hl])) f1 M1 fun ft H' μ' f' M' c i=>?_
   have K5:=f'.keep _ _ hn h1
   have lz:(List.zipWith (fun k d=>D.tup [oJ k,d]) (kvs.map (·.1)) ds).length=kvs.length:=by rw[List.length_zipWith,fH,hl,Nat.min_self]
   refine⟨fun d hd=>⟨⟨?_,K5⟩,fun x Mn hy=>?_⟩,fun hi=>⟨by lia,K5⟩⟩
   .have:=(l8 hd).1
    lia
   .obtain⟨T,q,rfl,hT,hq,rfl⟩:=hy
    rw[List.getElem?_zipWith,vB,hq]at hd
    cases e1:ds[i]? with
    | none=>rw[e1]at hd;cases hd
    | some dd =>
     rw[e1]at hd
     cases hd
     obtain⟨v',e2,e3⟩:=(h3.mono f').get e1
     rw[vB,hq]at e2
     cases e2
     have fn:=Fr.new (φ:=ft) (o:=.tup [kV q.1,q.2]) hT
     exact⟨fn,M'.same (hU.upd hT),T,_,rfl,M'.fresh hT,eI,_,_,rfl,AX _,_,_,rfl,e3.mono fn,rfl⟩
 | _=>exact k1.elim
end
section
variable {prog:ae}{w:af}{A:Around}{E:Value->ah->Prop}{s:ah}
def DU {a c n:Nat}(W2:a<=c)(hc:c=n):sliceBounds (some (a:Int)) none none n=((a:Int),(c:Int),1):=by
 simp only[sliceBounds,Option.getD_none]
 have h1:¬ ((a:Int)<0):=by lia
 simp only[h1,if_false,show(1:Int)>0 by decide,if_true]
 congr 1
 .lia
 .congr 1;lia
set_option maxRecDepth 100000 in
def xu {l b sl:ai}{items new:Array Value}{n n2:Nat}{vl vu:Value}{a c:Nat}{Q:Unit->ah->Prop}
 (e:s.heap.get? l=some { cls:=.type "list",data:=.seq items n}) (e2:s.heap.get? b=some { cls:=.type "list",data:=.seq new n2}) (Il:l≠b)
 (hs:s.heap.IsSliceOf sl vl vu .none) (pl:IsPart vl (some (a:Int))) (pu:IsPart vu none) (MG:c=items.size) (W2:a<=c) (hc:c<=items.size)
 (hsz:items.size+new.size<=sizeLine) (h:Q () { s with heap:=s.heap.update l (Obj.mapSeq fun xs=>xs.extract 0 a++new++xs.extract c xs.size)}) :
 wpAny (model prog w) A (setItem (.ref l) (.ref sl) (.ref b)) Q E s:=by
 have hl:s.heap.IsList l items:=PySem.IsL.isList e
 have hb:s.heap.IsList b new:=PySem.IsL.isList e2
 obtain⟨os,MA,W0,Qf⟩:=id hs
 have W3:s.TypeIs (.ref sl) "slice":=⟨os,MA,W0⟩
 have Vh:¬ ((rawPart none==rawInt 0)=true):=aK
 have KS:Builtin.List.listSameRef (.ref l) (.ref b)=false:=by
  unfold Builtin.List.listSameRef
  exact beq_eq_false_iff_ne.mpr Il
 have Yn:(max (a:Int) (c:Int)).toNat=c:=by lia
 have hz':((fun xs:Array Value=>xs.extract 0 a++new++xs.extract c xs.size) items).size<=sizeLine+1:=by
  simp only[Array.size_append,Array.size_extract]
  lia
 unfold setItem
 try with_reducible refine bP ?_
 first | refine fb (av ?_) | skip
 refine fb (wpAny_sequenceKey hl.typeIs (by decide) ?_)
 refine fb (bG (name:=Str.ofString "__setitem__") hl.typeIs slot_list_setitem
  (bV slot_list_setitem hl.typeIs entry_list_setitem ?_ (args_list_setitem _ _ _)))
 show wpAny _ _ (Builtin.List.listSubscript? (.ref sl) >>= _) _ _ s
 refine fb ?_
 unfold Builtin.List.listSubscript?
 refine fb (wpAny_specialOf W3 slice_no_index ?_)
 simp only[Option.isNone_none,if_true]
 refine av ?_
 show wpAny _ _ (typeOf (.ref sl) >>= _) _ _ s
 refine fb (wpAny_typeOf W3 ?_)
 first
  | rw[aq (by decide)]
  | refine W.KFB.if_not (by decide) ?_
 rw[listSliceParts_eq]
 refine fb (fb (aY MA Qf (x:=.none) rfl (fb (wpAny_listPart .none ?_))))
 rw[aq Vh]
 refine fb (aY MA Qf (x:=vl) rfl (fb (wpAny_listPart pl ?_)))
 refine fb (aY MA Qf (x:=vu) rfl (fb (wpAny_listPart pu (av ?_))))
 first
  | simp only[KS,dq,if_false]
  | refine W.KFB.if_not KS ?_
  | (dsimp only
     rw[aq (by rw[KS];exact aK)])
 refine fb (m:=Builtin.List.listAllItems (.ref b) "must assign iterable to extended slice") ?_
 unfold Builtin.List.listAllItems
 refine fb (wpAny_typeOf hb.typeIs ?_)
 first
  | refine W.KFB.if_so (by decide) ?_
  | rw[au (by decide)]
  | simp only[cF,Bool.true_or,if_true]
 unfold Builtin.List.listItems
 refine fb (bY e2 rfl (av ?_))
 refine fb (fb (bY e rfl (av ?_)))
 refine fb (wpAny_of_eq ((sliceIndices_raw (some (a:Int)) none none items.size (by simp)).trans (bx (pure:Int×Int×Int->Sem (Int×Int×Int)) (DU (c:=c) W2 MG))) ?_)
 show wpAny _ _ (if((1:Int)==1)=true then _ else _) _ _ s
 rw[au (by decide)]
 refine fb (wpAny_rule ?_)
 first
  | simp only[xS hsz,dq,if_false]
  | refine W.KFB.if_not (xS hsz) ?_
 first | refine fb (av ?_) | skip
 show wpAny _ _ (updateSeq l (fun xs=>xs.extract 0 ((a:Int)).toNat++new++xs.extract (max (a:Int) (c:Int)).toNat xs.size) >>= _) _ _ s
 rw[Yn,Ow]
 refine fb (wpAny_updateSeq (hz:=aE (bb _ _) hsz) (_hz':=hz') e rfl ?_)
 refine fb (wpAny_letGo ?_)
 first
  | exact fb (av (av ⟨.none,rfl,av h⟩))
  | exact av ⟨.none,rfl,av h⟩
end
def uS (it:D->MS->(Option (Key×D)->MS->Prop)->Prop)(c:MS->Prop)(μ:MS):List D->List (Key×D)->(List (Key×D)->Prop)->Prop
 | [],kvs,K=>c (μ++[.jr (kvs.map (·.1)) (kvs.map (·.2))])/\K kvs
 | d::ds,kvs,K=>c (μ++[.jr (kvs.map (·.1)) (kvs.map (·.2))])/\it d (μ++[.jr (kvs.map (·.1)) (kvs.map (·.2))]) fun o μ'=>μ'=μ++[.jr (kvs.map (·.1)) (kvs.map (·.2))]/\(match o with
  | some (k,y)=>uS it c μ ds (dput kvs k y) K
  | none=>uS it c μ ds kvs K)
def LD (wi:DI)(js:List (Option Nat))(y:DG)(t:Dt)(wk wv:De):De:=fun ρ μ K=>wi ρ μ fun ds c eF=>ds.length<=sizeLine/\uS (Ly (oa js ρ) y t wk wv) c eF ds [] fun kvs=>K (.mr eF.length) (eF++[.jr (kvs.map (·.1)) (kvs.map (·.2))])
def Jt {wi:DI}{js:List (Option Nat)}{g:TG}{y:DG}{S:List Nat}{t:Dt}{wk wv:De}(so:IW g y S)(mo:n5 g)(ho:qg S js=true){σ:St}{H:Hp}{Q:VK}(h:tD (LD wi js y t wk wv) σ H Q):Jv (Ul wi) js g (yT t) (tD wk) (tD wv) σ H Q:=by
 obtain⟨φ,ρ,μ,K,A,M,k,L⟩:=h
 refine⟨φ,ρ,μ,_,A,M,k,fun ds c eF eZ J H1 k1 f1 M1 wk' D hD=>?_⟩
 obtain⟨hz,k1⟩:=k1
 have hDf:D∉eZ:=M1.fresh hD
 have fD:Fr eZ H1 (eZ++[D]) (upd H1 D (.dK [])):=⟨(Fr.snoc (φ:=eZ) hD).ext,fun c u _ e=>hU.upd hD _ _ e,fun c e=>(hU.upd hD).free e⟩
 obtain⟨MD,_⟩:=M1.snoc (m:=.jr [] []) (o:=.dK []) hD ⟨[],[],eI,rfl,rfl,rfl⟩
 have hp:(eZ++[D])[eF.length]?=some D:=by rw[oP (by rw[M1.len];exact aj _),M1.len,aR];rfl
 refine⟨fun i n kv H'=>n=ds.length - i/\i<=ds.length/\∃ kvs:List (Key×L2.D),kvs.length<=i/\Fr eZ H1 (eZ++[D]) H'/\fe (eZ++[D]) H' (eF++[.jr (kvs.map (·.1)) (kvs.map (·.2))])/\uS (Ly (oa js ρ) y t wk wv) c eF (ds.drop i) kvs fun kvs=>K (.mr eF.length) (eF++[MO.jr (kvs.map (·.1)) (kvs.map (·.2))]),
  ⟨ds.length,rfl,a6 _,[],a6 _,fD,MD,k1⟩,?_⟩
 rintro i n kv H' ⟨rfl,hi,kvs,hkl,f',M',w'⟩
 by_cases uu:i<ds.length
 .rw[cq uu]at w'
  obtain⟨c',w'⟩:=w'
  obtain⟨go,Jh⟩:=(wk' _ H' _ f' M' c' i).1 ds[i] (sP uu)
  refine .inr ⟨go,fun x H2 X7=>?_⟩
  obtain⟨f2,M2,i2⟩:=Jh x H2 X7
  have E2:jR (eZ++[D]) H2 (oa js ρ) (gi js σ):=((A.mono (f1.trans (f'.trans f2))).gi js)
  refine mo _ _ _ _ _ (fun FH H3 qu=>?_) (so _ H2 _ _ _ _ x _ E2 M2 i2 w')
  obtain⟨e3,l3,n3,zo,E3,k3⟩:=qu
  refine⟨Lh ho l3 n3,?_⟩
  subst e3
  refine⟨_,zo,_,_,E3,M2,k3,fun b FI QD H4 k4 f4 M4=>?_⟩
  cases b with
  | true =>
   refine⟨QD,zo,FI,_,E3.mono f4,M4,k4,fun d5 T5 Xe v5 H5 k5 f5 M5 i5=>?_⟩
   obtain⟨kk,ekk,k5⟩:=gL k5
   refine⟨Xe,zo,T5,_,E3.mono (f4.trans f5),M5,k5,fun d6 μ6 φ6 v6 H6 k6 f6 M6 i6=>?_⟩
   obtain⟨e6,w6⟩:=k6
   subst e6
   have ff:=f2.trans (f4.trans (f5.trans f6))
   have ef:φ6=eZ++[D]:=ff.PR (by rw[M6.len,M'.len])
   subst ef
   obtain⟨p,e1,U6,vs,e2,e3',e4,e5⟩:=M6.at_ eF.length _ (by rw[oP (aj _),aR];rfl)
   rw[hp]at e1
   cases e1
   subst e4
   have ME:U6.length=kvs.length:=by have:=bx List.length e3';rwa [fH,fH]at this
   have f7:Fr (eZ++[D]) H6 (eZ++[D]) (upd H6 D (.dK (putK U6 kk v6))):=.put (aO _ (List.mem_singleton.mpr rfl))
   obtain⟨g1,g2⟩:=Dz (k:=kk) (i6.mono f7) e3' (e5.mono f7)
   refine⟨kk,U6,oK ekk i5,e2,by lia,ds.length - (i+1),by lia,rfl,uu,dput kvs kk d6,by have:=Lo kvs kk d6;lia,(f'.trans ff).trans f7,?_,w6⟩
   have q:=M6.put (k:=eF.length) (p:=D) (o:=.dK (putK U6 kk v6)) (m:=.jr ((dput kvs kk d6).map (·.1)) ((dput kvs kk d6).map (·.2))) hp ⟨putK U6 kk v6,_,eI,g1,rfl,g2⟩
   have e:(eF++[MO.jr (kvs.map (·.1)) (kvs.map (·.2))]).set eF.length (.jr ((dput kvs kk d6).map (·.1)) ((dput kvs kk d6).map (·.2)))=eF++[.jr ((dput kvs kk d6).map (·.1)) ((dput kvs kk d6).map (·.2))]:=gD
   rw[e]at q
   exact q
  | false =>
   obtain⟨e4,w4⟩:=k4
   subst e4
   have ff:=f2.trans f4
   have ef:QD=eZ++[D]:=ff.PR (by rw[M4.len,M'.len])
   subst ef
   exact⟨ds.length - (i+1),by lia,rfl,uu,kvs,by lia,f'.trans ff,M4,w4⟩
 .have e:i=ds.length:=by lia
  subst e
  rw[List.drop_length]at w'
  exact .inl ⟨(wk' _ H' _ f' M' w'.1 _).2 rfl,L _ _ _ _ H' w'.2 (f1.trans f') M' ⟨D,hp,rfl⟩⟩
section
variable {X:Cx}{N:List Str}{sc:Scope}{js:List (Option Nat)}{tg iter kx vx:Expr}{ifs:List Expr}{g:TG}{y:DG}{S:List Nat}{t:Dt}{wk wv:De}
def OC {wi:DI}{pos:Pos}(hc:i8 X N js sc)(gg:X.gg=true)(so:IW g y S)(mo:n5 g)(ho:qg S js=true)(hi:Fs X tg iter wi)(hg:∀ fp s H,PG (yQ X N sc fp s H) tg g)
 (ht:∀ fp s H,zj (yQ X N sc fp s H) ifs t) (hk:∀ fp s H,PD (yQ X N sc fp s H) kx wk) (hv:∀ fp s H,PD (yQ X N sc fp s H) vx wv)
 (hs:∀ x,foldedSetIterable iter X.env x=pure x:=by intro _;rfl):PD X (.DictComp kx vx [⟨tg,iter,ifs,0⟩] sc pos) (LD wi js y t wk wv):=(JY hc gg hi hg ht hk hv hs).imp fun σ H Q h=>Jt so mo ho h
end
section
variable {X:Cx}{a b e o:Expr}{es:List Expr}{pos:Pos}
def XA (to tl tv:TE):TS:=fun D σ H=>tv σ H fun v H1=>to σ H1 fun x H2=>tl σ H2 fun i H3=>∃ l b xs ys k,x=.ref l/\v=.ref b/\i=.int k/\H3 l=some (.lst xs)/\H3 b=some (.lst ys)/\l≠b/\0<=k/\k<=xs.length/\xs.length+ys.length<=sizeLine/\D.nx σ (upd H3 l (.lst (xs.take k.toNat++ys)))
def Rb {to tl tv:TE}{lo value:Expr}{p pos':Pos}(ho:PE X o to)(hl:PE X lo tl)(hv:PE X value tv)(hs:swapsWith value (some (.Subscript o (.Slice (some lo) none none p) pos')) pos.line X.env=pure false:=by rfl) :
 PS X (.Assign [.Subscript o (.Slice (some lo) none none p) pos'] value pos) (XA to tl tv):=by
 intro dA s σ H D I h
 refine wpAny_Assign_Subscript (gc (hv dA s σ H _ I h) fun r s1 pF=>?_) hs
 obtain⟨v,H1,I1,rv,q1⟩:=pF
 refine gc (ho dA s1 σ H1 _ I1 q1) fun u s2 oN=>?_
 obtain⟨x,H2,I2,rx,q2⟩:=oN
 refine wpAny_Slice (gc (hl dA s2 σ H2 _ I2 q2) fun iv s3 tO=>?_)
 obtain⟨i,H3,I3,ri,l,b,xs,ys,k,ex,ev,ei,hH,hB,Il,h0,hk,hz,q⟩:=tO
 subst ex ev ei
 cases rx
 cases rv
 obtain⟨t,rfl⟩:=ri
 refine av (av ?_)
 have I4:Inv X dA σ H3 { s3 with heap:=s3.heap.push { cls:=.type "slice",data:=.fields #[.int k t,.none,.none]}}:=I3.dE (t':=s3.toks) fun b o e=>j0 _ e
 obtain⟨z,eW,n,r,hl,e⟩:=I4.vV hH
 obtain⟨z2,sx,n2,r2,Oj,e2⟩:=I4.vV hB
 obtain⟨a',rfl⟩:=Int.eq_ofNat_of_zero_le h0
 refine xu (a:=a') (c:=eW.length) (sl:=s3.heap.objs.size) (vl:=.int a' t) (vu:=.none) e e2 Il ⟨_,aD _ rfl,rfl,rfl⟩ (.int _ _) .none (by rw[aB]) (by lia) (by rw[aB];exact aj _) (by rw[aB,aB];lia) ?_
 have I5:=I4.N7 (its':=eW.take a'++sx) (ys:=xs.take a'++ys) (t':=s3.toks) hH e (f:=fun xs=>xs.extract 0 a'++sx.toArray++xs.extract eW.length xs.size) (by
  have:=HB eW sx a' eW.length
  rw[List.drop_length,aV]at this
  exact this) (fj.append (r.take _) r2) (by rw[j3,aM];lia)
 exact⟨σ,_,I5,by simpa using q⟩
def YY (wo wl wv:De):Ds:=fun N ρ μ=>wv ρ μ fun v eF=>wo ρ eF fun x fG=>wl ρ fG fun i lS=>match x,v,i with
 | .mr j,.lst ys,.int k=>∃ xs,AW lS j=some xs/\0<=k/\k<=xs.length/\xs.length+ys.length<=sizeLine/\N.nx ρ (lS.set j (.lst (xs.take k.toNat++ys)))
 | _,_,_=>False
def Py {wo wl wv:De}{lo value:Expr}{p pos':Pos}(ho:PD X o wo)(hl:PD X lo wl)(hv:PD X value wv)(hs:swapsWith value (some (.Subscript o (.Slice (some lo) none none p) pos')) pos.line X.env=pure false:=by rfl) :
 wZ X (.Assign [.Subscript o (.Slice (some lo) none none p) pos'] value pos) (YY wo wl wv):=(Rb ho hl hv hs).imp fun E σ H hq=>by
 obtain⟨φ,ρ,μ,N,A,M,w,L⟩:=hq
 refine⟨φ,ρ,μ,_,A,M,w,fun d1 eF eZ v1 H1 k1 f1 M1 i1=>?_⟩
 refine⟨eZ,ρ,eF,_,A.mono f1,M1,k1,fun d2 fG jD v2 H2 k2 f2 M2 i2=>?_⟩
 refine⟨jD,ρ,fG,_,A.mono (f1.trans f2),M2,k2,fun d3 lS Ab v3 H3 k3 f3 M3 i3=>?_⟩
 split at k3
 .rename_i j ys k
  obtain⟨xs,ex,h0,hk,hz,k3⟩:=k3
  cases(show v3=_ from i3)
  have WS:=i1.mono (f2.trans f3)
  obtain⟨pb,vb,rfl,nb,hb,ab⟩:=WS
  obtain⟨p,hp,rfl⟩:=i2.mono f3
  obtain⟨p',e1,vs,hv,ha⟩:=M3.at_ j _ (qm ex)
  rw[hp]at e1;cases e1
  have ne:p≠pb:=fun z=>nb (by rw[<- z];exact A1 hp)
  have f4:Fr Ab H3 Ab (upd H3 p (.lst (vs.take k.toNat++vb))):=.put (A1 hp)
  have M4:=M3.put (k:=j) (p:=p) (o:=.lst (vs.take k.toNat++vb)) (m:=.lst (xs.take k.toNat++ys)) hp ⟨_,eI,((ha.take _).app ab).mono f4⟩
  exact⟨p,pb,vs,vb,k,rfl,rfl,rfl,hv,hb,ne,h0,by rw[ha.len];exact hk,by rw[ha.len,ab.len];exact hz,L.nx ρ _ Ab σ _ k3 ((f1.trans (f2.trans f3)).trans f4) (A.mono ((f1.trans (f2.trans f3)).trans f4)) M4⟩
 .exact k3.elim
def LG (C:ai)(f:Str)(g:Int->Int->Int)(wo w:De):Ds:=fun N ρ μ=>wo ρ μ fun x eF=>match x with
 | .mr k=>∃ i,(lV C eF k).bind (fun q=>m5 f q.1 q.2)=some (.int i)/\w ρ eF fun y fG=>match y with
  | .int j=>∃ q q':List Str×List D,lV C fG k=some q/\putN f (.int (g i j)) q.1 q.2=q'/\q.1.length<1000/\N.nx ρ (fG.set k (.ins C q'.1 q'.2))
  | _=>False
 | _=>False
def FO {C:ai}{f:Str}{g:Int->Int->Int}{wo w:De}{rd:V->V->Hp->VK->Prop}(c:xa X.K C)(n:lM X.K C f)(hrd:∀ i j H Q,Q (.int (g i j)) H->rd (.int i) (.int j) H Q){E:Ends}{σ:St}{H:Hp}(hq:WA (LG C f g wo w) E σ H):Gd X.K (tD wo) (tD w) rd f E σ H:=by
 obtain⟨φ,ρ,μ,N,A,M,k,L⟩:=hq
 refine⟨φ,ρ,μ,_,A,M,k,fun d1 eF eZ v1 H1 k1 f1 M1 i1=>?_⟩
 cases d1 with
 | mr k =>
  obtain⟨i,e1,k1⟩:=k1
  obtain⟨q,e2,e3⟩:=Option.bind_eq_some_iff.mp e1
  obtain⟨p,hp,rfl⟩:=i1
  obtain⟨p',e4,dx,fs,h1,h2,h3⟩:=M1.at_ k _ (tM e2)
  rw[hp]at e4;cases e4
  rw[<- h2]at e3
  obtain⟨v,l,iv⟩:=tH h3 e3
  cases(show v=_ from iv)
  refine⟨p,C,dx,fs,.int i,rfl,h1,c,n,l,?_⟩
  refine⟨eZ,ρ,eF,_,A.mono f1,M1,k1,fun d2 fG jD v2 H2 k2 f2 M2 i2=>?_⟩
  cases d2 with
  | int j =>
   cases(show v2=_ from i2)
   obtain⟨q',_,e5,rfl,hl,k2⟩:=k2
   have Oh:=f2.get hp
   obtain⟨p',e4,Qp,IU,g1,g2,g3⟩:=M2.at_ k _ (tM e5)
   rw[Oh]at e4;cases e4
   refine hrd _ _ _ _ ⟨Qp,IU,g1,by rw[<- g2,fH]at hl;exact hl,?_⟩
   have f4:Fr jD H2 jD (upd H2 p (.ins C Qp (mB f (.int (g i j)) IU))):=.put (A1 Oh)
   obtain⟨y1,y2⟩:=Az (f:=f) (d:=.int (g i j)) (v:=.int (g i j)) (show jC jD (upd H2 p (.ins C Qp (mB f (.int (g i j)) IU))) (.int (g i j)) (.int (g i j))from rfl) (g3.mono f4)
   rw[g2]at y1 y2
   exact L.nx ρ _ jD σ _ k2 ((f1.trans f2).trans f4) (A.mono ((f1.trans f2).trans f4)) (M2.put Oh ⟨Qp,_,eI,y1,y2⟩)
  | _=>exact k2.elim
 | _=>exact k1.elim
def Gb {C:ai}{f:Str}{wo w:De}{rG:Pos}(c:xa X.K C)(n:lM X.K C f)(ho:PD X o wo)(hv:PD X e w):wZ X (.AugAssign (.Attribute o f rG) .Add e pos) (LG C f (·+·) wo w):=(zw ho hv R8).imp fun E σ H hq=>FO c n (fun i j H Q q=>⟨i,j,rfl,rfl,q⟩) hq
def Nl {C:ai}{f:Str}{wo w:De}{rG:Pos}(c:xa X.K C)(n:lM X.K C f)(ho:PD X o wo)(hv:PD X e w):wZ X (.AugAssign (.Attribute o f rG) .Sub e pos) (LG C f (· - ·) wo w):=(zw ho hv R7).imp fun E σ H hq=>FO c n (fun i j H Q q=>⟨i,j,rfl,rfl,q⟩) hq
end
structure mI (P:ae)(w:af)(K:aa)(mg:Str->Option Value)(dD:Heap)(C:ai)(m:Str)(k:Nat)(ps:List Str)(sp:Sp):Prop where
 ex:∃ f fd,eV P w K mg dD (nz P w) k f fd ps sp/\Meth K C m f/\Binds K fd ps []
structure Mq (P:ae)(w:af)(K:aa)(mg:Str->Option Value)(dD:Heap)(x:Str)(C:ai)(k:Nat)(ps:List Str)(sp:Sp):Prop where
 ex:∃ f fd,eV P w K mg dD (nz P w) k f fd ps sp/\Mk K C f/\mg x=some (.ref C)/\Binds K fd ps []
def PM {X:Cx}:Passes (nz X.prog X.w) X (fun _ _ _=>False):=fun dA σ H s e s' I c=>by
 obtain⟨_,_,_,_,_,_,_,_,_,_,_,z⟩:=c
 exact z.elim
section
variable {X:Cx}{a b e o:Expr}{es:List Expr}{pos:Pos}{C:ai}{fh:List ai}{H0:Hp}{Kx:DX}
def B2 {m:Str}{f:i9}{wo:De}{w:DA}{σ:St}{H:Hp}{Q:VK}{E:XK}{ok:MS->Prop}{Kx:DX}(hE:∀ φ μ H,fe φ H μ->ok μ->sM φ H Kx E)(h:tD (fun ρ μ K=>wo ρ μ fun x eF=>rK C m eF x/\w ρ eF fun ds fG=>ok fG/\f (x::ds) fG K Kx) σ H Q):B1 C m (kj f) [] E (tD wo) (TK w) σ H Q:=by
 obtain⟨φ,ρ,μ,K,A,M,k,L⟩:=h
 refine⟨φ,ρ,μ,_,A,M,k,fun d1 eF eZ v1 H1 k1 f1 M1 i1=>?_⟩
 obtain⟨p,dx,fs,rfl,h1,h2⟩:=tw M1 i1 k1.1
 refine⟨p,dx,fs,rfl,h1,h2,eZ,ρ,eF,_,A.mono f1,M1,k1.2,fun ds fG jD vs H2 k2 f2 M2 i2=>?_⟩
 show kj f (.ref p::(vs++[])) H2 Q E
 rw[aV]
 exact⟨jD,d1::ds,fG,K,Kx,⟨_,vs,rfl,jC.mono f2 i1,i2⟩,M2,k2.2,L.mono (f1.trans f2),hE jD fG H2 M2 k2.1⟩
def SM (fh:List ai)(H0:Hp)(Kx:DX)(C:ai)(m:Str)(f:i9)(wo:De)(w:DA):De:=fun ρ μ K=>wo ρ μ fun x eF=>rK C m eF x/\w ρ eF fun ds fG=>fG[0]?=some (.gx fh H0)/\f (x::ds) fG K Kx
def jA {m:Str}{f:i9}{wo:De}{w:DA}{fY:Pos}{pl:Sem Bool}{k:Nat}{ps:List Str}(Z:Rz X fh H0 Kx)(CM:mI X.prog X.w X.K X.mg X.dD C m k ps (kj f))(c:xa X.K C)(hr:iz k X.A)(ho:PD X o wo)(ha:vR X (e::es) w)
 (BR:starEach (e::es) X.env=(false,eval e X.env)::starEach es X.env:=by rfl) (lW:(backTo pos (starEach es X.env)).any (·.1)=false:=by rfl)
 (ht:eval (.Call (.Attribute o m fY) (e::es) [] pos) X.env=(do
   let ov <- eval o X.env
   standAt fY.atName
   let (f,first) <- holding [ov] (getMethod ov m pl)
   callWith pos f first (backTo pos (starEach (e::es) X.env)) (backToKw pos (keywordEach [] X.env))):=by rfl) :
 PD X (.Call (.Attribute o m fY) (e::es) [] pos) (SM fh H0 Kx C m f wo w):=by
 obtain⟨E,LX,hp⟩:=Z.ex
 obtain⟨f',fd,F,hm,hb⟩:=CM.ex
 exact(AD ho c hm F hr hb .nil hp ha BR lW ht).imp fun σ H Q hq=>B2 (ok:=fun μ=>μ[0]?=some (MO.gx fh H0)) (fun φ μ H M e=>LX.mono (M.Im e)) hq
def OI (C:ai)(m:Str)(f:i9)(wo:De)(w:DA):De:=fun ρ μ K=>wo ρ μ fun x eF=>rK C m eF x/\w ρ eF fun ds fG=>True/\f (x::ds) fG K fun _ _=>False
def uc {m:Str}{f:i9}{wo:De}{w:DA}{fY:Pos}{pl:Sem Bool}{k:Nat}{ps:List Str}(CM:mI X.prog X.w X.K X.mg X.dD C m k ps (kj f))(c:xa X.K C)(hr:iz k X.A)(ho:PD X o wo)(ha:vR X (e::es) w)
 (BR:starEach (e::es) X.env=(false,eval e X.env)::starEach es X.env:=by rfl) (lW:(backTo pos (starEach es X.env)).any (·.1)=false:=by rfl)
 (ht:eval (.Call (.Attribute o m fY) (e::es) [] pos) X.env=(do
   let ov <- eval o X.env
   standAt fY.atName
   let (f,first) <- holding [ov] (getMethod ov m pl)
   callWith pos f first (backTo pos (starEach (e::es) X.env)) (backToKw pos (keywordEach [] X.env))):=by rfl) :
 PD X (.Call (.Attribute o m fY) (e::es) [] pos) (OI C m f wo w):=by
 obtain⟨f',fd,F,hm,hb⟩:=CM.ex
 exact(AD ho c hm F hr hb .nil PM ha BR lW ht).imp fun σ H Q hq=>B2 (ok:=fun _=>True) (Kx:=fun _ _=>False) (fun φ μ H M e=>fun _ _ _ _ z _ _=>z.elim) hq
def Hz {m:Str}{f:i9}{wo:De}{σ:St}{H:Hp}{Q:VK}{E:XK}{ok:MS->Prop}{Kx:DX}(hE:∀ φ μ H,fe φ H μ->ok μ->sM φ H Kx E)(h:tD (fun ρ μ K=>wo ρ μ fun x eF=>rK C m eF x/\ok eF/\f [x] eF K Kx) σ H Q):B1 C m (kj f) [] E (tD wo) MY σ H Q:=by
 obtain⟨φ,ρ,μ,K,A,M,k,L⟩:=h
 refine⟨φ,ρ,μ,_,A,M,k,fun d1 eF eZ v1 H1 k1 f1 M1 i1=>?_⟩
 obtain⟨p,dx,fs,rfl,h1,h2⟩:=tw M1 i1 k1.1
 exact⟨p,dx,fs,rfl,h1,h2,eZ,[d1],eF,K,Kx,⟨_,[],rfl,i1,rfl⟩,M1,k1.2.2,L.mono f1,hE eZ eF H1 M1 k1.2.1⟩
def OJ (fh:List ai)(H0:Hp)(Kx:DX)(C:ai)(m:Str)(f:i9)(wo:De):De:=fun ρ μ K=>wo ρ μ fun x eF=>rK C m eF x/\eF[0]?=some (.gx fh H0)/\f [x] eF K Kx
def DJ {m:Str}{f:i9}{wo:De}{fY:Pos}{pl:Sem Bool}{k:Nat}{ps:List Str}(Z:Rz X fh H0 Kx)(CM:mI X.prog X.w X.K X.mg X.dD C m k ps (kj f))(c:xa X.K C)(hr:iz k X.A)(ho:PD X o wo)
 (ht:eval (.Call (.Attribute o m fY) [] [] pos) X.env=(do
   let ov <- eval o X.env
   standAt fY.atName
   let (f,first) <- holding [ov] (getMethod ov m pl)
   callWith pos f first (backTo pos (starEach [] X.env)) (backToKw pos (keywordEach [] X.env))):=by rfl) :
 PD X (.Call (.Attribute o m fY) [] [] pos) (OJ fh H0 Kx C m f wo):=by
 obtain⟨E,LX,hp⟩:=Z.ex
 obtain⟨f',fd,F,hm,hb⟩:=CM.ex
 exact(Co ho c hm F hr hb .nil hp ht).imp fun σ H Q hq=>Hz (ok:=fun μ=>μ[0]?=some (MO.gx fh H0)) (fun φ μ H M e=>LX.mono (M.Im e)) hq
def Js {f:i9}{w:DA}{σ:St}{H:Hp}{Q:VK}{E:XK}{ok:MS->Prop}{Kx:DX}(hE:∀ φ μ H,fe φ H μ->ok μ->sM φ H Kx E)(h:tD (fun ρ μ K=>w ρ μ fun ds eF=>ok eF/\f (.mr eF.length::ds) (eF++[.ins C [] []]) (fun d fG=>d=.gy/\K (.mr eF.length) fG) Kx) σ H Q):Jr C (kj f) [] E (TK w) σ H Q:=by
 obtain⟨φ,ρ,μ,K,A,M,k,L⟩:=h
 refine⟨φ,ρ,μ,_,A,M,k,fun ds eF eZ vs H1 k1 f1 M1 i1 x dx hx Yw ne=>?_⟩
 have S1:hU H1 (upd H1 dx (.own x)):=hU.upd Yw
 have CZ:upd H1 dx (.own x) x=none:=by rw[eP (bj ne)];exact hx
 have fa:Fr eZ H1 eZ (upd H1 dx (.own x)):=.same S1
 obtain⟨M2,f2⟩:=(M1.same S1).snoc (m:=.ins C [] []) (o:=.ins C dx []) CZ ⟨dx,[],eI,rfl,rfl⟩
 have f3:=fa.trans f2
 have Om:jC (eZ++[x]) (upd (upd H1 dx (.own x)) x (.ins C dx [])) (.mr eF.length) (.ref x):=⟨x,by rw[oP (by rw[M1.len];exact aj _),M1.len,aR];rfl,rfl⟩
 show kj f (.ref x::(vs++[])) _ _ E
 rw[aV]
 refine⟨eZ++[x],.mr eF.length::ds,eF++[.ins C [] []],_,Kx,⟨_,vs,rfl,Om,i1.mono f3⟩,M2,k1.2,fun d lS Ab v H3 k3 f4 M3 i3=>?_,(hE eZ eF H1 M1 k1.1).mono f3⟩
 obtain⟨rfl,k3⟩:=k3
 exact⟨i3,L _ lS Ab _ H3 k3 ((f1.trans f3).trans f4) M3 (Om.mono f4)⟩
def OK (C:ai)(f:i9)(w:DA):De:=fun ρ μ K=>w ρ μ fun ds eF=>True/\f (.mr eF.length::ds) (eF++[.ins C [] []]) (fun d fG=>d=.gy/\K (.mr eF.length) fG) fun _ _=>False
def Lv {x:Str}{f:i9}{w:DA}{p:Pos}{k:Nat}{ps:List Str}(CI:Mq X.prog X.w X.K X.mg X.dD x C k ps (kj f))(hr:iz (k+1) X.A)(hg:Gl X x)(ha:vR X (e::es) w)
 (uN:(x==("__debug__" : Str))=false:=by decide) (he:starEach (e::es) X.env=(false,eval e X.env)::starEach es X.env:=by rfl) (lW:(backTo pos (starEach es X.env)).any (·.1)=false:=by rfl) :
 PD X (.Call (.Name x p) (e::es) [] pos) (OK C f w):=by
 obtain⟨f',fd,F,M,hm,hb⟩:=CI.ex
 exact(Gj M F hr hg hm hb .nil PM ha uN he lW).imp fun σ H Q hq=>Js (ok:=fun _=>True) (Kx:=fun _ _=>False) (fun φ μ H M e=>fun _ _ _ _ z _ _=>z.elim) hq
end
def ju {P:ae}{w:af}{K:aa}{mg:Str->Option Value}{dD:Heap}{C:ai}{x q:Str}{st:Stmt}{f:ai}{fd:ag}{k:Nat}{ps:List Str}{sp:Sp}(F:ic K x q st f fd)(ok:eV P w K mg dD (nz P w) k f fd ps sp)(hb:Binds K fd ps [])
 (a:W.findIn K (.ref C) x=some (some (.ref f)):=by kernel_rfl) (i:W.isFn K (.ref f)=true:=by kernel_rfl):mI P w K mg dD C x k ps sp:=⟨f,fd,ok,⟨a,i,F.kp⟩,hb⟩
def LP {P:ae}{w:af}{K:aa}{mg:Str->Option Value}{dD h:Heap}{C:ai}{y q:Str}{st:Stmt}{f:ai}{fd:ag}{k:Nat}{ps:List Str}{sp:Sp}(G:K.In h)(N:h.Ns mainGlobals mg)(F:ic K "__init__" q st f fd)(ok:eV P w K mg dD (nz P w) k f fd ps sp)(hb:Binds K fd ps [])
 (n:W.nsIn K mainGlobals y=some (some (.ref C)):=by kernel_rfl) (a:W.findIn K (.ref C) "__init__"=some (some (.ref f)):=by kernel_rfl) (i:W.isFn K (.ref f)=true:=by kernel_rfl) (m:W.makesIn K C=true:=by kernel_rfl) (p:W.keepIn K (.ref C)=true:=by kernel_rfl):Mq P w K mg dD y C k ps sp:=⟨f,fd,ok,⟨m,a,i,p⟩,b7 G N n,hb⟩
section
variable {X:Cx}{a b c e o:Expr}{es:List Expr}{pos:Pos}
def zC:kg X (compareOp .LtE) (fun x y H Q=>∃ i j,x=.str i/\y=.str j/\Q (.bl (!decide (j.cps.toList<i.cps.toList))) H):=by
 intro dA s σ H x y v u Q I rx ry h
 obtain⟨i,j,rfl,rfl,q⟩:=h
 obtain⟨t,rfl⟩:=rx
 obtain⟨t',rfl⟩:=ry
 exact compareOp_gives (typeIs_str s i t) (typeIs_str s j t') F.slot_str_le F.entry_str_le (F.args_str_le_2 _ _) (gives_str_le i j t t') (by first | rfl | simp[Made.takes] | decide) (f9 I q rfl)
def VW:wj:=fun x y μ K=>match x,y with
 | .str a,.str b=>K (.bl (!decide (b.cps.toList<a.cps.toList))) μ
 | _,_=>False
def Jz:pL (fun x y H Q=>∃ i j,x=.str i/\y=.str j/\Q (.bl (!decide (j.cps.toList<i.cps.toList))) H) VW:=fun φ H x y dx dy μ K Q M hx hy k L=>by
 unfold VW at k
 split at k
 .cases(show x=_ from hx);cases(show y=_ from hy)
  exact⟨_,_,rfl,rfl,L.val M k rfl⟩
 .exact k.elim
def SQ (ro WJ:wj)(wa wb wc:De):De:=fun ρ μ K=>wa ρ μ fun x eF=>wb ρ eF fun y fG=>ro x y fG fun z lS=>match z with
 | .bl k=>if k=true then wc ρ lS fun w' FI=>WJ y w' FI K else K (.bl false) lS
 | _=>False
def OE {op RG:CmpOp}{r r':R2}{ro WJ:wj}{wa wb wc:De}(ho:kg X (compareOp op) r)(x6:kg X (compareOp RG) r')(so:pL r ro)(so':pL r' WJ)(ha:PD X a wa)(hb:PD X b wb)(hc:PD X c wc)
 (hm:lastMarks [op,RG] [b,c]=false:=by with_unfolding_all rfl):PD X (.Compare a [op,RG] [b,c] pos) (SQ ro WJ wa wb wc):=(JZ ho x6 ha hb hc hm).imp fun σ H Q hq=>by
 obtain⟨φ,ρ,μ,K,A,M,k,L⟩:=hq
 refine⟨φ,ρ,μ,_,A,M,k,fun d1 eF eZ v1 H1 k1 f1 M1 i1=>?_⟩
 refine⟨eZ,ρ,eF,_,A.mono f1,M1,k1,fun d2 fG jD v2 H2 k2 f2 M2 i2=>?_⟩
 refine so jD H2 v1 v2 d1 d2 fG _ _ M2 (i1.mono f2) i2 k2 fun d3 lS Ab v3 H3 k3 f3 M3 i3=>?_
 cases d3 with
 | bl k =>
  cases(show v3=_ from i3)
  refine⟨k,rfl,?_⟩
  cases k with
  | false=>exact L _ lS Ab _ H3 k3 (f1.trans (f2.trans f3)) M3 rfl
  | true=>exact⟨Ab,ρ,lS,_,A.mono (f1.trans (f2.trans f3)),M3,k3,fun d4 FI QD v4 H4 k4 f4 M4 i4=>so' QD H4 v2 v4 d2 d4 FI K Q M4 (i2.mono (f3.trans f4)) i4 k4 (L.mono (f1.trans (f2.trans (f3.trans f4))))⟩
 | _=>exact k3.elim
def BG (mg:Str->Option Value)(x:Str)(i:Int):Prop:=∃ t,mg x=some (.int i t)
def Bi {x:Str}{i:Int}(hg:Gl X x)(hm:BG X.mg x i)(hd:(x==("__debug__" : Str))=false:=by decide):PD X (.Name x pos) (dC (.int i)):=by
 obtain⟨t,hm⟩:=hm
 exact(Gm (v:=.int i) hg hm ⟨t,rfl⟩ hd).imp fun σ H Q hq=>by
  obtain⟨φ,ρ,μ,K,A,M,k,L⟩:=hq
  exact L _ _ φ _ H k (.refl _ _) M rfl
structure Tab (P:ae)(w:af)(K:aa)(mg:Str->Option Value)(x:Str)(ts:List (Str×ai)):Prop where
 ex:∃ d,mg x=some (.ref d)/\∀ h:Heap,K.In h->h.DictOf (fK P w) d (ts.map fun p=>(Sum.inr p.1,Value.ref p.2))
def YV (ts:List (Str×ai))(w:De):De:=fun ρ μ K=>w ρ μ fun d eF=>match d with
 | .str z=>∃ a,(ts.find? fun p=>decide (p.1=z)).map (·.2)=some a/\K (.fn a) eF
 | _=>False
def u5 {z:Str}{a:ai}:∀ {ts:List (Str×ai)},(ts.find? fun p=>decide (p.1=z)).map (·.2)=some a->valueAt (ts.map fun p=>((Sum.inr p.1:Key),Value.ref p.2)) (Sum.inr z)=some (.ref a)
 | [],h=>by cases h
 | p::ts,h=>by
  unfold valueAt
  rw[aw,bA]
  rw[bA]at h
  by_cases q:p.1=z
  .rw[ar q]at h
   cases h
   rw[show decide ((Sum.inr p.1:Key)=Sum.inr z)=true from ar (by rw[q])]
   rfl
  .rw[az q]at h
   rw[show decide ((Sum.inr p.1:Key)=Sum.inr z)=false from az fun y=>q (Sum.inr.inj y)]
   exact u5 (ts:=ts) h
def VJ {ts:List (Str×ai)}{x:Str}{w:De}{p:Pos}(T:Tab X.prog X.w X.K X.mg x ts)(hg:Gl X x)(hb:PD X b w)(hs:O7 b)(hd:(x==("__debug__" : Str))=false:=by decide):PD X (.Subscript (.Name x p) b pos) (YV ts w):=by
 intro dA s σ H Q I hq
 obtain⟨φ,ρ,μ,K,A,M,k,L⟩:=hq
 obtain⟨d,hm,T⟩:=T.ex
 refine FT PySem.F.slot_dict_getitem.lookup hs (oI I hg hm ?_ hd)
 refine gc (hb dA s σ H (fun v H1=>∃ z a,v=.str z/\(ts.find? fun p=>decide (p.1=z)).map (·.2)=some a/\Q (.ref a) H1) I ⟨φ,ρ,μ,_,A,M,k,fun d1 eF eZ v1 H1 k1 f1 M1 i1=>?_⟩) fun u s1 pF=>?_
 .cases d1 with
  | str z =>
   cases(show v1=_ from i1)
   obtain⟨a,e,k1⟩:=k1
   exact⟨z,a,rfl,e,L _ eF eZ _ H1 k1 f1 M1 rfl⟩
  | _=>exact k1.elim
 .obtain⟨x,H1,I1,rx,z,a,rfl,e,q⟩:=pF
  have dd:=T _ I1.rN
  obtain⟨ob,_,_,eb,ex,_⟩:=id dd
  exact⟨⟨ob,eb,ex.1⟩,wpAny_getItem_of (tJ (k:=Sum.inr z) rx) dd.mapOf (u5 e) ⟨.ref a,H1,I1.tok _,rfl,q⟩⟩
def tab_of {P:ae}{w:af}{K:aa}{mg:Str->Option Value}{x:Str}{d:ai}{n:Nat}{h:Heap}(es:List (Str×Nat×ai))(X:K.In h)(G:h.Ns mainGlobals mg)(e:W.nsIn K mainGlobals x=some (some (.ref d)))
 (l:K.lookup d=some ⟨.type "dict",none,.dict ((es.map fun p=>jw w.params p.1 p.2.1 (.ref p.2.2)).toArray) n,#[]⟩) (nd:(es.map (·.1)).Nodup):Tab P w K mg x (es.map fun p=>(p.1,p.2.2)):=by
 refine⟨d,b7 X G e,fun h' I=>⟨_,_,_,I _ _ l,⟨rfl,rfl,rfl⟩,rfl,?_,?_,?_⟩⟩
 .intro y hy
  obtain⟨p,_,rfl⟩:=List.mem_map.mp (List.mem_toArray.mp hy)
  exact⟨Sum.inr p.1,uL p.1 p.2.1,rfl⟩
 .clear l nd
  induction es with
  | nil=>exact .nil
  | cons p es ih=>exact .cons (uL p.1 p.2.1) rfl ih
 .rw[aJ,aJ]
  show(List.map ((fun z:Str=>(Sum.inr z:Key)) ∘ fun p:Str×Nat×ai=>p.1) es).Nodup
  rw[<- aJ]
  exact nd.map (f:=fun z:Str=>(Sum.inr z:Key)) fun a b h z=>h (Sum.inr.inj z)
structure O8 (P:ae)(w:af)(K:aa)(mg:Str->Option Value)(dD:Heap)(T:List (ai×i9))(k:Nat)(ps:List Str):Prop where
 ex:∀ p∈T,∃ fd,eV P w K mg dD (nz P w) k p.1 fd ps (kj p.2)/\W.keepIn K (.ref p.1)=true/\Binds K fd ps []
def LF (fh:List ai)(H0:Hp)(Kx:DX)(T:List (ai×i9))(i:Nat)(w:DA):De:=fun ρ μ K=>match ρ[i]? with
 | some (some (.fn a))=>∃ f,(a,f)∈T/\w ρ μ fun ds eF=>eF[0]?=some (.gx fh H0)/\f ds eF K Kx
 | _=>False
def OF {fh:List ai}{H0:Hp}{Kx:DX}{T:List (ai×i9)}{i:Nat}{w:DA}{x:Str}{p:Pos}{k:Nat}{ps:List Str}(Z:Rz X fh H0 Kx)(CV:O8 X.prog X.w X.K X.mg X.dD T k ps)(hr:iz k X.A)(hN:X.N[i]?=some x)(hv:Tb X.env.scope x)(ha:vR X (e::es) w)
 (uN:(x==("__debug__" : Str))=false:=by decide) (zd:(x==("__classdict__" : Str))=false:=by decide) (he:starEach (e::es) X.env=(false,eval e X.env)::starEach es X.env:=by rfl) (lW:(backTo pos (starEach es X.env)).any (·.1)=false:=by rfl) :
 PD X (.Call (.Name x p) (e::es) [] pos) (LF fh H0 Kx T i w):=by
 intro dA s σ H Q I hq
 obtain⟨φ,ρ,μ,K,A,M,k,L⟩:=hq
 obtain⟨E,LX,hp⟩:=Z.ex
 unfold LF at k
 split at k
 .rename_i a ea
  obtain⟨f,hf,k⟩:=k
  obtain⟨v,ev,iv⟩:=A.2 i _ ea
  cases(show v=_ from iv)
  obtain⟨fd,F,hk,hb⟩:=CV.ex _ hf
  refine bW (gc (AB hN hv uN zd dA s σ H (fun u H1=>u=.ref a/\H1=H) I ⟨_,ev,rfl,rfl⟩) fun u s1 pF=>?_)
  obtain⟨x1,H1,I1,r1,rfl,rfl⟩:=pF
  cases r1
  refine W.callWith_K (h₀:=X.dD) I.ok.mod.PZ hk (gc (ha pos dA s1 σ H1 (fun vs H2=>kj f vs H2 Q E) I1 ⟨φ,ρ,μ,_,A,M,k,fun ds eF eZ vs H2 k1 f1 M1 i1=>?_⟩) fun us s2 oN=>?_) he lW
  .exact⟨eZ,ds,eF,K,Kx,i1,M1,k1.2,L.mono f1,LX.mono (M1.Im k1.1)⟩
  .obtain⟨vs,H2,I2,r2,q2⟩:=oN
   exact⟨I2.rN,Av (dvs:=[]) F hr hb .nil hp I2 r2 (by rw[aV];exact q2)⟩
 .exact k.elim
end
section
variable {X:Cx}{a b c e o:Expr}{es:List Expr}{pos fY gE:Pos}
def YX (w:De)(l h:DO):De:=fun ρ μ K=>w ρ μ fun x eF=>l ρ eF fun lo fG=>h ρ fG fun hi lS=>match x with
 | .tup ds=>¬ (HT.iT ds.length 0 lo=0/\HT.iT ds.length ds.length hi=ds.length)/\K (.tup (cutD ds lo hi)) lS
 | _=>False
def qF {lo hi:Option Expr}{w:De}{l h:DO}{p:Pos}(ha:PD X a w)(hl:PO X lo (QM l))(hh:PO X hi (QM h)):PD X (.Subscript a (.Slice lo hi none p) pos) (YX w l h):=(Cn QX ha hl hh).imp fun σ H Q hq=>by
 obtain⟨φ,ρ,μ,K,A,M,k,L⟩:=hq
 refine⟨φ,ρ,μ,_,A,M,k,fun d eF eZ v1 H1 k1 f1 M1 i1=>?_⟩
 refine⟨eZ,ρ,eF,_,A.mono f1,M1,k1,fun lo fG jD H2 k2 f2 M2=>?_⟩
 refine⟨jD,ρ,fG,_,A.mono (f1.trans f2),M2,k2,fun hi lS Ab H3 k3 f3 M3=>?_⟩
 have i3:=i1.mono (f2.trans f3)
 have L3:=L.mono (f1.trans (f2.trans f3))
 split at k3
 .obtain⟨p,vs,rfl,_,hp,ha⟩:=i3
  exact⟨p,vs,rfl,BA.of hp,by rw[ha.len];exact k3.1,fun l hl=>Fl L3 M3 (ha.cut lo hi) k3.2 hl⟩
 .exact k3.elim
def V1 (neg:Bool):wj:=fun x y μ K=>match y with
 | .tup ds=>A4 x=true/\ds.all A4=true/\K (.bl (neg != ds.any fun d=>IV d x)) μ
 | _=>False
def JA {neg:Bool}:pL (Cg neg) (V1 neg):=fun φ H x y dx dy μ K Q M hx hy k L=>by
 unfold V1 at k
 split at k
 .obtain⟨f1,f2,k⟩:=k
  obtain⟨p,vs,rfl,_,hp,ha⟩:=hy
  obtain⟨a,b⟩:=A3 hx f1 ha f2
  have fx:=EX hx f1
  have key:∃ xs,(H p=some (.lst xs)\/H p=some (.tup xs))/\lQ x=true/\xs.all lQ=true/\Q (.bl (neg != R9 x xs)) H:=⟨vs,.inr hp,fx,a,by rw[b];exact L.val M k rfl⟩
  unfold Cg
  cases x <;> exact key
 .exact k.elim
def VR (wd wk:De):De:=fun ρ μ K=>wd ρ μ fun x eF=>match x with
 | .mr j=>(∃ ks ds,eF[j]?=some (.jr ks ds))/\wk ρ eF fun y fG=>∃(kd:List (Key×D)) (k:Key) (d:D),fG[j]?=some (.jr (kd.map (·.1)) (kd.map (·.2)))/\oM y=some k/\qE kd k=some d/\K d (fG.set j (.jr ((kd.filter fun p=>decide (p.1≠k)).map (·.1)) ((kd.filter fun p=>decide (p.1≠k)).map (·.2))))
 | _=>False
def Dx {φ:List ai}{H:Hp}{k:Key}:∀ {kd:List (Key×D)} {kv:List (Key×V)},kv.map (·.1)=kd.map (·.1)->eK φ H (kd.map (·.2)) (kv.map (·.2))->(rO kv k).map (·.1)=(kd.filter fun p=>decide (p.1≠k)).map (·.1)/\eK φ H ((kd.filter fun p=>decide (p.1≠k)).map (·.2)) ((rO kv k).map (·.2))
 | [],kv,e,h=>by
  cases kv with
  | nil=>exact⟨rfl,rfl⟩
  | cons _ _=>cases e
 | p::kd,kv,e,h=>by
  cases kv with
  | nil=>cases e
  | cons q kv =>
   simp only[aw,bU]at e
   obtain⟨v,r,e2,h1,h2⟩:=h
   simp only[aw,bU]at e2
   obtain⟨rfl,rfl⟩:=e2
   obtain⟨g1,g2⟩:=Dx (k:=k) e.2 h2
   unfold rO at g1 g2 ⊢
   rw[bg,bg]
   by_cases z:p.1=k
   .have z2:q.1=k:=by rw[e.1,z]
    rw[aq (by simp[z2]),aq (by simp[z])]
    exact⟨g1,g2⟩
   .have z2:¬ q.1=k:=by rw[e.1];exact z
    rw[au (by simp[z2]),au (by simp[z])]
    exact⟨by rw[aw,aw,g1,e.1],_,_,rfl,h1,g2⟩
def Lr {wd wk:De}(ho:PD X o wd)(he:PD X e wk)(m:M1 X o "pop" fY e gE:=by exact⟨rfl,rfl,rfl,rfl⟩):PD X (.Call (.Attribute o "pop" fY) [e] [] gE) (VR wd wk):=(JV ho he m).imp fun σ H Q hq=>by
 obtain⟨φ,ρ,μ,K,A,M,k,L⟩:=hq
 refine⟨φ,ρ,μ,_,A,M,k,fun d1 eF eZ v1 H1 k1 f1 M1 i1=>?_⟩
 cases d1 with
 | mr j =>
  obtain⟨⟨ks,ds,em⟩,k1⟩:=k1
  obtain⟨p,hp,rfl⟩:=i1
  obtain⟨p',e1,kvs,vs,h1,h2,h3,h4⟩:=M1.at_ j _ em
  rw[hp]at e1;cases e1
  refine⟨p,rfl,.inl ⟨kvs,.inl h1⟩,?_⟩
  refine⟨eZ,ρ,eF,_,A.mono f1,M1,k1,fun d2 fG jD v2 H2 k2 f2 M2 i2=>?_⟩
  obtain⟨kd,k,d,Bc,ek,ed,k2⟩:=k2
  have Oh:=f2.get hp
  obtain⟨p',e1,U5,vs2,g1,g2,g3,g4⟩:=M2.at_ j _ Bc
  rw[Oh]at e1;cases e1
  subst g3
  cases oK ek i2
  have ed':qE ((kd.map (·.1)).zip (kd.map (·.2))) k=some d:=by rw[zip_parts];exact ed
  obtain⟨v,ev,iv⟩:=yq g2 g4 ed'
  refine⟨U5,k,v,g1,rfl,ev,?_⟩
  have f3:Fr jD H2 jD (upd H2 p (.dK (rO U5 k))):=.put (A1 Oh)
  obtain⟨y1,y2⟩:=Dx (k:=k) g2 (g4.mono f3)
  exact L _ _ jD _ _ k2 ((f1.trans f2).trans f3) (M2.put Oh ⟨_,_,eI,y1,rfl,y2⟩) (iv.mono f3)
 | _=>exact k1.elim
end
inductive Pt where
 | fst (b:List Nat) (a:Int)
 | jn (l r:Str) (p:Int)
structure RS where
 n:Int
 dE:List (Str×Pt)
 fI:List (Int×Unit)
inductive Dd where
 | put (nm b:Str) (a:Int) | join (nm l r:Str) (p:Int) | found (nm:Str) (bar:Int) (sg:Str) | mQ (nm:Str) (a:Int) | drop (nm:Str) | free (p:Int) | fI (p:Int)
section
variable {α β:Type}[DecidableEq α]
def d9 (l:List (α×β))(k:α):Option β:=(l.find? fun p=>decide (p.1=k)).map (·.2)
def gF (l:List (α×β))(k:α)(v:β):List (α×β):=if(l.any fun p=>decide (p.1=k))=true then l.map (fun p=>if p.1=k then(p.1,v)else p)else l++[(k,v)]
def iH (l:List (α×β))(k:α):List (α×β):=l.filter fun p=>decide (p.1≠k)
def fP {p:α×β}{l:List (α×β)}{k:α}:d9 (p::l) k=if p.1=k then some p.2 else d9 l k:=by
 unfold d9
 rw[bA]
 by_cases h:p.1=k
 .rw[ar h,au h];rfl
 .rw[az h,aq h]
def mG {l:List (α×β)}{k:α}:(l.any fun p=>decide (p.1=k))=(d9 l k).isSome:=by
 induction l with
 | nil=>rfl
 | cons p l ih =>
  rw[bz,fP,ih]
  by_cases h:p.1=k
  .rw[ar h,au h];rfl
  .rw[az h,aq h];rfl
def nT {l:List (α×β)}{k:α}{v:β}(h:d9 l k=some v):(k,v)∈l:=by
 induction l with
 | nil=>cases h
 | cons p l ih =>
  rw[fP]at h
  by_cases q:p.1=k
  .rw[au q]at h;cases h
   rw[<- q];exact aH
  .rw[aq q]at h;exact oO _ (ih h)
def fO {l:List (α×β)}{k:α}:(d9 l k).isSome=true↔k∈l.map (·.1):=by
 rw[<- mG,List.any_eq_true,List.mem_map]
 constructor
 .rintro⟨p,hp,e⟩;exact⟨p,hp,cU e⟩
 .rintro⟨p,hp,e⟩;exact⟨p,hp,ar e⟩
def gY {l:List (α×β)}{k:α}{v:β}(nd:(l.map (·.1)).Nodup)(h:(k,v)∈l):d9 l k=some v:=by
 induction l with
 | nil=>cases h
 | cons p l ih =>
  rw[aw,List.nodup_cons]at nd
  rw[fP]
  rcases List.mem_cons.mp h with q | q
  .subst q;rw[au rfl]
  .rw[aq]
   .exact ih nd.2 q
   .intro e
    exact nd.1 (by rw[e];exact List.mem_map.mpr ⟨_,q,rfl⟩)
def D1 {l m:List (α×β)}{k:α}:d9 (l++m) k=(d9 l k).or (d9 m k):=by
 induction l with
 | nil=>rfl
 | cons p l ih =>
  rw[c6,fP,fP,ih]
  by_cases q:p.1=k
  .rw[au q,au q];rfl
  .rw[aq q,aq q]
def z6 {l:List (α×β)}{k:α}{v:β}:(gF l k v).map (·.1)=if k∈l.map (·.1)then l.map (·.1)else l.map (·.1)++[k]:=by
 unfold gF
 have e:((l.any fun p=>decide (p.1=k))=true)↔k∈l.map (·.1):=by rw[mG];exact fO
 by_cases h:k∈l.map (·.1)
 .rw[au (e.mpr h),au h,aJ]
  refine cb fun p _=>?_
  simp only[Function.comp]
  split <;> rfl
 .rw[aq (fun z=>h (e.mp z)),aq h,aF];rfl
def nS {l:List (α×β)}{k j:α}{v:β}:d9 (gF l k v) j=if j=k then some v else d9 l j:=by
 unfold gF
 split
 .rename_i h
  induction l with
  | nil=>cases h
  | cons p l ih =>
   rw[aw,fP,fP]
   by_cases q:p.1=k
   .rw[au q]
    by_cases z:j=k
    .rw[au z,au (by show p.1=j;rw[q,z])]
    .rw[aq z,aq (show ¬ p.1=j from fun y=>z (by rw[<- y,q])),aq (fun y=>z (by rw[<- y,q]))]
     clear ih h
     induction l with
     | nil=>rfl
     | cons r l ih =>
      rw[aw,fP,fP,ih]
      by_cases y:r.1=k
      .rw[au y,aq (show ¬ r.1=j from fun x=>z (by rw[<- x,y])),aq (fun x=>z (by rw[<- x,y]))]
      .rw[aq y]
   .rw[aq q]
    have h':(l.any fun p=>decide (p.1=k))=true:=by
     rw[bz,az q]at h;exact h
    rw[ih h']
    by_cases z:j=k
    .rw[au z,aq (fun y=>q (by rw[y,z])),au z]
    .rw[aq z,aq z]
 .rename_i h
  rw[D1]
  have hn:d9 l k=none:=by
   cases e:d9 l k with
   | none=>rfl
   | some x=>exact absurd (by rw[mG,e];rfl) h
  by_cases z:j=k
  .subst z;rw[au rfl,hn,fP,au rfl];rfl
  .rw[aq z,fP,aq (fun y=>z y.symm)]
   cases d9 l j <;> rfl
def z7 {l:List (α×β)}{k j:α}(h:j≠k):d9 (iH l k) j=d9 l j:=by
 unfold iH
 induction l with
 | nil=>rfl
 | cons p l ih =>
  rw[bg,fP]
  by_cases q:p.1=k
  .rw[aq (by simp[q]),ih,aq (fun y=>h (by rw[<- y,q]))]
  .rw[au (by simp[q]),fP,ih]
end
def eS (z:Str):Key:=Sum.inr z
def lG (i:Int):Key:=Sum.inl i
def eE:∀ a b,eS a=eS b->a=b:=fun _ _ h=>Sum.inr.inj h
def jq:∀ a b,lG a=lG b->a=b:=fun _ _ h=>Sum.inl.inj h
def rn {α β:Type}(κ:α->Key)(f:β->D)(l:List (α×β)):D:=.mE (l.map fun p=>κ p.1) (l.map fun p=>f p.2)
def xb {α β γ:Type}(f:α->β)(g:α->γ):∀ l:List α,(l.map f).zip (l.map g)=l.map fun a=>(f a,g a)
 | []=>rfl
 | a::l=>by rw[aw,aw,dm,xb f g l];rfl
section
variable {α β:Type}[DecidableEq α]{κ:α->Key}(hi:∀ a b,κ a=κ b->a=b)(f:β->D)
include hi
def Bd (k:α):∀ l:List (α×β),qE (l.map fun p=>(κ p.1,f p.2)) (κ k)=(d9 l k).map f
 | []=>rfl
 | p::l=>by
  have ih:=Bd k l
  rw[fP]
  unfold qE at ih ⊢
  rw[aw,bA]
  by_cases h:p.1=k
  .rw[show decide ((κ p.1,f p.2).1=κ k)=true from ar (by rw[h]),au h];rfl
  .rw[show decide ((κ p.1,f p.2).1=κ k)=false from az fun z=>h (hi _ _ z),aq h];exact ih
def Fd (k:α)(v:β)(l:List (α×β)):dput (l.map fun p=>(κ p.1,f p.2)) (κ k) (f v)=(gF l k v).map fun p=>(κ p.1,f p.2):=by
 have e:((l.map fun p=>(κ p.1,f p.2)).any fun kv=>decide (kv.1=κ k))=l.any fun p=>decide (p.1=k):=by
  rw[List.any_map]
  congr 1
  funext p
  show decide (κ p.1=κ k)=_
  by_cases h:p.1=k
  .rw[ar h,ar (by rw[h])]
  .rw[az h,az (fun z=>h (hi _ _ z))]
 unfold dput gF
 rw[e]
 split
 .rw[aJ,aJ]
  refine cb fun p _=>?_
  show(if κ p.1=κ k then(κ p.1,f v)else(κ p.1,f p.2))=_
  simp only[Function.comp]
  by_cases h:p.1=k
  .rw[au h,au (by rw[h])]
  .rw[aq h,aq (fun z=>h (hi _ _ z))]
 .rw[aF];rfl
def GQ (k:α)(l:List (α×β)):((l.map fun p=>(κ p.1,f p.2)).filter fun p=>decide (p.1≠κ k))=(iH l k).map fun p=>(κ p.1,f p.2):=by
 unfold iH
 rw[List.filter_map]
 congr 1
 refine List.filter_congr fun p _=>?_
 show decide (κ p.1≠κ k)=_
 by_cases h:p.1=k
 .rw[az (by simp[h]),az (by simp[h])]
 .rw[ar (show κ p.1≠κ k from fun z=>h (hi _ _ z)),ar h]
def ib {d:D}(k:α)(l:List (α×β))(hd:oM d=some (κ k)):Oe (l.map fun p=>κ p.1) (l.map fun p=>f p.2) d=some ((d9 l k).map f):=by
 unfold Oe
 rw[hd]
 show some (qE _ (κ k))=_
 rw[xb,Bd hi]
def vp {d:D}(k:α)(l:List (α×β))(hd:oM d=some (κ k)){μ:MS}{j:Nat}(h:vZ μ j=some (l.map (fun p=>κ p.1),l.map fun p=>f p.2)):Qa μ j d=some ((d9 l k).map f):=by
 unfold Qa
 rw[h]
 show(oM d).map _=_
 rw[hd]
 show some (qE _ (κ k))=_
 rw[xb,Bd hi]
end
def IC {γ:Type}(gf:Str->List Nat->Int->γ)(gj:γ->γ->Int->γ)(z:γ)(dE:List (Str×Pt)):Nat->Str->γ
 | 0,_=>z
 | f+1,nm=>match d9 dE nm with
  | some (.fst b a)=>gf nm b a
  | some (.jn l r p)=>gj (IC gf gj z dE f l) (IC gf gj z dE f r) p
  | none=>z
def iZ (dE:List (Str×Pt))(nm:Str):Nat:=(dE.map (·.1)).idxOf nm
structure Aa (dE:List (Str×Pt)):Prop where
 nd:(dE.map (·.1)).Nodup
 low:∀ nm l r p,d9 dE nm=some (.jn l r p)->iZ dE l<iZ dE nm/\iZ dE r<iZ dE nm
def sy {dE:List (Str×Pt)}{nm:Str}:iZ dE nm<dE.length↔nm∈dE.map (·.1):=by
 unfold iZ
 rw[show dE.length=(dE.map (·.1)).length from(fH _).symm]
 exact List.idxOf_lt_length_iff
def Aa.there {dE:List (Str×Pt)}(h:Aa dE){nm l r:Str}{p:Int}(e:d9 dE nm=some (.jn l r p)):(∃ x,d9 dE l=some x)/\∃ x,d9 dE r=some x:=by
 have hn:iZ dE nm<dE.length:=sy.mpr (fO.mp (by rw[e];rfl))
 obtain⟨h1,h2⟩:=h.low nm l r p e
 exact⟨Option.isSome_iff_exists.mp (fO.mpr (sy.mp (by lia))),Option.isSome_iff_exists.mp (fO.mpr (sy.mp (by lia)))⟩
section
variable {γ:Type}{gf:Str->List Nat->Int->γ}{gj:γ->γ->Int->γ}{z:γ}{dE:List (Str×Pt)}
def Dv (h:Aa dE):∀(f:Nat) (nm:Str),iZ dE nm<f->f<=dE.length->IC gf gj z dE f nm=IC gf gj z dE dE.length nm:=by
 have key:∀(i f g:Nat) (nm:Str),iZ dE nm=i->i<f->i<g->IC gf gj z dE f nm=IC gf gj z dE g nm:=by
  intro i
  induction i using Nat.strongRecOn with
  | ind i ih =>
   intro f g nm hi hf hg
   obtain⟨f,rfl⟩:∃ f',f=f'+1:=⟨f - 1,by lia⟩
   obtain⟨g,rfl⟩:∃ g',g=g'+1:=⟨g - 1,by lia⟩
   unfold IC
   cases e:d9 dE nm with
   | none=>rfl
   | some x =>
    cases x with
    | fst b a=>rfl
    | jn l r p =>
     obtain⟨h1,h2⟩:=h.low nm l r p e
     dsimp only
     rw[ih _ (by lia) f g l rfl (by lia) (by lia),ih _ (by lia) f g r rfl (by lia) (by lia)]
 intro f nm h1 h2
 exact key _ f dE.length nm rfl h1 (by lia)
def ev (gf:Str->List Nat->Int->γ)(gj:γ->γ->Int->γ)(z:γ)(dE:List (Str×Pt))(nm:Str):γ:=IC gf gj z dE dE.length nm
def Ba {nm:Str}{b:List Nat}{a:Int}(e:d9 dE nm=some (.fst b a)):ev gf gj z dE nm=gf nm b a:=by
 have hn:iZ dE nm<dE.length:=sy.mpr (fO.mp (by rw[e];rfl))
 unfold ev
 obtain⟨m,hm⟩:∃ m,dE.length=m+1:=⟨dE.length - 1,by lia⟩
 rw[hm]
 unfold IC
 rw[e]
def GO (h:Aa dE){nm l r:Str}{p:Int}(e:d9 dE nm=some (.jn l r p)):ev gf gj z dE nm=gj (ev gf gj z dE l) (ev gf gj z dE r) p:=by
 have hn:iZ dE nm<dE.length:=sy.mpr (fO.mp (by rw[e];rfl))
 obtain⟨h1,h2⟩:=h.low nm l r p e
 obtain⟨m,hm⟩:∃ m,dE.length=m+1:=⟨dE.length - 1,by lia⟩
 have e1:=Dv (gf:=gf) (gj:=gj) (z:=z) h m l (by lia) (by lia)
 have e2:=Dv (gf:=gf) (gj:=gj) (z:=z) h m r (by lia) (by lia)
 have e3:IC gf gj z dE (m+1) nm=gj (IC gf gj z dE m l) (IC gf gj z dE m r) p:=by
  conv=>lhs;unfold IC
  rw[e]
 unfold ev
 rw[<- e1,<- e2,<- e3,<- hm]
def E9 (h:Aa dE)(P:Str->Prop)(hf:∀ nm b a,d9 dE nm=some (.fst b a)->P nm)(hj:∀ nm l r p,d9 dE nm=some (.jn l r p)->P l->P r->P nm):∀ nm x,d9 dE nm=some x->P nm:=by
 have key:∀(i:Nat) (nm:Str) (x:Pt),iZ dE nm=i->d9 dE nm=some x->P nm:=by
  intro i
  induction i using Nat.strongRecOn with
  | ind i ih =>
   intro nm x hi e
   cases x with
   | fst b a=>exact hf nm b a e
   | jn l r p =>
    obtain⟨h1,h2⟩:=h.low nm l r p e
    obtain⟨⟨y,ey⟩,⟨w,ew⟩⟩:=h.there e
    exact hj nm l r p e (ih _ (by lia) l y rfl ey) (ih _ (by lia) r w rfl ew)
 exact fun nm x e=>key _ nm x rfl e
end
def gq (dE:List (Str×Pt))(nm:Str):List Nat×Int:=ev (fun _ b a=>(b,a)) (fun x y p=>(Ic x.1 y.1 p,max x.2 y.2+1)) ([],0) dE nm
def gC (dE:List (Str×Pt))(nm:Str):Int->Str×Nat:=ev (fun nm _ _ _=>(nm,0)) (fun x y p bar=>if bar<p then((x bar).1,(x bar).2+1)else((y bar).1,(y bar).2+1)) (fun _=>("",0)) dE nm
def gB (z:Str):Bool:=decide (1<=z.length)&&decide (z.length<=8)&&z.cps.toList.all fun c=>decide (97<=c)&&decide (c<=122)
def BO (z:Str):Bool:=z.cps.toList.all fun c=>decide (c=111)||decide (c=120)
def gR (S:RS)(nm:Str):Bool:=(d9 S.dE nm).isSome
def hJ (nm:Str):Pt->Bool
 | .fst _ _=>false
 | .jn l r _=>decide (l=nm)||decide (r=nm)
def lP (S:RS)(nm:Str):Bool:=S.dE.any fun p=>hJ nm p.2
def jL (S:RS)(nm:Str):Option Nat:=if gB nm=false then some 4 else if gR S nm=true then some 9 else if 20<=S.dE.length then some 10 else none
def gu (S:RS)(p:Int):Option Nat:=if 1<=p/\p<S.n then none else some 7
def kL (a:Int):Option Nat:=if 0<=a/\a<=20 then none else some 5
def my (S:RS):Dd->Option Nat
 | .put nm b a=>(jL S nm).or (if((b.length:Nat):Int)=S.n/\BO b=true then kL a else some 0)
 | .join nm l r p=>(jL S nm).or (if gR S l=false then some 11 else if gR S r=false then some 11 else(gu S p).or (if(d9 S.fI p).isSome=true then some 12 else none))
 | .found nm bar sg=>if gR S nm=false then some 11 else if 0<=bar/\bar<S.n then(if sg = "o"\/sg = "x" then none else some 0)else some 6
 | .mQ nm a=>match d9 S.dE nm with
  | none=>some 11
  | some (.jn _ _ _)=>some 13
  | some (.fst _ _)=>kL a
 | .drop nm=>if gR S nm=false then some 11 else if lP S nm=true then some 14 else none
 | .free p=>gu S p
 | .fI p=>gu S p
def vt (b:List Nat)(bar:Int)(sg:Str):List Nat:=b.take bar.toNat++(sg.cps.toList++b.drop (bar.toNat+1))
def ET (dE:List (Str×Pt))(nm:Str)(bar:Int)(sg:Str):List (Str×Pt):=match d9 dE nm with
 | some (.fst b a)=>gF dE nm (.fst (vt b bar sg) a)
 | _=>dE
def pH (S:RS):Dd->RS
 | .put nm b a=>{ S with dE:=gF S.dE nm (.fst b.cps.toList a)}
 | .join nm l r p=>{ S with dE:=gF S.dE nm (.jn l r p)}
 | .found nm bar sg=>{ S with dE:=ET S.dE (gC S.dE nm bar).1 bar sg}
 | .mQ nm a=>match d9 S.dE nm with
  | some (.fst b _)=>{ S with dE:=gF S.dE nm (.fst b a)}
  | _=>S
 | .drop nm=>{ S with dE:=iH S.dE nm}
 | .free p=>{ S with fI:=iH S.fI p}
 | .fI p=>{ S with fI:=gF S.fI p ()}
structure pR (S:RS)(m:Nat):Prop where
 n1:1<=S.n
 n2:S.n<=40
 kp:Aa S.dE
 kX:S.dE.length<=20
 fs:∀ nm b a,d9 S.dE nm=some (.fst b a)->(b.length:Int)=S.n/\OX b/\0<=a/\a<=20
 js:∀ nm l r p,d9 S.dE nm=some (.jn l r p)->1<=p/\p<S.n
 PU:∀ p∈S.dE,gB p.1=true
 shl:S.fI.length<=m
 Q0:(S.fI.map (·.1)).Nodup
def tN {l:List (Str×Pt)}{x:Str×Pt}{nm:Str}(h:nm∈l.map (·.1)):iZ (l++[x]) nm=iZ l nm:=by
 unfold iZ
 rw[aF,cx,au h]
def Of {l:List (Str×Pt)}{x:Str×Pt}(h:x.1∉l.map (·.1)):iZ (l++[x]) x.1=l.length:=by
 unfold iZ
 rw[aF,cx,aq h,aw,bI,show(x.1==x.1)=true from cF _,fH]
 simp
def sA {p:Str->Bool}{a b:Str}:∀ {l:List Str},p a=true->p b=true->l.idxOf a<l.idxOf b->(l.filter p).idxOf a<(l.filter p).idxOf b
 | [],_,_,h=>by simp at h
 | x::t,ha,hb,h=>by
  by_cases e1:x=a
  .subst e1
   have e2:¬ x=b:=fun e2=>by subst e2;exact absurd h (bB _)
   rw[bg,au ha,bI,bI,show(x==x)=true from cF _,show(x==b)=false from df e2]
   simp
  .have e2:¬ x=b:=fun e2=>by
    subst e2
    rw[bI,bI,show(x==x)=true from cF _]at h
    simp at h
   rw[bI,bI,show(x==a)=false from df e1,show(x==b)=false from df e2]at h
   have h':t.idxOf a<t.idxOf b:=by simpa using h
   have ih:=sA ha hb h'
   rw[bg]
   split
   .rw[bI,bI,show(x==a)=false from df e1,show(x==b)=false from df e2]
    simpa using ih
   .exact ih
def Aa.push {l:List (Str×Pt)}(h:Aa l){nm:Str}{x:Pt}(hn:nm∉l.map (·.1))(hx:∀ a b p,x=.jn a b p->a∈l.map (·.1)/\b∈l.map (·.1)):Aa (l++[(nm,x)]):=by
 refine⟨?_,fun z a b p e=>?_⟩
 .rw[aF,bL]
  exact⟨h.nd,by simp,fun a ha b hb e=>by rw[aw,List.map_nil,List.mem_singleton]at hb;have hb:b=nm:=hb;exact hn (by rw[<- hb,<- e];exact ha)⟩
 .rw[D1]at e
  cases q:d9 l z with
  | some y =>
   rw[q]at e
   cases e
   obtain⟨h1,h2⟩:=h.low z a b p q
   have hz:=fO.mp (show(d9 l z).isSome=true by rw[q];rfl)
   obtain⟨⟨y1,e1⟩,⟨y2,e2⟩⟩:=h.there q
   rw[tN hz,tN (fO.mp (by rw[e1];rfl)),tN (fO.mp (by rw[e2];rfl))]
   exact⟨h1,h2⟩
  | none =>
   rw[q]at e
   have e':d9 [(nm,x)] z=some (.jn a b p):=e
   rw[fP]at e'
   split at e'
   .rename_i y
    have y:nm=z:=y
    subst y
    have e3:x=.jn a b p:=aS e'
    obtain⟨h1,h2⟩:=hx a b p e3
    have en:=Of (x:=(nm,x)) hn
    rw[show iZ (l++[(nm,x)]) nm=l.length from en,tN h1,tN h2]
    exact⟨sy.mpr h1,sy.mpr h2⟩
   .cases e'
def Aa.same {l l':List (Str×Pt)}(h:Aa l)(hk:l'.map (·.1)=l.map (·.1))(hx:∀ z a b p,d9 l' z=some (.jn a b p)->d9 l z=some (.jn a b p)):Aa l':=by
 refine⟨by rw[hk];exact h.nd,fun z a b p e=>?_⟩
 unfold iZ
 rw[hk]
 exact h.low z a b p (hx z a b p e)
def Aa.drop {l:List (Str×Pt)}(h:Aa l){nm:Str}(hx:∀ z a b p,d9 l z=some (.jn a b p)->a≠nm/\b≠nm):Aa (iH l nm):=by
 have hk:(iH l nm).map (·.1)=(l.map (·.1)).filter fun z=>decide (z≠nm):=by
  unfold iH
  rw[List.filter_map]
  rfl
 refine⟨by rw[hk];exact h.nd.sublist (List.filter_sublist),fun z a b p e=>?_⟩
 have hz:z≠nm:=fun y=>by
  subst y
  have:=nT e
  unfold iH at this
  rw[List.mem_filter]at this
  simpa using this.2
 rw[z7 hz]at e
 obtain⟨h1,h2⟩:=h.low z a b p e
 obtain⟨n1,n2⟩:=hx z a b p e
 unfold iZ at h1 h2 ⊢
 rw[hk]
 exact⟨sA (ar n1) (ar hz) h1,sA (ar n2) (ar hz) h2⟩
def nR {α β:Type}[DecidableEq α]{l:List (α×β)}{k:α}{v:β}(h:d9 l k=none):gF l k v=l++[(k,v)]:=by
 unfold gF
 rw[aq]
 rw[mG,h]
 exact aK
def Ma {α β:Type}[DecidableEq α]{l:List (α×β)}{k:α}{v:β}:(gF l k v).length<=l.length+1:=by
 unfold gF
 split
 .rw[fH];lia
 .rw[j3,aN];exact aj _
def DY {α β:Type}[DecidableEq α]{l:List (α×β)}{k:α}{v x:β}(h:d9 l k=some x):(gF l k v).map (·.1)=l.map (·.1)/\(gF l k v).length=l.length:=by
 have:k∈l.map (·.1):=fO.mp (by rw[h];rfl)
 have e:=z6 (l:=l) (k:=k) (v:=v)
 rw[au this]at e
 exact⟨e,by have:=bx List.length e;rwa [fH,fH]at this⟩
def Ot {S:RS}{nm:Str}(h:gR S nm=false):d9 S.dE nm=none:=by
 unfold gR at h
 cases e:d9 S.dE nm with
 | none=>rfl
 | some x=>rw[e]at h;cases h
def nO {S:RS}{nm:Str}(h:¬ gR S nm=false):∃ x,d9 S.dE nm=some x:=by
 unfold gR at h
 cases e:d9 S.dE nm with
 | none=>rw[e]at h;exact absurd rfl h
 | some x=>exact⟨x,rfl⟩
def rj {S:RS}{nm:Str}(h:jL S nm=none):gB nm=true/\d9 S.dE nm=none/\S.dE.length<20:=by
 unfold jL at h
 split at h
 .cases h
 .rename_i h1
  split at h
  .cases h
  .rename_i h2
   split at h
   .cases h
   .rename_i h3
    exact⟨by cases e:gB nm with | true=>rfl | false=>exact absurd e h1,Ot (by cases e:gR S nm with | false=>rfl | true=>exact absurd e h2),by lia⟩
def or_none {α:Type}{a b:Option α}(h:a.or b=none):a=none/\b=none:=by
 cases a with
 | none=>exact⟨rfl,h⟩
 | some x=>cases h
def mZ {S:RS}{p:Int}(h:gu S p=none):1<=p/\p<S.n:=by
 unfold gu at h
 split at h
 .assumption
 .cases h
def rE {a:Int}(h:kL a=none):0<=a/\a<=20:=by
 unfold kL at h
 split at h
 .assumption
 .cases h
def Ry {z:Str}(h:BO z=true):OX z.cps.toList:=fun c hc=>by
 have:=List.all_eq_true.mp h c hc
 rcases Bool.or_eq_true_iff.mp this with q | q
 .exact .inl (cU q)
 .exact .inr (cU q)
def Ag {dE:List (Str×Pt)}(h:Aa dE)(bar:Int):∀ nm x,d9 dE nm=some x->∃ b a,d9 dE (gC dE nm bar).1=some (.fst b a):=by
 refine E9 h (fun nm=>∃ b a,d9 dE (gC dE nm bar).1=some (.fst b a)) (fun nm b a e=>?_) (fun nm l r p e h1 h2=>?_)
 .unfold gC;rw[Ba e];exact⟨b,a,e⟩
 .unfold gC
  rw[GO h e]
  show ∃ b a,d9 dE (if bar<p then _ else _:Str×Nat).1=_
  split
  .exact h1
  .exact h2
def Iq {b:List Nat}{bar n:Int}{sg:Str}(hb:(b.length:Int)=n)(h0:0<=bar)(h1:bar<n)(hs:sg.cps.toList.length=1):((vt b bar sg).length:Int)=n:=by
 unfold vt
 rw[j3,j3,aM,bC,hs]
 lia
def K2 {b:List Nat}{bar:Int}{sg:Str}(hb:OX b)(hs:OX sg.cps.toList):OX (vt b bar sg):=fun c hc=>by
 unfold vt at hc
 rcases List.mem_append.mp hc with q | q
 .exact hb c (aX q)
 .rcases List.mem_append.mp q with q | q
  .exact hs c q
  .exact hb c (List.mem_of_mem_drop q)
def Er {sg:Str}(h:sg = "o"\/sg = "x"):OX sg.cps.toList/\sg.cps.toList.length=1:=by
 rcases h with rfl | rfl
 .exact⟨OX.of (by decide +kernel),rfl⟩
 .exact⟨OX.of (by decide +kernel),rfl⟩
def pR.again {S:RS}{m:Nat}(h:pR S m){nm:Str}{b b':List Nat}{a a':Int}(e:d9 S.dE nm=some (.fst b a))(hb:(b'.length:Int)=S.n)(ho:OX b')(h0:0<=a')(h1:a'<=20):pR { S with dE:=gF S.dE nm (.fst b' a')} (m+1):=by
 obtain⟨k1,k2⟩:=DY (v:=Pt.fst b' a') e
 refine⟨h.n1,h.n2,h.kp.same k1 fun z a b p q=>?_,by show(gF _ _ _).length<=20;rw[k2];exact h.kX,fun z b a q=>?_,fun z l r p q=>?_,fun p hp=>?_,bF h.shl,h.Q0⟩
 .rw[nS]at q;split at q
  .cases q
  .exact q
 .have q:d9 (gF S.dE nm (.fst b' a')) z=some (.fst b a):=q
  rw[nS]at q;split at q
  .cases q;exact⟨hb,ho,h0,h1⟩
  .exact h.fs z b a q
 .have q:d9 (gF S.dE nm (.fst b' a')) z=some (.jn l r p):=q
  rw[nS]at q;split at q
  .cases q
  .exact h.js z l r p q
 .have:p.1∈(gF S.dE nm (.fst b' a')).map (·.1):=List.mem_map.mpr ⟨p,hp,rfl⟩
  rw[k1]at this
  obtain⟨q,hq,e2⟩:=List.mem_map.mp this
  rw[<- e2];exact h.PU q hq
def pR.more {S:RS}{m:Nat}(h:pR S m){nm:Str}{x:Pt}(hn:jL S nm=none)(hx:∀ a b p,x=.jn a b p->(∃ y,d9 S.dE a=some y)/\(∃ y,d9 S.dE b=some y)/\1<=p/\p<S.n)(hf:∀ b a,x=.fst b a->(b.length:Int)=S.n/\OX b/\0<=a/\a<=20):pR { S with dE:=gF S.dE nm x} (m+1):=by
 obtain⟨n1,n2,n3⟩:=rj hn
 have e:=nR (v:=x) n2
 rw[e]
 have Eg:nm∉S.dE.map (·.1):=fun z=>by have:=fO.mpr z;rw[n2]at this;cases this
 have get:∀ z y,d9 (S.dE++[(nm,x)]) z=some y->d9 S.dE z=some y\/(z=nm/\y=x):=fun z y q=>by
  rw[<- e,nS]at q
  split at q
  .rename_i w;exact .inr ⟨w,(aS q).symm⟩
  .exact .inl q
 refine⟨h.n1,h.n2,h.kp.push Eg fun a b p q=>?_,by show(S.dE++[(nm,x)]).length<=20;rw[j3,aN];lia,fun z b a q=>?_,fun z l r p q=>?_,fun p hp=>?_,bF h.shl,h.Q0⟩
 .obtain⟨⟨y,e1⟩,⟨w,e2⟩,_⟩:=hx a b p q
  exact⟨fO.mp (by rw[e1];rfl),fO.mp (by rw[e2];rfl)⟩
 .rcases get z _ q with q | ⟨_,q⟩
  .exact h.fs z b a q
  .exact hf b a q.symm
 .rcases get z _ q with q | ⟨_,q⟩
  .exact h.js z l r p q
  .exact(hx l r p q.symm).2.2
 .rcases List.mem_append.mp hp with q | q
  .exact h.PU p q
  .rw[List.mem_singleton.mp q];exact n1
def pR.do {S:RS}{m:Nat}{d:Dd}(h:pR S m)(hr:my S d=none):pR (pH S d) (m+1):=by
 cases d with
 | put nm b a =>
  obtain⟨h1,h2⟩:=or_none hr
  split at h2
  .rename_i q
   obtain⟨a0,a1⟩:=rE h2
   exact h.more h1 (fun _ _ _ e=>by cases e) fun b' a' e=>by cases e;exact⟨q.1,Ry q.2,a0,a1⟩
  .cases h2
 | join nm l r p =>
  obtain⟨h1,h2⟩:=or_none hr
  split at h2
  .cases h2
  .rename_i q1
   split at h2
   .cases h2
   .rename_i q2
    obtain⟨h3,_⟩:=or_none h2
    obtain⟨p1,p2⟩:=mZ h3
    exact h.more h1 (fun a b p' e=>by cases e;exact⟨nO q1,nO q2,p1,p2⟩) fun _ _ e=>by cases e
 | found nm bar sg =>
  have hr:(if gR S nm=false then some 11 else if 0<=bar/\bar<S.n then(if sg = "o"\/sg = "x" then none else some 0)else some 6)=(none:Option Nat):=hr
  split at hr
  .cases hr
  .rename_i q1
   split at hr
   .rename_i q2
    split at hr
    .rename_i q3
     obtain⟨x,ex⟩:=nO q1
     obtain⟨b,a,e⟩:=Ag h.kp bar nm x ex
     obtain⟨f1,f2,f3,f4⟩:=h.fs _ b a e
     obtain⟨o1,o2⟩:=Er q3
     have:=h.again e (Iq f1 q2.1 q2.2 o2) (K2 (bar:=bar) f2 o1) f3 f4
     unfold pH ET
     dsimp only
     rw[e]
     exact this
    .cases hr
   .cases hr
 | mQ nm a =>
  have hr:(match d9 S.dE nm with | none=>some 11 | some (.jn _ _ _)=>some 13 | some (.fst _ _)=>kL a)=(none:Option Nat):=hr
  show pR (match d9 S.dE nm with | some (.fst b _)=>{ S with dE:=gF S.dE nm (.fst b a)} | _=>S) _
  cases e:d9 S.dE nm with
  | none=>rw[e]at hr;cases hr
  | some x =>
   rw[e]at hr
   cases x with
   | jn l r p=>cases hr
   | fst b a0 =>
    obtain⟨a1,a2⟩:=rE hr
    obtain⟨f1,f2,_⟩:=h.fs nm b a0 e
    exact h.again e f1 f2 a1 a2
 | drop nm =>
  have hr:(if gR S nm=false then some 11 else if lP S nm=true then some 14 else none)=(none:Option Nat):=hr
  split at hr
  .cases hr
  .split at hr
   .cases hr
   .rename_i q
    have hx:∀ z a b p,d9 S.dE z=some (.jn a b p)->a≠nm/\b≠nm:=fun z a b p e=>by
     have nq:¬ hJ nm (.jn a b p)=true:=fun y=>q (List.any_eq_true.mpr ⟨_,nT e,y⟩)
     exact⟨fun y=>nq (by show(decide (a=nm)||decide (b=nm))=true;rw[ar y];rfl),fun y=>nq (by show(decide (a=nm)||decide (b=nm))=true;rw[ar y,Bool.or_true])⟩
    have get:∀ z y,d9 (iH S.dE nm) z=some y->d9 S.dE z=some y:=fun z y e=>by
     by_cases hz:z=nm
     .subst hz
      have:=nT e
      unfold iH at this
      rw[List.mem_filter]at this
      exact absurd this.2 (by simp)
     .rw[z7 hz]at e;exact e
    refine⟨h.n1,h.n2,h.kp.drop hx,aE (bM _ _) h.kX,fun z b a e=>h.fs z b a (get z _ e),fun z l r p e=>h.js z l r p (get z _ e),fun p hp=>h.PU p (List.mem_filter.mp hp).1,bF h.shl,h.Q0⟩
 | free p=>exact⟨h.n1,h.n2,h.kp,h.kX,h.fs,h.js,h.PU,bF (aE (bM _ _) h.shl),h.Q0.sublist (List.Sublist.map _ List.filter_sublist)⟩
 | fI p=>exact⟨h.n1,h.n2,h.kp,h.kX,h.fs,h.js,h.PU,aE Ma (Nat.succ_le_succ h.shl),by
  show((gF S.fI p ()).map (·.1)).Nodup
  rw[z6]
  split
  .exact h.Q0
  .rename_i q
   rw[bL]
   exact⟨h.Q0,by simp,fun a ha b hb e=>q (by rw[<- List.mem_singleton.mp hb,<- e];exact ha)⟩⟩
def ny:Pt->D
 | .fst _ _=>.gy
 | .jn l r p=>.tup [.str l,.str r,.int p]
def K7:Str×Pt->Option (Str×Tk)
 | (nm,.fst b a)=>some (nm,(b,a))
 | (_,.jn _ _ _)=>none
def eR (dE:List (Str×Pt)):List (Str×Tk):=dE.filterMap K7
def Ng (sh:List (Int×Unit)):D:=rn lG (fun _=>.bl true) sh
def Mx:List Str:=["length", "made_of", "firsts", "closed"]
def mT (cS:ai)(S:RS):D:=.obj cS Mx [.int S.n,rn eS ny S.dE,rn eS kh (eR S.dE),Ng S.fI]
def kZ:Dd->D
 | .put nm b a=>.tup [.str "put",.str nm,.str b,.int a]
 | .join nm l r p=>.tup [.str "join",.str nm,.str l,.str r,.int p]
 | .found nm bar sg=>.tup [.str "found",.str nm,.int bar,.str sg]
 | .mQ nm a=>.tup [.str "aged",.str nm,.int a]
 | .drop nm=>.tup [.str "drop",.str nm]
 | .free p=>.tup [.str "free",.int p]
 | .fI p=>.tup [.str "shut",.int p]
def SD:Dd->Nat
 | .put _ _ _=>0 | .join _ _ _ _=>1 | .found _ _ _=>2 | .mQ _ _=>3 | .drop _=>4 | .free _=>5 | .fI _=>6
def Bg:Dd->Prop
 | .put nm b _=>nm.length<=1000/\b.length<=1000
 | .join nm _ _ _=>nm.length<=1000
 | _=>True
def wC (cs:List ai)(K:DK)(Kx:DX)(o:Option Nat)(d:D)(μ:MS):Prop:=match o with
 | some i=>Kx (.ref (cs.getD i 0)) μ
 | none=>K d μ
def Dh:jJ:=fun ds μ K=>match ds with
 | [.mE ks es,y,v]=>∃(kd:List (Key×D)) (k:Key),ks=kd.map (·.1)/\es=kd.map (·.2)/\kd.length<=100000/\oM y=some k/\K (.mE ((dput kd k v).map (·.1)) ((dput kd k v).map (·.2))) μ
 | _=>False
def qw:jJ:=fun ds μ K=>match ds with
 | [.mE ks es,y]=>∃(kd:List (Key×D)) (k:Key),ks=kd.map (·.1)/\es=kd.map (·.2)/\kd.length<=100000/\(kd.map (·.1)).Nodup/\oM y=some k/\(∀ p∈kd,(∃ i j,p.1=lG i/\k=lG j)\/∃ i j,p.1=eS i/\k=eS j)/\K (.mE ((kd.filter fun p=>decide (p.1≠k)).map (·.1)) ((kd.filter fun p=>decide (p.1≠k)).map (·.2))) μ
 | _=>False
def t6:jJ:=fun ds μ K=>match ds with
 | [.int n,.str z]=>z.length<=1000/\K (.bl (decide (((z.length:Nat):Int)=n/\BO z=true))) μ
 | _=>False
def yg (cS:ai)(cs:List ai):i9:=fun ds μ K Kx=>match ds with
 | [x,.str nm]=>(∃ m,μ[0]?=some m)/\∃ S,x=mT cS S/\(match d9 S.dE nm with | some _=>K .gy μ | none=>Kx (.ref (cs.getD 11 0)) μ)
 | _=>False
def E5 {cS:ai}{cs:List ai}{ds:List D}{μ:MS}{K:DK}{Kx:DX}(h:yg cS cs ds μ K Kx):ds.length=2/\∃ m,μ[0]?=some m:=by
 unfold yg at h
 split at h
 .exact⟨rfl,h.1⟩
 .cases h
def tV (cS:ai)(cs:List ai):i9:=fun ds μ K Kx=>match ds with
 | [x,.str nm]=>(∃ m,μ[0]?=some m)/\∃ S,x=mT cS S/\(match d9 S.dE nm with | some y=>K (ny y) μ | none=>Kx (.ref (cs.getD 11 0)) μ)
 | _=>False
def Dl {cS:ai}{cs:List ai}{ds:List D}{μ:MS}{K:DK}{Kx:DX}(h:tV cS cs ds μ K Kx):ds.length=2/\∃ m,μ[0]?=some m:=by
 unfold tV at h
 split at h
 .exact⟨rfl,h.1⟩
 .cases h
def En (p:Str×Nat):D:=.tup [.str p.1,.int p.2]
def qx (cS:ai)(cs:List ai):i9:=fun ds μ K Kx=>match ds with
 | [x,.str nm,.int bar]=>(∃ m,μ[0]?=some m)/\∃ S,x=mT cS S/\Aa S.dE/\(match d9 S.dE nm with | some _=>(if 0<=bar/\bar<S.n then K (En (gC S.dE nm bar)) μ else Kx (.ref (cs.getD 6 0)) μ) | none=>Kx (.ref (cs.getD 11 0)) μ)
 | _=>False
def A5 {cS:ai}{cs:List ai}{ds:List D}{μ:MS}{K:DK}{Kx:DX}(h:qx cS cs ds μ K Kx):ds.length=3/\∃ m,μ[0]?=some m:=by
 unfold qx at h
 split at h
 .exact⟨rfl,h.1⟩
 .cases h
def xg (dE:List (Str×Pt)):List (Str×Tk):=dE.map fun p=>(p.1,gq dE p.1)
def t9 (cS:ai):jJ:=fun ds μ K=>match ds with
 | [x]=>∃ S m,x=mT cS S/\pR S m/\K (rn eS kh (xg S.dE)) μ
 | _=>False
def yh (cS:ai)(cs:List ai):i9:=fun ds μ K Kx=>match ds with
 | [x,.str nm]=>(∃ m,μ[0]?=some m)/\∃ S m,x=mT cS S/\pR S m/\(match d9 S.dE nm with | some _=>K (kh (gq S.dE nm)) μ | none=>Kx (.ref (cs.getD 11 0)) μ)
 | _=>False
def E6 {cS:ai}{cs:List ai}{ds:List D}{μ:MS}{K:DK}{Kx:DX}(h:yh cS cs ds μ K Kx):ds.length=2/\∃ m,μ[0]?=some m:=by
 unfold yh at h
 split at h
 .exact⟨rfl,h.1⟩
 .cases h
def pj (S:RS):List Int:=((List.range (S.n - 1).toNat).map fun i=>1+((i:Nat):Int)).filter fun p=>!(d9 S.fI p).isSome
def m9 (S:RS):List Tk:=S.dE.map fun p=>gq S.dE p.1
def wK (cS:ai):jJ:=fun ds μ K=>match ds with
 | [x]=>∃ S m,x=mT cS S/\pR S m/\K (.tup [.int S.n,.lst ((pj S).map D.int),.lst ((m9 S).map kh)]) μ
 | _=>False
def wJ (cS:ai):jJ:=fun ds μ K=>match ds with
 | [.mr k,.int n,a,b,c]=>μ[k]?=some (.ins cS [] [])/\K .gy (μ.set k (.ins cS Mx [.int n,a,b,c]))
 | _=>False
def gS (cS:ai)(cs:List ai)(w:Nat):i9:=fun ds μ K Kx=>match ds with
 | [x,y]=>(∃ m,μ[0]?=some m)/\∃ S d m,x=mT cS S/\y=kZ d/\SD d=w/\pR S m/\m<=1000/\Bg d/\wC cs K Kx (my S d) (mT cS (pH S d)) μ
 | _=>False
def j4 {cS:ai}{cs:List ai}{w:Nat}{ds:List D}{μ:MS}{K:DK}{Kx:DX}(h:gS cS cs w ds μ K Kx):ds.length=2/\∃ m,μ[0]?=some m:=by
 unfold gS at h
 split at h
 .exact⟨rfl,h.1⟩
 .cases h
def qD (cS:ai)(cs:List ai):i9:=fun ds μ K Kx=>match ds with
 | [x,y]=>(∃ m,μ[0]?=some m)/\∃ S d m,x=mT cS S/\y=kZ d/\pR S m/\m<=1000/\Bg d/\wC cs K Kx (my S d) (mT cS (pH S d)) μ
 | _=>False
def A8 {cS:ai}{cs:List ai}{ds:List D}{μ:MS}{K:DK}{Kx:DX}(h:qD cS cs ds μ K Kx):ds.length=2/\∃ m,μ[0]?=some m:=by
 unfold qD at h
 split at h
 .exact⟨rfl,h.1⟩
 .cases h
def Lb (cS:ai)(cs:List ai):i9:=fun ds μ K Kx=>match ds with
 | [x,.str nm]=>(∃ m,μ[0]?=some m)/\nm.length<=1000/\∃ S,x=mT cS S/\wC cs K Kx (jL S nm) .gy μ
 | _=>False
def La {cS:ai}{cs:List ai}{ds:List D}{μ:MS}{K:DK}{Kx:DX}(h:Lb cS cs ds μ K Kx):ds.length=2/\∃ m,μ[0]?=some m:=by
 unfold Lb at h
 split at h
 .exact⟨rfl,h.1⟩
 .cases h
def Dr (cs:List ai):i9:=fun ds μ K Kx=>match ds with
 | [.int a]=>(∃ m,μ[0]?=some m)/\wC cs K Kx (kL a) .gy μ
 | _=>False
def Iz {cs:List ai}{ds:List D}{μ:MS}{K:DK}{Kx:DX}(h:Dr cs ds μ K Kx):ds.length=1/\∃ m,μ[0]?=some m:=by
 unfold Dr at h
 split at h
 .exact⟨rfl,h.1⟩
 .cases h
def tU (cS:ai)(cs:List ai):i9:=fun ds μ K Kx=>match ds with
 | [x,.int p]=>(∃ m,μ[0]?=some m)/\∃ S,x=mT cS S/\wC cs K Kx (gu S p) .gy μ
 | _=>False
def Dk {cS:ai}{cs:List ai}{ds:List D}{μ:MS}{K:DK}{Kx:DX}(h:tU cS cs ds μ K Kx):ds.length=2/\∃ m,μ[0]?=some m:=by
 unfold tU at h
 split at h
 .exact⟨rfl,h.1⟩
 .cases h
def LN {P:ae}{w:af}{K:aa}{mg:Str->Option Value}{dD:Heap}{k:Nat}{ps:List Str}:O8 P w K mg dD [] k ps:=⟨fun _ h=>nomatch h⟩
def k7 {P:ae}{w:af}{K:aa}{mg:Str->Option Value}{dD:Heap}{x:Str}{k:Nat}{ps:List Str}{f:i9}{a:ai}{T:List (ai×i9)}(C:ur P w K mg dD x k ps (kj f))(hm:mg x=some (.ref a))(R:O8 P w K mg dD T k ps):O8 P w K mg dD ((a,f)::T) k ps:=⟨fun p hp=>by
 rcases List.mem_cons.mp hp with rfl | q
 .obtain⟨f',fd,F,GG,hk,hb⟩:=C.ex
  rw[hm]at GG
  cases GG
  exact⟨fd,F,hk,hb⟩
 .exact R.ex p q⟩
def fU {μ:MS}{x:MO}:(μ++[x])[μ.length]?=some x:=by rw[oP (aj _),aR];rfl
def GP {μ:MS}{ks:List Key}{ds:List D}:vZ (μ++[.jr ks ds]) μ.length=some (ks,ds):=by unfold vZ;rw[fU]
def wD {n:Nat}:∀ {ds:List D} {d:D},rk n ds->d∈ds->yP n d
 | _::_,d,h,hd=>by
  rcases List.mem_cons.mp hd with rfl | q
  .exact h.1
  .exact wD h.2 q
def Ln {kd:List (Key×D)}{k:Key}{v d:D}(h:d∈(dput kd k v).map (·.2)):d∈kd.map (·.2)\/d=v:=by
 unfold dput at h
 split at h
 .rw[aJ]at h
  obtain⟨p,hp,rfl⟩:=List.mem_map.mp h
  simp only[Function.comp]
  split
  .exact .inr rfl
  .exact .inl (List.mem_map.mpr ⟨p,hp,rfl⟩)
 .rw[aF]at h
  rcases List.mem_append.mp h with q | q
  .exact .inl q
  .exact .inr (List.mem_singleton.mp q)
def oH {n:Nat}{kd:List (Key×D)}{k:Key}{v:D}(h:rk n (kd.map (·.2)))(hv:yP n v):rk n ((dput kd k v).map (·.2)):=kT fun d hd=>by
 rcases Ln hd with q | q
 .exact wD h q
 .rw[q];exact hv
def Lm {kd:List (Key×D)}{k:Key}{v:D}(h:k∉kd.map (·.1)):dput kd k v=kd++[(k,v)]:=by
 unfold dput
 rw[aq]
 intro z
 obtain⟨p,hp,e⟩:=List.any_eq_true.mp z
 exact h (List.mem_map.mpr ⟨p,hp,cU e⟩)
def zF {kd:List (Key×D)}:List.zipWith (fun k d=>D.tup [oJ k,d]) (kd.map (·.1)) (kd.map (·.2))=kd.map fun p=>D.tup [oJ p.1,p.2]:=by
 induction kd with
 | nil=>rfl
 | cons p kd ih=>rw[aw,aw,List.zipWith_cons_cons,ih];rfl
def nh {it:D->MS->(Option (Key×D)->MS->Prop)->Prop}{μ:MS}(t:Key×D->Bool):∀(kd acc:List (Key×D)) (K:List (Key×D)->Prop),((acc++kd).map (·.1)).Nodup ->
 (∀ p∈kd,∀(μ':MS) (K':Option (Key×D)->MS->Prop),K' (if t p=true then some p else none) μ'->it (.tup [oJ p.1,p.2]) μ' K')->K (acc++kd.filter t)->uS it (fun _=>True) μ (kd.map fun p=>D.tup [oJ p.1,p.2]) acc K
 | [],acc,K,_,_,k=>by rw[List.filter_nil,aV]at k;exact⟨trivial,k⟩
 | p::kd,acc,K,nd,h,k=>by
  refine⟨trivial,h p aH _ _ ⟨rfl,?_⟩⟩
  rw[bg]at k
  have RM:((acc++kd).map (·.1)).Nodup:=nd.sublist (List.Sublist.map _ (List.Sublist.append_left (List.sublist_cons_self _ _) _))
  by_cases q:t p=true
  .rw[au q]at k ⊢
   have hn:p.1∉acc.map (·.1):=fun z=>by
    rw[aF,bL]at nd
    exact nd.2.2 p.1 z p.1 (List.mem_map.mpr ⟨p,aH,rfl⟩) rfl
   show uS it _ μ _ (dput acc p.1 p.2) K
   rw[Lm hn]
   exact nh t kd (acc++[p]) K (by rw[aQ];exact nd) (fun p' Mz=>h p' (oO _ Mz)) (by rw[aQ];exact k)
  .rw[aq q]at k ⊢
   exact nh t kd acc K RM (fun p' Mz=>h p' (oO _ Mz)) k
def LL:∀ l:List Nat,l.count 111+l.count 120=l.length↔(l.all fun c=>decide (c=111)||decide (c=120))=true
 | []=>by simp
 | c::l=>by
  have ih:=LL l
  have le:l.count 111+l.count 120<=l.length:=by
   clear ih
   induction l with
   | nil=>simp
   | cons d l ih2 =>
    rw[dg,dg,aI]
    by_cases e1:d=111
    .subst e1;simp;lia
    .by_cases e2:d=120
     .subst e2;simp;lia
     .rw[aq (by simpa using e1),aq (by simpa using e2)];lia
  rw[dg,dg,aI,c9]
  by_cases e1:c=111
  .subst e1
   rw[Bool.and_eq_true_iff,<- ih]
   simp
   lia
  .by_cases e2:c=120
   .subst e2
    rw[Bool.and_eq_true_iff,<- ih]
    simp
    lia
   .rw[aq (by simpa using e1),aq (by simpa using e2),az e1,az e2]
    simp
    lia
def iG (p:Str×Pt)(l:List (Str×Pt)):eR (p::l)=match K7 p with | some q=>q::eR l | none=>eR l:=by
 unfold eR
 rw[bS]
 cases K7 p <;> rfl
def mD {l:List (Str×Pt)}{nm:Str}(nd:(l.map (·.1)).Nodup):d9 (eR l) nm=match d9 l nm with | some (.fst b a)=>some (b,a) | _=>none:=by
 induction l with
 | nil=>rfl
 | cons p l ih =>
  obtain⟨z,x⟩:=p
  rw[aw,List.nodup_cons]at nd
  have ih:=ih nd.2
  rw[iG,fP]
  by_cases e:z=nm
  .rw[au e]
   have hn:d9 l nm=none:=by
    cases q:d9 l nm with
    | none=>rfl
    | some y=>exact absurd (fO.mp (show(d9 l nm).isSome=true by rw[q];rfl)) (by rw[<- e];exact nd.1)
   cases x with
   | fst b a=>show d9 ((z,(b,a))::eR l) nm=_;rw[fP,au e]
   | jn a b p=>show d9 (eR l) nm=_;rw[ih,hn]
  .rw[aq e]
   cases x with
   | fst b a=>show d9 ((z,(b,a))::eR l) nm=_;rw[fP,aq e,ih]
   | jn a b p=>show d9 (eR l) nm=_;rw[ih]
def yc {l:List (Str×Pt)}:((eR l).map (·.1)).Sublist (l.map (·.1)):=by
 induction l with
 | nil=>exact .slnil
 | cons p l ih =>
  obtain⟨z,x⟩:=p
  rw[iG]
  cases x with
  | fst b a=>exact ih.cons₂ _
  | jn a b q=>exact ih.cons _
def Dg {l:List (Str×Pt)}{nm:Str}:eR (iH l nm)=iH (eR l) nm:=by
 unfold iH
 induction l with
 | nil=>rfl
 | cons p l ih =>
  obtain⟨z,x⟩:=p
  rw[bg,iG]
  by_cases e:z=nm
  .rw[aq (by simp[e]),ih]
   cases x with
   | fst b a=>show _=List.filter _ ((z,(b,a))::eR l);rw[bg,aq (by simp[e])]
   | jn a b q=>rfl
  .rw[au (by simp[e]),iG,ih]
   cases x with
   | fst b a=>show _=List.filter _ ((z,(b,a))::eR l);rw[bg,au (by simp[e])];rfl
   | jn a b q=>rfl
def ye {l m:List (Str×Pt)}:eR (l++m)=eR l++eR m:=List.filterMap_append
def Iy {l:List (Str×Pt)}{nm a b:Str}{p:Int}(h:d9 l nm=none):eR (gF l nm (.jn a b p))=eR l:=by
 rw[nR h,ye]
 exact aV _
def EY {l:List (Str×Pt)}{nm:Str}{b:List Nat}{a:Int}(nd:(l.map (·.1)).Nodup)(h:d9 l nm=none):eR (gF l nm (.fst b a))=gF (eR l) nm (b,a):=by
 rw[nR h,nR (by rw[mD nd,h]),ye]
 rfl
def DZ {α β:Type}[DecidableEq α]{l:List (α×β)}{k:α}{v:β}(h:k∉l.map (·.1)):(l.map fun p=>if p.1=k then(p.1,v)else p)=l:=by
 conv=>rhs;rw[<- List.map_id l]
 refine cb fun p hp=>?_
 rw[aq]
 .rfl
 .exact fun e=>h (List.mem_map.mpr ⟨p,hp,e⟩)
def yd {l:List (Str×Pt)}{nm:Str}{b b0:List Nat}{a a0:Int}(nd:(l.map (·.1)).Nodup)(h:d9 l nm=some (.fst b0 a0)):eR (gF l nm (.fst b a))=gF (eR l) nm (b,a):=by
 have h2:d9 (eR l) nm=some (b0,a0):=by rw[mD nd,h]
 unfold gF
 rw[au (by rw[mG,h];rfl),au (by rw[mG,h2];rfl)]
 clear h2
 induction l with
 | nil=>cases h
 | cons p l ih =>
  obtain⟨z,x⟩:=p
  rw[aw,List.nodup_cons]at nd
  rw[fP]at h
  rw[aw]
  by_cases e:z=nm
  .subst e
   rw[au rfl]at h
   cases(show x=.fst b0 a0 from aS h)
   rw[au rfl,DZ (k:=z) nd.1,iG,iG]
   show(z,(b,a))::eR l=List.map _ ((z,(b0,a0))::eR l)
   rw[aw,au rfl,DZ (k:=z) (fun q=>nd.1 (yc.subset q))]
  .rw[aq (show ¬ z=nm from e)]at h
   rw[aq (show ¬ (z,x).1=nm from e),iG,iG,ih nd.2 h]
   cases x with
   | fst b1 a1=>show _=List.map _ ((z,(b1,a1))::eR l);rw[aw,aq (show ¬ z=nm from e)];rfl
   | jn _ _ _=>rfl
def BY {S:RS}{m:Nat}(h:pR S m):∀ nm x,d9 S.dE nm=some x->((gq S.dE nm).1.length:Int)=S.n/\OX (gq S.dE nm).1/\0<=(gq S.dE nm).2:=by
 refine E9 h.kp (fun nm=>((gq S.dE nm).1.length:Int)=S.n/\OX (gq S.dE nm).1/\0<=(gq S.dE nm).2) (fun nm b a e=>?_) (fun nm l r p e h1 h2=>?_)
 .unfold gq
  rw[Ba e]
  obtain⟨f1,f2,f3,_⟩:=h.fs nm b a e
  exact⟨f1,f2,f3⟩
 .obtain⟨p1,p2⟩:=h.js nm l r p e
  unfold gq at h1 h2 ⊢
  rw[GO h.kp e]
  obtain⟨a1,a2,a3⟩:=h1
  obtain⟨b1,b2,b3⟩:=h2
  refine⟨?_,RX a2 b2,?_⟩
  .have:=Oc (l1:=(ev (fun _ b a=>(b,a)) (fun x y p=>(Ic x.1 y.1 p,max x.2 y.2+1)) ([],0) S.dE l:List Nat×Int).1) (l2:=(ev (fun _ b a=>(b,a)) (fun x y p=>(Ic x.1 y.1 p,max x.2 y.2+1)) ([],0) S.dE r:List Nat×Int).1) (p:=p) (by lia) (by lia) (by lia)
   show((Ic _ _ p).length:Int)=_
   rw[this];exact a1
  .show 0<=max _ _+1
   lia
def Jp {S:RS}(h:Aa S.dE){nm l r:Str}{p:Int}(e:d9 S.dE nm=some (.jn l r p)):gq S.dE nm=P0 (gq S.dE l) (gq S.dE r) p:=by
 unfold gq
 rw[GO h e]
 rfl
def Em {dE:List (Str×Pt)}{nm:Str}{b:List Nat}{a:Int}(e:d9 dE nm=some (.fst b a)):gq dE nm=(b,a):=by
 unfold gq
 rw[Ba e]
def gW {α β:Type}(κ:α->Key)(f:β->D)(l:List (α×β)):(l.map fun p=>κ p.1)=(l.map fun p=>(κ p.1,f p.2)).map (·.1)/\(l.map fun p=>f p.2)=(l.map fun p=>(κ p.1,f p.2)).map (·.2):=by
 rw[aJ,aJ]
 exact⟨rfl,rfl⟩
def sU {dE:List (Str×Pt)}{nm:Str}{b:List Nat}{a bar:Int}(e:d9 dE nm=some (.fst b a)):gC dE nm bar=(nm,0):=by
 unfold gC
 rw[Ba e]
def Af {dE:List (Str×Pt)}(h:Aa dE){nm l r:Str}{p:Int}(e:d9 dE nm=some (.jn l r p))(bar:Int):gC dE nm bar=if bar<p then((gC dE l bar).1,(gC dE l bar).2+1)else((gC dE r bar).1,(gC dE r bar).2+1):=by
 unfold gC
 rw[GO h e]
def HY {α β:Type}{n:Nat}{κ:α->Key}{f:β->D}(hf:∀ b,yP n (f b))(l:List (α×β)):rk n ((l.map fun p=>(κ p.1,f p.2)).map (·.2)):=kT fun d hd=>by
 rw[aJ]at hd
 obtain⟨p,_,rfl⟩:=List.mem_map.mp hd
 exact hf _
def vi {n:Nat}:∀ x,yP n (ny x)
 | .fst _ _=>trivial
 | .jn _ _ _=>⟨trivial,trivial,trivial,trivial⟩
def sR {n:Nat}(t:Tk):yP n (kh t):=⟨trivial,trivial,trivial⟩
def vk {α β:Type}{n:Nat}{κ:α->Key}{f:β->D}(hf:∀ b,yP n (f b))(l:List (α×β)):yP n (rn κ f l):=kT fun d hd=>by
 obtain⟨p,_,rfl⟩:=List.mem_map.mp hd
 exact hf _
def CF {n:Nat}(l:List (Int×Unit)):yP n (Ng l):=vk (n:=n) (f:=fun _:Unit=>D.bl true) (fun _=>True.intro) l
section
variable {α β:Type}[DecidableEq α]{κ:α->Key}(hi:∀ a b,κ a=κ b->a=b)(f:β->D)
include hi
def Ht (k:α)(v:β)(l:List (α×β)):D.mE ((dput (l.map fun p=>(κ p.1,f p.2)) (κ k) (f v)).map (·.1)) ((dput (l.map fun p=>(κ p.1,f p.2)) (κ k) (f v)).map (·.2))=rn κ f (gF l k v):=by
 rw[Fd hi f k v l,<- (gW κ f _).1,<- (gW κ f _).2]
 rfl
def Ji (k:α)(l:List (α×β)):D.mE (((l.map fun p=>(κ p.1,f p.2)).filter fun p=>decide (p.1≠κ k)).map (·.1)) (((l.map fun p=>(κ p.1,f p.2)).filter fun p=>decide (p.1≠κ k)).map (·.2))=rn κ f (iH l k):=by
 rw[GQ hi f k l,<- (gW κ f _).1,<- (gW κ f _).2]
 rfl
def Kw {l:List (α×β)}(nd:(l.map (·.1)).Nodup):((l.map fun p=>(κ p.1,f p.2)).map (·.1)).Nodup:=by
 rw[aJ]
 show(l.map (κ ∘ fun p=>p.1)).Nodup
 rw[<- aJ]
 exact nd.map (f:=κ) fun a b h z=>h (hi _ _ z)
end
def kd_len {α β:Type}{κ:α->Key}{f:β->D}{l:List (α×β)}:(l.map fun p=>(κ p.1,f p.2)).length=l.length:=fH _
def R3 {c:Prop}[Decidable c]{A B:Prop}(h1:¬ c->A)(h2:c->B):if(!decide c)=true then A else B:=by
 by_cases q:c
 .rw[ar q];exact h2 q
 .rw[az q];exact h1 q
def V7 {a b:Nat}:decide (([a]:List Nat)<[b])=decide (a<b):=by
 by_cases h:a<b
 .rw[ar h,ar (show([a]:List Nat)<[b]from List.Lex.rel h)]
 .rw[az h,az]
  intro z
  cases z with
  | rel q=>exact h q
  | cons q=>cases q
def CD {nm:Str}(h1:¬ ((nm.length:Nat):Int)<1)(h2:¬ (8:Int)<((nm.length:Nat):Int)):gB nm=(nm.cps.toList.all fun c=>decide (97<=c)&&decide (c<=122)):=by
 unfold gB
 rw[ar (show 1<=nm.length by lia),ar (show nm.length<=8 by lia)]
 rfl
def Cq (S:RS):(((List.range (S.n - 1).toNat).map fun i=>1+((i:Nat):Int)).filterMap fun p=>if(d9 S.fI p).isSome=true then none else some (D.int p))=(pj S).map D.int:=by
 unfold pj
 generalize ((List.range (S.n - 1).toNat).map fun i=>1+((i:Nat):Int))=l
 induction l with
 | nil=>rfl
 | cons p l ih =>
  rw[bS,bg]
  cases(d9 S.fI p).isSome with
  | true=>exact ih
  | false=>show D.int p::_=D.int p::_;rw[ih]
def Cm {l:List (Str×Pt)}{nm:Str}{b b0:List Nat}{a a0:Int}(h:d9 l nm=some (.fst b0 a0))(nd:(l.map (·.1)).Nodup:=by assumption):rn eS ny (gF l nm (.fst b a))=rn eS ny l:=by
 unfold rn
 have k1:=(DY (v:=Pt.fst b a) h).1
 have e1:(gF l nm (.fst b a)).map (fun p=>eS p.1)=l.map fun p=>eS p.1:=by
  have:=bx (List.map eS) k1
  rw[aJ,aJ]at this
  exact this
 rw[e1]
 congr 1
 unfold gF
 rw[au (by rw[mG,h];rfl),aJ]
 refine cb fun p hp=>?_
 simp only[Function.comp]
 by_cases e:p.1=nm
 .rw[au e]
  have:d9 l nm=some p.2:=gY nd (by rw[<- e];exact hp)
  rw[h]at this
  rw[<- aS this]
  rfl
 .rw[aq e]
def By {l:List Nat}{sg:Str}:(⟨l.toArray⟩++sg:Str)=⟨(l++sg.cps.toList).toArray⟩:=o5 l sg.cps.toList
def U8 {c1 c2:Prop}[Decidable c1][Decidable c2]{A B:Prop}(hB:c1\/c2->B)(hA:¬ (c1\/c2)->A):if(true != decide c1)=true then(if(true != decide c2)=true then A else B)else B:=by
 by_cases q1:c1
 .rw[ar q1];exact hB (.inl q1)
 .by_cases q2:c2
  .rw[az q1,ar q2];exact hB (.inr q2)
  .rw[az q1,az q2];exact hA fun z=>z.elim q1 q2
def vh:List Str:=["stands", "rows", "done"]
structure fo (cR cS:ai)(μ:MS)(k j1 j2:Nat)(ss:List RS)(rs:List Dd)(d:Nat):Prop where
 k0:k≠0
 a0:j1≠0
 b0:j2≠0
 ka:k≠j1
 kb:k≠j2
 ab:j1≠j2
 ins:μ[k]?=some (.ins cR vh [.mr j1,.mr j2,.int (d:Int)])
 l1:μ[j1]?=some (.lst (ss.map (mT cS)))
 l2:μ[j2]?=some (.lst (rs.map kZ))
 len:ss.length=rs.length+1
 le:d<=rs.length
 wf:∀ i S,ss[i]?=some S->pR S i
 kX:rs.length<=900
def jG (cR cS:ai)(μ:MS)(k j1 j2:Nat)(ss:List RS)(rs:List Dd)(d:Nat):MS:=((μ.set j1 (.lst (ss.map (mT cS)))).set j2 (.lst (rs.map kZ))).set k (.ins cR vh [.mr j1,.mr j2,.int (d:Int)])
section
variable {cR cS:ai}{μ:MS}{k j1 j2:Nat}{ss:List RS}{rs:List Dd}{d:Nat}
def fo.lk (h:fo cR cS μ k j1 j2 ss rs d):k<μ.length/\j1<μ.length/\j2<μ.length:=⟨(l8 h.ins).1,(l8 h.l1).1,(l8 h.l2).1⟩
def fo.now (h:fo cR cS μ k j1 j2 ss rs d):∃ S,ss[d]?=some S/\pR S d:=by
 have:d<ss.length:=by have:=h.len;have:=h.le;lia
 exact⟨_,sP this,h.wf d _ (sP this)⟩
def fo.other (h:fo cR cS μ k j1 j2 ss rs d){i:Nat}{m:MO}(hk:i≠k)(h1:i≠j1)(h2:i≠j2):fo cR cS (μ.set i m) k j1 j2 ss rs d :=
 ⟨h.k0,h.a0,h.b0,h.ka,h.kb,h.ab,by rw[ak hk];exact h.ins,by rw[ak h1];exact h.l1,by rw[ak h2];exact h.l2,h.len,h.le,h.wf,h.kX⟩
def fo.gx (h:fo cR cS μ k j1 j2 ss rs d){m:MO}:fo cR cS (μ.set 0 m) k j1 j2 ss rs d:=h.other (bj h.k0) (bj h.a0) (bj h.b0)
def fo.more (h:fo cR cS μ k j1 j2 ss rs d){g:MS}:fo cR cS (μ++g) k j1 j2 ss rs d:=by
 obtain⟨a,b,c⟩:=h.lk
 exact⟨h.k0,h.a0,h.b0,h.ka,h.kb,h.ab,by rw[uv a];exact h.ins,by rw[uv b];exact h.l1,by rw[uv c];exact h.l2,h.len,h.le,h.wf,h.kX⟩
def fo.put (h:fo cR cS μ k j1 j2 ss rs d){ss':List RS}{rs':List Dd}{d':Nat}(len:ss'.length=rs'.length+1)(le:d'<=rs'.length)(wf:∀ i S,ss'[i]?=some S->pR S i)(kX:rs'.length<=900):fo cR cS (jG cR cS μ k j1 j2 ss' rs' d') k j1 j2 ss' rs' d':=by
 obtain⟨a,b,c⟩:=h.lk
 refine⟨h.k0,h.a0,h.b0,h.ka,h.kb,h.ab,?_,?_,?_,len,le,wf,kX⟩
 .unfold jG;rw[aC (by rw[aG,aG];exact a)]
 .unfold jG;rw[ak h.ka,ak (bj h.ab),aC b]
 .unfold jG;rw[ak h.kb,aC (by rw[aG];exact c)]
def set_same {μ:MS}{i:Nat}{m:MO}(h:μ[i]?=some m):μ.set i m=μ:=by
 refine List.ext_getElem? fun j=>?_
 by_cases e:i=j
 .subst e;rw[aC (l8 h).1,h]
 .rw[ak e]
def rh (h:fo cR cS μ k j1 j2 ss rs d){m m0:MO}{ss':List RS}{rs':List Dd}{d':Nat}(em:μ[0]?=some m0):(jG cR cS (μ.set 0 m) k j1 j2 ss' rs' d').set 0 m0=jG cR cS μ k j1 j2 ss' rs' d'/\(jG cR cS (μ.set 0 m) k j1 j2 ss' rs' d')[0]?=some m:=by
 have h0:0<μ.length:=(l8 em).1
 unfold jG
 refine⟨?_,?_⟩
 .rw[cO _ _ h.k0,cO _ _ h.b0,cO _ _ h.a0,dw,set_same em]
 .rw[ak h.k0,ak h.b0,ak h.a0,aC h0]
def qd {ss':List RS}{rs':List Dd}{d':Nat}:(jG cR cS μ k j1 j2 ss' rs' d').length=μ.length:=by unfold jG;rw[aG,aG,aG]
def mW {ss':List RS}{rs':List Dd}{d' i:Nat}(hk:i≠k)(h1:i≠j1)(h2:i≠j2):(jG cR cS μ k j1 j2 ss' rs' d')[i]?=μ[i]?:=by
 unfold jG;rw[ak (bj hk),ak (bj h2),ak (bj h1)]
end
section
variable (cR cS:ai)(cs:List ai)
def tT:i9:=fun ds μ K Kx=>match ds with
 | [.mr k,.int n]=>(∃ m,μ[0]?=some m)/\k≠0/\μ[k]?=some (.ins cR [] [])/\(if 1<=n/\n<=40 then K .gy (μ.set k (.ins cR vh [.mr μ.length,.mr (μ.length+1),.int 0])++[.lst [mT cS ⟨n,[],[]⟩],.lst []])else Kx (.ref (cs.getD 8 0)) μ)
 | _=>False
def Oz:jJ:=fun ds μ K=>match ds with
 | [.mr k]=>∃ j1 j2 ss rs d S,fo cR cS μ k j1 j2 ss rs d/\ss[d]?=some S/\K (mT cS S) μ
 | _=>False
def yo:i9:=fun ds μ K Kx=>match ds with
 | [.mr k,y]=>(∃ m,μ[0]?=some m)/\∃ j1 j2 ss rs d S e,fo cR cS μ k j1 j2 ss rs d/\ss[d]?=some S/\y=kZ e/\Bg e/\rs.length<900/\(match my S e with | some i=>Kx (.ref (cs.getD i 0)) μ | none=>K .gy (jG cR cS μ k j1 j2 (ss.take (d+1)++[pH S e]) (rs.take d++[e]) (d+1)))
 | _=>False
def qz (b:Bool):jJ:=fun ds μ K=>match ds with
 | [.mr k]=>∃ j1 j2 ss rs d,fo cR cS μ k j1 j2 ss rs d/\K (.lst ((if b=true then rs.take d else rs.drop d).map kZ)) μ
 | _=>False
def jI (g:RS->D):jJ:=fun ds μ K=>match ds with
 | [.mr k]=>∃ j1 j2 ss rs d S,fo cR cS μ k j1 j2 ss rs d/\ss[d]?=some S/\K (g S) μ
 | _=>False
def kE (g:RS->Str->D):i9:=fun ds μ K Kx=>match ds with
 | [.mr k,.str nm]=>(∃ m,μ[0]?=some m)/\∃ j1 j2 ss rs d S,fo cR cS μ k j1 j2 ss rs d/\ss[d]?=some S/\(match d9 S.dE nm with | some _=>K (g S nm) μ | none=>Kx (.ref (cs.getD 11 0)) μ)
 | _=>False
def qy:i9:=fun ds μ K Kx=>match ds with
 | [.mr k,.str nm,.int bar]=>(∃ m,μ[0]?=some m)/\∃ j1 j2 ss rs d S,fo cR cS μ k j1 j2 ss rs d/\ss[d]?=some S/\(match d9 S.dE nm with | some _=>(if 0<=bar/\bar<S.n then K (En (gC S.dE nm bar)) μ else Kx (.ref (cs.getD 6 0)) μ) | none=>Kx (.ref (cs.getD 11 0)) μ)
 | _=>False
end
def Qg (S:RS):D:=.int S.n
def EV (S:RS):D:=.lst (S.dE.map fun p=>.str p.1)
def GH (S:RS):D:=.lst ((pj S).map D.int)
def uP (S:RS):D:=.lst ((m9 S).map kh)
def Qh (S:RS)(nm:Str):D:=.str (txt (gq S.dE nm).1)
def Vv (S:RS)(nm:Str):D:=.int (gq S.dE nm).2
def yb (S:RS)(nm:Str):D:=match d9 S.dE nm with | some y=>ny y | none=>.gy
section
variable {cR cS:ai}{cs:List ai}{ds:List D}{μ:MS}{K:DK}{Kx:DX}
def Dj (h:tT cR cS cs ds μ K Kx):ds.length=2/\∃ m,μ[0]?=some m:=by
 unfold tT at h
 split at h
 .exact⟨rfl,h.1⟩
 .cases h
def E8 (h:yo cR cS cs ds μ K Kx):ds.length=2/\∃ m,μ[0]?=some m:=by
 unfold yo at h
 split at h
 .exact⟨rfl,h.1⟩
 .cases h
def qA {g:RS->Str->D}(h:kE cR cS cs g ds μ K Kx):ds.length=2/\∃ m,μ[0]?=some m:=by
 unfold kE at h
 split at h
 .exact⟨rfl,h.1⟩
 .cases h
def A6 (h:qy cR cS cs ds μ K Kx):ds.length=3/\∃ m,μ[0]?=some m:=by
 unfold qy at h
 split at h
 .exact⟨rfl,h.1⟩
 .cases h
end
def lK:Pt->D
 | .fst b a=>.tup [.str "first",.str (txt b),.int a]
 | .jn l r p=>.tup [.str "joined",.str l,.str r,.int p]
def pf (S:RS):D:=.tup [.int S.n,rn eS lK S.dE,Ng S.fI]
def Q9 {n:Nat}:∀ x,yP n (lK x)
 | .fst _ _=>⟨trivial,trivial,trivial,trivial⟩
 | .jn _ _ _=>⟨trivial,trivial,trivial,trivial,trivial⟩
def oE (fA:List Str):Prop:=1<=fA.length/\fA.length<=50/\∀ z∈fA,gB z=true
def mL (l:List Str):D:=.lst (l.map D.str)
def tY:jJ:=fun ds μ K=>match ds with
 | [.mr k,.int many]=>μ[k]?=some .box/\1<=many/\many<=50/\∀ fA:List Str,(fA.length:Int)=many->oE fA->K (mL fA) μ
 | _=>False
def A9 (cR cS:ai):jJ:=fun ds μ K=>match ds with
 | [.mr k,.int most]=>(∃ m,μ[0]?=some m)/\μ[k]?=some .box/\k<μ.length/\1<=most/\most<=40/\∀(n:Int) (fA:List Str),1<=n->n<=most->oE fA->K (.tup [.mr μ.length,pf ⟨n,[],[]⟩,mL fA]) (μ++[.ins cR vh [.mr (μ.length+1),.mr (μ.length+2),.int 0],.lst [mT cS ⟨n,[],[]⟩],.lst []])
 | _=>False
def tW:jJ:=fun ds μ K=>match ds with
 | [x,.str nm,.int bar]=>∃ dE y,TZ μ x=some (dE.map (fun p=>eS p.1),dE.map fun p=>lK p.2)/\Aa dE/\d9 dE nm=some y/\K (En (gC dE nm bar)) μ
 | _=>False
def Me (dE:List (Str×Pt)):List (Str×Int):=dE.map fun p=>(p.1,(gq dE p.1).2)
def yp:jJ:=fun ds μ K=>match ds with
 | [x]=>∃ S m,x=rn eS lK S.dE/\pR S m/\K (rn eS D.int (Me S.dE)) μ
 | _=>False
def ym:jJ:=fun ds μ K=>match ds with
 | [x,.str nm]=>∃ S m y,x=pf S/\pR S m/\d9 S.dE nm=some y/\K (.str (txt (gq S.dE nm).1)) μ
 | _=>False
def tS:jJ:=fun ds μ K=>match ds with
 | [x]=>∃ S m,x=pf S/\pR S m/\K (uP S) μ
 | _=>False
def yj:jJ:=fun ds μ K=>match ds with
 | [x]=>∃ S m,x=pf S/\pR S m/\K (GH S) μ
 | _=>False
def yn:jJ:=fun ds μ K=>match ds with
 | [x,y]=>∃ S d m,x=pf S/\y=kZ d/\pR S m/\m<=1000/\my S d=none/\K (pf (pH S d)) μ
 | _=>False
def rL (dE:List (Str×Pt)):List Str:=(dE.map (·.1)).filter fun z=>!dE.any fun p=>hJ z p.2
def Dm:jJ:=fun ds μ K=>match ds with
 | [x]=>∃ S m,x=rn eS lK S.dE/\pR S m/\K (mL (rL S.dE)) μ
 | _=>False
def Dp:jJ:=fun ds μ K=>match ds with
 | [.mr k,x,y]=>μ[k]?=some .box/\∃ S m fA,x=pf S/\y=mL fA/\pR S m/\oE fA/\∀ d,my S d=none->Bg d->K (kZ d) μ
 | _=>False
def wI (cR cS:ai):jJ:=fun ds μ K=>match ds with
 | [.mr k,x]=>(∃ m,μ[0]?=some m)/\∃ j1 j2 ss rs d S,fo cR cS μ k j1 j2 ss rs d/\ss[d]?=some S/\x=pf S/\K (.bl true) μ
 | _=>False
def pR.new {n:Int}(h1:1<=n)(h2:n<=40):pR ⟨n,[],[]⟩ 0 :=
 ⟨h1,h2,⟨.nil,fun _ _ _ _ e=>(by cases e)⟩,a6 _,fun _ _ _ e=>(by cases e),fun _ _ _ _ e=>(by cases e),fun _ h=>(nomatch h),aj _,.nil⟩
def fo.made {cR cS:ai}{μ:MS}{n:Int}(h0:μ≠[])(h1:1<=n)(h2:n<=40):fo cR cS (μ++[.ins cR vh [.mr (μ.length+1),.mr (μ.length+2),.int 0],.lst [mT cS ⟨n,[],[]⟩],.lst []]) μ.length (μ.length+1) (μ.length+2) [⟨n,[],[]⟩] [] 0:=by
 have hl:0<μ.length:=List.length_pos_iff.mpr h0
 refine⟨by lia,by lia,by lia,by lia,by lia,by lia,?_,?_,?_,rfl,aj _,fun i S e=>?_,a6 _⟩
 .rw[oP (aj _),aR];rfl
 .rw[oP (by lia),b8];rfl
 .rw[oP (by lia),b8];rfl
 .cases i with
  | zero=>cases e;exact .new h1 h2
  | succ i=>cases e
def K1 {S:RS}{m:Nat}(h:pR S m)(bar:Nat)(hb:(bar:Int)<S.n):∀ nm x,d9 S.dE nm=some x->∃ b a c,d9 S.dE (gC S.dE nm bar).1=some (.fst b a)/\b[bar]?=some c/\(gq S.dE nm).1[bar]?=some c:=by
 refine E9 h.kp (fun nm=>∃ b a c,d9 S.dE (gC S.dE nm bar).1=some (.fst b a)/\b[bar]?=some c/\(gq S.dE nm).1[bar]?=some c) (fun nm b a e=>?_) (fun nm l r p e h1 h2=>?_)
 .obtain⟨f1,_⟩:=h.fs nm b a e
  rw[sU e,Em e]
  exact⟨b,a,b[bar]'(by lia),e,sP _,sP _⟩
 .obtain⟨p1,p2⟩:=h.js nm l r p e
  obtain⟨⟨yl,el⟩,⟨yr,er⟩⟩:=h.kp.there e
  obtain⟨t1,_⟩:=BY h l yl el
  obtain⟨t2,_⟩:=BY h r yr er
  rw[Af h.kp e,Jp h.kp e]
  obtain⟨b,a,c,g1,g2,g3⟩:=h1
  obtain⟨b',a',c',k1,k2,k3⟩:=h2
  by_cases q:(bar:Int)<p
  .rw[au q]
   exact⟨b,a,c,g1,g2,by show(Ic _ _ p)[bar]?=_;rw[Ob (by lia) q];exact g3⟩
  .rw[aq q]
   exact⟨b',a',c',k1,k2,by show(Ic _ _ p)[bar]?=_;rw[KG (by lia) (by lia) (by lia)];exact k3⟩
open PySem PySem.Spec PyProof.Rows PyProof
section
variable {X:Cx}{pos:Pos}
def Ue (i j k:Nat)(ta:TA):TS:=fun D σ H=>ta σ H fun vs H1=>∃ v w u,vs=[v,w,u]/\D.nx (((σ.set i (some v)).set j (some w)).set k (some u)) H1
def Nw {i j k:Nat}{x y z:Str}{a b c:Expr}{ta:TA}{px py pz pt:Pos}{kt k2 Ra}(hc:X.gg=true)(hN:X.N.Nodup)(hi:X.N[i]?=some x)(hj:X.N[j]?=some y)(hk:X.N[k]?=some z)(Io:i≠j)(Ys:i≠k)(Yr:j≠k)
 (hx:X.env.scope.names.lookup x=some .local) (hy:X.env.scope.names.lookup y=some .local) (hz:X.env.scope.names.lookup z=some .local) (ha:PA X [a,b,c] ta)
 (hw:swappedStores [.Tuple [.Name x px,.Name y py,.Name z pz] kt pt] (.Tuple [a,b,c] k2 Ra) X.env=pure (some [x,y,z]))
 (hs:swapsWithSole [.Tuple [.Name x px,.Name y py,.Name z pz] kt pt] (.Tuple [a,b,c] k2 Ra) pos.line X.env=pure false:=by rfl) :
 PS X (.Assign [.Tuple [.Name x px,.Name y py,.Name z pz] kt pt] (.Tuple [a,b,c] k2 Ra) pos) (Ue i j k ta):=by
 intro dA s σ H D I h
 rw[exec_Assign_arm]
 refine fb (c8 ?_)
 rw[hs]
 refine fb (av ?_)
 rw[aq (by decide)]
 refine fb (Tuple_ (gc (ha _ dA s σ H _ I h) fun us s1 sC=>?_))
 obtain⟨vs,H1,I1,r1,q1⟩:=sC
 obtain⟨v,w,u,e1,q1⟩:=q1
 subst e1
 obtain⟨u1,u2,u3,rfl,rv,Cc,ru⟩:∃ u1 u2 u3,us=[u1,u2,u3]/\fm v u1/\fm w u2/\fm u u3:=by
  cases r1 with
  | cons p q =>
   cases q with
   | cons p' q' =>
    cases q' with
    | cons p'' q'' =>
     cases q''
     exact⟨_,_,_,rfl,p,p',p''⟩
 refine ba ?_ (by show 3<=sizeLine;decide)
 have I2:Inv X dA σ H1 { s1 with heap:=s1.heap.push { cls:=.type "tuple",data:=.seq [u1,u2,u3].toArray}}:=I1.dE (t':=s1.toks) fun b o e=>j0 _ e
 rw[hw]
 refine fb (av ?_)
 show wpAny (model X.prog X.w) X.A (do rule "assign.swapped-stores";let items <- unpackItems (.ref s1.heap.objs.size) 3 none;assignInOrder [fun v=>bindName X.env z v,fun v=>bindName X.env y v,fun v=>bindName X.env x v] items.reverse;pure Flow.next) _ _ _
 refine fb (wpAny_rule (fb (unpackItems_tuple (items:=#[u1,u2,u3]) (I.ok.hd hc) (IsTup.new s1.heap _) fun h' CZ=>?_)))
 have I3:=I2.dE (h':=h') (t':=s1.toks) fun b o e=>CZ b o (aL (kK e)) e
 show wpAny _ _ (assignInOrder [fun v=>bindName X.env z v,fun v=>bindName X.env y v,fun v=>bindName X.env x v] [u3,u2,u1] >>= fun _=>pure Flow.next) _ _ _
 refine fb (dj (wpAny_bindName (mi I3 hN hk (.inl hz) ru (fun s2 I4=>?_) (.inr hz))))
 refine dj (wpAny_bindName (mi I4 hN hj (.inl hy) Cc (fun s3 I5=>?_) (.inr hy)))
 refine dj (wpAny_bindName (mi I5 hN hi (.inl hx) rv (fun s4 I6=>assignInOrder_nil (av ?_)) (.inr hx)))
 rw[cO _ _ (bj Yr),cO _ _ (bj Ys),cO _ _ (bj Io)]at I6
 exact⟨_,H1,I6,q1⟩
def VT (i j k:Nat)(w:DA):Ds:=fun N ρ μ=>w ρ μ fun ds eF=>match ds with
 | [a,b,c]=>N.nx (((ρ.set i (some a)).set j (some b)).set k (some c)) eF
 | _=>False
def Q2 {i j k:Nat}{x y z:Str}{a b c:Expr}{w:DA}{px py pz pt:Pos}{kt k2 Ra}(hN:X.N.Nodup)(hi:X.N[i]?=some x)(hj:X.N[j]?=some y)(hk:X.N[k]?=some z)(Io:i≠j)(Ys:i≠k)(Yr:j≠k)
 (hx:X.env.scope.names.lookup x=some .local) (hy:X.env.scope.names.lookup y=some .local) (hz:X.env.scope.names.lookup z=some .local) (ha:vR X [a,b,c] w) (hc:X.gg=true:=by rfl)
 (hw:swappedStores [.Tuple [.Name x px,.Name y py,.Name z pz] kt pt] (.Tuple [a,b,c] k2 Ra) X.env=pure (some [x,y,z]):=by rfl)
 (hs:swapsWithSole [.Tuple [.Name x px,.Name y py,.Name z pz] kt pt] (.Tuple [a,b,c] k2 Ra) pos.line X.env=pure false:=by rfl) :
 wZ X (.Assign [.Tuple [.Name x px,.Name y py,.Name z pz] kt pt] (.Tuple [a,b,c] k2 Ra) pos) (VT i j k w):=(Nw hc hN hi hj hk Io Ys Yr hx hy hz ha hw hs).imp fun E σ H ⟨φ,ρ,μ,N,A,M,w,L⟩ =>
 ⟨φ,ρ,μ,_,A,M,w,fun ds eF eZ vs H1 k1 f1 M1 i1=>by
  split at k1
  .obtain⟨v1,r1,rfl,g1,v2,r2,rfl,g2,v3,r3,rfl,g3,g4⟩:=i1
   cases(show r3=[]from g4)
   exact⟨_,_,_,rfl,L.nx _ eF eZ _ H1 k1 f1 ((((A.mono f1).set g1 i).set g2 j).set g3 k) M1⟩
  .exact k1.elim⟩
end
def kH {μ g:MS}{x:MO}:(μ++x::g)[μ.length]?=some x:=by rw[oP (aj _),aR];rfl
def oj {μ g:MS}{x y:MO}:(μ++x::g).set μ.length y=μ++y::g:=by rw[List.set_append_right _ _ (aj _),aR];rfl
def Kl {cs:List Nat}(h1:1<=cs.length)(h2:cs.length<=8)(h:∀ c∈cs,97<=c/\c<=122):gB (txt cs)=true:=by
 unfold gB
 rw[show(txt cs).length=cs.length from EM cs,ar h1,ar h2]
 show(cs.all _)=true
 rw[cI]
 intro c hc
 obtain⟨a,b⟩:=h c hc
 rw[ar a,ar b];rfl
def S9 {v:Int}(h0:0<=v)(h1:v<26):∃ c,pJ (Str.ofString "abcdefghijklmnopqrstuvwxyz").cps.toList v=some c/\97<=c/\c<=122:=by
 obtain⟨c,e,hc⟩:=yF (l:=(Str.ofString "abcdefghijklmnopqrstuvwxyz").cps.toList) h0 h1
 have:((Str.ofString "abcdefghijklmnopqrstuvwxyz").cps.toList.all fun c=>decide (97<=c)&&decide (c<=122))=true:=by decide +kernel
 have:=List.all_eq_true.mp this c hc
 simp only[aT,bh]at this
 exact⟨c,e,this⟩
def Zl {α:Type}{xs:List α}{v:Int}(h0:0<=v)(h1:v<(xs.length:Int)):∃ x∈xs,pJ xs v=some x:=by
 obtain⟨n,rfl⟩:∃ n:Nat,v=(n:Int):=⟨v.toNat,by lia⟩
 have hn:n<xs.length:=by lia
 exact⟨xs[n],c4 hn,lZ (sP hn)⟩
def kI {α β:Type}{g:α->β}{xs:List α}{v:Int}(h0:0<=v)(h1:v<(xs.length:Int)):∃ x∈xs,pJ (xs.map g) v=some (g x):=by
 obtain⟨n,rfl⟩:∃ n:Nat,v=(n:Int):=⟨v.toNat,by lia⟩
 have hn:n<xs.length:=by lia
 exact⟨xs[n],c4 hn,o3 (sP hn)⟩
def NA {dE pre post:List (Str×Pt)}{γ:Type}{g:Str->γ}{z:Str}{y:Pt}(nd:(dE.map (·.1)).Nodup)(hs:dE=pre++(z,y)::post) :
 d9 dE z=some y/\iZ dE z=pre.length/\pre.length<dE.length/\d9 (pre.map fun p=>(p.1,g p.1)) z=none/\∀ w,iZ dE w<pre.length->d9 (pre.map fun p=>(p.1,g p.1)) w=some (g w):=by
 have hz:z∉pre.map (·.1):=fun q=>by
  rw[hs,aF,bL]at nd
  exact nd.2.2 z q z (List.mem_map.mpr ⟨_,aH,rfl⟩) rfl
 refine⟨gY nd (by rw[hs];exact aO _ aH),?_,by rw[hs,j3,aI];lia,?_,fun w hw=>?_⟩
 .unfold iZ
  rw[hs,aF,cx,aq hz,aw,bI,show((z,y).1==z)=true from cF _,fH]
  simp
 .cases q:d9 (pre.map fun p=>(p.1,g p.1)) z with
  | none=>rfl
  | some w =>
   have:=fO.mp (show(d9 (pre.map fun p=>(p.1,g p.1)) z).isSome=true by rw[q];rfl)
   rw[aJ]at this
   exact absurd this hz
 .have Si:w∈pre.map (·.1):=by
   unfold iZ at hw
   rw[hs,aF,cx]at hw
   by_cases q:w∈pre.map (·.1)
   .exact q
   .rw[aq q,fH]at hw;lia
  obtain⟨p,hp,rfl⟩:=List.mem_map.mp Si
  have RM:((pre.map fun p=>(p.1,g p.1)).map (·.1)).Nodup:=by
   rw[aJ]
   rw[hs,aF,bL]at nd
   exact nd.1
  exact gY RM (List.mem_map.mpr ⟨p,hp,rfl⟩)
def Md {dE:List (Str×Pt)}(nd:(dE.map (·.1)).Nodup){p:Str×Pt}(hp:p∈dE):d9 (Me dE) p.1=some (gq dE p.1).2:=by
 refine gY ?_ (List.mem_map.mpr ⟨p,hp,rfl⟩)
 unfold Me
 rw[aJ]
 exact nd
def HF (l:List Nat):((List.range l.length).filterMap fun i=>some (D.str ⟨#[l.getD i 0]⟩))=l.map fun c=>D.str ⟨#[c]⟩:=by
 rw[show(fun i=>some (D.str ⟨#[l.getD i 0]⟩))=some ∘ (fun i:Nat=>D.str ⟨#[l.getD i 0]⟩)from rfl,cQ]
 refine List.ext_getElem? fun i=>?_
 rw[vB,vB]
 by_cases h:i<l.length
 .rw[c7 h,sP h]
  simp[a9,h]
 .rw[cP (by rw[MJ];lia),cP (by lia)];rfl
def TV (c:Dt)(ρ:DE)(μ:MS)(b:Bool):Prop:=∀ K:Bool->MS->Prop,K b μ->c ρ μ K
section
variable {a c:Dt}{t u:Ds}{N:DN}{ρ:DE}{μ:MS}{x y b:Bool}{e:De}
def TV.gZ (h:∀ K:DK,K (.bl b) μ->e ρ μ K):TV (sF e) ρ μ b:=fun K k=>h _ k
def TV.and (h1:TV a ρ μ x)(h2:x=true->TV c ρ μ y):TV (Lk a c) ρ μ (x&&y):=fun K k=>h1 _ (by
 cases x with
 | true=>rw[au rfl];exact h2 rfl K k
 | false=>rw[aq (by decide)];exact k)
def TV.or (h1:TV a ρ μ x)(h2:x=false->TV c ρ μ y):TV (Sx a c) ρ μ (x||y):=fun K k=>h1 _ (by
 cases x with
 | true=>rw[au rfl];exact k
 | false=>rw[aq (by decide)];exact h2 rfl K k)
def TV.not (h1:TV a ρ μ x):TV (Qr a) ρ μ (!x):=fun K k=>h1 _ k
def TV.to (h:TV a ρ μ x)(e:x=y):TV a ρ μ y:=e▸h
def eM (b:Bool)(h:TV c ρ μ b)(ht:b=true->t N ρ μ)(hu:b=false->u N ρ μ):SO c t u N ρ μ:=h _ (by
 cases b with
 | true=>rw[au rfl];exact ht rfl
 | false=>rw[aq (by decide)];exact hu rfl)
end
def fw {N:DN}{ρ:DE}{μ:MS}(h:N.nx ρ μ):dNx N ρ μ:=h
def wQ {i:Nat}{w:De}{N:DN}{ρ:DE}{μ μ':MS}{d:D}(h:∀ K:DK,K d μ'->w ρ μ K)(k:N.nx (ρ.set i (some d)) μ'):IG i w N ρ μ:=h _ k
def zq {μ:MS}{a b:MO}:(μ++[a,b])[μ.length+1]?=some b:=by rw[oP (by lia),b8];rfl
def Am {μ:MS}{a b y:MO}:(μ++[a,b]).set (μ.length+1) y=μ++[a,y]:=by rw[List.set_append_right _ _ (by lia),b8];rfl
def dM {α β:Type}(κ:α->Key)(f:β->D)(l:List (α×β)):MO:=.jr (l.map fun p=>κ p.1) (l.map fun p=>f p.2)
section
variable {α β:Type}[DecidableEq α]{κ:α->Key}(hi:∀ a b,κ a=κ b->a=b){f:β->D}{μ:MS}{j:Nat}{l:List (α×β)}
include hi
def qc (hj:μ[j]?=some (dM κ f l))(hl:l.length<sizeLine){i:D}{k:α}(hk:oM i=some (κ k))(v:β){d:D}(hd:d=f v){P:MS->Prop}(h:P (μ.set j (dM κ f (gF l k v)))) :
 ∃ kd Ei:List (Key×D),μ[j]?=some (.jr (kd.map (·.1)) (kd.map (·.2)))/\kd.length<sizeLine/\(oM i).map (fun k=>dput kd k d)=some Ei/\P (μ.set j (.jr (Ei.map (·.1)) (Ei.map (·.2)))):=by
 subst hd
 obtain⟨e1,e2⟩:=gW κ f l
 refine⟨l.map fun p=>(κ p.1,f p.2),_,by rw[hj,<- e1,<- e2];rfl,by rw[kd_len];exact hl,by rw[hk];rfl,?_⟩
 show P (μ.set j (.jr ((dput _ (κ k) (f v)).map (·.1)) ((dput _ (κ k) (f v)).map (·.2))))
 rw[Fd hi f k v l,<- (gW κ f _).1,<- (gW κ f _).2]
 exact h
def pop_at (hj:μ[j]?=some (dM κ f l)){i:D}{k:α}(hk:oM i=some (κ k)){v:β}(he:d9 l k=some v){P:D->MS->Prop}(h:P (f v) (μ.set j (dM κ f (iH l k)))) :
 ∃(kd:List (Key×D)) (k':Key) (d:D),μ[j]?=some (.jr (kd.map (·.1)) (kd.map (·.2)))/\oM i=some k'/\qE kd k'=some d/\P d (μ.set j (.jr ((kd.filter fun p=>decide (p.1≠k')).map (·.1)) ((kd.filter fun p=>decide (p.1≠k')).map (·.2)))):=by
 obtain⟨e1,e2⟩:=gW κ f l
 refine⟨l.map fun p=>(κ p.1,f p.2),κ k,f v,by rw[hj,<- e1,<- e2];rfl,hk,by rw[Bd hi f k l,he];rfl,?_⟩
 rw[GQ hi f k l,<- (gW κ f _).1,<- (gW κ f _).2]
 exact h
end
def rm {μ:MS}{j:Nat}{ks:List Key}{ds:List D}(h:μ[j]?=some (.jr ks ds)):vZ μ j=some (ks,ds):=by unfold vZ;rw[h]
def Fo {α β:Type}[DecidableEq α]{l:List (α×β)}{k:α}(h:d9 l k=none):iH l k=l:=by
 unfold iH
 refine List.filter_eq_self.mpr fun p hp=>ar fun e=>?_
 have:=fO.mpr (List.mem_map.mpr ⟨p,hp,rfl⟩:p.1∈l.map (·.1))
 rw[e,h]at this
 cases this
def Hj {α β:Type}[DecidableEq α]{l:List (α×β)}{k:α}{v:β}:(gF l k v).length<=l.length+1:=by
 unfold gF
 split
 .rw[fH];lia
 .rw[j3,aN];exact aj _
def D0 {n:Nat}{ds:List D}{R:D->D->Prop}(hR:∀ d,yP n d->R d d)(h:rk n ds):wt R ds ds:=⟨rfl,fun i a b e1 e2=>by
 rw[e1]at e2;cases e2
 exact hR a (wD h (A1 e1))⟩
def Ox {μ:MS}{n:Int}{o1 o2:Obj}{k1 k2:List (Key×V)}{d1 d2:List D}(h1:rk μ.length d1)(h2:rk μ.length d2):yN μ.length (μ++[.oR o1 k1 d1,.oR o2 k2 d2]) 2 (.tup [.int n,.mr μ.length,.mr (μ.length+1)]) (.tup [.int n,.mE (k1.map (·.1)) d1,.mE (k2.map (·.1)) d2]):=by
 have WH:∀ d,yP μ.length d->yN μ.length (μ++[.oR o1 k1 d1,.oR o2 k2 d2]) 0 d d:=fun d h=>⟨rfl,h⟩
 refine .inr (.inr (.inr (.inl ⟨_,_,rfl,rfl,rfl,fun i a b e1 e2=>?_⟩)))
 match i with
 | 0=>cases e1;cases e2;exact .inl ⟨rfl,trivial⟩
 | 1=>cases e1;cases e2;exact .inr (.inr (.inr (.inr (.inl ⟨_,o1,k1,d1,d1,rfl,aj _,kH,rfl,D0 WH h1⟩))))
 | 2=>cases e1;cases e2;exact .inr (.inr (.inr (.inr (.inl ⟨_,o2,k2,d2,d2,rfl,Nat.le_succ _,zq,rfl,D0 WH h2⟩))))
 | i+3=>cases e1
def Kq (dE:List (Str×Pt)):(dE.filterMap fun p=>if(dE.any fun q=>hJ p.1 q.2)=true then none else some (D.str p.1))=(rL dE).map D.str:=by
 unfold rL
 have key:∀ l:List (Str×Pt),(l.filterMap fun p=>if(dE.any fun q=>hJ p.1 q.2)=true then none else some (D.str p.1))=((l.map (·.1)).filter fun z=>!dE.any fun p=>hJ z p.2).map D.str:=by
  intro l
  induction l with
  | nil=>rfl
  | cons p l ih =>
   rw[bS,aw,bg]
   by_cases q:(dE.any fun q=>hJ p.1 q.2)=true
   .rw[au q,aq (by rw[q];decide)];exact ih
   .rw[aq q,au (by rw[Bool.not_eq_true]at q;rw[q];rfl),aw,ih]
 exact key dE
def kW (S:RS)(fA:List Str):List Str:=fA.filter fun z=>!(d9 S.dE z).isSome&&decide (S.dE.length<20)
def Iv (S:RS)(fA:List Str):(fA.filterMap fun z=>if(!(d9 S.dE z).isSome&&decide (S.dE.length<20))=true then some (D.str z)else none)=(kW S fA).map D.str:=by
 unfold kW
 induction fA with
 | nil=>rfl
 | cons z fA ih =>
  rw[bS,bg]
  by_cases q:(!(d9 S.dE z).isSome&&decide (S.dE.length<20))=true
  .rw[au q,au q,aw,ih]
  .rw[aq q,aq q];exact ih
def zO {S:RS}{fA:List Str}(h:oE fA){z:Str}(hz:z∈kW S fA):jL S z=none/\z.length<=8:=by
 unfold kW at hz
 obtain⟨hz,q⟩:=List.mem_filter.mp hz
 simp only[aT,Bool.not_eq_true',bh]at q
 have hn:=h.2.2 z hz
 refine⟨?_,?_⟩
 .unfold jL gR
  rw[hn,q.1,aq (by decide),aq (by decide),aq (by lia)]
 .unfold gB at hn
  simp only[aT,bh]at hn
  exact hn.1.2
def Iw {S:RS}{fA:List Str}(h:oE fA)(h0:S.dE=[]):0<(kW S fA).length:=by
 unfold kW
 rw[h0]
 have:(fA.filter fun z=>!(d9 ([]:List (Str×Pt)) z).isSome&&decide (([]:List (Str×Pt)).length<20))=fA:=List.filter_eq_self.mpr fun z _=>rfl
 rw[this]
 have:=h.1
 lia
def PN {a b:Option Nat}(h1:a=none)(h2:b=none):a.or b=none:=by rw[h1,h2];rfl
def EU {S:RS}{p:Str×Pt}(hp:p∈S.dE):gR S p.1=true:=fO.mpr (List.mem_map.mpr ⟨p,hp,rfl⟩)
def xG {S:RS}{p:Int}(h1:1<=p)(h2:p<S.n):gu S p=none:=by unfold gu;rw[au ⟨h1,h2⟩]
def Mf {a:Int}(h1:0<=a)(h2:a<=20):kL a=none:=by unfold kL;rw[au ⟨h1,h2⟩]
def Nn {S:RS}{z:Str}{l:List Nat}{a:Int}(h:jL S z=none)(hl:(l.length:Int)=S.n)(ho:OX l)(a0:0<=a)(a1:a<=20):my S (.put z (txt l) a)=none:=by
 refine PN h ?_
 have:BO (txt l)=true:=by
  unfold BO
  refine List.all_eq_true.mpr fun c hc=>?_
  rcases ho c hc with q | q <;> rw[q]<;> rfl
 show(if(((txt l).length:Nat):Int)=S.n/\BO (txt l)=true then kL a else some 0)=none
 rw[au ⟨by rw[mR];exact hl,this⟩]
 exact Mf a0 a1
def JF {S:RS}{z:Str}{p q:Str×Pt}{i:Int}(h:jL S z=none)(hp:p∈S.dE)(hq:q∈S.dE)(hi:i∈pj S):my S (.join z p.1 q.1 i)=none:=by
 refine PN h ?_
 unfold pj at hi
 obtain⟨hi,e⟩:=List.mem_filter.mp hi
 obtain⟨j,hj,rfl⟩:=List.mem_map.mp hi
 have hj:=List.mem_range.mp hj
 have e:(d9 S.fI (1+(j:Int))).isSome=false:=by simpa using e
 show(if gR S p.1=false then some 11 else if gR S q.1=false then some 11 else(gu S _).or (if(d9 S.fI _).isSome=true then some 12 else none))=none
 rw[EU hp,EU hq,aq (by decide),aq (by decide),e,aq (by decide),xG (by lia) (by lia)]
 rfl
def JG {S:RS}{z:Str}(h:z∈rL S.dE):my S (.drop z)=none:=by
 unfold rL at h
 obtain⟨h1,h2⟩:=List.mem_filter.mp h
 have hh:gR S z=true:=fO.mpr h1
 have hn:lP S z=false:=by unfold lP;simpa using h2
 show(if gR S z=false then some 11 else if lP S z=true then some 14 else none)=none
 rw[hh,hn,aq (by decide),aq (by decide)]
def zu {S:RS}{p:Str×Pt}{bar:Int}{sg:Str}(hp:p∈S.dE)(h1:0<=bar)(h2:bar<S.n)(hs:sg = "o"\/sg = "x"):my S (.found p.1 bar sg)=none:=by
 show(if gR S p.1=false then some 11 else if 0<=bar/\bar<S.n then(if sg = "o"\/sg = "x" then none else some 0)else some 6)=none
 rw[EU hp,aq (by decide),au ⟨h1,h2⟩,au hs]
def Qc:Pt->Bool
 | .fst _ _=>true
 | .jn _ _ _=>false
def DP {it:D->MS->(Option D->MS->Prop)->Prop}{c:MS->Prop}{μ:MS}:∀(l:List Int),c μ->∀ {K:List D->MS->Prop},(∀ x∈l,∀(K':Option D->MS->Prop),(∀ a:Nat,97<=a/\a<=122->K' (some (.str ⟨#[a]⟩)) μ)->it (.int x) μ K')->(∀ cs:List Nat,cs.length=l.length->(∀ a∈cs,97<=a/\a<=122)->K (cs.map fun a=>.str ⟨#[a]⟩) μ)->qH it c (l.map D.int) μ K
 | [],hc,K,_,k=>⟨hc,k [] rfl fun _ h=>nomatch h⟩
 | x::l,hc,K,h,k=>⟨hc,h x aH _ fun a ha=>DP l hc (fun y hy=>h y (oO _ hy)) fun cs cl cr=>k (a::cs) (by rw[aI,aI,cl]) fun b hb=>by
  rcases List.mem_cons.mp hb with q | q
  .rw[q];exact ha
  .exact cr b q⟩
end L2
namespace L2
open PySem PySem.W PyProof.Rows
noncomputable abbrev Ac:=Fast.tw10156331382660048174
noncomputable abbrev Jn:=Fast.tw11892475500146522536
noncomputable def Nm (p:ae)(w:af)(n₀:Nat)(ann:Option Value):Nat->SharedT->Thread->Option SharedT
 | 0,_,_=>none
 | n+1,s,t=>match through t with
  | true=>some s
  | false=>match stepOk n₀ ann t with
   | false=>none
   | true=>match Ac (Jn xf) p w s t with
    | some (s',t')=>Nm p w n₀ ann n s' t'
    | none=>none
def Ge {p:ae}{w:af}{n₀:Nat}{ann:Option Value}:∀ {n:Nat} {s s':SharedT} {t:Thread},Nm p w n₀ ann n s t=some s'->topRun treeTable p w n₀ ann n s.abs t=some s'.abs
 | 0,_,_,_,h=>by cases h
 | n+1,s,s',t,h=>by
  unfold Nm at h
  unfold topRun
  cases he:through t with
  | true=>rw[he]at h;cases h;rfl
  | false =>
   rw[he]at h
   cases hk:stepOk n₀ ann t with
   | false=>rw[hk]at h;cases h
   | true =>
    rw[hk]at h
    cases hs:Ac (Jn xf) p w s t with
    | none=>rw[hs]at h;cases h
    | some r =>
     obtain⟨s2,t2⟩:=r
     rw[hs]at h
     have hs':stepT (denote treeTable) p w s t=some (s2,t2):=by
      rw[show stepT=Ac from Fast.te10156331382660048174,show denote=Jn from Fast.te11892475500146522536,show treeTable=xf from Fast.te14364793385576792824];exact hs
     rw[stepT_spec hs'];exact Ge h
noncomputable def boT (P:Params):BT:=(.node (boot_o_0 P) (.node (boot_o_1 P) (.node (boot_o_3 P) (.node (boot_o_7 P) .nil .nil) .nil) (.node (boot_o_5 P) (.node (boot_o_9 P) .nil .nil) .nil)) (.node (boot_o_2 P) (.node (boot_o_4 P) (.node (boot_o_8 P) .nil .nil) .nil) (.node (boot_o_6 P) (.node (boot_o_10 P) .nil .nil) .nil)))
noncomputable abbrev ST0 (w:af)(os:OsState):SharedT:=⟨boT w.params,11,(boot_heap w.params).life,#[],boot_drawn,boot_toks,os⟩
def OY (w:af)(os:OsState):(ST0 w os).abs=Xb w os:=by kernel_rfl
end L2
namespace L2
open PySem PySem.Spec PyProof.Rows PyProof PySem.W
def BF (p q:ae)(loose:List Str)(Xt:ah->Bool){α:Type}(Yf:ah->α)(Ya:af->α)(M:Nat)(row:String)(b:Bool):Prop:=∀(w:af) (os:OsState),(FJ xf p (w.withFollow row b) 11 (some (.ref 6)) M (Xb w os) (topStub p)).map (fun s =>
 (W.staticsOk (importedModules p.main.body) (W.boot_heap w.params) s.heap&&W.namesBound p s.heap&&W.gensDone s&&W.laidKept (W.boot_heap w.params) s.heap,Ek q loose (importedModules p.main.body) Xt true s,Yf s))=some (true,W.openGood q loose,Ya w)
def Ks {p q:ae}{loose:List Str}{Xt:ah->Bool}{α:Type}{Yf:ah->α}{Ya:af->α}{N M:Nat}{row:String}
 (e:W.opening p=W.plainProg p.main.scope.names) (hN:Nat.ble 600 N=true) (f:∀ s,fenceModules? p s=some s) (le:Nat.ble M N=true)
 (h0:BF p q loose Xt Yf Ya M row false) (h1:BF p q loose Xt Yf Ya M row true):W.LeftO p q loose Xt Yf Ya N:=N9 e hN f le fun w os=>by
 have h:∀ b,BF p q loose Xt Yf Ya M row b:=fun b=>by cases b;exact h0;exact h1
 have:=h (w.params.followText row) w os
 rwa [World.withFollow_self]at this
def Hl (p q:ae)(loose:List Str)(Xt:ah->Bool){α:Type}(Yf:ah->α)(Ya:af->α)(M:Nat)(row:String)(b:Bool):Prop:=∀(w:af) (os:OsState),(Nm p (w.withFollow row b) 11 (some (.ref 6)) M (ST0 w os) (topStub p)).map (fun s =>
 (W.staticsOk (importedModules p.main.body) (W.boot_heap w.params) s.abs.heap&&W.namesBound p s.abs.heap&&W.gensDone s.abs&&W.laidKept (W.boot_heap w.params) s.abs.heap,Ek q loose (importedModules p.main.body) Xt true s.abs,Yf s.abs))=some (true,W.openGood q loose,Ya w)
def Hl.at {p q:ae}{loose:List Str}{Xt:ah->Bool}{α:Type}{Yf:ah->α}{Ya:af->α}{M:Nat}{row:String}{b:Bool}(h:Hl p q loose Xt Yf Ya M row b):BF p q loose Xt Yf Ya M row b:=fun w os=>by
 obtain⟨sT,r,e⟩:=Option.map_eq_some_iff.mp (h w os)
 have r2:=Ge r
 rw[OY,show topRun=FJ from Fast.te14082659384304107361,show treeTable=xf from Fast.te14364793385576792824]at r2
 rw[r2]
 exact bx some e
def Pw {n:Nat}(e:Dd):n6 (n+1) (kZ e):=by
 cases e <;> refine rT (by simp only[aI,bN];lia) (fun d hd=>?_)<;> simp only[bH,bp,cL]at hd
 .rcases hd with rfl | rfl | rfl | rfl <;> first | exact jF | exact lL
 .rcases hd with rfl | rfl | rfl | rfl | rfl <;> first | exact jF | exact lL
 .rcases hd with rfl | rfl | rfl | rfl <;> first | exact jF | exact lL
 .rcases hd with rfl | rfl | rfl <;> first | exact jF | exact lL
 .rcases hd with rfl | rfl <;> first | exact jF | exact lL
 .rcases hd with rfl | rfl <;> first | exact jF | exact lL
 .rcases hd with rfl | rfl <;> first | exact jF | exact lL
def JC {n:Nat}{rs:List Dd}(h:rs.length<=100000):n6 (n+2) (.lst (rs.map kZ)):=xp (by rw[fH];exact h) fun d hd=>by
 obtain⟨q,_,rfl⟩:=List.mem_map.mp hd;exact Pw q
def nI {cR cS:ai}{μ:MS}{k j1 j2 d:Nat}{ss:List RS}{rs:List Dd}(ra:fo cR cS μ k j1 j2 ss rs d){nm:Str}(hn:m5 nm vh [.mr j1,.mr j2,.int (d:Int)]=none):rK cR nm μ (.mr k):=by
 show(lV _ _ _).map _=_
 rw[fM ra.ins]
 exact bx some hn
end L2
namespace L2
open PySem PySem.Spec PyProof.Rows PyProof
def yf (cR cS cN:ai):i9:=fun ds μ K Kx=>match ds with
 | [.mr k]=>(∃ m,μ[0]?=some m)/\∃ j1 j2 ss rs d,fo cR cS μ k j1 j2 ss rs d/\(match d with | 0=>Kx (.ref cN) μ | d'+1=>∀ e,rs[d']?=some e->K (kZ e) (jG cR cS μ k j1 j2 ss rs d'))
 | _=>False
def E4 {cR cS cN:ai}{ds:List D}{μ:MS}{K:DK}{Kx:DX}(h:yf cR cS cN ds μ K Kx):ds.length=1/\∃ m,μ[0]?=some m:=by
 unfold yf at h
 split at h
 .exact⟨rfl,h.1⟩
 .cases h
section
variable {dE:List (Str×Pt)}{z:Str}{b b':List Nat}{a:Int}(h:d9 dE z=some (.fst b a))
include h
end
def zs {n:Nat}(h:Nat.ble n 100=true:=by rfl):n<=sizeLine:=aE (Nat.le_of_ble_eq_true h) (sz (by decide))
section
variable {X:Cx}{a b e e1 e2 e3:Expr}{wa wb w w1 w2 w3:De}{pos p:Pos}
def a1 (h:PD X e w)(s:starEach [e] X.env=(false,eval e X.env)::starEach [] X.env:=by rfl):vR X [e] (vE w Ff):=dP h fV s
def a2 (h:PD X e w)(h1:PD X e1 w1)(s:starEach [e,e1] X.env=(false,eval e X.env)::starEach [e1] X.env:=by rfl)(s1:starEach [e1] X.env=(false,eval e1 X.env)::starEach [] X.env:=by rfl):vR X [e,e1] (vE w (vE w1 Ff)):=dP h (a1 h1 s1) s
def a3 (h:PD X e w)(h1:PD X e1 w1)(h2:PD X e2 w2)(s:starEach [e,e1,e2] X.env=(false,eval e X.env)::starEach [e1,e2] X.env:=by rfl)(s1:starEach [e1,e2] X.env=(false,eval e1 X.env)::starEach [e2] X.env:=by rfl)(s2:starEach [e2] X.env=(false,eval e2 X.env)::starEach [] X.env:=by rfl):vR X [e,e1,e2] (vE w (vE w1 (vE w2 Ff))):=dP h (a2 h1 h2 s1 s2) s
def fu (ha:PD X a wa)(hb:PD X b wb)(hs:BB b:=by exact fun _ _=>rfl):PD X (.Subscript a b pos) (Bl Y6 wa wb):=YQ KI Ur ha hb hs
def pP (ha:PD X a wa)(hb:PD X b wb):PD X (.BinOp a .Add b pos) (Bl (OM false) wa wb):=ub Mh QV ha hb
def OH (ha:PD X a wa)(hb:PD X b wb):PD X (.BinOp a .Sub b pos) (Bl (yy fun i j=>.int (i - j)) wa wb):=ub HA QU ha hb
def Gh (ha:PD X a wa)(hb:PD X b wb):PT X (.Compare a [.Lt] [b] pos) (yT (sF (Bl (yy fun i j=>.bl (decide (i<j))) wa wb))):=oU ltC uA ha hb (ir _)
def UH (ha:PD X a wa)(hb:PD X b wb):PT X (.Compare a [.LtE] [b] pos) (yT (sF (Bl (yy fun i j=>.bl (decide (i<=j))) wa wb))):=oU XY uA ha hb (ir _)
def HG (ha:PD X a wa)(hb:PD X b wb):PT X (.Compare a [.Gt] [b] pos) (yT (sF (Bl (yy fun i j=>.bl (decide (j<i))) wa wb))):=oU gtC uA ha hb (ir _)
def UI (ha:PD X a wa)(hb:PD X b wb):PT X (.Compare a [.GtE] [b] pos) (yT (sF (Bl (yy fun i j=>.bl (decide (j<=i))) wa wb))):=oU geC uA ha hb (ir _)
def mK (ha:PD X a wa)(hb:PD X b wb):PT X (.Compare a [.Eq] [b] pos) (yT (sF (Bl (OL false) wa wb))):=oU VD xn ha hb (ir _)
def Nt (ha:PD X a wa)(hb:PD X b wb):PT X (.Compare a [.NotEq] [b] pos) (yT (sF (Bl (OL true) wa wb))):=oU BP xn ha hb (ir _)
def we (T:jx X.mg)(h:PD X e w)(hg:Gl X "len":=by rfl)(he:starEach [e] X.env=(false,eval e X.env)::starEach [] X.env:=by rfl)(lW:(backTo pos (starEach [] X.env)).any (·.1)=false:=by rfl):PD X (.Call (.Name "len" p) [e] [] pos) (zR Su (vE w Ff)):=rQ N8 QS hg T.len cW (a1 h he) (by decide) (by decide) he lW
section
variable {es:List Expr}{x:Str}{k k0:Nat}{ps:List Str}{f:jJ}{fx:i9}{u:DA}
def qC (C:pO X.prog X.w X.K X.mg X.dD x k ps (hV f))(hr:iz k0 X.A)(ha:vR X (e::es) u)(hk:k<=k0:=by first | decide | exact aj _ | lia)(hg:Gl X x:=by rfl)(uN:(x==("__debug__" : Str))=false:=by decide)(he:starEach (e::es) X.env=(false,eval e X.env)::starEach es X.env:=by rfl)(lW:(backTo pos (starEach es X.env)).any (·.1)=false:=by rfl) :
 PD X (.Call (.Name x p) (e::es) [] pos) (zR f u):=SI C (hr.mono hk) hg ha uN he lW
end
def qS (i:Nat){x:Str}{pos':Pos}(hN:X.N.Nodup)(he:PD X e w)(hi:X.N[i]?=some x:=by rfl)(hx:Loc X.env.scope x:=by first | exact Or.inl rfl | exact Or.inr rfl)(hf:X.fn x=true\/X.env.scope.names.lookup x=some .local:=by first | exact .inl rfl | exact .inr rfl | assumption)
 (KR:swapsWith e (some (.Name x pos')) pos.line X.env=pure false:=by rfl):wZ X (.Assign [.Name x pos'] e pos) (IG i w):=Uw hN hi hx he hf KR
def qN (i:Nat){x:Str}(hN:X.N.Nodup)(hi:X.N[i]?=some x:=by rfl)(hx:Loc X.env.scope x:=by first | exact Or.inl rfl | exact Or.inr rfl)(hf:X.fn x=true\/X.env.scope.names.lookup x=some .local:=by first | exact .inl rfl | exact .inr rfl | assumption):PG X (.Name x pos) (tR i):=wA hN hi hx hf
def qT (i:Nat){x:Str}(hN:X.N.Nodup)(hi:X.N[i]?=some x:=by rfl)(hx:Loc X.env.scope x:=by first | exact Or.inl rfl | exact Or.inr rfl)(hf:X.fn x=true\/X.env.scope.names.lookup x=some .local:=by first | exact .inl rfl | exact .inr rfl | assumption):Tg X (.Name x pos) (tR i) (Bf i) [i]:=⟨wA hN hi hx hf,eB i,dF i⟩
def zW {N0 ps N:List Str}{js:List (Option Nat)}{sc Xy:Scope}(S:d8 N0 ps Xy)(h:Bq N0 Xy N js sc=true)(hN:X.N=N0:=by rfl)(hs:X.env.scope=Xy:=by rfl):i8 X N js sc:=LK h hN hs
section
variable {tg iter elt:Expr}{ifs:List Expr}{sc:Scope}{N:List Str}{js:List (Option Nat)}{g:TG}{y:DG}{S:List Nat}{t:Dt}{wi:DI}
def sCp (i:Nat)(m:Bool){pos' xl:Pos}{x:Str}(hN:X.N.Nodup)(hc:i8 X N js sc)(so:IW g y S)(mo:n5 g)(hi:Fs X tg iter wi)(hg:∀ fp s H,N.Nodup->PG (l9 X N sc fp s H) tg g)
 (ht:∀ fp s H,zj (l9 X N sc fp s H) ifs t) (he:∀ fp s H,PD (l9 X N sc fp s H) elt w) (ho:qg S js=true:=by rfl) (gg:X.gg=true:=by rfl) (CZ:X.N[i]?=some x:=by rfl) (hx:Loc X.env.scope x:=by first | exact Or.inl rfl | exact Or.inr rfl) (KR:swapsWith (.ListComp elt [⟨tg,iter,ifs,0⟩] sc pos) (some (.Name x pos')) xl.line X.env=pure true:=by rfl)
 (hs:∀ x,foldedSetIterable iter X.env x=pure x:=by intro _;rfl) (hf:X.fn x=true\/X.env.scope.names.lookup x=some .local:=by first | exact .inl rfl | exact .inr rfl | assumption) :
 wZ X (.Assign [.Name x pos'] (.ListComp elt [⟨tg,iter,ifs,0⟩] sc pos) xl) (IG i (vF m wi js y t w)):=HE m hc gg so mo ho hN CZ hx hi (fun fp s H=>hg fp s H hc.nd) ht he KR hs hf
def dCp (m:Bool)(hc:i8 X N js sc)(so:IW g y S)(mo:n5 g)(hi:Fs X tg iter wi)(hg:∀ fp s H,N.Nodup->PG (l9 X N sc fp s H) tg g)(ht:∀ fp s H,zj (l9 X N sc fp s H) ifs t)(he:∀ fp s H,PD (l9 X N sc fp s H) elt w)(ho:qg S js=true:=by rfl)(gg:X.gg=true:=by rfl)
 (hs:∀ x,foldedSetIterable iter X.env x=pure x:=by intro _;rfl):PD X (.ListComp elt [⟨tg,iter,ifs,0⟩] sc pos) (vF m wi js y t w):=SH m hc gg so mo ho hi (fun fp s H=>hg fp s H hc.nd) ht he hs
def WI (i:Nat)(m:Bool){pos' xl:Pos}{x:Str}(hN:X.N.Nodup)(hc:i8 X N js sc)(hi:Fs X tg iter wi)(hg:∀ fp s H,N.Nodup->PG (l9 X N sc fp s H) tg (tR 0))
 (ht:∀ fp s H,zj (l9 X N sc fp s H) ifs t) (he:∀ fp s H,PD (l9 X N sc fp s H) elt w) (ho:qg [0] js=true:=by rfl) (gg:X.gg=true:=by rfl) (CZ:X.N[i]?=some x:=by rfl) (hx:Loc X.env.scope x:=by first | exact Or.inl rfl | exact Or.inr rfl) (KR:swapsWith (.ListComp elt [⟨tg,iter,ifs,0⟩] sc pos) (some (.Name x pos')) xl.line X.env=pure true:=by rfl)
 (hs:∀ x,foldedSetIterable iter X.env x=pure x:=by intro _;rfl) (hf:X.fn x=true\/X.env.scope.names.lookup x=some .local:=by first | exact .inl rfl | exact .inr rfl | assumption) :
 wZ X (.Assign [.Name x pos'] (.ListComp elt [⟨tg,iter,ifs,0⟩] sc pos) xl) (IG i (vF m wi js (Bf 0) t w)):=sCp i m hN hc (eB 0) (dF 0) hi hg ht he ho gg CZ hx KR hs hf
def GZ (m:Bool)(hc:i8 X N js sc)(hi:Fs X tg iter wi)(hg:∀ fp s H,N.Nodup->PG (l9 X N sc fp s H) tg (tR 0))(ht:∀ fp s H,zj (l9 X N sc fp s H) ifs t)(he:∀ fp s H,PD (l9 X N sc fp s H) elt w)(ho:qg [0] js=true:=by rfl)(gg:X.gg=true:=by rfl)
 (hs:∀ x,foldedSetIterable iter X.env x=pure x:=by intro _;rfl):PD X (.ListComp elt [⟨tg,iter,ifs,0⟩] sc pos) (vF m wi js (Bf 0) t w):=dCp m hc (eB 0) (dF 0) hi hg ht he ho gg hs
end
end
end L2
namespace L2
open PySem PySem.Spec PyProof.Rows PyProof PySem.W
abbrev pA (s:Stmt):List Str:=(iV s).args.map (·.arg)
def fT {N P:List Str}{sc:Scope}(h1:sc.kind=.function:=by rfl)(h2:sc.isCoroutine=false:=by rfl)(h3:sc.isGenerator=false:=by rfl)(h4:N.Nodup:=by decide +kernel)(h5:N.take P.length=P:=by rfl)
 (h6:∀ x∈P,sc.names.lookup x=some .local\/sc.names.lookup x=some .cell:=by decide +kernel) (h7:∀ y∈sc.names,y.2≠.free:=by decide +kernel):d8 N P sc:=⟨h1,h2,h3,h4,h5,h6,h7⟩
def kf (f c:ai)(x q:Str)(s:Stmt)(pm:Value)(t l a r1 r2:Nat)(v1 v2:Value)(r3 t2:Nat):List (ai×Obj):=[ko f (Vx x q s pm c),ko c (coQ x q t l a r1 r2 v1 v2 r3 t2)]
def mM (f c:ai)(x:Str)(s:Stmt)(pm:Value)(t l a r1 r2:Nat)(v1 v2:Value)(r3 t2:Nat):List (ai×Obj):=kf f c x x s pm t l a r1 r2 v1 v2 r3 t2
def kx (P:Params)(a n h:ai)(x:Str)(sl:Option Value)(t u:Nat)(m:Value)(i l:Nat)(st:ai)(sub:List Value:=[])(bs:List Value:=[.ref h])(mro:List Value:=[.ref a,.ref h,.type "ValueError",.type "Exception",.type "BaseException",.type "object"]):List (ai×Obj) :=
 [ko a ⟨.type "type",none,.cls ⟨x,bs,mro,n,x,true,[],sub,false,none,false⟩,#[sl,none,some (.str x t),some (.str x u),some (.builtin "ValueError.__new__"),some (.bool true)]⟩,
  ko n ⟨.type "dict",none,.dict #[jw P "__module__" i m,jw P "__firstlineno__" (i+4) (.int l (i+3)),jw P "__static_attributes__" (i+5) (.ref st),jw P "__doc__" (i+6) .none] 2,#[]⟩]
def fQ {K:Frag}(x q:Str)(s:Stmt)(f:ai)(pm:Value)(c:ai)(l:K.lookup f=some (Vx x q s pm c):=by kernel_rfl)(c':codeIn K (.ref c) q=true:=by kernel_rfl)(k:keepIn K (.ref f)=true:=by kernel_rfl):ic K x q s f (fnOf x q (iV s) (hX s) (dR s) .none .none .none pm none (.ref c) .none):=EW l c' k
section
variable {K:Frag}{x q:Str}{s:Stmt}{f:ai}{fd:ag}{ps:List Str}(F:ic K x q s f fd)
include F
def Bw (hl:ps.length=1:=by rfl)(h:∀(kV doc pm:Value) (an:Option ai) (gr ct a:Value),bindArgs (fnOf x q (iV s) (hX s) (dR s) .none kV doc pm an gr ct) ⟨[a],[]⟩=pure (ps.zip [a]):=by intros;rfl):Binds K fd ps []:=F.binds fun k d p n c t=>by rw[hl];exact Wb fun a=>h k d p n c t a
def pQ (hl:ps.length=2:=by rfl)(h:∀(kV doc pm:Value) (an:Option ai) (gr ct a b:Value),bindArgs (fnOf x q (iV s) (hX s) (dR s) .none kV doc pm an gr ct) ⟨[a,b],[]⟩=pure (ps.zip [a,b]):=by intros;rfl):Binds K fd ps []:=F.binds fun k d p n c t=>by rw[hl];exact MN fun a=>Wb fun b=>h k d p n c t a b
def MQ (hl:ps.length=3:=by rfl)(h:∀(kV doc pm:Value) (an:Option ai) (gr ct a b e:Value),bindArgs (fnOf x q (iV s) (hX s) (dR s) .none kV doc pm an gr ct) ⟨[a,b,e],[]⟩=pure (ps.zip [a,b,e]):=by intros;rfl):Binds K fd ps []:=F.binds fun k d p n c t=>by rw[hl];exact MN fun a=>MN fun b=>Wb fun e=>h k d p n c t a b e
def bd4 (hl:ps.length=4:=by rfl)(h:∀(kV doc pm:Value) (an:Option ai) (gr ct a b e g:Value),bindArgs (fnOf x q (iV s) (hX s) (dR s) .none kV doc pm an gr ct) ⟨[a,b,e,g],[]⟩=pure (ps.zip [a,b,e,g]):=by intros;rfl):Binds K fd ps []:=F.binds fun k d p n c t=>by rw[hl];exact MN fun a=>MN fun b=>MN fun e=>Wb fun g=>h k d p n c t a b e g
def bd5 (hl:ps.length=5:=by rfl)(h:∀(kV doc pm:Value) (an:Option ai) (gr ct a b e g i:Value),bindArgs (fnOf x q (iV s) (hX s) (dR s) .none kV doc pm an gr ct) ⟨[a,b,e,g,i],[]⟩=pure (ps.zip [a,b,e,g,i]):=by intros;rfl):Binds K fd ps []:=F.binds fun k d p n c t=>by rw[hl];exact MN fun a=>MN fun b=>MN fun e=>MN fun g=>Wb fun i=>h k d p n c t a b e g i
end
end L2
namespace L2
open PySem PySem.Spec PyProof.Rows PyProof
def Ij (i:Int):Str:=toString i
def ddT:Dd->List Str
 | .put nm b a=>["put",nm,b,Ij a]
 | .join nm l r p=>["join",nm,l,r,Ij p]
 | .found nm bar sg=>["found",nm,Ij bar,sg]
 | .mQ nm a=>["aged",nm,Ij a]
 | .drop nm=>["drop",nm]
 | .free p=>["free",Ij p]
 | .fI p=>["shut",Ij p]
def WD:Str := " "
def ddS:Dd->Prop
 | .put nm b a=>nm.length<=100/\b.length<=100/\a.natAbs<=1000
 | .join nm l r p=>nm.length<=100/\l.length<=100/\r.length<=100/\p.natAbs<=1000
 | .found nm bar sg=>nm.length<=100/\bar.natAbs<=1000/\sg.length<=100
 | .mQ nm a=>nm.length<=100/\a.natAbs<=1000
 | .drop nm=>nm.length<=100
 | .free p=>p.natAbs<=1000
 | .fI p=>p.natAbs<=1000
def pZ:Dd->List D
 | .put nm b a=>[.str "put",.str nm,.str b,.int a]
 | .join nm l r p=>[.str "join",.str nm,.str l,.str r,.int p]
 | .found nm bar sg=>[.str "found",.str nm,.int bar,.str sg]
 | .mQ nm a=>[.str "aged",.str nm,.int a]
 | .drop nm=>[.str "drop",.str nm]
 | .free p=>[.str "free",.int p]
 | .fI p=>[.str "shut",.int p]
def Qt (d:Dd):kZ d=.tup (pZ d):=by cases d <;> rfl
def QG (d:Dd):(pZ d).length<=5:=by cases d <;> (simp only[pZ,aI,bN];lia)
def nM {z:Str}(h:gB z=true):z.length<=100:=by
 unfold gB at h
 rw[aT,aT,bh,bh]at h
 lia
def wG {S:RS}{m:Nat}{nm:Str}(h:pR S m)(q:¬ gR S nm=false):nm.length<=100:=by
 obtain⟨x,e⟩:=nO q
 exact nM (h.PU _ (nT e))
def Gw {S:RS}{nm:Str}(h:jL S nm=none):nm.length<=100:=nM (rj h).1
def JB {S:RS}{m:Nat}{d:Dd}(h:pR S m)(hr:my S d=none):ddS d:=by
 have n2:=h.n2
 cases d with
 | put nm b a =>
  obtain⟨h1,h2⟩:=or_none hr
  split at h2
  .rename_i q
   obtain⟨a0,a1⟩:=rE h2
   exact⟨Gw h1,by lia,by lia⟩
  .cases h2
 | join nm l r p =>
  obtain⟨h1,h2⟩:=or_none hr
  split at h2
  .cases h2
  .rename_i q1
   split at h2
   .cases h2
   .rename_i q2
    obtain⟨h3,_⟩:=or_none h2
    obtain⟨p1,p2⟩:=mZ h3
    exact⟨Gw h1,wG h q1,wG h q2,by lia⟩
 | found nm bar sg =>
  have hr:(if gR S nm=false then some 11 else if 0<=bar/\bar<S.n then(if sg = "o"\/sg = "x" then none else some 0)else some 6)=(none:Option Nat):=hr
  split at hr
  .cases hr
  .rename_i q1
   split at hr
   .rename_i q2
    split at hr
    .rename_i q3
     refine⟨wG h q1,by lia,?_⟩
     rcases q3 with rfl | rfl <;> decide +kernel
    .cases hr
   .cases hr
 | mQ nm a =>
  have hr:(match d9 S.dE nm with | none=>some 11 | some (.jn _ _ _)=>some 13 | some (.fst _ _)=>kL a)=(none:Option Nat):=hr
  cases e:d9 S.dE nm with
  | none=>rw[e]at hr;cases hr
  | some x =>
   rw[e]at hr
   cases x with
   | jn l r p=>cases hr
   | fst b a0 =>
    obtain⟨a1,a2⟩:=rE hr
    exact⟨nM (h.PU _ (nT e)),by lia⟩
 | drop nm =>
  have hr:(if gR S nm=false then some 11 else if lP S nm=true then some 14 else none)=(none:Option Nat):=hr
  split at hr
  .cases hr
  .rename_i q;exact wG h q
 | free p=>obtain⟨a,b⟩:=mZ (S:=S) hr;show p.natAbs<=1000;lia
 | fI p=>obtain⟨a,b⟩:=mZ (S:=S) hr;show p.natAbs<=1000;lia
structure nU (S0:RS)(ps:List (RS×Dd))(ss:List RS)(rs:List Dd)(d:Nat):Prop where
 hs:ss.take (d+1)=S0::ps.map (·.1)
 hr:rs.take d=ps.map (·.2)
def LH (S0:RS)(ps:List (RS×Dd)):RS:=ps.foldl (fun _ p=>p.1) S0
def pD (p:RS×Dd):D:=.tup [pf p.1,kZ p.2]
def kN (S0:RS)(ps:List (RS×Dd)):List D:=.tup [pf S0,.tup []]::ps.map pD
def yz {S0:RS}{ps:List (RS×Dd)}{x:RS×Dd}:LH S0 (ps++[x])=x.1:=by unfold LH;rw[List.foldl_append];rfl
def Bb {α:Type}(l:List α):l=[]\/∃ a x,l=a++[x]:=by
 rcases List.eq_nil_or_concat l with h | ⟨a,x,h⟩
 .exact .inl h
 .exact .inr ⟨a,x,by rw[h,List.concat_eq_append]⟩
def nJ {S0:RS}{ps:List (RS×Dd)}{x:RS×Dd}:kN S0 (ps++[x])=kN S0 ps++[pD x]:=by unfold kN;rw[aF];rfl
def zB (S0:RS)(ps:List (RS×Dd)):(kN S0 ps).length=ps.length+1:=by unfold kN;rw[aI,fH]
def zA (S0:RS)(ps:List (RS×Dd)):∃ x,pJ (kN S0 ps) (-1)=some (.tup [pf (LH S0 ps),x]):=by
 rcases Bb ps with rfl | ⟨a,x,rfl⟩
 .exact⟨_,o4 [] _⟩
 .rw[nJ,yz];exact⟨_,o4 _ _⟩
section
variable {cR cS:ai}{μ:MS}{k j1 j2:Nat}{ss:List RS}{rs:List Dd}{d:Nat}{S0 S:RS}{ps:List (RS×Dd)}
def nU.len (h:nU S0 ps ss rs d)(hle:d<=rs.length):ps.length=d:=by
 have:=bx List.length h.hr
 rw[aM,fH]at this
 lia
def nU.now (h:nU S0 ps ss rs d)(hle:d<=rs.length):ss[d]?=some (LH S0 ps):=by
 have e1:ss[d]?=(ss.take (d+1))[d]?:=by rw[aZ (by lia)]
 have hl:=h.len hle
 rw[e1,h.hs]
 rcases Bb ps with rfl | ⟨a,x,rfl⟩
 .subst hl;rfl
 .rw[yz,aF,<- c6,oP (by rw[aI,fH,<- hl,j3];exact aj _)]
  rw[aI,fH,<- hl,j3,aN,aR];rfl
def nU.start:nU S0 [] [S0] [] 0:=⟨rfl,rfl⟩
def nU.QE {x:RS×Dd}(h:nU S0 (ps++[x]) ss rs (d+1))(hle:d+1<=rs.length):nU S0 ps ss rs d:=by
 have hl:=h.len hle
 rw[j3,aN]at hl
 refine⟨?_,?_⟩
 .have:=bx (List.take (d+1)) h.hs
  rw[List.take_take,b9 (by lia),aF,<- c6,List.take_left' (by rw[aI,fH];lia)]at this
  exact this
 .have:=bx (List.take d) h.hr
  rw[List.take_take,b9 (by lia),aF,List.take_left' (by rw[fH];lia)]at this
  exact this
def nU.do {e:Dd}(h:nU S0 ps ss rs d)(hle:d<=rs.length)(hl:ss.length=rs.length+1):nU S0 (ps++[(pH S e,e)]) (ss.take (d+1)++[pH S e]) (rs.take d++[e]) (d+1):=by
 refine⟨?_,?_⟩
 .rw[bf (by rw[j3,aM];show _+1<=_;lia),h.hs,aF];rfl
 .rw[bf (by rw[j3,aM];show _+1<=_;lia),h.hr,aF];rfl
def fo.Vs {e:Dd}(ra:fo cR cS μ k j1 j2 ss rs d)(es:ss[d]?=some S)(hr:my S e=none)(kX:rs.length<900):fo cR cS (jG cR cS μ k j1 j2 (ss.take (d+1)++[pH S e]) (rs.take d++[e]) (d+1)) k j1 j2 (ss.take (d+1)++[pH S e]) (rs.take d++[e]) (d+1)/\(ss.take (d+1)++[pH S e])[d+1]?=some (pH S e):=by
 have hl:=ra.len
 have hle:=ra.le
 have tl:(ss.take (d+1)).length=d+1:=by rw[aM];lia
 refine⟨ra.put ?_ ?_ (fun i T eT=>?_) ?_,?_⟩
 .rw[j3,j3,tl,aM];show d+1+1=_+1+1;lia
 .rw[j3,aM];show d+1<=_+1;lia
 .by_cases hi:i<d+1
  .rw[uv (by lia),aZ hi]at eT
   exact ra.wf i T eT
  .rw[oP (by lia),tl]at eT
   have:i=d+1:=by
    have:=(l8 eT).1
    rw[aN]at this;lia
   subst this
   rw[aR]at eT
   cases eT
   exact(ra.wf d S es).do hr
 .rw[j3,aM];show _+1<=_;lia
 .rw[oP (by lia),tl,aR];rfl
def Cp (S0:RS)(ps:List (RS×Dd)):cutD (kN S0 ps) (some 1) none=ps.map pD:=by
 have:=uU (fun x:D=>x) (kN S0 ps) 1
 rw[dz]at this
 rw[show(1:Int)=((1:Nat):Int)from rfl,this,dz]
 rfl
def ED {it:D->MS->(Option D->MS->Prop)->Prop}{c:MS->Prop}{μ:MS}(hc:c μ){K:List D->MS->Prop}(h:nU S0 ps ss rs d)(hi:∀ p:RS×Dd,∀(K':Option D->MS->Prop),K' (some (kZ p.2)) μ->it (pD p) μ K')(k:K ((rs.take d).map kZ) μ):qH it c (ps.map pD) μ K:=by
 refine iF hc pD (fun p=>some (kZ p.2)) (fun p _ K' k'=>hi p K' k') ?_
 rw[show(fun p:RS×Dd=>some (kZ p.2))=some ∘ (fun p=>kZ p.2)from rfl,cQ]
 rw[h.hr,aJ]at k
 exact k
end
def tZ (K:aa)(cs:List ai)(cH:ai):jJ:=fun ds μ Kd=>match ds with
 | [.mr k]=>(∃ m,μ[0]?=some m)/\k≠0/\∃ j,j<17/\μ[k]?=some (.exc (.ref (cs.getD j 0)))/\lN K cs cH j/\Kd (.lst [.str (rM j)]) μ
 | _=>False
def Dn {K:aa}{cs:List ai}{cH:ai}{ds:List D}{μ:MS}{Kd:DK}(h:tZ K cs cH ds μ Kd):ds.length=1/\∃ m,μ[0]?=some m:=by
 unfold tZ at h
 split at h
 .exact⟨rfl,h.1⟩
 .cases h
def ng:List Str:=["BadBars", "BadMake", "BadNumber", "BadText", "BadName", "BadAge", "BadBar", "BadPlace", "BadSize", "Taken", "Full", "NoTake", "Shut", "Joined", "Needed", "NothingLeft", "NoWay", "no ValueError"]
def KD (j:Nat):List D:=(List.range 17).map (fun i=>D.bl (decide (i=j)))++[.bl false]
def KC {j i:Nat}(hj:j<17)(hi:i<18):(KD j)[i]?=some (.bl (decide (i=j))):=by
 unfold KD
 by_cases h:i<17
 .rw[uv (by rw[fH,MJ];exact h),vB,c7 h];rfl
 .rw[oP (by rw[fH,MJ];lia),fH,MJ,show i - 17=0 by lia,az (by lia)];rfl
def X2:∀ j:Nat,j<17->((List.range 18).filterMap fun i=>if i=j then some (ng.getD i "")else none)=[rM j]:=by
 decide +kernel
def Ib {i:Nat}(hi:i<18):ng[i]?=some (ng.getD i ""):=by
 rw[a9]
 cases e:ng[i]? with
 | none=>exact absurd (List.getElem?_eq_none_iff.mp e) (by show ¬ 18<=i;lia)
 | some x=>rfl
def DM {it:D->MS->(Option D->MS->Prop)->Prop}{c:MS->Prop}{μ:MS}{j:Nat}(hj:j<17)(hc:c μ){K:List D->MS->Prop}(h:∀(i:Nat) (K':Option D->MS->Prop),i<18->(KD j)[i]?=some (.bl (decide (i=j)))->ng[i]?=some (ng.getD i "")->(i=j->K' (some (.str (ng.getD i ""))) μ)->(i≠j->K' none μ)->it (.int (0+(i:Int))) μ K')(k:K [.str (rM j)] μ):qH it c (lU 0 18) μ K:=by
 refine iF hc (fun i:Nat=>D.int (0+(i:Int))) (fun i=>if i=j then some (D.str (ng.getD i ""))else none) (fun i hi K' k'=>?_) ?_
 .have hi:=List.mem_range.mp hi
  refine h i K' hi (KC hj hi) (Ib hi) (fun e=>?_) (fun e=>?_)
  .rw[au e]at k';exact k'
  .rw[aq e]at k';exact k'
 .have e:((List.range 18).filterMap fun i=>if i=j then some (D.str (ng.getD i ""))else none)=[.str (rM j)]:=by
   have t:=bx (List.map D.str) (X2 j hj)
   rw[List.map_filterMap]at t
   refine Eq.trans ?_ t
   congr 1
   funext i
   split <;> rfl
  rw[e]
  exact k
def Qx:wj:=fun x y μ K=>match x,y with
 | .tup xs,.tup ys=>xs≠[]/\xs.length+ys.length<=sizeLine/\K (.tup (xs++ys)) μ
 | _,_=>False
def FW {Kf:aa}:pL (PK Kf) Qx:=fun φ H x y dx dy μ K Q M hx hy k L=>by
 unfold Qx at k
 split at k
 .rename_i xs ys
  obtain⟨h1,h2,k⟩:=k
  have hx0:=hx
  obtain⟨p,vs,rfl,sp,hp,ha⟩:=hx
  obtain⟨q,us,rfl,_,hq,hb⟩:=hy
  refine⟨p,q,vs,us,rfl,rfl,BA.of hp,BA.of hq,fun z=>h1 ?_,by rw[ha.len,hb.len];exact h2,fun z=>?_,fun _ l hl=>Fl L M (ha.app hb) k hl⟩
  .have:=ha.len;rw[z]at this;exact List.length_eq_zero_iff.mp this.symm
  .have e:=hb.len
   rw[z]at e
   have e:ys=[]:=List.length_eq_zero_iff.mp e.symm
   rw[e,aV]at k
   exact L.val M k hx0
 .exact k.elim
def kn:Option Nat->Str
 | none => ""
 | some i=>rM i
def wM:jJ:=fun ds μ K=>match ds with
 | [.str z]=>z.length<=1000/\K (.bl (gB z)) μ
 | _=>False
def tX:jJ:=fun ds μ K=>match ds with
 | [x,.str z]=>z.length<=1000/\∃ S m,x=pf S/\pR S m/\K (.str (kn (jL S z))) μ
 | _=>False
def oS:jJ:=fun ds μ K=>match ds with
 | [x,.int p]=>∃ S,x=pf S/\K (.str (kn (gu S p))) μ
 | _=>False
def jH (ok:Nat->Bool):jJ:=fun ds μ K=>match ds with
 | [x,y]=>∃ S m d,x=pf S/\y=kZ d/\ok (SD d)=true/\pR S m/\Bg d/\K (.str (kn (my S d))) μ
 | _=>False
def w0 (n:Nat):Bool:=n==0
def w1 (n:Nat):Bool:=n==1
def w24 (n:Nat):Bool:=n==2||n==3||n==4
def T8 (_:Nat):Bool:=true
def ua:jJ:=fun ds μ K=>match ds with
 | [.mr k,x,y]=>μ[k]?=some .box/\∃ S m fA,x=pf S/\y=mL fA/\pR S m/\oE fA/\∀ z:Str,z.length<=100->K (.str z) μ
 | _=>False
def ID (n:Nat):Dd->Prop
 | .put nm b _=>nm.length<=100/\b.length<=n
 | .join nm _ _ _=>nm.length<=100
 | _=>True
def A7:jJ:=fun ds μ K=>match ds with
 | [.mr k,x,y,z]=>μ[k]?=some .box/\∃ S m fA d n,x=pf S/\y=mL fA/\z=kZ d/\pR S m/\oE fA/\ID n d/\n<=500/\∀ d',ID (n+1) d'->K (kZ d') μ
 | _=>False
def GJ:jJ:=fun ds μ K=>match ds with
 | [.mr k,x,y]=>μ[k]?=some .box/\∃ S m fA,x=pf S/\y=mL fA/\pR S m/\oE fA/\∀ d,Bg d->K (kZ d) μ
 | _=>False
def SE {n:Nat}{d:Dd}(h:ID n d)(hn:n<=1000):Bg d:=by
 cases d <;> first | trivial | exact⟨aE h.1 (by decide),aE h.2 hn⟩ | exact aE h (by decide)
def VI {d:Dd}(h:ddS d):ID 100 d:=by
 cases d <;> first | trivial | exact⟨h.1,h.2.1⟩ | exact h.1
def YK (K:aa)(cs:List ai)(cH cR cS:ai):jJ:=fun ds μ Kd=>match ds with
 | [.mr k,y]=>(∃ m,μ[0]?=some m)/\(∀ j,j<16->lN K cs cH j)/\∃ j1 j2 ss rs d S e,fo cR cS μ k j1 j2 ss rs d/\ss[d]?=some S/\y=kZ e/\Bg e/\rs.length<900/\(match my S e with | some i=>Kd (.tup [.str "refused",.lst [.str (rM i)]]) μ | none=>Kd (.tup [.str "done",.bl true]) (jG cR cS μ k j1 j2 (ss.take (d+1)++[pH S e]) (rs.take d++[e]) (d+1)))
 | _=>False
def wz {S:RS}{e:Dd}{i:Nat}(h:my S e=some i):i<16:=by
 have a1:∀ {nm:Str},jL S nm=some i->i<16:=fun {nm} h=>by
  unfold jL at h;split at h
  .cases h;decide
  .split at h
   .cases h;decide
   .split at h
    .cases h;decide
    .cases h
 have a2:∀ {p:Int},gu S p=some i->i<16:=fun {p} h=>by
  unfold gu at h;split at h
  .cases h
  .cases h;decide
 have a3:∀ {a:Int},kL a=some i->i<16:=fun {p} h=>by
  unfold kL at h;split at h
  .cases h
  .cases h;decide
 have XJ:∀ {a b:Option Nat},a.or b=some i->(a=some i->i<16)->(b=some i->i<16)->i<16:=fun {a b} h h1 h2=>by
  cases a with
  | none=>exact h2 h
  | some x=>exact h1 h
 cases e with
 | put nm b a =>
  refine XJ h a1 fun h=>?_
  split at h
  .exact a3 h
  .cases h;decide
 | join nm l r p =>
  refine XJ h a1 fun h=>?_
  split at h
  .cases h;decide
  .split at h
   .cases h;decide
   .refine XJ h a2 fun h=>?_
    split at h
    .cases h;decide
    .cases h
 | found nm bar sg =>
  have h:(if gR S nm=false then some 11 else if 0<=bar/\bar<S.n then(if sg = "o"\/sg = "x" then none else some 0)else some 6)=some i:=h
  split at h
  .cases h;decide
  .split at h
   .split at h
    .cases h
    .cases h;decide
   .cases h;decide
 | mQ nm a =>
  have h:(match d9 S.dE nm with | none=>some 11 | some (.jn _ _ _)=>some 13 | some (.fst _ _)=>kL a)=some i:=h
  split at h
  .cases h;decide
  .cases h;decide
  .exact a3 h
 | drop nm =>
  have h:(if gR S nm=false then some 11 else if lP S nm=true then some 14 else none)=some i:=h
  split at h
  .cases h;decide
  .split at h
   .cases h;decide
   .cases h
 | free p=>exact a2 h
 | fI p=>exact a2 h
def Ta:Str := "abcdefghijklmnopqrstuvwxyz"
def O2 (c:Nat):decide (c∈Ta.cps.toList)=(decide (97<=c)&&decide (c<=122)):=by
 have e:Ta.cps.toList=(List.range 26).map (97+·):=by decide +kernel
 rw[e]
 have:c∈(List.range 26).map (97+·)↔97<=c/\c<=122:=by
  rw[List.mem_map]
  constructor
  .rintro⟨a,ha,rfl⟩;have:=List.mem_range.mp ha;lia
  .intro h;exact⟨c - 97,List.mem_range.mpr (by lia),by lia⟩
 rw[<- Bool.decide_and]
 exact decide_eq_decide.mpr this
def Rx (c:Nat):decide (c∈(Str.ofString "ox").cps.toList)=(decide (c=111)||decide (c=120)):=by
 have e:(Str.ofString "ox").cps.toList=[111,120]:=by decide +kernel
 rw[e,<- Bool.decide_or]
 exact decide_eq_decide.mpr (by simp)
def J1 (b:Str):((b.cps.toList.map fun c=>!(decide (c=111)||decide (c=120))).any id)=!BO b:=by
 unfold BO
 induction b.cps.toList with
 | nil=>rfl
 | cons c l ih=>rw[aw,bz,c9,ih,Bool.not_and];rfl
def rA {c:Dt}{wa wb:De}{ρ:DE}{μ:MS}{K:DK}(b:Bool)(h:TV c ρ μ b)(ht:b=true->wa ρ μ K)(hu:b=false->wb ρ μ K):dIf c wa wb ρ μ K:=h _ (by
 cases b with
 | true=>rw[au rfl];exact ht rfl
 | false=>rw[aq (by decide)];exact hu rfl)
def Ky (i:Nat)(h:i<17):decide (rM i=("" : Str))=false:=by
 have:∀ i:Nat,i<17->decide (rM i=("" : Str))=false:=by decide +kernel
 exact this i h
def sQ {o:Option Nat}(h:∀ i,o=some i->i<17):decide (kn o=("" : Str))=o.isNone:=by
 cases o with
 | none=>decide +kernel
 | some i=>exact Ky i (h i rfl)
def Gx {S:RS}{nm:Str}{i:Nat}(h:jL S nm=some i):i<17:=by
 unfold jL at h;split at h
 .cases h;decide
 .split at h
  .cases h;decide
  .split at h
   .cases h;decide
   .cases h
def N4 {z:Str}(h:gB z=true):z.length<=8:=by
 unfold gB at h
 rw[aT,aT,bh,bh]at h
 lia
def mS (a b:Str):(a++b).length=a.length+b.length:=by
 show(a.cps++b.cps).size=_
 rw[Array.size_append];rfl
def Nb (a:Str):(a++WD).length=a.length+1:=by rw[mS];rfl
def iW:Dd->Str
 | .put _ _ _ => "put" | .join _ _ _ _ => "join" | .found _ _ _ => "found" | .mQ _ _ => "aged" | .drop _ => "drop" | .free _ => "free" | .fI _ => "shut"
def W4:List Str:=["put", "join", "found", "aged", "drop", "free", "shut"]
def nP (d:Dd)(i:Nat)(hi:i<7):iW d=W4.getD i ""↔SD d=i:=by
 have e:iW d=W4.getD (SD d) "":=by cases d <;> rfl
 have l:SD d<7:=by cases d <;> (simp only[SD];lia)
 rw[e]
 have k:∀ i:Nat,i<7->∀ j:Nat,j<7->(W4.getD j ""=W4.getD i ""↔j=i):=by decide +kernel
 exact k i hi _ l
def DD {n m:Nat}{d:Dd}(h:ID n d)(hn:n<=m):ID m d:=by
 cases d <;> first | trivial | exact⟨h.1,aE h.2 hn⟩ | exact h
def GY {c:Dt}{t u:Ds}{N:DN}{ρ:DE}{μ:MS}(B:Bool->MS->Prop)(h:∀ K:Bool->MS->Prop,(∀ b μ',B b μ'->K b μ')->c ρ μ K)(ht:∀ μ',B true μ'->t N ρ μ')(hu:∀ μ',B false μ'->u N ρ μ'):SO c t u N ρ μ:=h _ fun b μ' hb=>by
 cases b with
 | true=>rw[au rfl];exact ht μ' hb
 | false=>rw[aq (by decide)];exact hu μ' hb
def YM (o:Option Nat):D:=match o with
 | some i=>.tup [.str "refused",.lst [.str (rM i)]]
 | none=>.tup [.str "done",.bl true]
def Ep (o:Option Nat):n6 5 (YM o):=by
 cases o with
 | none=>exact rT (by simp only[aI,bN];lia) (fun d hd=>by simp only[bH,bp,cL]at hd;rcases hd with rfl | rfl;exact jF;exact Us)
 | some i=>exact rT (by simp only[aI,bN];lia) (fun d hd=>by simp only[bH,bp,cL]at hd;rcases hd with rfl | rfl;exact jF;exact xp (by simp only[aI,bN];lia) fun d hd=>by rw[List.mem_singleton.mp hd];exact jF)
def k16 {K:aa}{cs:List ai}{cH:ai}(h0:lN K cs cH 0)(h1:lN K cs cH 1)(h2:lN K cs cH 2)(h3:lN K cs cH 3)(h4:lN K cs cH 4)(h5:lN K cs cH 5)(h6:lN K cs cH 6)(h7:lN K cs cH 7)(h8:lN K cs cH 8)(h9:lN K cs cH 9)(ha:lN K cs cH 10)(hb:lN K cs cH 11)(hc:lN K cs cH 12)(hd:lN K cs cH 13)(he:lN K cs cH 14)(hf:lN K cs cH 15):∀ j,j<16->lN K cs cH j
 | 0,_=>h0 | 1,_=>h1 | 2,_=>h2 | 3,_=>h3 | 4,_=>h4 | 5,_=>h5 | 6,_=>h6 | 7,_=>h7 | 8,_=>h8 | 9,_=>h9 | 10,_=>ha | 11,_=>hb | 12,_=>hc | 13,_=>hd | 14,_=>he | 15,_=>hf
 | n+16,h=>absurd h (by lia)
def kB {K:aa}{cs:List ai}{cH:ai}{j:Nat}(e1:(W.clsIn K (cs.getD j 0)).isSome=true:=by kernel_rfl)(e2:W.findIn K (.ref (cs.getD j 0)) "__getattribute__"=some (some (.builtin "BaseException.__getattribute__")):=by kernel_rfl)(e3:W.findIn K (.ref (cs.getD j 0)) "__getattr__"=some none:=by kernel_rfl)
 (e4:W.findIn K (.ref (cs.getD j 0)) "__class__"=some (some (.builtin "object.__class__")):=by kernel_rfl) (e5:W.specialIn K (.builtin "object.__class__") "__get__"=some (some (.builtin "getset_descriptor.__get__")):=by kernel_rfl) (e6:W.takesIn K (.builtin "object.__class__")=some true:=by kernel_rfl) (e7:W.mroIn K (cs.getD j 0) (.type "object")=some true:=by kernel_rfl) (e8:W.mroIn K (cs.getD j 0) (.type "BaseException")=some true:=by kernel_rfl)
 (k:U7 K cs j=true:=by kernel_rfl) (v:W.kitOne K (.ref (cs.getD j 0)) (.type "ValueError")=some true:=by kernel_rfl) (q1:W.excIn K cH nF "ValueError.__new__"=true:=by kernel_rfl) (q2:W.excIn K (cs.getD j 0) nF "ValueError.__new__"=true:=by kernel_rfl) (q3:subIn K (cs.getD j 0) cH=true:=by kernel_rfl):lN K cs cH j:=⟨⟨e1,e2,e3,e4,e5,e6,e7,e8⟩,k,v,QQ q1 q2 q3⟩
section
variable {X:Cx}{e st:Expr}{te:TE}{ts:TO}{p2 pos:Pos}
def Ro (he:PE X e te)(BR:PO X (some st) ts):PE X (.Subscript e (.Slice none none (some st) p2) pos) (fun σ H Q=>te σ H fun x H1=>ts σ H1 fun o H2=>o=some (-1)/\∃ a xs,x=.ref a/\pK X.K H2 a xs/\∀ p,H2 p=none->Q (.ref p) (upd H2 p (.lst xs.reverse))):=by
 intro dA s σ H Q I h
 refine Subscript_ (gc (he dA s σ H _ I h) fun v s1 rl=>?_)
 obtain⟨x,H1,I1,r1,q1⟩:=rl
 refine wpAny_Slice ?_
 rw[evalPart_none]
 refine av (av (gc (BR dA s1 σ H1 _ I1 q1) fun vs s3 pF=>?_))
 obtain⟨o,H3,I3,ps,q3⟩:=pF
 obtain⟨rfl,a,xs,rfl,hx,q⟩:=q3
 cases r1
 have I4:Inv X dA σ H3 { s3 with heap:=s3.heap.push { cls:=.type "slice",data:=.fields #[.none,.none,vs]}}:=I3.dE (t':=s3.toks) fun b ob q=>j0 _ q
 obtain⟨eW,r,ht,hz⟩:=I4.list hx
 have hlen:=r.length
 show wpAny (model X.prog X.w) X.A (subscriptTail e (.Slice none none (some st) p2) (.ref a) (.ref s3.heap.objs.size)) (EP X dA σ Q) X.xe { s3 with heap:=s3.heap.push { cls:=.type "slice",data:=.fields #[.none,.none,vs]}}
 refine tail_any (ops:=[.ref a,.ref s3.heap.objs.size]) ht.isList.typeIs slot_list_getitem.lookup ?_ (by with_unfolding_all rfl)
 refine wpAny_getItem_list_slice ht.isList (Heap.IsSliceOf.new ..) .none .none ps (by decide) ?_ (by rw[aB]<;> lia)
 rw[W.krv_pick]
 refine⟨.ref _,_,I4.laid (t':=s3.toks) (o:=.lst xs.reverse) (fun b ob q=>j0 _ q) (aj _) ?_,rfl,q _ (I4.fc.fresh (aj _))⟩
 exact⟨by rw[List.length_reverse];exact hz,_,0,r.reverse,aD _ rfl⟩
def Y0 (w:De)(st:DO):De:=fun ρ μ K=>w ρ μ fun x eF=>st ρ eF fun o fG=>o=some (-1)/\opt (lv fG x) fun ds=>K (.lst ds.reverse) fG
def VL {w:De}{l:DO}(ha:PD X e w)(hl:PO X (some st) (QM l)):PD X (.Subscript e (.Slice none none (some st) p2) pos) (Y0 w l):=(Ro ha hl).imp fun σ H Q hq=>by
 obtain⟨φ,ρ,μ,K,A,M,k,L⟩:=hq
 refine⟨φ,ρ,μ,_,A,M,k,fun d eF eZ v1 H1 k1 f1 M1 i1=>?_⟩
 refine⟨eZ,ρ,eF,_,A.mono f1,M1,k1,fun lo fG jD H2 k2 f2 M2=>?_⟩
 have i3:=i1.mono f2
 have L3:=L.mono (f1.trans f2)
 obtain⟨e0,k2⟩:=k2
 obtain⟨ds,ed,k2⟩:=gL k2
 obtain⟨p,vs,rfl,hp,ha⟩:=qk M2 i3 ed
 exact⟨e0,p,vs,rfl,pK.of hp,fun l hl=>Mc L3 M2 ha.rev k2 hl⟩
end
structure Later (qs:List (RS×Dd))(ss:List RS)(rs:List Dd)(d:Nat):Prop where
 hs:ss.drop (d+1)=qs.map (·.1)
 hr:rs.drop d=qs.map (·.2)
section
variable {ss:List RS}{rs:List Dd}{d:Nat}{S0:RS}{ps qs:List (RS×Dd)}{x:RS×Dd}
def zS {α:Type}{l:List α}{d:Nat}{a:α}{r:List α}(h:l.drop d=a::r):l[d]?=some a/\l.drop (d+1)=r:=by
 refine⟨?_,?_⟩
 .have:=bx (·[0]?) h
  rw[List.getElem?_drop,Nat.add_zero]at this
  exact this
 .have:=bx (List.drop 1) h
  rw[List.drop_drop]at this
  exact this
def Hi {α:Type}{l:List α}{d:Nat}{a:α}(h:l[d]?=some a):l.drop d=a::l.drop (d+1):=by
 obtain⟨hl,rfl⟩:=l8 h
 exact cq hl
def Hg {α:Type}{l:List α}{d:Nat}{a:α}(h:l[d]?=some a):l.take (d+1)=l.take d++[a]:=by
 obtain⟨hl,rfl⟩:=l8 h
 exact List.take_succ_eq_append_getElem hl
def nU.back (h:nU S0 (ps++[x]) ss rs (d+1))(hle:d+1<=rs.length):ss[d+1]?=some x.1/\rs[d]?=some x.2:=by
 have e:=h.now hle
 rw[yz]at e
 refine⟨e,?_⟩
 have hl:=h.len hle
 have:=bx (·[d]?) h.hr
 rw[aZ (by lia),aF,oP (by rw[fH];rw[j3,aN]at hl;lia),fH]at this
 rw[this,show d - ps.length=0 by rw[j3,aN]at hl;lia];rfl
def Later.QE (h:Later qs ss rs (d+1))(e1:ss[d+1]?=some x.1)(e2:rs[d]?=some x.2):Later (x::qs) ss rs d:=⟨by rw[Hi e1,h.hs];rfl,by rw[Hi e2,h.hr];rfl⟩
def Later.Q5 (h:Later (x::qs) ss rs d):ss[d+1]?=some x.1/\rs[d]?=some x.2/\Later qs ss rs (d+1):=by
 obtain⟨a,b⟩:=zS h.hs
 obtain⟨c,e⟩:=zS h.hr
 exact⟨a,c,b,e⟩
def nU.Q5 (h:nU S0 ps ss rs d)(e1:ss[d+1]?=some x.1)(e2:rs[d]?=some x.2):nU S0 (ps++[x]) ss rs (d+1):=⟨by rw[Hg e1,h.hs,aF];rfl,by rw[Hg e2,h.hr,aF];rfl⟩
def Later.none {ss':List RS}{rs':List Dd}(h1:ss'.length<=d+1)(h2:rs'.length<=d):Later [] ss' rs' d:=⟨bR h1,bR h2⟩
def CJ {it:D->MS->(Option D->MS->Prop)->Prop}{c:MS->Prop}{μ:MS}(hc:c μ){K:List D->MS->Prop}(h:Later qs ss rs d)(hi:∀ p:RS×Dd,∀(K':Option D->MS->Prop),K' (some (kZ p.2)) μ->it (pD p) μ K')(k:K ((rs.drop d).map kZ) μ):qH it c (qs.map pD) μ K:=by
 refine iF hc pD (fun p=>some (kZ p.2)) (fun p _ K' k'=>hi p K' k') ?_
 rw[show(fun p:RS×Dd=>some (kZ p.2))=some ∘ (fun p=>kZ p.2)from rfl,cQ]
 rw[h.hr,aJ]at k
 exact k
def Later.len (h:Later qs ss rs d):qs.length=rs.length - d:=by
 have:=bx List.length h.hr
 rw[bC,fH]at this
 lia
end
def yi (cR cS cN:ai):i9:=fun ds μ K Kx=>match ds with
 | [.mr k]=>(∃ m,μ[0]?=some m)/\∃ j1 j2 ss rs d,fo cR cS μ k j1 j2 ss rs d/\(match rs[d]? with | none=>Kx (.ref cN) μ | some e=>K (kZ e) (jG cR cS μ k j1 j2 ss rs (d+1)))
 | _=>False
def E7 {cR cS cN:ai}{ds:List D}{μ:MS}{K:DK}{Kx:DX}(h:yi cR cS cN ds μ K Kx):ds.length=1/\∃ m,μ[0]?=some m:=by
 unfold yi at h
 split at h
 .exact⟨rfl,h.1⟩
 .cases h
def Ce (i:Nat):D:=.tup [.str "refused",.lst [.str (rM i)]]
def pX (x:D):D:=.tup [.str "told",x]
def wH (K:aa)(cs:List ai)(cH cR cS:ai):jJ:=fun ds μ Kd=>match ds with
 | [.mr k,.str nm,y]=>(∃ m,μ[0]?=some m)/\(∀ j,j<16->lN K cs cH j)/\∃ j1 j2 ss rs d S,fo cR cS μ k j1 j2 ss rs d/\ss[d]?=some S /\
  ((nm = "deed"/\∃ e,y=kZ e/\Bg e/\rs.length<900/\(match my S e with | some i=>Kd (Ce i) μ | none=>Kd (pX .gy) (jG cR cS μ k j1 j2 (ss.take (d+1)++[pH S e]) (rs.take d++[e]) (d+1)))) \/
   (nm = "undo"/\(match d with | 0=>Kd (Ce 15) μ | d'+1=>∀ e,rs[d']?=some e->Kd (pX (kZ e)) (jG cR cS μ k j1 j2 ss rs d'))) \/
   (nm = "redo"/\(match rs[d]? with | none=>Kd (Ce 15) μ | some e=>Kd (pX (kZ e)) (jG cR cS μ k j1 j2 ss rs (d+1)))))
 | _=>False
def wL (cR cS:ai):jJ:=fun ds μ K=>match ds with
 | [.mr k,.mr p,.mr q]=>(∃ m,μ[0]?=some m)/\∃ j1 j2 ss rs d S0 ps qs,fo cR cS μ k j1 j2 ss rs d/\nU S0 ps ss rs d/\Later qs ss rs d/\μ[p]?=some (.lst (kN S0 ps))/\μ[q]?=some (.lst (qs.reverse.map pD))/\K (.bl true) μ
 | _=>False
def qZ (e:Dd):n6 5 (pX (kZ e)):=rT (by simp only[aI,bN];lia) (fun d hd=>by simp only[bH,bp,cL]at hd;rcases hd with rfl | rfl;exact jF;exact Pw e)
def FY {e:Dd}{μ:MS}(_:n6 5 (pX (kZ e))):Oy μ (pX (kZ e))=some (pX (kZ e)):=by cases e <;> rfl
structure U37 (cR cS:ai)(R0:RS)(μ:MS)(q i:Nat)(ps qs:List (RS×Dd))(ss:List RS)(rs:List Dd)(d:Nat):Prop where
 ra:fo cR cS μ 1 2 3 ss rs d
 pa:nU R0 ps ss rs d
 la:Later qs ss rs d
 box:μ[0]?=some .box
 l4:μ[4]?=some (.lst (kN R0 ps))
 lq:μ[q]?=some (.lst (qs.reverse.map pD))
 q5:5<=q
 kX:rs.length<=i
end L2
namespace Pf
open PySem L2 PyProof.Rows
def top (i:Nat):Stmt:=PySem.Challenge.pw_hissroom_k37_undone_and_done_again.main.body.getD i (.Pass ⟨0,0,0,0⟩)
def met (i j:Nat):Stmt:=(OP (top i)).getD j (.Pass ⟨0,0,0,0⟩)
abbrev xE:Stmt:=top 46
abbrev rX:Stmt:=top 47
abbrev si:Stmt:=top 50
abbrev rY:Stmt:=top 72
abbrev s_same:Stmt:=top 70
abbrev kP:Stmt:=top 21
abbrev mw:Stmt:=top 22
abbrev jU:Stmt:=top 40
abbrev ij:Stmt:=top 41
abbrev gA:Stmt:=met 27 0
abbrev fS:Stmt:=met 27 1
abbrev ip:Stmt:=met 27 2
abbrev hG:Stmt:=met 27 3
abbrev fB:Stmt:=met 27 4
abbrev iN:Stmt:=met 27 5
abbrev il:Stmt:=met 27 6
abbrev jc:Stmt:=top 37
abbrev jd:Stmt:=top 38
abbrev ik:Stmt:=top 39
abbrev xC:Stmt:=top 28
abbrev r8:Stmt:=top 29
abbrev oB:Stmt:=top 30
abbrev sq:Stmt:=top 31
abbrev se:Stmt:=top 32
abbrev r9:Stmt:=top 33
abbrev rZ:Stmt:=top 34
abbrev g9:Stmt:=top 36
abbrev gN:Stmt:=met 44 0
abbrev jY:Stmt:=met 44 1
abbrev ji:Stmt:=met 44 9
abbrev iR:Stmt:=met 44 12
abbrev iS:Stmt:=met 44 13
abbrev jg:Stmt:=met 44 14
abbrev iQ:Stmt:=met 44 15
abbrev jk:Stmt:=met 44 16
abbrev jZ:Stmt:=met 44 17
abbrev iP:Stmt:=met 44 18
abbrev iq:Stmt:=met 44 19
abbrev jj:Stmt:=met 44 20
abbrev iO:Stmt:=met 44 21
abbrev jf:Stmt:=met 44 10
abbrev jh:Stmt:=met 44 11
abbrev ow:Stmt:=top 48
abbrev oC:Stmt:=top 49
abbrev mv:Stmt:=top 51
abbrev sj:Stmt:=top 52
abbrev oA:Stmt:=top 53
abbrev ot:Stmt:=top 54
abbrev r0:Stmt:=top 55
abbrev sf:Stmt:=top 56
abbrev r6:Stmt:=top 57
abbrev sd:Stmt:=top 58
abbrev mn:Stmt:=top 71
abbrev oy:Stmt:=top 62
abbrev jW:Stmt:=top 63
abbrev iM:Stmt:=top 64
abbrev jV:Stmt:=top 65
abbrev jb:Stmt:=top 66
abbrev ja:Stmt:=top 67
abbrev rV:Stmt:=top 68
abbrev jX:Stmt:=top 59
abbrev je:Stmt:=top 60
abbrev rW:Stmt:=top 61
abbrev oz:Stmt:=top 69
abbrev ml:Stmt:=top 73
abbrev ou:Stmt:=top 74
abbrev mU:Stmt:=top 75
structure gM (K:aa)(C:ai):Prop where
 cl:xa K C
 ia:W.findIn K (.ref C) "length"=some none
 gw:W.findIn K (.ref C) "made_of"=some none
 jo:W.findIn K (.ref C) "firsts"=some none
 jM:W.findIn K (.ref C) "closed"=some none
structure jP (K:aa)(C:ai):Prop where
 cl:xa K C
 xU:W.findIn K (.ref C) "stands"=some none
 su:W.findIn K (.ref C) "rows"=some none
 kS:W.findIn K (.ref C) "done"=some none
def Q1:d8 ["_law_script"] (pA xE) (dR xE):=fT
def sY:d8 ["_law_box_here", "_law_many", "_law_rest", "_law_cell", "_law_one", "_law_two"] (pA rX) (dR rX):=fT
def oq:d8 ["_law_box_here", "_law_size_here", "_law_kind", "_law_first", "_law_behind"] (pA si) (dR si):=fT
def Nj:d8 ["_law_box_here", "_law_small"] (pA rY) (dR rY):=fT
def Nk:d8 ["_law_found", "_law_due"] (pA s_same) (dR s_same):=fT
def Es:d8 ["size", "text"] (pA kP) (dR kP):=fT
def l5:d8 ["one", "other", "place", "bars", "age", "other_bars", "other_age", "cut"] (pA mw) (dR mw):=fT
def u7:d8 ["table", "key", "thing", "told"] (pA jU) (dR jU):=fT
def p7:d8 ["table", "key"] (pA ij) (dR ij):=fT
def tm:d8 ["self", "length", "made_of", "firsts", "closed"] (pA gA) (dR gA):=fT
def qa:d8 ["self", "name"] (pA fS) (dR fS):=fT
def xA:d8 ["self", "name"] (pA ip) (dR ip):=fT
def gd:d8 ["self", "name", "bar", "parts", "copies", "left", "right", "place"] (pA hG) (dR hG):=fT
def fv:d8 ["self", "told", "name", "parts", "left", "right", "place"] (pA fB) (dR fB):=fT
def yW:d8 ["self", "name"] (pA iN) (dR iN):=fT
def mj:d8 ["self", "cuts"] (pA il) (dR il):=fT
def tj:d8 ["stand", "name"] (pA jc) (dR jc):=fT
def Ap:d8 ["age"] (pA jd) (dR jd):=fT
def xy:d8 ["stand", "place"] (pA ik) (dR ik):=fT
def uC:d8 ["stand", "row", "word", "name", "bars", "age", "made_of"] (pA xC) (dR xC):=fT
def q9:d8 ["stand", "row", "word", "name", "left", "right", "place"] (pA r8) (dR r8):=fT
def jK:d8 ["stand", "row", "word", "name", "bar", "sign", "first", "copies", "bars", "age", "heard"] (pA oB) (dR oB):=fT
def rf:d8 ["stand", "row", "word", "name", "age", "bars", "before"] (pA sq) (dR sq):=fT
def tf:d8 ["stand", "row", "word", "name", "made_of"] (pA se) (dR se):=fT
def Ao:d8 ["stand", "row", "word", "place"] (pA r9) (dR r9):=fT
def An:d8 ["stand", "row", "word", "place"] (pA rZ) (dR rZ):=fT
def ph:d8 ["stand", "row", "deed"] (pA g9) (dR g9):=fT
def uD:d8 ["self", "size"] (pA gN) (dR gN):=fT
def Ca:d8 ["self"] (pA jY) (dR jY):=fT
def tq:d8 ["self", "row", "stand"] (pA ji) (dR ji):=fT
def yZ:d8 ["self"] (pA iR) (dR iR):=fT
def y0:d8 ["self"] (pA iS) (dR iS):=fT
def Ar:d8 ["self"] (pA jg) (dR jg):=fT
def yY:d8 ["self"] (pA iQ) (dR iQ):=fT
def Au:d8 ["self", "name"] (pA jk) (dR jk):=fT
def Cb:d8 ["self", "name"] (pA jZ) (dR jZ):=fT
def yX:d8 ["self", "name"] (pA iP) (dR iP):=fT
def xB:d8 ["self", "name", "bar"] (pA iq) (dR iq):=fT
def lT:d8 ["self", "size", "cuts", "takes"] (pA jj) (dR jj):=fT
def lh:d8 ["self", "size", "cuts", "takes"] (pA iO) (dR iO):=fT
def Aq:d8 ["self"] (pA jf) (dR jf):=fT
def As:d8 ["self"] (pA jh) (dR jh):=fT
def iB:d8 ["_law_box_here", "_law_many", "_law_letters", "_law_size_here", "_law_place", "_law_alike", "_law_first", "_law_rows", "_law_k", "_law_row"] (pA ow) (dR ow):=fT
def B9:d8 ["_law_box_here", "_law_most", "_law_size_here"] (pA oC) (dR oC):=fT
def j8:d8 ["_law_kept", "_law_name", "_law_bar", "_law_copies", "_law_word_here", "_law_left", "_law_right_here", "_law_place"] (pA mv) (dR mv):=fT
def wy:d8 ["_law_kept", "_law_found", "_law_name", "_law_part"] (pA sj) (dR sj):=fT
def xx:d8 ["_law_state", "_law_name", "_law_kept"] (pA oA) (dR oA):=fT
def xv:d8 ["_law_state", "_law_ages_here"] (pA ot) (dR ot):=fT
def FZ:d8 ["_law_state"] (pA r0) (dR r0):=fT
def rb:d8 ["_law_state", "_law_deed", "_law_size_here", "_law_kept", "_law_shut", "_law_name", "_law_word_here", "_law_text", "_law_old"] (pA sf) (dR sf):=fT
def wx:d8 ["_law_kept", "_law_used", "_law_part"] (pA r6) (dR r6):=fT
def ku:d8 ["_law_box_here", "_law_state", "_law_pool", "_law_names_here", "_law_fresh", "_law_places", "_law_way", "_law_old", "_law_some", "_law_other", "_law_place", "_law_lone_here"] (pA sd) (dR sd):=fT
def j7:d8 ["_law_room", "_law_state", "_law_names_here", "_law_takes_here", "_law_k", "_law_part", "_law_due", "_law_told", "_law_bar"] (pA mn) (dR mn):=fT
def B8:d8 ["_law_text"] (pA oy) (dR oy):=fT
def B7:d8 ["_law_state", "_law_name"] (pA jW) (dR jW):=fT
def yV:d8 ["_law_state", "_law_place"] (pA iM) (dR iM):=fT
def p8:d8 ["_law_state", "_law_deed", "_law_word_here"] (pA jV) (dR jV):=fT
def sZ:d8 ["_law_state", "_law_deed", "_law_word_here"] (pA jb) (dR jb):=fT
def om:d8 ["_law_state", "_law_deed", "_law_part", "_law_other"] (pA ja) (dR ja):=fT
def Ni:d8 ["_law_state", "_law_deed"] (pA rV) (dR rV):=fT
def u9:d8 ["_law_box_here", "_law_state", "_law_pool", "_law_some"] (pA jX) (dR jX):=fT
def jy:d8 ["_law_box_here", "_law_state", "_law_pool", "_law_deed", "_law_at", "_law_thing"] (pA je) (dR je):=fT
def sX:d8 ["_law_box_here", "_law_state", "_law_pool", "_law_deed", "_law_way"] (pA rW) (dR rW):=fT
def kr:d8 ["_law_e", "_law_found", "_law_words"] (pA oz) (dR oz):=fT
def nH:d8 ["_law_room", "_law_name", "_law_deed", "_law_found", "_law_e"] (pA ml) (dR ml):=fT
def xw:d8 ["_law_room", "_law_past", "_law_later"] (pA ou) (dR ou):=fT
def iK:d8 ["_law_script", "_law_box_here", "_law_room", "_law_state", "_law_pool", "_law_past", "_law_later", "_law_back", "_law_k", "_law_way", "_law_name", "_law_giver", "_law_due", "_law_deed", "_law_word_here", "_law_found"] (pA mU) (dR mU):=fT
def dQ:ai:=316
def ee:ai:=612
def wR:ai:=164
def wW:ai:=116
def qL:ai:=92
def Bv:ai:=140
def Hd:ai:=152
def wX:ai:=104
def rD:ai:=128
def qM:ai:=44
def Hc:ai:=176
def wV:ai:=188
def wU:ai:=200
def uk:ai:=224
def fk:ai:=212
def yE:ai:=56
def sL:ai:=68
def yD:ai:=80
def Fi:ai:=243
def jv:ai:=31
def D2:ai:=327
def yH:ai:=334
def uo:ai:=341
def yK:ai:=348
def yJ:ai:=353
def yI:ai:=360
def yG:ai:=367
abbrev kQ:List ai:=[qM,yE,sL,yD,qL,wX,wW,rD,uk,Bv,Hd,wR,Hc,wV,wU,fk,Fi]
section
variable (P:ae)(w:af)(K:aa)(mg:Str->Option Value)(dD:Heap)
abbrev QA:Prop:=pO P w K mg dD "_law_box" 1 (pA xE) (Ah K)
abbrev nj:Prop:=pO P w K mg dD "_law_take" 1 (pA rX) (hV GK)
abbrev L6:Prop:=pO P w K mg dD "_law_bars" 2 (pA si) (hV Dq)
abbrev LS:Prop:=pO P w K mg dD "_law_size" 2 (pA rY) (hV Di)
abbrev Bu:Prop:=pO P w K mg dD "_law_same" 6 (pA s_same) (hV K9)
abbrev zV:Prop:=pO P w K mg dD "is_bars" 1 (pA kP) (hV t6)
abbrev DT:Prop:=pO P w K mg dD "joined" 1 (pA mw) (hV wN)
abbrev k8:Prop:=pO P w K mg dD "with_key" 1 (pA jU) (hV Dh)
abbrev ni:Prop:=pO P w K mg dD "without_key" 1 (pA ij) (hV qw)
abbrev fN:Prop:=Tj P w K mg dD "Stand" dQ 1 (pA gA) (hV (wJ dQ))
abbrev gP:Prop:=mI P w K mg dD dQ "check_there" 1 (pA fS) (kj (yg dQ kQ))
abbrev lA:Prop:=mI P w K mg dD dQ "parts" 2 (pA ip) (kj (tV dQ kQ))
abbrev mF:Prop:=mI P w K mg dD dQ "source" 3 (pA hG) (kj (qx dQ kQ))
abbrev iX:Prop:=wm P w K mg dD dQ "takes_by_names" 2 (pA fB) (hV (t9 dQ))
abbrev oZ:Prop:=mI P w K mg dD dQ "take" 3 (pA iN) (kj (yh dQ kQ))
abbrev nk:Prop:=wm P w K mg dD dQ "shelf" 3 (pA il) (hV (wK dQ))
abbrev qJ:Prop:=ur P w K mg dD "check_new" 1 (pA jc) (kj (Lb dQ kQ))
abbrev qK:Prop:=ur P w K mg dD "check_age" 1 (pA jd) (kj (Dr kQ))
abbrev ly:Prop:=ur P w K mg dD "check_place" 1 (pA ik) (kj (tU dQ kQ))
abbrev Qz:Prop:=ur P w K mg dD "put" 6 (pA xC) (kj (gS dQ kQ 0))
abbrev LW:Prop:=ur P w K mg dD "join" 6 (pA r8) (kj (gS dQ kQ 1))
abbrev Ha:Prop:=ur P w K mg dD "found" 6 (pA oB) (kj (gS dQ kQ 2))
abbrev L8:Prop:=ur P w K mg dD "aged" 6 (pA sq) (kj (gS dQ kQ 3))
abbrev L4:Prop:=ur P w K mg dD "drop" 6 (pA se) (kj (gS dQ kQ 4))
abbrev LY:Prop:=ur P w K mg dD "free" 6 (pA r9) (kj (gS dQ kQ 5))
abbrev LU:Prop:=ur P w K mg dD "shut" 6 (pA rZ) (kj (gS dQ kQ 6))
abbrev qI:Prop:=ur P w K mg dD "stand_behind" 7 (pA g9) (kj (qD dQ kQ))
abbrev pB:Prop:=Mq P w K mg dD "Room" ee 3 (pA gN) (kj (tT ee dQ kQ))
abbrev iw:Prop:=wm P w K mg dD ee "now" 1 (pA jY) (hV (Oz ee dQ))
abbrev vN:Prop:=mI P w K mg dD ee "deed" 8 (pA ji) (kj (yo ee dQ kQ))
abbrev ui:Prop:=wm P w K mg dD ee "deeds" 1 (pA iR) (hV (qz ee dQ true))
abbrev uj:Prop:=wm P w K mg dD ee "ahead" 1 (pA iS) (hV (qz ee dQ false))
abbrev vL:Prop:=wm P w K mg dD ee "size" 2 (pA jg) (hV (jI ee dQ Qg))
abbrev uh:Prop:=wm P w K mg dD ee "names" 2 (pA iQ) (hV (jI ee dQ EV))
abbrev vP:Prop:=mI P w K mg dD ee "bars" 5 (pA jk) (kj (kE ee dQ kQ Qh))
abbrev yC:Prop:=mI P w K mg dD ee "age" 5 (pA jZ) (kj (kE ee dQ kQ Vv))
abbrev ug:Prop:=mI P w K mg dD ee "parts" 5 (pA iP) (kj (kE ee dQ kQ yb))
abbrev rR:Prop:=mI P w K mg dD ee "source" 5 (pA iq) (kj (qy ee dQ kQ))
abbrev vO:Prop:=wm P w K mg dD ee "cuts" 5 (pA jj) (hV (jI ee dQ GH))
abbrev uf:Prop:=wm P w K mg dD ee "takes" 5 (pA iO) (hV (jI ee dQ uP))
abbrev vK:Prop:=mI P w K mg dD ee "undo" 2 (pA jf) (kj (yf ee dQ fk))
abbrev vM:Prop:=mI P w K mg dD ee "redo" 2 (pA jh) (kj (yi ee dQ fk))
abbrev G6:Prop:=pO P w K mg dD "_law_names" 2 (pA ow) (hV tY)
abbrev Hb:Prop:=pO P w K mg dD "_law_begun" 5 (pA oC) (hV (A9 ee dQ))
abbrev ue:Prop:=pO P w K mg dD "_law_origin" 1 (pA mv) (hV tW)
abbrev L7:Prop:=pO P w K mg dD "_law_ages" 1 (pA sj) (hV yp)
abbrev G9:Prop:=pO P w K mg dD "_law_heard" 2 (pA oA) (hV ym)
abbrev G4:Prop:=pO P w K mg dD "_law_takes" 3 (pA ot) (hV tS)
abbrev Fh:Prop:=pO P w K mg dD "_law_open" 1 (pA r0) (hV yj)
abbrev L5:Prop:=pO P w K mg dD "_law_done" 2 (pA sf) (hV yn)
abbrev LV:Prop:=pO P w K mg dD "_law_lone" 1 (pA r6) (hV Dm)
abbrev LZ:Prop:=pO P w K mg dD "_law_easy" 3 (pA sd) (hV Dp)
abbrev DS:Prop:=pO P w K mg dD "_law_stands" 7 (pA mn) (hV (wI ee dQ))
abbrev G7:Prop:=pO P w K mg dD "_law_named" 1 (pA oy) (hV wM)
abbrev sJ:Prop:=pO P w K mg dD "_law_new_word" 2 (pA jW) (hV tX)
abbrev oY:Prop:=pO P w K mg dD "_law_place_word" 1 (pA iM) (hV oS)
abbrev yA:Prop:=pO P w K mg dD "_law_put_word" 3 (pA jV) (hV (jH w0))
abbrev vI:Prop:=pO P w K mg dD "_law_join_word" 3 (pA jb) (hV (jH w1))
abbrev vH:Prop:=pO P w K mg dD "_law_take_word" 1 (pA ja) (hV (jH w24))
abbrev LQ:Prop:=pO P w K mg dD "_law_word" 4 (pA rV) (hV (jH T8))
abbrev yB:Prop:=pO P w K mg dD "_law_any_name" 2 (pA jX) (hV ua)
abbrev vJ:Prop:=pO P w K mg dD "_law_bent_deed" 3 (pA je) (hV A7)
abbrev LR:Prop:=pO P w K mg dD "_law_wild" 4 (pA rW) (hV GJ)
abbrev G8:Prop:=Tn P w K mg dD "_law_kinds" 1 (pA oz) (tZ K kQ jv)
abbrev DR:Prop:=pO P w K mg dD "_law_turned" 9 (pA ml) (hV (wH K kQ jv ee dQ))
abbrev G5:Prop:=pO P w K mg dD "_law_right" 9 (pA ou) (hV (wL ee dQ))
end
section
variable {P:ae}{w:af}{K:aa}{mg:Str->Option Value}{dD:Heap}{f:ai}{fd:ag}
def RJ (F:ic K "_law_box" "_law_box" xE f fd)(T:jx mg)  : eV P w K mg dD kJ 1 f fd (pA xE) (Ah K):=by
 refine F.ok Q1 (fun vs H Q E h=>?_) (fun gr A dW s H vs Q E hr h=>?_)
 .unfold Ah at h;split at h
  .rfl
  .cases h
 .unfold Ah at h;split at h
  .rename_i a
   obtain⟨ns,hs,k⟩:=h
   refine⟨_,(kA (nc (JS (eO (zy PY (by rfl) T.list br (eO (kM 0) gJ)) (eO gm (eO gm (eO gm gJ))))))),?_⟩
   refine⟨_,hs,fun l hl=>?_⟩
   refine⟨(zs),fun b hb=>?_⟩
   have Yp:l≠b:=fC (o:=.lst (ns.map V.int)) eI hb
   have YC:H b=none:=by rw[eP Yp.symm]at hb;exact hb
   refine k b l _ ⟨ns,0,0,1,eI,by rw[eP Yp];exact eI,Yp,by decide,by decide,by decide⟩ YC hl fun c o e=>?_
   rw[eP (fC e YC),eP (fC e hl)]
   exact e
  .cases h
def NO (F:ic K "_law_take" "_law_take" rX f fd)(T:jx mg)  : eV P w K mg dD kJ 1 f fd (pA rX) (hV GK):=by
 refine eV.imp (sp:=wu) ?_ fun vs H Q E h=>Jq h
 refine F.ok sY (fun vs H Q E h=>?_) (fun gr A dW s H vs Q E hr h=>?_)
 .obtain⟨b,n,q,rfl,_⟩:=u6 h;rfl
 .obtain⟨b,n,q,rfl,⟨ns,i,r,z,hb,hq,WN,hi,hz,WT⟩,hn,Oi,k⟩:=u6 h
  refine⟨_,(gI (vj (mX gtC (qe KI (kM 0) gm (fun _ _=>rfl)) gm (ir _))
   (gI (uF (i:=2) sY.nd rfl (by first | exact Or.inl rfl | exact Or.inr rfl) (qe KI (kM 0) gm (fun _ _=>rfl)))
   (gI (uG (j9 divC (kM 2) (kM 1)) (xH (kM 0) gm setC))
   (kA (nc (j9 AU (kM 2) (kM 1))))))
   mY)
   (gI (uG (j9 AU (j9 Mh (j9 mulC (qe KI (kM 0) gm (fun _ _=>rfl)) gm) gm) gm) (xH (kM 0) gm setC))
   (Nv (vj (mX ltC (qe KI (kM 0) gm (fun _ _=>rfl)) (fZ N8 (by rfl) T.len cW (eO (qe KI (kM 0) gm (fun _ _=>rfl)) gJ)) (ir _))
   (gI (uF (i:=3) sY.nd rfl (by first | exact Or.inl rfl | exact Or.inr rfl) (qe KI (qe KI (kM 0) gm (fun _ _=>rfl)) (qe KI (kM 0) gm (fun _ _=>rfl)) (fun _ _=>rfl)))
   (gI (Nz (kM 0) gm YG gm GB setC)
   (gI (vj (mX geC (kM 3) (j9 powC gm gm) (ir _))
   (gI (uG (j9 divC (kM 3) (kM 1)) (xH (kM 0) gm setC))
   (kA (nc (j9 AU (kM 3) (kM 1)))))
   mY)
   (kA (uG (j9 AU (j9 Mh (qe KI (kM 0) gm (fun _ _=>rfl)) (j9 mulC (kM 3) gm)) gm) (xH (kM 0) gm setC))))))
   mY)
   (gI (uF (i:=4) sY.nd rfl (by first | exact Or.inl rfl | exact Or.inr rfl) (qe KI (kM 0) gm (fun _ _=>rfl)))
   (gI (uF (i:=5) sY.nd rfl (by first | exact Or.inl rfl | exact Or.inr rfl) (j9 AU (j9 Mh (j9 mulC (kM 4) (kM 4)) (j9 divC (kM 4) gm)) gm))
   (kA (nc (j9 AU (j9 AU (j9 Mh (j9 mulC (kM 5) gm) (kM 4)) gm) (kM 1))))))))),?_⟩
  have fin:∀(v:Int) (H':Hp) (i' r' z':Int),OB b H H'->H' b=some (.lst [.ref q,.int i',.int r',.int z'])->0<=i'->0<=z'->z'<2147483647->Q (.int (v%n)) H':=fun v H' i' r' z' ob Oq h1 h2 h3 =>
   k _ _ (Int.emod_nonneg _ (by lia)) (Int.emod_lt_of_pos _ hn) ⟨ns,i',r',z',Oq,(ob q WN).trans hq,WN,h1,h2,h3⟩ ob
  have md:∀ x:Int,0<=x%2147483647/\x%2147483647<2147483647:=fun x=>⟨Int.emod_nonneg _ (by decide),Int.emod_lt_of_pos _ (by decide)⟩
  refine⟨_,.inl hb,?_⟩
  refine nN (fun h1=>?_) (fun h1=>?_)
  .refine⟨_,.inl hb,⟨hn,Oi⟩,_,hb,hn,?_⟩
   exact fin _ _ _ _ _ OB.refl.upd eI hi hz WT
  .refine⟨_,.inl hb,.inr ⟨by decide,by decide⟩,pM,_,hb,?_⟩
   have ob1:∀ o,OB b H (upd H b o):=fun o=>OB.refl.upd
   refine⟨fun gH H'=>∃(c:Option V) (i' r' z':Int),gH=[some (.ref b),some (.int n),none,c,none,none]/\OB b H H'/\H' b=some (.lst [.ref q,.int i',.int r',.int z'])/\0<=i'/\0<=z'/\z'<2147483647,?_,?_⟩
   .refine⟨_,.inl eI,_,.inl eI,_,.inl ((ob1 _ q WN).trans hq),?_⟩
    refine nN (fun h2=>?_) (fun h2=>?_)
    .have h2':i<(ns.length:Int):=by simpa using h2
     obtain⟨c,hc⟩:∃ c,ns[i.toNat]?=some c:=⟨ns[i.toNat]'(by lia),sP _⟩
     have e:pJ (ns.map V.int) i=some (.int c):=by
      have q:=lZ (xs:=ns.map V.int) (j:=i.toNat) (v:=.int c) (by rw[vB,hc];rfl)
      rwa [Int.toNat_of_nonneg hi]at q
     refine⟨_,.inl eI,_,.inl eI,_,.inl ((ob1 _ q WN).trans hq),dH e ?_⟩
     refine⟨_,eI,by decide,_,eI,?_⟩
     refine⟨⟨by decide,by decide,by decide⟩,?_⟩
     refine nN (fun h3=>?_) (fun h3=>?_)
     .refine⟨⟨hn,Oi⟩,_,eI,hn,?_⟩
      exact fin _ _ (i+1) _ _ OB.refl.upd.upd.upd eI (by lia) (md _).1 (md _).2
     .refine⟨_,.inl eI,.inr ⟨by decide,by decide⟩,pM,_,eI,?_⟩
      exact⟨_,i+1,_,_,rfl,OB.refl.upd.upd.upd,eI,by lia,(md _).1,(md _).2⟩
    .exact⟨_,i,_,_,rfl,OB.refl.upd,eI,hi,(md _).1,(md _).2⟩
   .rintro gH H' ⟨c,i',r',z',rfl,ob,Oq,h1,h2,h3⟩
    refine⟨_,.inl Oq,.inl ⟨by lia,by lia⟩,⟨by decide,by decide⟩,pN,.inr ⟨by decide,by decide⟩,pM,hn,?_⟩
    exact fin _ _ i' _ _ ob Oq h1 h2 h3
def uV {μ:MS}{n:Nat}{it:D->MS->(Option D->MS->Prop)->Prop}{K:DK}(hn:n<=1000)(hit:∀(d:D) (K':Option D->MS->Prop),(∀ c:Nat,(c=111\/c=120)->K' (some (.str ⟨#[c]⟩)) μ)->it d μ K')(k:∀ l:List Nat,l.length=n->OX l->K (.str (txt l)) μ) :
 qH it (fun _=>True) (lU 0 n) μ fun ys fG=>nL false ys fG fun x lS=>Ld (.str (Str.ofString "")) [x] lS K:=by
 refine rB (fun c:Nat=>D.str ⟨#[c]⟩) (fun c=>c=111\/c=120) trivial (fun d hd K' k'=>hit d K' k') fun l hl ho=>?_
 rw[jl]at hl
 refine⟨rfl,l.map (fun c=>⟨#[c]⟩),by unfold lv;rw[aJ];rfl,by rw[qW];lia,?_⟩
 rw[oQ]
 exact k l hl fun c hc=>ho c hc
def CT {ds:List D}{μ:MS}{Kd:DK}(h:Dq ds μ Kd):∃ v0 v1,ds=[.mr v0,.int v1]:=by
 unfold Dq at h
 rcases ds with _ | ⟨z0,ds⟩
 .cases h
 cases z0 <;> first | exact False.elim h | skip
 rcases ds with _ | ⟨z1,ds⟩
 .cases h
 cases z1 <;> first | exact False.elim h | skip
 rcases ds with _ | ⟨zz,zs⟩
 .exact⟨_,_,rfl⟩
 .cases h
def NY (F:ic K "_law_bars" "_law_bars" si f fd)(T:jx mg)(eX:nj P w K mg dD):eV P w K mg dD kJ 2 f fd (pA si) (hV Dq):=by
 refine F.oG oq (fun ds μ Kd h=>by obtain⟨_,_,rfl⟩:=CT h;rfl) (fun gr A dW s H E hr=>⟨_,(dN (qS 2 oq.nd (qC eX hr (a2 (dv 0) dJ)))
  (dN (fF (mK (dv 2) dJ)
  (dX (eJ (yu bJ cn cm CL sW dY (a1 (GZ false (zW (N:=["_law_k", "_law_box_here"]) (js:=[none,some 0]) oq (by decide +kernel)) (jN rfl T.range (a1 (dv 1))) (fun _ _ _ nd=>(qN 0 nd)) (fun _ _ _=>kq) (fun _ _ _=>(fu dY (qC eX hr (a2 (dv 1) dJ)))))))))
  fg)
  (dN (fF (mK (dv 2) dJ)
  (dX (eJ (yu bJ cn cm CL sW dY (a1 (GZ false (zW (N:=["_law_k", "_law_box_here"]) (js:=[none,some 0]) oq (by decide +kernel)) (jN rfl T.range (a1 (dv 1))) (fun _ _ _ nd=>(qN 0 nd)) (fun _ _ _=>kq) (fun _ _ _=>(fu dY (qC eX hr (a2 (dv 1) dJ)))))))))
  fg)
  (dN (fF (mK (dv 2) dJ)
  (dN (qS 3 oq.nd (qC eX hr (a2 (dv 0) (dv 1))))
  (dN (qS 4 oq.nd (pP (pP (dv 3) dJ) (qC eX hr (a2 (dv 0) (OH (dv 1) (dv 3))))))
  (dX (eJ (pP (pP (ub mulC xm dY (dv 3)) (ub mulC xm dY (OH (dv 4) (dv 3)))) (ub mulC xm dY (OH (dv 1) (dv 4))))))))
  fg)
  (dN (fF (mK (dv 2) dJ)
  (dX (eJ (yu bJ cn cm CL sW dY (a1 (GZ false (zW (N:=["_law_k", "_law_box_here"]) (js:=[none,some 0]) oq (by decide +kernel)) (jN rfl T.range (a1 (dv 1))) (fun _ _ _ nd=>(qN 0 nd)) (fun _ _ _=>kq) (fun _ _ _=>(fu dY (qC eX hr (a2 (dv 1) dJ)))))))))
  fg)
  (dX (eJ (ub mulC xm (fu dY (qC eX hr (a2 (dv 0) dJ))) (dv 1))))))))),fun ds μ Kd hm hl h=>?_⟩)
 obtain⟨k,n,rfl⟩:=CT h
 unfold Dq at h
 .skip
  obtain⟨hb,h1,h2,kk⟩:=h
  refine⟨hb,by decide,by decide,fun v v0 v1=>?_⟩
  refine xY (fun hv=>?_) (fun hv=>?_)
  .refine⟨rfl,by lia,by lia,sz (by rw[jl];lia),?_⟩
   refine uV (n:=n.toNat) (by lia) (fun d K' k'=>?_) fun l hl ho=>.keep (kk l hl ho)
   refine⟨hb,by decide,by decide,fun v v0 v1=>⟨by decide,?_⟩⟩
   obtain⟨c,e,hc⟩:=yF (l:=(Str.ofString "ox").cps.toList) v0 v1
   exact dH e (k' c ((OX.of (l:=(Str.ofString "ox").cps.toList) (by decide +kernel)) c hc))
  refine xY (fun hv=>?_) (fun hv=>?_)
  .refine⟨rfl,by lia,by lia,sz (by rw[jl];lia),?_⟩
   refine uV (n:=n.toNat) (by lia) (fun d K' k'=>?_) fun l hl ho=>.keep (kk l hl ho)
   refine⟨hb,by decide,by decide,fun v v0 v1=>⟨by decide,?_⟩⟩
   obtain⟨c,e,hc⟩:=yF (l:=(Str.ofString "ooooox").cps.toList) v0 v1
   exact dH e (k' c ((OX.of (l:=(Str.ofString "ooooox").cps.toList) (by decide +kernel)) c hc))
  refine xY (fun hv=>?_) (fun hv=>?_)
  .refine⟨hb,by lia,by lia,fun p p0 p1=>⟨hb,by lia,by lia,fun g g0 g1=>?_⟩⟩
   refine⟨120,rfl,by lia,by lia,111,rfl,by lia,by lia,?_,120,rfl,by lia,by lia,?_,?_⟩
   .rw[EM,EM,aU,aU];exact sz (by lia)
   .rw[o5,EM,EM,j3,aU,aU,aU];exact sz (by lia)
   rw[o5,o5]
   refine .keep (kk _ ?_ (((OX.rep (.inr rfl)).app (OX.rep (.inl rfl))).app (OX.rep (.inr rfl))))
   rw[j3,j3,aU,aU,aU];lia
  refine xY (fun hv=>?_) (fun hv=>?_)
  .refine⟨rfl,by lia,by lia,sz (by rw[jl];lia),?_⟩
   refine uV (n:=n.toNat) (by lia) (fun d K' k'=>?_) fun l hl ho=>.keep (kk l hl ho)
   refine⟨hb,by decide,by decide,fun v v0 v1=>⟨by decide,?_⟩⟩
   obtain⟨c,e,hc⟩:=yF (l:=(Str.ofString "xxxo").cps.toList) v0 v1
   exact dH e (k' c ((OX.of (l:=(Str.ofString "xxxo").cps.toList) (by decide +kernel)) c hc))
  refine⟨hb,by decide,by decide,fun p p0 p1=>⟨by decide,?_⟩⟩
  obtain⟨c,e,hc⟩:=yF (l:=(Str.ofString "ox").cps.toList) p0 p1
  exact dH e ⟨c,rfl,by lia,by lia,.keep (kk _ (aU ..) (OX.rep ((OX.of (l:=(Str.ofString "ox").cps.toList) (by decide +kernel)) c hc)))⟩
def CN {ds:List D}{μ:MS}{Kd:DK}(h:Di ds μ Kd):∃ v0 v1,ds=[.mr v0,.int v1]:=by
 unfold Di at h
 rcases ds with _ | ⟨z0,ds⟩
 .cases h
 cases z0 <;> first | exact False.elim h | skip
 rcases ds with _ | ⟨z1,ds⟩
 .cases h
 cases z1 <;> first | exact False.elim h | skip
 rcases ds with _ | ⟨zz,zs⟩
 .exact⟨_,_,rfl⟩
 .cases h
def NP (F:ic K "_law_size" "_law_size" rY f fd)(T:jx mg)(eX:nj P w K mg dD):eV P w K mg dD kJ 2 f fd (pA rY) (hV Di):=by
 refine F.oG Nj (fun ds μ Kd h=>by obtain⟨_,_,rfl⟩:=CN h;rfl) (fun gr A dW s H E hr=>⟨_,(dX (eJ (fu (iE false (dP (dv 1) (dP (dv 1) (dP (dv 1) (dP (dv 1) (dP (dv 1) (dP (dv 1) (dP (dv 1) (dP dJ fV))))))))) (qC eX hr (a2 (dv 0) dJ))))),fun ds μ Kd hm hl h=>?_⟩)
 obtain⟨k,n,rfl⟩:=CN h
 unfold Di at h
 .skip
  obtain⟨hb,kk⟩:=h
  refine⟨zs,hb,by decide,by decide,fun v v0 v1=>?_⟩
  have q:∃ m,pJ [D.int n,D.int n,D.int n,D.int n,D.int n,D.int n,D.int n,D.int 40] v=some (.int m)/\(m=n\/m=40):=by
   obtain⟨j,rfl⟩:∃ j:Nat,v=(j:Int):=⟨v.toNat,by lia⟩
   have hj:j<8:=by lia
   match j,hj with
   | 0,_=>exact⟨n,rfl,.inl rfl⟩
   | 1,_=>exact⟨n,rfl,.inl rfl⟩
   | 2,_=>exact⟨n,rfl,.inl rfl⟩
   | 3,_=>exact⟨n,rfl,.inl rfl⟩
   | 4,_=>exact⟨n,rfl,.inl rfl⟩
   | 5,_=>exact⟨n,rfl,.inl rfl⟩
   | 6,_=>exact⟨n,rfl,.inl rfl⟩
   | 7,_=>exact⟨40,rfl,.inr rfl⟩
  obtain⟨m,em,GG⟩:=q
  exact dH em (.keep (kk m GG))
def Cs (n:Nat){f:ai}{fd:ag}(F:ic K "_law_same" "_law_same" s_same f fd)(T:jx mg)(j5:pO P w K mg dD "_law_same" n ["_law_found", "_law_due"] (spS n)):eV P w K mg dD kJ (n+1) f fd ["_law_found", "_law_due"] (uz n):=by
 refine F.ok Nk (fun vs H Q E h=>?_) (fun gr A dW s H vs Q E hr h=>?_)
 .unfold uz at h;split at h
  .rfl
  .cases h
 .unfold uz at h;split at h
  .rename_i x y
   obtain⟨d,hd,hw,hx,hy,k⟩:=h
   refine⟨_,(gI (vj (PW.pt (pw_or (tE (fZ tK (by rfl) T.isinstance aP (eO (kM 1) (eO (iU (v:=.ty "bool") rfl T.bool cK rfl) gJ)))) (pw_or1 (tE (fZ tK (by rfl) T.isinstance aP (eO (kM 0) (eO (iU (v:=.ty "bool") rfl T.bool cK rfl) gJ)))))))
   (kA (nc (wB (fZ tK (by rfl) T.isinstance aP (eO (kM 1) (eO (iU (v:=.ty "bool") rfl T.bool cK rfl) gJ))) (wB (fZ tK (by rfl) T.isinstance aP (eO (kM 0) (eO (iU (v:=.ty "bool") rfl T.bool cK rfl) gJ))) (EC (tF eqN (kM 0) (kM 1) (ir _)))))))
   mY)
   (gI (vj (PW.pt (pw_or (tE (fZ tK (by rfl) T.isinstance aP (eO (kM 1) (eO (iU (v:=.ty "list") rfl T.list br rfl) gJ)))) (pw_or1 (tE (fZ tK (by rfl) T.isinstance aP (eO (kM 1) (eO (iU (v:=.ty "tuple") rfl T.tuple dt rfl) gJ)))))))
   (gI (vj (PW.pt (pw_or (mX BP (fZ tK (by rfl) T.isinstance aP (eO (kM 1) (eO (iU (v:=.ty "list") rfl T.list br rfl) gJ))) (fZ tK (by rfl) T.isinstance aP (eO (kM 0) (eO (iU (v:=.ty "list") rfl T.list br rfl) gJ))) (ir _)) (pw_or1 (mX BP (fZ tK (by rfl) T.isinstance aP (eO (kM 1) (eO (iU (v:=.ty "tuple") rfl T.tuple dt rfl) gJ))) (fZ tK (by rfl) T.isinstance aP (eO (kM 0) (eO (iU (v:=.ty "tuple") rfl T.tuple dt rfl) gJ))) (ir _)))))
   (kA (nc J0))
   mY)
   (kA (nc (wB (tF VD (fZ N8 (by rfl) T.len cW (eO (kM 0) gJ)) (fZ N8 (by rfl) T.len cW (eO (kM 1) gJ)) (ir _)) (EC (fZ (SX rfl) (by rfl) T.all PyProof.Rows.boot_all (eO (Gn (LK (XN:=["_law_found", "_law_due"]) (xsc:=(dR s_same)) (N:=["_law_one", "_law_other"]) (js:=[none,none]) (by decide +kernel)) rfl (Ri rfl T.zip (eO (kM 0) (eO (kM 1) gJ))) (fun _ _ _=>(gz (n:=2) rfl (d7 (wA (i:=0) (show List.Nodup (["_law_one", "_law_other"]:List Str) by decide +kernel) rfl (by first | exact Or.inl rfl | exact Or.inr rfl)) (d7 (wA (i:=1) (show List.Nodup (["_law_one", "_law_other"]:List Str) by decide +kernel) rfl (by first | exact Or.inl rfl | exact Or.inr rfl)) fR)))) (fun _ _ _=>Gi) (fun _ _ _=>(xI j5 (hr.mono (by first | decide | exact aj _ | lia)) rfl (eO (kM 0) (eO (kM 1) gJ))))) gJ)))))))
   mY)
   (gI (vj (PW.pt (pw_or (mX BP (fZ tK (by rfl) T.isinstance aP (eO (kM 1) (eO (iU (v:=.ty "str") rfl T.str PyProof.Rows.boot_str rfl) gJ))) (fZ tK (by rfl) T.isinstance aP (eO (kM 0) (eO (iU (v:=.ty "str") rfl T.str PyProof.Rows.boot_str rfl) gJ))) (ir _)) (pw_or1 (mX BP (fZ tK (by rfl) T.isinstance aP (eO (kM 1) (eO (iU (v:=.ty "int") rfl T.int PyProof.Rows.boot_int rfl) gJ))) (fZ tK (by rfl) T.isinstance aP (eO (kM 0) (eO (iU (v:=.ty "int") rfl T.int PyProof.Rows.boot_int rfl) gJ))) (ir _)))))
   (kA (nc J0))
   mY)
   (kA (nc (tF eqN (kM 0) (kM 1) (ir _))))))),?_⟩
   cases d with
   | bl b =>
    obtain rfl:x=.bl b:=hx
    obtain rfl:y=.bl b:=hy
    refine⟨_,true,jQ.bl b,iD K _,_,true,jQ.bl b,iD K _,_,true,jQ.bl b,iD K _,?_⟩
    show Q (.bl (decide (b=b))) H
    rw[ar rfl]
    exact k H (hU.refl H)
   | int i =>
    obtain rfl:x=.int i:=hx
    obtain rfl:y=.int i:=hy
    refine⟨_,false,.int i,rfl,_,false,.int i,rfl,_,false,.int i,rfl,_,false,.int i,rfl,_,false,.int i,rfl,_,false,.int i,rfl,_,true,.int i,iD K _,_,true,.int i,iD K _,?_⟩
    show Q (.bl (decide (i=i))) H
    rw[ar rfl]
    exact k H (hU.refl H)
   | str z =>
    obtain rfl:x=.str z:=hx
    obtain rfl:y=.str z:=hy
    refine⟨_,false,.str z,rfl,_,false,.str z,rfl,_,false,.str z,rfl,_,false,.str z,rfl,_,true,.str z,iD K _,_,true,.str z,iD K _,_,false,.str z,rfl,_,false,.str z,rfl,?_⟩
    show Q (.bl (decide (z=z))) H
    rw[ar rfl]
    exact k H (hU.refl H)
   | gy =>
    obtain rfl:x=.gy:=hx
    obtain rfl:y=.gy:=hy
    refine⟨_,false,.gy,rfl,_,false,.gy,rfl,_,false,.gy,rfl,_,false,.gy,rfl,_,false,.gy,rfl,_,false,.gy,rfl,_,false,.gy,rfl,_,false,.gy,rfl,?_⟩
    exact k H (hU.refl H)
   | lst ds =>
    obtain⟨p,vs,rfl,hp,qp⟩:=hx
    obtain⟨q,ws,rfl,hq,qq⟩:=hy
    obtain⟨m,rfl⟩:∃ m,n=m+1:=⟨n - 1,by unfold dep at hd;lia⟩
    have K3:zh ds<=m:=by unfold dep at hd;lia
    have hw1:ds.length<sizeLine:=by unfold Mv at hw;lia
    have X9:yS ds<sizeLine:=by unfold Mv at hw;lia
    have len:vs.length=ws.length:=by rw[qp.len,qq.len]
    refine⟨_,false,jQ.lst hq,rfl,_,false,jQ.lst hp,rfl,_,true,jQ.lst hq,iD K _,_,true,jQ.lst hq,iD K _,_,true,jQ.lst hp,iD K _,_,false,jQ.lst hq,rfl,_,false,jQ.lst hp,rfl,?_⟩
    refine⟨_,.inl hp,_,.inl hq,?_⟩
    refine xY (fun _=>?_) (fun h=>(h (by rw[len])).elim)
    refine⟨false,_,_,hp,hq,?_⟩
    refine G2 len (fun i ys H'=>ys=List.replicate i (V.bl true)/\hU H H') ⟨rfl,hU.refl H⟩ (fun i ys H' h=>⟨h.2 _ _ hp,h.2 _ _ hq⟩) ?_ ?_
    .rintro i x' y' ys H' T' hi ex ey ⟨rfl,S⟩ hT
     refine⟨_,eI,rfl,Ext.UM,?_⟩
     obtain⟨d1,e1,i1⟩:=qp.get ex
     obtain⟨d2,e2,i2⟩:=qq.get ey
     rw[e1]at e2;cases e2
     have S2:hU H (upd H' T' (.tup [x',y'])):=S.trans (hU.upd hT)
     refine⟨d1,aE (yt e1) K3,cj (xc e1) X9,i1.mono S2 _ _,i2.mono S2 _ _,fun H3 S3=>?_⟩
     exact cnx hi (by rw[aU];have:=qp.len;lia) ⟨by rw[List.replicate_succ'],S2.trans S3⟩
    .rintro ys H' ⟨rfl,S⟩ D hD
     refine⟨List.replicate vs.length true,by rw[eI,List.map_replicate],?_⟩
     have e:(List.replicate vs.length true).all id=true:=by rw[cI];intro b hb;rw[(List.mem_replicate.mp hb).2];rfl
     show Q (.bl ((List.replicate vs.length true).all id)) (upd H' D (.lst (List.replicate vs.length (V.bl true))))
     rw[e]
     exact k _ (S.trans (hU.upd hD))
   | tup ds =>
    obtain⟨p,vs,rfl,hp,qp⟩:=hx
    obtain⟨q,ws,rfl,hq,qq⟩:=hy
    obtain⟨m,rfl⟩:∃ m,n=m+1:=⟨n - 1,by unfold dep at hd;lia⟩
    have K3:zh ds<=m:=by unfold dep at hd;lia
    have hw1:ds.length<sizeLine:=by unfold Mv at hw;lia
    have X9:yS ds<sizeLine:=by unfold Mv at hw;lia
    have len:vs.length=ws.length:=by rw[qp.len,qq.len]
    refine⟨_,false,jQ.tup hq,rfl,_,false,jQ.tup hp,rfl,_,false,jQ.tup hq,rfl,_,true,jQ.tup hq,iD K _,_,false,jQ.tup hq,rfl,_,false,jQ.tup hp,rfl,_,true,jQ.tup hq,iD K _,_,true,jQ.tup hp,iD K _,?_⟩
    refine⟨_,.inr hp,_,.inr hq,?_⟩
    refine xY (fun _=>?_) (fun h=>(h (by rw[len])).elim)
    refine⟨true,_,_,hp,hq,?_⟩
    refine G2 len (fun i ys H'=>ys=List.replicate i (V.bl true)/\hU H H') ⟨rfl,hU.refl H⟩ (fun i ys H' h=>⟨h.2 _ _ hp,h.2 _ _ hq⟩) ?_ ?_
    .rintro i x' y' ys H' T' hi ex ey ⟨rfl,S⟩ hT
     refine⟨_,eI,rfl,Ext.UM,?_⟩
     obtain⟨d1,e1,i1⟩:=qp.get ex
     obtain⟨d2,e2,i2⟩:=qq.get ey
     rw[e1]at e2;cases e2
     have S2:hU H (upd H' T' (.tup [x',y'])):=S.trans (hU.upd hT)
     refine⟨d1,aE (yt e1) K3,cj (xc e1) X9,i1.mono S2 _ _,i2.mono S2 _ _,fun H3 S3=>?_⟩
     exact cnx hi (by rw[aU];have:=qp.len;lia) ⟨by rw[List.replicate_succ'],S2.trans S3⟩
    .rintro ys H' ⟨rfl,S⟩ D hD
     refine⟨List.replicate vs.length true,by rw[eI,List.map_replicate],?_⟩
     have e:(List.replicate vs.length true).all id=true:=by rw[cI];intro b hb;rw[(List.mem_replicate.mp hb).2];rfl
     show Q (.bl ((List.replicate vs.length true).all id)) (upd H' D (.lst (List.replicate vs.length (V.bl true))))
     rw[e]
     exact k _ (S.trans (hU.upd hD))
  .cases h
def Gv {f:ai}{fd:ag}(F:ic K "_law_same" "_law_same" s_same f fd)(T:jx mg)(hm:mg "_law_same"=some (.ref f))(hk:W.keepIn K (.ref f)=true)(hb:Binds K fd ["_law_found", "_law_due"] []):∀ n,eV P w K mg dD kJ (n+1) f fd ["_law_found", "_law_due"] (uz n)
 | 0=>Cs 0 F T ⟨f,fd,⟨fun _ _ _ _ h=>h.elim,fun _ _ _ _ _ _ _ _ _ _ _ _ _ h=>h.elim⟩,hm,hk,hb⟩
 | n+1=>Cs (n+1) F T ⟨f,fd,Gv F T hm hk hb n,hm,hk,hb⟩
def HS (F:ic K "joined" "joined" mw f fd)(T:jx mg)  : eV P w K mg dD kJ 1 f fd (pA mw) (hV wN):=by
 refine F.oG l5 (fun ds μ Kd h=>by unfold wN at h;split at h <;> first | rfl | exact h.elim) (fun gr A dW s H E hr=>⟨_,(dN (kz (dv 0) ⟨(gz (n:=2) rfl (d7 (qN 3 l5.nd) (d7 (qN 4 l5.nd) fR))),(ie (eG (eB 3) (dF 3) (eG (eB 4) (dF 4) ig eA) (dU (dF 4) eA))),(iu (dU (dF 3) (dU (dF 4) eA)))⟩)
  (dN (kz (dv 1) ⟨(gz (n:=2) rfl (d7 (qN 5 l5.nd) (d7 (qN 6 l5.nd) fR))),(ie (eG (eB 5) (dF 5) (eG (eB 6) (dF 6) ig eA) (dU (dF 6) eA))),(iu (dU (dF 5) (dU (dF 6) eA)))⟩)
  (dN (qS 7 l5.nd (rQ (RO rfl) Eo (by rfl) T.max PyProof.Rows.boot_max (a2 (dv 2) dJ)))
  (dX (eJ (gO (a2 (pP (jz false (dv 3) qi (iC (dv 7))) (jz false (dv 5) (iC (dv 7)) qi)) (pP (rQ (RO rfl) Eo (by rfl) T.max PyProof.Rows.boot_max (a2 (dv 4) (dv 6))) dJ)))))))),fun ds μ Kd hm hl h=>?_⟩)
 unfold wN at h
 split at h
 .rename_i z a y b p
  obtain⟨x,u,rfl,rfl,rfl,rfl,hp,hx,hu,kk⟩:=h
  have lz1:(txt x.1).length<=sizeLine:=by rw[mR];exact sz (by lia)
  have lz2:(txt u.1).length<=sizeLine:=by rw[mR];exact sz (by lia)
  have c1:=oV x.1 none (some (max p 0))
  have c2:=oV u.1 (some (max p 0)) none
  refine⟨rfl,rfl,lz1,lz2,?_,zs,.keep ?_⟩
  .show(txt (hZ x.1 none (some (max p 0)))).length+(txt (hZ u.1 (some (max p 0)) none)).length<=sizeLine
   rw[mR,mR];exact sz (by lia)
  .show Kd (.tup [.str (txt (hZ x.1 none (some (max p 0)))++txt (hZ u.1 (some (max p 0)) none)),.int (max x.2 u.2+1)]) μ
   rw[show max p 0=p by lia,o5,Bo hp,uT hp]
   exact kk
 .cases h
def vq {ds:List D}{μ:MS}{Kd:DK}(h:t6 ds μ Kd):∃ v0 v1,ds=[.int v0,.str v1]:=by
 unfold t6 at h
 rcases ds with _ | ⟨z0,ds⟩
 .cases h
 cases z0 <;> first | exact False.elim h | skip
 rcases ds with _ | ⟨z1,ds⟩
 .cases h
 cases z1 <;> first | exact False.elim h | skip
 rcases ds with _ | ⟨zz,zs⟩
 .exact⟨_,_,rfl⟩
 .cases h
def EG (F:ic K "is_bars" "is_bars" kP f fd)(T:jx mg)  : eV P w K mg dD kJ 1 f fd (pA kP) (hV t6):=by
 refine F.oG Es (fun ds μ Kd h=>by obtain⟨_,_,rfl⟩:=vq h;rfl) (fun gr A dW s H E hr=>⟨_,(dX (eJ (GX (vD VD xn (we T (dv 1)) (dv 0) (ir _)) (Ls (vD VD xn (pP (yu bJ PySem.F.slot_str_count PySem.F.type_str_count LJ B6 (dv 1) (a1 dY)) (yu bJ PySem.F.slot_str_count PySem.F.type_str_count LJ B6 (dv 1) (a1 dY))) (dv 0) (ir _)))))),fun ds μ Kd hm hl h=>?_⟩)
 obtain⟨n,z,rfl⟩:=vq h
 unfold t6 at h
 .skip
  obtain⟨hz,kk⟩:=h
  refine⟨sz (by lia),?_⟩
  have ox:(((z.cps.toList.count 111:Nat):Int)+((z.cps.toList.count 120:Nat):Int)=n/\((z.length:Nat):Int)=n)↔(((z.length:Nat):Int)=n/\BO z=true):=by
   have:=LL z.cps.toList
   have lz:z.length=z.cps.toList.length:=(cc (xs:=z.cps)).symm
   constructor
   .rintro⟨h1,h2⟩;exact⟨h2,this.mp (by lia)⟩
   .rintro⟨h1,h2⟩;have:=this.mpr h2;exact⟨by lia,h1⟩
  refine xY (c:=((z.length:Nat):Int)=n) (fun e=>?_) (fun e=>?_)
  .refine⟨rfl,111,rfl,rfl,120,rfl,?_⟩
   have:decide (((z.length:Nat):Int)=n/\BO z=true)=decide (((z.cps.toList.count 111:Nat):Int)+((z.cps.toList.count 120:Nat):Int)=n):=by
    by_cases q:((z.cps.toList.count 111:Nat):Int)+((z.cps.toList.count 120:Nat):Int)=n
    .rw[ar q,ar (ox.mp ⟨q,e⟩)]
    .rw[az q,az fun y=>q (ox.mpr y).1]
   rw[this]at kk
   show Fz _ Kd (.bl (false != decide (((z.cps.toList.count 111:Nat):Int)+((z.cps.toList.count 120:Nat):Int)=n))) μ
   rw[TY]
   exact .keep kk
  .rw[az (fun y=>e y.1)]at kk
   exact .keep kk
def tL {ds:List D}{μ:MS}{Kd:DK}(h:Dh ds μ Kd):∃ v0 v1 v2 v3,ds=[.mE v0 v1,v2,v3]:=by
 unfold Dh at h
 rcases ds with _ | ⟨z0,ds⟩
 .cases h
 cases z0 <;> first | exact False.elim h | skip
 rcases ds with _ | ⟨z1,ds⟩
 .cases h
 rcases ds with _ | ⟨z2,ds⟩
 .cases h
 rcases ds with _ | ⟨zz,zs⟩
 .exact⟨_,_,_,_,rfl⟩
 .cases h
def Cr (F:ic K "with_key" "with_key" jU f fd)(T:jx mg)  : eV P w K mg dD kJ 1 f fd (pA jU) (hV Dh):=by
 refine F.oG u7 (fun ds μ Kd h=>by obtain⟨_,_,_,_,rfl⟩:=tL h;rfl) (fun gr A dW s H E hr=>⟨_,(dN (qS 3 u7.nd (DH Lp xo (by rfl) T.dict du (a1 (dv 0))))
  (dN (ky (fW hr) (dv 2) (dv 3) (dv 1))
  (dX (eJ (yx (dv 3)))))),fun ds μ Kd hm hl h=>?_⟩)
 obtain⟨ks,es,y,v,rfl⟩:=tL h
 unfold Dh at h
 .skip
  obtain⟨kd,k,rfl,rfl,Oj,hk,kk⟩:=h
  refine dH rfl ?_
  refine⟨kd,dput kd k v,fU,cj Oj (by decide),by rw[hk];rfl,?_⟩
  rw[gD]
  refine⟨_,_,fU,fun o kvs Sj=>?_⟩
  rw[gD]
  refine Fz.mE (aj _) fU (oH hl.1 hl.2.2.1) (gQ hm) ?_
  rw[aW,Sj]
  exact kk
def pq {ds:List D}{μ:MS}{Kd:DK}(h:qw ds μ Kd):∃ v0 v1 v2,ds=[.mE v0 v1,v2]:=by
 unfold qw at h
 rcases ds with _ | ⟨z0,ds⟩
 .cases h
 cases z0 <;> first | exact False.elim h | skip
 rcases ds with _ | ⟨z1,ds⟩
 .cases h
 rcases ds with _ | ⟨zz,zs⟩
 .exact⟨_,_,_,rfl⟩
 .cases h
def xK (F:ic K "without_key" "without_key" ij f fd)(T:jx mg)  : eV P w K mg dD kJ 1 f fd (pA ij) (hV qw):=by
 refine F.oG p7 (fun ds μ Kd h=>by obtain⟨_,_,_,rfl⟩:=pq h;rfl) (fun gr A dW s H E hr=>⟨_,(dX (eJ (yx (OC (zW (N:=["other", "thing", "key"]) (js:=[none,none,some 1]) p7 (by decide +kernel)) rfl (ie (eG (eB 0) (dF 0) (eG (eB 1) (dF 1) ig eA) (dU (dF 1) eA))) (iu (dU (dF 0) (dU (dF 1) eA))) rfl (CY (dv 0)) (fun _ _ _=>(gz (n:=2) rfl (d7 (qN 0 (show List.Nodup (["other", "thing", "key"]:List Str) by decide +kernel)) (d7 (qN 1 (show List.Nodup (["other", "thing", "key"]:List Str) by decide +kernel)) fR)))) (fun _ _ _=>(uw (Nt (dv 0) (dv 2)))) (fun _ _ _=>(dv 0)) (fun _ _ _=>(dv 1)))))),fun ds μ Kd hm hl h=>?_⟩)
 obtain⟨ks,es,y,rfl⟩:=pq h
 unfold qw at h
 .skip
  obtain⟨kd,k,rfl,rfl,Oj,nd,hk,hs,kk⟩:=h
  intro hlen
  rw[zF]
  refine⟨by rw[fH];exact sz (by lia),?_⟩
  refine nh (fun p=>decide (p.1≠k)) kd [] _ nd (fun p hp μ' K' k'=>?_) ?_
  .refine⟨rfl,?_⟩
   rcases hs p hp with⟨i,j,e1,rfl⟩ | ⟨i,j,e1,rfl⟩
   .obtain⟨pk,pv⟩:=p
    cases e1
    cases y with
    | int y =>
     cases hk
     refine GA (c:=i=j) (fun q=>?_) (fun q=>?_)
     .have k':K' (if decide (lG i≠lG j)=true then some (lG i,pv)else none) μ':=k'
      rw[ar (show lG i≠lG j from fun z=>q (jq _ _ z))]at k';exact k'
     .have k':K' (if decide (lG i≠lG j)=true then some (lG i,pv)else none) μ':=k'
      rw[az (show ¬ lG i≠lG j from fun z=>z (by rw[q]))]at k';exact k'
    | _=>cases hk
   .obtain⟨pk,pv⟩:=p
    cases e1
    cases y with
    | str y =>
     cases hk
     refine GA (c:=i=j) (fun q=>?_) (fun q=>?_)
     .have k':K' (if decide (eS i≠eS j)=true then some (eS i,pv)else none) μ':=k'
      rw[ar (show eS i≠eS j from fun z=>q (eE _ _ z))]at k';exact k'
     .have k':K' (if decide (eS i≠eS j)=true then some (eS i,pv)else none) μ':=k'
      rw[az (show ¬ eS i≠eS j from fun z=>z (by rw[q]))]at k';exact k'
    | _=>cases hk
  .refine⟨_,_,fU,fun o kvs Sj=>?_⟩
   rw[gD]
   refine Fz.mE (aj _) fU (kT fun d hd=>?_) (gQ hm) ?_
   .obtain⟨p,hp,rfl⟩:=List.mem_map.mp hd
    exact wD hl.1 (List.mem_map.mpr ⟨p,(List.mem_filter.mp hp).1,rfl⟩)
   .rw[aW,Sj]
    exact kk
def tG (F:ic K "__init__" "Stand.__init__" gA f fd)(T:jx mg)(dG:gM K dQ):eV P w K mg dD kJ 1 f fd (pA gA) (hV (wJ dQ)):=by
 refine F.oG tm (fun ds μ Kd h=>by unfold wJ at h;split at h <;> first | rfl | exact h.elim) (fun gr A dW s H E hr=>⟨_,(dN (xD dG.cl dG.ia (dv 1) (dv 0))
  (dN (xD dG.cl dG.gw (dv 2) (dv 0))
  (dN (xD dG.cl dG.jo (dv 3) (dv 0))
  (dX (xD dG.cl dG.jM (dv 4) (dv 0)))))),fun ds μ Kd hm hl h=>?_⟩)
 unfold wJ at h
 split at h
 .rename_i k n a b c
  obtain⟨em,kk⟩:=h
  have hk:k<μ.length:=(l8 em).1
  have st:∀ ns ds,(μ.set k (.ins dQ ns ds))[k]?=some (.ins dQ ns ds):=fun ns ds=>aC hk
  refine⟨_,_,fM em,rfl,by decide,?_⟩
  refine⟨_,_,fM (st _ _),rfl,by show 1<1000;decide,?_⟩
  rw[dw]
  refine⟨_,_,fM (st _ _),rfl,by show 2<1000;decide,?_⟩
  rw[dw]
  refine⟨_,_,fM (st _ _),rfl,by show 3<1000;decide,?_⟩
  rw[dw]
  exact .keep kk
 .cases h
def qh (F:ic K "check_there" "Stand.check_there" fS f fd)(T:jx mg)(dG:gM K dQ)(nV:OwnCls "NoTake" wR nF "ValueError.__new__" mg dD):eV P w K mg dD (nz P w) 1 f fd (pA fS) (kj (yg dQ kQ)):=by
 refine F.xQ qa (fun ds μ Kd Kx h=>E5 h) (fun gr A dW s H E hr fh Kb Z=>⟨_,(dX (fF (lF (fW hr) (dv 1) (eY dG.cl dG.gw (dv 0)) (by with_unfolding_all rfl))
  (dX (iL Z rfl nV ao (by decide) ao rfl (a1 dY)))
  fg)),fun ds μ m Kd Kx hm hl em h hK=>?_⟩)
 unfold yg at h
 split at h
 .rename_i x nm
  obtain⟨_,S,rfl,kk⟩:=h
  refine⟨rfl,_,rfl,_,ib eE ny nm S.dE rfl,?_⟩
  cases e:d9 S.dE nm with
  | none=>rw[e]at kk;exact⟨zs,fX hK em kk⟩
  | some x=>rw[e]at kk;exact .keep (kc em kk)
 .cases h
def xO (F:ic K "parts" "Stand.parts" ip f fd)(T:jx mg)(dG:gM K dQ)(fE:gP P w K mg dD):eV P w K mg dD (nz P w) 2 f fd (pA ip) (kj (tV dQ kQ)):=by
 refine F.xQ xA (fun ds μ Kd Kx h=>Dl h) (fun gr A dW s H E hr fh Kb Z=>⟨_,(dN (i7 (jA Z.z fE dG.cl hr.le (dv 0) (a1 (dv 1))))
  (dX (eJ (ke (fW hr) (eY dG.cl dG.gw (dv 0)) (dv 1) (fun _ _=>rfl))))),fun ds μ m Kd Kx hm hl em h hK=>?_⟩)
 unfold tV at h
 split at h
 .rename_i x nm
  obtain⟨_,S,rfl,kk⟩:=h
  refine⟨⟨rfl,rfl⟩,eU em,⟨_,eU em⟩,S,rfl,?_⟩
  cases e:d9 S.dE nm with
  | none=>rw[e]at kk;exact(fX hK em kk).2
  | some x =>
   rw[e]at kk
   exact⟨rfl,_,rfl,ny x,by rw[ib eE ny nm S.dE rfl,e];rfl,.keep (kc em kk)⟩
 .cases h
def vU (F:ic K "source" "Stand.source" hG f fd)(T:jx mg)(dG:gM K dQ)(nY:OwnCls "BadBar" wW nF "ValueError.__new__" mg dD)(jT:lA P w K mg dD):eV P w K mg dD (nz P w) 3 f fd (pA hG) (kj (qx dQ kQ)):=by
 refine F.xQ gd (fun ds μ Kd Kx h=>A5 h) (fun gr A dW s H E hr fh Kb Z=>⟨_,(dN (qS 3 gd.nd (jA Z.z jT dG.cl hr.le (dv 0) (a1 (dv 1))))
  (dN (fF (PW.pt (pE (Gh (dv 2) dJ) (lE (UI (dv 2) (eY dG.cl dG.ia (dv 0))))))
  (dX (iL Z rfl nY ao (by decide) ao rfl (a1 dY)))
  fg)
  (dN (qS 4 gd.nd dJ)
  (dN (Ga PassesOwn.leaving (xh (dv 3))
  (dN (kz (dv 3) ⟨(gz (n:=3) rfl (d7 (qN 5 gd.nd) (d7 (qN 6 gd.nd) (d7 (qN 7 gd.nd) fR)))),(ie (eG (eB 5) (dF 5) (eG (eB 6) (dF 6) (eG (eB 7) (dF 7) ig eA) (dU (dF 7) eA)) (dU (dF 6) (dU (dF 7) eA)))),(iu (dU (dF 5) (dU (dF 6) (dU (dF 7) eA))))⟩)
  (dN (qS 1 gd.nd (yw (Gh (dv 2) (dv 7)) (dv 5) (dv 6)))
  (dN (qS 3 gd.nd (ke (fW hr) (eY dG.cl dG.gw (dv 0)) (dv 1) (fun _ _=>rfl)))
  (dX (Ux (i:=4) gd.nd rfl lo dJ GB QT))))))
  (dX (eJ (gO (a2 (dv 1) (dv 4))))))))),fun ds μ m Kd Kx hm hl em h hK=>?_⟩)
 unfold qx at h
 split at h
 .rename_i x nm bar
  obtain⟨_,S,rfl,kp,kk⟩:=h
  refine⟨⟨rfl,rfl⟩,eU em,⟨_,eU em⟩,S,rfl,?_⟩
  cases e:d9 S.dE nm with
  | none=>rw[e]at kk;exact(fX hK em kk).2
  | some x =>
   rw[e]at kk
   refine nN (c:=bar<0) (fun q=>⟨zs,fX hK em ?_⟩) (fun q1=>⟨rfl,_,rfl,nN (c:=S.n<=bar) (fun q=>⟨zs,fX hK em ?_⟩) (fun q2=>?_)⟩)
   .have kk:(if 0<=bar/\bar<S.n then Kd (En (gC S.dE nm bar)) μ else _):=kk
    rw[aq (by lia)]at kk;exact kk
   .have kk:(if 0<=bar/\bar<S.n then Kd (En (gC S.dE nm bar)) μ else _):=kk
    rw[aq (by lia)]at kk;exact kk
   .have kk:(if 0<=bar/\bar<S.n then Kd (En (gC S.dE nm bar)) μ else _):=kk
    rw[au (by lia)]at kk
    refine⟨fun i ρ μ'=>∃(z:Str) (y:Pt) (c:Nat) (v1 v2 v3:Option D),i=iZ S.dE z/\d9 S.dE z=some y/\gC S.dE nm bar=((gC S.dE z bar).1,(gC S.dE z bar).2+c)/\ρ=[some (mT dQ S),some (.str z),some (.int bar),some (ny y),some (.int (c:Int)),v1,v2,v3]/\μ'=μ.set 0 (.gx fh H),⟨_,nm,x,0,none,none,none,rfl,e,rfl,rfl,rfl⟩,?_⟩
    rintro i ρ μ' ⟨z,y,c,v1,v2,v3,rfl,ez,es,rfl,rfl⟩
    cases y with
    | fst b a =>
     refine⟨zs,.keep (kc em ?_)⟩
     rw[es,sU ez,Nat.zero_add]at kk
     exact kk
    | jn l r p =>
     obtain⟨⟨yl,el⟩,⟨yr,er⟩⟩:=kp.there ez
     obtain⟨i1,i2⟩:=kp.low z l r p ez
     refine⟨rfl,?_⟩
     have ej:=Af kp ez bar
     refine nN (c:=bar<p) (fun q=>?_) (fun q=>?_)
     .rw[au q]at ej
      exact⟨rfl,_,rfl,ny yl,by rw[ib eE ny l S.dE rfl,el];rfl,iZ S.dE l,i1,l,yl,c+1,_,_,_,rfl,el,by rw[es,ej];congr 1;show _+1+c=_;lia,rfl,rfl⟩
     .rw[aq q]at ej
      exact⟨rfl,_,rfl,ny yr,by rw[ib eE ny r S.dE rfl,er];rfl,iZ S.dE r,i2,r,yr,c+1,_,_,_,rfl,er,by rw[es,ej];congr 1;show _+1+c=_;lia,rfl,rfl⟩
 .cases h
def nK (F:ic K "takes_by_names" "Stand.takes_by_names" fB f fd)(T:jx mg)(dG:gM K dQ)(Ms:DT P w K mg dD):eV P w K mg dD kJ 2 f fd (pA fB) (hV (t9 dQ)):=by
 refine F.oG fv (fun ds μ Kd h=>by unfold t9 at h;split at h <;> first | rfl | exact h.elim) (fun gr A dW s H E hr=>⟨_,(dN (qS 1 fv.nd Bk)
  (dN (vg bT rfl (CY (eY dG.cl dG.gw (dv 0))) ⟨(gz (n:=2) rfl (d7 (qN 2 fv.nd) (d7 (qN 3 fv.nd) fR))),(ie (eG (eB 2) (dF 2) (eG (eB 3) (dF 3) ig eA) (dU (dF 3) eA))),(iu (dU (dF 2) (dU (dF 3) eA)))⟩
  (dX (fF (Pm (dv 3))
  (dX (ky (fW hr) (ke (fW hr) (eY dG.cl dG.jo (dv 0)) (dv 2) (fun _ _=>rfl)) (dv 1) (dv 2)))
  (dN (kz (dv 3) ⟨(gz (n:=3) rfl (d7 (qN 4 fv.nd) (d7 (qN 5 fv.nd) (d7 (qN 6 fv.nd) fR)))),(ie (eG (eB 4) (dF 4) (eG (eB 5) (dF 5) (eG (eB 6) (dF 6) ig eA) (dU (dF 6) eA)) (dU (dF 5) (dU (dF 6) eA)))),(iu (dU (dF 4) (dU (dF 5) (dU (dF 6) eA))))⟩)
  (dX (ky (fW hr) (qC Ms hr (a3 (ke (fW hr) (dv 1) (dv 4) (fun _ _=>rfl)) (ke (fW hr) (dv 1) (dv 5) (fun _ _=>rfl)) (dv 6))) (dv 1) (dv 2)))))))
  (dX (eJ (yx (dv 1)))))),fun ds μ Kd hm hl h=>?_⟩)
 unfold t9 at h
 split at h
 .rename_i x
  obtain⟨S,m,rfl,wf,kk⟩:=h
  refine⟨rfl,_,rfl,fun _=>?_⟩
  have nd:=wf.kp.nd
  have kX:=wf.kX
  have ei:List.zipWith (fun k d=>D.tup [oJ k,d]) (S.dE.map fun p=>eS p.1) (S.dE.map fun p=>ny p.2)=S.dE.map fun p=>D.tup [.str p.1,ny p.2]:=by
   obtain⟨e1,e2⟩:=gW eS ny S.dE
   rw[e1,e2,zF,aJ]
   rfl
  show zf _ _ _ _ (List.zipWith (fun k d=>D.tup [oJ k,d]) (S.dE.map fun p=>eS p.1) (S.dE.map fun p=>ny p.2)) _ _
  rw[ei]
  refine kD (fun ds ρ μ'=>∃(pre post:List (Str×Pt)) (v1 v2 v3 v4 v5:Option D),S.dE=pre++post/\ds=post.map (fun p=>D.tup [.str p.1,ny p.2])/\ρ=[some (mT dQ S),some (.mr μ.length),v1,v2,v3,v4,v5]/\μ'=μ++[.jr ((pre.map fun p=>(p.1,gq S.dE p.1)).map fun p=>eS p.1) ((pre.map fun p=>(p.1,gq S.dE p.1)).map fun p=>kh p.2)]) ⟨[],S.dE,none,none,none,none,none,rfl,rfl,rfl,rfl⟩ ?_ ?_
  .rintro d MM ρ μ' ⟨pre,post,v1,v2,v3,v4,v5,hs,e1,rfl,rfl⟩
   refine⟨trivial,fun nx GF=>?_⟩
   cases post with
   | nil=>cases e1
   | cons p post =>
    obtain⟨z,y⟩:=p
    cases e1
    have hz:z∉pre.map (·.1):=fun q=>by
     rw[hs,aF,bL]at nd
     exact nd.2.2 z q z (List.mem_map.mpr ⟨_,aH,rfl⟩) rfl
    have ez:d9 S.dE z=some y:=gY nd (by rw[hs];exact aO _ aH)
    have ix:iZ S.dE z=pre.length:=by
     unfold iZ
     rw[hs,aF,cx,aq hz,aw,bI,show((z,y).1==z)=true from cF _,fH]
     simp
    have lp:pre.length<S.dE.length:=by rw[hs,j3,aI];lia
    have GC:∀ w:Str,iZ S.dE w<pre.length->d9 (pre.map fun p=>(p.1,gq S.dE p.1)) w=some (gq S.dE w):=fun w hw=>by
     have Si:w∈pre.map (·.1):=by
      unfold iZ at hw
      rw[hs,aF,cx]at hw
      by_cases q:w∈pre.map (·.1)
      .exact q
      .rw[aq q,fH]at hw;lia
     obtain⟨p,hp,rfl⟩:=List.mem_map.mp Si
     have RM:((pre.map fun p=>(p.1,gq S.dE p.1)).map (·.1)).Nodup:=by
      rw[aJ]
      rw[hs,aF,bL]at nd
      exact nd.1
     exact gY RM (List.mem_map.mpr ⟨p,hp,rfl⟩)
    have hn:d9 (pre.map fun p=>(p.1,gq S.dE p.1)) z=none:=by
     cases q:d9 (pre.map fun p=>(p.1,gq S.dE p.1)) z with
     | none=>rfl
     | some w =>
      have:=fO.mp (show(d9 (pre.map fun p=>(p.1,gq S.dE p.1)) z).isSome=true by rw[q];rfl)
      rw[aJ]at this
      exact absurd this hz
    have fin:∀(v:Tk) (w1 w2 w3 w4 w5:Option D),v=gq S.dE z->∃ kd Ei:List (Key×D),(μ++[MO.jr ((pre.map fun p=>(p.1,gq S.dE p.1)).map fun p=>eS p.1) ((pre.map fun p=>(p.1,gq S.dE p.1)).map fun p=>kh p.2)])[μ.length]?=some (.jr (kd.map (·.1)) (kd.map (·.2)))/\kd.length<sizeLine/\(oM (.str z)).map (fun k=>dput kd k (kh v))=some Ei/\nx [some (mT dQ S),some (.mr μ.length),w1,w2,w3,w4,w5] ((μ++[MO.jr ((pre.map fun p=>(p.1,gq S.dE p.1)).map fun p=>eS p.1) ((pre.map fun p=>(p.1,gq S.dE p.1)).map fun p=>kh p.2)]).set μ.length (.jr (Ei.map (·.1)) (Ei.map (·.2)))):=fun v w1 w2 w3 w4 w5 hv=>by
     obtain⟨e1,e2⟩:=gW eS kh (pre.map fun p=>(p.1,gq S.dE p.1))
     refine⟨_,_,by rw[fU,e1,e2],?_,rfl,?_⟩
     .rw[fH,fH];exact aA lp (sz (by lia))
     .show nx _ ((_++[_]).set _ (.jr ((dput _ (eS z) (kh v)).map (·.1)) ((dput _ (eS z) (kh v)).map (·.2))))
      rw[Fd eE kh z v,nR hn,gD]
      refine GF _ _ ⟨pre++[(z,y)],post,_,_,_,_,_,by rw[hs,aQ];rfl,rfl,rfl,?_⟩
      have e3:(pre++[(z,y)]).map (fun p=>(p.1,gq S.dE p.1))=pre.map (fun p=>(p.1,gq S.dE p.1))++[(z,v)]:=by rw[aF,hv];rfl
      rw[e3,<- (gW eS kh _).1,<- (gW eS kh _).2]
    refine⟨rfl,?_⟩
    cases y with
    | fst b a =>
     refine⟨rfl,_,rfl,kh (b,a),by rw[ib eE kh z (eR S.dE) rfl,mD nd,ez];rfl,fin (b,a) _ _ _ _ _ (Em ez).symm⟩
    | jn l r p =>
     obtain⟨i1,i2⟩:=wf.kp.low z l r p ez
     obtain⟨⟨yl,el⟩,⟨yr,er⟩⟩:=wf.kp.there ez
     obtain⟨p1,p2⟩:=wf.js z l r p ez
     obtain⟨t1,_⟩:=BY wf l yl el
     obtain⟨t2,_⟩:=BY wf r yr er
     have n2:=wf.n2
     refine⟨rfl,kh (gq S.dE l),by rw[vp eE kh l _ rfl GP,GC l (by lia)];rfl,kh (gq S.dE r),by rw[vp eE kh r _ rfl GP,GC r (by lia)];rfl,?_⟩
     exact⟨gq S.dE l,gq S.dE r,rfl,rfl,rfl,rfl,by lia,by lia,by lia,fin _ _ _ _ _ _ (Jp wf.kp ez).symm⟩
  .rintro ρ μ' ⟨pre,post,v1,v2,v3,v4,v5,hs,e1,rfl,rfl⟩
   cases post with
   | cons p post=>cases e1
   | nil =>
    rw[aV]at hs
    refine⟨trivial,_,_,fU,fun o kvs Sj=>?_⟩
    rw[gD]
    refine Fz.mE (aj _) fU (kT fun d hd=>by obtain⟨q,_,rfl⟩:=List.mem_map.mp hd;exact⟨trivial,trivial,trivial⟩) (gQ hm) ?_
    rw[aW,Sj,<- hs]
    exact kk
 .cases h
def y4 (F:ic K "take" "Stand.take" iN f fd)(T:jx mg)(dG:gM K dQ)(fE:gP P w K mg dD)(iY:iX P w K mg dD):eV P w K mg dD (nz P w) 3 f fd (pA iN) (kj (yh dQ kQ)):=by
 refine F.xQ yW (fun ds μ Kd Kx h=>E6 h) (fun gr A dW s H E hr fh Kb Z=>⟨_,(dN (i7 (jA Z.z fE dG.cl hr.le (dv 0) (a1 (dv 1))))
  (dX (eJ (ke (fW hr) (gU iY dG.cl hr.le (dv 0)) (dv 1) (fun _ _=>rfl))))),fun ds μ m Kd Kx hm hl em h hK=>?_⟩)
 unfold yh at h
 split at h
 .rename_i x nm
  obtain⟨_,S,m',rfl,wf,kk⟩:=h
  refine⟨⟨rfl,rfl⟩,eU em,⟨_,eU em⟩,S,rfl,?_⟩
  cases e:d9 S.dE nm with
  | none=>rw[e]at kk;exact(fX hK em kk).2
  | some x =>
   rw[e]at kk
   have RM:((xg S.dE).map (·.1)).Nodup:=by unfold xg;rw[aJ];exact wf.kp.nd
   have ea:d9 (xg S.dE) nm=some (gq S.dE nm):=gY RM (List.mem_map.mpr ⟨_,nT e,rfl⟩)
   exact⟨⟨rfl,rfl⟩,S,m',rfl,wf,kh (gq S.dE nm),by rw[ib eE kh nm (xg S.dE) rfl,ea];rfl,.keep (kc em kk)⟩
 .cases h
def xN (F:ic K "shelf" "Stand.shelf" il f fd)(T:jx mg)(dG:gM K dQ)(iY:iX P w K mg dD):eV P w K mg dD kJ 3 f fd (pA il) (hV (wK dQ)):=by
 refine F.oG mj (fun ds μ Kd h=>by unfold wK at h;split at h <;> first | rfl | exact h.elim) (fun gr A dW s H E hr=>⟨_,(dN (WI 1 false mj.nd (zW (N:=["place", "self"]) (js:=[none,some 0]) mj (by decide +kernel)) (CW rfl T.range (a2 dJ (eY dG.cl dG.ia (dv 0)))) (fun _ _ _ nd=>(qN 0 nd)) (fun _ _ _=>(uw (lF (fW hr) (dv 0) (eY dG.cl dG.jM (dv 1)) (by with_unfolding_all rfl)))) (fun _ _ _=>(dv 0)))
  (dX (eJ (gO (a3 (eY dG.cl dG.ia (dv 0)) (dv 1) (Fe false rfl (by rfl) T.list (gU iY dG.cl hr.le (dv 0)))))))),fun ds μ Kd hm hl h=>?_⟩)
 unfold wK at h
 split at h
 .rename_i x
  obtain⟨S,m,rfl,wf,kk⟩:=h
  have n1:=wf.n1
  have n2:=wf.n2
  refine⟨rfl,_,rfl,⟨by decide,by decide,by lia,by lia⟩,sz (by rw[jl];lia),?_⟩
  rw[Gf]
  refine iF trivial D.int (fun p=>if(d9 S.fI p).isSome=true then none else some (D.int p)) (fun p _ K' k'=>?_) ?_
  .refine⟨rfl,_,rfl,_,ib jq (fun _=>.bl true) p S.fI rfl,?_⟩
   cases e:d9 S.fI p with
   | none=>rw[e]at k';exact k'
   | some x=>rw[e]at k';exact k'
  .rw[Cq]
   refine⟨rfl,_,rfl,⟨rfl,rfl⟩,S,m,rfl,wf,dH rfl ⟨zs,.keep ?_⟩⟩
   have e:(xg S.dE).map (fun p=>kh p.2)=(m9 S).map kh:=by unfold xg m9;rw[aJ,aJ];rfl
   rw[e]
   exact kk
 .cases h
def AJ (F:ic K "check_age" "check_age" jd f fd)(T:jx mg)(nZ:OwnCls "BadAge" wX nF "ValueError.__new__" mg dD)(yM:BG mg "OLDEST" 20):eV P w K mg dD (nz P w) 1 f fd (pA jd) (kj (Dr kQ)):=by
 refine F.xQ Ap (fun ds μ Kd Kx h=>Iz h) (fun gr A dW s H E hr fh Kb Z=>⟨_,(dX (fF (PW.pt (pE (Gh (dv 0) dJ) (lE (HG (dv 0) (Bi rfl yM)))))
  (dX (iL Z rfl nZ ao (by decide) ao rfl (a1 dY)))
  fg)),fun ds μ m Kd Kx hm hl em h hK=>?_⟩)
 unfold Dr at h
 split at h
 .rename_i a
  obtain⟨_,kk⟩:=h
  unfold kL at kk
  refine nN (c:=a<0) (fun q=>⟨zs,fX hK em (by rw[aq (by lia)]at kk;exact kk)⟩) (fun q1=>nN (c:=20<a) (fun q=>⟨zs,fX hK em (by rw[aq (by lia)]at kk;exact kk)⟩) (fun q2=>.keep (kc em (by rw[au (by lia)]at kk;exact kk))))
 .cases h
def xM (F:ic K "check_place" "check_place" ik f fd)(T:jx mg)(dG:gM K dQ)(k9:OwnCls "BadPlace" rD nF "ValueError.__new__" mg dD):eV P w K mg dD (nz P w) 1 f fd (pA ik) (kj (tU dQ kQ)):=by
 refine F.xQ xy (fun ds μ Kd Kx h=>Dk h) (fun gr A dW s H E hr fh Kb Z=>⟨_,(dX (fF (PW.pt (pE (Gh (dv 1) dJ) (lE (UI (dv 1) (eY dG.cl dG.ia (dv 0))))))
  (dX (iL Z rfl k9 ao (by decide) ao rfl (a1 dY)))
  fg)),fun ds μ m Kd Kx hm hl em h hK=>?_⟩)
 unfold tU at h
 split at h
 .rename_i x p
  obtain⟨_,S,rfl,kk⟩:=h
  unfold gu at kk
  refine nN (c:=p<1) (fun q=>⟨zs,fX hK em (by rw[aq (by lia)]at kk;exact kk)⟩) (fun q1=>⟨rfl,_,rfl,nN (c:=S.n<=p) (fun q=>⟨zs,fX hK em (by rw[aq (by lia)]at kk;exact kk)⟩) (fun q2=>.keep (kc em (by rw[au (by lia)]at kk;exact kk)))⟩)
 .cases h
def AI (F:ic K "check_new" "check_new" jc f fd)(T:jx mg)(dG:gM K dQ)(mh:OwnCls "BadName" qL nF "ValueError.__new__" mg dD)(rF:OwnCls "Taken" Bv nF "ValueError.__new__" mg dD)(uX:OwnCls "Full" Hd nF "ValueError.__new__" mg dD)(o8:BG mg "MOST_TAKES" 20)(mH:BG mg "MOST_LETTERS" 8):eV P w K mg dD (nz P w) 1 f fd (pA jc) (kj (Lb dQ kQ)):=by
 refine F.xQ tj (fun ds μ Kd Kx h=>La h) (fun gr A dW s H E hr fh Kb Z=>⟨_,(dN (fF (PW.pt (pE (Gh (we T (dv 1)) dJ) (pE (HG (we T (dv 1)) (Bi rfl mH)) (lE (lO (gT (rQ (SX rfl) Ai (by rfl) T.all PyProof.Rows.boot_all (a1 (GZ false (zW (N:=["sign"]) (js:=[none]) tj (by decide +kernel)) (KO (dv 1)) (fun _ _ _ nd=>(qN 0 nd)) (fun _ _ _=>kq) (fun _ _ _=>(OE zC zC Jz Jz dY (dv 0) dY)))))))))))
  (dX (iL Z rfl mh ao (by decide) ao rfl (a1 dY)))
  fg)
  (dN (fF (BZ (fW hr) (dv 1) (eY dG.cl dG.gw (dv 0)) (by with_unfolding_all rfl))
  (dX (iL Z rfl rF ao (by decide) ao rfl (a1 dY)))
  fg)
  (dX (fF (UI (rQ U1 FV (by rfl) T.len cW (a1 (eY dG.cl dG.gw (dv 0)))) (Bi rfl o8))
  (dX (iL Z rfl uX ao (by decide) ao rfl (a1 dY)))
  fg)))),fun ds μ m Kd Kx hm hl em h hK=>?_⟩)
 unfold Lb at h
 split at h
 .rename_i x nm
  obtain⟨_,hz,S,rfl,kk⟩:=h
  have sl:nm.length<=sizeLine:=sz (by lia)
  unfold jL at kk
  have bad:gB nm=false->Kx (.ref qL) μ:=fun q=>by rw[au q]at kk;exact kk
  refine⟨sl,nN (c:=((nm.length:Nat):Int)<1) (fun q=>⟨zs,fX hK em (bad ?_)⟩) (fun q1=>⟨sl,nN (c:=(8:Int)<((nm.length:Nat):Int)) (fun q=>⟨zs,fX hK em (bad ?_)⟩) (fun q2=>?_)⟩)⟩
  .unfold gB;rw[az (show ¬ 1<=nm.length by lia)];rfl
  .unfold gB;rw[az (show ¬ nm.length<=8 by lia),cY];rfl
  refine⟨by rw[fH];exact sl,?_⟩
  refine rC trivial (fun c:Nat=>D.str ⟨#[c]⟩) (fun c=>D.bl (decide (97<=c)&&decide (c<=122))) (fun c _ K' k'=>?_) ?_
  .have e1:(!decide (([c]:List Nat)<[97]))=decide (97<=c):=by rw[V7];by_cases q:97<=c <;> simp[q]<;> lia
   have e2:(!decide (([122]:List Nat)<[c]))=decide (c<=122):=by rw[V7];by_cases q:c<=122 <;> simp[q]<;> lia
   show if(!decide (([c]:List Nat)<[97]))=true then K' (some (.bl (!decide (([122]:List Nat)<[c])))) _ else K' (some (.bl false)) _
   rw[e1,e2]
   cases q:decide (97<=c)with
   | true=>rw[q]at k';exact k'
   | false=>rw[q]at k';exact k'
  .refine⟨nm.cps.toList.map fun c=>decide (97<=c)&&decide (c<=122),by rw[aJ];rfl,?_⟩
   have eb:((nm.cps.toList.map fun c=>decide (97<=c)&&decide (c<=122)).all id)=gB nm:=by rw[CD q1 q2,List.all_map];rfl
   show if(!((nm.cps.toList.map fun c=>decide (97<=c)&&decide (c<=122)).all id))=true then _ else _
   rw[eb]
   cases q3:gB nm with
   | false=>exact⟨zs,fX hK em (bad q3)⟩
   | true =>
    rw[aq (by rw[q3];exact fun z=>nomatch z)]at kk
    refine⟨rfl,_,rfl,_,ib eE ny nm S.dE rfl,?_⟩
    unfold gR at kk
    cases e:d9 S.dE nm with
    | some x=>rw[e]at kk;exact⟨zs,fX hK em kk⟩
    | none =>
     rw[e]at kk
     refine⟨rfl,_,rfl,dH rfl ?_⟩
     have kk:wC _ Kd Kx (if 20<=S.dE.length then some 10 else none) .gy μ:=kk
     refine nN (c:=(20:Int)<=((S.dE.map fun p=>eS p.1).length:Nat)) (fun q=>⟨zs,fX hK em ?_⟩) (fun q=>.keep (kc em ?_))
     .rw[fH]at q;rw[au (by lia)]at kk;exact kk
     .rw[fH]at q;rw[aq (by lia)]at kk;exact kk
 .cases h
def RH (F:ic K "put" "put" xC f fd)(T:jx mg)(dG:gM K dQ)(jB:OwnCls "BadBars" qM nF "ValueError.__new__" mg dD)(qU:qJ P w K mg dD)(IM:zV P w K mg dD)(qV:qK P w K mg dD)(iA:k8 P w K mg dD)(eQ:fN P w K mg dD):eV P w K mg dD (nz P w) 6 f fd (pA xC) (kj (gS dQ kQ 0)):=by
 refine F.xQ uC (fun ds μ Kd Kx h=>j4 h) (fun gr A dW s H E hr fh Kb Z=>⟨_,(dN (kz (dv 1) ⟨(gz (n:=4) rfl (d7 (qN 2 uC.nd) (d7 (qN 3 uC.nd) (d7 (qN 4 uC.nd) (d7 (qN 5 uC.nd) fR))))),(ie (eG (eB 2) (dF 2) (eG (eB 3) (dF 3) (eG (eB 4) (dF 4) (eG (eB 5) (dF 5) ig eA) (dU (dF 5) eA)) (dU (dF 4) (dU (dF 5) eA))) (dU (dF 3) (dU (dF 4) (dU (dF 5) eA))))),(iu (dU (dF 2) (dU (dF 3) (dU (dF 4) (dU (dF 5) eA)))))⟩)
  (dN (i7 (m8 Z.z qU hr.le rfl (a2 (dv 0) (dv 3))))
  (dN (fF (lO (gT (qC IM hr (a2 (eY dG.cl dG.ia (dv 0)) (dv 4)))))
  (dX (iL Z rfl jB ao (by decide) ao rfl (a1 dY)))
  fg)
  (dN (i7 (m8 Z.z qV hr.le rfl (a1 (dv 5))))
  (dN (qS 6 uC.nd (qC iA hr (a3 (eY dG.cl dG.gw (dv 0)) (dv 3) Lu)))
  (dX (eJ (Bj (qG eQ hr.le rfl (dP (eY dG.cl dG.ia (dv 0)) (dP (dv 6) (dP (qC iA hr (a3 (eY dG.cl dG.jo (dv 0)) (dv 3) (gO (a2 (dv 4) (dv 5))))) (dP (eY dG.cl dG.jM (dv 0)) fV))))))))))))),fun ds μ m Kd Kx hm hl em h hK=>?_⟩)
 unfold gS at h
 split at h
 .rename_i x y
  obtain⟨_,S,d,m',rfl,rfl,hw,wf,GG,fc,kk⟩:=h
  obtain⟨nm,b,a,rfl⟩:∃ nm b a,d=.put nm b a:=by cases d <;> first | exact⟨_,_,_,rfl⟩ | cases hw
  have kX:=wf.kX
  refine⟨rfl,eU em,⟨_,eU em⟩,fc.1,S,rfl,?_⟩
  have kk:wC _ Kd Kx ((jL S nm).or (if((b.length:Nat):Int)=S.n/\BO b=true then kL a else some 0)) (mT dQ (pH S (.put nm b a))) μ:=kk
  cases e:jL S nm with
  | some i=>rw[e]at kk;exact(fX hK em kk).2
  | none =>
   rw[e]at kk
   refine⟨rfl,_,rfl,fc.2,R3 (c:=((b.length:Nat):Int)=S.n/\BO b=true) (fun q=>⟨zs,fX hK em ?_⟩) (fun q=>?_)⟩
   .have kk:wC _ Kd Kx (if((b.length:Nat):Int)=S.n/\BO b=true then kL a else some 0) (mT dQ (pH S (.put nm b a))) μ:=kk
    rw[aq q]at kk;exact kk
   .have kk:wC _ Kd Kx (if((b.length:Nat):Int)=S.n/\BO b=true then kL a else some 0) (mT dQ (pH S (.put nm b a))) μ:=kk
    rw[au q]at kk
    refine⟨eU em,⟨_,eU em⟩,?_⟩
    cases e2:kL a with
    | some i=>rw[e2]at kk;exact(fX hK em kk).2
    | none =>
     rw[e2]at kk
     obtain⟨n1,n2,n3⟩:=rj e
     refine⟨rfl,_,rfl,_,_,(gW eS ny S.dE).1,(gW eS ny S.dE).2,by rw[kd_len];lia,rfl,?_⟩
     have lf:(eR S.dE).length<=20:=aE (cC _ _) kX
     refine⟨rfl,_,rfl,rfl,_,rfl,zs,_,_,(gW eS kh (eR S.dE)).1,(gW eS kh (eR S.dE)).2,by rw[kd_len];lia,rfl,rfl,_,rfl,fU,rfl,?_⟩
     rw[gD]
     refine Fz.obj (aj _) fU ⟨trivial,oH (HY vi _) trivial,oH (HY sR _) (sR (b.cps.toList,a)),CF _,trivial⟩ (gQ hm) ?_
     rw[aW]
     have kk:Kd (.obj dQ Mx [.int S.n,rn eS ny (gF S.dE nm (.fst b.cps.toList a)),rn eS kh (eR (gF S.dE nm (.fst b.cps.toList a))),Ng S.fI]) μ:=kk
     rw[EY wf.kp.nd n2,<- Ht eE ny,<- Ht eE kh]at kk
     exact .keep (kc em kk)
 .cases h
def NT (F:ic K "join" "join" r8 f fd)(T:jx mg)(dG:gM K dQ)(uW:OwnCls "Shut" Hc nF "ValueError.__new__" mg dD)(qU:qJ P w K mg dD)(fE:gP P w K mg dD)(jS:ly P w K mg dD)(iA:k8 P w K mg dD)(eQ:fN P w K mg dD):eV P w K mg dD (nz P w) 6 f fd (pA r8) (kj (gS dQ kQ 1)):=by
 refine F.xQ q9 (fun ds μ Kd Kx h=>j4 h) (fun gr A dW s H E hr fh Kb Z=>⟨_,(dN (kz (dv 1) ⟨(gz (n:=5) rfl (d7 (qN 2 q9.nd) (d7 (qN 3 q9.nd) (d7 (qN 4 q9.nd) (d7 (qN 5 q9.nd) (d7 (qN 6 q9.nd) fR)))))),(ie (eG (eB 2) (dF 2) (eG (eB 3) (dF 3) (eG (eB 4) (dF 4) (eG (eB 5) (dF 5) (eG (eB 6) (dF 6) ig eA) (dU (dF 6) eA)) (dU (dF 5) (dU (dF 6) eA))) (dU (dF 4) (dU (dF 5) (dU (dF 6) eA)))) (dU (dF 3) (dU (dF 4) (dU (dF 5) (dU (dF 6) eA)))))),(iu (dU (dF 2) (dU (dF 3) (dU (dF 4) (dU (dF 5) (dU (dF 6) eA))))))⟩)
  (dN (i7 (m8 Z.z qU hr.le rfl (a2 (dv 0) (dv 3))))
  (dN (i7 (jA Z.z fE dG.cl hr.le (dv 0) (a1 (dv 4))))
  (dN (i7 (jA Z.z fE dG.cl hr.le (dv 0) (a1 (dv 5))))
  (dN (i7 (m8 Z.z jS hr.le rfl (a2 (dv 0) (dv 6))))
  (dN (fF (BZ (fW hr) (dv 6) (eY dG.cl dG.jM (dv 0)) (by with_unfolding_all rfl))
  (dX (iL Z rfl uW ao (by decide) ao rfl (a1 dY)))
  fg)
  (dX (eJ (Bj (qG eQ hr.le rfl (dP (eY dG.cl dG.ia (dv 0)) (dP (qC iA hr (a3 (eY dG.cl dG.gw (dv 0)) (dv 3) (gO (a3 (dv 4) (dv 5) (dv 6))))) (dP (eY dG.cl dG.jo (dv 0)) (dP (eY dG.cl dG.jM (dv 0)) fV)))))))))))))),fun ds μ m Kd Kx hm hl em h hK=>?_⟩)
 unfold gS at h
 split at h
 .rename_i x y
  obtain⟨_,S,d,m',rfl,rfl,hw,wf,GG,fc,kk⟩:=h
  obtain⟨nm,l,r,p,rfl⟩:∃ nm l r p,d=.join nm l r p:=by cases d <;> first | exact⟨_,_,_,_,rfl⟩ | cases hw
  have kX:=wf.kX
  refine⟨rfl,eU em,⟨_,eU em⟩,fc,S,rfl,?_⟩
  have kk:wC _ Kd Kx ((jL S nm).or (if gR S l=false then some 11 else if gR S r=false then some 11 else(gu S p).or (if(d9 S.fI p).isSome=true then some 12 else none))) (mT dQ (pH S (.join nm l r p))) μ:=kk
  cases e:jL S nm with
  | some i=>rw[e]at kk;exact(fX hK em kk).2
  | none =>
   rw[e]at kk
   have kk:wC _ Kd Kx (if gR S l=false then some 11 else if gR S r=false then some 11 else(gu S p).or (if(d9 S.fI p).isSome=true then some 12 else none)) (mT dQ (pH S (.join nm l r p))) μ:=kk
   refine⟨⟨rfl,rfl⟩,eU em,⟨_,eU em⟩,S,rfl,?_⟩
   unfold gR at kk
   cases el:d9 S.dE l with
   | none=>rw[el]at kk;exact(fX hK em kk).2
   | some yl =>
    rw[el]at kk
    refine⟨⟨rfl,rfl⟩,eU em,⟨_,eU em⟩,S,rfl,?_⟩
    cases er:d9 S.dE r with
    | none=>rw[er]at kk;exact(fX hK em kk).2
    | some yr =>
     rw[er]at kk
     have kk:wC _ Kd Kx ((gu S p).or (if(d9 S.fI p).isSome=true then some 12 else none)) (mT dQ (pH S (.join nm l r p))) μ:=kk
     refine⟨eU em,⟨_,eU em⟩,S,rfl,?_⟩
     cases e2:gu S p with
     | some i=>rw[e2]at kk;exact(fX hK em kk).2
     | none =>
      rw[e2]at kk
      refine⟨rfl,_,rfl,_,ib jq (fun _=>.bl true) p S.fI rfl,?_⟩
      cases e3:d9 S.fI p with
      | some u=>rw[e3]at kk;exact⟨zs,fX hK em kk⟩
      | none =>
       rw[e3]at kk
       obtain⟨n1,n2,n3⟩:=rj e
       refine⟨rfl,_,rfl,rfl,_,rfl,zs,_,_,(gW eS ny S.dE).1,(gW eS ny S.dE).2,by rw[kd_len];lia,rfl,rfl,_,rfl,rfl,_,rfl,fU,rfl,?_⟩
       rw[gD]
       refine Fz.obj (aj _) fU ⟨trivial,oH (HY vi _) (vi (.jn l r p)),vk sR _,CF _,trivial⟩ (gQ hm) ?_
       rw[aW]
       have kk:Kd (.obj dQ Mx [.int S.n,rn eS ny (gF S.dE nm (.jn l r p)),rn eS kh (eR (gF S.dE nm (.jn l r p))),Ng S.fI]) μ:=kk
       rw[Iy n2,<- Ht eE ny]at kk
       exact .keep (kc em kk)
 .cases h
def Kj (F:ic K "found" "found" oB f fd)(T:jx mg)(dG:gM K dQ)(jB:OwnCls "BadBars" qM nF "ValueError.__new__" mg dD)(mJ:mF P w K mg dD)(iA:k8 P w K mg dD)(eQ:fN P w K mg dD):eV P w K mg dD (nz P w) 6 f fd (pA oB) (kj (gS dQ kQ 2)):=by
 refine F.xQ jK (fun ds μ Kd Kx h=>j4 h) (fun gr A dW s H E hr fh Kb Z=>⟨_,(dN (kz (dv 1) ⟨(gz (n:=4) rfl (d7 (qN 2 jK.nd) (d7 (qN 3 jK.nd) (d7 (qN 4 jK.nd) (d7 (qN 5 jK.nd) fR))))),(ie (eG (eB 2) (dF 2) (eG (eB 3) (dF 3) (eG (eB 4) (dF 4) (eG (eB 5) (dF 5) ig eA) (dU (dF 5) eA)) (dU (dF 4) (dU (dF 5) eA))) (dU (dF 3) (dU (dF 4) (dU (dF 5) eA))))),(iu (dU (dF 2) (dU (dF 3) (dU (dF 4) (dU (dF 5) eA)))))⟩)
  (dN (kz (jA Z.z mJ dG.cl hr.le (dv 0) (a2 (dv 3) (dv 4))) ⟨(gz (n:=2) rfl (d7 (qN 6 jK.nd) (d7 (qN 7 jK.nd) fR))),(ie (eG (eB 6) (dF 6) (eG (eB 7) (dF 7) ig eA) (dU (dF 7) eA))),(iu (dU (dF 6) (dU (dF 7) eA)))⟩)
  (dN (fF (PW.pt (j6 (Nt (dv 5) dY) (iJ (Nt (dv 5) dY))))
  (dX (iL Z rfl jB ao (by decide) ao rfl (a1 dY)))
  fg)
  (dN (kz (ke (fW hr) (eY dG.cl dG.jo (dv 0)) (dv 6) (fun _ _=>rfl)) ⟨(gz (n:=2) rfl (d7 (qN 8 jK.nd) (d7 (qN 9 jK.nd) fR))),(ie (eG (eB 8) (dF 8) (eG (eB 9) (dF 9) ig eA) (dU (dF 9) eA))),(iu (dU (dF 8) (dU (dF 9) eA)))⟩)
  (dN (qS 10 jK.nd (gO (a2 (pP (pP (jz false (dv 8) qi (iC (dv 4))) (dv 5)) (jz false (dv 8) (iC (pP (dv 4) dJ)) qi)) (dv 9))))
  (dX (eJ (Bj (qG eQ hr.le rfl (dP (eY dG.cl dG.ia (dv 0)) (dP (eY dG.cl dG.gw (dv 0)) (dP (qC iA hr (a3 (eY dG.cl dG.jo (dv 0)) (dv 6) (dv 10))) (dP (eY dG.cl dG.jM (dv 0)) fV))))))))))))),fun ds μ m Kd Kx hm hl em h hK=>?_⟩)
 unfold gS at h
 split at h
 .rename_i x y
  obtain⟨_,S,d,m',rfl,rfl,hw,wf,GG,fc,kk⟩:=h
  obtain⟨nm,bar,sg,rfl⟩:∃ nm bar sg,d=.found nm bar sg:=by cases d <;> first | exact⟨_,_,_,rfl⟩ | cases hw
  have kX:=wf.kX
  have n2:=wf.n2
  refine⟨rfl,⟨rfl,rfl⟩,eU em,⟨_,eU em⟩,S,rfl,wf.kp,?_⟩
  have kk:wC _ Kd Kx (if gR S nm=false then some 11 else if 0<=bar/\bar<S.n then(if sg = "o"\/sg = "x" then none else some 0)else some 6) (mT dQ (pH S (.found nm bar sg))) μ:=kk
  unfold gR at kk
  cases e:d9 S.dE nm with
  | none=>rw[e]at kk;exact(fX hK em kk).2
  | some x =>
   rw[e]at kk
   have kk:wC _ Kd Kx (if 0<=bar/\bar<S.n then(if sg = "o"\/sg = "x" then none else some 0)else some 6) (mT dQ (pH S (.found nm bar sg))) μ:=kk
   by_cases hb:0<=bar/\bar<S.n
   .rw[au hb]at kk
    show(if 0<=bar/\bar<S.n then _ else _)
    rw[au hb]
    refine⟨rfl,?_⟩
    by_cases hs:sg = "o"\/sg = "x"
    .rw[au hs]at kk
     obtain⟨b,a,ef⟩:=Ag wf.kp bar nm x e
     obtain⟨f1,f2,f3,f4⟩:=wf.fs _ b a ef
     obtain⟨o1,o2⟩:=Er hs
     have lf:(eR S.dE).length<=20:=aE (cC _ _) kX
     have kk:Kd (.obj dQ Mx [.int S.n,rn eS ny (ET S.dE (gC S.dE nm bar).1 bar sg),rn eS kh (eR (ET S.dE (gC S.dE nm bar).1 bar sg)),Ng S.fI]) μ:=kk
     unfold ET at kk
     rw[ef]at kk
     dsimp only at kk
     rw[yd wf.kp.nd ef,<- Ht eE kh,Cm ef wf.kp.nd]at kk
     have sl:sg.length=1:=o2
     have lb:(txt b).length<=sizeLine:=by rw[mR];exact sz (by lia)
     have c1:=oV b none (some bar)
     have c2:=oV b (some (bar+1)) none
     have eh:(⟨(hZ b none (some bar)).toArray⟩++sg++⟨(hZ b (some (bar+1)) none).toArray⟩:Str)=txt (vt b bar sg):=by
      rw[Bo hb.1,uT (show 0<=bar+1 by lia),show(bar+1).toNat=bar.toNat+1 by lia]
      rw[By,o5,aQ]
      rfl
     have l1:(⟨(hZ b none (some bar)).toArray⟩:Str).length+sg.length<=sizeLine:=by rw[sl];show(hZ b none (some bar)).length+1<=_;exact sz (by lia)
     have l2:(⟨(hZ b none (some bar)).toArray⟩++sg:Str).length+(⟨(hZ b (some (bar+1)) none).toArray⟩:Str).length<=sizeLine:=by
      rw[By]
      show(hZ b none (some bar)++sg.cps.toList).length+(hZ b (some (bar+1)) none).length<=_
      rw[j3,o2]
      exact sz (by lia)
     have eg:Oe ((eR S.dE).map fun p=>eS p.1) ((eR S.dE).map fun p=>kh p.2) (.str (gC S.dE nm bar).1)=some (some (kh (b,a))):=by rw[ib eE kh _ (eR S.dE) rfl,mD wf.kp.nd,ef];rfl
     refine U8 (c1:=sg = "o") (c2:=sg = "x") (fun _=>?_) (fun z=>absurd hs z)
     refine⟨rfl,_,rfl,kh (b,a),eg,rfl,lb,l1,lb,l2,zs,?_⟩
     refine⟨rfl,_,rfl,rfl,_,rfl,rfl,_,rfl,_,_,(gW eS kh (eR S.dE)).1,(gW eS kh (eR S.dE)).2,by rw[kd_len];lia,rfl,rfl,_,rfl,fU,rfl,?_⟩
     rw[gD]
     refine Fz.obj (aj _) fU ⟨trivial,vk vi _,oH (HY sR _) ⟨trivial,trivial,trivial⟩,CF _,trivial⟩ (gQ hm) ?_
     rw[aW]
     refine .keep (kc em ?_)
     show Kd (.obj dQ Mx [.int S.n,rn eS ny S.dE,.mE ((dput _ _ (.tup [.str (⟨(hZ b none (some bar)).toArray⟩++sg++⟨(hZ b (some (bar+1)) none).toArray⟩),.int a])).map (·.1)) ((dput _ _ (.tup [.str (⟨(hZ b none (some bar)).toArray⟩++sg++⟨(hZ b (some (bar+1)) none).toArray⟩),.int a])).map (·.2)),Ng S.fI]) μ
     rw[eh]
     exact kk
    .rw[aq hs]at kk
     exact GA (c:=sg = "o") (fun q1=>GA (c:=sg = "x") (fun q2=>⟨zs,fX hK em kk⟩) (fun q2=>absurd (.inr q2) hs)) (fun q1=>absurd (.inl q1) hs)
   .rw[aq hb]at kk
    show(if 0<=bar/\bar<S.n then _ else _)
    rw[aq hb]
    exact(fX hK em kk).2
 .cases h
def N1 (F:ic K "aged" "aged" sq f fd)(T:jx mg)(dG:gM K dQ)(nX:OwnCls "Joined" wV nF "ValueError.__new__" mg dD)(jT:lA P w K mg dD)(qV:qK P w K mg dD)(iA:k8 P w K mg dD)(eQ:fN P w K mg dD):eV P w K mg dD (nz P w) 6 f fd (pA sq) (kj (gS dQ kQ 3)):=by
 refine F.xQ rf (fun ds μ Kd Kx h=>j4 h) (fun gr A dW s H E hr fh Kb Z=>⟨_,(dN (kz (dv 1) ⟨(gz (n:=3) rfl (d7 (qN 2 rf.nd) (d7 (qN 3 rf.nd) (d7 (qN 4 rf.nd) fR)))),(ie (eG (eB 2) (dF 2) (eG (eB 3) (dF 3) (eG (eB 4) (dF 4) ig eA) (dU (dF 4) eA)) (dU (dF 3) (dU (dF 4) eA)))),(iu (dU (dF 2) (dU (dF 3) (dU (dF 4) eA))))⟩)
  (dN (fF (xh (jA Z.z jT dG.cl hr.le (dv 0) (a1 (dv 3))))
  (dX (iL Z rfl nX ao (by decide) ao rfl (a1 dY)))
  fg)
  (dN (i7 (m8 Z.z qV hr.le rfl (a1 (dv 4))))
  (dN (kz (ke (fW hr) (eY dG.cl dG.jo (dv 0)) (dv 3) (fun _ _=>rfl)) ⟨(gz (n:=2) rfl (d7 (qN 5 rf.nd) (d7 (qN 6 rf.nd) fR))),(ie (eG (eB 5) (dF 5) (eG (eB 6) (dF 6) ig eA) (dU (dF 6) eA))),(iu (dU (dF 5) (dU (dF 6) eA)))⟩)
  (dX (eJ (Bj (qG eQ hr.le rfl (dP (eY dG.cl dG.ia (dv 0)) (dP (eY dG.cl dG.gw (dv 0)) (dP (qC iA hr (a3 (eY dG.cl dG.jo (dv 0)) (dv 3) (gO (a2 (dv 5) (dv 4))))) (dP (eY dG.cl dG.jM (dv 0)) fV)))))))))))),fun ds μ m Kd Kx hm hl em h hK=>?_⟩)
 unfold gS at h
 split at h
 .rename_i x y
  obtain⟨_,S,d,m',rfl,rfl,hw,wf,GG,fc,kk⟩:=h
  obtain⟨nm,a,rfl⟩:∃ nm a,d=.mQ nm a:=by cases d <;> first | exact⟨_,_,rfl⟩ | cases hw
  have kX:=wf.kX
  have lf:(eR S.dE).length<=20:=aE (cC _ _) kX
  refine⟨rfl,⟨rfl,rfl⟩,eU em,⟨_,eU em⟩,S,rfl,?_⟩
  have kk:wC _ Kd Kx (match d9 S.dE nm with | none=>some 11 | some (.jn _ _ _)=>some 13 | some (.fst _ _)=>kL a) (mT dQ (match d9 S.dE nm with | some (.fst b _)=>{ S with dE:=gF S.dE nm (.fst b a)} | _=>S)) μ:=kk
  cases e:d9 S.dE nm with
  | none=>rw[e]at kk;exact(fX hK em kk).2
  | some x =>
   rw[e]at kk
   cases x with
   | jn l r p=>exact⟨zs,fX hK em kk⟩
   | fst b a0 =>
    refine⟨eU em,⟨_,eU em⟩,?_⟩
    have kk:wC _ Kd Kx (kL a) (mT dQ { S with dE:=gF S.dE nm (.fst b a)}) μ:=kk
    cases e2:kL a with
    | some i=>rw[e2]at kk;exact(fX hK em kk).2
    | none =>
     rw[e2]at kk
     refine⟨rfl,_,rfl,kh (b,a0),by rw[ib eE kh nm (eR S.dE) rfl,mD wf.kp.nd,e];rfl,rfl,?_⟩
     refine⟨rfl,_,rfl,rfl,_,rfl,rfl,_,rfl,zs,_,_,(gW eS kh (eR S.dE)).1,(gW eS kh (eR S.dE)).2,by rw[kd_len];lia,rfl,rfl,_,rfl,fU,rfl,?_⟩
     rw[gD]
     refine Fz.obj (aj _) fU ⟨trivial,vk vi _,oH (HY sR _) (sR (b,a)),CF _,trivial⟩ (gQ hm) ?_
     rw[aW]
     have kk:Kd (.obj dQ Mx [.int S.n,rn eS ny (gF S.dE nm (.fst b a)),rn eS kh (eR (gF S.dE nm (.fst b a))),Ng S.fI]) μ:=kk
     rw[yd wf.kp.nd e,<- Ht eE kh,Cm e wf.kp.nd]at kk
     exact .keep (kc em kk)
 .cases h
def NW (F:ic K "drop" "drop" se f fd)(T:jx mg)(dG:gM K dQ)(nW:OwnCls "Needed" wU nF "ValueError.__new__" mg dD)(fE:gP P w K mg dD)(lD:ni P w K mg dD)(eQ:fN P w K mg dD):eV P w K mg dD (nz P w) 6 f fd (pA se) (kj (gS dQ kQ 4)):=by
 refine F.xQ tf (fun ds μ Kd Kx h=>j4 h) (fun gr A dW s H E hr fh Kb Z=>⟨_,(dN (kz (dv 1) ⟨(gz (n:=2) rfl (d7 (qN 2 tf.nd) (d7 (qN 3 tf.nd) fR))),(ie (eG (eB 2) (dF 2) (eG (eB 3) (dF 3) ig eA) (dU (dF 3) eA))),(iu (dU (dF 2) (dU (dF 3) eA)))⟩)
  (dN (i7 (jA Z.z fE dG.cl hr.le (dv 0) (a1 (dv 3))))
  (dN (fF (gT (rQ (anyC rfl) Ai (by rfl) T.any PyProof.Rows.boot_any (a1 (GZ false (zW (N:=["parts", "name"]) (js:=[none,some 3]) tf (by decide +kernel)) (uM (eY dG.cl dG.gw (dv 0))) (fun _ _ _ nd=>(qN 0 nd)) (fun _ _ _=>kq) (fun _ _ _=>(GX (SF (dv 0)) (Ls (vD X4 JA (dv 1) (qF (dv 0) qi (iC dJ)) (by with_unfolding_all rfl)))))))))
  (dX (iL Z rfl nW ao (by decide) ao rfl (a1 dY)))
  fg)
  (dN (qS 4 tf.nd (qC lD hr (a2 (eY dG.cl dG.gw (dv 0)) (dv 3))))
  (dX (eJ (Bj (qG eQ hr.le rfl (dP (eY dG.cl dG.ia (dv 0)) (dP (dv 4) (dP (qC lD hr (a2 (eY dG.cl dG.jo (dv 0)) (dv 3))) (dP (eY dG.cl dG.jM (dv 0)) fV)))))))))))),fun ds μ m Kd Kx hm hl em h hK=>?_⟩)
 unfold gS at h
 split at h
 .rename_i x y
  obtain⟨_,S,d,m',rfl,rfl,hw,wf,GG,fc,kk⟩:=h
  obtain⟨nm,rfl⟩:∃ nm,d=.drop nm:=by cases d <;> first | exact⟨_,rfl⟩ | cases hw
  have kX:=wf.kX
  have lf:(eR S.dE).length<=20:=aE (cC _ _) kX
  refine⟨rfl,⟨rfl,rfl⟩,eU em,⟨_,eU em⟩,S,rfl,?_⟩
  have kk:wC _ Kd Kx (if gR S nm=false then some 11 else if lP S nm=true then some 14 else none) (mT dQ { S with dE:=iH S.dE nm}) μ:=kk
  unfold gR at kk
  cases e:d9 S.dE nm with
  | none=>rw[e]at kk;exact(fX hK em kk).2
  | some x =>
   rw[e]at kk
   have kk:wC _ Kd Kx (if lP S nm=true then some 14 else none) (mT dQ { S with dE:=iH S.dE nm}) μ:=kk
   refine⟨rfl,_,rfl,fun _=>⟨by rw[fH];exact sz (by lia),?_⟩⟩
   refine rC trivial (fun p:Str×Pt=>ny p.2) (fun p=>D.bl (hJ nm p.2)) (fun p _ K' k'=>?_) ?_
   .obtain⟨z,y⟩:=p
    cases y with
    | fst b a=>exact k'
    | jn l r q =>
     refine⟨fun y=>absurd y.2 (show ¬ (2:Nat)=3 by decide),rfl,rfl,?_⟩
     have eb:(false != ([D.str l,D.str r].any fun d=>IV d (.str nm)))=hJ nm (.jn l r q):=by
      rw[TY]
      simp only[bz,List.any_nil,IV,Bool.or_false]
      rfl
     show K' (some (.bl (false != ([D.str l,D.str r].any fun d=>IV d (.str nm))))) _
     rw[eb]
     exact k'
   .refine⟨S.dE.map fun p=>hJ nm p.2,by rw[aJ];rfl,?_⟩
    have eb:((S.dE.map fun p=>hJ nm p.2).any id)=lP S nm:=by rw[List.any_map];rfl
    show if((S.dE.map fun p=>hJ nm p.2).any id)=true then _ else _
    rw[eb]
    by_cases q:lP S nm=true
    .rw[au q]at kk ⊢
     exact⟨zs,fX hK em kk⟩
    .rw[aq q]at kk ⊢
     have sk:∀ {β:Type} {f:β->D} {l:List (Str×β)},∀ p∈(l.map fun p=>(eS p.1,f p.2)),(∃ i j,p.1=lG i/\eS nm=lG j)\/∃ i j,p.1=eS i/\eS nm=eS j:=fun p hp=>by
      obtain⟨z,_,rfl⟩:=List.mem_map.mp hp;exact .inr ⟨_,_,rfl,rfl⟩
     have nf:((eR S.dE).map (·.1)).Nodup:=wf.kp.nd.sublist yc
     refine⟨rfl,_,rfl,_,_,(gW eS ny S.dE).1,(gW eS ny S.dE).2,by rw[kd_len];lia,Kw eE ny wf.kp.nd,rfl,sk,?_⟩
     refine⟨rfl,_,rfl,rfl,_,rfl,_,_,(gW eS kh (eR S.dE)).1,(gW eS kh (eR S.dE)).2,by rw[kd_len];lia,Kw eE kh nf,rfl,sk,rfl,_,rfl,fU,rfl,?_⟩
     rw[gD]
     have mf:∀ {β:Type} {n:Nat} {f:β->D} (hf:∀ b,yP n (f b)) (l:List (Str×β)),rk n (((l.map fun p=>(eS p.1,f p.2)).filter fun p=>decide (p.1≠eS nm)).map (·.2)):=fun hf l=>kT fun d hd=>by
      obtain⟨z,hz,rfl⟩:=List.mem_map.mp hd
      obtain⟨z2,_,rfl⟩:=List.mem_map.mp (List.mem_filter.mp hz).1
      exact hf _
     refine Fz.obj (aj _) fU ⟨trivial,mf vi _,mf sR _,CF _,trivial⟩ (gQ hm) ?_
     rw[aW]
     have kk:Kd (.obj dQ Mx [.int S.n,rn eS ny (iH S.dE nm),rn eS kh (eR (iH S.dE nm)),Ng S.fI]) μ:=kk
     rw[Dg,<- Ji eE,<- Ji eE]at kk
     exact .keep (kc em kk)
 .cases h
def NU (F:ic K "free" "free" r9 f fd)(T:jx mg)(dG:gM K dQ)(jS:ly P w K mg dD)(lD:ni P w K mg dD)(eQ:fN P w K mg dD):eV P w K mg dD (nz P w) 6 f fd (pA r9) (kj (gS dQ kQ 5)):=by
 refine F.xQ Ao (fun ds μ Kd Kx h=>j4 h) (fun gr A dW s H E hr fh Kb Z=>⟨_,(dN (kz (dv 1) ⟨(gz (n:=2) rfl (d7 (qN 2 Ao.nd) (d7 (qN 3 Ao.nd) fR))),(ie (eG (eB 2) (dF 2) (eG (eB 3) (dF 3) ig eA) (dU (dF 3) eA))),(iu (dU (dF 2) (dU (dF 3) eA)))⟩)
  (dN (i7 (m8 Z.z jS hr.le rfl (a2 (dv 0) (dv 3))))
  (dX (eJ (Bj (qG eQ hr.le rfl (dP (eY dG.cl dG.ia (dv 0)) (dP (eY dG.cl dG.gw (dv 0)) (dP (eY dG.cl dG.jo (dv 0)) (dP (qC lD hr (a2 (eY dG.cl dG.jM (dv 0)) (dv 3))) fV)))))))))),fun ds μ m Kd Kx hm hl em h hK=>?_⟩)
 unfold gS at h
 split at h
 .rename_i x y
  obtain⟨_,S,d,m',rfl,rfl,hw,wf,GG,fc,kk⟩:=h
  obtain⟨p,rfl⟩:∃ p,d=.free p:=by cases d <;> first | exact⟨_,rfl⟩ | cases hw
  have shl:=wf.shl
  refine⟨rfl,eU em,⟨_,eU em⟩,S,rfl,?_⟩
  have kk:wC _ Kd Kx (gu S p) (mT dQ { S with fI:=iH S.fI p}) μ:=kk
  cases e:gu S p with
  | some i=>rw[e]at kk;exact(fX hK em kk).2
  | none =>
   rw[e]at kk
   refine⟨rfl,_,rfl,rfl,_,rfl,rfl,_,rfl,rfl,_,rfl,_,_,(gW lG (fun _=>.bl true) S.fI).1,(gW lG (fun _=>.bl true) S.fI).2,by rw[fH];lia,Kw jq (fun _:Unit=>D.bl true) wf.Q0,rfl,fun q hq=>?_,fU,rfl,?_⟩
   .obtain⟨z,_,rfl⟩:=List.mem_map.mp hq;exact .inl ⟨_,_,rfl,rfl⟩
   rw[gD]
   refine Fz.obj (aj _) fU ⟨trivial,vk vi _,vk sR _,kT fun d hd=>?_,trivial⟩ (gQ hm) ?_
   .obtain⟨z,hz,rfl⟩:=List.mem_map.mp hd
    obtain⟨z2,_,rfl⟩:=List.mem_map.mp (List.mem_filter.mp hz).1
    exact True.intro
   rw[aW]
   have kk:Kd (.obj dQ Mx [.int S.n,rn eS ny S.dE,rn eS kh (eR S.dE),rn lG (fun _=>.bl true) (iH S.fI p)]) μ:=kk
   rw[<- Ji jq]at kk
   exact .keep (kc em kk)
 .cases h
def NQ (F:ic K "shut" "shut" rZ f fd)(T:jx mg)(dG:gM K dQ)(jS:ly P w K mg dD)(iA:k8 P w K mg dD)(eQ:fN P w K mg dD):eV P w K mg dD (nz P w) 6 f fd (pA rZ) (kj (gS dQ kQ 6)):=by
 refine F.xQ An (fun ds μ Kd Kx h=>j4 h) (fun gr A dW s H E hr fh Kb Z=>⟨_,(dN (kz (dv 1) ⟨(gz (n:=2) rfl (d7 (qN 2 An.nd) (d7 (qN 3 An.nd) fR))),(ie (eG (eB 2) (dF 2) (eG (eB 3) (dF 3) ig eA) (dU (dF 3) eA))),(iu (dU (dF 2) (dU (dF 3) eA)))⟩)
  (dN (i7 (m8 Z.z jS hr.le rfl (a2 (dv 0) (dv 3))))
  (dX (eJ (Bj (qG eQ hr.le rfl (dP (eY dG.cl dG.ia (dv 0)) (dP (eY dG.cl dG.gw (dv 0)) (dP (eY dG.cl dG.jo (dv 0)) (dP (qC iA hr (a3 (eY dG.cl dG.jM (dv 0)) (dv 3) rJ)) fV)))))))))),fun ds μ m Kd Kx hm hl em h hK=>?_⟩)
 unfold gS at h
 split at h
 .rename_i x y
  obtain⟨_,S,d,m',rfl,rfl,hw,wf,GG,fc,kk⟩:=h
  obtain⟨p,rfl⟩:∃ p,d=.fI p:=by cases d <;> first | exact⟨_,rfl⟩ | cases hw
  have shl:=wf.shl
  refine⟨rfl,eU em,⟨_,eU em⟩,S,rfl,?_⟩
  have kk:wC _ Kd Kx (gu S p) (mT dQ { S with fI:=gF S.fI p ()}) μ:=kk
  cases e:gu S p with
  | some i=>rw[e]at kk;exact(fX hK em kk).2
  | none =>
   rw[e]at kk
   refine⟨rfl,_,rfl,rfl,_,rfl,rfl,_,rfl,rfl,_,rfl,_,_,(gW lG (fun _=>.bl true) S.fI).1,(gW lG (fun _=>.bl true) S.fI).2,by rw[fH];lia,rfl,fU,rfl,?_⟩
   rw[gD]
   refine Fz.obj (aj _) fU ⟨trivial,vk vi _,vk sR _,oH (HY (f:=fun _:Unit=>D.bl true) (fun _=>True.intro) _) True.intro,trivial⟩ (gQ hm) ?_
   rw[aW]
   have kk:Kd (.obj dQ Mx [.int S.n,rn eS ny S.dE,rn eS kh (eR S.dE),rn lG (fun _=>.bl true) (gF S.fI p ())]) μ:=kk
   rw[<- Ht jq (fun _:Unit=>D.bl true)]at kk
   exact .keep (kc em kk)
 .cases h
def vT (F:ic K "stand_behind" "stand_behind" g9 f fd)(T:jx mg)(Bz:Tab P w K mg "DEEDS" [("put",D2),("join",yH),("found",uo),("aged",yK),("drop",yJ),("free",yI),("shut",yG)])(Ml:mg "put"=some (.ref D2))(Fx:mg "join"=some (.ref yH))(BE:mg "found"=some (.ref uo))(FC:mg "aged"=some (.ref yK))(FA:mg "drop"=some (.ref yJ))(Fy:mg "free"=some (.ref yI))(Fw:mg "shut"=some (.ref yG))(Wu:Qz P w K mg dD)(Tt:LW P w K mg dD)(Pe:Ha P w K mg dD)(TF:L8 P w K mg dD)(Tw:L4 P w K mg dD)(Tu:LY P w K mg dD)(Tr:LU P w K mg dD):eV P w K mg dD (nz P w) 7 f fd (pA g9) (kj (qD dQ kQ)):=by
 have CV:=k7 Wu Ml (k7 Tt Fx (k7 Pe BE (k7 TF FC (k7 Tw FA (k7 Tu Fy (k7 Tr Fw LN))))))
 refine F.xQ ph (fun ds μ Kd Kx h=>A8 h) (fun gr A dW s H E hr fh Kb Z=>⟨_,(dN (qS 2 ph.nd (VJ Bz rfl (fu (dv 1) dJ) (fun _ _=>rfl)))
  (dX (eJ (OF (i:=2) Z.z CV hr.le rfl (by first | exact Or.inl rfl | exact Or.inr (Or.inl rfl) | exact Or.inr (Or.inr rfl)) (a2 (dv 0) (dv 1)))))),fun ds μ m Kd Kx hm hl em h hK=>?_⟩)
 unfold qD at h
 split at h
 .rename_i x y
  obtain⟨_,S,d,m',rfl,rfl,wf,GG,fc,kk⟩:=h
  have kk:wC kQ (gK fh H m Kd) Kb (my S d) (mT dQ (pH S d)) (μ.set 0 (.gx fh H)):=by
   unfold wC at kk ⊢
   cases e:my S d with
   | some i=>rw[e]at kk;exact(fX hK em kk).2
   | none=>rw[e]at kk;exact kc em kk
  have fin:∀ w,SD d=w->gS dQ kQ w [mT dQ S,kZ d] (μ.set 0 (.gx fh H)) (Et (μ.set 0 (.gx fh H)).length (gK fh H m Kd)).rt Kb:=fun w hw=>⟨⟨_,eU em⟩,S,d,m',rfl,rfl,hw,wf,GG,fc,by
   unfold wC at kk ⊢
   cases e:my S d with
   | some i=>rw[e]at kk;exact kk
   | none=>rw[e]at kk;exact .keep kk⟩
  cases d with
  | put nm b a=>exact dH rfl ⟨D2,rfl,_,aH,eU em,fin 0 rfl⟩
  | join nm l r p=>exact dH rfl ⟨yH,rfl,_,oO _ aH,eU em,fin 1 rfl⟩
  | found nm b a=>exact dH rfl ⟨uo,rfl,_,oO _ (oO _ aH),eU em,fin 2 rfl⟩
  | mQ nm b=>exact dH rfl ⟨yK,rfl,_,oO _ (oO _ (oO _ aH)),eU em,fin 3 rfl⟩
  | drop nm=>exact dH rfl ⟨yJ,rfl,_,oO _ (oO _ (oO _ (oO _ aH))),eU em,fin 4 rfl⟩
  | free nm=>exact dH rfl ⟨yI,rfl,_,oO _ (oO _ (oO _ (oO _ (oO _ aH)))),eU em,fin 5 rfl⟩
  | fI nm=>exact dH rfl ⟨yG,rfl,_,oO _ (oO _ (oO _ (oO _ (oO _ (oO _ aH))))),eU em,fin 6 rfl⟩
 .cases h
def uI (F:ic K "__init__" "Room.__init__" gN f fd)(T:jx mg)(dZ:jP K ee)(dG:gM K dQ)(ma:OwnCls "BadSize" uk nF "ValueError.__new__" mg dD)(u4:BG mg "LONGEST" 40)(eQ:fN P w K mg dD):eV P w K mg dD (nz P w) 3 f fd (pA gN) (kj (tT ee dQ kQ)):=by
 refine F.xQ uD (fun ds μ Kd Kx h=>Dj h) (fun gr A dW s H E hr fh Kb Z=>⟨_,(dN (fF (PW.pt (pE (Gh (dv 1) dJ) (lE (HG (dv 1) (Bi rfl u4)))))
  (dX (iL Z rfl ma ao (by decide) ao rfl (a1 dY)))
  fg)
  (dN (xD dZ.cl dZ.xU (iE true (a1 (Bj (qG eQ hr.le rfl (dP (dv 1) (dP ud (dP ud (dP ud fV)))))))) (dv 0))
  (dN (xD dZ.cl dZ.su (iE true fV) (dv 0))
  (dX (xD dZ.cl dZ.kS dJ (dv 0)))))),fun ds μ m Kd Kx hm hl em h hK=>?_⟩)
 unfold tT at h
 split at h
 .rename_i k n
  obtain⟨_,k0,ek,kk⟩:=h
  refine nN (c:=n<1) (fun q=>⟨zs,fX hK em (by rw[aq (by lia)]at kk;exact kk)⟩) (fun q1=>nN (c:=(40:Int)<n) (fun q=>⟨zs,fX hK em (by rw[aq (by lia)]at kk;exact kk)⟩) (fun q2=>?_))
  rw[au (by lia)]at kk
  have hk:k<μ.length:=(l8 ek).1
  have Vl:k<(μ.set 0 (.gx fh H)).length:=by rw[aG];exact hk
  have eg:(μ.set 0 (.gx fh H))[k]?=some (.ins ee [] []):=by rw[ak (bj k0)];exact ek
  refine⟨fU,rfl,?_⟩
  rw[gD]
  refine Fz.obj (aj _) fU ⟨trivial,trivial,trivial,trivial,trivial⟩ (gQ hm) ?_
  rw[aW]
  refine⟨zs,?_⟩
  refine⟨_,_,fM (by rw[uv Vl];exact eg),rfl,by decide,?_⟩
  rw[cX _ _ Vl]
  refine⟨zs,?_⟩
  have TU:∀ X:MO,k<((μ.set 0 (.gx fh H)).set k X).length:=fun X=>by rw[aG];exact Vl
  refine⟨_,_,fM (by rw[aQ,uv (TU _),aC Vl]),rfl,by show 1<1000;decide,?_⟩
  rw[aQ,cX _ _ (TU _),dw]
  refine⟨_,_,fM (by rw[uv (TU _),aC Vl]),rfl,by show 2<1000;decide,.keep ?_⟩
  rw[cX _ _ (TU _),dw]
  have h0:0<μ.length:=(l8 em).1
  refine⟨by rw[uv (by rw[aG,aG];exact h0),ak k0,aC h0],?_⟩
  rw[cX _ _ (by rw[aG,aG];exact h0),cO _ _ k0,lX em]
  have l0:(μ.set 0 (.gx fh H)).length=μ.length:=aG
  show Kd .gy (μ.set k (.ins ee vh [.mr (μ.set 0 (.gx fh H)).length,.mr ((μ.set 0 (.gx fh H)).set k _++[_]).length,.int 0])++[.lst [mT dQ ⟨n,[],[]⟩],.lst []])
  simp only[j3,aG,aN]
  exact kk
 .cases h
def Cw (F:ic K "now" "Room.now" jY f fd)(T:jx mg)(dZ:jP K ee):eV P w K mg dD kJ 1 f fd (pA jY) (hV (Oz ee dQ)):=by
 refine F.oG Ca (fun ds μ Kd h=>by unfold Oz at h;split at h <;> first | rfl | exact h.elim) (fun gr A dW s H E hr=>⟨_,(dX (eJ (fu (eY dZ.cl dZ.xU (dv 0)) (eY dZ.cl dZ.kS (dv 0))))),fun ds μ Kd hm hl h=>?_⟩)
 unfold Oz at h
 split at h
 .rename_i k
  obtain⟨j1,j2,ss,rs,d,S,ra,es,kk⟩:=h
  exact⟨.mr j1,by rw[fM ra.ins];rfl,.int d,by rw[fM ra.ins];rfl,dH (fJ ra.l1) (dH (L9 es) (Fz.keep kk))⟩
 .cases h
def AO (F:ic K "deed" "Room.deed" ji f fd)(T:jx mg)(dZ:jP K ee)(fL:iw P w K mg dD)(yO:qI P w K mg dD):eV P w K mg dD (nz P w) 8 f fd (pA ji) (kj (yo ee dQ kQ)):=by
 refine F.xQ tq (fun ds μ Kd Kx h=>E8 h) (fun gr A dW s H E hr fh Kb Z=>⟨_,(dN (qS 2 tq.nd (m8 Z.z yO hr.le rfl (a2 (gU fL dZ.cl hr.le (dv 0)) (dv 1))))
  (dN (Py (eY dZ.cl dZ.xU (dv 0)) (pP (eY dZ.cl dZ.kS (dv 0)) dJ) (iE false (a1 (dv 2))))
  (dN (Py (eY dZ.cl dZ.su (dv 0)) (eY dZ.cl dZ.kS (dv 0)) (iE false (a1 (dv 1))))
  (dX (Gb dZ.cl dZ.kS (dv 0) dJ))))),fun ds μ m Kd Kx hm hl em h hK=>?_⟩)
 unfold yo at h
 split at h
 .rename_i k y
  obtain⟨_,j1,j2,ss,rs,d,S,e,ra,es,rfl,fc,kX,kk⟩:=h
  have rg:=ra.gx (m:=.gx fh H)
  obtain⟨S',wO,wf⟩:=ra.now
  rw[es]at wO
  cases wO
  have:=ra.le
  have:=ra.len
  have rc:rK ee "now" (μ.set 0 (.gx fh H)) (.mr k):=by show(lV _ _ _).map _=_;rw[fM rg.ins];rfl
  refine⟨rc,j1,j2,ss,rs,d,S,rg,es,eU em,⟨_,eU em⟩,S,e,d,rfl,rfl,wf,by lia,fc,?_⟩
  unfold wC
  cases er:my S e with
  | some i=>rw[er]at kk;exact(fX hK em kk).2
  | none =>
   rw[er]at kk
   obtain⟨lk,la,lb⟩:=rg.lk
   have few2:=ra.kX
   have f1:∀ {ν:MS},ν[k]?=some (.ins ee vh [.mr j1,.mr j2,.int (d:Int)])->lV ee ν k=some (vh,[.mr j1,.mr j2,.int (d:Int)]):=fun h=>fM h
   refine⟨zs,.mr j1,by rw[f1 rg.ins];rfl,.int d,by rw[f1 rg.ins];rfl,_,fJ rg.l1,by lia,by rw[fH];lia,by rw[fH];exact sz (by show _+1<=_;lia),?_⟩
   have i1:∀ X,((μ.set 0 (.gx fh H)).set j1 X)[k]?=some (.ins ee vh [.mr j1,.mr j2,.int (d:Int)]):=fun X=>by rw[ak (bj ra.ka)];exact rg.ins
   refine⟨zs,.mr j2,by rw[f1 (i1 _)];rfl,.int d,by rw[f1 (i1 _)];rfl,_,fJ (by rw[ak ra.ab];exact rg.l2),by lia,by rw[fH];lia,by rw[fH];exact sz (by show _+1<=_;lia),?_⟩
   have i2:∀ X Y,(((μ.set 0 (.gx fh H)).set j1 X).set j2 Y)[k]?=some (.ins ee vh [.mr j1,.mr j2,.int (d:Int)]):=fun X Y=>by rw[ak (bj ra.kb)];exact i1 X
   refine⟨d,by rw[f1 (i2 _ _)];rfl,_,_,f1 (i2 _ _),rfl,by show 3<1000;decide,.keep ?_⟩
   obtain⟨g1,g2⟩:=rh ra (m:=.gx fh H) (ss':=ss.take (d+1)++[pH S e]) (rs':=rs.take d++[e]) (d':=d+1) em
   have eq:((((μ.set 0 (.gx fh H)).set j1 (.lst ((ss.map (mT dQ)).take ((d:Int)+1).toNat++[mT dQ (pH S e)]))).set j2 (.lst ((rs.map kZ).take (d:Int).toNat++[kZ e]))).set k (.ins ee vh [.mr j1,.mr j2,.int ((d:Int)+1)]))=jG ee dQ (μ.set 0 (.gx fh H)) k j1 j2 (ss.take (d+1)++[pH S e]) (rs.take d++[e]) (d+1):=by
    unfold jG
    rw[aF,aF,List.map_take,List.map_take,show((d:Int)+1).toNat=d+1 by lia,Ow]
    rfl
   show gK fh H m Kd .gy ((((μ.set 0 (.gx fh H)).set j1 (.lst ((ss.map (mT dQ)).take ((d:Int)+1).toNat++[mT dQ (pH S e)]))).set j2 (.lst ((rs.map kZ).take (d:Int).toNat++[kZ e]))).set k (.ins ee vh [.mr j1,.mr j2,.int ((d:Int)+1)]))
   rw[eq]
   exact⟨g2,by rw[g1];exact kk⟩
 .cases h
def za (F:ic K "deeds" "Room.deeds" iR f fd)(T:jx mg)(dZ:jP K ee):eV P w K mg dD kJ 1 f fd (pA iR) (hV (qz ee dQ true)):=by
 refine F.oG yZ (fun ds μ Kd h=>by unfold qz at h;split at h <;> first | rfl | exact h.elim) (fun gr A dW s H E hr=>⟨_,(dX (eJ (jz false (eY dZ.cl dZ.su (dv 0)) qi (iC (eY dZ.cl dZ.kS (dv 0)))))),fun ds μ Kd hm hl h=>?_⟩)
 unfold qz at h
 split at h
 .rename_i k
  obtain⟨j1,j2,ss,rs,d,ra,kk⟩:=h
  refine⟨_,by rw[fM ra.ins];rfl,_,by rw[fM ra.ins];rfl,dH (fJ ra.l2) ?_⟩
  rw[G1]
  rw[au rfl]at kk
  exact .keep kk
 .cases h
def zb (F:ic K "ahead" "Room.ahead" iS f fd)(T:jx mg)(dZ:jP K ee):eV P w K mg dD kJ 1 f fd (pA iS) (hV (qz ee dQ false)):=by
 refine F.oG y0 (fun ds μ Kd h=>by unfold qz at h;split at h <;> first | rfl | exact h.elim) (fun gr A dW s H E hr=>⟨_,(dX (eJ (jz false (eY dZ.cl dZ.su (dv 0)) (iC (eY dZ.cl dZ.kS (dv 0))) qi))),fun ds μ Kd hm hl h=>?_⟩)
 unfold qz at h
 split at h
 .rename_i k
  obtain⟨j1,j2,ss,rs,d,ra,kk⟩:=h
  refine⟨_,by rw[fM ra.ins];rfl,_,by rw[fM ra.ins];rfl,dH (fJ ra.l2) ?_⟩
  rw[uU]
  rw[aq (by decide)]at kk
  exact .keep kk
 .cases h
def AM (F:ic K "size" "Room.size" jg f fd)(T:jx mg)(dZ:jP K ee)(dG:gM K dQ)(fL:iw P w K mg dD):eV P w K mg dD kJ 2 f fd (pA jg) (hV (jI ee dQ Qg)):=by
 refine F.oG Ar (fun ds μ Kd h=>by unfold jI at h;split at h <;> first | rfl | exact h.elim) (fun gr A dW s H E hr=>⟨_,(dX (eJ (eY dG.cl dG.ia (gU fL dZ.cl hr.le (dv 0))))),fun ds μ Kd hm hl h=>?_⟩)
 unfold jI at h
 split at h
 .rename_i k
  obtain⟨j1,j2,ss,rs,d,S,ra,es,kk⟩:=h
  exact⟨by show(lV _ _ _).map _=_;rw[fM ra.ins];rfl,j1,j2,ss,rs,d,S,ra,es,rfl,_,rfl,.keep kk⟩
 .cases h
def y9 (F:ic K "names" "Room.names" iQ f fd)(T:jx mg)(dZ:jP K ee)(dG:gM K dQ)(fL:iw P w K mg dD):eV P w K mg dD kJ 2 f fd (pA iQ) (hV (jI ee dQ EV)):=by
 refine F.oG yY (fun ds μ Kd h=>by unfold jI at h;split at h <;> first | rfl | exact h.elim) (fun gr A dW s H E hr=>⟨_,(dX (eJ (DH (Gy rfl) (sV (m:=false)) (by rfl) T.list br (a1 (eY dG.cl dG.gw (gU fL dZ.cl hr.le (dv 0))))))),fun ds μ Kd hm hl h=>?_⟩)
 unfold jI at h
 split at h
 .rename_i k
  obtain⟨j1,j2,ss,rs,d,S,ra,es,kk⟩:=h
  refine⟨by show(lV _ _ _).map _=_;rw[fM ra.ins];rfl,j1,j2,ss,rs,d,S,ra,es,rfl,_,rfl,dH rfl ?_⟩
  unfold EV at kk
  show Fz _ Kd (.lst ((S.dE.map fun p=>eS p.1).map oJ)) μ
  rw[aJ]
  exact .keep kk
 .cases h
def AR (F:ic K "bars" "Room.bars" jk f fd)(T:jx mg)(dZ:jP K ee)(dG:gM K dQ)(fL:iw P w K mg dD)(pe:oZ P w K mg dD):eV P w K mg dD (nz P w) 5 f fd (pA jk) (kj (kE ee dQ kQ Qh)):=by
 refine F.xQ Au (fun ds μ Kd Kx h=>qA h) (fun gr A dW s H E hr fh Kb Z=>⟨_,(dX (eJ (fu (jA Z.z pe dG.cl hr.le (gU fL dZ.cl hr.le (dv 0)) (a1 (dv 1))) dJ))),fun ds μ m Kd Kx hm hl em h hK=>?_⟩)
 unfold kE at h
 split at h
 .rename_i k nm
  obtain⟨_,j1,j2,ss,rs,d,S,ra,es,kk⟩:=h
  have rg:=ra.gx (m:=.gx fh H)
  obtain⟨S',wO,wf⟩:=ra.now
  rw[es]at wO
  cases wO
  refine⟨by show(lV _ _ _).map _=_;rw[fM rg.ins];rfl,j1,j2,ss,rs,d,S,rg,es,⟨rfl,rfl⟩,eU em,⟨_,eU em⟩,S,d,rfl,wf,?_⟩
  cases e:d9 S.dE nm with
  | none=>rw[e]at kk;exact(fX hK em kk).2
  | some x=>rw[e]at kk;exact dH rfl (.keep (kc em kk))
 .cases h
def Cy (F:ic K "age" "Room.age" jZ f fd)(T:jx mg)(dZ:jP K ee)(dG:gM K dQ)(fL:iw P w K mg dD)(pe:oZ P w K mg dD):eV P w K mg dD (nz P w) 5 f fd (pA jZ) (kj (kE ee dQ kQ Vv)):=by
 refine F.xQ Cb (fun ds μ Kd Kx h=>qA h) (fun gr A dW s H E hr fh Kb Z=>⟨_,(dX (eJ (fu (jA Z.z pe dG.cl hr.le (gU fL dZ.cl hr.le (dv 0)) (a1 (dv 1))) dJ))),fun ds μ m Kd Kx hm hl em h hK=>?_⟩)
 unfold kE at h
 split at h
 .rename_i k nm
  obtain⟨_,j1,j2,ss,rs,d,S,ra,es,kk⟩:=h
  have rg:=ra.gx (m:=.gx fh H)
  obtain⟨S',wO,wf⟩:=ra.now
  rw[es]at wO
  cases wO
  refine⟨by show(lV _ _ _).map _=_;rw[fM rg.ins];rfl,j1,j2,ss,rs,d,S,rg,es,⟨rfl,rfl⟩,eU em,⟨_,eU em⟩,S,d,rfl,wf,?_⟩
  cases e:d9 S.dE nm with
  | none=>rw[e]at kk;exact(fX hK em kk).2
  | some x=>rw[e]at kk;exact dH rfl (.keep (kc em kk))
 .cases h
def y7 (F:ic K "parts" "Room.parts" iP f fd)(T:jx mg)(dZ:jP K ee)(dG:gM K dQ)(fL:iw P w K mg dD)(jT:lA P w K mg dD):eV P w K mg dD (nz P w) 5 f fd (pA iP) (kj (kE ee dQ kQ yb)):=by
 refine F.xQ yX (fun ds μ Kd Kx h=>qA h) (fun gr A dW s H E hr fh Kb Z=>⟨_,(dX (eJ (jA Z.z jT dG.cl hr.le (gU fL dZ.cl hr.le (dv 0)) (a1 (dv 1))))),fun ds μ m Kd Kx hm hl em h hK=>?_⟩)
 unfold kE at h
 split at h
 .rename_i k nm
  obtain⟨_,j1,j2,ss,rs,d,S,ra,es,kk⟩:=h
  have rg:=ra.gx (m:=.gx fh H)
  refine⟨by show(lV _ _ _).map _=_;rw[fM rg.ins];rfl,j1,j2,ss,rs,d,S,rg,es,⟨rfl,rfl⟩,eU em,⟨_,eU em⟩,S,rfl,?_⟩
  unfold yb at kk
  cases e:d9 S.dE nm with
  | none=>rw[e]at kk;exact(fX hK em kk).2
  | some x=>rw[e]at kk;exact .keep (kc em kk)
 .cases h
def xP (F:ic K "source" "Room.source" iq f fd)(T:jx mg)(dZ:jP K ee)(dG:gM K dQ)(fL:iw P w K mg dD)(mJ:mF P w K mg dD):eV P w K mg dD (nz P w) 5 f fd (pA iq) (kj (qy ee dQ kQ)):=by
 refine F.xQ xB (fun ds μ Kd Kx h=>A6 h) (fun gr A dW s H E hr fh Kb Z=>⟨_,(dX (eJ (jA Z.z mJ dG.cl hr.le (gU fL dZ.cl hr.le (dv 0)) (a2 (dv 1) (dv 2))))),fun ds μ m Kd Kx hm hl em h hK=>?_⟩)
 unfold qy at h
 split at h
 .rename_i k nm bar
  obtain⟨_,j1,j2,ss,rs,d,S,ra,es,kk⟩:=h
  have rg:=ra.gx (m:=.gx fh H)
  obtain⟨S',wO,wf⟩:=ra.now
  rw[es]at wO
  cases wO
  refine⟨by show(lV _ _ _).map _=_;rw[fM rg.ins];rfl,j1,j2,ss,rs,d,S,rg,es,⟨rfl,rfl⟩,eU em,⟨_,eU em⟩,S,rfl,wf.kp,?_⟩
  cases e:d9 S.dE nm with
  | none=>rw[e]at kk;exact(fX hK em kk).2
  | some x =>
   rw[e]at kk
   have kk:(if 0<=bar/\bar<S.n then Kd (En (gC S.dE nm bar)) μ else _):=kk
   show(if 0<=bar/\bar<S.n then _ else _)
   by_cases q:0<=bar/\bar<S.n
   .rw[au q]at kk ⊢;exact .keep (kc em kk)
   .rw[aq q]at kk ⊢;exact(fX hK em kk).2
 .cases h
def AQ (F:ic K "cuts" "Room.cuts" jj f fd)(T:jx mg)(dZ:jP K ee)(dG:gM K dQ)(fL:iw P w K mg dD)(nv:nk P w K mg dD):eV P w K mg dD kJ 5 f fd (pA jj) (hV (jI ee dQ GH)):=by
 refine F.oG lT (fun ds μ Kd h=>by unfold jI at h;split at h <;> first | rfl | exact h.elim) (fun gr A dW s H E hr=>⟨_,(dN (kz (gU nv dG.cl hr.le (gU fL dZ.cl hr.le (dv 0))) ⟨(gz (n:=3) rfl (d7 (qN 1 lT.nd) (d7 (qN 2 lT.nd) (d7 (qN 3 lT.nd) fR)))),(ie (eG (eB 1) (dF 1) (eG (eB 2) (dF 2) (eG (eB 3) (dF 3) ig eA) (dU (dF 3) eA)) (dU (dF 2) (dU (dF 3) eA)))),(iu (dU (dF 1) (dU (dF 2) (dU (dF 3) eA))))⟩)
  (dX (eJ (dv 2)))),fun ds μ Kd hm hl h=>?_⟩)
 unfold jI at h
 split at h
 .rename_i k
  obtain⟨j1,j2,ss,rs,d,S,ra,es,kk⟩:=h
  obtain⟨S',wO,wf⟩:=ra.now
  rw[es]at wO
  cases wO
  exact⟨by show(lV _ _ _).map _=_;rw[fM ra.ins];rfl,j1,j2,ss,rs,d,S,ra,es,⟨rfl,rfl⟩,S,d,rfl,wf,rfl,.keep kk⟩
 .cases h
def y6 (F:ic K "takes" "Room.takes" iO f fd)(T:jx mg)(dZ:jP K ee)(dG:gM K dQ)(fL:iw P w K mg dD)(nv:nk P w K mg dD):eV P w K mg dD kJ 5 f fd (pA iO) (hV (jI ee dQ uP)):=by
 refine F.oG lh (fun ds μ Kd h=>by unfold jI at h;split at h <;> first | rfl | exact h.elim) (fun gr A dW s H E hr=>⟨_,(dN (kz (gU nv dG.cl hr.le (gU fL dZ.cl hr.le (dv 0))) ⟨(gz (n:=3) rfl (d7 (qN 1 lh.nd) (d7 (qN 2 lh.nd) (d7 (qN 3 lh.nd) fR)))),(ie (eG (eB 1) (dF 1) (eG (eB 2) (dF 2) (eG (eB 3) (dF 3) ig eA) (dU (dF 3) eA)) (dU (dF 2) (dU (dF 3) eA)))),(iu (dU (dF 1) (dU (dF 2) (dU (dF 3) eA))))⟩)
  (dX (eJ (dv 3)))),fun ds μ Kd hm hl h=>?_⟩)
 unfold jI at h
 split at h
 .rename_i k
  obtain⟨j1,j2,ss,rs,d,S,ra,es,kk⟩:=h
  obtain⟨S',wO,wf⟩:=ra.now
  rw[es]at wO
  cases wO
  exact⟨by show(lV _ _ _).map _=_;rw[fM ra.ins];rfl,j1,j2,ss,rs,d,S,ra,es,⟨rfl,rfl⟩,S,d,rfl,wf,rfl,.keep kk⟩
 .cases h
def zK {ds:List D}{μ:MS}{Kd:DK}(h:tY ds μ Kd):∃ v0 v1,ds=[.mr v0,.int v1]:=by
 unfold tY at h
 rcases ds with _ | ⟨z0,ds⟩
 .cases h
 cases z0 <;> first | exact False.elim h | skip
 rcases ds with _ | ⟨z1,ds⟩
 .cases h
 cases z1 <;> first | exact False.elim h | skip
 rcases ds with _ | ⟨zz,zs⟩
 .exact⟨_,_,rfl⟩
 .cases h
def Ke (F:ic K "_law_names" "_law_names" ow f fd)(T:jx mg)(eX:nj P w K mg dD):eV P w K mg dD kJ 2 f fd (pA ow) (hV tY):=by
 refine F.oG iB (fun ds μ Kd h=>by obtain⟨_,_,rfl⟩:=zK h;rfl) (fun gr A dW s H E hr=>⟨_,(dN (qS 2 iB.nd dY)
  (dN (qS 3 iB.nd (pP dJ (qC eX hr (a2 (dv 0) dJ))))
  (dN (qS 4 iB.nd (qC eX hr (a2 (dv 0) (dv 3))))
  (dN (qS 5 iB.nd (vD VD xn (qC eX hr (a2 (dv 0) dJ)) dJ (ir _)))
  (dN (WI 6 false iB.nd (zW (N:=["_law_k", "_law_box_here"]) (js:=[none,some 0]) iB (by decide +kernel)) (jN rfl T.range (a1 (dv 3))) (fun _ _ _ nd=>(qN 0 nd)) (fun _ _ _=>kq) (fun _ _ _=>(qC eX hr (a2 (dv 1) dJ))))
  (dN (qS 7 iB.nd (iE true fV))
  (dN (vg bT rfl (jN rfl T.range (a1 (dv 1))) (qT 8 iB.nd)
  (dN (qS 9 iB.nd (DH PY (Nc (m:=true)) (by rfl) T.list br (a1 (dv 6))))
  (vQ (fF (lO (gT (dv 5)))
  (dX (WI 9 true iB.nd (zW (N:=["_law_step", "_law_box_here"]) (js:=[none,some 0]) iB (by decide +kernel)) (jN rfl T.range (a1 (pP (pP (dv 4) dJ) (qC eX hr (a2 (dv 0) (OH (dv 3) (dv 4))))))) (fun _ _ _ nd=>(qN 0 nd)) (fun _ _ _=>kq) (fun _ _ _=>(qC eX hr (a2 (dv 1) dJ)))))
  fg)
  (dN (Q3 (ub AU B5 (pP (fu (dv 6) (dv 4)) (ub mulC xm dJ (dv 8))) dJ) (dv 9) (dv 4))
  (dX (i7 (yu bO cA cz wY qY (dv 7) (a1 (yu bJ cn cm CL sW dY (a1 (GZ false (zW (N:=["_law_one", "_law_letters"]) (js:=[none,some 2]) iB (by decide +kernel)) (AY (dv 9)) (fun _ _ _ nd=>(qN 0 nd)) (fun _ _ _=>kq) (fun _ _ _=>(fu (dv 1) (dv 0))))))))))))))
  (dX (eJ (dv 7)))))))))),fun ds μ Kd hm hl h=>?_⟩)
 obtain⟨k,many,rfl⟩:=zK h
 unfold tY at h
 .skip
  obtain⟨hb,h1,h2,kk⟩:=h
  have hk:k<μ.length:=(l8 hb).1
  have So:∀ g:MS,(μ++g)[k]?=some .box:=fun g=>by rw[uv hk];exact hb
  refine⟨hb,by decide,by decide,fun v v0 v1=>⟨hb,by lia,by lia,fun p p0 p1=>⟨hb,by decide,by decide,fun w w0 w1=>?_⟩⟩⟩
  refine⟨by lia,by lia,sz (by rw[jl];lia),?_⟩
  refine rB D.int (fun i=>0<=i/\i<26) trivial (fun d hd K' k'=>⟨hb,by decide,by decide,fun x x0 x1=>k' x ⟨x0,x1⟩⟩) fun fi hfl hf=>?_
  rw[jl]at hfl
  refine⟨zs,by lia,by lia,?_⟩
  refine kD (fun ds ρ μ'=>∃(i j:Nat) (rows:List Str) (g:MS) (u v':Option D),ds=lU i j/\i+j=many.toNat/\rows.length=i/\(∀ z∈rows,gB z=true)/\ρ=[some (.mr k),some (.int many),some (.str (Str.ofString "abcdefghijklmnopqrstuvwxyz")),some (.int (1+v)),some (.int p),some (.bl (false != decide (w=0))),some (.lst (fi.map D.int)),some (.mr μ.length),u,v']/\μ'=μ++.lst (rows.map D.str)::g) ⟨0,many.toNat,[],[],none,none,rfl,by lia,rfl,fun _ h=>(nomatch h),rfl,rfl⟩ ?_ ?_
  .rintro d MM ρ μ' ⟨i,j,rows,g,u,v',e,Io,Yb,Yd,rfl,rfl⟩
   refine⟨trivial,fun nx GF=>?_⟩
   cases j with
   | zero=>cases e
   | succ j =>
    rw[l6]at e
    cases e
    refine⟨fun lg fG=>∃(g2:MS) (l:List Int),lg=[some (.mr k),some (.int many),some (.str (Str.ofString "abcdefghijklmnopqrstuvwxyz")),some (.int (1+v)),some (.int p),some (.bl (false != decide (w=0))),some (.lst (fi.map D.int)),some (.mr μ.length),some (.int i),some (.mr (μ++.lst (rows.map D.str)::g2).length)]/\fG=(μ++.lst (rows.map D.str)::g2)++[.lst (l.map D.int)]/\p<l.length/\l.length<=8/\∀ x∈l,0<=x/\x<26,?_,?_⟩
    .refine eM (!(false != decide (w=0))) (fun K k=>k) (fun _=>?_) (fun _=>⟨g,fi,rfl,rfl,by lia,by lia,hf⟩)
     refine⟨by rw[aQ];exact So _,by lia,by lia,fun q q0 q1=>⟨by lia,by lia,sz (by rw[jl];lia),?_⟩⟩
     refine rB D.int (fun i=>0<=i/\i<26) trivial (fun d hd K' k'=>⟨by rw[aQ];exact So _,by decide,by decide,fun x x0 x1=>k' x ⟨x0,x1⟩⟩) fun l ME Oj=>?_
     rw[jl]at ME
     exact⟨g++[.lst (fi.map D.int)],l,by rw[aQ];rfl,by simp only[aQ,c6,List.nil_append],by lia,by lia,Oj⟩
    .rintro lg fG ⟨g2,l,rfl,rfl,l1,l2,l3⟩
     obtain⟨n,rfl⟩:∃ n:Nat,p=(n:Int):=⟨p.toNat,by lia⟩
     obtain⟨a,ha⟩:∃ a,fi[n]?=some a:=⟨_,sP (by lia)⟩
     have m26:0<=(a+7*(i:Int))%26/\(a+7*(i:Int))%26<26:=⟨Int.emod_nonneg _ (by decide),Int.emod_lt_of_pos _ (by decide)⟩
     have ixj:Ie (l.map D.int).length (n:Int)=some n:=by
      unfold Ie;rw[fH,au (by lia),au (by lia),Ow]
     obtain⟨l',ME⟩:∃ l',l'=l.set n ((a+7*(i:Int))%26):=⟨_,rfl⟩
     have ll:l'.length=l.length:=by rw[ME,aG]
     have l4:∀ x∈l',0<=x/\x<26:=fun x hx=>by
      rw[ME]at hx
      rcases List.mem_or_eq_of_mem_set hx with q | q
      .exact l3 x q
      .rw[q];exact m26
     refine dH (o3 ha) ⟨.inl (by lia),show(0:Int)<26 by decide,?_⟩
     refine dH AV (dH ixj ?_)
     have es:(μ++MO.lst (rows.map D.str)::g2++[MO.lst (l.map D.int)]).set (μ++MO.lst (rows.map D.str)::g2).length (MO.lst ((l.map D.int).set n (.int ((a+7*(i:Int))%26))))=μ++MO.lst (rows.map D.str)::g2++[MO.lst (l'.map D.int)]:=by
      rw[gD,ME,List.map_set]
     rw[es]
     refine⟨uJ (ds:=rows.map D.str) (fJ (by rw[aQ];exact kH)),rfl,?_⟩
     refine dH AV ⟨sz (by rw[fH];lia),?_⟩
     refine DP l' (c:=fun x=>AW x (μ++.lst (rows.map D.str)::g2).length=some (l'.map D.int)) AV (fun x hx K' k'=>?_) fun cs cl cr=>?_
     .obtain⟨c,e,c1,c2⟩:=S9 (l4 x hx).1 (l4 x hx).2
      exact⟨zs,dH e (k' c ⟨c1,c2⟩)⟩
     .refine⟨rfl,cs.map (fun c=>⟨#[c]⟩),by unfold lv;rw[aJ];rfl,by rw[qW];lia,?_⟩
      rw[oQ]
      refine dH (fJ (ds:=rows.map D.str) (by rw[aQ];exact kH)) ⟨by rw[fH];exact aA (m:=51) (by lia) (sz (by lia)),?_⟩
      rw[aQ,c6,oj]
      refine GF _ _ ⟨i+1,j,rows++[txt cs],g2++[.lst (l'.map D.int)],_,_,by rw[Int.natCast_add];rfl,by lia,by rw[j3,Yb];rfl,fun z hz=>?_,rfl,by rw[aF];rfl⟩
      rcases List.mem_append.mp hz with q | q
      .exact Yd z q
      .rw[List.mem_singleton.mp q]
       exact Kl (by lia) (by lia) cr
  .rintro ρ μ' ⟨i,j,rows,g,u,v',e,Io,Yb,Yd,rfl,rfl⟩
   cases j with
   | succ j=>rw[l6]at e;cases e
   | zero =>
    refine⟨trivial,?_⟩
    refine Fz.lst (aj _) kH (kT fun d hd=>by obtain⟨q,_,rfl⟩:=List.mem_map.mp hd;exact trivial) (gQ hm) ?_
    rw[aW]
    exact kk rows (by lia) ⟨by lia,by lia,Yd⟩
def Kk (F:ic K "_law_begun" "_law_begun" oC f fd)(T:jx mg)(dZ:jP K ee)(eX:nj P w K mg dD)(wq:pB P w K mg dD)(Pa:G6 P w K mg dD):eV P w K mg dD kJ 5 f fd (pA oC) (hV (A9 ee dQ)):=by
 refine F.oG B9 (fun ds μ Kd h=>by unfold A9 at h;split at h <;> first | rfl | exact h.elim) (fun gr A dW s H E hr=>⟨_,(dN (qS 2 B9.nd (pP dJ (qC eX hr (a2 (dv 0) (dv 1)))))
  (dX (eJ (gO (a3 (Lv wq hr.le rfl (a1 (dv 2))) (gO (a3 (dv 2) ud ud)) (qC Pa hr (a2 (dv 0) (fu (iE false (a3 dJ dJ dJ)) (qC eX hr (a2 (dv 0) dJ)))))))))),fun ds μ Kd hm hl h=>?_⟩)
 unfold A9 at h
 split at h
 .rename_i k most
  obtain⟨⟨m0,em⟩,hb,hk,h1,h2,kk⟩:=h
  refine⟨hb,by lia,by lia,fun n n0 n1=>?_⟩
  have Il:μ≠[]:=fun e=>by rw[e]at hk;exact absurd hk (Nat.not_lt_zero _)
  have hl0:0<μ.length:=List.length_pos_iff.mpr Il
  refine⟨trivial,⟨m0,by rw[uv hl0];exact em⟩,by lia,fU,?_⟩
  rw[au (by lia),gD,aQ]
  have So:∀ g:MS,(μ++g)[k]?=some .box:=fun g=>by rw[uv hk];exact hb
  refine⟨rfl,zs,zs,So _,by decide,by decide,fun v v0 v1=>?_⟩
  have fin:∀ fA,oE fA->Fz μ.length Kd (.tup [.mr μ.length,pf ⟨1+n,[],[]⟩,mL fA]) (μ++([MO.ins ee vh [.mr (μ++[MO.ins ee [] []]).length,.mr ((μ++[MO.ins ee [] []]).length+1),.int 0]]++[MO.lst [mT dQ ⟨1+n,[],[]⟩],MO.lst []])):=fun fA hp=>by
   rw[j3]
   exact .keep (kk (1+n) fA (by lia) (by lia) hp)
  obtain rfl | rfl | rfl:v=0\/v=1\/v=2:=by lia
  .exact⟨So _,by decide,by decide,fun fA _ hp=>⟨zs,fin fA hp⟩⟩
  .exact⟨So _,by decide,by decide,fun fA _ hp=>⟨zs,fin fA hp⟩⟩
  .exact⟨So _,by decide,by decide,fun fA _ hp=>⟨zs,fin fA hp⟩⟩
 .cases h
def xZ {ds:List D}{μ:MS}{Kd:DK}(h:tW ds μ Kd):∃ v0 v1 v2,ds=[v0,.str v1,.int v2]:=by
 unfold tW at h
 rcases ds with _ | ⟨z0,ds⟩
 .cases h
 rcases ds with _ | ⟨z1,ds⟩
 .cases h
 cases z1 <;> first | exact False.elim h | skip
 rcases ds with _ | ⟨z2,ds⟩
 .cases h
 cases z2 <;> first | exact False.elim h | skip
 rcases ds with _ | ⟨zz,zs⟩
 .exact⟨_,_,_,rfl⟩
 .cases h
def HR (F:ic K "_law_origin" "_law_origin" mv f fd)(T:jx mg)  : eV P w K mg dD kJ 1 f fd (pA mv) (hV tW):=by
 refine F.oG j8 (fun ds μ Kd h=>by obtain⟨_,_,_,rfl⟩:=xZ h;rfl) (fun gr A dW s H E hr=>⟨_,(dN (qS 3 j8.nd dJ)
  (dN (Ga bT (mK (fu (ke (fW hr) (dv 0) (dv 1) (fun _ _=>rfl)) dJ) dY)
  (dN (kz (ke (fW hr) (dv 0) (dv 1) (fun _ _=>rfl)) ⟨(gz (n:=4) rfl (d7 (qN 4 j8.nd) (d7 (qN 5 j8.nd) (d7 (qN 6 j8.nd) (d7 (qN 7 j8.nd) fR))))),(ie (eG (eB 4) (dF 4) (eG (eB 5) (dF 5) (eG (eB 6) (dF 6) (eG (eB 7) (dF 7) ig eA) (dU (dF 7) eA)) (dU (dF 6) (dU (dF 7) eA))) (dU (dF 5) (dU (dF 6) (dU (dF 7) eA))))),(iu (dU (dF 4) (dU (dF 5) (dU (dF 6) (dU (dF 7) eA)))))⟩)
  (dN (qS 1 j8.nd (yw (Gh (dv 2) (dv 7)) (dv 5) (dv 6)))
  (dX (qS 3 j8.nd (pP (dv 3) dJ))))))
  (dX (eJ (gO (a2 (dv 1) (dv 3))))))),fun ds μ Kd hm hl h=>?_⟩)
 obtain⟨x,nm,bar,rfl⟩:=xZ h
 unfold tW at h
 .skip
  obtain⟨dE,y,hx,kp,ey,kk⟩:=h
  cases x with
  | mE ks ds =>
   cases hx
   refine⟨fun i ρ μ'=>∃(z:Str) (y:Pt) (c:Nat) (v1 v2 v3 v4:Option D),i=iZ dE z/\d9 dE z=some y/\gC dE nm bar=((gC dE z bar).1,(gC dE z bar).2+c)/\ρ=[some (.mE (dE.map fun p=>eS p.1) (dE.map fun p=>lK p.2)),some (.str z),some (.int bar),some (.int (c:Int)),v1,v2,v3,v4]/\μ'=μ,⟨_,nm,y,0,none,none,none,none,rfl,ey,rfl,rfl,rfl⟩,?_⟩
   rintro i ρ μ' ⟨z,y,c,v1,v2,v3,v4,rfl,ez,es,rfl,rfl⟩
   have eg:Oe (dE.map fun p=>eS p.1) (dE.map fun p=>lK p.2) (.str z)=some (some (lK y)):=by rw[ib eE lK z dE rfl,ez];rfl
   cases y with
   | fst b a =>
    refine⟨_,eg,?_⟩
    refine⟨zs,.keep ?_⟩
    rw[es,sU ez,Nat.zero_add]at kk
    exact kk
   | jn l r p =>
    obtain⟨⟨yl,el⟩,⟨yr,er⟩⟩:=kp.there ez
    obtain⟨i1,i2⟩:=kp.low z l r p ez
    have ej:=Af kp ez bar
    refine⟨_,eg,⟨_,eg,?_⟩⟩
    refine⟨rfl,?_⟩
    refine nN (c:=bar<p) (fun q=>?_) (fun q=>?_)
    .rw[au q]at ej
     exact⟨iZ dE l,i1,l,yl,c+1,_,_,_,_,rfl,el,by rw[es,ej];congr 1;show _+1+c=_;lia,rfl,rfl⟩
    .rw[aq q]at ej
     exact⟨iZ dE r,i2,r,yr,c+1,_,_,_,_,rfl,er,by rw[es,ej];congr 1;show _+1+c=_;lia,rfl,rfl⟩
  | mr j =>
   have hx:vZ μ j=some (dE.map (fun p=>eS p.1),dE.map fun p=>lK p.2):=hx
   refine⟨fun i ρ μ'=>∃(z:Str) (y:Pt) (c:Nat) (v1 v2 v3 v4:Option D),i=iZ dE z/\d9 dE z=some y/\gC dE nm bar=((gC dE z bar).1,(gC dE z bar).2+c)/\ρ=[some (.mr j),some (.str z),some (.int bar),some (.int (c:Int)),v1,v2,v3,v4]/\μ'=μ,⟨_,nm,y,0,none,none,none,none,rfl,ey,rfl,rfl,rfl⟩,?_⟩
   rintro i ρ μ' ⟨z,y,c,v1,v2,v3,v4,rfl,ez,es,rfl,rfl⟩
   have eg:=(vp (d:=.str z) eE lK z dE rfl hx).trans (by rw[ez];rfl:_=some (some (lK y)))
   cases y with
   | fst b a =>
    refine⟨_,eg,?_⟩
    refine⟨zs,.keep ?_⟩
    rw[es,sU ez,Nat.zero_add]at kk
    exact kk
   | jn l r p =>
    obtain⟨⟨yl,el⟩,⟨yr,er⟩⟩:=kp.there ez
    obtain⟨i1,i2⟩:=kp.low z l r p ez
    have ej:=Af kp ez bar
    refine⟨_,eg,⟨_,eg,?_⟩⟩
    refine⟨rfl,?_⟩
    refine nN (c:=bar<p) (fun q=>?_) (fun q=>?_)
    .rw[au q]at ej
     exact⟨iZ dE l,i1,l,yl,c+1,_,_,_,_,rfl,el,by rw[es,ej];congr 1;show _+1+c=_;lia,rfl,rfl⟩
    .rw[aq q]at ej
     exact⟨iZ dE r,i2,r,yr,c+1,_,_,_,_,rfl,er,by rw[es,ej];congr 1;show _+1+c=_;lia,rfl,rfl⟩
  | _=>cases hx
def CU {ds:List D}{μ:MS}{Kd:DK}(h:yp ds μ Kd):∃ v0,ds=[v0]:=by
 unfold yp at h
 rcases ds with _ | ⟨z0,ds⟩
 .cases h
 rcases ds with _ | ⟨zz,zs⟩
 .exact⟨_,rfl⟩
 .cases h
def NZ (F:ic K "_law_ages" "_law_ages" sj f fd)(T:jx mg)  : eV P w K mg dD kJ 1 f fd (pA sj) (hV yp):=by
 refine F.oG wy (fun ds μ Kd h=>by obtain⟨_,rfl⟩:=CU h;rfl) (fun gr A dW s H E hr=>⟨_,(dN (qS 1 wy.nd Bk)
  (dN (vg bT rfl (AZ (dv 0)) (qT 2 wy.nd)
  (dN (qS 3 wy.nd (ke (fW hr) (dv 0) (dv 2) (fun _ _=>rfl)))
  (dX (ky (fW hr) (yw (mK (fu (dv 3) dJ) dY) (fu (dv 3) dJ) (pP (rQ (RO rfl) Eo (by rfl) T.max PyProof.Rows.boot_max (a2 (ke (fW hr) (dv 1) (fu (dv 3) dJ) (fun _ _=>rfl)) (ke (fW hr) (dv 1) (fu (dv 3) dJ) (fun _ _=>rfl)))) dJ)) (dv 1) (dv 2)))))
  (dX (eJ (yx (dv 1)))))),fun ds μ Kd hm hl h=>?_⟩)
 obtain⟨x,rfl⟩:=CU h
 unfold yp at h
 .skip
  obtain⟨S,m,rfl,wf,kk⟩:=h
  have nd:=wf.kp.nd
  have kX:=wf.kX
  show zf _ _ _ _ ((S.dE.map fun p=>eS p.1).map oJ) _ _
  rw[aJ]
  refine kD (fun ds ρ μ'=>∃(pre post:List (Str×Pt)) (v1 v2:Option D),S.dE=pre++post/\ds=post.map (fun p=>D.str p.1)/\ρ=[some (rn eS lK S.dE),some (.mr μ.length),v1,v2]/\μ'=μ++[dM eS D.int (pre.map fun p=>(p.1,(gq S.dE p.1).2))]) ⟨[],S.dE,none,none,rfl,rfl,rfl,rfl⟩ ?_ ?_
  .rintro d MM ρ μ' ⟨pre,post,v1,v2,hs,e1,rfl,rfl⟩
   refine⟨trivial,fun nx GF=>?_⟩
   cases post with
   | nil=>cases e1
   | cons p post =>
    obtain⟨z,y⟩:=p
    cases e1
    obtain⟨ez,ix,lp,hn,GC⟩:=NA (g:=fun w=>(gq S.dE w).2) nd hs
    have eg:Oe (S.dE.map fun p=>eS p.1) (S.dE.map fun p=>lK p.2) (.str z)=some (some (lK y)):=by rw[ib eE lK z S.dE rfl,ez];rfl
    refine⟨_,eg,?_⟩
    have fin:∀(a:Int) (jE:DE),a=(gq S.dE z).2->jE=[some (rn eS lK S.dE),some (.mr μ.length),some (.str z),some (lK y)]->∃ kd Ei:List (Key×D),(μ++[dM eS D.int (pre.map fun p=>(p.1,(gq S.dE p.1).2))])[μ.length]?=some (.jr (kd.map (·.1)) (kd.map (·.2)))/\kd.length<sizeLine/\(oM (.str z)).map (fun k=>dput kd k (.int a))=some Ei/\nx jE ((μ++[dM eS D.int (pre.map fun p=>(p.1,(gq S.dE p.1).2))]).set μ.length (.jr (Ei.map (·.1)) (Ei.map (·.2)))):=fun a jE ha hρ=>by
     refine qc eE (P:=nx jE) fU (by rw[fH];exact aA lp (sz (by lia))) rfl a rfl ?_
     rw[gD,nR hn,hρ]
     refine GF _ _ ⟨pre++[(z,y)],post,_,_,by rw[hs,aQ];rfl,rfl,rfl,?_⟩
     rw[aF,ha];rfl
    cases y with
    | fst b a=>exact fin a _ (by rw[Em ez]) rfl
    | jn l r p =>
     obtain⟨i1,i2⟩:=wf.kp.low z l r p ez
     have g1:∀ w,iZ S.dE w<pre.length->Qa (μ++[dM eS D.int (pre.map fun p=>(p.1,(gq S.dE p.1).2))]) μ.length (.str w)=some (some (.int (gq S.dE w).2)):=fun w hw=>(vp eE D.int w (pre.map fun p=>(p.1,(gq S.dE p.1).2)) rfl (rm fU)).trans (by rw[GC w hw];rfl)
     exact⟨_,g1 l (by lia),_,g1 r (by lia),fin _ _ (by rw[Jp wf.kp ez];rfl) rfl⟩
  .rintro ρ μ' ⟨pre,post,v1,v2,hs,e1,rfl,rfl⟩
   cases post with
   | cons p post=>cases e1
   | nil =>
    rw[aV]at hs
    refine⟨trivial,_,_,fU,fun o kvs Sj=>?_⟩
    rw[gD]
    refine Fz.mE (aj _) fU (kT fun d hd=>by obtain⟨q,_,rfl⟩:=List.mem_map.mp hd;exact trivial) (gQ hm) ?_
    rw[aW,Sj,<- hs]
    exact kk
def zL {ds:List D}{μ:MS}{Kd:DK}(h:ym ds μ Kd):∃ v0 v1,ds=[v0,.str v1]:=by
 unfold ym at h
 rcases ds with _ | ⟨z0,ds⟩
 .cases h
 rcases ds with _ | ⟨z1,ds⟩
 .cases h
 cases z1 <;> first | exact False.elim h | skip
 rcases ds with _ | ⟨zz,zs⟩
 .exact⟨_,_,rfl⟩
 .cases h
def Ki (F:ic K "_law_heard" "_law_heard" oA f fd)(T:jx mg)(qR:ue P w K mg dD):eV P w K mg dD kJ 2 f fd (pA oA) (hV ym):=by
 refine F.oG xx (fun ds μ Kd h=>by obtain⟨_,_,rfl⟩:=zL h;rfl) (fun gr A dW s H E hr=>⟨_,(dN (qS 2 xx.nd (fu (dv 0) dJ))
  (dX (eJ (yu bJ cn cm CL sW dY (a1 (GZ false (zW (N:=["_law_bar", "_law_kept", "_law_name"]) (js:=[none,some 2,some 1]) xx (by decide +kernel)) (jN rfl T.range (a1 (fu (dv 0) dJ))) (fun _ _ _ nd=>(qN 0 nd)) (fun _ _ _=>kq) (fun _ _ _=>(fu (fu (ke (fW hr) (dv 1) (fu (qC qR hr (a3 (dv 1) (dv 2) (dv 0))) dJ) (fun _ _=>rfl)) dJ) (dv 0))))))))),fun ds μ Kd hm hl h=>?_⟩)
 obtain⟨x,nm,rfl⟩:=zL h
 unfold ym at h
 .skip
  obtain⟨S,m,y,rfl,wf,ey,kk⟩:=h
  have n1:=wf.n1
  have n2:=wf.n2
  obtain⟨t1,_⟩:=BY wf nm y ey
  have tl:(gq S.dE nm).1.length=S.n.toNat:=by lia
  refine⟨rfl,by lia,by lia,sz (by rw[jl];lia),?_⟩
  refine iF trivial (fun i:Nat=>D.int (0+(i:Int))) (fun i=>some (D.str ⟨#[(gq S.dE nm).1.getD i 0]⟩)) (fun i hi K' k'=>?_) ?_
  .have hi:=List.mem_range.mp hi
   obtain⟨b,a,c,g1,g2,g3⟩:=K1 wf i (by lia) nm y ey
   refine⟨S.dE,y,rfl,wf.kp,ey,?_⟩
   rw[Int.zero_add]
   refine⟨_,by rw[ib eE lK _ S.dE rfl,g1];rfl,?_⟩
   have lb:=(wf.fs _ b a g1).1
   refine⟨by rw[EM];exact sz (by lia),dH (lZ g2) ?_⟩
   have e:(gq S.dE nm).1.getD i 0=c:=by rw[a9,g3];rfl
   rw[e]at k'
   exact k'
  .rw[<- tl,HF]
   refine⟨rfl,(gq S.dE nm).1.map fun c=>⟨#[c]⟩,by unfold lv;rw[aJ];rfl,by rw[qW];lia,?_⟩
   rw[oQ]
   exact .keep kk
def zI {ds:List D}{μ:MS}{Kd:DK}(h:tS ds μ Kd):∃ v0,ds=[v0]:=by
 unfold tS at h
 rcases ds with _ | ⟨z0,ds⟩
 .cases h
 rcases ds with _ | ⟨zz,zs⟩
 .exact⟨_,rfl⟩
 .cases h
def Ka (F:ic K "_law_takes" "_law_takes" ot f fd)(T:jx mg)(TC:L7 P w K mg dD)(Pd:G9 P w K mg dD):eV P w K mg dD kJ 3 f fd (pA ot) (hV tS):=by
 refine F.oG xv (fun ds μ Kd h=>by obtain⟨_,rfl⟩:=zI h;rfl) (fun gr A dW s H E hr=>⟨_,(dN (qS 1 xv.nd (qC TC hr (a1 (fu (dv 0) dJ))))
  (dX (eJ (GZ false (zW (N:=["_law_name", "_law_state", "_law_ages_here"]) (js:=[none,some 0,some 1]) xv (by decide +kernel)) (AZ (fu (dv 0) dJ)) (fun _ _ _ nd=>(qN 0 nd)) (fun _ _ _=>kq) (fun _ _ _=>(gO (a2 (qC Pd hr (a2 (dv 1) (dv 0))) (ke (fW hr) (dv 2) (dv 0) (fun _ _=>rfl))))))))),fun ds μ Kd hm hl h=>?_⟩)
 obtain⟨x,rfl⟩:=zI h
 unfold tS at h
 .skip
  obtain⟨S,m,rfl,wf,kk⟩:=h
  have kX:=wf.kX
  refine⟨S,m,rfl,wf,?_⟩
  refine⟨sz (by rw[fH,fH];lia),?_⟩
  rw[aJ]
  refine iF trivial (oJ ∘ fun p:Str×Pt=>eS p.1) (fun p=>some (kh (gq S.dE p.1))) (fun p hp K' k'=>?_) ?_
  .refine⟨S,m,p.2,rfl,wf,gY wf.kp.nd hp,?_⟩
   refine⟨_,by rw[ib eE D.int p.1 _ rfl,Md wf.kp.nd hp];rfl,zs,k'⟩
  .rw[show(fun p:Str×Pt=>some (kh (gq S.dE p.1)))=some ∘ (fun p=>kh (gq S.dE p.1))from rfl,cQ]
   have kk:Kd (.lst ((m9 S).map kh)) μ:=kk
   unfold m9 at kk
   rw[aJ]at kk
   exact .keep kk
def CO {ds:List D}{μ:MS}{Kd:DK}(h:yj ds μ Kd):∃ v0,ds=[v0]:=by
 unfold yj at h
 rcases ds with _ | ⟨z0,ds⟩
 .cases h
 rcases ds with _ | ⟨zz,zs⟩
 .exact⟨_,rfl⟩
 .cases h
def NR (F:ic K "_law_open" "_law_open" r0 f fd)(T:jx mg)  : eV P w K mg dD kJ 1 f fd (pA r0) (hV yj):=by
 refine F.oG FZ (fun ds μ Kd h=>by obtain⟨_,rfl⟩:=CO h;rfl) (fun gr A dW s H E hr=>⟨_,(dX (eJ (GZ false (zW (N:=["_law_place", "_law_state"]) (js:=[none,some 0]) FZ (by decide +kernel)) (CW rfl T.range (a2 dJ (fu (dv 0) dJ))) (fun _ _ _ nd=>(qN 0 nd)) (fun _ _ _=>(uw (lF (fW hr) (dv 0) (fu (dv 1) dJ) (by with_unfolding_all rfl)))) (fun _ _ _=>(dv 0))))),fun ds μ Kd hm hl h=>?_⟩)
 obtain⟨x,rfl⟩:=CO h
 unfold yj at h
 .skip
  obtain⟨S,m,rfl,wf,kk⟩:=h
  have n1:=wf.n1
  have n2:=wf.n2
  refine dH rfl ⟨⟨by decide,by decide,by lia,by lia⟩,sz (by rw[jl];lia),?_⟩
  rw[Gf]
  refine iF trivial D.int (fun p=>if(d9 S.fI p).isSome=true then none else some (D.int p)) (fun p _ K' k'=>?_) ?_
  .refine dH rfl ⟨_,ib jq (fun _=>.bl true) p S.fI rfl,?_⟩
   cases e:d9 S.fI p with
   | none=>rw[e]at k';exact k'
   | some x=>rw[e]at k';exact k'
  .rw[Cq]
   exact .keep kk
def CS {ds:List D}{μ:MS}{Kd:DK}(h:yn ds μ Kd):∃ v0 v1,ds=[v0,v1]:=by
 unfold yn at h
 rcases ds with _ | ⟨z0,ds⟩
 .cases h
 rcases ds with _ | ⟨z1,ds⟩
 .cases h
 rcases ds with _ | ⟨zz,zs⟩
 .exact⟨_,_,rfl⟩
 .cases h
def NX (F:ic K "_law_done" "_law_done" sf f fd)(T:jx mg)(qR:ue P w K mg dD):eV P w K mg dD kJ 2 f fd (pA sf) (hV yn):=by
 refine F.oG rb (fun ds μ Kd h=>by obtain⟨_,_,rfl⟩:=CS h;rfl) (fun gr A dW s H E hr=>⟨_,(dN (Q2 (i:=2) (j:=3) (k:=4) rb.nd rfl rfl rfl (by decide) (by decide) (by decide) rfl rfl rfl (a3 (fu (dv 0) dJ) (DH Lp xo (by rfl) T.dict du (a1 (fu (dv 0) dJ))) (DH Lp xo (by rfl) T.dict du (a1 (fu (dv 0) dJ)))))
  (vQ (fF (mK (fu (dv 1) dJ) dY)
  (dX (ky (fW hr) (gO (a3 dY (fu (dv 1) dJ) (fu (dv 1) dJ))) (dv 3) (fu (dv 1) dJ)))
  (dX (fF (mK (fu (dv 1) dJ) dY)
  (dX (ky (fW hr) (gO (dP dY (dP (fu (dv 1) dJ) (dP (fu (dv 1) dJ) (dP (fu (dv 1) dJ) fV))))) (dv 3) (fu (dv 1) dJ)))
  (dX (fF (mK (fu (dv 1) dJ) dY)
  (dN (qS 5 rb.nd (fu (qC qR hr (a3 (dv 3) (fu (dv 1) dJ) (fu (dv 1) dJ))) dJ))
  (dN (kz (ke (fW hr) (dv 3) (dv 5) (fun _ _=>rfl)) ⟨(gz (n:=3) rfl (d7 (qN 6 rb.nd) (d7 (qN 7 rb.nd) (d7 (qN 8 rb.nd) fR)))),(ie (eG (eB 6) (dF 6) (eG (eB 7) (dF 7) (eG (eB 8) (dF 8) ig eA) (dU (dF 8) eA)) (dU (dF 7) (dU (dF 8) eA)))),(iu (dU (dF 6) (dU (dF 7) (dU (dF 8) eA))))⟩)
  (dX (ky (fW hr) (gO (a3 (dv 6) (pP (pP (jz false (dv 7) qi (iC (fu (dv 1) dJ))) (fu (dv 1) dJ)) (jz false (dv 7) (iC (pP (fu (dv 1) dJ) dJ)) qi)) (dv 8))) (dv 3) (dv 5)))))
  (dX (fF (mK (fu (dv 1) dJ) dY)
  (dX (ky (fW hr) (gO (a3 dY (fu (ke (fW hr) (dv 3) (fu (dv 1) dJ) (fun _ _=>rfl)) dJ) (fu (dv 1) dJ))) (dv 3) (fu (dv 1) dJ)))
  (dX (fF (mK (fu (dv 1) dJ) dY)
  (dX (i7 (Lr (dv 3) (fu (dv 1) dJ))))
  (dX (fF (mK (fu (dv 1) dJ) dY)
  (dX (ky (fW hr) rJ (dv 4) (fu (dv 1) dJ)))
  (dX (fF (BZ (fW hr) (fu (dv 1) dJ) (dv 4) (by with_unfolding_all rfl))
  (dX (i7 (Lr (dv 4) (fu (dv 1) dJ))))
  fg)))))))))))))
  (dX (eJ (gO (dP (dv 2) (dP (yx (dv 3)) (dP (yx (dv 4)) fV)))))))),fun ds μ Kd hm hl h=>?_⟩)
 obtain⟨x,y,rfl⟩:=CS h
 unfold yn at h
 .skip
  obtain⟨S,d,m,rfl,rfl,wf,GG,hr,kk⟩:=h
  have kX:=wf.kX
  have shl:=wf.shl
  have n2:=wf.n2
  have e2:(μ++[dM eS lK S.dE]).length=μ.length+1:=by rw[j3];rfl
  show V4 _ _ _ [some (pf S),some (kZ d),some (.int S.n),some (.mr μ.length),some (.mr (μ++[dM eS lK S.dE]).length),none,none,none,none] (μ++[dM eS lK S.dE]++[dM lG (fun _=>.bl true) S.fI])
  rw[e2,aQ]
  have kl:S.dE.length<sizeLine:=aA (m:=21) (by lia) (sz (by lia))
  have sl:S.fI.length<sizeLine:=aA (m:=1001) (by lia) (sz (by lia))
  refine⟨fun jE μ'=>∃ v5 v6 v7 v8,jE=[some (pf S),some (kZ d),some (.int S.n),some (.mr μ.length),some (.mr (μ.length+1)),v5,v6,v7,v8]/\(pH S d).n=S.n/\μ'=μ++[dM eS lK (pH S d).dE,dM lG (fun _=>.bl true) (pH S d).fI],?_,?_⟩
  .cases d with
   | put nm b a =>
    refine⟨zs,qc eE kH kl rfl (.fst b.cps.toList a) rfl ⟨none,none,none,none,rfl,rfl,?_⟩⟩
    exact oj
   | join nm l r p =>
    refine⟨zs,qc eE kH kl rfl (.jn l r p) rfl ⟨none,none,none,none,rfl,rfl,?_⟩⟩
    exact oj
   | found nm bar sg =>
    have hr:(if gR S nm=false then some 11 else if 0<=bar/\bar<S.n then(if sg = "o"\/sg = "x" then none else some 0)else some 6)=(none:Option Nat):=hr
    by_cases q1:gR S nm=false
    .rw[au q1]at hr;cases hr
    rw[aq q1]at hr
    by_cases hb:0<=bar/\bar<S.n
    .rw[au hb]at hr
     by_cases hs:sg = "o"\/sg = "x"
     .obtain⟨y,ey⟩:=nO q1
      obtain⟨b,a,ef⟩:=Ag wf.kp bar nm y ey
      obtain⟨f1,f2,f3,f4⟩:=wf.fs _ b a ef
      obtain⟨o1,o2⟩:=Er hs
      refine⟨S.dE,y,rm kH,wf.kp,ey,?_⟩
      refine⟨_,(vp eE lK (gC S.dE nm bar).1 S.dE rfl (rm kH)).trans (by rw[ef];rfl:_=some (some (lK (.fst b a)))),rfl,?_⟩
      have sl:sg.length=1:=o2
      have lb:(txt b).length<=sizeLine:=by rw[mR];exact sz (by lia)
      have c1:=oV b none (some bar)
      have c2:=oV b (some (bar+1)) none
      have eh:(⟨(hZ b none (some bar)).toArray⟩++sg++⟨(hZ b (some (bar+1)) none).toArray⟩:Str)=txt (vt b bar sg):=by
       rw[Bo hb.1,uT (show 0<=bar+1 by lia),show(bar+1).toNat=bar.toNat+1 by lia]
       rw[By,o5,aQ]
       rfl
      have l1:(⟨(hZ b none (some bar)).toArray⟩:Str).length+sg.length<=sizeLine:=by rw[sl];show(hZ b none (some bar)).length+1<=_;exact sz (by lia)
      have l2:(⟨(hZ b none (some bar)).toArray⟩++sg:Str).length+(⟨(hZ b (some (bar+1)) none).toArray⟩:Str).length<=sizeLine:=by
       rw[By]
       show(hZ b none (some bar)++sg.cps.toList).length+(hZ b (some (bar+1)) none).length<=_
       rw[j3,o2]
       exact sz (by lia)
      refine⟨lb,l1,lb,l2,zs,?_⟩
      refine qc eE kH kl rfl (.fst (vt b bar sg) a) (by show D.tup _=D.tup _;rw[<- eh]) ⟨_,_,_,_,rfl,rfl,?_⟩
      rw[oj]
      show _=μ++[dM eS lK (ET S.dE (gC S.dE nm bar).1 bar sg),_]
      unfold ET
      rw[ef]
      rfl
     .rw[aq hs]at hr;cases hr
    .rw[aq hb]at hr;cases hr
   | mQ nm a =>
    have hr:(match d9 S.dE nm with | none=>some 11 | some (.jn _ _ _)=>some 13 | some (.fst _ _)=>kL a)=(none:Option Nat):=hr
    cases ey:d9 S.dE nm with
    | none=>rw[ey]at hr;cases hr
    | some y =>
     rw[ey]at hr
     cases y with
     | jn _ _ _=>cases hr
     | fst b a0 =>
      refine⟨_,(vp eE lK nm S.dE rfl (rm kH)).trans (by rw[ey];rfl:_=some (some (lK (.fst b a0)))),zs,?_⟩
      have ed:pH S (.mQ nm a)={ S with dE:=gF S.dE nm (.fst b a)}:=by
       show(match d9 S.dE nm with | some (.fst b _)=>{ S with dE:=gF S.dE nm (.fst b a)} | _=>S)=_
       rw[ey]
      refine qc eE kH kl rfl (.fst b a) rfl ⟨none,none,none,none,rfl,by rw[ed],?_⟩
      rw[ed]
      exact oj
   | drop nm =>
    have hr:(if gR S nm=false then some 11 else if lP S nm=true then some 14 else none)=(none:Option Nat):=hr
    by_cases q1:gR S nm=false
    .rw[au q1]at hr;cases hr
    obtain⟨y,ey⟩:=nO q1
    refine⟨⟨_,_,kH⟩,pop_at eE kH rfl ey ⟨none,none,none,none,rfl,rfl,?_⟩⟩
    exact oj
   | fI p =>
    refine qc jq (f:=fun _:Unit=>D.bl true) zq sl rfl () rfl ⟨none,none,none,none,rfl,rfl,?_⟩
    exact Am
   | free p =>
    refine⟨_,vp jq (fun _:Unit=>D.bl true) p S.fI rfl (rm zq),?_⟩
    cases ep:d9 S.fI p with
    | none =>
     refine⟨none,none,none,none,rfl,rfl,?_⟩
     show _=μ++[dM eS lK S.dE,dM lG (fun _=>.bl true) (iH S.fI p)]
     rw[Fo ep];rfl
    | some u =>
     refine⟨⟨_,_,zq⟩,pop_at jq (f:=fun _:Unit=>D.bl true) zq rfl ep ⟨none,none,none,none,rfl,rfl,?_⟩⟩
     exact Am
  .rintro jE μ' ⟨v5,v6,v7,v8,rfl,en,rfl⟩
   refine⟨_,_,kH,fun o1 k1 Yq=>?_⟩
   rw[oj]
   refine⟨_,_,zq,fun o2 k2 TU=>?_⟩
   rw[Am]
   refine⟨zs,Fz.Qs (Ox (kT fun d hd=>by obtain⟨q,_,rfl⟩:=List.mem_map.mp hd;exact Q9 _) (kT fun d hd=>by obtain⟨q,_,rfl⟩:=List.mem_map.mp hd;exact trivial)) (gQ hm) ?_⟩
   rw[aW,Yq,TU,<- en]
   exact kk
def CP {ds:List D}{μ:MS}{Kd:DK}(h:Dm ds μ Kd):∃ v0,ds=[v0]:=by
 unfold Dm at h
 rcases ds with _ | ⟨z0,ds⟩
 .cases h
 rcases ds with _ | ⟨zz,zs⟩
 .exact⟨_,rfl⟩
 .cases h
def NS (F:ic K "_law_lone" "_law_lone" r6 f fd)(T:jx mg)  : eV P w K mg dD kJ 1 f fd (pA r6) (hV Dm):=by
 refine F.oG wx (fun ds μ Kd h=>by obtain⟨_,rfl⟩:=CP h;rfl) (fun gr A dW s H E hr=>⟨_,(dN (qS 1 wx.nd Bk)
  (dN (vg bT rfl (uM (dv 0)) (qT 2 wx.nd)
  (dX (fF (mK (fu (dv 2) dJ) dY)
  (dN (ky (fW hr) rJ (dv 1) (fu (dv 2) dJ))
  (dX (ky (fW hr) rJ (dv 1) (fu (dv 2) dJ))))
  fg)))
  (dX (eJ (GZ false (zW (N:=["_law_name", "_law_used"]) (js:=[none,some 1]) wx (by decide +kernel)) (AZ (dv 0)) (fun _ _ _ nd=>(qN 0 nd)) (fun _ _ _=>(uw (lF (fW hr) (dv 0) (dv 1) (by with_unfolding_all rfl)))) (fun _ _ _=>(dv 0))))))),fun ds μ Kd hm hl h=>?_⟩)
 obtain⟨x,rfl⟩:=CP h
 unfold Dm at h
 .skip
  obtain⟨S,m,rfl,wf,kk⟩:=h
  have kX:=wf.kX
  intro _
  refine kD (fun ds ρ μ'=>∃(pre post:List (Str×Pt)) (us:List (Str×Unit)) (v1:Option D),S.dE=pre++post/\ds=post.map (fun p=>lK p.2)/\us.length<=2*pre.length/\(∀ z,(d9 us z).isSome=pre.any fun p=>hJ z p.2)/\ρ=[some (rn eS lK S.dE),some (.mr μ.length),v1]/\μ'=μ++[dM eS (fun _=>.bl true) us]) ⟨[],S.dE,[],none,rfl,rfl,aj _,fun _=>rfl,rfl,rfl⟩ ?_ ?_
  .rintro d MM ρ μ' ⟨pre,post,us,v1,hs,e1,hu,ha,rfl,rfl⟩
   refine⟨trivial,fun nx GF=>?_⟩
   cases post with
   | nil=>cases e1
   | cons p post =>
    obtain⟨z,y⟩:=p
    cases e1
    have lp:pre.length<S.dE.length:=by rw[hs,j3,aI];lia
    have Wc:∀ w,((pre++[(z,y)]).any fun p=>hJ w p.2)=((pre.any fun p=>hJ w p.2)||hJ w y):=fun w=>by rw[List.any_append,bz,List.any_nil,Bool.or_false]
    cases y with
    | fst b a =>
     refine GF _ _ ⟨pre++[(z,.fst b a)],post,us,_,by rw[hs,aQ];rfl,rfl,by rw[j3];lia,fun w=>by rw[Wc,ha w];exact(Bool.or_false _).symm,rfl,rfl⟩
    | jn l r p =>
     have ul:us.length<sizeLine:=aA (m:=50) (by lia) (sz (by lia))
     have la:=Hj (l:=us) (k:=l) (v:=())
     have lb:=Hj (l:=gF us l ()) (k:=r) (v:=())
     have ul2:(gF us l ()).length<sizeLine:=aA (m:=50) (by lia) (sz (by lia))
     refine qc eE (f:=fun _:Unit=>D.bl true) fU ul rfl () rfl ?_
     rw[gD]
     refine qc eE (f:=fun _:Unit=>D.bl true) fU ul2 rfl () rfl ?_
     rw[gD]
     refine GF _ _ ⟨pre++[(z,.jn l r p)],post,gF (gF us l ()) r (),_,by rw[hs,aQ];rfl,rfl,by rw[j3,aN];lia,fun w=>?_,rfl,rfl⟩
     rw[Wc,nS,nS,<- ha w]
     show _=(_||(decide (l=w)||decide (r=w)))
     by_cases q1:w=r
     .subst q1;rw[au rfl];simp
     .rw[aq q1,az (bj q1)]
      by_cases q2:w=l
      .subst q2;rw[au rfl];simp
      .rw[aq q2,az (bj q2)];simp
  .rintro ρ μ' ⟨pre,post,us,v1,hs,e1,hu,ha,rfl,rfl⟩
   cases post with
   | cons p post=>cases e1
   | nil =>
    rw[aV]at hs
    refine⟨trivial,sz (by rw[fH,fH];lia),?_⟩
    rw[aJ]
    refine iF trivial (oJ ∘ fun p:Str×Pt=>eS p.1) (fun p=>if(S.dE.any fun q=>hJ p.1 q.2)=true then none else some (D.str p.1)) (fun p hp K' k'=>?_) ?_
    .refine⟨_,vp eE (fun _:Unit=>D.bl true) p.1 us rfl (rm fU),?_⟩
     rw[<- hs]at ha
     have hw:=ha p.1
     cases eu:d9 us p.1 with
     | none=>rw[eu]at hw;rw[<- hw]at k';exact k'
     | some u=>rw[eu]at hw;rw[<- hw]at k';exact k'
    .rw[Kq]
     refine Fz.drop (kT fun d hd=>by obtain⟨q,_,rfl⟩:=List.mem_map.mp hd;exact trivial) (gQ hm) ?_
     rw[aW]
     exact kk
set_option maxHeartbeats 8000000 in
def CQ {ds:List D}{μ:MS}{Kd:DK}(h:Dp ds μ Kd):∃ v0 v1 v2,ds=[.mr v0,v1,v2]:=by
 unfold Dp at h
 rcases ds with _ | ⟨z0,ds⟩
 .cases h
 cases z0 <;> first | exact False.elim h | skip
 rcases ds with _ | ⟨z1,ds⟩
 .cases h
 rcases ds with _ | ⟨z2,ds⟩
 .cases h
 rcases ds with _ | ⟨zz,zs⟩
 .exact⟨_,_,_,rfl⟩
 .cases h
def NV (F:ic K "_law_easy" "_law_easy" sd f fd)(T:jx mg)(eX:nj P w K mg dD)(FE:Fh P w K mg dD)(TB:L6 P w K mg dD)(Ts:LV P w K mg dD):eV P w K mg dD kJ 3 f fd (pA sd) (hV Dp):=by
 refine F.oG ku (fun ds μ Kd h=>by obtain⟨_,_,_,rfl⟩:=CQ h;rfl) (fun gr A dW s H E hr=>⟨_,(dN (qS 3 ku.nd (DH (Gy rfl) (sV (m:=false)) (by rfl) T.list br (a1 (fu (dv 1) dJ))))
  (dN (WI 4 false ku.nd (zW (N:=["_law_name", "_law_state", "_law_names_here"]) (js:=[none,some 1,some 3]) ku (by decide +kernel)) (AY (dv 2)) (fun _ _ _ nd=>(qN 0 nd)) (fun _ _ _=>(uw (PW.pt (j6 (lF (fW hr) (dv 0) (fu (dv 1) dJ) (by with_unfolding_all rfl)) (iJ (Gh (we T (dv 2)) dJ)))))) (fun _ _ _=>(dv 0)))
  (dN (qS 5 ku.nd (qC FE hr (a1 (dv 1))))
  (dN (qS 6 ku.nd (qC eX hr (a2 (dv 0) dJ)))
  (dN (fF (PW.pt (j6 (HG (we T (dv 4)) dJ) (iJ (PW.pt (pE (mK (we T (dv 3)) dJ) (lE (Gh (dv 6) dJ)))))))
  (dN (qS 7 ku.nd (qC eX hr (a2 (dv 0) (fu (iE false (a2 dJ dJ)) (qC eX hr (a2 (dv 0) dJ))))))
  (dX (eJ (gO (dP dY (dP (fu (dv 4) (qC eX hr (a2 (dv 0) (we T (dv 4))))) (dP (qC TB hr (a2 (dv 0) (fu (dv 1) dJ))) (dP (dv 7) fV))))))))
  fg)
  (dN (qS 8 ku.nd (fu (dv 3) (qC eX hr (a2 (dv 0) (we T (dv 3))))))
  (dN (fF (PW.pt (j6 (Gh (dv 6) dJ) (j6 (HG (we T (dv 4)) dJ) (iJ (HG (we T (dv 5)) dJ)))))
  (dN (qS 9 ku.nd (fu (dv 3) (qC eX hr (a2 (dv 0) (we T (dv 3))))))
  (dN (qS 10 ku.nd (fu (dv 5) (qC eX hr (a2 (dv 0) (we T (dv 5))))))
  (dX (eJ (gO (dP dY (dP (fu (dv 4) (qC eX hr (a2 (dv 0) (we T (dv 4))))) (dP (dv 8) (dP (dv 9) (dP (dv 10) fV))))))))))
  fg)
  (dN (fF (PW.pt (j6 (mK (dv 6) dJ) (iJ (mK (fu (ke (fW hr) (fu (dv 1) dJ) (dv 8) (fun _ _=>rfl)) dJ) dY))))
  (dX (eJ (gO (a3 dY (dv 8) (qC eX hr (a2 (dv 0) dJ))))))
  fg)
  (dN (qS 11 ku.nd (qC Ts hr (a1 (fu (dv 1) dJ))))
  (dN (fF (PW.pt (j6 (mK (dv 6) dJ) (iJ (HG (we T (dv 11)) dJ))))
  (dX (eJ (gO (a2 dY (fu (dv 11) (qC eX hr (a2 (dv 0) (we T (dv 11)))))))))
  fg)
  (dN (fF (PW.pt (j6 (HG (dv 6) dJ) (iJ (HG (fu (dv 1) dJ) dJ))))
  (dX (eJ (gO (a2 (fu (iE false (a2 dY dY)) (qC eX hr (a2 (dv 0) dJ))) (pP dJ (qC eX hr (a2 (dv 0) (OH (fu (dv 1) dJ) dJ))))))))
  fg)
  (dX (eJ (gO (dP dY (dP (dv 8) (dP (qC eX hr (a2 (dv 0) (fu (dv 1) dJ))) (dP (fu dY (qC eX hr (a2 (dv 0) dJ))) fV)))))))))))))))))),fun ds μ Kd hm hl h=>?_⟩)
 obtain⟨k,x,y,rfl⟩:=CQ h
 unfold Dp at h
 .skip
  obtain⟨hb,S,m,fA,rfl,rfl,wf,hp,kk⟩:=h
  have kX:=wf.kX
  have n1:=wf.n1
  have n2:=wf.n2
  have pl:=hp.2.1
  have eN:(S.dE.map fun p=>eS p.1).map oJ=S.dE.map fun p=>D.str p.1:=aJ
  have fl:(kW S fA).length<=50:=aE (bM _ _) pl
  have ol:(pj S).length<=40:=by
   unfold pj
   refine aE (bM _ _) ?_
   rw[fH,MJ];lia
  have ll:(rL S.dE).length<=20:=by
   unfold rL
   refine aE (bM _ _) ?_
   rw[fH];exact kX
  refine wQ (d:=.lst (S.dE.map fun p=>D.str p.1)) (μ':=μ) (fun K k=>by rw[<- eN]at k;exact k) ?_
  refine⟨sz (by rw[fH];lia),?_⟩
  refine iF trivial D.str (fun z=>if(!(d9 S.dE z).isSome&&decide (S.dE.length<20))=true then some (D.str z)else none) (fun z hz K' k'=>?_) ?_
  .refine⟨_,ib eE lK z S.dE rfl,?_⟩
   cases e:d9 S.dE z with
   | some y=>rw[e]at k';exact k'
   | none =>
    rw[e]at k'
    refine nN (c:=(((S.dE.map fun p=>D.str p.1).length:Nat):Int)<20) (fun q=>?_) (fun q=>?_)
    .rw[fH]at q
     rw[ar (show S.dE.length<20 by lia)]at k';exact k'
    .rw[fH]at q
     rw[az (show ¬ S.dE.length<20 by lia)]at k';exact k'
  rw[Iv]
  refine⟨S,m,rfl,wf,hb,by decide,by decide,fun way w0 w1=>?_⟩
  dsimp only
  refine eM (decide ((0:Int)<(((kW S fA).map D.str).length:Nat))&&((false != decide ((((S.dE.map fun p=>D.str p.1).length:Nat):Int)=0))||decide (way<3))) ?_ (fun q=>?_) (fun q=>?_)
  .exact(.and (.gZ fun K k=>k) fun _=>.or (.gZ fun K k=>k) fun _=>.gZ fun K k=>k)
  .have f0:0<(kW S fA).length:=by
    simp only[aT,bh,fH]at q
    lia
   refine⟨zs,hb,by decide,by decide,fun t t0 t1=>?_⟩
   obtain rfl | rfl:t=0\/t=1:=by lia
   all_goals
    refine⟨hb,by decide,by decide,fun a a0 a1=>⟨hb,by rw[fH];lia,by rw[fH];lia,fun i i0 i1=>?_⟩⟩
    obtain⟨z,hz,e⟩:=kI (g:=D.str) (xs:=kW S fA) i0 (by rw[fH]at i1;exact i1)
    obtain⟨z1,z2⟩:=zO hp hz
    refine dH e ⟨hb,n1,by lia,fun l hl ho=>⟨zs,.keep (kk (.put z (txt l) a) (Nn z1 (by lia) ho a0 (by lia)) ⟨by lia,by rw[mR];lia⟩)⟩⟩
  have kne:0<S.dE.length:=by
   rcases Nat.eq_zero_or_pos S.dE.length with z | z
   .have:=Iw hp (List.length_eq_zero_iff.mp z)
    rw[ar (show(0:Int)<(((kW S fA).map D.str).length:Nat) by rw[fH];lia),ar (show(((S.dE.map fun p=>D.str p.1).length:Nat):Int)=0 by rw[fH];lia)]at q
    cases q
   .exact z
  refine⟨hb,by rw[fH];lia,by rw[fH];lia,fun i i0 i1=>?_⟩
  obtain⟨⟨z8,y8⟩,WU,e8⟩:=kI (g:=fun p:Str×Pt=>D.str p.1) (xs:=S.dE) i0 (by rw[fH]at i1;exact i1)
  refine dH e8 ?_
  dsimp only
  refine eM (decide (way<7)&&(decide ((0:Int)<(((kW S fA).map D.str).length:Nat))&&decide ((0:Int)<(((pj S).map D.int).length:Nat)))) ?_ (fun q=>?_) (fun q=>?_)
  .exact(.and (.gZ fun K k=>k) fun _=>.and (.gZ fun K k=>k) fun _=>.gZ fun K k=>k)
  .simp only[aT,bh,fH]at q
   refine⟨hb,by rw[fH];lia,by rw[fH];lia,fun i i0 i1=>?_⟩
   obtain⟨p9,hp9,e9⟩:=kI (g:=fun p:Str×Pt=>D.str p.1) (xs:=S.dE) i0 (by rw[fH]at i1;exact i1)
   refine dH e9 ⟨hb,by rw[fH];lia,by rw[fH];lia,fun i i0 i1=>?_⟩
   obtain⟨pl,lW,e10⟩:=kI (g:=D.int) (xs:=pj S) i0 (by rw[fH]at i1;exact i1)
   refine dH e10 ⟨hb,by rw[fH];lia,by rw[fH];lia,fun i i0 i1=>?_⟩
   obtain⟨z,hz,e⟩:=kI (g:=D.str) (xs:=kW S fA) i0 (by rw[fH]at i1;exact i1)
   obtain⟨z1,z2⟩:=zO hp hz
   exact dH e ⟨zs,.keep (kk (.join z z8 p9.1 pl) (JF z1 WU hp9 lW) (show z.length<=1000 by lia))⟩
  have a8:d9 S.dE z8=some y8:=gY wf.kp.nd WU
  have eg:Oe (S.dE.map fun p=>eS p.1) (S.dE.map fun p=>lK p.2) (.str z8)=some (some (lK y8)):=by rw[ib eE lK z8 S.dE rfl,a8];rfl
  refine fw ?_
  dsimp only
  refine eM ((false != decide (way=9))&&Qc y8) ?_ (fun q=>?_) (fun q=>?_)
  .exact(.and (.gZ fun K k=>k) fun _=>.gZ fun K k=>by cases y8 <;> exact⟨_,eg,k⟩)
  .cases y8 with
   | jn _ _ _=>rw[show Qc (.jn _ _ _)=false from rfl,cY]at q;cases q
   | fst b a0 =>
    refine⟨hb,by decide,by decide,fun a a0' a1=>⟨zs,.keep (kk (.mQ z8 a) ?_ trivial)⟩⟩
    show(match d9 S.dE z8 with | none=>some 11 | some (.jn _ _ _)=>some 13 | some (.fst _ _)=>kL a)=none
    rw[a8]
    exact Mf a0' (by lia)
  refine⟨S,m,rfl,wf,?_⟩
  dsimp only
  refine eM ((false != decide (way=10))&&decide ((0:Int)<(((rL S.dE).map D.str).length:Nat))) ?_ (fun q=>?_) (fun q=>?_)
  .exact(.and (.gZ fun K k=>k) fun _=>.gZ fun K k=>k)
  .have l0:0<(rL S.dE).length:=by
    have:=(Bool.and_eq_true_iff.mp q).2
    simp only[bh,fH]at this
    lia
   refine⟨hb,by rw[fH];lia,by rw[fH];lia,fun i i0 i1=>?_⟩
   obtain⟨z,hz,e⟩:=kI (g:=D.str) (xs:=rL S.dE) i0 (by rw[fH]at i1;exact i1)
   exact dH e ⟨zs,.keep (kk (.drop z) (JG hz) trivial)⟩
  refine fw ?_
  dsimp only
  refine eM (decide (10<way)&&decide (1<S.n)) ?_ (fun q=>?_) (fun q=>?_)
  .exact(.and (.gZ fun K k=>k) fun _=>.gZ fun K k=>k)
  .simp only[aT,bh]at q
   refine⟨zs,hb,by decide,by decide,fun t t0 t1=>?_⟩
   obtain rfl | rfl:t=0\/t=1:=by lia
   .exact⟨hb,by lia,by lia,fun p p0 p1=>⟨zs,.keep (kk (.free (1+p)) (xG (by lia) (by lia)) trivial)⟩⟩
   .exact⟨hb,by lia,by lia,fun p p0 p1=>⟨zs,.keep (kk (.fI (1+p)) (xG (by lia) (by lia)) trivial)⟩⟩
  refine⟨hb,by lia,by lia,fun bar b0 b1=>⟨hb,by decide,by decide,fun t t0 t1=>⟨by decide,?_⟩⟩⟩
  obtain rfl | rfl:t=0\/t=1:=by lia
  .exact⟨zs,.keep (kk (.found z8 bar ⟨#[111]⟩) (zu WU b0 b1 (.inl rfl)) trivial)⟩
  .exact⟨zs,.keep (kk (.found z8 bar ⟨#[120]⟩) (zu WU b0 b1 (.inr rfl)) trivial)⟩
set_option maxHeartbeats 8000000 in
def HQ (F:ic K "_law_stands" "_law_stands" mn f fd)(T:jx mg)(dZ:jP K ee)(j5:Bu P w K mg dD)(Ea:vL P w K mg dD)(BL:uh P w K mg dD)(O9:G4 P w K mg dD)(BJ:uf P w K mg dD)(Ed:vO P w K mg dD)(FE:Fh P w K mg dD)(BK:ug P w K mg dD)(Ef:vP P w K mg dD)(FG:yC P w K mg dD)(zm:rR P w K mg dD)(qR:ue P w K mg dD):eV P w K mg dD kJ 7 f fd (pA mn) (hV (wI ee dQ)):=by
 refine F.oG j7 (fun ds μ Kd h=>by unfold wI at h;split at h <;> first | rfl | exact h.elim) (fun gr A dW s H E hr=>⟨_,(dN (qS 2 j7.nd (DH (Gy rfl) (sV (m:=false)) (by rfl) T.list br (a1 (fu (dv 1) dJ))))
  (dN (fF (PW.pt (pE (lO (gT (qC j5 hr (a2 (gU Ea dZ.cl hr.le (dv 0)) (fu (dv 1) dJ))))) (lE (lO (gT (qC j5 hr (a2 (gU BL dZ.cl hr.le (dv 0)) (dv 2))))))))
  (dX (eJ rJ))
  fg)
  (dN (qS 3 j7.nd (qC O9 hr (a1 (dv 1))))
  (dN (fF (PW.pt (pE (lO (gT (qC j5 hr (a2 (gU BJ dZ.cl hr.le (dv 0)) (dv 3))))) (lE (lO (gT (qC j5 hr (a2 (gU Ed dZ.cl hr.le (dv 0)) (qC FE hr (a1 (dv 1))))))))))
  (dX (eJ rJ))
  fg)
  (dN (vg bT rfl (jN rfl T.range (a1 (we T (dv 2)))) (qT 4 j7.nd)
  (dN (qS 5 j7.nd (ke (fW hr) (fu (dv 1) dJ) (fu (dv 2) (dv 4)) (fun _ _=>rfl)))
  (dN (qS 6 j7.nd (yw (mK (fu (dv 5) dJ) dY) (qF (dv 5) (iC dJ) qi) Lu))
  (dN (qS 7 j7.nd (uc BK dZ.cl hr.le (dv 0) (a1 (fu (dv 2) (dv 4)))))
  (dN (fF (PW.pt (pE (PW.pt (j6 (Pm (dv 6)) (iJ (xh (dv 7))))) (lE (PW.pt (j6 (xh (dv 6)) (iJ (lO (gT (qC j5 hr (a2 (dv 7) (dv 6)))))))))))
  (dX (eJ rJ))
  fg)
  (dN (fF (lO (gT (qC j5 hr (a2 (gO (a2 (uc Ef dZ.cl hr.le (dv 0) (a1 (fu (dv 2) (dv 4)))) (uc FG dZ.cl hr.le (dv 0) (a1 (fu (dv 2) (dv 4)))))) (fu (dv 3) (dv 4))))))
  (dX (eJ rJ))
  fg)
  (dX (vg bT rfl (jN rfl T.range (a1 (fu (dv 1) dJ))) (qT 8 j7.nd)
  (dX (fF (lO (gT (qC j5 hr (a2 (uc zm dZ.cl hr.le (dv 0) (a2 (fu (dv 2) (dv 4)) (dv 8))) (qC qR hr (a3 (fu (dv 1) dJ) (fu (dv 2) (dv 4)) (dv 8)))))))
  (dX (eJ rJ))
  fg))))))))))
  (dX (eJ rJ))))))),fun ds μ Kd hm hl h=>?_⟩)
 unfold wI at h
 split at h
 .rename_i k x
  obtain⟨⟨m0,em⟩,j1,j2,ss,rs,d,S,ra,es,rfl,kk⟩:=h
  obtain⟨S',wO,wf⟩:=ra.now
  rw[es]at wO
  cases wO
  have kX:=wf.kX
  have n1:=wf.n1
  have n2:=wf.n2
  have eN:(S.dE.map fun p=>eS p.1).map oJ=S.dE.map fun p=>D.str p.1:=aJ
  have ol:(pj S).length<=40:=by
   unfold pj
   refine aE (bM _ _) ?_
   rw[fH,MJ];lia
  have tl:(m9 S).length=S.dE.length:=by unfold m9;rw[fH]
  have rc:∀ nm:Str,m5 nm vh [.mr j1,.mr j2,.int (d:Int)]=none->rK ee nm μ (.mr k):=fun nm hn=>by show(lV _ _ _).map _=_;rw[fM ra.ins];exact bx some hn
  have smN:n6 5 (.lst (S.dE.map fun p=>D.str p.1)):=xp (by rw[fH];lia) fun d hd=>by obtain⟨q,_,rfl⟩:=List.mem_map.mp hd;exact jF
  have smT:n6 5 (uP S):=QW (by lia)
  have smC:n6 5 (GH S):=Nd (by lia)
  refine wQ (d:=.lst (S.dE.map fun p=>D.str p.1)) (μ':=μ) (fun K k=>by rw[<- eN]at k;exact k) ?_
  dsimp only
  refine eM false ?_ (fun q=>by cases q) (fun _=>?_)
  .exact .to (.or (x:=!true) (y:=!true) (.not (x:=true) (.gZ fun K k=>⟨rc _ rfl,j1,j2,ss,rs,d,S,ra,es,_,rfl,rfl,lL,k⟩)) fun _=>.not (x:=true) (.gZ fun K k=>⟨rc _ rfl,j1,j2,ss,rs,d,S,ra,es,_,rfl,rfl,smN,k⟩)) rfl
  refine fw ?_
  refine⟨S,d,rfl,wf,?_⟩
  dsimp only
  refine eM false ?_ (fun q=>by cases q) (fun _=>?_)
  .exact .to (.or (x:=!true) (y:=!true) (.not (x:=true) (.gZ fun K k=>⟨rc _ rfl,j1,j2,ss,rs,d,S,ra,es,_,rfl,rfl,smT,k⟩)) fun _=>.not (x:=true) (.gZ fun K k=>⟨rc _ rfl,j1,j2,ss,rs,d,S,ra,es,S,d,rfl,wf,_,rfl,rfl,smC,k⟩)) rfl
  refine fw ?_
  refine⟨by rw[fH];lia,by rw[fH];lia,?_⟩
  rw[fH,Ow]
  refine kD (fun ds ρ μ'=>∃(a b:Nat) (v4 v5 v6 v7 v8:Option D),ds=lU a b/\a+b=S.dE.length/\ρ=[some (.mr k),some (pf S),some (.lst (S.dE.map fun p=>D.str p.1)),some (uP S),v4,v5,v6,v7,v8]/\μ'=μ) ⟨0,S.dE.length,none,none,none,none,none,rfl,by lia,rfl,rfl⟩ ?_ ?_
  .rintro d' MM ρ μ' ⟨i,b,v4,v5,v6,v7,v8,e1,hib,rfl,zc⟩
   subst zc
   refine⟨trivial,fun nx GF=>?_⟩
   cases b with
   | zero=>cases e1
   | succ b =>
    rw[l6]at e1
    cases e1
    have hi:i<S.dE.length:=by lia
    obtain⟨⟨z,y⟩,hz⟩:∃ p,S.dE[i]?=some p:=⟨_,sP hi⟩
    have e:pJ (S.dE.map fun p=>D.str p.1) (i:Int)=some (.str z):=o3 hz
    have ez:d9 S.dE z=some y:=gY wf.kp.nd (A1 hz)
    have eg:Oe (S.dE.map fun p=>eS p.1) (S.dE.map fun p=>lK p.2) (.str z)=some (some (lK y)):=by rw[ib eE lK z S.dE rfl,ez];rfl
    have gp:yb S z=ny y:=by unfold yb;rw[ez]
    have et:pJ ((m9 S).map kh) (i:Int)=some (kh (gq S.dE z)):=o3 (by unfold m9;rw[vB,hz];rfl)
    refine dH e ⟨_,eg,?_⟩
    dsimp only
    refine wQ (d:=ny y) (μ':=μ') (fun K k=>?_) ?_
    .cases y with
     | fst b a=>exact k
     | jn l r p=>exact⟨(show ¬ (HT.iT 4 0 (some 1)=0/\HT.iT 4 4 none=4) by decide),k⟩
    refine⟨rc _ rfl,dH e ⟨trivial,⟨m0,em⟩,j1,j2,ss,rs,d,S,ra,es,?_⟩⟩
    rw[ez]
    dsimp only
    rw[gp]
    refine eM false ?_ (fun q=>by cases q) (fun _=>?_)
    .cases y with
     | fst b a=>exact .to (.or (x:=true&&false) (y:=false&&false) (.and (x:=true) (y:=false) (.gZ fun K k=>k) fun _=>.gZ fun K k=>k) fun _=>.and (x:=false) (y:=false) (.gZ fun K k=>k) (fun q=>nomatch q)) rfl
     | jn l r p=>exact .to (.or (x:=false&&false) (y:=true&&!true) (.and (x:=false) (y:=false) (.gZ fun K k=>k) (fun q=>nomatch q)) fun _=>.and (x:=true) (y:=!true) (.gZ fun K k=>k) fun _=>.not (x:=true) (.gZ fun K k=>⟨_,rfl,rfl,rT (by show 3<=100000;decide) (fun d hd=>by simp only[bH,bp,cL]at hd;rcases hd with rfl | rfl | rfl;exact jF;exact jF;exact lL),k⟩)) rfl
    refine fw ?_
    dsimp only
    refine eM false ?_ (fun q=>by cases q) (fun _=>?_)
    .refine .to (.not (x:=true) (.gZ fun K k=>?_)) rfl
     refine⟨rc _ rfl,dH e ⟨trivial,⟨m0,em⟩,j1,j2,ss,rs,d,S,ra,es,?_⟩⟩
     rw[ez]
     refine⟨rc _ rfl,dH e ⟨trivial,⟨m0,em⟩,j1,j2,ss,rs,d,S,ra,es,?_⟩⟩
     rw[ez]
     exact⟨zs,dH et ⟨_,rfl,rfl,Pu _,k⟩⟩
    refine fw ?_
    refine⟨by lia,by lia,?_⟩
    refine kD (fun ds ρ fG=>∃(a b:Nat) (v8:Option D),ds=lU a b/\a+b=S.n.toNat/\ρ=[some (.mr k),some (pf S),some (.lst (S.dE.map fun p=>D.str p.1)),some (uP S),some (.int i),some (lK y),some (ny y),some (ny y),v8]/\fG=μ') ⟨0,S.n.toNat,_,rfl,by lia,rfl,rfl⟩ ?_ ?_
    .rintro d' MM ρ fG ⟨a,b',v8',e1,Ov,rfl,zc⟩
     subst zc
     refine⟨trivial,fun nx2 Yj=>?_⟩
     cases b' with
     | zero=>cases e1
     | succ b' =>
      rw[l6]at e1
      cases e1
      refine eM false ?_ (fun q=>by cases q) (fun _=>?_)
      .refine .to (.not (x:=true) (.gZ fun K k=>?_)) rfl
       refine⟨rc _ rfl,dH e ⟨trivial,⟨m0,em⟩,j1,j2,ss,rs,d,S,ra,es,?_⟩⟩
       rw[ez]
       dsimp only
       rw[au (show(0:Int)<=(a:Int)/\(a:Int)<S.n from⟨by lia,by lia⟩)]
       exact dH e ⟨S.dE,y,rfl,wf.kp,ez,_,rfl,rfl,rT (by show 2<=100000;decide) (fun d hd=>by simp only[bH,bp,cL]at hd;rcases hd with rfl | rfl;exact jF;exact lL),k⟩
      exact Yj _ _ ⟨a+1,b',_,by rw[Int.natCast_add];rfl,by lia,rfl,rfl⟩
    .rintro ρ fG ⟨a,b',v8',e1,Ov,rfl,zc⟩
     subst zc
     exact⟨trivial,GF _ _ ⟨i+1,b,_,_,_,_,_,by rw[Int.natCast_add];rfl,by lia,rfl,rfl⟩⟩
  .rintro ρ μ' ⟨i,b,v4,v5,v6,v7,v8,e1,hib,rfl,zc⟩
   subst zc
   exact⟨trivial,.keep kk⟩
 .cases h
def AL (F:ic K "undo" "Room.undo" jf f fd)(T:jx mg)(dZ:jP K ee)(gG:OwnCls "NothingLeft" fk nF "ValueError.__new__" mg dD):eV P w K mg dD (nz P w) 2 f fd (pA jf) (kj (yf ee dQ fk)):=by
 refine F.xQ Aq (fun ds μ Kd Kx h=>E4 h) (fun gr A dW s H E hr fh Kb Z=>⟨_,(dN (fF (mK (eY dZ.cl dZ.kS (dv 0)) dJ)
  (dX (iL Z rfl gG ao (by decide) ao rfl (a1 dY)))
  fg)
  (dN (Nl dZ.cl dZ.kS (dv 0) dJ)
  (dX (eJ (fu (eY dZ.cl dZ.su (dv 0)) (eY dZ.cl dZ.kS (dv 0))))))),fun ds μ m Kd Kx hm hl em h hK=>?_⟩)
 unfold yf at h
 split at h
 .rename_i k
  obtain⟨_,j1,j2,ss,rs,d,ra,kk⟩:=h
  have rg:=ra.gx (m:=.gx fh H)
  have f1:∀ {ν:MS} {n:Int},ν[k]?=some (.ins ee vh [.mr j1,.mr j2,.int n])->lV ee ν k=some (vh,[.mr j1,.mr j2,.int n]):=fun h=>fM h
  obtain⟨lk,la,lb⟩:=rg.lk
  cases d with
  | zero =>
   refine⟨.int ((0:Nat):Int),by rw[f1 rg.ins];rfl,?_⟩
   exact⟨zs,fX hK em kk⟩
  | succ d =>
   have hle:=ra.le
   have hd:d<rs.length:=by lia
   refine⟨.int ((d+1:Nat):Int),by rw[f1 rg.ins];rfl,?_⟩
   refine⟨((d+1:Nat):Int),by rw[f1 rg.ins];rfl,_,_,f1 rg.ins,rfl,by show 3<1000;decide,?_⟩
   have e1:((μ.set 0 (.gx fh H)).set k (.ins ee vh [.mr j1,.mr j2,.int (((d+1:Nat):Int) - 1)]))=jG ee dQ (μ.set 0 (.gx fh H)) k j1 j2 ss rs d:=by
    unfold jG
    rw[set_same rg.l1,set_same rg.l2,show((d+1:Nat):Int) - 1=(d:Int) by lia]
   have rp:fo ee dQ (jG ee dQ (μ.set 0 (.gx fh H)) k j1 j2 ss rs d) k j1 j2 ss rs d:=rg.put ra.len (by lia) ra.wf ra.kX
   have e0:putN (Str.ofString "done") (D.int (((d+1:Nat):Int) - 1)) vh [D.mr j1,D.mr j2,D.int ((d+1:Nat):Int)]=(vh,[D.mr j1,D.mr j2,D.int (((d+1:Nat):Int) - 1)]):=rfl
   dsimp only
   rw[e0]
   dsimp only
   rw[e1]
   refine⟨.mr j2,by rw[f1 rp.ins];rfl,.int d,by rw[f1 rp.ins];rfl,dH (fJ rp.l2) (dH (o3 (sP hd)) (.keep ?_))⟩
   obtain⟨g1,g2⟩:=rh ra (m:=.gx fh H) (ss':=ss) (rs':=rs) (d':=d) em
   exact⟨g2,by rw[g1];exact kk _ (sP hd)⟩
 .cases h
def Kh (F:ic K "_law_kinds" "_law_kinds" oz f fd)(T:jx mg)(TV:mg "ValueError"=none)(jB:OwnCls "BadBars" qM nF "ValueError.__new__" mg dD)(uZ:OwnCls "BadMake" yE nF "ValueError.__new__" mg dD)(qQ:OwnCls "BadNumber" sL nF "ValueError.__new__" mg dD)(uY:OwnCls "BadText" yD nF "ValueError.__new__" mg dD)(mh:OwnCls "BadName" qL nF "ValueError.__new__" mg dD)(nZ:OwnCls "BadAge" wX nF "ValueError.__new__" mg dD)(nY:OwnCls "BadBar" wW nF "ValueError.__new__" mg dD)(k9:OwnCls "BadPlace" rD nF "ValueError.__new__" mg dD)(ma:OwnCls "BadSize" uk nF "ValueError.__new__" mg dD)(rF:OwnCls "Taken" Bv nF "ValueError.__new__" mg dD)(uX:OwnCls "Full" Hd nF "ValueError.__new__" mg dD)(nV:OwnCls "NoTake" wR nF "ValueError.__new__" mg dD)(uW:OwnCls "Shut" Hc nF "ValueError.__new__" mg dD)(nX:OwnCls "Joined" wV nF "ValueError.__new__" mg dD)(nW:OwnCls "Needed" wU nF "ValueError.__new__" mg dD)(gG:OwnCls "NothingLeft" fk nF "ValueError.__new__" mg dD)(BD:Wn "NoWay" Fi mg):Ho P w K mg dD 1 f fd (pA oz) (tZ K kQ jv):=by
 refine F.okH kr (fun ds μ Kd h=>Dn h) (fun gr A dW s H hr fh kx e hk hh=>⟨_,(dN (qS 1 kr.nd (iE false (dP (jt (by rfl) T.isinstance (by rfl) jB.bound (dv 0)) (dP (jt (by rfl) T.isinstance (by rfl) uZ.bound (dv 0)) (dP (jt (by rfl) T.isinstance (by rfl) qQ.bound (dv 0)) (dP (jt (by rfl) T.isinstance (by rfl) uY.bound (dv 0)) fV))))))
  (dN (qS 1 kr.nd (pP (dv 1) (iE false (dP (jt (by rfl) T.isinstance (by rfl) mh.bound (dv 0)) (dP (jt (by rfl) T.isinstance (by rfl) nZ.bound (dv 0)) (dP (jt (by rfl) T.isinstance (by rfl) nY.bound (dv 0)) (dP (jt (by rfl) T.isinstance (by rfl) k9.bound (dv 0)) fV)))))))
  (dN (qS 1 kr.nd (pP (dv 1) (iE false (dP (jt (by rfl) T.isinstance (by rfl) ma.bound (dv 0)) (dP (jt (by rfl) T.isinstance (by rfl) rF.bound (dv 0)) (dP (jt (by rfl) T.isinstance (by rfl) uX.bound (dv 0)) (dP (jt (by rfl) T.isinstance (by rfl) nV.bound (dv 0)) fV)))))))
  (dN (qS 1 kr.nd (pP (dv 1) (iE false (dP (jt (by rfl) T.isinstance (by rfl) uW.bound (dv 0)) (dP (jt (by rfl) T.isinstance (by rfl) nX.bound (dv 0)) (dP (jt (by rfl) T.isinstance (by rfl) nW.bound (dv 0)) (dP (jt (by rfl) T.isinstance (by rfl) gG.bound (dv 0)) fV)))))))
  (dN (qS 1 kr.nd (pP (dv 1) (iE false (a2 (jt (by rfl) T.isinstance (by rfl) BD.bound (dv 0)) (VN (SG (by rfl) T.isinstance (by rfl) TV PyProof.Rows.Boot.«ValueError» (dv 0)))))))
  (dN (qS 2 kr.nd (iE false (dP dY (dP dY (dP dY (dP dY (dP dY (dP dY (dP dY (dP dY (dP dY fV)))))))))))
  (dN (qS 2 kr.nd (pP (dv 2) (iE false (dP dY (dP dY (dP dY (dP dY (dP dY (dP dY (dP dY (dP dY (dP dY fV))))))))))))
  (dX (eJ (OD false (zW (N:=["_law_k", "_law_words", "_law_found"]) (js:=[none,some 2,some 1]) kr (by decide +kernel)) hh (eB 0) (dF 0) rfl (KP (H0:=H) hk rfl T.range (a1 dJ)) (fun _ _ _=>(qN 0 (show List.Nodup (["_law_k", "_law_words", "_law_found"]:List Str) by decide +kernel))) (fun _ _ _=>(uw (gT (fu (dv 2) (dv 0))))) (fun _ _ _=>(fu (dv 1) (dv 0))))))))))))),fun ds μ m Kd hm hl em hc h=>?_⟩)
 unfold tZ at h
 split at h
 .rename_i k
  obtain⟨_,Yq,j,hj,hx,KB,kk⟩:=h
  have BQ:(μ.set 0 (MO.gx fh H))[k]?=some (.exc (.ref (kQ.getD j 0))):=by rw[ak (bj Yq)];exact hx
  refine⟨_,_,BQ,KB.ef,KB.at_ 0 (by decide),_,_,BQ,KB.ef,KB.at_ 1 (by decide),_,_,BQ,KB.ef,KB.at_ 2 (by decide),_,_,BQ,KB.ef,KB.at_ 3 (by decide),zs,?_⟩
  refine⟨_,_,BQ,KB.ef,KB.at_ 4 (by decide),_,_,BQ,KB.ef,KB.at_ 5 (by decide),_,_,BQ,KB.ef,KB.at_ 6 (by decide),_,_,BQ,KB.ef,KB.at_ 7 (by decide),zs,dH rfl (dH rfl ⟨zs,?_⟩)⟩
  refine⟨_,_,BQ,KB.ef,KB.at_ 8 (by decide),_,_,BQ,KB.ef,KB.at_ 9 (by decide),_,_,BQ,KB.ef,KB.at_ 10 (by decide),_,_,BQ,KB.ef,KB.at_ 11 (by decide),zs,dH rfl (dH rfl ⟨zs,?_⟩)⟩
  refine⟨_,_,BQ,KB.ef,KB.at_ 12 (by decide),_,_,BQ,KB.ef,KB.at_ 13 (by decide),_,_,BQ,KB.ef,KB.at_ 14 (by decide),_,_,BQ,KB.ef,KB.at_ 15 (by decide),zs,dH rfl (dH rfl ⟨zs,?_⟩)⟩
  refine⟨_,_,BQ,KB.ef,KB.at_ 16 (by decide),_,_,BQ,KB.ef,KB.kv,zs,dH rfl (dH rfl ⟨zs,?_⟩)⟩
  refine⟨zs,zs,dH rfl (dH rfl ⟨zs,?_⟩)⟩
  refine⟨by decide,by decide,zs,?_⟩
  refine DM hj hc (fun i K' hi h1 h2 k1 k2=>?_) (.keep (kc em kk))
  rw[Int.zero_add]
  refine dH (v:=D.bl (decide (i=j))) (lZ h1) ?_
  show(if decide (i=j)=true then _ else _)
  by_cases q:i=j
  .rw[au (ar q)]
   refine dH (v:=D.str (ng.getD i "")) (lZ ?_) (k1 q)
   have:=bx (Option.map D.str) h2
   rw[<- vB]at this
   exact this
  .rw[aq (by simpa using q)]
   exact k2 q
 .cases h
def Kg (F:ic K "_law_named" "_law_named" oy f fd)(T:jx mg)  : eV P w K mg dD kJ 1 f fd (pA oy) (hV wM):=by
 refine F.oG B8 (fun ds μ Kd h=>by unfold wM at h;split at h <;> first | rfl | exact h.elim) (fun gr A dW s H E hr=>⟨_,(dX (eJ (GX (vD XY uA dJ (we T (dv 0)) (ir _)) (GX (vD XY uA (we T (dv 0)) dJ (ir _)) (Ls (rQ (SX rfl) Ai (by rfl) T.all PyProof.Rows.boot_all (a1 (GZ false (zW (N:=["_law_sign"]) (js:=[none]) B8 (by decide +kernel)) (KO (dv 0)) (fun _ _ _ nd=>(qN 0 nd)) (fun _ _ _=>kq) (fun _ _ _=>(vD X4 Pr (dv 0) dY (by with_unfolding_all rfl))))))))))),fun ds μ Kd hm hl h=>?_⟩)
 unfold wM at h
 split at h
 .rename_i z
  obtain⟨hz,kk⟩:=h
  have sl:z.length<=sizeLine:=sz (by lia)
  refine⟨sl,nN (c:=(1:Int)<=((z.length:Nat):Int)) (fun q1=>⟨sl,nN (c:=((z.length:Nat):Int)<=8) (fun q2=>?_) (fun q2=>?_)⟩) (fun q1=>?_)⟩
  .refine⟨by rw[fH];exact sl,?_⟩
   refine rC trivial (fun c:Nat=>D.str ⟨#[c]⟩) (fun c=>D.bl (decide (97<=c)&&decide (c<=122))) (fun c _ K' k'=>⟨c,rfl,?_⟩) ?_
   .show K' (some (D.bl (false != decide (c∈Ta.cps.toList)))) μ
    rw[O2,Bool.false_bne];exact k'
   .refine⟨z.cps.toList.map fun c=>decide (97<=c)&&decide (c<=122),by rw[aJ];rfl,?_⟩
    have eb:((z.cps.toList.map fun c=>decide (97<=c)&&decide (c<=122)).all id)=gB z:=by rw[CD (by lia) (by lia),List.all_map];rfl
    show Fz _ Kd (.bl (List.all _ id)) μ
    rw[eb]
    exact .keep kk
  .have:gB z=false:=by unfold gB;rw[az (show ¬ z.length<=8 by lia),cY];rfl
   rw[this]at kk
   exact .keep kk
  .have:gB z=false:=by unfold gB;rw[az (show ¬ 1<=z.length by lia)];rfl
   rw[this]at kk
   exact .keep kk
 .cases h
def Cu (F:ic K "_law_new_word" "_law_new_word" jW f fd)(T:jx mg)(Pb:G7 P w K mg dD):eV P w K mg dD kJ 2 f fd (pA jW) (hV tX):=by
 refine F.oG B7 (fun ds μ Kd h=>by unfold tX at h;split at h <;> first | rfl | exact h.elim) (fun gr A dW s H E hr=>⟨_,(dN (fF (lO (gT (qC Pb hr (a1 (dv 1)))))
  (dX (eJ dY))
  fg)
  (dN (fF (BZ (fW hr) (dv 1) (fu (dv 0) dJ) (by with_unfolding_all rfl))
  (dX (eJ dY))
  fg)
  (dX (eJ (yw (UI (rQ U1 FV (by rfl) T.len cW (a1 (fu (dv 0) dJ))) dJ) dY dY))))),fun ds μ Kd hm hl h=>?_⟩)
 unfold tX at h
 split at h
 .rename_i x z
  obtain⟨hz,S,m,rfl,wf,kk⟩:=h
  unfold jL at kk
  refine eM (!gB z) (.not (.gZ fun K k=>⟨hz,k⟩)) (fun q=>?_) (fun q=>?_)
  .rw[au (by simpa using q)]at kk;exact .keep kk
  rw[aq (by simpa using q)]at kk
  refine fw ?_
  dsimp only
  refine eM (false != (d9 S.dE z).isSome) (.gZ fun K k=>dH rfl ⟨_,ib eE lK z S.dE rfl,by rw[bE];exact k⟩) (fun q=>?_) (fun q=>?_)
  .rw[au (by unfold gR;simpa using q)]at kk;exact .keep kk
  rw[aq (by unfold gR;simpa using q)]at kk
  refine fw ?_
  dsimp only
  refine rA (decide ((20:Int)<=((S.dE.map fun p=>eS p.1).length:Nat))) (.gZ fun K k=>dH rfl (dH rfl k)) (fun q=>?_) (fun q=>?_)
  .have q:=cU q;rw[fH]at q;rw[au (by lia)]at kk;exact .keep kk
  .have q:=of_decide_eq_false q;rw[fH]at q;rw[aq (by lia)]at kk;exact .keep kk
 .cases h
def y3 (F:ic K "_law_place_word" "_law_place_word" iM f fd)(T:jx mg)  : eV P w K mg dD kJ 1 f fd (pA iM) (hV oS):=by
 refine F.oG yV (fun ds μ Kd h=>by unfold oS at h;split at h <;> first | rfl | exact h.elim) (fun gr A dW s H E hr=>⟨_,(dX (eJ (yw (PW.pt (j6 (UH dJ (dv 1)) (iJ (Gh (dv 1) (fu (dv 0) dJ))))) dY dY))),fun ds μ Kd hm hl h=>?_⟩)
 unfold oS at h
 split at h
 .rename_i x p
  obtain⟨S,rfl,kk⟩:=h
  unfold gu at kk
  refine rA (decide (1<=p)&&decide (p<S.n)) (.and (.gZ fun K k=>k) fun _=>.gZ fun K k=>dH rfl k) (fun q=>?_) (fun q=>?_)
  .rw[au (by simpa using q)]at kk;exact .keep kk
  .rw[aq (by simpa using q)]at kk;exact .keep kk
 .cases h
def Ct (F:ic K "_law_put_word" "_law_put_word" jV f fd)(T:jx mg)(sN:sJ P w K mg dD):eV P w K mg dD kJ 3 f fd (pA jV) (hV (jH w0)):=by
 refine F.oG p8 (fun ds μ Kd h=>by unfold jH at h;split at h <;> first | rfl | exact h.elim) (fun gr A dW s H E hr=>⟨_,(dN (qS 2 p8.nd (qC sN hr (a2 (dv 0) (fu (dv 1) dJ))))
  (dN (fF (Nt (dv 2) dY)
  (dX (eJ (dv 2)))
  fg)
  (dN (fF (PW.pt (pE (Nt (we T (fu (dv 1) dJ)) (fu (dv 0) dJ)) (lE (gT (rQ (anyC rfl) Ai (by rfl) T.any PyProof.Rows.boot_any (a1 (GZ false (zW (N:=["_law_sign"]) (js:=[none]) p8 (by decide +kernel)) (KO (fu (dv 1) dJ)) (fun _ _ _ nd=>(qN 0 nd)) (fun _ _ _=>kq) (fun _ _ _=>(vD RK Pr (dv 0) dY (by with_unfolding_all rfl))))))))))
  (dX (eJ dY))
  fg)
  (dX (eJ (yw (PW.pt (j6 (UH dJ (fu (dv 1) dJ)) (iJ (UH (fu (dv 1) dJ) dJ)))) dY dY)))))),fun ds μ Kd hm hl h=>?_⟩)
 unfold jH at h
 split at h
 .rename_i x y
  obtain⟨S,m,d,rfl,rfl,hw,wf,fc,kk⟩:=h
  cases d <;> try cases hw
  rename_i nm b a
  obtain⟨k1,k2⟩:nm.length<=1000/\b.length<=1000:=fc
  have kk:Kd (.str (kn ((jL S nm).or (if((b.length:Nat):Int)=S.n/\BO b=true then kL a else some 0)))) μ:=kk
  refine dH rfl ⟨k1,S,m,rfl,wf,?_⟩
  have wn:=sQ (o:=jL S nm) fun i e=>Gx e
  dsimp only
  refine eM (true != decide (kn (jL S nm)=("" : Str))) (.gZ fun K k=>k) (fun q=>?_) (fun q=>?_)
  .rw[wn]at q
   cases e:jL S nm with
   | none=>rw[e]at q;cases q
   | some i=>rw[e]at kk;exact .keep kk
  rw[wn]at q
  cases e:jL S nm with
  | some i=>rw[e]at q;cases q
  | none =>
  rw[e]at kk
  have kk:Kd (.str (kn (if((b.length:Nat):Int)=S.n/\BO b=true then kL a else some 0))) μ:=kk
  refine fw ?_
  dsimp only
  refine eM ((true != decide (((b.length:Nat):Int)=S.n))||((b.cps.toList.map fun c=>!(decide (c=111)||decide (c=120))).any id)) (.or (.gZ fun K k=>dH rfl ⟨sz (by lia),dH rfl k⟩) fun _=>.gZ fun K k=>dH rfl ⟨by rw[fH];exact sz (by show b.length<=_;lia),rC trivial (fun c:Nat=>D.str ⟨#[c]⟩) (fun c=>D.bl (!(decide (c=111)||decide (c=120)))) (fun c _ K' k'=>⟨c,rfl,?_⟩) ⟨_,by rw[aJ];rfl,k⟩⟩) (fun q=>?_) (fun q=>?_)
  .rw[Rx];exact(Bool.true_bne _)▸k'
  .have:¬ (((b.length:Nat):Int)=S.n/\BO b=true):=by
    rintro⟨z1,z2⟩
    rw[ar z1,J1,z2]at q
    cases q
   rw[aq this]at kk
   exact .keep kk
  .rw[J1]at q
   have:((b.length:Nat):Int)=S.n/\BO b=true:=by simpa using q
   rw[au this]at kk
   unfold kL at kk
   refine fw ?_
   dsimp only
   refine rA (decide (0<=a)&&decide (a<=20)) (.and (.gZ fun K k=>dH rfl k) fun _=>.gZ fun K k=>dH rfl k) (fun q=>?_) (fun q=>?_)
   .rw[au (by simpa using q)]at kk;exact .keep kk
   .rw[aq (by simpa using q)]at kk;exact .keep kk
 .cases h
def AH (F:ic K "_law_join_word" "_law_join_word" jb f fd)(T:jx mg)(sN:sJ P w K mg dD)(pd:oY P w K mg dD):eV P w K mg dD kJ 3 f fd (pA jb) (hV (jH w1)):=by
 refine F.oG sZ (fun ds μ Kd h=>by unfold jH at h;split at h <;> first | rfl | exact h.elim) (fun gr A dW s H E hr=>⟨_,(dN (qS 2 sZ.nd (qC sN hr (a2 (dv 0) (fu (dv 1) dJ))))
  (dN (fF (Nt (dv 2) dY)
  (dX (eJ (dv 2)))
  fg)
  (dN (fF (PW.pt (pE (lF (fW hr) (fu (dv 1) dJ) (fu (dv 0) dJ) (by with_unfolding_all rfl)) (lE (lF (fW hr) (fu (dv 1) dJ) (fu (dv 0) dJ) (by with_unfolding_all rfl)))))
  (dX (eJ dY))
  fg)
  (dN (fF (Nt (qC pd hr (a2 (dv 0) (fu (dv 1) dJ))) dY)
  (dX (eJ dY))
  fg)
  (dX (eJ (yw (BZ (fW hr) (fu (dv 1) dJ) (fu (dv 0) dJ) (by with_unfolding_all rfl)) dY dY))))))),fun ds μ Kd hm hl h=>?_⟩)
 unfold jH at h
 split at h
 .rename_i x y
  obtain⟨S,m,d,rfl,rfl,hw,wf,fc,kk⟩:=h
  cases d <;> try cases hw
  rename_i nm l r p
  have k1:nm.length<=1000:=fc
  have kk:Kd (.str (kn ((jL S nm).or (if gR S l=false then some 11 else if gR S r=false then some 11 else(gu S p).or (if(d9 S.fI p).isSome=true then some 12 else none))))) μ:=kk
  refine dH rfl ⟨k1,S,m,rfl,wf,?_⟩
  have wn:=sQ (o:=jL S nm) fun i e=>Gx e
  dsimp only
  refine eM (true != decide (kn (jL S nm)=("" : Str))) (.gZ fun K k=>k) (fun q=>?_) (fun q=>?_)
  .rw[wn]at q
   cases e:jL S nm with
   | none=>rw[e]at q;cases q
   | some i=>rw[e]at kk;exact .keep kk
  rw[wn]at q
  cases e:jL S nm with
  | some i=>rw[e]at q;cases q
  | none =>
  rw[e]at kk
  have kk:Kd (.str (kn (if gR S l=false then some 11 else if gR S r=false then some 11 else(gu S p).or (if(d9 S.fI p).isSome=true then some 12 else none)))) μ:=kk
  unfold gR at kk
  refine fw ?_
  dsimp only
  refine eM ((true != (d9 S.dE l).isSome)||(true != (d9 S.dE r).isSome)) (.or (.gZ fun K k=>dH rfl (dH rfl ⟨_,ib eE lK l S.dE rfl,by rw[bE];exact k⟩)) fun _=>.gZ fun K k=>dH rfl (dH rfl ⟨_,ib eE lK r S.dE rfl,by rw[bE];exact k⟩)) (fun q=>?_) (fun q=>?_)
  .cases el:(d9 S.dE l).isSome with
   | false=>rw[el,au rfl]at kk;exact .keep kk
   | true =>
    rw[el,aq (by decide)]at kk
    cases er:(d9 S.dE r).isSome with
    | false=>rw[er,au rfl]at kk;exact .keep kk
    | true=>rw[el,er]at q;cases q
  .obtain⟨el,er⟩:(d9 S.dE l).isSome=true/\(d9 S.dE r).isSome=true:=by simpa using q
   rw[el,aq (by decide),er,aq (by decide)]at kk
   refine fw ?_
   dsimp only
   have pn:=sQ (o:=gu S p) fun i e=>by unfold gu at e;split at e <;> cases e;decide
   refine eM (true != decide (kn (gu S p)=("" : Str))) (.gZ fun K k=>dH rfl ⟨S,rfl,k⟩) (fun q=>?_) (fun q=>?_)
   .rw[pn]at q
    unfold gu at q kk
    split at q
    .cases q
    .rename_i q2;rw[aq q2]at kk;exact .keep kk
   .rw[pn]at q
    unfold gu at q kk
    split at q
    .rename_i q2
     rw[au q2]at kk
     have kk:Kd (.str (kn (if(d9 S.fI p).isSome=true then some 12 else none))) μ:=kk
     refine fw ?_
     dsimp only
     refine rA (false != (d9 S.fI p).isSome) (.gZ fun K k=>dH rfl (dH rfl ⟨_,ib jq (fun _=>D.bl true) p S.fI rfl,by rw[bE];exact k⟩)) (fun q=>?_) (fun q=>?_)
     .rw[au (by simpa using q)]at kk;exact .keep kk
     .rw[aq (by simpa using q)]at kk;exact .keep kk
    .cases q
 .cases h
def AG (F:ic K "_law_take_word" "_law_take_word" ja f fd)(T:jx mg)  : eV P w K mg dD kJ 1 f fd (pA ja) (hV (jH w24)):=by
 refine F.oG om (fun ds μ Kd h=>by unfold jH at h;split at h <;> first | rfl | exact h.elim) (fun gr A dW s H E hr=>⟨_,(dN (fF (lF (fW hr) (fu (dv 1) dJ) (fu (dv 0) dJ) (by with_unfolding_all rfl))
  (dX (eJ dY))
  fg)
  (dN (qS 2 om.nd (ke (fW hr) (fu (dv 0) dJ) (fu (dv 1) dJ) (fun _ _=>rfl)))
  (dN (fF (mK (fu (dv 1) dJ) dY)
  (dN (fF (PW.pt (pE (Gh (fu (dv 1) dJ) dJ) (lE (UI (fu (dv 1) dJ) (fu (dv 0) dJ)))))
  (dX (eJ dY))
  fg)
  (dX (eJ (yw (PW.pt (pE (mK (fu (dv 1) dJ) dY) (lE (mK (fu (dv 1) dJ) dY)))) dY dY))))
  fg)
  (dN (fF (mK (fu (dv 1) dJ) dY)
  (dN (fF (mK (fu (dv 2) dJ) dY)
  (dX (eJ dY))
  fg)
  (dX (eJ (yw (PW.pt (j6 (UH dJ (fu (dv 1) dJ)) (iJ (UH (fu (dv 1) dJ) dJ)))) dY dY))))
  fg)
  (dN (vg bT rfl (uM (fu (dv 0) dJ)) (qT 3 om.nd)
  (dX (fF (PW.pt (j6 (mK (fu (dv 3) dJ) dY) (iJ (oU X4 JA (fu (dv 1) dJ) (qF (dv 3) (iC dJ) (iC dJ)) (by with_unfolding_all rfl)))))
  (dX (eJ dY))
  fg)))
  (dX (eJ dY))))))),fun ds μ Kd hm hl h=>?_⟩)
 unfold jH at h
 split at h
 .rename_i x y
  obtain⟨S,m,d,rfl,rfl,hw,wf,fc,kk⟩:=h
  have eT:∀ c:Str,(false != decide (c=c))=true:=fun c=>by rw[ar rfl];rfl
  cases d <;> try cases hw
  .rename_i nm bar sg
   have kk:Kd (.str (kn (if gR S nm=false then some 11 else if 0<=bar/\bar<S.n then(if sg = "o"\/sg = "x" then none else some 0)else some 6))) μ:=kk
   unfold gR at kk
   refine eM (true != (d9 S.dE nm).isSome) (.gZ fun K k=>dH rfl (dH rfl ⟨_,ib eE lK nm S.dE rfl,by rw[bE];exact k⟩)) (fun q=>?_) (fun q=>?_)
   .rw[au (by simpa using q)]at kk;exact .keep kk
   obtain⟨y,ey⟩:=Option.isSome_iff_exists.mp (show(d9 S.dE nm).isSome=true by simpa using q)
   refine fw ?_
   dsimp only
   refine dH rfl (dH rfl ⟨_,by rw[ib eE lK nm S.dE rfl,ey];rfl,?_⟩)
   dsimp only
   rw[ey,aq (by exact fun z=>nomatch z)]at kk
   refine eM true (.gZ fun K k=>dH rfl k) (fun _=>?_) (fun q=>by cases q)
   refine eM (decide (bar<0)||decide (S.n<=bar)) (.or (.gZ fun K k=>dH rfl k) fun _=>.gZ fun K k=>dH rfl (dH rfl k)) (fun q=>?_) (fun q=>?_)
   .rw[aq (by have w:bar<0\/S.n<=bar:=(by simpa using q);lia)]at kk
    exact .keep kk
   .rw[au (by have w:¬ bar<0/\¬ S.n<=bar:=(by simpa using q);lia)]at kk
    refine fw ?_
    dsimp only
    refine rA ((false != decide (sg = "o"))||(false != decide (sg = "x"))) (.or (.gZ fun K k=>dH rfl k) fun _=>.gZ fun K k=>dH rfl k) (fun q=>?_) (fun q=>?_)
    .rw[au (by simpa using q)]at kk;exact .keep kk
    .rw[aq (by simpa using q)]at kk;exact .keep kk
  .rename_i nm a
   have kk:Kd (.str (kn (match d9 S.dE nm with | none=>some 11 | some (.jn _ _ _)=>some 13 | some (.fst _ _)=>kL a))) μ:=kk
   refine eM (true != (d9 S.dE nm).isSome) (.gZ fun K k=>dH rfl (dH rfl ⟨_,ib eE lK nm S.dE rfl,by rw[bE];exact k⟩)) (fun q=>?_) (fun q=>?_)
   .rw[show d9 S.dE nm=none by simpa using q]at kk;exact .keep kk
   obtain⟨y,ey⟩:=Option.isSome_iff_exists.mp (show(d9 S.dE nm).isSome=true by simpa using q)
   refine fw ?_
   dsimp only
   refine dH rfl (dH rfl ⟨_,by rw[ib eE lK nm S.dE rfl,ey];rfl,?_⟩)
   dsimp only
   rw[ey]at kk
   refine eM false (.gZ fun K k=>dH rfl k) (fun q=>by cases q) (fun _=>?_)
   refine fw ?_
   dsimp only
   refine eM true (.gZ fun K k=>dH rfl k) (fun _=>?_) (fun q=>by cases q)
   cases y with
   | jn l r p =>
    refine eM true (.gZ fun K k=>dH rfl k) (fun _=>?_) (fun q=>by cases q)
    exact .keep kk
   | fst b a0 =>
    refine eM false (.gZ fun K k=>dH rfl k) (fun q=>by cases q) (fun _=>?_)
    refine fw ?_
    dsimp only at kk ⊢
    unfold kL at kk
    refine rA (decide (0<=a)&&decide (a<=20)) (.and (.gZ fun K k=>dH rfl k) fun _=>.gZ fun K k=>dH rfl k) (fun q=>?_) (fun q=>?_)
    .rw[au (by simpa using q)]at kk;exact .keep kk
    .rw[aq (by simpa using q)]at kk;exact .keep kk
  .rename_i nm
   have kk:Kd (.str (kn (if gR S nm=false then some 11 else if lP S nm=true then some 14 else none))) μ:=kk
   unfold gR at kk
   refine eM (true != (d9 S.dE nm).isSome) (.gZ fun K k=>dH rfl (dH rfl ⟨_,ib eE lK nm S.dE rfl,by rw[bE];exact k⟩)) (fun q=>?_) (fun q=>?_)
   .rw[au (by simpa using q)]at kk;exact .keep kk
   obtain⟨y,ey⟩:=Option.isSome_iff_exists.mp (show(d9 S.dE nm).isSome=true by simpa using q)
   refine fw ?_
   dsimp only
   refine dH rfl (dH rfl ⟨_,by rw[ib eE lK nm S.dE rfl,ey];rfl,?_⟩)
   dsimp only
   rw[ey,aq (by exact fun z=>nomatch z)]at kk
   refine eM false (.gZ fun K k=>dH rfl k) (fun q=>by cases q) (fun _=>?_)
   refine fw ?_
   dsimp only
   refine eM false (.gZ fun K k=>dH rfl k) (fun q=>by cases q) (fun _=>?_)
   refine fw ?_
   dsimp only
   refine dH rfl fun _=>?_
   refine kD (fun ds ρ μ'=>∃(pre post:List (Str×Pt)) (v3:Option D),S.dE=pre++post/\ds=post.map (fun p=>lK p.2)/\(pre.any fun p=>hJ nm p.2)=false/\ρ=[some (pf S),some (kZ (.drop nm)),some (lK y),v3]/\μ'=μ) ⟨[],S.dE,none,rfl,rfl,rfl,rfl,rfl⟩ ?_ ?_
   .rintro d MM ρ μ' ⟨pre,post,v3,hs,e1,ha,rfl,rfl⟩
    refine⟨trivial,fun nx GF=>?_⟩
    cases post with
    | nil=>cases e1
    | cons p post =>
     obtain⟨z,u⟩:=p
     cases e1
     have nE:lP S nm=(hJ nm u||post.any fun p=>hJ nm p.2):=by unfold lP;rw[hs,List.any_append,bz,ha,Bool.false_or]
     have next:hJ nm u=false->nx [some (pf S),some (kZ (.drop nm)),some (lK y),some (lK u)] μ':=fun q=>GF _ _ ⟨pre++[(z,u)],post,_,by rw[hs,aQ];rfl,rfl,by rw[List.any_append,ha,bz,q];rfl,rfl,rfl⟩
     dsimp only
     cases u with
     | fst b a =>
      refine eM false (fun K k=>dH rfl k) (fun q=>by cases q) (fun _=>?_)
      exact next rfl
     | jn l r p =>
      have eb:(false != ([D.str l,D.str r].any fun d=>IV d (.str nm)))=hJ nm (.jn l r p):=by
       rw[TY]
       simp only[bz,List.any_nil,IV,Bool.or_false]
       rfl
      refine eM (true&&hJ nm (.jn l r p)) (.and (.gZ fun K k=>dH rfl k) fun _=>.gZ fun K k=>dH rfl ⟨fun y=>absurd y.1 (show ¬ (1:Nat)=0 by decide),rfl,rfl,?_⟩) (fun q=>?_) (fun q=>?_)
      .show K (.bl (false != ([D.str l,D.str r].any fun d=>IV d (.str nm)))) _
       rw[eb];exact k
      .rw[Bool.true_and]at q
       rw[nE,q,Bool.true_or,au rfl]at kk
       exact .keep kk
      .rw[Bool.true_and]at q
       exact next q
   .rintro ρ μ' ⟨pre,post,v3,hs,e1,ha,rfl,rfl⟩
    cases post with
    | cons p post=>cases e1
    | nil =>
     rw[aV]at hs
     rw[<- hs]at ha
     have:lP S nm=false:=ha
     rw[this,aq (by decide)]at kk
     exact⟨trivial,.keep kk⟩
 .cases h
def NM (F:ic K "_law_word" "_law_word" rV f fd)(T:jx mg)(FD:yA P w K mg dD)(D8:vI P w K mg dD)(pd:oY P w K mg dD)(D7:vH P w K mg dD):eV P w K mg dD kJ 4 f fd (pA rV) (hV (jH T8)):=by
 refine F.oG Ni (fun ds μ Kd h=>by unfold jH at h;split at h <;> first | rfl | exact h.elim) (fun gr A dW s H E hr=>⟨_,(dN (fF (mK (fu (dv 1) dJ) dY)
  (dX (eJ (qC FD hr (a2 (dv 0) (dv 1)))))
  fg)
  (dN (fF (mK (fu (dv 1) dJ) dY)
  (dX (eJ (qC D8 hr (a2 (dv 0) (dv 1)))))
  fg)
  (dN (fF (PW.pt (pE (mK (fu (dv 1) dJ) dY) (lE (mK (fu (dv 1) dJ) dY))))
  (dX (eJ (qC pd hr (a2 (dv 0) (fu (dv 1) dJ)))))
  fg)
  (dX (eJ (qC D7 hr (a2 (dv 0) (dv 1)))))))),fun ds μ Kd hm hl h=>?_⟩)
 unfold jH at h
 split at h
 .rename_i x y
  obtain⟨S,m,d,rfl,rfl,hw,wf,fc,kk⟩:=h
  cases d with
  | put nm b a=>exact dH rfl ⟨S,m,.put nm b a,rfl,rfl,rfl,wf,fc,.keep kk⟩
  | join nm l r p=>exact dH rfl (dH rfl ⟨S,m,.join nm l r p,rfl,rfl,rfl,wf,fc,.keep kk⟩)
  | found nm bar sg=>exact dH rfl (dH rfl (dH rfl (dH rfl ⟨S,m,.found nm bar sg,rfl,rfl,rfl,wf,fc,.keep kk⟩)))
  | mQ nm a=>exact dH rfl (dH rfl (dH rfl (dH rfl ⟨S,m,.mQ nm a,rfl,rfl,rfl,wf,fc,.keep kk⟩)))
  | drop nm=>exact dH rfl (dH rfl (dH rfl (dH rfl ⟨S,m,.drop nm,rfl,rfl,rfl,wf,fc,.keep kk⟩)))
  | free p=>exact dH rfl (dH rfl (dH rfl (dH rfl ⟨S,rfl,.keep kk⟩)))
  | fI p=>exact dH rfl (dH rfl (dH rfl (dH rfl (dH rfl ⟨S,rfl,.keep kk⟩))))
 .cases h
def Cv (F:ic K "_law_any_name" "_law_any_name" jX f fd)(T:jx mg)(eX:nj P w K mg dD):eV P w K mg dD kJ 2 f fd (pA jX) (hV ua):=by
 refine F.oG u9 (fun ds μ Kd h=>by unfold ua at h;split at h <;> first | rfl | exact h.elim) (fun gr A dW s H E hr=>⟨_,(dN (qS 3 u9.nd (pP (pP (dv 2) (DH (Gy rfl) (sV (m:=false)) (by rfl) T.list br (a1 (fu (dv 1) dJ)))) (iE false (dP dY (dP dY (dP dY (dP dY (dP dY (dP (pP (fu (dv 2) dJ) dY) fV)))))))))
  (dX (eJ (fu (dv 3) (qC eX hr (a2 (dv 0) (we T (dv 3)))))))),fun ds μ Kd hm hl h=>?_⟩)
 unfold ua at h
 split at h
 .rename_i k x y
  obtain⟨hb,S,m,fA,rfl,rfl,wf,⟨p1,p2,p3⟩,kk⟩:=h
  have kX:=wf.kX
  obtain⟨z0,r,rfl⟩:∃ z0 r,fA=z0::r:=by
   cases fA with
   | nil=>exact absurd p1 (by decide)
   | cons a b=>exact⟨a,b,rfl⟩
  have z0l:z0.length<=8:=N4 (p3 z0 aH)
  obtain⟨L,hL⟩:∃ L:List Str,L=((z0::r)++S.dE.map (·.1))++([("" : Str),("Zoe" : Str),("a b" : Str),("abcdefghi" : Str),("q1" : Str),z0++WD]:List Str):=⟨_,rfl⟩
  have ll:L.length<=76/\6<=L.length:=by
   rw[hL,j3,j3,fH]
   show(z0::r).length+S.dE.length+6<=76/\6<=(z0::r).length+S.dE.length+6
   lia
  have six:∀ z∈(["", "Zoe", "a b", "abcdefghi", "q1"]:List Str),z.length<=100:=by decide +kernel
  have lok:∀ z∈L,z.length<=100:=fun z hz=>by
   rw[hL]at hz
   rcases List.mem_append.mp hz with hz | hz
   .rcases List.mem_append.mp hz with hz | hz
    .exact nM (p3 z hz)
    .obtain⟨p,hp,rfl⟩:=List.mem_map.mp hz
     exact nM (wf.PU p hp)
   .rcases List.mem_append.mp (show z∈(["", "Zoe", "a b", "abcdefghi", "q1"]:List Str)++[z0++WD]from hz)with hz | hz
    .exact six z hz
    .rw[List.mem_singleton.mp hz,Nb];lia
  have eL:(((z0::r).map D.str)++((S.dE.map fun p=>eS p.1).map oJ))++[D.str "",D.str "Zoe",D.str "a b",D.str "abcdefghi",D.str "q1",D.str (z0++WD)]=L.map D.str:=by
   rw[hL,aF,aF,aJ,aJ];rfl
  refine wQ (d:=.lst (L.map D.str)) (μ':=μ) (fun K k=>?_) ?_
  .rw[<- eL]at k
   refine dH rfl (dH rfl (dH rfl (dH rfl ⟨sz (by rw[fH,fH,fH];show(z0::r).length+_<=_;lia),?_⟩)))
   refine dH (v:=D.str z0) (show pJ (D.str z0::r.map D.str) 0=_ from lZ (j:=0) rfl) ⟨aE (show z0.length+1<=9 by lia) (sz (by decide)),zs,dH rfl (dH rfl ⟨sz (by rw[j3,fH,fH,fH];show(z0::r).length+S.dE.length+6<=_;lia),k⟩)⟩
  .refine⟨hb,by rw[fH];lia,by rw[fH];lia,fun i i0 i1=>?_⟩
   obtain⟨z,hz,e⟩:=kI (g:=D.str) (xs:=L) i0 (by rw[fH]at i1;exact i1)
   exact dH e (.keep (kk z (lok z hz)))
 .cases h
def AK (F:ic K "_law_bent_deed" "_law_bent_deed" je f fd)(T:jx mg)(eX:nj P w K mg dD)(FF:yB P w K mg dD):eV P w K mg dD kJ 3 f fd (pA je) (hV A7):=by
 refine F.oG jy (fun ds μ Kd h=>by unfold A7 at h;split at h <;> first | rfl | exact h.elim) (fun gr A dW s H E hr=>⟨_,(dN (fF (PW.pt (pE (mK (fu (dv 3) dJ) dY) (lE (mK (fu (dv 3) dJ) dY))))
  (dX (eJ (gO (a2 (fu (dv 3) dJ) (fu (iE false (dP dJ (dP (rP dJ) (dP (fu (dv 1) dJ) (dP (pP (fu (dv 1) dJ) dJ) (dP (ub powC B5 dJ dJ) (dP dJ fV))))))) (qC eX hr (a2 (dv 0) dJ)))))))
  fg)
  (dN (qS 4 jy.nd (pP dJ (qC eX hr (a2 (dv 0) (OH (we T (dv 3)) dJ)))))
  (vQ (fF (PW.pt (j6 (mK (fu (dv 3) dJ) dY) (iJ (mK (dv 4) dJ))))
  (dX (qS 5 jy.nd (fu (iE false (dP (pP (fu (dv 3) dJ) dY) (dP (jz false (fu (dv 3) dJ) (iC dJ) qi) (dP (pP (jz false (fu (dv 3) dJ) (iC dJ) qi) dY) (dP dY (dP (pP (jz false (fu (dv 3) dJ) qi (iC (rP dJ))) dY) fV)))))) (qC eX hr (a2 (dv 0) dJ)))))
  (dX (fF (PW.pt (j6 (mK (fu (dv 3) dJ) dY) (iJ (mK (dv 4) dJ))))
  (dX (qS 5 jy.nd (fu (iE false (dP dY (dP dY (dP dY (dP dY (dP dY fV)))))) (qC eX hr (a2 (dv 0) dJ)))))
  (dX (fF (PW.pt (pE (mK (dv 4) dJ) (lE (PW.pt (j6 (mK (fu (dv 3) dJ) dY) (iJ (Gh (dv 4) dJ)))))))
  (dX (qS 5 jy.nd (qC FF hr (a3 (dv 0) (dv 1) (dv 2)))))
  (dX (qS 5 jy.nd (fu (iE false (dP (rP dJ) (dP dJ (dP (fu (dv 1) dJ) (dP (ub powC B5 dJ dJ) (dP dJ (dP dJ (dP (OH (fu (dv 1) dJ) dJ) (dP (rP (ub powC B5 dJ dJ)) fV))))))))) (qC eX hr (a2 (dv 0) dJ))))))))))
  (dX (eJ (ub Gu FW (ub Gu FW (qF (dv 3) qi (iC (dv 4))) (gO (a1 (dv 5)))) (qF (dv 3) (iC (pP (dv 4) dJ)) qi))))))),fun ds μ Kd hm hl h=>?_⟩)
 unfold A7 at h
 split at h
 .rename_i k x y z
  obtain⟨hb,S,m,fA,d,n,rfl,rfl,rfl,wf,hp,hd,hn,kk⟩:=h
  rw[Qt d]
  obtain⟨rest,Vi⟩:∃ rest,pZ d=D.str (iW d)::rest:=by cases d <;> exact⟨_,rfl⟩
  have SW:pJ (pZ d) 0=some (D.str (iW d)):=by rw[Vi];exact lZ (j:=0) rfl
  have tl:=QG d
  have ki:∀(xs:List Int) (v:Int) (_:0<=v) (_:v<((xs.map D.int).length:Int)),∃ u:Int,pJ (xs.map D.int) v=some (D.int u):=fun xs v h0 h1=>by
   obtain⟨u,_,e⟩:=kI (g:=D.int) (xs:=xs) h0 (by rw[fH]at h1;exact h1)
   exact⟨u,e⟩
  have ks:∀(xs:List Str) (v:Int) (_:0<=v) (_:v<((xs.map D.str).length:Int)),∃ u∈xs,pJ (xs.map D.str) v=some (D.str u):=fun xs v h0 h1=>kI (g:=D.str) (xs:=xs) h0 (by rw[fH]at h1;exact h1)
  have pw:TH 10 20:=⟨by decide,by decide,by decide⟩
  refine eM ((false != decide (iW d = "free"))||(false != decide (iW d = "shut"))) (.or (.gZ fun K k=>dH SW k) fun _=>.gZ fun K k=>dH SW k) (fun q=>?_) (fun q=>?_)
  .have hw:iW d = "free"\/iW d = "shut":=by simpa using q
   refine dH SW (dH rfl (dH rfl ⟨pw,zs,hb,by decide,by decide,fun i i0 i1=>?_⟩))
   obtain⟨u,eu⟩:=ki [0,-1,S.n,S.n+5,10 ^ 20,1] i i0 i1
   refine dH eu ⟨zs,.keep ?_⟩
   rcases hw with hw | hw
   .have:=(nP d 5 (by decide)).mp hw
    cases d <;> cases this
    exact kk (.free u) trivial
   .have:=(nP d 6 (by decide)).mp hw
    cases d <;> cases this
    exact kk (.fI u) trivial
  .have hw:¬ iW d = "free"/\¬ iW d = "shut":=by simpa using q
   have l2:2<=(pZ d).length:=by cases d <;> (simp only[pZ,aI,bN];lia)
   refine fw ?_
   dsimp only
   refine⟨hb,by lia,by lia,fun v v0 v1=>?_⟩
   obtain⟨a,ha⟩:∃ a:Nat,1+v=(a:Int):=⟨(1+v).toNat,by lia⟩
   dsimp only [OM]
   rw[ha]
   have a1:1<=a:=by lia
   have a2:a<(pZ d).length:=by lia
   refine⟨fun lg fG=>∃(t:D) (d':Dd),ID (n+1) d'/\(pZ d).take a++[t]++(pZ d).drop (a+1)=pZ d'/\lg=[some (.mr k),some (pf S),some (mL fA),some (.tup (pZ d)),some (.int a),some t]/\fG=μ,?_,?_⟩
   .refine eM ((false != decide (iW d = "put"))&&(false != decide ((a:Int)=2))) (.and (.gZ fun K k=>dH SW k) fun _=>.gZ fun K k=>k) (fun q=>?_) (fun q1=>?_)
    .obtain⟨w1,w2⟩:iW d = "put"/\(a:Int)=2:=by simpa using q
     have w1:=(nP d 0 (by decide)).mp w1
     obtain⟨nm,b,c,rfl⟩:∃ nm b c,d=.put nm b c:=by cases d <;> first | exact⟨_,_,_,rfl⟩ | cases w1
     obtain rfl:a=2:=by lia
     have bl:b.length<=n:=hd.2
     have sb:b.length<=sizeLine:=sz (by lia)
     have cl:∀ lo hi,(Str.mk (hZ b.cps.toList lo hi).toArray).length<=n:=fun lo hi=>aE (oV _ lo hi) bl
     have o1:∀(z:Str) (y:String),z.length<=n->(Str.ofString y).length=1->z.length+(Str.ofString y).length<=sizeLine:=fun z y hz hy=>by rw[hy];exact sz (by lia)
     refine dH rfl ⟨o1 _ _ bl rfl,dH rfl ⟨sb,dH rfl ⟨sb,o1 _ _ (cl _ _) rfl,dH rfl ⟨sb,o1 _ _ (cl _ _) rfl,zs,hb,by decide,by decide,fun i i0 i1=>?_⟩⟩⟩⟩
     obtain⟨u,hu,eu⟩:=ks [b++Str.ofString "o",⟨(hZ b.cps.toList (some 1) none).toArray⟩,⟨(hZ b.cps.toList (some 1) none).toArray⟩++Str.ofString "O",Str.ofString "",⟨(hZ b.cps.toList none (some (-1))).toArray⟩++Str.ofString " "] i i0 i1
     refine dH eu ⟨.str u,.put nm u c,⟨hd.1,?_⟩,rfl,rfl,rfl⟩
     simp only[bH,bp,cL]at hu
     rcases hu with rfl | rfl | rfl | rfl | rfl
     .rw[mS];exact Nat.add_le_add bl (by decide +kernel)
     .exact bF (cl _ _)
     .rw[mS];exact Nat.add_le_add (cl _ _) (by decide +kernel)
     .exact aE (show Str.length (Str.ofString "")<=0 by decide +kernel) (a6 _)
     .rw[mS];exact Nat.add_le_add (cl _ _) (by decide +kernel)
    have q1:¬ (iW d = "put"/\(a:Int)=2):=fun z=>by rw[ar z.1,ar z.2]at q1;cases q1
    refine eM ((false != decide (iW d = "found"))&&(false != decide ((a:Int)=3))) (.and (.gZ fun K k=>dH SW k) fun _=>.gZ fun K k=>k) (fun q=>?_) (fun q2=>?_)
    .obtain⟨w1,w2⟩:iW d = "found"/\(a:Int)=3:=by simpa using q
     have w1:=(nP d 2 (by decide)).mp w1
     obtain⟨nm,b,c,rfl⟩:∃ nm b c,d=.found nm b c:=by cases d <;> first | exact⟨_,_,_,rfl⟩ | cases w1
     obtain rfl:a=3:=by lia
     refine⟨zs,hb,by decide,by decide,fun i i0 i1=>?_⟩
     obtain⟨u,hu,eu⟩:=ks [Str.ofString "",Str.ofString "O",Str.ofString "ox",Str.ofString " ",Str.ofString "0"] i i0 i1
     exact dH eu ⟨.str u,.found nm b u,trivial,rfl,rfl,rfl⟩
    have q2:¬ (iW d = "found"/\(a:Int)=3):=fun z=>by rw[ar z.1,ar z.2]at q2;cases q2
    refine eM ((false != decide ((a:Int)=1))||((false != decide (iW d = "join"))&&decide ((a:Int)<4))) (.or (.gZ fun K k=>k) fun _=>.and (.gZ fun K k=>dH SW k) fun _=>.gZ fun K k=>k) (fun q=>?_) (fun q3=>?_)
    .have w:(a:Int)=1\/(iW d = "join"/\(a:Int)<4):=by simpa using q
     refine⟨hb,S,m,fA,rfl,rfl,wf,hp,fun u hu=>?_⟩
     have go:∀ d',ID (n+1) d'->(pZ d).take a++[.str u]++(pZ d).drop (a+1)=pZ d'->_:=fun d' h1 h2=>(⟨.str u,d',h1,h2,rfl,rfl⟩:∃(t:D) (d':Dd),ID (n+1) d'/\(pZ d).take a++[t]++(pZ d).drop (a+1)=pZ d'/\[some (.mr k),some (pf S),some (mL fA),some (.tup (pZ d)),some (.int a),some (.str u)]=[some (.mr k),some (pf S),some (mL fA),some (.tup (pZ d)),some (.int a),some t]/\μ=μ)
     by_cases w1:a=1
     .subst w1
      cases d with
      | put nm b c=>exact go (.put u b c) ⟨hu,bF hd.2⟩ rfl
      | join nm l r p=>exact go (.join u l r p) hu rfl
      | found nm b c=>exact go (.found u b c) trivial rfl
      | mQ nm c=>exact go (.mQ u c) trivial rfl
      | drop nm=>exact go (.drop u) trivial rfl
      | free p=>exact absurd rfl hw.1
      | fI p=>exact absurd rfl hw.2
     .rcases w with w | ⟨w2,w3⟩
      .exact absurd (by lia) w1
      have w2:=(nP d 1 (by decide)).mp w2
      obtain⟨nm,l,r,p,rfl⟩:∃ nm l r p,d=.join nm l r p:=by cases d <;> first | exact⟨_,_,_,_,rfl⟩ | cases w2
      by_cases w4:a=2
      .subst w4;exact go (.join nm u r p) hd rfl
      .obtain rfl:a=3:=by lia
       exact go (.join nm l u p) hd rfl
    .have q3:¬ ((a:Int)=1\/(iW d = "join"/\(a:Int)<4)):=fun z=>by
      rcases z with z | ⟨z1,z2⟩
      .rw[ar z]at q3;cases q3
      .rw[ar z1,ar z2,show(false != true&&true)=true from rfl,Bool.or_true]at q3;cases q3
     refine dH rfl ⟨pw,dH rfl ⟨pw,zs,hb,by decide,by decide,fun i i0 i1=>?_⟩⟩
     obtain⟨u,eu⟩:=ki [-1,21,S.n,10 ^ 20,0,20,S.n - 1,-10 ^ 20] i i0 i1
     have go:∀ d',ID (n+1) d'->(pZ d).take a++[.int u]++(pZ d).drop (a+1)=pZ d'->_:=fun d' h1 h2=>(⟨.int u,d',h1,h2,rfl,rfl⟩:∃(t:D) (d':Dd),ID (n+1) d'/\(pZ d).take a++[t]++(pZ d).drop (a+1)=pZ d'/\[some (.mr k),some (pf S),some (mL fA),some (.tup (pZ d)),some (.int a),some (.int u)]=[some (.mr k),some (pf S),some (mL fA),some (.tup (pZ d)),some (.int a),some t]/\μ=μ)
     refine dH eu ?_
     cases d with
     | put nm b c =>
      obtain rfl:a=3:=by
       have a2:a<4:=a2
       have:¬ (a:Int)=2:=fun z=>q1 ⟨rfl,z⟩
       lia
      exact go (.put nm b u) ⟨hd.1,bF hd.2⟩ rfl
     | join nm l r p =>
      obtain rfl:a=4:=by
       have a2:a<5:=a2
       have:¬ (a:Int)<4:=fun z=>q3 (.inr ⟨rfl,z⟩)
       lia
      exact go (.join nm l r u) hd rfl
     | found nm b c =>
      obtain rfl:a=2:=by
       have a2:a<4:=a2
       have:¬ (a:Int)=3:=fun z=>q2 ⟨rfl,z⟩
       lia
      exact go (.found nm u c) trivial rfl
     | mQ nm c =>
      obtain rfl:a=2:=by have a2:a<3:=a2;lia
      exact go (.mQ nm u) trivial rfl
     | drop nm=>exact absurd (show a<2 from a2) (by lia)
     | free p=>exact absurd rfl hw.1
     | fI p=>exact absurd rfl hw.2
   .rintro lg fG ⟨t,d',K3,et,rfl,rfl⟩
    have c1:cutD (pZ d) none (some (a:Int))=(pZ d).take a:=by have:=G1 (fun x:D=>x) (pZ d) a;rwa [dz,dz]at this
    have c2:cutD (pZ d) (some ((a:Int)+1)) none=(pZ d).drop (a+1):=by have:=uU (fun x:D=>x) (pZ d) (a+1);rwa [dz,dz]at this
    refine⟨?_,?_⟩
    .rintro⟨_,y⟩
     rw[HT.mV]at y
     lia
    rw[c1]
    have tk:(pZ d).take a≠[]:=fun z=>by have:=bx List.length z;rw[aM]at this;simp only[bN]at this;lia
    refine⟨zs,tk,sz (by rw[aM];show _+1<=_;lia),?_⟩
    refine⟨?_,?_⟩
    .rintro⟨y,_⟩
     rw[show(a:Int)+1=((a+1:Nat):Int)from rfl,HT.mV]at y
     lia
    rw[c2]
    refine⟨by simp,sz (by rw[j3,aM,bC];show _+1+_<=_;lia),?_⟩
    rw[et,<- Qt]
    exact .keep (kk d' K3)
 .cases h
def NN (F:ic K "_law_wild" "_law_wild" rW f fd)(T:jx mg)(Tv:LZ P w K mg dD)(eX:nj P w K mg dD)(vS:vJ P w K mg dD):eV P w K mg dD kJ 4 f fd (pA rW) (hV GJ):=by
 refine F.oG sX (fun ds μ Kd h=>by unfold GJ at h;split at h <;> first | rfl | exact h.elim) (fun gr A dW s H E hr=>⟨_,(dN (qS 3 sX.nd (qC Tv hr (a3 (dv 0) (dv 1) (dv 2))))
  (dN (qS 4 sX.nd (qC eX hr (a2 (dv 0) dJ)))
  (vQ (fF (HG (dv 4) dJ)
  (dX (qS 3 sX.nd (qC vS hr (dP (dv 0) (dP (dv 1) (dP (dv 2) (dP (dv 3) fV)))))))
  fg)
  (vQ (fF (mK (dv 4) dJ)
  (dX (qS 3 sX.nd (qC vS hr (dP (dv 0) (dP (dv 1) (dP (dv 2) (dP (dv 3) fV)))))))
  fg)
  (dX (eJ (dv 3))))))),fun ds μ Kd hm hl h=>?_⟩)
 unfold GJ at h
 split at h
 .rename_i k x y
  obtain⟨hb,S,m,fA,rfl,rfl,wf,hp,kk⟩:=h
  refine⟨hb,S,m,fA,rfl,rfl,wf,hp,fun e Yc fc=>⟨hb,by decide,by decide,fun w w0 w1=>?_⟩⟩
  have sm:=VI (JB wf Yc)
  refine⟨fun lg fG=>∃ e1,ID 101 e1/\lg=[some (.mr k),some (pf S),some (mL fA),some (kZ e1),some (.int w)]/\fG=μ,?_,?_⟩
  .refine eM (decide (1<w)) (.gZ fun K k=>k) (fun _=>?_) (fun _=>fw ⟨e,DD sm (by decide),rfl,rfl⟩)
   exact⟨hb,S,m,fA,e,100,rfl,rfl,rfl,wf,hp,sm,by decide,fun d' h'=>⟨d',h',rfl,rfl⟩⟩
  .rintro lg fG ⟨e1,s1,rfl,zc⟩
   rw[zc]
   refine⟨fun lg fG=>∃ e1 v4,ID 102 e1/\lg=[some (.mr k),some (pf S),some (mL fA),some (kZ e1),v4]/\fG=μ,?_,?_⟩
   .refine eM (false != decide (w=3)) (.gZ fun K k=>k) (fun _=>?_) (fun _=>fw ⟨e1,_,DD s1 (by decide),rfl,rfl⟩)
    exact⟨hb,S,m,fA,e1,101,rfl,rfl,rfl,wf,hp,s1,by decide,fun d' h'=>⟨d',_,h',rfl,rfl⟩⟩
   .rintro lg fG ⟨e1,v4,s1,rfl,zc⟩
    rw[zc]
    exact .keep (kk e1 (SE s1 (by decide)))
 .cases h
def AN (F:ic K "redo" "Room.redo" jh f fd)(T:jx mg)(dZ:jP K ee)(gG:OwnCls "NothingLeft" fk nF "ValueError.__new__" mg dD):eV P w K mg dD (nz P w) 2 f fd (pA jh) (kj (yi ee dQ fk)):=by
 refine F.xQ As (fun ds μ Kd Kx h=>E7 h) (fun gr A dW s H E hr fh Kb Z=>⟨_,(dN (fF (mK (eY dZ.cl dZ.kS (dv 0)) (we T (eY dZ.cl dZ.su (dv 0))))
  (dX (iL Z rfl gG ao (by decide) ao rfl (a1 dY)))
  fg)
  (dN (Gb dZ.cl dZ.kS (dv 0) dJ)
  (dX (eJ (fu (eY dZ.cl dZ.su (dv 0)) (OH (eY dZ.cl dZ.kS (dv 0)) dJ)))))),fun ds μ m Kd Kx hm hl em h hK=>?_⟩)
 unfold yi at h
 split at h
 .rename_i k
  obtain⟨_,j1,j2,ss,rs,d,ra,kk⟩:=h
  have rg:=ra.gx (m:=.gx fh H)
  have hle:=ra.le
  have f1:∀ {ν:MS} {n:Int},ν[k]?=some (.ins ee vh [.mr j1,.mr j2,.int n])->lV ee ν k=some (vh,[.mr j1,.mr j2,.int n]):=fun h=>fM h
  obtain⟨lk,la,lb⟩:=rg.lk
  refine eM (false != decide ((d:Int)=((rs.map kZ).length:Nat))) (.gZ fun K k=>⟨.int d,by rw[f1 rg.ins];rfl,.mr j2,by rw[f1 rg.ins];rfl,dH (fJ rg.l2) k⟩) (fun q=>?_) (fun q=>?_)
  .rw[fH]at q
   have e:(d:Int)=(rs.length:Nat):=by simpa using q
   rw[cP (by lia)]at kk
   exact⟨zs,fX hK em kk⟩
  .rw[fH]at q
   have hd:d<rs.length:=by
    have:¬ (d:Int)=(rs.length:Nat):=by simpa using q
    lia
   rw[sP hd]at kk
   refine fw ?_
   refine⟨(d:Int),by rw[f1 rg.ins];rfl,_,_,f1 rg.ins,rfl,by show 3<1000;decide,?_⟩
   have e1:((μ.set 0 (.gx fh H)).set k (.ins ee vh [.mr j1,.mr j2,.int ((d:Int)+1)]))=jG ee dQ (μ.set 0 (.gx fh H)) k j1 j2 ss rs (d+1):=by
    unfold jG
    rw[set_same rg.l1,set_same rg.l2,show((d+1:Nat):Int)=(d:Int)+1 from rfl]
   have rp:fo ee dQ (jG ee dQ (μ.set 0 (.gx fh H)) k j1 j2 ss rs (d+1)) k j1 j2 ss rs (d+1):=rg.put ra.len hd ra.wf ra.kX
   have e0:putN (Str.ofString "done") (D.int ((d:Int)+1)) vh [D.mr j1,D.mr j2,D.int (d:Int)]=(vh,[D.mr j1,D.mr j2,D.int ((d:Int)+1)]):=rfl
   dsimp only
   rw[e0]
   dsimp only
   rw[e1]
   refine⟨.mr j2,by rw[f1 rp.ins];rfl,.int ((d+1:Nat):Int),by rw[f1 rp.ins];rfl,dH (fJ rp.l2) (dH (v:=kZ rs[d]) ?_ (.keep ?_))⟩
   .rw[show((d+1:Nat):Int) - 1=(d:Int) by lia]
    exact o3 (sP hd)
   obtain⟨g1,g2⟩:=rh ra (m:=.gx fh H) (ss':=ss) (rs':=rs) (d':=d+1) em
   exact⟨g2,by rw[g1];exact kk⟩
 .cases h
def HP (F:ic K "_law_turned" "_law_turned" ml f fd)(T:jx mg)(dZ:jP K ee)(qP:OwnCls "HissError" jv nF "ValueError.__new__" mg dD)(Ec:vN P w K mg dD)(D9:vK P w K mg dD)(Eb:vM P w K mg dD)(Pc:G8 P w K mg dD):eV P w K mg dD kJ 9 f fd (pA ml) (hV (wH K kQ jv ee dQ)):=by
 refine F.oG nH (fun ds μ Kd h=>by unfold wH at h;split at h <;> first | rfl | exact h.elim) (fun gr A dW s H E hr=>⟨_,(dN (Uv rfl rfl rfl nH.nd (i:=4) rfl rfl rfl qP.bound (fun pn xe fh H0 Kx Zt=>(dX (fF (mK (dv 1) dY)
  (dX (qS 3 nH.nd (jA Zt Ec dZ.cl hr.le (dv 0) (a1 (dv 2)))))
  (dX (fF (mK (dv 1) dY)
  (dX (qS 3 nH.nd (DJ Zt D9 dZ.cl hr.le (dv 0))))
  (dX (qS 3 nH.nd (DJ Zt Eb dZ.cl hr.le (dv 0)))))))))
  (fun pn e eZ H1 kx hk Vm=>(dX (eJ (gO (a2 dY (OG (H0:=H1) hk Vm rfl Pc (Uz hr.le) rfl (a1 (dv 4)))))))))
  (dX (eJ (gO (a2 dY (dv 3)))))),fun ds μ Kd hm hl h=>?_⟩)
 unfold wH at h
 split at h
 .rename_i k nm y
  obtain⟨⟨m,em⟩,KA,j1,j2,ss,rs,d,S,ra,es,kk⟩:=h
  have h0:0<μ.length:=(l8 em).1
  have hle:=ra.le
  have hm:=hm
  refine⟨m,em,fun fh H0=>?_⟩
  have rg:=ra.gx (m:=.gx fh H0)
  rcases kk with⟨rfl,e,rfl,fc,kX,kk⟩ | ⟨rfl,kk⟩ | ⟨rfl,kk⟩
  .refine⟨nI rg rfl,eU em,⟨_,eU em⟩,j1,j2,ss,rs,d,S,e,rg,es,rfl,fc,kX,?_⟩
   cases er:my S e with
   | none =>
    rw[er]at kk
    obtain⟨g1,g2⟩:=rh ra (m:=.gx fh H0) (ss':=ss.take (d+1)++[pH S e]) (rs':=rs.take d++[e]) (d':=d+1) em
    refine⟨g2,?_⟩
    rw[g1]
    exact⟨zs,.keep kk⟩
   | some i =>
    rw[er]at kk
    refine⟨eU em,?_⟩
    rw[lX em]
    refine⟨kQ.getD i 0,rfl,(KA i (wz er)).sub,fun eZ H1=>?_⟩
    have Bc:(μ++[MO.exc (.ref (kQ.getD i 0))])[0]?=some m:=by rw[uv h0];exact em
    have Qo:((μ++[MO.exc (.ref (kQ.getD i 0))]).set 0 (.gx eZ H1))[μ.length]?=some (.exc (.ref (kQ.getD i 0))):=by
     rw[ak (by lia),oP (aj _),aR];rfl
    refine⟨⟨eU Bc,_,Qo⟩,⟨_,eU Bc⟩,by lia,i,aA (wz er) (by decide),Qo,KA i (wz er),zs,eU Bc,?_⟩
    rw[lX Bc]
    refine .drop ?_ (gQ hm) ?_
    .exact⟨trivial,⟨trivial,trivial⟩,trivial⟩
    .rw[aW];exact kk
  .refine⟨nI rg rfl,eU em,⟨_,eU em⟩,j1,j2,ss,rs,d,rg,?_⟩
   cases d with
   | zero =>
    refine⟨eU em,?_⟩
    rw[lX em]
    refine⟨fk,rfl,(KA 15 (show 15<16 by decide)).sub,fun eZ H1=>?_⟩
    have Bc:(μ++[MO.exc (.ref (fk))])[0]?=some m:=by rw[uv h0];exact em
    have Qo:((μ++[MO.exc (.ref (fk))]).set 0 (.gx eZ H1))[μ.length]?=some (.exc (.ref (fk))):=by
     rw[ak (by lia),oP (aj _),aR];rfl
    refine⟨⟨eU Bc,_,Qo⟩,⟨_,eU Bc⟩,by lia,15,show 15<17 by decide,Qo,KA 15 (show 15<16 by decide),zs,eU Bc,?_⟩
    rw[lX Bc]
    refine .drop ?_ (gQ hm) ?_
    .exact⟨trivial,⟨trivial,trivial⟩,trivial⟩
    .rw[aW];exact kk
   | succ d =>
    intro e he
    obtain⟨g1,g2⟩:=rh ra (m:=.gx fh H0) (ss':=ss) (rs':=rs) (d':=d) em
    refine⟨g2,?_⟩
    rw[g1]
    exact⟨zs,.keep (kk e he)⟩
  .refine⟨nI rg rfl,eU em,⟨_,eU em⟩,j1,j2,ss,rs,d,rg,?_⟩
   cases er:rs[d]? with
   | none =>
    rw[er]at kk
    refine⟨eU em,?_⟩
    rw[lX em]
    refine⟨fk,rfl,(KA 15 (show 15<16 by decide)).sub,fun eZ H1=>?_⟩
    have Bc:(μ++[MO.exc (.ref (fk))])[0]?=some m:=by rw[uv h0];exact em
    have Qo:((μ++[MO.exc (.ref (fk))]).set 0 (.gx eZ H1))[μ.length]?=some (.exc (.ref (fk))):=by
     rw[ak (by lia),oP (aj _),aR];rfl
    refine⟨⟨eU Bc,_,Qo⟩,⟨_,eU Bc⟩,by lia,15,show 15<17 by decide,Qo,KA 15 (show 15<16 by decide),zs,eU Bc,?_⟩
    rw[lX Bc]
    refine .drop ?_ (gQ hm) ?_
    .exact⟨trivial,⟨trivial,trivial⟩,trivial⟩
    .rw[aW];exact kk
   | some e =>
    rw[er]at kk
    obtain⟨g1,g2⟩:=rh ra (m:=.gx fh H0) (ss':=ss) (rs':=rs) (d':=d+1) em
    refine⟨g2,?_⟩
    rw[g1]
    exact⟨zs,.keep kk⟩
 .cases h
def Kc (F:ic K "_law_right" "_law_right" ou f fd)(T:jx mg)(dZ:jP K ee)(BM:ui P w K mg dD)(BN:uj P w K mg dD)(j5:Bu P w K mg dD)(Mr:DS P w K mg dD):eV P w K mg dD kJ 9 f fd (pA ou) (hV (wL ee dQ)):=by
 refine F.oG xw (fun ds μ Kd h=>by unfold wL at h;split at h <;> first | rfl | exact h.elim) (fun gr A dW s H E hr=>⟨_,(dN (fF (lO (gT (qC j5 hr (a2 (gU BM dZ.cl hr.le (dv 0)) (GZ false (zW (N:=["_law_one"]) (js:=[none]) xw (by decide +kernel)) (AY (jz false (dv 1) (iC dJ) qi)) (fun _ _ _ nd=>(qN 0 nd)) (fun _ _ _=>kq) (fun _ _ _=>(fu (dv 0) dJ)))))))
  (dX (eJ rJ))
  fg)
  (dN (fF (lO (gT (qC j5 hr (a2 (gU BN dZ.cl hr.le (dv 0)) (GZ false (zW (N:=["_law_one"]) (js:=[none]) xw (by decide +kernel)) (AY (VL (dv 2) (iC (rP dJ)))) (fun _ _ _ nd=>(qN 0 nd)) (fun _ _ _=>kq) (fun _ _ _=>(fu (dv 0) dJ)))))))
  (dX (eJ rJ))
  fg)
  (dX (eJ (qC Mr hr (a2 (dv 0) (fu (fu (dv 1) (rP dJ)) dJ))))))),fun ds μ Kd hm hl h=>?_⟩)
 unfold wL at h
 split at h
 .rename_i k p q
  obtain⟨⟨m,em⟩,j1,j2,ss,rs,d,S0,ps,qs,ra,pa,la,hp,hq,kk⟩:=h
  have hle:=ra.le
  have kX:=ra.kX
  have es:=pa.now hle
  have pl:=pa.len hle
  have ll:=la.len
  obtain⟨y,ey⟩:=zA S0 ps
  refine eM (!true) (.not (.gZ fun K k=>⟨nI ra rfl,j1,j2,ss,rs,d,ra,dH (fJ hp) ?_⟩)) (fun q=>by cases q) (fun _=>?_)
  .rw[Cp]
   exact⟨sz (by rw[fH];lia),ED trivial pa (fun p K' k'=>dH rfl k') (XU ⟨.lst ((rs.take d).map kZ),by rw[au rfl];rfl,rfl,JC (by rw[aM];lia),k⟩)⟩
  refine fw ?_
  dsimp only
  refine eM (!true) (.not (.gZ fun K k=>⟨nI ra rfl,j1,j2,ss,rs,d,ra,rfl,dH (fJ hq) ?_⟩)) (fun q=>by cases q) (fun _=>?_)
  .rw[<- List.map_reverse,List.reverse_reverse]
   exact dH rfl ⟨sz (by rw[fH];lia),CJ trivial la (fun p K' k'=>dH rfl k') (XU ⟨.lst ((rs.drop d).map kZ),by rw[aq (by decide)];rfl,rfl,JC (by rw[bC];lia),k⟩)⟩
  refine fw ?_
  exact dH (fJ hp) (dH ey ⟨⟨m,em⟩,j1,j2,ss,rs,d,_,ra,es,rfl,.keep kk⟩)
 .cases h
set_option maxHeartbeats 16000000 in
def RI (F:ic K "law" "law" mU f fd)(T:jx mg)(dZ:jP K ee)(KA:∀ j,j<16->lN K kQ jv j)(Wv:QA P w K mg dD)(eX:nj P w K mg dD)(Tq:LS P w K mg dD)(Pg:Hb P w K mg dD)(j5:Bu P w K mg dD)(D6:DR P w K mg dD)(Tp:LR P w K mg dD)(To:LQ P w K mg dD)(Tx:L5 P w K mg dD)(Hr:G5 P w K mg dD):eV P w K mg dD kJ 13 f fd (pA mU) (Pq K):=by
 refine F.ok iK (fun vs H Q E h=>?_) (fun gr A dW s H vs Q E hr h=>?_)
 .obtain⟨a,ns,rfl,_⟩:=h;rfl
 .obtain⟨a,ns,rfl,hs,hl,k⟩:=h
  refine⟨_,gI (uF (i:=1) iK.nd rfl (by first | exact Or.inl rfl | exact Or.inr rfl) (xI Wv (hr.mono (by first | decide | exact aj _ | lia)) rfl (eO (kM 0) gJ))) (dN (kz (qC Pg hr (a2 (dv 1) (qC Tq hr (a2 (dv 1) dJ)))) ⟨(gz (n:=3) rfl (d7 (qN 2 iK.nd) (d7 (qN 3 iK.nd) (d7 (qN 4 iK.nd) fR)))),(ie (eG (eB 2) (dF 2) (eG (eB 3) (dF 3) (eG (eB 4) (dF 4) ig eA) (dU (dF 4) eA)) (dU (dF 3) (dU (dF 4) eA)))),(iu (dU (dF 2) (dU (dF 3) (dU (dF 4) eA))))⟩)
   (dN (qS 5 iK.nd (iE true (a1 (gO (a2 (dv 3) (gO fV))))))
   (dN (qS 6 iK.nd (iE true fV))
   (dN (qS 7 iK.nd (qC eX hr (a2 (dv 1) dJ)))
   (dN (vg bT rfl (jN rfl T.range (a1 (qC eX hr (a2 (dv 1) dJ)))) (qT 8 iK.nd)
   (dN (qS 9 iK.nd (qC eX hr (a2 (dv 1) dJ)))
   (vQ (fF (mK (dv 9) dJ)
   (dX (qS 7 iK.nd (OH dJ (dv 7))))
   fg)
   (vQ (fF (Gh (dv 9) dJ)
   (dN (qS 10 iK.nd (fu (iE false (a2 dY dY)) (dv 7)))
   (dN (qS 11 iK.nd (yw (mK (dv 7) dJ) (jz false (dv 5) (iC dJ) qi) (dv 6)))
   (dN (qS 12 iK.nd (gO (a2 dY (iE false (a1 dY)))))
   (vQ (fF (HG (we T (dv 11)) dJ)
   (dX (qS 12 iK.nd (gO (a2 dY (fu (fu (dv 11) (rP dJ)) dJ)))))
   fg)
   (dN (fF (lO (gT (qC j5 hr (a2 (qC D6 hr (a3 (dv 2) (dv 10) Lu)) (dv 12)))))
   (dX (eJ rJ))
   fg)
   (dX (fF (PW.pt (j6 (HG (we T (dv 11)) dJ) (iJ (mK (dv 7) dJ))))
   (dX (i7 (yu bO cA cz wY qY (dv 6) (a1 (Qu bO PySem.F.slot_list_pop PySem.F.type_list_pop UJ Jy (dv 5))))))
   (dX (fF (HG (we T (dv 11)) dJ)
   (dX (i7 (yu bO cA cz wY qY (dv 5) (a1 (Qu bO PySem.F.slot_list_pop PySem.F.type_list_pop UJ Jy (dv 6))))))
   fg)))))))))
   (dN (qS 13 iK.nd (qC Tp hr (a3 (dv 1) (fu (fu (dv 5) (rP dJ)) dJ) (dv 4))))
   (dN (qS 14 iK.nd (qC To hr (a2 (fu (fu (dv 5) (rP dJ)) dJ) (dv 13))))
   (dN (qS 15 iK.nd (qC D6 hr (a3 (dv 2) dY (dv 13))))
   (dN (fF (PW.pt (j6 (Nt (dv 14) dY) (iJ (lO (gT (qC j5 hr (a2 (dv 15) (gO (a2 dY (iE false (a1 (dv 14))))))))))))
   (dX (eJ rJ))
   fg)
   (dX (fF (mK (dv 14) dY)
   (dN (fF (PW.pt (pE (Nt (fu (dv 15) dJ) dY) (lE (xh (fu (dv 15) dJ)))))
   (dX (eJ rJ))
   fg)
   (dN (i7 (yu bO cA cz wY qY (dv 5) (a1 (gO (a2 (qC Tx hr (a2 (fu (fu (dv 5) (rP dJ)) dJ) (dv 13))) (dv 13))))))
   (dX (qS 6 iK.nd (iE true fV)))))
   fg)))))))
   (dX (fF (PW.pt (j6 (mK (ub AU B5 (dv 8) dJ) dJ) (iJ (lO (gT (qC Hr hr (a3 (dv 2) (dv 5) (dv 6))))))))
   (dX (eJ rJ))
   fg))))))
   (dX (eJ (qC Hr hr (a3 (dv 2) (dv 5) (dv 6)))))))))),?_⟩
  refine⟨ns,hs,fun b q H0 B0 YC rl S0=>?_⟩
  refine RR (m:=14) B0 ?_ k
  refine⟨rfl,fun most hmost=>⟨⟨_,rfl⟩,rfl,by decide,by lia,by lia,fun n fA h1 h2 hp=>?_⟩⟩
  have ra0:fo ee dQ ([MO.box]++[.ins ee vh [.mr 2,.mr 3,.int 0],.lst [mT dQ ⟨n,[],[]⟩],.lst []]) 1 2 3 [⟨n,[],[]⟩] [] 0:=fo.made (by decide) h1 (by lia)
  obtain⟨R0,hR⟩:∃ R0:RS,R0=⟨n,[],[]⟩:=⟨_,rfl⟩
  rw[<- hR]at ra0 ⊢
  refine⟨rfl,zs,zs,zs,zs,rfl,by decide,by decide,fun bk bk0 bk1=>⟨rfl,by decide,by decide,fun t t0 t1=>⟨by lia,by lia,?_⟩⟩⟩
  refine kD (fun ds ρ μ'=>∃(i j q:Nat) (bk:Int) (ps qs:List (RS×Dd)) (ss:List RS) (rs:List Dd) (d:Nat) (v8 v9 va vb vc vd ve vf:Option D),ds=lU i j/\i+j=t.toNat/\(bk=0\/bk=1)/\U37 ee dQ R0 μ' q i ps qs ss rs d/\ρ=[none,some (.mr 0),some (.mr 1),some (pf R0),some (mL fA),some (.mr 4),some (.mr q),some (.int bk),v8,v9,va,vb,vc,vd,ve,vf]) ⟨0,t.toNat,5,bk,[],[],[R0],[],0,none,none,none,none,none,none,none,none,rfl,by lia,by lia,⟨(ra0.more (g:=[.lst (kN R0 [])])).more (g:=[.lst []]),.start,⟨rfl,rfl⟩,rfl,rfl,rfl,by decide,aj _⟩,rfl⟩ ?_ ?_
  .rintro d' MM ρ μ' ⟨i,j,q,bk,ps,qs,ss,rs,d,v8,v9,va,vb,vc,vd,ve,vf,e1,Io,Vq,U,rfl⟩
   refine⟨trivial,fun nx GF=>?_⟩
   cases j with
   | zero=>cases e1
   | succ j =>
    rw[l6]at e1
    cases e1
    refine⟨U.box,by decide,by decide,fun w w0 w1=>?_⟩
    refine⟨fun lg fG=>∃ bk:Int,(bk=0\/bk=1)/\lg=[none,some (.mr 0),some (.mr 1),some (pf R0),some (mL fA),some (.mr 4),some (.mr q),some (.int bk),some (.int i),some (.int w),va,vb,vc,vd,ve,vf]/\fG=μ',?_,?_⟩
    .refine eM (false != decide (w=0)) (.gZ fun K k=>k) (fun _=>?_) (fun _=>fw ⟨bk,Vq,rfl,rfl⟩)
     exact⟨1 - bk,by lia,rfl,rfl⟩
    rintro lg fG ⟨bk,Vq,rfl,zc⟩
    rw[zc]
    refine⟨fun lg fG=>∃(q:Nat) (ps qs:List (RS×Dd)) (ss:List RS) (rs:List Dd) (d:Nat) (va vb vc vd ve vf:Option D),U37 ee dQ R0 fG q (i+1) ps qs ss rs d/\lg=[none,some (.mr 0),some (.mr 1),some (pf R0),some (mL fA),some (.mr 4),some (.mr q),some (.int bk),some (.int i),some (.int w),va,vb,vc,vd,ve,vf],?_,?_⟩
    .obtain⟨ra,pa,la,vX,MC,IT,qu,Yb⟩:=U
     have hle:=ra.le
     have hlen:=ra.len
     have pl:=pa.len hle
     have ll:=la.len
     have es:=pa.now hle
     have l4:4<μ'.length:=(l8 MC).1
     have lq:q<μ'.length:=(l8 IT).1
     refine eM (decide (w<4)) (.gZ fun K k=>k) (fun _=>?_) (fun _=>?_)
     .rcases Vq with rfl | rfl
      .refine⟨zs,dH (fJ MC) ?_⟩
       rw[Cp]
       refine XU ⟨zs,zs,?_⟩
       rcases Bb ps with rfl | ⟨ps,x,rfl⟩
       .refine⟨fun zo lS=>zo=[none,some (.mr 0),some (.mr 1),some (pf R0),some (mL fA),some (.mr 4),some (.mr q),some (.int 0),some (.int i),some (.int w),some (.str "undo"),some (.lst []),some (Ce 15),vd,ve,vf]/\lS=μ',eM false (.gZ fun K k=>dH rfl k) (fun q=>by cases q) (fun _=>fw ⟨rfl,rfl⟩),?_⟩
        rintro zo lS ⟨rfl,zc⟩
        rw[zc]
        subst pl
        refine eM (!true) (.not (.gZ fun K k=>⟨⟨_,vX⟩,KA,2,3,ss,rs,0,_,ra,es,.inr (.inl ⟨rfl,⟨Ce 15,rfl,rfl,Ep (some 15),k⟩⟩)⟩)) (fun q=>by cases q) (fun _=>?_)
        refine fw ?_
        dsimp only
        refine eM false (.and (x:=false) (y:=false) (.gZ fun K k=>dH rfl k) (fun q=>by cases q)) (fun q=>by cases q) (fun _=>?_)
        refine eM false (.gZ fun K k=>dH rfl k) (fun q=>by cases q) (fun _=>?_)
        exact fw ⟨q,[],qs,ss,rs,0,_,_,_,_,_,_,⟨ra,pa,la,vX,MC,IT,qu,by lia⟩,rfl⟩
       .obtain⟨d,rfl⟩:∃ d',d=d'+1:=⟨d - 1,by rw[j3,aN]at pl;lia⟩
        obtain⟨x1,x2⟩:=pa.back hle
        have gl:pJ ((ps++[x]).map pD) (-1)=some (pD x):=by rw[aF];exact o4 _ _
        have gv:∀ {K:DK} {ν:MS},K (.bl true) ν->K (.bl (decide ((0:Int)<(((ps++[x]).map pD).length:Nat)))) ν:=fun {K ν} k=>by rw[ar (by rw[fH,j3];show(0:Int)<((_+1:Nat):Int);lia)];exact k
        refine⟨fun zo lS=>zo=[none,some (.mr 0),some (.mr 1),some (pf R0),some (mL fA),some (.mr 4),some (.mr q),some (.int 0),some (.int i),some (.int w),some (.str "undo"),some (.lst ((ps++[x]).map pD)),some (pX (kZ x.2)),vd,ve,vf]/\lS=μ',eM true (.gZ fun K k=>gv k) (fun _=>dH gl (dH rfl ⟨zs,rfl,rfl⟩)) (fun q=>by cases q),?_⟩
        rintro zo lS ⟨rfl,zc⟩
        rw[zc]
        have rp:fo ee dQ (jG ee dQ μ' 1 2 3 ss rs d) 1 2 3 ss rs d:=ra.put hlen (by lia) ra.wf ra.kX
        obtain⟨ν,zM⟩:∃ ν,ν=jG ee dQ μ' 1 2 3 ss rs d:=⟨_,rfl⟩
        have n4:ν[4]?=some (.lst (kN R0 (ps++[x]))):=by rw[zM,mW (by decide) (by decide) (by decide)];exact MC
        have nq:ν[q]?=some (.lst (qs.reverse.map pD)):=by rw[zM,mW (by lia) (by lia) (by lia)];exact IT
        have n0:ν[0]?=some .box:=by rw[zM,mW (by decide) (by decide) (by decide)];exact vX
        have nl:4<ν.length:=by rw[zM,qd];exact l4
        have XT:q<ν.length:=by rw[zM,qd];exact lq
        rw[<- zM]at rp
        refine GY (fun b fG=>b=false/\fG=ν) (fun K k=>⟨⟨_,vX⟩,KA,2,3,ss,rs,d+1,_,ra,es,.inr (.inl ⟨rfl,fun e he=>?_⟩)⟩) (fun fG h=>by cases h.1) (fun fG h=>?_)
        .rw[x2]at he
         cases he
         rw[<- zM]
         exact⟨pX (kZ x.2),FY (qZ x.2),FY (qZ x.2),qZ x.2,k _ _ ⟨rfl,rfl⟩⟩
        rw[h.2]
        refine fw ?_
        dsimp only
        refine eM (true&&true) (.and (.gZ fun K k=>gv k) fun _=>.gZ fun K k=>k) (fun _=>?_) (fun q=>by cases q)
        refine⟨uJ (fJ nq),uJ (fJ n4),dH (fJ n4) (dH (v:=pD x) ?_ ?_)⟩
        .rw[nJ,j3,aN,Nat.add_sub_cancel,oP (aj _),aR];rfl
        .rw[nJ,List.dropLast_concat]
         have mq:(ν.set 4 (.lst (kN R0 ps)))[q]?=some (.lst (qs.reverse.map pD)):=by rw[ak (by lia)];exact nq
         refine dH (fJ mq) ⟨by rw[fH,List.length_reverse];exact aA (m:=1000) (by lia) (sz (by lia)),?_⟩
         refine⟨q,ps,x::qs,ss,rs,d,_,_,_,_,_,_,⟨(rp.other (by decide) (by decide) (by decide)).other (by lia) (by lia) (by lia),pa.QE hle,la.QE x1 x2,by rw[ak (by lia),ak (by decide)];exact n0,by rw[ak (by lia),aC nl],by rw[aC (by rw[aG];exact XT),cw,aF];rfl,qu,by lia⟩,rfl⟩
      .refine⟨zs,zs,zs,?_⟩
       cases qs with
       | nil =>
        have no:rs[d]?=none:=by
         have:=bx List.length la.hr
         rw[bC,fH,bN]at this
         exact cP (by lia)
        refine⟨fun zo lS=>zo=[none,some (.mr 0),some (.mr 1),some (pf R0),some (mL fA),some (.mr 4),some (.mr q),some (.int 1),some (.int i),some (.int w),some (.str "redo"),some (.mr q),some (Ce 15),vd,ve,vf]/\lS=μ',eM false (.gZ fun K k=>dH (fJ IT) k) (fun q=>by cases q) (fun _=>fw ⟨rfl,rfl⟩),?_⟩
        rintro zo lS ⟨rfl,zc⟩
        rw[zc]
        refine eM (!true) (.not (.gZ fun K k=>⟨⟨_,vX⟩,KA,2,3,ss,rs,d,_,ra,es,.inr (.inr ⟨rfl,by rw[no];exact⟨Ce 15,rfl,rfl,Ep (some 15),k⟩⟩)⟩)) (fun q=>by cases q) (fun _=>?_)
        refine fw ?_
        dsimp only
        refine eM false (.and (x:=false) (y:=false) (.gZ fun K k=>dH (fJ IT) k) (fun q=>by cases q)) (fun q=>by cases q) (fun _=>?_)
        refine eM false (.gZ fun K k=>dH (fJ IT) k) (fun q=>by cases q) (fun _=>?_)
        exact fw ⟨q,ps,[],ss,rs,d,_,_,_,_,_,_,⟨ra,pa,la,vX,MC,IT,qu,by lia⟩,rfl⟩
       | cons x qs =>
        obtain⟨x1,x2,la2⟩:=la.Q5
        have ql:((x::qs).reverse).map pD=qs.reverse.map pD++[pD x]:=by rw[cw,aF];rfl
        rw[ql]at IT
        have gl:pJ (qs.reverse.map pD++[pD x]) (-1)=some (pD x):=o4 _ _
        have gv:∀ {K:DK} {ν:MS},K (.bl true) ν->K (.bl (decide ((0:Int)<((qs.reverse.map pD++[pD x]).length:Nat)))) ν:=fun {K ν} k=>by rw[ar (by rw[j3];show(0:Int)<((_+1:Nat):Int);lia)];exact k
        refine⟨fun zo lS=>zo=[none,some (.mr 0),some (.mr 1),some (pf R0),some (mL fA),some (.mr 4),some (.mr q),some (.int 1),some (.int i),some (.int w),some (.str "redo"),some (.mr q),some (pX (kZ x.2)),vd,ve,vf]/\lS=μ',eM true (.gZ fun K k=>dH (fJ IT) (gv k)) (fun _=>dH (fJ IT) (dH gl (dH rfl ⟨zs,rfl,rfl⟩))) (fun q=>by cases q),?_⟩
        rintro zo lS ⟨rfl,zc⟩
        rw[zc]
        have hd:d<rs.length:=(l8 x2).1
        have rp:fo ee dQ (jG ee dQ μ' 1 2 3 ss rs (d+1)) 1 2 3 ss rs (d+1):=ra.put hlen hd ra.wf ra.kX
        obtain⟨ν,zM⟩:∃ ν,ν=jG ee dQ μ' 1 2 3 ss rs (d+1):=⟨_,rfl⟩
        have n4:ν[4]?=some (.lst (kN R0 ps)):=by rw[zM,mW (by decide) (by decide) (by decide)];exact MC
        have nq:ν[q]?=some (.lst (qs.reverse.map pD++[pD x])):=by rw[zM,mW (by lia) (by lia) (by lia)];exact IT
        have n0:ν[0]?=some .box:=by rw[zM,mW (by decide) (by decide) (by decide)];exact vX
        have nl:4<ν.length:=by rw[zM,qd];exact l4
        have XT:q<ν.length:=by rw[zM,qd];exact lq
        rw[<- zM]at rp
        refine GY (fun b fG=>b=false/\fG=ν) (fun K k=>⟨⟨_,vX⟩,KA,2,3,ss,rs,d,_,ra,es,.inr (.inr ⟨rfl,?_⟩)⟩) (fun fG h=>by cases h.1) (fun fG h=>?_)
        .rw[x2]
         dsimp only
         rw[<- zM]
         exact⟨pX (kZ x.2),FY (qZ x.2),FY (qZ x.2),qZ x.2,k _ _ ⟨rfl,rfl⟩⟩
        rw[h.2]
        refine fw ?_
        dsimp only
        refine eM (true&&false) (.and (.gZ fun K k=>dH (fJ nq) (gv k)) fun _=>.gZ fun K k=>k) (fun q=>by cases q) (fun _=>?_)
        refine eM true (.gZ fun K k=>dH (fJ nq) (gv k)) (fun _=>?_) (fun q=>by cases q)
        refine⟨uJ (fJ n4),uJ (fJ nq),dH (fJ nq) (dH (v:=pD x) ?_ ?_)⟩
        .rw[j3,aN,Nat.add_sub_cancel,oP (aj _),aR];rfl
        .rw[List.dropLast_concat]
         have m4:(ν.set q (.lst (qs.reverse.map pD)))[4]?=some (.lst (kN R0 ps)):=by rw[ak (by lia)];exact n4
         refine dH (fJ m4) ⟨by rw[zB];exact aA (m:=1000) (by lia) (sz (by lia)),?_⟩
         refine⟨q,ps++[x],qs,ss,rs,d+1,_,_,_,_,_,_,⟨(rp.other (by lia) (by lia) (by lia)).other (by decide) (by decide) (by decide),pa.Q5 x1 x2,la2,by rw[ak (by decide),ak (by lia)];exact n0,by rw[aC (by rw[aG];exact nl),nJ],by rw[ak (by lia),aC XT],qu,by lia⟩,rfl⟩
     .obtain⟨S,hS⟩:∃ S,S=LH R0 ps:=⟨_,rfl⟩
      obtain⟨y,ey⟩:=zA R0 ps
      rw[<- hS]at es ey
      have wf:=ra.wf _ S es
      refine dH (fJ MC) (dH ey ⟨vX,S,_,fA,rfl,rfl,wf,hp,fun e fc=>dH (fJ MC) (dH ey ⟨S,_,e,rfl,rfl,rfl,wf,fc,⟨_,vX⟩,KA,2,3,ss,rs,d,S,ra,es,.inl ⟨rfl,e,rfl,fc,by lia,?_⟩⟩)⟩)
      have wn:=sQ (o:=my S e) fun i h=>by have:=wz h;lia
      cases er:my S e with
      | some i =>
       rw[er]at wn
       dsimp only
       refine eM ((true != decide (kn (some i)=("" : Str)))&&!true) (.and (.gZ fun K k=>k) fun _=>.not (.gZ fun K k=>⟨zs,zs,Ce i,rfl,rfl,Ep (some i),k⟩)) (fun q=>by rw[wn]at q;cases q) (fun _=>?_)
       refine fw ?_
       dsimp only
       refine eM (false != decide (kn (some i)=("" : Str))) (.gZ fun K k=>k) (fun q=>by rw[wn]at q;cases q) (fun _=>?_)
       exact fw ⟨q,ps,qs,ss,rs,d,_,_,_,_,_,_,⟨ra,pa,la,vX,MC,IT,qu,by lia⟩,rfl⟩
      | none =>
       rw[er]at wn
       obtain⟨g3,g4⟩:=ra.Vs es er (by lia)
       dsimp only
       obtain⟨ν,zM⟩:∃ ν,ν=jG ee dQ μ' 1 2 3 (ss.take (d+1)++[pH S e]) (rs.take d++[e]) (d+1):=⟨_,rfl⟩
       have n4:ν[4]?=some (.lst (kN R0 ps)):=by rw[zM,mW (by decide) (by decide) (by decide)];exact MC
       have n0:ν[0]?=some .box:=by rw[zM,mW (by decide) (by decide) (by decide)];exact vX
       have nl:4<ν.length:=by rw[zM,qd];exact l4
       rw[<- zM]at g3 ⊢
       refine eM ((true != decide (kn none=("" : Str)))&&false) (.and (.gZ fun K k=>k) fun q=>by rw[wn]at q;cases q) (fun q=>by rw[cY]at q;cases q) (fun _=>?_)
       refine fw ?_
       dsimp only
       refine eM (false != decide (kn none=("" : Str))) (.gZ fun K k=>k) (fun _=>?_) (fun q=>by rw[wn]at q;cases q)
       refine eM (false||false) (.or (.gZ fun K k=>dH rfl k) fun _=>.gZ fun K k=>dH rfl k) (fun q=>by cases q) (fun _=>?_)
       refine fw ?_
       dsimp only
       refine⟨uJ (fJ n4),dH (fJ n4) (dH ey ⟨S,e,_,rfl,rfl,wf,by lia,er,zs,dH (fJ n4) ⟨by rw[zB];exact aA (m:=1000) (by lia) (sz (by lia)),zs,?_⟩⟩)⟩
       have g5:fo ee dQ (ν.set 4 (.lst (kN R0 ps++[pD (pH S e,e)]))) 1 2 3 (ss.take (d+1)++[pH S e]) (rs.take d++[e]) (d+1):=g3.other (by decide) (by decide) (by decide)
       refine⟨(ν.set 4 (.lst (kN R0 ps++[pD (pH S e,e)]))).length,ps++[(pH S e,e)],[],_,_,d+1,_,_,_,_,_,_,⟨g5.more (g:=[.lst []]),pa.do hle hlen,.none ?_ ?_,?_,?_,?_,by rw[aG];lia,?_⟩,rfl⟩
       .rw[j3,aM];show _+1<=_;lia
       .rw[j3,aM];show _+1<=_;lia
       .rw[uv (by rw[aG];lia),ak (by decide)];exact n0
       .rw[uv (by rw[aG];lia),aC nl,nJ];rfl
       .rw[oP (by rw[aG,aG];exact aj _),aG,aG,aR];rfl
       .rw[j3,aM];show _+1<=_;lia
    .rintro lg fG ⟨q,ps,qs,ss,rs,d,va,vb,vc,vd,ve,vf,U,rfl⟩
     refine eM ((false != decide ((i:Int)%3=2))&&!true) ?_ (fun q=>?_) (fun _=>?_)
     .exact .and (.gZ fun K k=>⟨show(0:Int)<3 by decide,k⟩) fun _=>.not (x:=true) (.gZ fun K k=>⟨⟨_,U.box⟩,2,3,_,_,_,_,_,_,U.ra,U.pa,U.la,U.l4,U.lq,k⟩)
     .rw[Bool.not_true,cY]at q;cases q
     .exact fw (GF _ _ ⟨i+1,j,q,bk,ps,qs,ss,rs,d,_,_,_,_,_,_,_,_,by rw[Int.natCast_add];rfl,by lia,Vq,U,rfl⟩)
  .rintro ρ μ' ⟨i,j,q,bk,ps,qs,ss,rs,d,v8,v9,va,vb,vc,vd,ve,vf,e1,Io,Vq,U,rfl⟩
   cases j with
   | succ j=>rw[l6]at e1;cases e1
   | zero=>exact⟨trivial,⟨_,U.box⟩,2,3,_,_,_,_,_,_,U.ra,U.pa,U.la,U.l4,U.lq,rfl⟩
end
def Ej:Value:=(.str "hissroom.errors" 194)
def km:Value:=(.str "law_hissroom_k37_undone_and_done_again" 1017)
def WO:Value:=(.str "hissroom.bars" 497)
def n8:Value:=(.str "hissroom.stand" 521)
def sO:Value:=(.str "hissroom.room" 764)
def kk (P:Params):aa:=List.flatten [[ko 3 (U0 P "law_hissroom_k37_undone_and_done_again" 1017 [me "_wall" 193 (.ref 21),me "HissError" 213 (.ref 31),me "BadBars" 229 (.ref 44),me "BadMake" 245 (.ref 56),me "BadNumber" 261 (.ref 68),me "BadText" 277 (.ref 80),me "BadName" 293 (.ref 92),me "BadAge" 309 (.ref 104),me "BadBar" 325 (.ref 116),me "BadPlace" 341 (.ref 128),me "Taken" 357 (.ref 140),me "Full" 373 (.ref 152),me "NoTake" 389 (.ref 164),me "Shut" 405 (.ref 176),me "Joined" 421 (.ref 188),me "Needed" 437 (.ref 200),me "NothingLeft" 453 (.ref 212),me "BadSize" 469 (.ref 224),me "NoWay" 496 (.ref 243),me "is_bars" 506 (.ref 252),me "joined" 520 (.ref 259),me "MOST_LETTERS" 524 (.int 8 523),me "MOST_TAKES" 526 (.int 20 525),me "OLDEST" 528 (.int 20 527),me "Stand" 620 (.ref 316),me "put" 633 (.ref 327),me "join" 646 (.ref 334),me "found" 663 (.ref 341),me "aged" 676 (.ref 348),me "drop" 682 (.ref 353),me "free" 692 (.ref 360),me "shut" 702 (.ref 367),me "DEEDS" 717 (.ref 368),me "stand_behind" 726 (.ref 375),me "check_new" 732 (.ref 380),me "check_age" 739 (.ref 387),me "check_place" 747 (.ref 394),me "with_key" 757 (.ref 401),me "without_key" 763 (.ref 406),me "LONGEST" 767 (.int 40 766),me "Room" 1016 (.ref 612),me "_law_box" 1025 (.ref 623),me "_law_take" 1037 (.ref 630),me "_law_names" 1043 (.ref 635),me "_law_begun" 1052 (.ref 642),me "_law_bars" 1058 (.ref 647),me "_law_origin" 1072 (.ref 654),me "_law_ages" 1082 (.ref 661),me "_law_heard" 1088 (.ref 666),me "_law_takes" 1094 (.ref 671),me "_law_open" 1100 (.ref 676),me "_law_done" 1115 (.ref 683),me "_law_lone" 1121 (.ref 688),me "_law_easy" 1127 (.ref 693),me "_law_any_name" 1137 (.ref 700),me "_law_bent_deed" 1149 (.ref 707),me "_law_wild" 1160 (.ref 714),me "_law_named" 1166 (.ref 719),me "_law_new_word" 1174 (.ref 726),me "_law_place_word" 1182 (.ref 733),me "_law_put_word" 1188 (.ref 738),me "_law_join_word" 1197 (.ref 745),me "_law_take_word" 1207 (.ref 752),me "_law_word" 1215 (.ref 759),me "_law_kinds" 1221 (.ref 764),me "_law_same" 1227 (.ref 769),me "_law_stands" 1242 (.ref 776),me "_law_size" 1250 (.ref 783),me "_law_turned" 1261 (.ref 790),me "_law_right" 1267 (.ref 795),me "law" 1289 (.ref 802)])],[ko 316 ⟨.type "type",none,(.cls ⟨"Stand",[.type "object"],[.ref 316,.type "object"],315, "Stand",true,[],[],false,none,false⟩),#[none,none,(some (.str "Stand" 529)),(some (.str "Stand" 537)),(some (.builtin "object.__new__")),(some (.bool true))]⟩,ko 315 ⟨.type "dict",none,(.dict #[jw P "__module__" 536 (.str "hissroom.stand" 521),jw P "__firstlineno__" 540 (.int 56 539),jw P "__init__" 551 (.ref 273),jw P "check_there" 559 (.ref 280),jw P "parts" 567 (.ref 287),jw P "source" 581 (.ref 294),jw P "takes_by_names" 594 (.ref 301),jw P "take" 602 (.ref 308),jw P "shelf" 608 (.ref 313),jw P "__static_attributes__" 613 (.ref 314),jw P "__dict__" 615 (.ref 317),jw P "__weakref__" 617 (.ref 318),jw P "__doc__" 618 (.none)] 4),#[]⟩],[ko 612 ⟨.type "type",none,(.cls ⟨"Room",[.type "object"],[.ref 612,.type "object"],611, "Room",true,[],[],false,none,false⟩),#[none,none,(some (.str "Room" 768)),(some (.str "Room" 776)),(some (.builtin "object.__new__")),(some (.bool true))]⟩,ko 611 ⟨.type "dict",none,(.dict #[jw P "__module__" 775 (.str "hissroom.room" 764),jw P "__firstlineno__" 779 (.int 173 778),jw P "__init__" 787 (.ref 420),jw P "now" 794 (.ref 427),jw P "put" 804 (.ref 434),jw P "join" 815 (.ref 441),jw P "found" 825 (.ref 448),jw P "aged" 834 (.ref 455),jw P "drop" 842 (.ref 462),jw P "free" 850 (.ref 469),jw P "shut" 858 (.ref 476),jw P "deed" 867 (.ref 483),jw P "undo" 874 (.ref 490),jw P "redo" 881 (.ref 497),jw P "deeds" 888 (.ref 504),jw P "ahead" 895 (.ref 511),jw P "size" 902 (.ref 518),jw P "names" 909 (.ref 525),jw P "bars" 917 (.ref 532),jw P "age" 925 (.ref 539),jw P "parts" 933 (.ref 546),jw P "source" 942 (.ref 553),jw P "cuts" 952 (.ref 560),jw P "takes" 962 (.ref 567),jw P "answer" 969 (.ref 574),jw P "least" 976 (.ref 581),jw P "few" 983 (.ref 588),jw P "after" 991 (.ref 595),jw P "coming" 998 (.ref 602),jw P "twin" 1005 (.ref 609),jw P "__static_attributes__" 1009 (.ref 610),jw P "__dict__" 1011 (.ref 613),jw P "__weakref__" 1013 (.ref 614),jw P "__doc__" 1014 (.none)] 4),#[]⟩],kx P 164 163 31 "NoTake" (some (.ref 155)) 374 382 Ej 381 27 162,kx P 116 115 31 "BadBar" (some (.ref 107)) 310 318 Ej 317 19 114,kx P 92 91 31 "BadName" (some (.ref 83)) 278 286 Ej 285 15 90,kx P 140 139 31 "Taken" (some (.ref 131)) 342 350 Ej 349 23 138,kx P 152 151 31 "Full" (some (.ref 143)) 358 366 Ej 365 25 150,kx P 104 103 31 "BadAge" (some (.ref 95)) 294 302 Ej 301 17 102,kx P 128 127 31 "BadPlace" (some (.ref 119)) 326 334 Ej 333 21 126,kx P 44 43 31 "BadBars" (some (.ref 35)) 214 222 Ej 221 7 42,kx P 176 175 31 "Shut" (some (.ref 167)) 390 398 Ej 397 29 174,kx P 188 187 31 "Joined" (some (.ref 179)) 406 414 Ej 413 31 186,kx P 200 199 31 "Needed" (some (.ref 191)) 422 430 Ej 429 33 198,kx P 224 223 31 "BadSize" (some (.ref 215)) 454 462 Ej 461 37 222,kx P 212 211 31 "NothingLeft" (some (.ref 203)) 438 446 Ej 445 35 210,kx P 56 55 31 "BadMake" (some (.ref 47)) 230 238 Ej 237 9 54,kx P 68 67 31 "BadNumber" (some (.ref 59)) 246 254 Ej 253 11 66,kx P 80 79 31 "BadText" (some (.ref 71)) 262 270 Ej 269 13 78,[ko 243 ⟨.type "type",none,(.cls ⟨"NoWay",[.ref 31],[.ref 243,.ref 31,.type "ValueError",.type "Exception",.type "BaseException",.type "object"],242, "NoWay",true,[],[],false,none,false⟩),#[(some (.ref 227)),none,(some (.str "NoWay" 470)),(some (.str "NoWay" 478)),(some (.builtin "ValueError.__new__")),(some (.bool true))]⟩,ko 242 ⟨.type "dict",none,(.dict #[jw P "__module__" 477 (.str "hissroom.errors" 194),jw P "__firstlineno__" 481 (.int 39 480),jw P "__init__" 490 (.ref 240),jw P "__static_attributes__" 493 (.ref 241),jw P "__doc__" 494 (.none)] 2),#[]⟩],[ko 31 ⟨.type "type",none,(.cls ⟨"HissError",[.type "ValueError"],[.ref 31,.type "ValueError",.type "Exception",.type "BaseException",.type "object"],30, "HissError",true,[],[.ref 44,.ref 56,.ref 68,.ref 80,.ref 92,.ref 104,.ref 116,.ref 128,.ref 140,.ref 152,.ref 164,.ref 176,.ref 188,.ref 200,.ref 212,.ref 224,.ref 243],false,none,false⟩),#[(some (.ref 22)),none,(some (.str "HissError" 196)),(some (.str "HissError" 204)),(some (.builtin "ValueError.__new__")),(some (.bool true))]⟩,ko 30 ⟨.type "dict",none,(.dict #[jw P "__module__" 203 (.str "hissroom.errors" 194),jw P "__firstlineno__" 207 (.int 5 206),jw P "__static_attributes__" 208 (.ref 29),jw P "__weakref__" 210 (.ref 32),jw P "__doc__" 211 (.none)] 3),#[]⟩],mM 623 622 "_law_box" xE km 1019 274 1 617 618 (.ref 619) (.ref 620) 621 1023,mM 630 629 "_law_take" rX km 1026 276 2 624 625 (.ref 626) (.ref 627) 628 1035,mM 647 646 "_law_bars" si km 1053 309 2 643 644 .none .none 645 1056,mM 783 782 "_law_size" rY km 1243 502 2 777 778 (.ref 779) (.ref 780) 781 1248,mM 769 768 "_law_same" s_same km 1222 473 2 765 766 .none .none 767 1225,mM 252 251 "is_bars" kP WO 499 45 2 246 247 (.ref 248) (.ref 249) 250 504,mM 259 258 "joined" mw WO 507 47 3 253 254 (.ref 255) (.ref 256) 257 518,mM 401 400 "with_key" jU n8 748 165 3 395 396 (.ref 397) (.ref 398) 399 755,mM 406 405 "without_key" ij n8 758 169 2 402 403 .none .none 404 761,kf 273 272 "__init__" "Stand.__init__" gA n8 541 58 5 267 268 (.ref 269) (.ref 270) 271 549,kf 280 279 "check_there" "Stand.check_there" fS n8 552 64 2 274 275 (.ref 276) (.ref 277) 278 557,kf 287 286 "parts" "Stand.parts" ip n8 560 68 2 281 282 (.ref 283) (.ref 284) 285 565,kf 294 293 "source" "Stand.source" hG n8 568 72 3 288 289 (.ref 290) (.ref 291) 292 579,kf 301 300 "takes_by_names" "Stand.takes_by_names" fB n8 582 84 1 295 296 (.ref 297) (.ref 298) 299 592,kf 308 307 "take" "Stand.take" iN n8 595 94 2 302 303 (.ref 304) (.ref 305) 306 600,kf 313 312 "shelf" "Stand.shelf" il n8 603 98 1 309 310 .none .none 311 606,mM 380 379 "check_new" jc n8 727 152 2 376 377 .none .none 378 730,mM 387 386 "check_age" jd n8 733 159 1 381 382 (.ref 383) (.ref 384) 385 737,mM 394 393 "check_place" ik n8 740 162 2 388 389 (.ref 390) (.ref 391) 392 745,mM 327 326 "put" xC n8 621 101 2 321 322 (.ref 323) (.ref 324) 325 631,mM 334 333 "join" r8 n8 634 109 2 328 329 (.ref 330) (.ref 331) 332 644,mM 341 340 "found" oB n8 647 118 2 335 336 (.ref 337) (.ref 338) 339 661,mM 348 347 "aged" sq n8 664 126 2 342 343 (.ref 344) (.ref 345) 346 674,mM 353 352 "drop" se n8 677 133 2 349 350 .none .none 351 680,mM 360 359 "free" r9 n8 683 140 2 354 355 (.ref 356) (.ref 357) 358 690,mM 367 366 "shut" rZ n8 693 144 2 361 362 (.ref 363) (.ref 364) 365 700,mM 375 374 "stand_behind" g9 n8 718 149 2 369 370 (.ref 371) (.ref 372) 373 724,kf 420 419 "__init__" "Room.__init__" gN sO 780 175 2 414 415 (.ref 416) (.ref 417) 418 785,kf 427 426 "now" "Room.now" jY sO 788 182 1 421 422 (.ref 423) (.ref 424) 425 792,kf 483 482 "deed" "Room.deed" ji sO 859 206 2 477 478 (.ref 479) (.ref 480) 481 865,kf 504 503 "deeds" "Room.deeds" iR sO 882 224 1 498 499 (.ref 500) (.ref 501) 502 886,kf 511 510 "ahead" "Room.ahead" iS sO 889 227 1 505 506 (.ref 507) (.ref 508) 509 893,kf 518 517 "size" "Room.size" jg sO 896 230 1 512 513 (.ref 514) (.ref 515) 516 900,kf 525 524 "names" "Room.names" iQ sO 903 233 1 519 520 (.ref 521) (.ref 522) 523 907,kf 532 531 "bars" "Room.bars" jk sO 910 236 2 526 527 (.ref 528) (.ref 529) 530 915,kf 539 538 "age" "Room.age" jZ sO 918 239 2 533 534 (.ref 535) (.ref 536) 537 923,kf 546 545 "parts" "Room.parts" iP sO 926 242 2 540 541 (.ref 542) (.ref 543) 544 931,kf 553 552 "source" "Room.source" iq sO 934 245 3 547 548 (.ref 549) (.ref 550) 551 940,kf 560 559 "cuts" "Room.cuts" jj sO 943 248 1 554 555 (.ref 556) (.ref 557) 558 950,kf 567 566 "takes" "Room.takes" iO sO 953 252 1 561 562 (.ref 563) (.ref 564) 565 960,kf 490 489 "undo" "Room.undo" jf sO 868 212 1 484 485 (.ref 486) (.ref 487) 488 872,kf 497 496 "redo" "Room.redo" jh sO 875 218 1 491 492 (.ref 493) (.ref 494) 495 879,mM 635 634 "_law_names" ow km 1038 292 2 631 632 .none .none 633 1041,mM 642 641 "_law_begun" oC km 1044 306 2 636 637 (.ref 638) (.ref 639) 640 1050,mM 654 653 "_law_origin" mv km 1059 322 3 648 649 (.ref 650) (.ref 651) 652 1070,mM 661 660 "_law_ages" sj km 1073 329 1 655 656 (.ref 657) (.ref 658) 659 1080,mM 666 665 "_law_heard" oA km 1083 335 2 662 663 .none .none 664 1086,mM 671 670 "_law_takes" ot km 1089 338 1 667 668 .none .none 669 1092,mM 676 675 "_law_open" r0 km 1095 341 1 672 673 .none .none 674 1098,mM 683 682 "_law_done" sf km 1101 343 2 677 678 (.ref 679) (.ref 680) 681 1113,mM 688 687 "_law_lone" r6 km 1116 362 1 684 685 .none .none 686 1119,mM 693 692 "_law_easy" sd km 1122 369 3 689 690 .none .none 691 1125,mM 776 775 "_law_stands" mn km 1228 483 2 770 771 (.ref 772) (.ref 773) 774 1240,mM 719 718 "_law_named" oy km 1161 414 1 715 716 .none .none 717 1164,mM 726 725 "_law_new_word" jW km 1167 416 2 720 721 (.ref 722) (.ref 723) 724 1172,mM 733 732 "_law_place_word" iM km 1175 422 2 727 728 (.ref 729) (.ref 730) 731 1180,mM 738 737 "_law_put_word" jV km 1183 424 2 734 735 .none .none 736 1186,mM 745 744 "_law_join_word" jb km 1189 431 2 739 740 (.ref 741) (.ref 742) 743 1195,mM 752 751 "_law_take_word" ja km 1198 440 2 746 747 (.ref 748) (.ref 749) 750 1205,mM 759 758 "_law_word" rV km 1208 456 2 753 754 (.ref 755) (.ref 756) 757 1213,mM 700 699 "_law_any_name" jX km 1128 390 3 694 695 (.ref 696) (.ref 697) 698 1135,mM 707 706 "_law_bent_deed" je km 1138 393 4 701 702 (.ref 703) (.ref 704) 705 1147,mM 714 713 "_law_wild" rW km 1150 406 3 708 709 (.ref 710) (.ref 711) 712 1158,mM 764 763 "_law_kinds" oz km 1216 464 1 760 761 .none .none 762 1219,mM 790 789 "_law_turned" ml km 1251 504 3 784 785 (.ref 786) (.ref 787) 788 1259,mM 795 794 "_law_right" ou km 1262 515 3 791 792 .none .none 793 1265,mM 802 801 "law" mU km 1268 521 1 796 797 (.ref 798) (.ref 799) 800 1287,[ko 368 ⟨.type "dict",none,(.dict #[jw P "put" 703 (.ref 327),jw P "join" 704 (.ref 334),jw P "found" 705 (.ref 341),jw P "aged" 706 (.ref 348),jw P "drop" 707 (.ref 353),jw P "free" 708 (.ref 360),jw P "shut" 709 (.ref 367)] 7),#[]⟩]]
def hk:W.Hook:=W.kHook kk [3,316,315,612,611,164,163,116,115,92,91,140,139,152,151,104,103,128,127,44,43,176,175,188,187,200,199,224,223,212,211,56,55,68,67,80,79,243,242,31,30,623,622,630,629,647,646,783,782,769,768,252,251,259,258,401,400,406,405,273,272,280,279,287,286,294,293,301,300,308,307,313,312,380,379,387,386,394,393,327,326,334,333,341,340,348,347,353,352,360,359,367,366,375,374,420,419,427,426,483,482,504,503,511,510,518,517,525,524,532,531,539,538,546,545,553,552,560,559,567,566,490,489,497,496,635,634,642,641,654,653,661,660,666,665,671,670,676,675,683,682,688,687,693,692,776,775,719,718,726,725,733,732,738,737,745,744,752,751,759,758,700,699,707,706,714,713,764,763,790,789,795,794,802,801,368] (fun _=>by kernel_rfl)
def lw:W.OpenLaw:=PySem.Challenge.rw_hissroom_k37_undone_and_done_again
def qq:ae:={ lw.prog with main:={ lw.prog.main with body:=[mU]}}
def ll:List Str:=[sS "_wall",sS "HissError",sS "BadBars",sS "BadMake",sS "BadNumber",sS "BadText",sS "BadName",sS "BadAge",sS "BadBar",sS "BadPlace",sS "Taken",sS "Full",sS "NoTake",sS "Shut",sS "Joined",sS "Needed",sS "NothingLeft",sS "BadSize",sS "NoWay",sS "is_bars",sS "joined",sS "MOST_LETTERS",sS "MOST_TAKES",sS "OLDEST",sS "Stand",sS "put",sS "join",sS "found",sS "aged",sS "drop",sS "free",sS "shut",sS "DEEDS",sS "stand_behind",sS "check_new",sS "check_age",sS "check_place",sS "with_key",sS "without_key",sS "LONGEST",sS "Room",sS "_law_box",sS "_law_take",sS "_law_names",sS "_law_begun",sS "_law_bars",sS "_law_origin",sS "_law_ages",sS "_law_heard",sS "_law_takes",sS "_law_open",sS "_law_done",sS "_law_lone",sS "_law_easy",sS "_law_any_name",sS "_law_bent_deed",sS "_law_wild",sS "_law_named",sS "_law_new_word",sS "_law_place_word",sS "_law_put_word",sS "_law_join_word",sS "_law_take_word",sS "_law_word",sS "_law_kinds",sS "_law_same",sS "_law_stands",sS "_law_size",sS "_law_turned",sS "_law_right"]
def xt (s:ah):Bool:=W.xlAt qq [] s&&W.recOk (W.RowW.records lw.row.toRowW) s
def U3:Hl lw.prog qq ll xt hk.obs hk.val 6986 "special-get-raises" false:=fun w os=>by kernel_rfl
def U2:Hl lw.prog qq ll xt hk.obs hk.val 6986 "special-get-raises" true:=fun w os=>by kernel_rfl
def left:W.LeftO lw.prog qq ll xt hk.obs hk.val 6986:=Ks (by kernel_rfl) rfl (fun s=>by kernel_rfl) rfl U3.at U2.at
def Xz:lw.wellSaid=true:=(congrFun W.Fast.te9446332074065402090 lw).trans (by kernel_rfl)
def dd:DefRec:=⟨"law",iV mU,hX mU,dR mU,SA mU⟩
def holds (F:W.WalkO qq ll (W.XL qq []) hk.says lw.row.toRowW dd [] (fun f vs=>PySem.call f vs)):lw.Holds:=W.holds_law Xz fun k1=>W.holds_open (q:=qq) (loose:=ll) (Xt:=xt) (XP:=W.XL qq []) (d:=dd) (kwd:=[]) left hk.of hk.keeps (fun s e=>W.xl_of s (Bool.and_eq_true_iff.mp e).1) W.XL.keeps (by kernel_rfl) (by kernel_rfl) rfl (fun s e=>W.recFacts_of (Bool.and_eq_true_iff.mp e).2) rfl k1 (by kernel_rfl) ⟨rfl,rfl,rfl,rfl,rfl,by kernel_rfl⟩ ⟨[.list []],by kernel_rfl,by kernel_rfl⟩ F
abbrev lx (f:ae->af->aa->(Str->Option Value)->Heap->Prop)(w:af)(mg:Str->Option Value)(dD:Heap):Prop:=f lw.prog w (kk w.params) mg dD
def fq (w:af)(x q:Str)(s:Stmt)(f:ai)(pm:Value)(c:ai)(l:(kk w.params).lookup f=some (Vx x q s pm c):=by kernel_rfl)(c':W.codeIn (kk w.params) (.ref c) q=true:=by kernel_rfl)(k:W.keepIn (kk w.params) (.ref f)=true:=by kernel_rfl):=EW l c' k
def mO (w:af)(x:Str)(s:Stmt)(f:ai)(pm:Value)(c:ai)(l:(kk w.params).lookup f=some (Vx x x s pm c):=by kernel_rfl)(c':W.codeIn (kk w.params) (.ref c) x=true:=by kernel_rfl)(k:W.keepIn (kk w.params) (.ref f)=true:=by kernel_rfl):=EW l c' k
set_option maxHeartbeats 40000000 in
def fin:W.WalkO qq ll (W.XL qq []) hk.says lw.row.toRowW dd [] (fun f vs=>PySem.call f vs):=by
 refine L2.MU (l:=lw) (d:=dd) (n:=63) (k:=13) (x := "_law_script") (K:=kk) (CX:=fun _=>kJ) (sp:=fun w=>Pq (kk w.params)) rfl (by decide) rfl ⟨rfl,by decide,by decide⟩ (fun w h Y=>W.kIn_of Y) (fun w mg fa h X G hfa=>?_) (fun _ _ a ns hl _ hS=>⟨a,ns,rfl,hS,hl,fun _=>rfl⟩) fun _ _ _ _ _ z=>z
 have e:=hfa.symm.trans (b7 X G (show W.nsIn (kk w.params) mainGlobals "law"=sr 802 by kernel_rfl))
 cases e
 have T:jx mg:=⟨bq X G (by kernel_rfl),bq X G (by kernel_rfl),bq X G (by kernel_rfl),bq X G (by kernel_rfl),bq X G (by kernel_rfl),bq X G (by kernel_rfl),bq X G (by kernel_rfl),bq X G (by kernel_rfl),bq X G (by kernel_rfl),bq X G (by kernel_rfl),bq X G (by kernel_rfl),bq X G (by kernel_rfl),bq X G (by kernel_rfl),bq X G (by kernel_rfl),bq X G (by kernel_rfl),bq X G (by kernel_rfl),bq X G (by kernel_rfl)⟩
 have TV:mg "ValueError"=none:=bq X G (by kernel_rfl)
 have dG:gM (kk w.params) dQ:=⟨⟨by kernel_rfl,by kernel_rfl,by kernel_rfl,by kernel_rfl⟩,by kernel_rfl,by kernel_rfl,by kernel_rfl,by kernel_rfl⟩
 have dZ:jP (kk w.params) ee:=⟨⟨by kernel_rfl,by kernel_rfl,by kernel_rfl,by kernel_rfl⟩,by kernel_rfl,by kernel_rfl,by kernel_rfl⟩
 have F0:=mO w "_law_box" xE 623 km 622
 have F1:=mO w "_law_take" rX 630 km 629
 have F2:=mO w "_law_bars" si 647 km 646
 have F3:=mO w "_law_size" rY 783 km 782
 have F4:=mO w "_law_same" s_same 769 km 768
 have F5:=mO w "is_bars" kP 252 WO 251
 have F6:=mO w "joined" mw 259 WO 258
 have F7:=mO w "with_key" jU 401 n8 400
 have F8:=mO w "without_key" ij 406 n8 405
 have F9:=fq w "__init__" "Stand.__init__" gA 273 n8 272
 have F10:=fq w "check_there" "Stand.check_there" fS 280 n8 279
 have F11:=fq w "parts" "Stand.parts" ip 287 n8 286
 have F12:=fq w "source" "Stand.source" hG 294 n8 293
 have F13:=fq w "takes_by_names" "Stand.takes_by_names" fB 301 n8 300
 have F14:=fq w "take" "Stand.take" iN 308 n8 307
 have F15:=fq w "shelf" "Stand.shelf" il 313 n8 312
 have F16:=mO w "check_new" jc 380 n8 379
 have F17:=mO w "check_age" jd 387 n8 386
 have F18:=mO w "check_place" ik 394 n8 393
 have F19:=mO w "put" xC 327 n8 326
 have F20:=mO w "join" r8 334 n8 333
 have F21:=mO w "found" oB 341 n8 340
 have F22:=mO w "aged" sq 348 n8 347
 have F23:=mO w "drop" se 353 n8 352
 have F24:=mO w "free" r9 360 n8 359
 have F25:=mO w "shut" rZ 367 n8 366
 have F26:=mO w "stand_behind" g9 375 n8 374
 have F27:=fq w "__init__" "Room.__init__" gN 420 sO 419
 have Z9:=fq w "now" "Room.now" jY 427 sO 426
 have Z8:=fq w "deed" "Room.deed" ji 483 sO 482
 have Z7:=fq w "deeds" "Room.deeds" iR 504 sO 503
 have Z6:=fq w "ahead" "Room.ahead" iS 511 sO 510
 have Z5:=fq w "size" "Room.size" jg 518 sO 517
 have Z4:=fq w "names" "Room.names" iQ 525 sO 524
 have Z3:=fq w "bars" "Room.bars" jk 532 sO 531
 have Z2:=fq w "age" "Room.age" jZ 539 sO 538
 have Z1:=fq w "parts" "Room.parts" iP 546 sO 545
 have Z0:=fq w "source" "Room.source" iq 553 sO 552
 have ZZ:=fq w "cuts" "Room.cuts" jj 560 sO 559
 have ZY:=fq w "takes" "Room.takes" iO 567 sO 566
 have ZX:=fq w "undo" "Room.undo" jf 490 sO 489
 have ZW:=fq w "redo" "Room.redo" jh 497 sO 496
 have ZV:=mO w "_law_names" ow 635 km 634
 have ZU:=mO w "_law_begun" oC 642 km 641
 have ZT:=mO w "_law_origin" mv 654 km 653
 have ZR:=mO w "_law_ages" sj 661 km 660
 have ZQ:=mO w "_law_heard" oA 666 km 665
 have ZP:=mO w "_law_takes" ot 671 km 670
 have ZO:=mO w "_law_open" r0 676 km 675
 have ZN:=mO w "_law_done" sf 683 km 682
 have ZM:=mO w "_law_lone" r6 688 km 687
 have ZL:=mO w "_law_easy" sd 693 km 692
 have ZJ:=mO w "_law_stands" mn 776 km 775
 have ZI:=mO w "_law_named" oy 719 km 718
 have ZH:=mO w "_law_new_word" jW 726 km 725
 have ZG:=mO w "_law_place_word" iM 733 km 732
 have ZF:=mO w "_law_put_word" jV 738 km 737
 have ZE:=mO w "_law_join_word" jb 745 km 744
 have ZD:=mO w "_law_take_word" ja 752 km 751
 have ZC:=mO w "_law_word" rV 759 km 758
 have ZA:=mO w "_law_any_name" jX 700 km 699
 have Zz:=mO w "_law_bent_deed" je 707 km 706
 have Zy:=mO w "_law_wild" rW 714 km 713
 have Zx:=mO w "_law_kinds" oz 764 km 763
 have Zw:=mO w "_law_turned" ml 790 km 789
 have Zv:=mO w "_law_right" ou 795 km 794
 have F66:=mO w "law" mU 802 km 801
 refine⟨W.fnOf "law" "law" (iV mU) (hX mU) (dR mU) .none .none .none km none (.ref 801) .none,fun s v=>.of_eq rfl,fun dD X0 G0=>?_⟩
 have nV:=jm (x := "NoTake") (C:=wR) (h:=dD) X0 G0 (by kernel_rfl) (by kernel_rfl)
 have nY:=jm (x := "BadBar") (C:=wW) (h:=dD) X0 G0 (by kernel_rfl) (by kernel_rfl)
 have mh:=jm (x := "BadName") (C:=qL) (h:=dD) X0 G0 (by kernel_rfl) (by kernel_rfl)
 have rF:=jm (x := "Taken") (C:=Bv) (h:=dD) X0 G0 (by kernel_rfl) (by kernel_rfl)
 have uX:=jm (x := "Full") (C:=Hd) (h:=dD) X0 G0 (by kernel_rfl) (by kernel_rfl)
 have nZ:=jm (x := "BadAge") (C:=wX) (h:=dD) X0 G0 (by kernel_rfl) (by kernel_rfl)
 have k9:=jm (x := "BadPlace") (C:=rD) (h:=dD) X0 G0 (by kernel_rfl) (by kernel_rfl)
 have jB:=jm (x := "BadBars") (C:=qM) (h:=dD) X0 G0 (by kernel_rfl) (by kernel_rfl)
 have uW:=jm (x := "Shut") (C:=Hc) (h:=dD) X0 G0 (by kernel_rfl) (by kernel_rfl)
 have nX:=jm (x := "Joined") (C:=wV) (h:=dD) X0 G0 (by kernel_rfl) (by kernel_rfl)
 have nW:=jm (x := "Needed") (C:=wU) (h:=dD) X0 G0 (by kernel_rfl) (by kernel_rfl)
 have ma:=jm (x := "BadSize") (C:=uk) (h:=dD) X0 G0 (by kernel_rfl) (by kernel_rfl)
 have gG:=jm (x := "NothingLeft") (C:=fk) (h:=dD) X0 G0 (by kernel_rfl) (by kernel_rfl)
 have uZ:=jm (x := "BadMake") (C:=yE) (h:=dD) X0 G0 (by kernel_rfl) (by kernel_rfl)
 have qQ:=jm (x := "BadNumber") (C:=sL) (h:=dD) X0 G0 (by kernel_rfl) (by kernel_rfl)
 have uY:=jm (x := "BadText") (C:=yD) (h:=dD) X0 G0 (by kernel_rfl) (by kernel_rfl)
 have BD:Wn "NoWay" Fi mg:=⟨b7 X G (by kernel_rfl)⟩
 have qP:=jm (x := "HissError") (C:=jv) (h:=dD) X0 G0 (by kernel_rfl) (by kernel_rfl)
 have u4:BG mg "LONGEST" 40:=⟨766,b7 X G (by kernel_rfl)⟩
 have mH:BG mg "MOST_LETTERS" 8:=⟨523,b7 X G (by kernel_rfl)⟩
 have o8:BG mg "MOST_TAKES" 20:=⟨525,b7 X G (by kernel_rfl)⟩
 have yM:BG mg "OLDEST" 20:=⟨527,b7 X G (by kernel_rfl)⟩
 have Bz:Tab lw.prog w (kk w.params) mg "DEEDS" [("put",D2),("join",yH),("found",uo),("aged",yK),("drop",yJ),("free",yI),("shut",yG)]:=tab_of (x := "DEEDS") (d:=368) (n:=7) [("put",703,327),("join",704,334),("found",705,341),("aged",706,348),("drop",707,353),("free",708,360),("shut",709,367)] X G (by kernel_rfl) (by kernel_rfl) (by decide)
 have Ml:mg "put"=some (.ref D2):=b7 X G (by kernel_rfl)
 have Fx:mg "join"=some (.ref yH):=b7 X G (by kernel_rfl)
 have BE:mg "found"=some (.ref uo):=b7 X G (by kernel_rfl)
 have FC:mg "aged"=some (.ref yK):=b7 X G (by kernel_rfl)
 have FA:mg "drop"=some (.ref yJ):=b7 X G (by kernel_rfl)
 have Fy:mg "free"=some (.ref yI):=b7 X G (by kernel_rfl)
 have Fw:mg "shut"=some (.ref yG):=b7 X G (by kernel_rfl)
 have KA:∀ j,j<16->lN (kk w.params) kQ jv j:=k16 kB kB kB kB kB kB kB kB kB kB kB kB kB kB kB kB
 have C0:lx QA w mg dD:=gb X G F0 (RJ F0 T ) (Bw F0)
 have C1:lx nj w mg dD:=gb X G F1 (NO F1 T ) (pQ F1)
 have C2:lx L6 w mg dD:=gb X G F2 (NY F2 T  C1) (pQ F2)
 have C3:lx LS w mg dD:=gb X G F3 (NP F3 T  C1) (pQ F3)
 have C4:lx Bu w mg dD:=gb X G F4 ((Gv F4 T  (b7 X G (by kernel_rfl)) F4.kp (pQ F4)  5).imp fun vs H Q E h=>JD h) (pQ F4)
 have C5:lx zV w mg dD:=gb X G F5 (EG F5 T ) (pQ F5)
 have C6:lx DT w mg dD:=gb X G F6 (HS F6 T ) (MQ F6)
 have C7:lx k8 w mg dD:=gb X G F7 (Cr F7 T ) (MQ F7)
 have C8:lx ni w mg dD:=gb X G F8 (xK F8 T ) (pQ F8)
 have C9:lx fN w mg dD:=OT X G F9 (tG F9 T dG) (bd5 F9)
 have Xd:lx gP w mg dD:=ju F10 (qh F10 T dG nV) (pQ F10)
 have C11:lx lA w mg dD:=ju F11 (xO F11 T dG Xd) (pQ F11)
 have C12:lx mF w mg dD:=ju F12 (vU F12 T dG nY C11) (MQ F12)
 have C13:lx iX w mg dD:=lY F13 (nK F13 T dG C6) (Bw F13)
 have C14:lx oZ w mg dD:=ju F14 (y4 F14 T dG Xd C13) (pQ F14)
 have C15:lx nk w mg dD:=lY F15 (xN F15 T dG C13) (Bw F15)
 have C16:lx qJ w mg dD:=kG X G F16 (AI F16 T dG mh rF uX o8 mH) (pQ F16)
 have C17:lx qK w mg dD:=kG X G F17 (AJ F17 T nZ yM) (Bw F17)
 have C18:lx ly w mg dD:=kG X G F18 (xM F18 T dG k9) (pQ F18)
 have C19:lx Qz w mg dD:=kG X G F19 (RH F19 T dG jB C16 C5 C17 C7 C9) (pQ F19)
 have C20:lx LW w mg dD:=kG X G F20 (NT F20 T dG uW C16 Xd C18 C7 C9) (pQ F20)
 have C21:lx Ha w mg dD:=kG X G F21 (Kj F21 T dG jB C12 C7 C9) (pQ F21)
 have C22:lx L8 w mg dD:=kG X G F22 (N1 F22 T dG nX C11 C17 C7 C9) (pQ F22)
 have C23:lx L4 w mg dD:=kG X G F23 (NW F23 T dG nW Xd C8 C9) (pQ F23)
 have C24:lx LY w mg dD:=kG X G F24 (NU F24 T dG C18 C8 C9) (pQ F24)
 have C25:lx LU w mg dD:=kG X G F25 (NQ F25 T dG C18 C7 C9) (pQ F25)
 have C26:lx qI w mg dD:=kG X G F26 (vT F26 T Bz Ml Fx BE FC FA Fy Fw C19 C20 C21 C22 C23 C24 C25) (pQ F26)
 have C27:lx pB w mg dD:=LP X G F27 (uI F27 T dZ dG ma u4 C9) (pQ F27)
 have Ph:lx iw w mg dD:=lY Z9 (Cw Z9 T dZ) (Bw Z9)
 have C29:lx vN w mg dD:=ju Z8 (AO Z8 T dZ Ph C26) (pQ Z8)
 have C30:lx ui w mg dD:=lY Z7 (za Z7 T dZ) (Bw Z7)
 have C31:lx uj w mg dD:=lY Z6 (zb Z6 T dZ) (Bw Z6)
 have C32:lx vL w mg dD:=lY Z5 (AM Z5 T dZ dG Ph) (Bw Z5)
 have C33:lx uh w mg dD:=lY Z4 (y9 Z4 T dZ dG Ph) (Bw Z4)
 have C34:lx vP w mg dD:=ju Z3 (AR Z3 T dZ dG Ph C14) (pQ Z3)
 have C35:lx yC w mg dD:=ju Z2 (Cy Z2 T dZ dG Ph C14) (pQ Z2)
 have C36:lx ug w mg dD:=ju Z1 (y7 Z1 T dZ dG Ph C11) (pQ Z1)
 have C37:lx rR w mg dD:=ju Z0 (xP Z0 T dZ dG Ph C12) (MQ Z0)
 have C38:lx vO w mg dD:=lY ZZ (AQ ZZ T dZ dG Ph C15) (Bw ZZ)
 have C39:lx uf w mg dD:=lY ZY (y6 ZY T dZ dG Ph C15) (Bw ZY)
 have C40:lx vK w mg dD:=ju ZX (AL ZX T dZ gG) (Bw ZX)
 have C41:lx vM w mg dD:=ju ZW (AN ZW T dZ gG) (Bw ZW)
 have C42:lx G6 w mg dD:=gb X G ZV (Ke ZV T  C1) (pQ ZV)
 have C43:lx Hb w mg dD:=gb X G ZU (Kk ZU T dZ C1 C27 C42) (pQ ZU)
 have C44:lx ue w mg dD:=gb X G ZT (HR ZT T ) (MQ ZT)
 have C45:lx L7 w mg dD:=gb X G ZR (NZ ZR T ) (Bw ZR)
 have C46:lx G9 w mg dD:=gb X G ZQ (Ki ZQ T  C44) (pQ ZQ)
 have C47:lx G4 w mg dD:=gb X G ZP (Ka ZP T  C45 C46) (Bw ZP)
 have C48:lx Fh w mg dD:=gb X G ZO (NR ZO T ) (Bw ZO)
 have C49:lx L5 w mg dD:=gb X G ZN (NX ZN T  C44) (pQ ZN)
 have C50:lx LV w mg dD:=gb X G ZM (NS ZM T ) (Bw ZM)
 have C51:lx LZ w mg dD:=gb X G ZL (NV ZL T  C1 C48 C2 C50) (MQ ZL)
 have C52:lx DS w mg dD:=gb X G ZJ (HQ ZJ T dZ C4 C32 C33 C47 C39 C38 C48 C36 C34 C35 C37 C44) (pQ ZJ)
 have C53:lx G7 w mg dD:=gb X G ZI (Kg ZI T ) (Bw ZI)
 have C54:lx sJ w mg dD:=gb X G ZH (Cu ZH T  C53) (pQ ZH)
 have C55:lx oY w mg dD:=gb X G ZG (y3 ZG T ) (pQ ZG)
 have C56:lx yA w mg dD:=gb X G ZF (Ct ZF T  C54) (pQ ZF)
 have C57:lx vI w mg dD:=gb X G ZE (AH ZE T  C54 C55) (pQ ZE)
 have C58:lx vH w mg dD:=gb X G ZD (AG ZD T ) (pQ ZD)
 have C59:lx LQ w mg dD:=gb X G ZC (NM ZC T  C56 C57 C55 C58) (pQ ZC)
 have C60:lx yB w mg dD:=gb X G ZA (Cv ZA T  C1) (MQ ZA)
 have C61:lx vJ w mg dD:=gb X G Zz (AK Zz T  C1 C60) (bd4 Zz)
 have C62:lx LR w mg dD:=gb X G Zy (NN Zy T  C51 C1 C61) (MQ Zy)
 have C63:lx G8 w mg dD:=OU X G Zx (Kh Zx T TV jB uZ qQ uY mh nZ nY k9 ma rF uX nV uW nX nW gG BD) (Bw Zx)
 have C64:lx DR w mg dD:=gb X G Zw (HP Zw T dZ qP C29 C40 C41 C63) (MQ Zw)
 have C65:lx G5 w mg dD:=gb X G Zv (Kc Zv T dZ C30 C31 C4 C52) (MQ Zv)
 exact RI F66 T dZ KA C0 C1 C3 C43 C4 C64 C62 C59 C49 C65
end Pf
theorem PySem.Challenge.cw_hissroom_k37_undone_and_done_again_holds : PySem.Challenge.rw_hissroom_k37_undone_and_done_again.Holds :=
 Pf.holds Pf.fin