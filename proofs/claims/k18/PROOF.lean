import PyProof.Rows.All
import Wide.All
import OpenK.AllK
import Wide.FinOn
import Lean
import PyProof.EqAt
import PyProof.EqKinds
import PyProof.TupleCall
import PyProof.NeKinds
import PyProof.ListRange
import PyProof.MaxThree
import PyProof.DictWalks
import PyProof.Rows.SortWalk
import PyProof.Rows.TopTwo
import PyProof.RangeIter
import PyProof.ExcArgsOwn
import PyProof.ExcBaseAll.ValueError
import PyProof.ExcAttrAll.ValueError
import KE.KIsAll
import OpenK.KOwn
import PyProof.StrBlock
import PyProof.DictItems
import PyProof.DictItemsLoops
import PyProof.DictValues
import PySem.Challenge.RW_hissroom_k18_best_makes_by_number
set_option Elab.async false
set_option linter.all false
set_option maxRecDepth 100000
set_option genSizeOf false
set_option maxHeartbeats 4000000
theorem jk {α:Type _}{l:List α}{i:Nat}(h:i<l.length):l[i]?=some l[i]:=List.getElem?_eq_getElem h
theorem kM {α:Type _}{l:List α}{i:Nat}{a:α}(h:l[i]?=some a):∃ h:i<l.length,l[i]=a:=List.getElem?_eq_some_iff.mp h
theorem iu {α β:Type _}{as:List α}(f:α->β):(as.map f).length=as.length:=List.length_map f
theorem mw {α:Type _}{l:List α}{i:Nat}{a:α}(e:l[i]?=some a):a∈l:=List.mem_of_getElem? e
theorem oq {α:Type _}{as bs:List α}:(as++bs).length=as.length+bs.length:=List.length_append
theorem vR {α:Type _}{l₁ l₂:List α}{i:Nat}(h:i<l₁.length):(l₁++l₂)[i]?=l₁[i]?:=List.getElem?_append_left h
theorem pX {α:Type _}{l₁ l₂:List α}{i:Nat}(h:l₁.length<=i):(l₁++l₂)[i]?=l₂[i - l₁.length]?:=List.getElem?_append_right h
theorem nF {α:Type _}{a:α}(b:α){l:List α}(h:a∈l):a∈b::l:=List.mem_cons_of_mem b h
theorem u7 {n:Nat}:(List.range n).length=n:=List.length_range
theorem xq (n:Nat):(n:Int).toNat=n:=Int.toNat_natCast n
theorem j8 {h:PySem.Heap}{a:PySem.Addr}{u:PySem.Obj}(v:PySem.Obj)(e:h.get? a=some u):(h.push v).get? a=some u:=PySem.Heap.get?_push_of_some v e
theorem fY {α β:Type}{M:PySem.Model}{A:PySem.Around}{E:PySem.Value->PySem.Shared->Prop}{s:PySem.Shared}{m:PySem.Sem α}{f:α->PySem.Sem β}{Q:β->PySem.Shared->Prop}(h:PySem.wpAny M A m (λa s=>PySem.wpAny M A (f a) Q E s) E s):PySem.wpAny M A (m>>=f) Q E s:=PySem.wpAny_bind h
theorem jf {h:PySem.Heap}{a:PySem.Addr}{o:PySem.Obj}(e:h.get? a=some o):a<h.objs.size:=PySem.Heap.lt_size e
theorem oU {α β:Type _}{f:α->β}{l:List α}{i:Nat}:(l.map f)[i]?=(l[i]?).map f:=List.getElem?_map ..
abbrev aa:=PySem.W.Frag
abbrev ae:=PySem.Program
abbrev af:=PySem.World
abbrev ag:=PySem.FuncData
abbrev ah:=PySem.Shared
abbrev ai:=PySem.Addr
abbrev ak:=PySem.Value
abbrev ao:=List.{0}
abbrev aq:=Option.{0}
abbrev ar:=@Nat.le_refl
abbrev au:=@PySem.wpAny_pure
abbrev aw:=@List.map_cons
abbrev aA:=@List.getD_eq_getElem?_getD
abbrev aB:=@if_pos
abbrev aC:=@if_neg
abbrev aD:=@Nat.ne_of_lt
abbrev aE:=@List.size_toArray
abbrev aF:=@List.mem_cons_self
abbrev aG:=@PySem.Heap.get?_push_size
abbrev aH:=@List.not_mem_nil
abbrev aI:=@decide_eq_true
abbrev aJ:=@Bool.false_ne_true
abbrev aK:=@PySem.wpAny_field
abbrev aL:=@Nat.lt_of_lt_of_le
abbrev aM:=@Option.some.inj
abbrev aN:=@List.getElem?_set_self
abbrev aO:=@PyProof.Rows.boot_isinstance
abbrev aP:=@List.mem_cons
abbrev aQ:=@List.getElem?_set_ne
abbrev aR:=@Nat.le_add_right
abbrev aS:=@List.mem_append_right
abbrev aT:=@PySem.Heap.get?_update_other
abbrev aU:=@List.length_cons
abbrev aV:=@decide_eq_false
abbrev aW:=@Nat.le_trans
abbrev aX:=@List.getElem_of_mem
abbrev aY:=@PySem.wpAny_setField_rec
abbrev aZ:=@List.length_replicate
abbrev a6:=@Nat.sub_self
abbrev a8:=@List.map_map
abbrev a9:=@PySem.F.excBase_ValueError
abbrev ba:=@List.mem_of_mem_take
abbrev bc:=@Nat.lt_succ_of_lt
abbrev bg:=@PySem.wpAny_seqItems
abbrev bh:=@List.map_append
abbrev bj:=@PySem.Heap.size_push
abbrev bo:=@Ne.symm
abbrev bp:=@Nat.ne_of_gt
abbrev bq:=@decide_eq_true_eq
abbrev bu:=@List.drop_eq_getElem_cons
abbrev bw:=@PyProof.Rows.callWith_type1
abbrev bz:=@List.drop_of_length_le
abbrev bA:=@List.length_drop
abbrev bB:=@List.getElem?_range
abbrev bC:=@Nat.zero_le
abbrev bD:=@List.forIn_cons
abbrev bE:=@PySem.wpAny_callSpecial?_slot
abbrev bF:=@List.length_singleton
abbrev bG:=@PySem.Heap.get?_update_self
abbrev bH:=@List.length_take
abbrev bI:=@List.getElem_mem
abbrev bJ:=@Bool.and_eq_true
abbrev bL:=@Nat.lt_succ_self
abbrev bM:=@PySem.PassesOwn.never
abbrev bN:=@List.map_congr_left
abbrev bO:=@List.length_zipWith
abbrev bP:=@List.zipWith_cons_cons
abbrev bQ:=@List.take_of_length_le
abbrev bR:=@PySem.wpAny_holding
abbrev bS:=@or_false
abbrev bT:=@List.getElem?_take_of_lt
abbrev bU:=@Int.le_refl
abbrev bV:=@List.getElem?_zipWith
abbrev bW:=@List.length_set
abbrev bX:=@PySem.F.slot_zip_next
abbrev bY:=@PyProof.Rows.boot_list
abbrev bZ:=@List.set_set
abbrev b7:=@PyProof.Rows.boot_int
abbrev b8:=@PySem.W.mg_none_of
abbrev b9:=@List.cons.injEq
abbrev cc:=@PySem.wpAny_mono
abbrev cf:=@List.take_left
abbrev cg:=@List.mem_range
abbrev cj:=@PySem.wpAny_call_entry
abbrev ck:=@PyProof.Rows.boot_max
abbrev cn:=@of_decide_eq_true
abbrev cq:=@Nat.lt_of_le_of_lt
abbrev cu:=@Nat.min_eq_left
abbrev cv:=@Nat.lt_irrefl
abbrev cw:=@List.sum_cons
abbrev cx:=@List.find?_cons
abbrev cy:=@List.append_nil
abbrev cz:=@PySem.F.plain_min_loop
abbrev cA:=@congrArg
abbrev cC:=@List.ext_getElem?
abbrev cD:=@Int.le_trans
abbrev cE:=@Int.eq_ofNat_of_zero_le
abbrev cF:=@PySem.wpAny_truthy_bool
abbrev cG:=@List.append_assoc
abbrev cH:=@List.filterMap_cons
abbrev cI:=@Int.toNat_of_nonneg
abbrev cJ:=@List.foldl_cons
abbrev cK:=@PySem.wpAny_pyIter_zip
abbrev cL:=@List.zip_cons_cons
abbrev cM:=@PySem.wpAny_onRaise
abbrev cO:=@List.all_cons
abbrev cP:=@PySem.wpAny_updateSeq_pair
abbrev cQ:=@PySem.wpAny_letGo
abbrev cR:=@PySem.F.plainAttrs_list
abbrev cS:=@PyProof.Rows.boot_tuple
abbrev cU:=@PySem.F.args_zip_next_1
abbrev cV:=@List.take_succ_cons
abbrev cW:=@PyProof.Rows.boot_bool
abbrev cY:=@List.all_eq_true
abbrev cZ:=@PySem.F.entry_zip_next
abbrev c0:=@PySem.wpAny_Call_Name_kw
abbrev c3:=@List.getElem?_drop
abbrev c4:=@PySem.F.slot_tuple_iterator_next
abbrev c5:=@List.length_filter_le
abbrev c6:=@PySem.wpAny_updateSeq
abbrev c7:=@PySem.wpAny_passesOwn
abbrev c8:=@List.range_succ
abbrev c9:=@PySem.wpAny_pyIter_list
abbrev dc:=@PySem.wpAny_newObj_type
abbrev de:=@Int.zero_add
abbrev df:=@Int.le_of_lt
abbrev dg:=@PySem.Around.under_plainId
abbrev dh:=@List.any_cons
abbrev dj:=@PySem.mem_of_lookup
abbrev dk:=@List.filter_sublist
abbrev dm:=@PySem.wpAny_setField
abbrev dn:=@PySem.F.plainAttrs_str
abbrev dq:=@List.pairwise_lt_range
abbrev dr:=@Int.emod_lt_of_pos
abbrev dt:=@Int.emod_nonneg
abbrev du:=@Bool.eq_iff_iff
abbrev dw:=@PySem.wpAny_attempt
abbrev dz:=@PySem.W.kia_one
abbrev dA:=@PyProof.Rows.boot_min
abbrev dD:=@List.set_append_right
abbrev dE:=@List.filterMap_eq_map
abbrev dF:=@List.Pairwise.sublist
abbrev dG:=@PySem.F.slot_enumerate_next
abbrev dH:=@Nat.lt_trichotomy
abbrev dJ:=@PySem.wpAny_rule
abbrev dM:=@List.mem_of_mem_drop
abbrev dN:=@List.mem_append_left
abbrev dP:=@List.forIn_nil
abbrev dQ:=@Int.mul_nonneg
abbrev dR:=@Nat.lt_trans
abbrev dU:=@Nat.le_of_lt
abbrev dW:=@List.zipWith_map
abbrev dX:=@List.lookup_cons
abbrev dY:=@List.filter_cons
abbrev dZ:=@List.cons_append
abbrev d7:=@List.any_map
abbrev d9:=@List.any_eq_true
abbrev eh:=@PySem.Heap.SameBut.update
abbrev eA:=@PySem.F.plain_extend_loop
abbrev eB:=@PySem.wpAny_standAt
abbrev eE:=@PySem.wpAny_comprehension_free
abbrev eF:=@PySem.plainId_quiet
abbrev eG:=@PySem.F.type_list_append
abbrev eI:=@PySem.F.slot_list_append
abbrev eJ:=@PySem.pushCells_keeps
abbrev eK:=@PySem.codeAny_builtin
abbrev eL:=@List.of_mem_zip
abbrev eM:=@PySem.Obj.data_mapFields
abbrev eN:=@List.lookup_append
abbrev eO:=@Int.lt_or_eq_of_le
abbrev eP:=@Bool.false_eq_true
abbrev eR:=@Array.forIn_toList
abbrev eS:=@PySem.F.slot_list_index
abbrev eT:=@Nat.le_succ
abbrev eV:=@List.getElem?_replicate
abbrev eW:=@List.getElem?_cons_succ
abbrev eX:=@List.findIdx?_eq_some_iff_getElem
abbrev eY:=@PySem.wpAny_tryCatch
abbrev eZ:=@PySem.wpAny_pyIter_enum
abbrev e9:=@PySem.wpAny_newTuple
abbrev fb:=@PySem.F.entry_min_loop
abbrev fc:=@Option.isSome_map
abbrev fg:=@List.nodup_append
abbrev fh:=@List.map_nil
abbrev fj:=@List.any_eq_false
abbrev fk:=@List.Pairwise.imp
abbrev fo:=@Bool.and_false
abbrev fv:=@PySem.F.type_str_join
abbrev fw:=@PySem.F.slot_str_join
abbrev fA:=@PySem.Obj.isFreed_of_fields
abbrev fB:=@List.getElem?_eq_none
abbrev fC:=@Int.mul_ediv_add_emod
abbrev fE:=@Int.ediv_lt_of_lt_mul
abbrev fF:=@PySem.wpAny_isInstance
abbrev fG:=@Nat.min_eq_right
namespace L2
open PySem PySem.Spec PyProof.Rows
abbrev Key:=Sum Int Str
def xj:Key->ak->Bool
 |.inl k,v=>Value.isInt k v
 |.inr x,v=>Value.isStrOf x v
def Y5 (w:af):Key->Int
 |.inl k=>hashInt k
 |.inr x=>hashStr w x
def i7:∀ {k:Key} {v:ak},xj k v=true->(∃ i t,k=Sum.inl i/\v=Value.int i t)\/(∃ x t,k=Sum.inr x/\v=Value.str x t)
 | .inl i,v,h=>by
  obtain⟨t,e⟩:=Value.isInt_shape (k:=i) (v:=v) h
  exact .inl ⟨i,t,rfl,e⟩
 | .inr x,v,h=>by
  obtain⟨t,e⟩:=Value.isStrOf_shape (x:=x) (v:=v) h
  exact .inr ⟨x,t,rfl,e⟩
def Ia (i:Int)(t:Tok):xj (.inl i) (.int i t)=true:=by simp[xj,Value.isInt]
def HZ (x:Str)(t:Tok):xj (.inr x) (.str x t)=true:=by simp[xj,Value.isStrOf]
def SF (a b:Int):decide ((Sum.inl a:Key)=Sum.inl b)=(a==b):=by
 by_cases e:a=b
 .subst e;simp
 .have h:¬ (Sum.inl a:Key)=Sum.inl b:=λq=>e (Sum.inl.inj q)
  rw[aV h]
  exact(beq_eq_false_iff_ne.mpr e).symm
def SA (a b:Str):decide ((Sum.inr a:Key)=Sum.inr b)=decide (a=b):=by
 by_cases e:a=b
 .subst e;simp
 .have h:¬ (Sum.inr a:Key)=Sum.inr b:=λq=>e (Sum.inr.inj q)
  rw[aV h,aV e]
def SE (a:Int)(b:Str):decide ((Sum.inl a:Key)=Sum.inr b)=false:=aV (λq=>nomatch q)
def SD (a:Str)(b:Int):decide ((Sum.inr a:Key)=Sum.inl b)=false:=aV (λq=>nomatch q)
def ju (prog:ae)(w:af):PySem.KeyKind prog w Key where
 is:=xj
 hash:=Y5 w
 inj:=λv a b ha hb=>by
  rcases i7 ha with⟨i,t,rfl,rfl⟩|⟨x,t,rfl,rfl⟩
  .rcases i7 hb with⟨j,u,rfl,e⟩ | ⟨y,u,rfl,e⟩
   .injection e with e1 _;rw[e1]
   .exact nomatch e
  .rcases i7 hb with⟨j,u,rfl,e⟩ | ⟨y,u,rfl,e⟩
   .exact nomatch e
   .injection e with e1 _;rw[e1]
 byValue:=λk v h=>by
  rcases i7 h with⟨i,t,rfl,rfl⟩|⟨x,t,rfl,rfl⟩<;> rfl
 pyHash:=λhv h=>by
  rcases i7 hv with⟨i,t,rfl,rfl⟩|⟨x,t,rfl,rfl⟩
  .exact wpAny_pyHash_int h
  .exact wpAny_pyHash_str h
 eqBool:=λhu hv h=>by
  rcases i7 hu with⟨i,t,rfl,rfl⟩|⟨x,t,rfl,rfl⟩
  .rcases i7 hv with⟨j,u,rfl,rfl⟩ | ⟨y,u,rfl,rfl⟩
   .rw[SF]at h;exact wpAny_eqBool_int h
   .rw[SE]at h;exact SeqAt.EqAt.int_str i t y u _ _ _ _ h
  .rcases i7 hv with⟨j,u,rfl,rfl⟩ | ⟨y,u,rfl,rfl⟩
   .rw[SD]at h;exact SeqAt.EqAt.str_int x t j u _ _ _ _ h
   .rw[SA]at h;exact wpAny_eqBool_str h
 «strs»:=λk x t v h=>by
  rcases i7 h with⟨i,u,rfl,e⟩|⟨y,u,rfl,e⟩
  .exact nomatch e
  .injection e with e1 _
   subst e1
   cases v<;>rfl
def Ct (prog:ae)(w:af)(i:Int)(t:Tok):(ju prog w).is (.inl i) (.int i t)=true:=Ia i t
def Cs (prog:ae)(w:af)(x:Str)(t:Tok):(ju prog w).is (.inr x) (.str x t)=true:=HZ x t
inductive V where
 |iq|bl (b:Bool)|int (i:Int)|str (x:Str)|II (b:Array UInt8)|QO (b:UInt64)|ref (a:ai)|ty (n:String)
 deriving DecidableEq
def gD:V->ak->Prop
 |.iq,u=>u=Value.none
 |.bl b,u=>u=Value.bool b
 |.int i,u=>∃ t,u=Value.int i t
 |.str x,u=>∃ t,u=Value.str x t
 |.II b,u=>∃ t,u=Value.bytes b t
 |.QO b,u=>∃ t,u=Value.float b t
 |.ref a,u=>u=Value.ref a
 |.ty n,u=>u=Value.type n
abbrev gE:ao V->ao ak->Prop:=Paired gD
def gE.length {xs:ao V}{us:ao ak}(r:gE xs us):xs.length=us.length:=Paired.length r
def gE.get:∀ {xs:ao V} {us:ao ak} {i:Nat} {x:V},gE xs us->xs[i]?=some x->∃ u,us[i]?=some u/\gD x u
 |_,_,_,_,.nil,e=>by simp at e
 |_,_,0,_,.cons r _,e=>by simp at e;subst e;exact⟨_,rfl,r⟩
 | _,_,i+1,x,.cons _ t,e=>by
  obtain⟨u,h1,h2⟩:=gE.get (i:=i) (x:=x) t (by simpa using e)
  exact⟨u,by simpa using h1,h2⟩
def gE.set {x:V}{u:ak}(r:gD x u):∀ {xs:ao V} {us:ao ak} (i:Nat),gE xs us->gE (xs.set i x) (us.set i u)
 |_,_,_,.nil=>.nil
 |_,_,0,.cons _ t=>.cons r t
 |_,_,i+1,.cons q t=>.cons q (gE.set r i t)
def gE.append {xs ys:ao V}{us ws:ao ak}(h:gE xs us)(s:gE ys ws):gE (xs++ys) (us++ws):=by
 induction h with
 |nil=>exact s
 |cons r t ih=>exact .cons r ih
def gE.take:∀ {xs:ao V} {us:ao ak} (n:Nat),gE xs us->gE (xs.take n) (us.take n)
 |_,_,0,_=>.nil
 |_,_,_+1,.nil=>.nil
 |_,_,n+1,.cons r t=>.cons r (gE.take n t)
def gE.drop:∀ {xs:ao V} {us:ao ak} (n:Nat),gE xs us->gE (xs.drop n) (us.drop n)
 |_,_,0,r=>r
 |_,_,_+1,.nil=>.nil
 |_,_,n+1,.cons _ t=>gE.drop n t
def gE.none_of:∀ {xs:ao V} {us:ao ak} {i:Nat},gE xs us->xs[i]?=none->us[i]?=none:=λ{xs us i} r e=>by
 have h1:=r.length
 have h2:xs.length<=i:=List.getElem?_eq_none_iff.mp e
 exact List.getElem?_eq_none_iff.mpr (by lia)
def rb:aq V->aq ak->Prop
 |some v,some u=>gD v u
 |none,none=>True
 |_,_=>False
def KV {κ:Type}:ao (κ×V)->ao (κ×ak)->Prop:=Paired λ(p:κ×V) (q:κ×ak)=>p.1=q.1/\gD p.2 q.2
def kV:Key->V
 |.inl i=>.int i
 |.inr x=>.str x
inductive HO where
 |lst (xs:List V)
 |tup (xs:List V)
 |dK (kvs:List (Key×V))|dT (kvs:List (List Key×V))
 |set (S:Int->Bool) (n:Nat)
 |ins (C dx:ai) (fs:List (Str×V))
 |own (x:ai)
 |xd (fs:List (Str×V))
 |met (f x:ai)
 |XG (lo hi:Int)
 |BD (o:Obj) (u:HO)
 |PY (ps:Array ak)
 |ext (φ:Heap->Prop)
abbrev Hp:=ai->aq HO
def upd (H:Hp)(a:ai)(o:HO):Hp:=λb=>if b=a then some o else H b
def gh {H:Hp}{a:ai}{o:HO}:upd H a o a=some o:=by unfold upd;rw[aB rfl]
def gB {H:Hp}{a b:ai}{o:HO}(h:b≠a):upd H a o b=H b:=by unfold upd;rw[aC h]
def VJ {H:Hp}{a b:ai}{o u:HO}(h:H a=some o)(h':H b=some u)(d:o≠u):a≠b:=by
 intro e;subst e;rw[h]at h';exact d (aM h')
def gM {H:Hp}{a b:ai}{o:HO}(h:H a=some o)(h':H b=none):a≠b:=by
 intro e;subst e;rw[h]at h';cases h'
section
variable (P:ae)(w:af)
def jg (H:Hp)(h:Heap)(a:ai):HO->Prop
 |.lst xs=>xs.length<=sizeLine/\∃(gp:ao ak) (n:Nat),gE xs gp/\h.get? a=some { cls:=.type "list",data:=.seq gp.toArray n}
 |.tup xs=>xs.length<=sizeLine/\∃ gp:ao ak,gE xs gp/\IsTup h a gp.toArray
 |.dK kvs=>kvs.length<=sizeLine/\(a==sysModules)=false/\∃ vs,KV kvs vs/\h.DictOf (ju P w) a vs
 | .dT kvs=>kvs.length<=sizeLine/\(a==sysModules)=false/\∃ xs:ao (ao Key×ai×ak),
  Paired (λ(p:ao Key×V) (q:ao Key×ai×ak)=>p.1=q.1/\H q.2.1=some (.tup (p.1.map kV))/\gD p.2 q.2.2) kvs xs /\
  ∃ o es ep,h.get? a=some o/\o.ExactDict/\o.data=.dict es ep/\es.toList=xs.map (entryOfKey (tupleKind (ju P w)))/\(xs.map (·.1)).Nodup
 |.set S n=>h.SetOf (intKind P w) a S n
 | .ins C dx fs=>H dx=some (.own a)/\fs.length<=1000/\dx≠a/\h.get? a=some (W.instObj C dx) /\
  ∃ mA,h.Ns1 dx mA/\(∀ f,rb (fs.lookup f) (mA f))/\PySem.Within mA (fs.map (·.1))
 |.own _=>∃ o,h.get? a=some o
 |.xd fs=>∃ mA,h.Ns1 a mA/\∀ f,rb (fs.lookup f) (mA f)
 |.XG lo hi=>∃ t u v,h.get? a=some { cls:=.type "range",data:=.fields #[.int lo t,.int hi u,.int 1 v]}
 |.BD o u=>h.get? a=some o/\jg H h a u
 |.PY ps=>h.get? a=some { cls:=.none,data:=.fields ps}
 |.met f x=>h.get? a=some (W.methodObj (.ref f) (.ref x))
 |.ext φ=>φ h/\(∃ o,h.get? a=some o)/\∀ h1 h2:Heap,φ h1->(∀ o,h1.get? a=some o->h2.get? a=some o)->φ h2
def pQ (H:Hp)(h:Heap):Prop:=∀ a o,H a=some o->jg P w H h a o
end
section
variable {P:ae}{w:af}{H H':Hp}{h h':Heap}{a:ai}{o:HO}
def jg.lt (x:jg P w H h a o):a<h.objs.size:=by
 cases o with
 |lst xs=>obtain⟨_,_,_,_,e⟩:=x;exact jf e
 |tup xs=>obtain⟨_,_,_,p⟩:=x;exact p.lt
 |dK kvs=>obtain⟨_,_,_,_,o,_,_,e,_⟩:=x;exact jf e
 |dT kvs=>obtain⟨_,_,_,_,o,_,_,e,_⟩:=x;exact jf e
 |set S n=>obtain⟨o,_,_,_,e,_⟩:=x;exact jf e
 |ins C dx fs=>obtain⟨_,_,_,e,_⟩:=x;exact jf e
 |own y=>obtain⟨_,e⟩:=x;exact jf e
 |xd fs=>obtain⟨_,⟨_,_,_,e,_⟩,_⟩:=x;exact jf e
 |XG lo hi=>obtain⟨_,_,_,e⟩:=x;exact jf e
 |BD ob u=>obtain⟨e,_⟩:=x;exact jf e
 |PY ps=>exact jf (show h.get? a=some _ from x)
 |met f y=>exact jf (show h.get? a=some _ from x)
 |ext φ=>obtain⟨_,⟨_,e⟩,_⟩:=x;exact jf e
def Paired.HV {α β:Type}{F G:α->β->Prop}{l₁:ao α}{l₂:ao β}(h:Paired F l₁ l₂)(f:∀ a b,F a b->G a b):Paired G l₁ l₂:=by
 induction h with
 |nil=>exact .nil
 |cons r t ih=>exact .cons (f _ _ r) ih
def jg.zM (x:jg P w H h a o)(k:∀ b u,(b=a\/H b=some (.own a))->h.get? b=some u->h'.get? b=some u)
 (ho:∀ b,H b=some (.own a)->H' b=some (.own a)) (ht:∀ b xs,H b=some (.tup xs)->H' b=some (.tup xs)):jg P w H' h' a o:=by
 induction o with
 |lst xs=>obtain⟨z,gp,n,r,e⟩:=x;exact⟨z,gp,n,r,k _ _ (.inl rfl) e⟩
 |tup xs=>obtain⟨z,gp,r,ob,e,c⟩:=x;exact⟨z,gp,r,ob,k _ _ (.inl rfl) e,c⟩
 |dK kvs=>obtain⟨z,y,vs,r,ob,es,ep,e,c⟩:=x;exact⟨z,y,vs,r,ob,es,ep,k _ _ (.inl rfl) e,c⟩
 | dT kvs =>
  obtain⟨z,y,xs,r,ob,es,ep,e,c⟩:=x
  exact⟨z,y,xs,Paired.HV r λp q z=>⟨z.1,ht _ _ z.2.1,z.2.2⟩,ob,es,ep,k _ _ (.inl rfl) e,c⟩
 |set S n=>obtain⟨ob,es,ep,t,e,c⟩:=x;exact⟨ob,es,ep,t,k _ _ (.inl rfl) e,c⟩
 | ins C dx fs =>
  obtain⟨d,z,ne,e,mA,⟨od,es,ep,e2,c⟩,r⟩:=x
  exact⟨ho _ d,z,ne,k _ _ (.inl rfl) e,mA,⟨od,es,ep,k _ _ (.inr d) e2,c⟩,r⟩
 |own y=>obtain⟨ob,e⟩:=x;exact⟨ob,k _ _ (.inl rfl) e⟩
 |xd fs=>obtain⟨mA,⟨od,es,ep,e,c⟩,r⟩:=x;exact⟨mA,⟨od,es,ep,k _ _ (.inl rfl) e,c⟩,r⟩
 |XG lo hi=>obtain⟨t,u,v,e⟩:=x;exact⟨t,u,v,k _ _ (.inl rfl) e⟩
 |BD ob u ih=>obtain⟨e,q⟩:=x;exact⟨k _ _ (.inl rfl) e,ih q⟩
 | PY ps =>
  have e:h.get? a=some { cls:=.none,data:=.fields ps}:=x
  show h'.get? a=some { cls:=.none,data:=.fields ps}
  exact k a _ (.inl rfl) e
 | met f y =>
  have e:h.get? a=some (W.methodObj (.ref f) (.ref y)):=x
  show h'.get? a=some (W.methodObj (.ref f) (.ref y))
  exact k a _ (.inl rfl) e
 |ext φ=>obtain⟨p,⟨o,e⟩,st⟩:=x;exact⟨st _ _ p λo q=>k _ _ (.inl rfl) q,⟨o,k _ _ (.inl rfl) e⟩,st⟩
def pQ.lt (x:pQ P w H h)(e:H a=some o):a<h.objs.size:=(x a o e).lt
def pQ.fresh (x:pQ P w H h)(e:h.objs.size<=a):H a=none:=by
 cases q:H a with
 |none=>rfl
 |some u=>exact absurd (aL (x.lt q) e) (cv _)
def pQ.jz (x:pQ P w H h)(k:∀ b u,h.get? b=some u->h'.get? b=some u):pQ P w H h':=λa o e =>
 (x a o e).zM (λb u _ q=>k b u q) (λ_ q=>q) λ_ _ q=>q
def pQ.laid (x:pQ P w H h)(k:∀ b u,h.get? b=some u->h'.get? b=some u)(hp:h.objs.size<=a)(new:jg P w (upd H a o) h' a o):pQ P w (upd H a o) h':=λb u e=>by
 have hn:=x.fresh hp
 by_cases hb:b=a
 .subst hb;rw[gh]at e;cases e;exact new
 .rw[gB hb]at e
  exact(x b u e).zM (λc v _ q=>k c v q) (λc q=>by rw[gB (gM q hn)];exact q) λc xs q=>by rw[gB (gM q hn)];exact q
end
def Rd (H:Hp)(a:ai)(u:HO):Prop:=H a=some u\/∃ o,H a=some (.BD o u)
def Rd.ok {P:ae}{w:af}{H:Hp}{h:Heap}{a:ai}{u:HO}(r:Rd H a u)(x:pQ P w H h):jg P w H h a u:=by
 rcases r with r|⟨o,r⟩
 .exact x a u r
 .obtain⟨_,q⟩:=x a _ r
  exact q
def Xg:aq HO->Prop
 |some (.lst _)=>True
 |some (.dK _)=>True
 |some (.dT _)=>True
 |some (.set _ _)=>True
 |some (.ins _ _ _)=>True
 |some (.ext _)=>True
 |_=>False
section
variable {P:ae}{w:af}{H:Hp}{h h':Heap}{x e:ai}{o':HO}
def pQ.write (ok:pQ P w H h)(mu:Xg (H x))(he:e=x\/H e=some (.own x))(k:∀ b u,b≠e->h.get? b=some u->h'.get? b=some u)(UK:∃ u,h'.get? e=some u)
 (new:jg P w (upd H x o') h' x o'):pQ P w (upd H x o') h':=λb u q=>by
 have VH:∀ c y,H c=some (.own y)->c≠x:=λc y r z=>by subst z;rw[r]at mu;exact mu
 have YU:∀ c xs,H c=some (.tup xs)->c≠x:=λc xs r z=>by subst z;rw[r]at mu;exact mu
 by_cases hb:b=x
 .subst hb;rw[gh]at q;cases q;exact new
 .rw[gB hb]at q
  by_cases Tn:b=e
  .have q':H b=some (.own x):=by
    rcases he with z|z
    .exact absurd (Tn.trans z) hb
    .rw[Tn];exact z
   rw[q]at q';cases q'
   obtain⟨v,hv⟩:=UK
   exact⟨v,by rw[Tn];exact hv⟩
  .refine(ok b u q).zM (λc v hc r=>k c v ?_ r) (λc r=>by rw[gB (VH c b r)];exact r) λc xs r=>by rw[gB (YU c xs r)];exact r
   rcases hc with rfl|hc
   .exact Tn
   .rintro rfl
    rcases he with z|z
    .exact VH c b hc z
    .rw[hc]at z;cases z;exact hb rfl
end
structure Un (fs ex:List ai)(H H':Hp)(h h':Heap):Prop where
 keep:∀ b o,h.get? b=some o->H b=none->b∉fs->b∉ex->h'.get? b=some o
 slot:∀ b o,h.get? b=some o->H b=none->b∈fs->b∉ex->∃ sl,h'.get? b=some { o with slots:=sl}
 free:∀ b o,h.get? b=some o->H b=none->b∉ex->H' b=none
 there:∀ b o,h.get? b=some o->b∉ex->∃ o',h'.get? b=some o'
 x9:∀ b xs,H b=some (.tup xs)->H' b=some (.tup xs)
 xw:∀ b o u,H b=some (.BD o u)->H' b=some (.BD o u)
 ya:∀ b ps,H b=some (.PY ps)->∃ more,H' b=some (.PY (ps++more))
section
variable {fs fs' ex ex':ao ai}{H H1 H2:Hp}{h h1 h2 h':Heap}{a x e:ai}{o:HO}
def Un.any (u:Un fs ex H H1 h h1){b:ai}{ob:Obj}(q:h.get? b=some ob)(n:H b=none)(hx:b∉ex):∃ sl,h1.get? b=some { ob with slots:=sl}:=by
 by_cases hb:b∈fs
 .exact u.slot b ob q n hb hx
 .exact⟨ob.slots,u.keep b ob q n hb hx⟩
def Un.jz (k:∀ b u,h.get? b=some u->h'.get? b=some u):Un fs ex H H h h' :=
 ⟨λb ob q _ _ _=>k b ob q,λb ob q _ _ _=>⟨ob.slots,k b ob q⟩,λ_ _ _ n _=>n,λb ob q _=>⟨ob,k b ob q⟩,λ_ _ q=>q,λ_ _ _ q=>q,λ_ ps q=>⟨#[],by rw[q];simp⟩⟩
def Un.refl:Un fs ex H H h h:=Un.jz λ_ _ q=>q
def Un.laid (k:∀ b u,h.get? b=some u->h'.get? b=some u)(hp:h.objs.size<=a)(hn:H a=none):Un fs ex H (upd H a o) h h' where
 keep:=λb u q _ _ _=>k b u q
 slot:=λb u q _ _ _=>⟨u.slots,k b u q⟩
 free:=λb u q n _=>by rw[gB (aD (aL (jf q) hp))];exact n
 there:=λb u q _=>⟨u,k b u q⟩
 x9:=λb xs q=>by rw[gB (gM q hn)];exact q
 xw:=λb u xs q=>by rw[gB (gM q hn)];exact q
 ya:=λb ps q=>⟨#[],by rw[gB (gM q hn),q];simp⟩
def Un.write (mu:Xg (H x))(he:e=x\/H e=some (.own x))(k:∀ b u,b≠e->h.get? b=some u->h'.get? b=some u)(UK:∃ u,h'.get? e=some u):Un fs ex H (upd H x o) h h':=by
 have hx:∀ b,H b=none->b≠x:=λb n z=>by subst z;rw[n]at mu;exact mu
 have hb:∀ b,H b=none->b≠e:=λb n z=>by
  subst z
  rcases he with r|r
  .exact hx b n r
  .rw[n]at r;cases r
 have hm:∀ b u,H b=some u->¬ Xg (some u)->b≠x:=λb u q nm z=>by subst z;rw[q]at mu;exact nm mu
 refine⟨λb u q n _ _=>k b u (hb b n) q,λb u q n _ _=>⟨u.slots,k b u (hb b n) q⟩,λb u q n _=>by rw[gB (hx b n)];exact n,λb u q _=>?_,
  λb xs q=>by rw[gB (hm b _ q λz=>z)];exact q,λb u xs q=>by rw[gB (hm b _ q λz=>z)];exact q,λb ps q=>⟨#[],by rw[gB (hm b _ q λz=>z),q];simp⟩⟩
 by_cases Tn:b=e
 .subst Tn;exact UK
 .exact⟨u,k b u Tn q⟩
end
def Xz (h:Heap)(H:Hp):ao ai:=(List.range h.objs.size).filter λa=>(H a).isSome
def AD (h:Heap)(H:Hp):Heap:=W.hideAll h (Xz h H)
def Io (h:Heap)(H:Hp):(AD h H).objs.size=h.objs.size:=W.hideAll_size _ _
def Lr {h:Heap}{H:Hp}{b:ai}{o:Obj}(e:h.get? b=some o)(n:H b=none):(AD h H).get? b=some o :=
 W.hideAll_get _ e λhm=>by
  have q:(H b).isSome=true:=(List.mem_filter.mp hm).2
  rw[n]at q;simp at q
def Oc {h:Heap}{H:Hp}{b:ai}{o:Obj}(e:(AD h H).get? b=some o):h.get? b=some o/\H b=none:=by
 have e':h.get? b=some o:=W.of_hideAll (Xz h H) e
 refine⟨e',?_⟩
 cases q:H b with
 |none=>rfl
 | some x =>
  have hm:b∈Xz h H:=List.mem_filter.mpr ⟨List.mem_range.mpr (jf e'),by simp[q]⟩
  have z:(AD h H).get? b=none:=W.hideAll_none (Xz h H) hm
  rw[z]at e;cases e
def Pr (g h:Heap)(L:ai):ao (ai×Obj):=(List.range h.objs.size).filterMap λa=>if a=L\/(g.get? a).isSome=true then none else(h.get? a).map λo=>(a,o)
def rest (g h:Heap)(L d:ai):ao (ai×Obj):=(Pr g h L).filter λp=>decide (p.1≠d)
structure Mod (K:aa)(mg:Str->Option ak)(fJ:Heap):Prop where
 VY:K.In fJ
 glob:fJ.Ns mainGlobals mg
 blt:∃ mb,fJ.Ns builtinsNs mb/\∀ x:Str,x ≠ "__name__"->mb x=bootBuiltins x
 nolimit:fJ.NoLimit
structure Cx where
 prog:ae
 w:af
 K:aa
 mg:Str->Option ak
 fJ:Heap
 A:Around
 N:List Str
 s₀:ah
 H₀:Hp
 env:Env
 fT:List Env
 stack:List Env
 ex:List ai
 fn:Str->Bool
 gY:Bool
 pn:List (ai×Obj)
 xe:ak->ah->Prop
def AG (l:ao Env):ao ai:=l.filterMap (·.frame)
abbrev Cx.fs (X:Cx):ao ai:=AG X.fT
def W9 (sc:Scope)(x:Str):Prop:=sc.names.lookup x=some .local\/sc.names.lookup x=some .cell\/sc.names.lookup x=some .free
def Loc (sc:Scope)(x:Str):Prop:=sc.names.lookup x=some .local\/sc.names.lookup x=some .cell
def Look (env:Env)(h:Heap)(m:Str->aq ak)(x:Str)(u:ak):Prop :=
 (env.kindOf x=some .local/\m x=some u)\/((env.kindOf x=some .cell\/env.kindOf x=some .free)/\∃ c,env.cells.lookup x=some c/\h.IsCell c (some u))
structure Cx.Ok (X:Cx):Prop where
 mod:Mod X.K X.mg X.fJ
 kind:X.env.scope.kind=.function
 glob:X.env.globals=mainGlobals
 blt:X.env.builtins=builtinsNs
 above:X.s₀.heap.objs.size<=X.env.locals
 inj:∀ x y c,X.env.cells.lookup x=some c->X.env.cells.lookup y=some c->x=y
 has:∀ x,(X.env.kindOf x=some .cell\/X.env.kindOf x=some .free)->∃ c,X.env.cells.lookup x=some c
 W2:∀ x c,X.fn x=true->X.env.cells.lookup x=some c->X.s₀.heap.objs.size<=c
 hd:X.gY=true->X.A.handled=none
 frames:X.A.frames=some X.stack
 XE:X.stack=X.fT\/(X.stack=X.env::X.fT/\X.env.frame=some X.env.locals)
 UT:∀ b∈X.ex,b≠X.env.locals/\∀ x c,X.env.cells.lookup x=some c->c≠b
 bs:∀ b o,X.fJ.get? b=some o->X.s₀.heap.get? b=some o/\X.H₀ b=none
 Jf:X.fJ.objs.size<=X.s₀.heap.objs.size
 HQ:∀ b o,X.fJ.get? b=some o->b∉X.ex
 Iz:∀ b∈X.ex,b∉X.fs
 uD:X.s₀.heap.FunFrames X.fJ X.fT
 Tt:∀ b∈X.fs,X.H₀ b=none
structure Inv (X:Cx)(fI:List (ai×Obj))(σ:List (Option V))(H:Hp)(s:ah):Prop where
 ok:X.Ok
 os:s.os=X.s₀.os
 bare:AllBare s.gens
 fJ:Un X.fs X.ex X.H₀ H X.s₀.heap s.heap
 loc:∃ m,s.heap.Ns X.env.locals m/\∀(i:Nat) (x:Str) (v:V),X.N[i]?=some x->σ[i]?=some (some v)->W9 X.env.scope x->∃ u,gD v u/\Look X.env s.heap m x u
 cell:∀ x c,X.env.cells.lookup x=some c->∃ v,s.heap.IsCell c v
 free:H X.env.locals=none
 pJ:∀ x c,X.env.cells.lookup x=some c->H c=none
 pin:∀ p∈X.pn++fI,s.heap.get? p.1=some p.2/\H p.1=none/\p.1≠X.env.locals/\p.1∉X.fs/\∀ v,p.2.data≠.cell v
 iA:pQ X.prog X.w H s.heap
 len:σ.length=X.N.length
section
variable {X:Cx}{fI:ao (ai×Obj)}{σ:ao (aq V)}{H H':Hp}{s:ah}{h':Heap}
def Cx.Ok.YX (ok:X.Ok){b:ai}{o:Obj}(e:X.fJ.get? b=some o):b∉X.fs:=λhb=>by
 have:=(ok.uD.mem hb).1
 rw[e]at this;cases this
def Inv.bs (I:Inv X fI σ H s):∀ b o,X.fJ.get? b=some o->s.heap.get? b=some o/\H b=none:=λb o e =>
 ⟨I.fJ.keep b o (I.ok.bs b o e).1 (I.ok.bs b o e).2 (I.ok.YX e) (I.ok.HQ b o e),I.fJ.free b o (I.ok.bs b o e).1 (I.ok.bs b o e).2 (I.ok.HQ b o e)⟩
def Inv.bk (I:Inv X fI σ H s):∀ b o,X.fJ.get? b=some o->s.heap.get? b=some o:=λb o e=>(I.bs b o e).1
def Inv.mod (I:Inv X fI σ H s):Mod X.K X.mg X.fJ:=I.ok.mod
def Inv.vM (I:Inv X fI σ H s):X.K.In s.heap:=I.ok.mod.VY.keeps I.bk
def Inv.fr (I:Inv X fI σ H s):∃ m,Fr X.fJ X.env.locals s.heap m :=
 let ⟨m,hn,_⟩:=I.loc
 ⟨m,hn,I.bk,aW I.ok.Jf I.ok.above⟩
def Inv.lt (I:Inv X fI σ H s):X.env.locals<s.heap.objs.size:=let ⟨_,hn,_⟩:=I.loc;hn.lt
def Inv.sz (I:Inv X fI σ H s):X.s₀.heap.objs.size<=s.heap.objs.size:=aW I.ok.above (dU I.lt)
def Inv.YW (I:Inv X fI σ H s){a:ai}(h:s.heap.objs.size<=a):a∉X.fs:=λhb=>by
 obtain⟨_,o,ho,_⟩:=I.ok.uD.mem hb
 exact absurd (aL (jf ho) (aW I.sz h)) (cv _)
def Inv.Ua (I:Inv X fI σ H s):∀ x c,X.env.cells.lookup x=some c->c≠X.env.locals:=λx c e z=>by
 obtain⟨v,o,ho,hd⟩:=I.cell x c e
 obtain⟨m,⟨o',es,ep,Tb,Jd,_⟩,_⟩:=I.loc
 rw[z,Tb]at ho;cases ho;rw[Jd]at hd;cases hd
def Inv.uD (I:Inv X fI σ H s):s.heap.FunFrames X.fJ X.fT:=by
 have all:∀(l:ao Env),(∀ b∈AG l,b∈X.fs)->X.s₀.heap.FunFrames X.fJ l->s.heap.FunFrames X.fJ l:=by
  intro l
  induction l with
  |nil=>intro _ _;trivial
  | cons env r ih =>
   intro hs hl
   obtain⟨hk,⟨L,o,hf,hn,ho,hd⟩,hr⟩:=hl
   have hL:L∈X.fs:=hs L (by unfold AG;rw[cH,hf];exact aF)
   obtain⟨sl,e⟩:=I.fJ.slot L o ho (I.ok.Tt L hL) hL λz=>I.ok.Iz L z hL
   exact⟨hk,⟨L,_,hf,hn,e,hd⟩,ih (λb hb=>hs b (by unfold AG;rw[cH,hf];exact nF _ hb)) hr⟩
 exact all X.fT (λ_ hb=>hb) I.ok.uD
def Inv.stack (I:Inv X fI σ H s):s.heap.FunFrames X.fJ X.stack:=by
 rcases I.ok.XE with e|⟨e,hf⟩
 .rw[e];exact I.uD
 .rw[e]
  obtain⟨m,hn,_⟩:=I.loc
  refine .cons (by rw[I.ok.kind];decide) hf hn ?_ I.uD
  exact Heap.get?_none_of_le (aW I.ok.Jf I.ok.above)
def Inv.wG (I:Inv X fI σ H s):∀ b∈AG X.stack,b∈X.env.locals::X.fs:=λb hb=>by
 rcases I.ok.XE with e|⟨e,hf⟩
 .rw[e]at hb;exact nF _ hb
 .rw[e]at hb
  unfold AG at hb
  rw[cH,hf]at hb
  exact hb
def Inv.sG (I:Inv X fI σ H s):∀ b∈AG X.stack,H b=none:=λb hb=>by
 rcases List.mem_cons.mp (I.wG b hb)with e|hb
 .rw[e];exact I.free
 .obtain⟨_,o,ho,_⟩:=I.ok.uD.mem hb
  exact I.fJ.free b o ho (I.ok.Tt b hb) λz=>I.ok.Iz b z hb
def Inv.step {g':Array GenState}{t':Nat}{d':Drawn}{ch:ao ai}(I:Inv X fI σ H s)
 (Iq:∀ b∈ch,(b∈X.ex\/X.s₀.heap.objs.size<=b)/\b≠X.env.locals/\(∀ x c,X.env.cells.lookup x=some c->c≠b)/\∀ p∈X.pn++fI,p.1≠b)
 (keep:∀ b o,b≠X.env.locals->b∉X.fs->b∉ch->s.heap.get? b=some o->H b=none->h'.get? b=some o)
 (slot:∀ b o,b≠X.env.locals->b∈X.fs->b∉ch->s.heap.get? b=some o->H b=none->∃ sl,h'.get? b=some { o with slots:=sl}) (free:∀ b o,b∉ch->s.heap.get? b=some o->H b=none->H' b=none)
 (there:∀ b o,b∉ch->s.heap.get? b=some o->∃ o',h'.get? b=some o')
 (x9:∀ b xs,H b=some (.tup xs)->H' b=some (.tup xs)) (xw:∀ b o u,H b=some (.BD o u)->H' b=some (.BD o u)) (ya:∀ b ps,H b=some (.PY ps)->∃ more,H' b=some (.PY (ps++more)))
 (ns:∀ m,s.heap.Ns X.env.locals m->h'.Ns X.env.locals m) (iA:pQ X.prog X.w H' h') (hg:AllBare g'):
 Inv X fI σ H' {s with heap:=h',gens:=g',drawn:=d',toks:=t'}:=by
 have neL:∀ b o,X.s₀.heap.get? b=some o->b≠X.env.locals:=λb o e=>aD (aL (jf e) I.ok.above)
 have Cq:∀ b o,X.s₀.heap.get? b=some o->b∉X.ex->b∉ch:=λb o e hx hb=>by
  rcases(Iq b hb).1 with z|z
  .exact hx z
  .exact absurd (aL (jf e) z) (cv _)
 have cellK:∀ x c,X.env.cells.lookup x=some c->∀ v,s.heap.IsCell c v->h'.IsCell c v:=λx c e v ⟨o,ho,hd⟩=>by
  have VM:c∉ch:=λz=>(Iq c z).2.2.1 x c e rfl
  by_cases hc:c∈X.fs
  .obtain⟨sl,q⟩:=slot c o (I.Ua x c e) hc VM ho (I.pJ x c e)
   exact⟨_,q,hd⟩
  .exact⟨o,keep c o (I.Ua x c e) hc VM ho (I.pJ x c e),hd⟩
 refine⟨I.ok,I.os,hg,⟨λb o e n hb hx=>?_,λb o e n hb hx=>?_,λb o e n hx=>?_,λb o e hx=>?_,λb xs e=>x9 b xs (I.fJ.x9 b xs e),λb o xs e=>xw b o xs (I.fJ.xw b o xs e),λb ps e=>?_⟩,?_,λx c e=>?_,?_,λx c e=>?_,λp hp=>?_,iA,I.len⟩
 .exact keep b o (neL b o e) hb (Cq b o e hx) (I.fJ.keep b o e n hb hx) (I.fJ.free b o e n hx)
 .obtain⟨sl,e1⟩:=I.fJ.slot b o e n hb hx
  obtain⟨YK,e2⟩:=slot b _ (neL b o e) hb (Cq b o e hx) e1 (I.fJ.free b o e n hx)
  exact⟨YK,e2⟩
 .obtain⟨o',e1⟩:=I.fJ.there b o e hx
  exact free b o' (Cq b o e hx) e1 (I.fJ.free b o e n hx)
 .obtain⟨o',e1⟩:=I.fJ.there b o e hx
  exact there b o' (Cq b o e hx) e1
 .obtain⟨m1,e1⟩:=I.fJ.ya b ps e
  obtain⟨m2,e2⟩:=ya b _ e1
  exact⟨m1++m2,by rw[e2,Array.append_assoc]⟩
 .obtain⟨m,hn,hl⟩:=I.loc
  refine⟨m,ns m hn,λi x v e1 e2 e3=>?_⟩
  obtain⟨u,r,l⟩:=hl i x v e1 e2 e3
  refine⟨u,r,?_⟩
  rcases l with l|⟨k,c,e,z⟩
  .exact .inl l
  .exact .inr ⟨k,c,e,cellK x c e _ z⟩
 .obtain⟨v,z⟩:=I.cell x c e
  exact⟨v,cellK x c e v z⟩
 .obtain⟨m,⟨o,_,_,ho,_⟩,_⟩:=I.loc
  exact free _ o (λz=>(Iq _ z).2.1 rfl) ho I.free
 .obtain⟨v,o,ho,hd⟩:=I.cell x c e
  exact free c o (λz=>(Iq c z).2.2.1 x c e rfl) ho (I.pJ x c e)
 .obtain⟨e,n,ne,nf,d⟩:=I.pin p hp
  have VM:p.1∉ch:=λz=>(Iq p.1 z).2.2.2 p hp rfl
  exact⟨keep p.1 p.2 ne nf VM e n,free p.1 p.2 VM e n,ne,nf,d⟩
def Inv.un {t':Nat}(I:Inv X fI σ H s)(u:Un X.fs [] H H' s.heap h')(iA:pQ X.prog X.w H' h'):Inv X fI σ H' { s with heap:=h',toks:=t'}:=by
 obtain⟨m,⟨o,es,ep,ho,r⟩,_⟩:=id I.loc
 obtain⟨sl,hL⟩:=u.any ho I.free (by simp)
 exact I.step (g':=s.gens) (d':=s.drawn) (ch:=[]) (λ_ z=>nomatch z) (λb o _ hb _ e n=>u.keep b o e n hb (by simp)) (λb o _ hb _ e n=>u.slot b o e n hb (by simp)) (λb o _ e n=>u.free b o e n (by simp)) (λb o _ e=>u.there b o e (by simp)) u.x9 u.xw u.ya (λm' hm=>by
  obtain⟨o',es',ep',Tb,r'⟩:=hm
  rw[ho]at Tb;cases Tb
  exact⟨_,es',ep',hL,r'⟩) iA I.bare
def Inv.call {g':Array GenState}{t':Nat}{d':Drawn}{ch:ao ai}(I:Inv X fI σ H s)(u:Un (AG X.stack) ch H H' s.heap h')(iA:pQ X.prog X.w H' h')(hg:AllBare g')
 (Iq:∀ b∈ch,(b∈X.ex\/X.s₀.heap.objs.size<=b)/\b≠X.env.locals/\(∀ x c,X.env.cells.lookup x=some c->c≠b)/\∀ p∈X.pn++fI,p.1≠b):
 Inv X fI σ H' {s with heap:=h',gens:=g',drawn:=d',toks:=t'}:=by
 obtain⟨m,⟨o,es,ep,ho,r⟩,_⟩:=id I.loc
 obtain⟨sl,hL⟩:=u.any ho I.free λz=>(Iq _ z).2.1 rfl
 exact I.step (ch:=ch) Iq (λb o hL hb hc e n=>u.keep b o e n (λz=>(List.mem_cons.mp (I.wG b z)).elim hL hb) hc) (λb o _ _ hc e n=>u.any e n hc) (λb o hc e n=>u.free b o e n hc) (λb o hc e=>u.there b o e hc) u.x9 u.xw u.ya (λm' hm=>by
  obtain⟨o',es',ep',Tb,r'⟩:=hm
  rw[ho]at Tb;cases Tb
  exact⟨_,es',ep',hL,r'⟩) iA hg
def Inv.turned {t':Nat}{it:ai}(I:Inv X fI σ H s)(k:∀ b o,b≠it->s.heap.get? b=some o->h'.get? b=some o)(hn:H it=none)(hL:it≠X.env.locals)
 (h1:it∈X.ex\/X.s₀.heap.objs.size<=it) (h2:∀ x c,X.env.cells.lookup x=some c->c≠it) (h3:∀ p∈X.pn++fI,p.1≠it):Inv X fI σ H {s with heap:=h',toks:=t'}:=by
 have nit:∀ b u,H b=some u->b≠it:=λb u e z=>by rw[z,hn]at e;cases e
 refine I.step (g':=s.gens) (d':=s.drawn) (ch:=[it]) (λb hb=>?_) (λb o _ _ hc e _=>k b o (λz=>hc (by simp[z])) e) (λb o _ _ hc e _=>⟨o.slots,k b o (λz=>hc (by simp[z])) e⟩) (λ_ _ _ _ n=>n)
  (λb o hc e=>⟨o,k b o (λz=>hc (by simp[z])) e⟩) (λ_ _ e=>e) (λ_ _ _ e=>e) (λb ps e=>⟨#[],by rw[e];simp⟩) (λm hm=>?_) (λb u e=>?_) I.bare
 .have e:b=it:=by simpa using hb
  subst e
  exact⟨h1,hL,h2,h3⟩
 .obtain⟨o,es,ep,ho,r⟩:=hm
  exact⟨o,es,ep,k _ o (bo hL) ho,r⟩
 .refine(I.iA b u e).zM (λc v hc q=>k c v ?_ q) (λ_ q=>q) λ_ _ q=>q
  rcases hc with z|z
  .rw[z];exact nit b u e
  .exact nit c _ z
def Inv.tok (I:Inv X fI σ H s)(t:Nat):Inv X fI σ H {s with toks:=t}:=I.un (h':=s.heap) (t':=t) Un.refl I.iA
def Inv.jz {t':Nat}(I:Inv X fI σ H s)(k:∀ b u,s.heap.get? b=some u->h'.get? b=some u):Inv X fI σ H {s with heap:=h',toks:=t'}:=I.un (Un.jz k) (I.iA.jz k)
def Inv.laid {a:ai}{o:HO}{t':Nat}(I:Inv X fI σ H s)(k:∀ b u,s.heap.get? b=some u->h'.get? b=some u)(hp:s.heap.objs.size<=a)(new:jg X.prog X.w (upd H a o) h' a o):
 Inv X fI σ (upd H a o) {s with heap:=h',toks:=t'}:=I.un (Un.laid k hp (I.iA.fresh hp)) (I.iA.laid k hp new)
def Inv.write {x e:ai}{o:HO}{t':Nat}(I:Inv X fI σ H s)(mu:Xg (H x))(he:e=x\/H e=some (.own x))(k:∀ b u,b≠e->s.heap.get? b=some u->h'.get? b=some u)(UK:∃ u,h'.get? e=some u)
 (new:jg X.prog X.w (upd H x o) h' x o):Inv X fI σ (upd H x o) {s with heap:=h',toks:=t'}:=I.un (Un.write mu he k UK) (I.iA.write mu he k UK new)
def Inv.weak {ji:ao (aq V)}(I:Inv X fI σ H s)(hl:ji.length=σ.length)(w:∀(i:Nat) v,ji[i]?=some (some v)->σ[i]?=some (some v)):Inv X fI ji H s :=
 ⟨I.ok,I.os,I.bare,I.fJ,let ⟨m,hn,oJ⟩:=I.loc;⟨m,hn,λi x v e1 e2 e3=>oJ i x v e1 (w i v e2) e3⟩,I.cell,I.free,I.pJ,I.pin,I.iA,hl.trans I.len⟩
def Inv.sQ {pins':ao (ai×Obj)}(I:Inv X fI σ H s)(h:∀ p∈pins',s.heap.get? p.1=some p.2/\H p.1=none/\p.1≠X.env.locals/\p.1∉X.fs/\∀ v,p.2.data≠.cell v):Inv X pins' σ H s :=
 ⟨I.ok,I.os,I.bare,I.fJ,I.loc,I.cell,I.free,I.pJ,λp hp=>(List.mem_append.mp hp).elim (λz=>I.pin p (dN _ z)) (h p),I.iA,I.len⟩
def Cn {N:ao Str}(hN:N.Nodup){i j:Nat}{x:Str}(a:N[i]?=some x)(b:N[j]?=some x):i=j:=by
 obtain⟨h1,e1⟩:=kM a
 obtain⟨h2,e2⟩:=kM b
 exact(List.getElem_inj hN).mp (e1.trans e2.symm)
def yK {M:Model}{A:Around}{E:ak->ah->Prop}{i:Nat}{x:Str}{v:V}{u:ak}{Q:Unit->ah->Prop}(I:Inv X fI σ H s)(hN:X.N.Nodup)(hi:X.N[i]?=some x)(hx:Loc X.env.scope x)(r:gD v u)
 (h:∀ s',Inv X fI (σ.set i (some v)) H s'->(∃ a,Heap.SameBut a s.heap s'.heap/\(a=X.env.locals\/X.env.cells.lookup x=some a))->Q () s') (hf:X.fn x=true\/X.env.scope.names.lookup x=some .local:=by first|exact .inl rfl|exact .inr rfl|assumption):wpAny M A (storeName X.env x u) Q E s:=by
 obtain⟨m,hn,hl⟩:=id I.loc
 have ZO:(X.env.scope.kind==.class||(X.env.scope.kind==.module&&X.env.locals != X.env.globals))=false:=by rw[I.ok.kind];rfl
 have We:i<σ.length:=by rw[I.len];exact(kM hi).1
 have Ua:=I.Ua
 have tracked:∀ {a:ai} {h':Heap},(∃ o,s.heap.get? a=some o/\H a=none)->Heap.SameBut a s.heap h'->pQ X.prog X.w H h':=λ{a h'} ha hs b ob e=>by
  obtain⟨_,_,QJ⟩:=ha
  refine(I.iA b ob e).zM (λc w' hc q=>(hs.2 c ?_).trans q) (λ_ q=>q) λ_ _ q=>q
  rintro rfl
  rcases hc with rfl|hc
  .rw[QJ]at e;cases e
  .rw[QJ]at hc;cases hc
 rcases hx with hk|hk
 .refine wpAny_storeName_local hk hn (λh' Zt hs=>?_) ZO
  obtain⟨oL,_,_,hoL,_⟩:=id hn
  refine h _ ⟨I.ok,I.os,I.bare,⟨λb o e n hb hx=>?_,λb o e n hb hx=>?_,I.fJ.free,λb o e hx=>?_,I.fJ.x9,I.fJ.xw,I.fJ.ya⟩,⟨_,Zt,λj y v' e1 e2 e3=>?_⟩,λy c e=>?_,I.free,I.pJ,λp hp=>?_,tracked ⟨oL,hoL,I.free⟩ hs,by simpa using I.len⟩ ⟨_,hs,.inl rfl⟩
  .exact(hs.2 b (aD (aL (jf e) I.ok.above))).trans (I.fJ.keep b o e n hb hx)
  .obtain⟨sl,e1⟩:=I.fJ.slot b o e n hb hx
   exact⟨sl,(hs.2 b (aD (aL (jf e) I.ok.above))).trans e1⟩
  .obtain⟨o',e1⟩:=I.fJ.there b o e hx
   exact⟨o',(hs.2 b (aD (aL (jf e) I.ok.above))).trans e1⟩
  .by_cases hj:j=i
   .subst hj
    rw[hi]at e1;cases e1
    rw[aN We]at e2
    cases e2
    exact⟨u,r,.inl ⟨hk,by simp⟩⟩
   .rw[aQ (bo hj)]at e2
    obtain⟨u',r',q⟩:=hl j y v' e1 e2 e3
    refine⟨u',r',?_⟩
    rcases q with⟨k,e⟩|⟨k,c,e,z⟩
    .refine .inl ⟨k,?_⟩
     have:y≠x:=λe=>hj (Cn hN e1 (e▸hi))
     simp[this,e]
    .exact .inr ⟨k,c,e,z.sameBut hs (Ua y c e)⟩
  .obtain⟨w',z⟩:=I.cell y c e
   exact⟨w',z.sameBut hs (Ua y c e)⟩
  .obtain⟨e,n,ne,nf,d⟩:=I.pin p hp
   exact⟨(hs.2 p.1 ne).trans e,n,ne,nf,d⟩
 .have ZC:X.fn x=true:=by
   rcases hf with z|z
   .exact z
   .rw[z]at hk;cases hk
  obtain⟨c,hc⟩:=I.ok.has x (.inl hk)
  obtain⟨w',z⟩:=I.cell x c hc
  refine wpAny_storeName_cell I.ok.kind hk hc z (λh' tH hs=>?_)
  obtain⟨oc,hoc,Zs⟩:=id z
  refine h {s with heap:=h'} ⟨I.ok,I.os,I.bare,⟨λb o e n hb hx=>?_,λb o e n hb hx=>?_,I.fJ.free,λb o e hx=>?_,I.fJ.x9,I.fJ.xw,I.fJ.ya⟩,⟨m,hn.sameBut hs (bo (Ua x c hc)),λj y v' e1 e2 e3=>?_⟩,λy c' e=>?_,I.free,I.pJ,λp hp=>?_,tracked ⟨oc,hoc,I.pJ x c hc⟩ hs,by simpa using I.len⟩ ⟨c,hs,.inr hc⟩
  .exact(hs.2 b (aD (aL (jf e) (I.ok.W2 x c ZC hc)))).trans (I.fJ.keep b o e n hb hx)
  .obtain⟨sl,e1⟩:=I.fJ.slot b o e n hb hx
   exact⟨sl,(hs.2 b (aD (aL (jf e) (I.ok.W2 x c ZC hc)))).trans e1⟩
  .obtain⟨o',e1⟩:=I.fJ.there b o e hx
   exact⟨o',(hs.2 b (aD (aL (jf e) (I.ok.W2 x c ZC hc)))).trans e1⟩
  .by_cases hj:j=i
   .subst hj
    rw[hi]at e1;cases e1
    rw[aN We]at e2
    cases e2
    exact⟨u,r,.inr ⟨.inl hk,c,hc,tH⟩⟩
   .rw[aQ (bo hj)]at e2
    obtain⟨u',r',q⟩:=hl j y v' e1 e2 e3
    refine⟨u',r',?_⟩
    rcases q with q|⟨k,c',e,z'⟩
    .exact .inl q
    .refine .inr ⟨k,c',e,z'.sameBut hs ?_⟩
     rintro rfl
     exact hj (Cn hN e1 (I.ok.inj _ _ _ e hc▸hi))
  .by_cases UN:c'=c
   .subst UN;exact⟨_,tH⟩
   .obtain⟨w2,z2⟩:=I.cell y c' e
    exact⟨w2,z2.sameBut hs UN⟩
  .obtain⟨e,n,ne,nf,d⟩:=I.pin p hp
   refine⟨(hs.2 p.1 ?_).trans e,n,ne,nf,d⟩
   intro q
   rw[q,hoc]at e
   have q':oc=p.2:=aM e
   exact d w' (by rw[<- q'];exact Zs)
def wF {M:Model}{A:Around}{E:ak->ah->Prop}{i:Nat}{x:Str}{v:V}{u:ak}{Q:Unit->ah->Prop}(I:Inv X fI σ H s)(hN:X.N.Nodup)(hi:X.N[i]?=some x)(hx:Loc X.env.scope x)(r:gD v u)
 (h:∀ s',Inv X fI (σ.set i (some v)) H s'->Q () s') (hf:X.fn x=true\/X.env.scope.names.lookup x=some .local:=by first|exact .inl rfl|exact .inr rfl|assumption):wpAny M A (storeName X.env x u) Q E s:=
 yK I hN hi hx r (λs' I' _=>h s' I') hf
def Inv.Mm {s':ah}{ch:ao ai}(I:Inv X fI σ H s)(ho:s'.os=s.os)(u:Un (AG X.stack) ch H H' s.heap s'.heap)(iA:pQ X.prog X.w H' s'.heap)(hg:AllBare s'.gens)
 (Iq:∀ b∈ch,(b∈X.ex\/X.s₀.heap.objs.size<=b)/\b≠X.env.locals/\(∀ x c,X.env.cells.lookup x=some c->c≠b)/\∀ p∈X.pn++fI,p.1≠b):Inv X fI σ H' s':=by
 obtain⟨h',g',d',t',o'⟩:=s'
 have e:o'=s.os:=ho
 subst e
 exact I.call (g':=g') (t':=t') (d':=d') u iA hg Iq
end
abbrev XK:=ak->aq ai->Hp->Prop
abbrev St:=ao (aq V)
abbrev VK:=V->Hp->Prop
abbrev TE:=St->Hp->VK->Prop
abbrev TT:=St->Hp->(Bool->Hp->Prop)->Prop
abbrev TA:=St->Hp->(ao V->Hp->Prop)->Prop
structure Ends where
 nx:St->Hp->Prop
 rt:VK
 bk:St->Hp->Prop:=λ_ _=>False
 ct:St->Hp->Prop:=λ_ _=>False
abbrev TS:=Ends->St->Hp->Prop
def EP (X:Cx)(fI:ao (ai×Obj))(σ:St)(Q:VK)(u:ak)(s':ah):Prop:=∃ v H',Inv X fI σ H' s'/\gD v u/\Q v H'
def TP (X:Cx)(fI:ao (ai×Obj))(σ:St)(Q:Bool->Hp->Prop)(b:Bool)(s':ah):Prop:=∃ H',Inv X fI σ H' s'/\Q b H'
def AP (X:Cx)(fI:ao (ai×Obj))(σ:St)(Q:ao V->Hp->Prop)(us:ao ak)(s':ah):Prop:=∃ vs H',Inv X fI σ H' s'/\gE vs us/\Q vs H'
def SP (X:Cx)(fI:ao (ai×Obj))(D:Ends)(f:Flow)(s':ah):Prop :=
 match f with
 |.next=>∃ ji H',Inv X fI ji H' s'/\D.nx ji H'
 |.brk=>∃ ji H',Inv X fI ji H' s'/\D.bk ji H'
 |.cont=>∃ ji H',Inv X fI ji H' s'/\D.ct ji H'
 |.ret u=>∃ v ji H',Inv X fI ji H' s'/\gD v u/\D.rt v H'
def PE (X:Cx)(e:Expr)(t:TE):Prop :=
 ∀(fI:ao (ai×Obj)) (s:ah) (σ:St) (H:Hp) (Q:VK),Inv X fI σ H s->t σ H Q->wpAny (model X.prog X.w) X.A (eval e X.env) (EP X fI σ Q) X.xe s
def PT (X:Cx)(e:Expr)(t:TT):Prop :=
 ∀(fI:ao (ai×Obj)) (s:ah) (σ:St) (H:Hp) (Q:Bool->Hp->Prop),Inv X fI σ H s->t σ H Q->wpAny (model X.prog X.w) X.A (isTrue e X.env (eval e X.env)) (TP X fI σ Q) X.xe s
def PW (X:Cx)(e:Expr)(t:TT):Prop :=
 ∀(whole:Sem ak) (fI:ao (ai×Obj)) (s:ah) (σ:St) (H:Hp) (Q:Bool->Hp->Prop),Inv X fI σ H s->t σ H Q->wpAny (model X.prog X.w) X.A (isTrue e X.env whole) (TP X fI σ Q) X.xe s
def PW.pt {X:Cx}{e:Expr}{t:TT}(h:PW X e t):PT X e t:=h _
def PA (X:Cx)(es:ao Expr)(t:TA):Prop :=
 ∀(pos:Pos) (fI:ao (ai×Obj)) (s:ah) (σ:St) (H:Hp) (Q:ao V->Hp->Prop),Inv X fI σ H s->t σ H Q->wpAny (model X.prog X.w) X.A (spliced (backTo pos (starEach es X.env))) (AP X fI σ Q) X.xe s
def PS (X:Cx)(st:Stmt)(t:TS):Prop :=
 ∀(fI:ao (ai×Obj)) (s:ah) (σ:St) (H:Hp) (D:Ends),Inv X fI σ H s->t D σ H->wpAny (model X.prog X.w) X.A (exec st X.env) (SP X fI D) X.xe s
def Bg (X:Cx)(st:ao Stmt)(t:TS):Prop :=
 ∀(fI:ao (ai×Obj)) (s:ah) (σ:St) (H:Hp) (D:Ends),Inv X fI σ H s->t D σ H->wpAny (model X.prog X.w) X.A (execs st X.env) (SP X fI D) X.xe s
def iJ {α:Type}{t:Sem α}{Q Q':α->ah->Prop}{M:Model}{A:Around}{E:ak->ah->Prop}{s:ah}(h:wpAny M A t Q E s)(hQ:∀ a s,Q a s->Q' a s):wpAny M A t Q' E s:=cc h hQ λ_ _ x=>x
section
variable {X:Cx}
def bin {a b:Expr}{ta tb:TE}(ha:PE X a ta)(hb:PE X b tb){fI:ao (ai×Obj)}{s:ah}{σ:St}{H:Hp}{R:V->V->Hp->Prop}(I:Inv X fI σ H s)(h:ta σ H λx H1=>tb σ H1 λy H2=>R x y H2)
 {α:Type} {Q:α->ah->Prop} {f:ak->ak->Sem α}
 (hf:∀ v u s2 x y H2,Inv X fI σ H2 s2->gD x v->gD y u->R x y H2->wpAny (model X.prog X.w) X.A (f v u) Q X.xe s2):
 wpAny (model X.prog X.w) X.A (eval a X.env) (λv s₁=>wpAny (model X.prog X.w) X.A (eval b X.env) (λu s₂=>wpAny (model X.prog X.w) X.A (f v u) Q X.xe s₂) X.xe s₁) X.xe s:=by
 refine iJ (ha fI s σ H _ I h) λv s1 qX=>?_
 obtain⟨x,H1,I1,r1,q1⟩:=qX
 refine iJ (hb fI s1 σ H1 _ I1 q1) λu s2 qW=>?_
 obtain⟨y,H2,I2,r2,q2⟩:=qW
 exact hf v u s2 x y H2 I2 r1 r2 q2
def Yt (i:Nat):TE:=λσ H Q=>∃ v,σ[i]?=some (some v)/\Q v H
def tC (v:V):TE:=λ_ H Q=>Q v H
def Kl {i:Nat}{x:Str}{pos:Pos}(hN:X.N[i]?=some x)(hv:W9 X.env.scope x)(hd:(x==("__debug__" : Str))=false:=by decide)(Ew:(x==("__classdict__" : Str))=false:=by decide):PE X (.Name x pos) (Yt i):=by
 intro fI s σ H Q I h
 obtain⟨v,e,h⟩:=h
 obtain⟨m,hn,hl⟩:=I.loc
 obtain⟨u,r,l⟩:=hl i x v hN e hv
 have fin:EP X fI σ Q u s:=⟨v,H,I,r,h⟩
 rcases l with⟨hk,hm⟩|⟨hk,c,hc,u6⟩
 .exact wpAny_Name (wpAny_loadName_local I.ok.kind hk hn hm fin) hd
 .rcases hk with hk | hk
  .exact wpAny_Name (wpAny_loadName_cell I.ok.kind hk hc u6 fin) hd
  .exact wpAny_Name (wpAny_loadName_free I.ok.kind hk hc u6 fin Ew) hd
def ic {i j pos}:PE X (.Constant (.int i) j pos) (tC (.int i)):=λ_ _ _ H _ I h=>wpAny_Constant_int ⟨.int i,H,I.tok _,⟨_,rfl⟩,h⟩
def Kt {b j pos}:PE X (.Constant (.bool b) j pos) (tC (.bl b)):=λ_ _ _ H _ I h=>Constant_bool ⟨.bl b,H,I,rfl,h⟩
def RZ {j pos}:PE X (.Constant .none j pos) (tC .iq):=λ_ _ _ H _ I h=>Constant_none ⟨.iq,H,I,rfl,h⟩
def RY {x j pos}:PE X (.Constant (.str x) j pos) (tC (.str x)):=λ_ _ _ H _ I h=>Calls.Constant_str ⟨.str x,H,I.tok _,⟨_,rfl⟩,h⟩
def Gl (X:Cx)(x:Str):Prop:=X.env.kindOf x=some .globalImplicit
def Aw {E:ak->ah->Prop}{fI:ao (ai×Obj)}{s:ah}{σ:St}{H:Hp}{x:Str}{u:ak}{pos:Pos}{Q:ak->ah->Prop}(I:Inv X fI σ H s)(hg:Gl X x)(hm:X.mg x=some u)(h:Q u s)
 (hd:(x==("__debug__" : Str))=false:=by decide):wpAny (model X.prog X.w) X.A (eval (.Name x pos) X.env) Q E s:=
 Calls.Name_function_global I.ok.kind hg (Calls.loadGlobal_global (by rw[I.ok.glob];exact I.mod.glob.keeps I.bk) hm h) hd
def mj {E:ak->ah->Prop}{fI:ao (ai×Obj)}{s:ah}{σ:St}{H:Hp}{x:Str}{u:ak}{pos:Pos}{Q:ak->ah->Prop}(I:Inv X fI σ H s)(hg:Gl X x)(hm:X.mg x=none)(hv:bootBuiltins x=some u)(h:Q u s)
 (hn:x ≠ "__name__":=by decide) (hd:(x==("__debug__" : Str))=false:=by decide):wpAny (model X.prog X.w) X.A (eval (.Name x pos) X.env) Q E s:=by
 obtain⟨mb,h1,h2⟩:=I.mod.blt
 exact Calls.Name_function_global I.ok.kind hg (Calls.loadGlobal_builtin (by rw[I.ok.glob];exact I.mod.glob.keeps I.bk) hm (by rw[I.ok.blt];exact h1.keeps I.bk) ((h2 x hn).trans hv) h) hd
def jO {x:Str}{v:V}{u:ak}{pos:Pos}(hg:Gl X x)(hm:X.mg x=none)(hv:bootBuiltins x=some u)(r:gD v u)(hn:x ≠ "__name__":=by decide)(hd:(x==("__debug__" : Str))=false:=by decide):PE X (.Name x pos) (tC v) :=
 λ_ _ _ H _ I h=>mj I hg hm hv ⟨v,H,I,r,h⟩ hn hd
variable {a b:Expr}{ta tb:TE}{pos:Pos}
def PC (X:Cx)(op:CmpOp)(a b:Expr)(t:TE):Prop :=
 ∀(fI:ao (ai×Obj)) (s:ah) (σ:St) (H:Hp) (Q:VK),Inv X fI σ H s->t σ H Q ->
  wpAny (model X.prog X.w) X.A (eval a X.env) (λv s₁=>wpAny (model X.prog X.w) X.A (eval b X.env) (λu s₂=>wpAny (model X.prog X.w) X.A (compareOp op v u) (EP X fI σ Q) X.xe s₂) X.xe s₁) X.xe s
def Cp (b:Expr){op:CmpOp}(h:op≠.In)(h2:op≠.NotIn):behindInMarks op b=false:=by
 have e1:(op==CmpOp.In)=false:=by cases op<;>first|rfl|exact absurd rfl h
 have e2:(op==CmpOp.NotIn)=false:=by cases op<;>first|rfl|exact absurd rfl h2
 cases b<;>simp[behindInMarks,e1,e2]
def U6 (ta:TE):TE:=λσ H Q=>ta σ H λx H1=>Q (.bl (decide (x=.iq))) H1
def Qa (ta:TE):TE:=λσ H Q=>ta σ H λx H1=>Q (.bl (!decide (x=.iq))) H1
def gD.Cm {x:V}{v:ak}(r:gD x v):(v==Value.none)=decide (x=.iq):=by
 cases x with
 |iq=>cases r;rfl
 |bl _=>cases r;rfl
 |int _=>obtain⟨t,rfl⟩:=r;rfl
 |str _=>obtain⟨t,rfl⟩:=r;rfl
 |II _=>obtain⟨t,rfl⟩:=r;rfl
 |QO _=>obtain⟨t,rfl⟩:=r;rfl
 |ref _=>cases r;rfl
 |ty _=>cases r;rfl
def R4 {j pos'}(ha:PE X a ta):PC X .Is a (.Constant .none j pos') (U6 ta):=by
 intro fI s σ H Q I h
 refine iJ (ha fI s σ H _ I h) λv s1 rY=>?_
 obtain⟨x,H1,I1,r1,q1⟩:=rY
 exact Constant_none (is_none_gen ⟨.bl _,H1,I1,by rw[r1.Cm];rfl,q1⟩)
def FR {j pos'}(ha:PE X a ta):PC X .IsNot a (.Constant .none j pos') (Qa ta):=by
 intro fI s σ H Q I h
 refine iJ (ha fI s σ H _ I h) λv s1 qV=>?_
 obtain⟨x,H1,I1,r1,q1⟩:=qV
 exact Constant_none (isnot_none_gen ⟨.bl _,H1,I1,by rw[r1.Cm];rfl,q1⟩)
def tB (t:TE):TT:=λσ H Q=>t σ H λx H1=>∃ c,x=.bl c/\Q c H1
def R3 {op:CmpOp}{t:TE}(h:PC X op a b t)(h1:behindInMarks op b=false:=by first|exact Cp _ (by decide) (by decide)|rfl):PE X (.Compare a [op] [b] pos) t:=λfI s σ H Q I hw=>wpAny_Compare1 (h fI s σ H Q I hw) h1
def DZ {op:CmpOp}{t:TE}(h:PC X op a b t)(h1:behindInMarks op b=false:=by first | exact Cp _ (by decide) (by decide) | rfl):PT X (.Compare a [op] [b] pos) (tB t):=by
 intro fI s σ H Q I hw
 refine wpAny_isTrue_Compare1 (iJ (h fI s σ H _ I hw) λv s1 h1=>iJ h1 λu s2 h2=>iJ h2 λc s3 tF=>?_) h1
 obtain⟨x,H1,I1,r1,q1⟩:=tF
 obtain⟨d,rfl,q⟩:=q1
 cases r1
 exact cF ⟨H1,I1,q⟩
variable {tA XD:TT}{rest:ao Expr}
def Vb (t u:TT):TT:=λσ H Q=>t σ H λc H1=>if c=true then u σ H1 Q else Q false H1
def tOr (t u:TT):TT:=λσ H Q=>t σ H λc H1=>if c=true then Q true H1 else u σ H1 Q
def Yx (t:TT):TT:=λσ H Q=>t σ H λc H1=>Q (!c) H1
def pw_and1 (ha:PT X a tA):PW X (.BoolOp .And [a] pos) tA:=by
 intro wh fI s σ H Q I h
 refine isTrue_and (iJ (ha fI s σ H Q I h) λc s1 e=>?_)
 cases c with
 |true=>exact isTrue_and_nil e
 |false=>exact e
def pw_or1 (ha:PT X a tA):PW X (.BoolOp .Or [a] pos) tA:=by
 intro wh fI s σ H Q I h
 refine isTrue_or (iJ (ha fI s σ H Q I h) λc s1 e=>?_)
 cases c with
 |false=>exact isTrue_or_nil e
 |true=>exact e
def pw_and (ha:PT X a tA)(hb:PW X (.BoolOp .And (b::rest) pos) XD):PW X (.BoolOp .And (a::b::rest) pos) (Vb tA XD):=by
 intro wh fI s σ H Q I h
 refine isTrue_and (iJ (ha fI s σ H _ I h) λc s1 rB=>?_)
 obtain⟨H1,I1,q1⟩:=rB
 cases c with
 |true=>exact hb wh fI s1 σ H1 Q I1 q1
 |false=>exact⟨H1,I1,q1⟩
def pw_or (ha:PT X a tA)(hb:PW X (.BoolOp .Or (b::rest) pos) XD):PW X (.BoolOp .Or (a::b::rest) pos) (tOr tA XD):=by
 intro wh fI s σ H Q I h
 refine isTrue_or (iJ (ha fI s σ H _ I h) λc s1 rZ=>?_)
 obtain⟨H1,I1,q1⟩:=rZ
 cases c with
 |true=>exact⟨H1,I1,q1⟩
 |false=>exact hb wh fI s1 σ H1 Q I1 q1
def RO (ha:PT X a tA):PT X (.UnaryOp .Not a pos) (Yx tA):=by
 intro fI s σ H Q I h
 exact isTrue_not (ha fI s σ H (λc H1=>Q (!c) H1) I h)
def D1 {op}{t:TE}(h:PE X a t):PE X (.BoolOp op [a] pos) t:=λfI s σ H Q I hw=>BoolOp_one (h fI s σ H Q I hw)
def tIf (t:TT)(ta tb:TE):TE:=λσ H Q=>t σ H λc H1=>if c=true then ta σ H1 Q else tb σ H1 Q
def Ko {c:Expr}(hc:PT X c tA)(ha:PE X a ta)(hb:PE X b tb):PE X (.IfExp c a b pos) (tIf tA ta tb):=by
 intro fI s σ H Q I h
 refine wpAny_IfExp (iJ (hc fI s σ H _ I h) λd s1 qX=>?_)
 obtain⟨H1,I1,q1⟩:=qX
 cases d with
 |true=>exact ha fI s1 σ H1 Q I1 q1
 |false=>exact hb fI s1 σ H1 Q I1 q1
end
def pF (K:aa)(H:Hp)(a:ai)(xs:ao V):Prop :=
 Rd H a (.lst xs) \/
  ∃(o:Obj) (gp:Array ak) (n:Nat),K.lookup a=some o/\o.cls=.type "list"/\o.dict=none/\o.data=.seq gp n/\gp.size<=sizeLine/\gE xs gp.toList
def EU (K:aa)(H:Hp)(a:ai)(xs:ao V):Prop :=
 Rd H a (.tup xs) \/
  ∃(o:Obj) (gp:Array ak) (n:Nat),K.lookup a=some o/\o.cls=.type "tuple"/\o.data=.seq gp n/\gp.size<=sizeLine/\gE xs gp.toList
def absV:ak->aq V
 |.none=>some .iq
 |.bool b=>some (.bl b)
 |.int i _=>some (.int i)
 |.str x _=>some (.str x)
 |.bytes b _=>some (.II b)
 |.float b _=>some (.QO b)
 |.ref a=>some (.ref a)
 |.type n=>some (.ty n)
 |_=>none
def gD.abs {x:V}{u:ak}(r:gD x u):absV u=some x:=by
 cases x with
 |iq=>cases r;rfl
 |bl _=>cases r;rfl
 |int _=>obtain⟨t,rfl⟩:=r;rfl
 |str _=>obtain⟨t,rfl⟩:=r;rfl
 |II _=>obtain⟨t,rfl⟩:=r;rfl
 |QO _=>obtain⟨t,rfl⟩:=r;rfl
 |ref _=>cases r;rfl
 |ty _=>cases r;rfl
def gD.inj {x y:V}{u:ak}(r:gD x u)(q:gD y u):x=y:=aM (r.abs.symm.trans q.abs)
def gE.inj {xs ys:ao V}{us:ao ak}(h:gE xs us)(g:gE ys us):xs=ys:=by
 induction h generalizing ys with
 |nil=>cases g;rfl
 | cons r t ih =>
  cases g with
  |cons r' t'=>rw[r.inj r',ih t']
section
variable {X:Cx}{fI:ao (ai×Obj)}{σ:St}{H:Hp}{s:ah}{a:ai}{xs ys:ao V}
def pF.of {K:aa}(h:H a=some (.lst xs)):pF K H a xs:=.inl (.inl h)
def EU.of {K:aa}(h:H a=some (.tup xs)):EU K H a xs:=.inl (.inl h)
def Inv.list (I:Inv X fI σ H s)(h:pF X.K H a xs):∃ gp:ao ak,gE xs gp/\PlainL s.heap a gp.toArray/\xs.length<=sizeLine:=by
 rcases h with h|⟨o,gp,n,hk,hc,hd,hs,hz,r⟩
 .obtain⟨z,gp,n,r,e⟩:=h.ok I.iA
  exact⟨gp,r,⟨_,n,e,rfl,rfl,rfl⟩,z⟩
 .refine⟨gp.toList,r,⟨o,n,I.vM a o hk,hc,hd,by simpa using hs⟩,?_⟩
  have e:=r.length
  simp only[Array.length_toList]at e
  lia
def Inv.tuple (I:Inv X fI σ H s)(h:EU X.K H a xs):∃ gp:ao ak,gE xs gp/\IsTup s.heap a gp.toArray/\xs.length<=sizeLine:=by
 rcases h with h|⟨o,gp,n,hk,hc,hs,hz,r⟩
 .obtain⟨z,gp,r,p⟩:=h.ok I.iA
  exact⟨gp,r,p,z⟩
 .refine⟨gp.toList,r,⟨o,I.vM a o hk,hc,n,by simpa using hs⟩,?_⟩
  have e:=r.length
  simp only[Array.length_toList]at e
  lia
def Inv.K6 (I:Inv X fI σ H s)(h:pF X.K H a xs)(h':pF X.K H a ys):xs=ys:=by
 obtain⟨gp,r,⟨o,n,e,_,_,d⟩,_⟩:=I.list h
 obtain⟨its',r',⟨o',n',e',_,_,d'⟩,_⟩:=I.list h'
 rw[e]at e';cases e'
 rw[d]at d'
 injection d' with d1 _
 have:gp=its':=by simpa using cA Array.toList d1
 subst this
 exact r.inj r'
end
abbrev Cx.x6 (X:Cx)(E:ak->ah->Prop):Cx:={ X with xe:=E}
abbrev Cx.VG (X:Cx):Cx:=X.x6 λ_ _=>False
def Cx.Ok.x6 {X:Cx}(ok:X.Ok)(E:ak->ah->Prop):(X.x6 E).Ok :=
 ⟨ok.mod,ok.kind,ok.glob,ok.blt,ok.above,ok.inj,ok.has,ok.W2,ok.hd,ok.frames,ok.XE,ok.UT,ok.bs,ok.Jf,ok.HQ,ok.Iz,ok.uD,ok.Tt⟩
def Cx.Ok.p3 {X:Cx}{E:ak->ah->Prop}(ok:(X.x6 E).Ok):X.Ok :=
 ⟨ok.mod,ok.kind,ok.glob,ok.blt,ok.above,ok.inj,ok.has,ok.W2,ok.hd,ok.frames,ok.XE,ok.UT,ok.bs,ok.Jf,ok.HQ,ok.Iz,ok.uD,ok.Tt⟩
section
variable {X:Cx}{fI:ao (ai×Obj)}{σ:St}{H:Hp}{s:ah}{E:ak->ah->Prop}
def Inv.x6 (I:Inv X fI σ H s)(E:ak->ah->Prop):Inv (X.x6 E) fI σ H s:=⟨I.ok.x6 E,I.os,I.bare,I.fJ,I.loc,I.cell,I.free,I.pJ,I.pin,I.iA,I.len⟩
def Inv.p3 (I:Inv (X.x6 E) fI σ H s):Inv X fI σ H s:=⟨I.ok.p3,I.os,I.bare,I.fJ,I.loc,I.cell,I.free,I.pJ,I.pin,I.iA,I.len⟩
def SP.p3 {D:Ends}{f:Flow}{s':ah}(h:SP (X.x6 E) fI D f s'):SP X fI D f s':=by
 cases f with
 |next=>obtain⟨ji,H',I,q⟩:=h;exact⟨ji,H',I.p3,q⟩
 |brk=>obtain⟨ji,H',I,q⟩:=h;exact⟨ji,H',I.p3,q⟩
 |cont=>obtain⟨ji,H',I,q⟩:=h;exact⟨ji,H',I.p3,q⟩
 |ret u=>obtain⟨v,ji,H',I,r,q⟩:=h;exact⟨v,ji,H',I.p3,r,q⟩
def Bg.VG {st:ao Stmt}{t:TS}(h:Bg X.VG st t):Bg X st t:=λfI s σ H D I hw =>
 cc (h fI s σ H D (I.x6 _) hw) (λ_ _ q=>q.p3) λ_ _ z=>False.elim z
end
section
variable {X:Cx}{st:Stmt}{rest:ao Stmt}{t u:TS}{e:Expr}{te:TE}{pos:Pos}
def U5:TS:=λD σ H=>D.nx σ H
def Yv (t u:TS):TS:=λD σ H=>t { D with nx:=u D} σ H
def nN:Bg X [] U5:=λ_ _ σ H _ I h=>wpAny_execs_nil ⟨σ,H,I,h⟩
def iQ (h1:PS X st t)(h2:Bg X rest u):Bg X (st::rest) (Yv t u):=by
 intro fI s σ H D I h
 refine wpAny_execs_cons (iJ (h1 fI s σ H { D with nx:=u D} I h) λf s1 q=>?_)
 cases f with
 | next =>
  obtain⟨ji,H',I',q⟩:=q
  exact h2 fI s1 ji H' D I' q
 |ret v=>exact q
 |brk=>exact q
 |cont=>exact q
def lF (h1:PS X st t):Bg X [st] t:=by
 intro fI s σ H D I h
 refine wpAny_execs_cons (iJ (h1 fI s σ H D I h) λf s1 q=>?_)
 cases f with
 |next=>exact wpAny_execs_nil q
 |ret v=>exact q
 |brk=>exact q
 |cont=>exact q
def Inv.quiet {fI:ao (ai×Obj)}{σ:St}{H:Hp}{s:ah}(I:Inv X fI σ H s):interactive X.env=false:=by simp[interactive,I.ok.kind]
def U7 (te:TE):TS:=λD σ H=>te σ H λ_ H1=>D.nx σ H1
def NN (he:PE X e te)(hs:swapsWith e none pos.line X.env=pure false:=by rfl):PS X (.Expr e pos) (U7 te):=by
 intro fI s σ H D I h
 exact wpAny_Expr_any (iJ (he fI s σ H _ I h) λv s1 qW=>by obtain⟨x,H1,I1,r1,q1⟩:=qW;exact⟨σ,H1,I1,q1⟩) I.quiet hs
def Yw (te:TE):TS:=λD σ H=>te σ H D.rt
def og (he:PE X e te):PS X (.Return (some e) pos) (Yw te):=by
 intro fI s σ H D I h
 exact wpAny_Return_some (iJ (he fI s σ H _ I h) λv s1 rY=>by obtain⟨x,H1,I1,r1,q1⟩:=rY;exact⟨x,σ,H1,I1,r1,q1⟩)
def Yz (c:TT)(t u:TS):TS:=λD σ H=>c σ H λb H1=>if b=true then t D σ H1 else u D σ H1
def uW {c:Expr}{a b:ao Stmt}{tc:TT}(hc:PT X c tc)(ha:Bg X a t)(hb:Bg X b u):PS X (.If c a b pos) (Yz tc t u):=by
 intro fI s σ H D I h
 refine wpAny_If (iJ (hc fI s σ H _ I h) λd s1 qV=>?_)
 obtain⟨H1,I1,q1⟩:=qV
 cases d with
 |true=>exact ha fI s1 σ H1 D I1 q1
 |false=>exact hb fI s1 σ H1 D I1 q1
end
abbrev TG:=V->St->Hp->(St->Hp->Prop)->Prop
abbrev zB:=ao V->St->Hp->(St->Hp->Prop)->Prop
def PG (X:Cx)(target:Expr)(t:TG):Prop :=
 ∀(fI:ao (ai×Obj)) (s:ah) (σ:St) (H:Hp) (v:V) (u:ak) (Q:St->Hp->Prop),Inv X fI σ H s->gD v u->t v σ H Q ->
  wpAny (model X.prog X.w) X.A (assign target X.env u) (λ_ s'=>∃ ji H',Inv X fI ji H' s'/\Q ji H') X.xe s
def MF (X:Cx)(ts:ao Expr)(t:zB):Prop :=
 ∀(fI:ao (ai×Obj)) (s:ah) (σ:St) (H:Hp) (vs:ao V) (us:ao ak) (Q:St->Hp->Prop),Inv X fI σ H s->gE vs us->t vs σ H Q ->
  wpAny (model X.prog X.w) X.A (assignInOrder ((assignEach ts X.env).map (·.2)) us) (λ_ s'=>∃ ji H',Inv X fI ji H' s'/\Q ji H') X.xe s
abbrev ET:=V->V->V->Hp->(Hp->Prop)->Prop
def PB (X:Cx)(t:ET):Prop :=
 ∀(fI:ao (ai×Obj)) (s:ah) (σ:St) (H:Hp) (o i v:V) (ov iv u:ak) (Q:Hp->Prop),Inv X fI σ H s->gD o ov->gD i iv->gD v u->t o i v H Q ->
  wpAny (model X.prog X.w) X.A (setItem ov iv u) (λ_ s'=>∃ H',Inv X fI σ H' s'/\Q H') X.xe s
abbrev Py:=V->V->Hp->VK->Prop
def Uk (X:Cx)(op:Operator)(t:Py):Prop :=
 ∀(fI:ao (ai×Obj)) (s:ah) (σ:St) (H:Hp) (x y:V) (v u:ak) (Q:VK),Inv X fI σ H s->gD x v->gD y u->t x y H Q ->
  wpAny (model X.prog X.w) X.A (inplaceOp op v u) (EP X fI σ Q) X.xe s
section
variable {X:Cx}{pos:Pos}
def tJ (i:Nat):TG:=λv σ H Q=>Q (σ.set i (some v)) H
def vG {i:Nat}{x:Str}(hN:X.N.Nodup)(hi:X.N[i]?=some x)(hx:Loc X.env.scope x)(hf:X.fn x=true\/X.env.scope.names.lookup x=some .local:=by first | exact .inl rfl | exact .inr rfl | assumption):PG X (.Name x pos) (tJ i):=by
 intro fI s σ H v u Q I r h
 exact wpAny_assign_Name (wF I hN hi hx r (λs' I'=>⟨_,H,I',h⟩) hf)
def Z5:zB:=λvs σ H Q=>vs=[]/\Q σ H
def Wl (t:TG)(u:zB):zB:=λvs σ H Q=>∃ v r,vs=v::r/\t v σ H λji H'=>u r ji H' Q
def NW:MF X [] Z5:=by
 intro fI s σ H vs us Q I r h
 obtain⟨e,h⟩:=h
 subst e
 cases r
 exact assignInOrder_nil ⟨σ,H,I,h⟩
def Kk {e:Expr}{es:ao Expr}{t:TG}{u:zB}(h1:PG X e t)(h2:MF X es u)
 (hs:(assignEach (e::es) X.env).map (·.2)=assign e X.env::(assignEach es X.env).map (·.2):=by rfl):MF X (e::es) (Wl t u):=by
 intro fI s σ H vs us Q I r h
 obtain⟨v,vr,e1,h⟩:=h
 subst e1
 cases r with
 | cons r rr =>
  rw[hs]
  refine assignInOrder_cons (iJ (h1 fI s σ H _ _ _ I r h) λ_ s1 tF=>?_)
  obtain⟨PQ,H1,I1,q1⟩:=tF
  exact h2 fI s1 PQ H1 _ _ Q I1 rr q1
def Z3 (K:aa)(n:Nat)(t:zB):TG:=λv σ H Q=>∃ a xs,v=.ref a/\EU K H a xs/\xs.length=n/\t xs σ H Q
def RW {es:ao Expr}{k:Nat}{t:zB}{n:Nat}(hc:X.gY=true)(h:MF X es t)
 (hn:(assignEach es X.env).length=n:=by rfl) (Im:(assignEach es X.env).findIdx? (·.1)=none:=by rfl):PG X (.Tuple es k pos) (Z3 X.K n t):=by
 intro fI s σ H v u Q I r hw
 obtain⟨a,xs,e1,hq,hl,hw⟩:=hw
 subst e1
 cases r
 obtain⟨gp,rv,ht,hz⟩:=I.tuple hq
 refine assign_Tuple_tuple (I.ok.hd hc) ht (by simp[hn,<- hl,rv.length]) Im λh' hx=>?_
 have I1:Inv X fI σ H {s with heap:=h'}:=I.jz (t':=s.toks) λb o e=>hx b o (aD (jf e)) e
 exact h fI _ σ H xs _ Q I1 (by simpa using rv) hw
def Z4 (to ti:TE)(t:ET):TG:=λv σ H Q=>to σ H λo H1=>ti σ H1 λi H2=>t o i v H2 λH3=>Q σ H3
def wZ {o i:Expr}{to ti:TE}{t:ET}(ho:PE X o to)(hi:PE X i ti)(hs:PB X t)
 (ha:∀ v,assign (.Subscript o i pos) X.env v=(do
   let ov <- holding [v] (eval o X.env)
   let iv <- holding [v,ov] (eval i X.env)
   standAt pos
   holding [v,ov,iv] (setItem ov iv v)
   release [v,ov,iv] []):=by intro _;rfl):PG X (.Subscript o i pos) (Z4 to ti t):=by
 intro fI s σ H v u Q I r h
 rw[ha]
 refine fY (bR (iJ (ho fI s σ H _ I h) λov s1 rB=>?_))
 obtain⟨x,H1,I1,r1,q1⟩:=rB
 refine fY (bR (iJ (hi fI s1 σ H1 _ I1 q1) λiv s2 rZ=>?_))
 obtain⟨y,H2,I2,r2,q2⟩:=rZ
 refine fY (eB (fY (bR (iJ (hs fI s2 σ H2 x y v ov iv u _ I2 r1 r2 r q2) λ_ s3 qX=>?_))))
 obtain⟨H3,I3,q3⟩:=qX
 exact wpAny_release ⟨σ,H3,I3,q3⟩
def Rp (te:TE)(g:TG):TS:=λD σ H=>te σ H λx H1=>g x σ H1 D.nx
def ux {tg e:Expr}{te:TE}{g:TG}(he:PE X e te)(hg:PG X tg g)(hs:swapsWithSole [tg] e pos.line X.env=pure false:=by rfl)(hw:swappedStores [tg] e X.env=pure none:=by rfl)
 (h1:(assignEach [tg] X.env).map (·.2)=[assign tg X.env]:=by rfl):PS X (.Assign [tg] e pos) (Rp te g):=by
 intro fI s σ H D I h
 refine wpAny_Assign_stores (iJ (he fI s σ H _ I h) λv s1 qW=>?_) hs hw
 obtain⟨x,H1,I1,r1,q1⟩:=qW
 rw[h1]
 exact iJ (hg fI s1 σ H1 x v _ I1 r1 q1) λ_ s2 q=>q
def uw {i:Nat}{x:Str}{e:Expr}{te:TE}{pos':Pos}(hN:X.N.Nodup)(hi:X.N[i]?=some x)(hx:Loc X.env.scope x)(he:PE X e te)(hs:swapsWith e (some (.Name x pos')) pos.line X.env=pure false:=by rfl)(hf:X.fn x=true\/X.env.scope.names.lookup x=some .local:=by first | exact .inl rfl | exact .inr rfl | assumption):
 PS X (.Assign [.Name x pos'] e pos) (Rp te (tJ i)):=by
 intro fI s σ H D I h
 refine wpAny_Assign_Name (iJ (he fI s σ H _ I h) λv s1 rY=>?_) hs
 obtain⟨y,H1,I1,r1,q1⟩:=rY
 exact wF I1 hN hi hx r1 (λs2 I2=>⟨_,H1,I2,q1⟩) hf
def YG (i:Nat)(te:TE)(ti:Py):TS:=λD σ H=>∃ x,σ[i]?=some (some x)/\te σ H λy H1=>ti x y H1 λz H2=>D.nx (σ.set i (some z)) H2
def RR {i:Nat}{x:Str}{e:Expr}{te:TE}{op:Operator}{ti:Py}{pos':Pos}(hN:X.N.Nodup)(hi:X.N[i]?=some x)(hx:Loc X.env.scope x)(he:PE X e te)(ho:Uk X op ti)(hf:X.fn x=true\/X.env.scope.names.lookup x=some .local:=by first | exact .inl rfl | exact .inr rfl | assumption):
 PS X (.AugAssign (.Name x pos') op e pos) (YG i te ti):=by
 intro fI s σ H D I h
 obtain⟨v,e1,h⟩:=h
 obtain⟨m,hn,hl⟩:=I.loc
 have vis:W9 X.env.scope x:=by rcases hx with k|k;exact .inl k;exact .inr (.inl k)
 obtain⟨u,r,l⟩:=hl i x v hi e1 vis
 refine wpAny_AugAssign_Name ?_
 have go:wpAny (model X.prog X.w) X.A (eval e X.env) (λw s₂=>wpAny (model X.prog X.w) X.A (inplaceOp op u w) (λr s₃=>wpAny (model X.prog X.w) X.A (storeName X.env x r) (λ_=>SP X fI D .next) X.xe s₃) X.xe s₂) X.xe s:=by
  refine iJ (he fI s σ H _ I h) λw s1 qV=>?_
  obtain⟨y,H1,I1,r1,q1⟩:=qV
  refine iJ (ho fI s1 σ H1 v y u w _ I1 r r1 q1) λz s2 tF=>?_
  obtain⟨zv,H2,I2,r2,q2⟩:=tF
  exact wF I2 hN hi hx r2 (λs3 I3=>⟨_,H2,I3,q2⟩) hf
 rcases l with⟨hk,hm⟩|⟨hk,c,hc,u6⟩
 .exact wpAny_loadName_local I.ok.kind hk hn hm go
 .rcases hk with hk | hk
  .exact wpAny_loadName_cell I.ok.kind hk hc u6 go
  .rcases hx with k | k
   .have:X.env.scope.names.lookup x=some .free:=hk
    rw[k]at this;cases this
   .have:X.env.scope.names.lookup x=some .free:=hk
    rw[k]at this;cases this
def Va (to ti te:TE)(Nf:V->V->Hp->VK->Prop)(XB:Py)(Nc:ET):TS:=λD σ H=>to σ H λo H1=>ti σ H1 λi H2=>Nf o i H2 λx H3=>te σ H3 λy H4=>XB x y H4 λz H5=>Nc o i z H5 λH6=>D.nx σ H6
def Xf (X:Cx)(t:V->V->Hp->VK->Prop):Prop :=
 ∀(fI:ao (ai×Obj)) (s:ah) (σ:St) (H:Hp) (o i:V) (ov iv:ak) (Q:VK),Inv X fI σ H s->gD o ov->gD i iv->t o i H Q ->
  wpAny (model X.prog X.w) X.A (getItem ov iv) (EP X fI σ Q) X.xe s
def NO {o i e:Expr}{to ti te:TE}{Nf:V->V->Hp->VK->Prop}{XB:Py}{Nc:ET}{op:Operator}{tpos:Pos}(ho:PE X o to)(hi:PE X i ti)(hg:Xf X Nf)(he:PE X e te)(hp:Uk X op XB)(hs:PB X Nc)
 (ha:∀ ov iv new,augStore i ov iv new=(do holding [new,ov,iv] (setItem ov iv new);release [new,ov,iv] [];pure .next):=by intros;rfl):PS X (.AugAssign (.Subscript o i tpos) op e pos) (Va to ti te Nf XB Nc):=by
 intro fI s σ H D I h
 refine wpAny_AugAssign_SubscriptAny (iJ (ho fI s σ H _ I h) λov s1 rB=>?_) ha
 obtain⟨x1,H1,I1,r1,q1⟩:=rB
 refine iJ (hi fI s1 σ H1 _ I1 q1) λiv s2 rZ=>?_
 obtain⟨x2,H2,I2,r2,q2⟩:=rZ
 refine iJ (hg fI s2 σ H2 x1 x2 ov iv _ I2 r1 r2 q2) λold s3 qX=>?_
 obtain⟨x3,H3,I3,r3,q3⟩:=qX
 refine iJ (he fI s3 σ H3 _ I3 q3) λv s4 qW=>?_
 obtain⟨x4,H4,I4,r4,q4⟩:=qW
 refine iJ (hp fI s4 σ H4 x3 x4 old v _ I4 r3 r4 q4) λnew s5 rY=>?_
 obtain⟨x5,H5,I5,r5,q5⟩:=rY
 exact iJ (hs fI s5 σ H5 x1 x2 x5 ov iv new _ I5 r1 r2 r5 q5) λ_ s6 qV=>by obtain⟨H6,I6,q6⟩:=qV;exact⟨σ,H6,I6,q6⟩
def ipI (f:Int->Int->Int):Py:=λx y H Q=>∃ i j,x=.int i/\y=.int j/\Q (.int (f i j)) H
def SO:Uk X .Add (ipI λi j=>i+j):=by
 intro fI s σ H x y v u Q I r1 r2 h
 obtain⟨i,j,e1,e2,q⟩:=h
 subst e1;subst e2
 obtain⟨t,rfl⟩:=r1
 obtain⟨t',rfl⟩:=r2
 exact iadd_int ⟨.int _,H,I.tok _,⟨_,rfl⟩,q⟩
def SN:Uk X .Sub (ipI λi j=>i - j):=by
 intro fI s σ H x y v u Q I r1 r2 h
 obtain⟨i,j,e1,e2,q⟩:=h
 subst e1;subst e2
 obtain⟨t,rfl⟩:=r1
 obtain⟨t',rfl⟩:=r2
 exact isub_int ⟨.int _,H,I.tok _,⟨_,rfl⟩,q⟩
end
section
variable {X:Cx}{pos:Pos}
def Rj (c:TT)(tb:TS):TS:=λD σ H=>∃ W:Nat->St->Hp->Prop,(∃ m,W m σ H)/\∀ m σ H,W m σ H ->
 c σ H λb H1=>if b=true then ∃ N:St->Hp->Prop,(∀ ji H',N ji H'->∃ m',m'<m/\W m' ji H')/\tb { D with nx:=N,ct:=N,bk:=D.nx} σ H1 else D.nx σ H1
def Ke {c:Expr}{body:ao Stmt}{tc:TT}{tb:TS}(hp:PassesOwn (model X.prog X.w) X.A X.env X.xe)(hc:PT X c tc)(hb:Bg X body tb):PS X (.While c body [] pos) (Rj tc tb):=by
 intro fI s σ H D I h
 obtain⟨W,⟨m0,w0⟩,turn⟩:=h
 refine wpAny_While (codeAny_whileLoop (λn s'=>∃ ji H',Inv X fI ji H' s'/\W n ji H') ?_ m0 ⟨σ,H,I,w0⟩)
 rintro n s1 ⟨PQ,H1,I1,w1⟩
 refine c7 hp (iJ (hc fI s1 PQ H1 _ I1 (turn n PQ H1 w1)) λb s2 tF=>?_)
 obtain⟨H2,I2,q2⟩:=tF
 cases b with
 | true =>
  obtain⟨N,hN,q2⟩:=q2
  rw[aB rfl]
  refine c7 hp (iJ (hb fI s2 PQ H2 _ I2 q2) λf s3 q3=>?_)
  cases f with
  | next =>
   obtain⟨Fb,H3,I3,n3⟩:=q3
   obtain⟨m',hm,w3⟩:=hN Fb H3 n3
   exact⟨m',hm,Fb,H3,I3,w3⟩
  | cont =>
   obtain⟨Fb,H3,I3,n3⟩:=q3
   obtain⟨m',hm,w3⟩:=hN Fb H3 n3
   exact⟨m',hm,Fb,H3,I3,w3⟩
  |brk=>exact q3
  |ret v=>exact q3
 | false =>
  rw[aC aJ]
  exact wpAny_execs_nil ⟨PQ,H2,I2,q2⟩
end
structure It where
 go:Nat->Hp->Prop
 Ju:Nat->Hp->V->Hp->Prop
 stop:Nat->Hp->Prop
def mX (X:Cx)(fI:ao (ai×Obj))(H:Hp)(b:ai):Prop :=
 H b=none/\b≠X.env.locals/\b∉X.fs/\(b∈X.ex\/X.s₀.heap.objs.size<=b)/\(∀ x c,X.env.cells.lookup x=some c->c≠b)/\∀ p∈X.pn++fI,p.1≠b
def Inv.Ey {X:Cx}{fI:ao (ai×Obj)}{σ:St}{H H':Hp}{s:ah}{b:ai}(I:Inv X fI σ H s)(hb:s.heap.objs.size<=b)(hn:H' b=none):mX X fI H' b:=by
 refine⟨hn,bp (aL I.lt hb),I.YW hb,.inr (aW I.sz hb),λx c e z=>?_,λp hp z=>?_⟩
 .obtain⟨v,q⟩:=I.cell x c e
  exact absurd (aL q.lt (by rw[z];exact hb)) (cv _)
 .exact absurd (aL (jf (I.pin p hp).1) (by rw[z];exact hb)) (cv _)
structure Turn (P:ae)(w:af)(K:aa)(tg:Expr)(J:It)(fp:List ai)(it:ai)(tn:Nat->Heap->Prop)(CM:Cx->Prop:=λX=>X.gY=true):Prop where
 mem:it∈fp
 obj:∀ i h,tn i h->∀ b∈fp,∃ o,h.get? b=some o/\∀ v,o.data≠.cell v
 keep:∀ i h h',tn i h->(∀ b∈fp,∀ o,h.get? b=some o->h'.get? b=some o)->tn i h'
 item:∀(X:Cx),X.prog=P->X.w=w->X.K=K->CM X->∀(i:Nat) (fI:List (ai×Obj)) (s:ah) (σ:St) (H:Hp) (E:ak->ah->Prop),Inv X fI σ H s->(∀ b∈fp,mX X fI H b)->tn i s.heap->J.go i H ->
  wpAny (model P w) X.A (pyNext (.ref it)) (λr s1=>∃ u,r=some u /\
   wpAny (model P w) X.A (letOwnedTupleGo tg (.ref it) u) (λ_ s2=>∃ x H',Inv X fI σ H' s2/\gD x u/\J.Ju i H x H'/\tn (i+1) s2.heap/\∀ b∈fp,H' b=none) E s1) E s
 done:∀(X:Cx),X.prog=P->X.w=w->X.K=K->CM X->∀(i:Nat) (fI:List (ai×Obj)) (s:ah) (σ:St) (H:Hp) (E:ak->ah->Prop),Inv X fI σ H s->(∀ b∈fp,mX X fI H b)->tn i s.heap->J.stop i H ->
  wpAny (model P w) X.A (pyNext (.ref it)) (λr s1=>r=none/\Inv X fI σ H s1) E s
 self:∀(A:Around) (i:Nat) (s:ah) (Q:ak->ah->Prop) (E:ak->ah->Prop),tn i s.heap->Q (.ref it) s->wpAny (model P w) A (pyIter (.ref it)) Q E s
abbrev TI:=St->Hp->(It->Hp->Prop)->Prop
def PIE (X:Cx)(fI:ao (ai×Obj))(σ:St)(tg:Expr)(R:It->Hp->Prop)(V0:ak)(s2:ah):Prop :=
 ∃(it:ai) (fp:ao ai) (tn:Nat->Heap->Prop) (J:It) (H':Hp),V0=.ref it/\Inv X fI σ H' s2/\Turn X.prog X.w X.K tg J fp it tn/\tn 0 s2.heap/\(∀ b∈fp,mX X fI H' b)/\R J H'
def PI (X:Cx)(tg iter:Expr)(wi:TI):Prop :=
 ∀(fI:ao (ai×Obj)) (s:ah) (σ:St) (H:Hp) (R:It->Hp->Prop),Inv X fI σ H s->wi σ H R ->
  wpAny (model X.prog X.w) X.A (eval iter X.env) (λv s1=>wpAny (model X.prog X.w) X.A (pyIter v) (PIE X fI σ tg R) X.xe s1) X.xe s
def QL {M:Model}{A:Around}{E:ak->ah->Prop}{s:ah}{tg:Expr}{it:ai}{u:ak}{o:Obj}{n:String}{vs:Array ak}{Q:Unit->ah->Prop}(ho:s.heap.get? it=some o)(hc:o.cls=.type n)(hd:o.data=.fields vs)
 (hn:["enumerate","zip","dict_itemiterator","dict_reverseitemiterator","odict_iterator","itertools.zip_longest","itertools.pairwise"].contains n=false) (hQ:Q () s):wpAny M A (letOwnedTupleGo tg (.ref it) u) Q E s:=by
 unfold letOwnedTupleGo
 cases tg <;> first
  |exact au hQ
  | (cases u <;> first
      |exact au hQ
      | (refine fY (wpAny_load ho ?_)
         rw[hc,hd]
         show wpAny M A (if(["enumerate","zip","dict_itemiterator","dict_reverseitemiterator","odict_iterator","itertools.zip_longest","itertools.pairwise"].contains n&&vs[0]?==some (rawInt _))=true then _ else _) Q E s
         rw[aC (by intro h;rw[hn,Bool.false_and]at h;cases h)]
         exact au hQ))
def Itl (K:aa)(a:ai):It :=
 ⟨λi H=>∃ xs x,pF K H a xs/\xs[i]?=some x,λi H x H'=>H'=H/\∀ xs,pF K H a xs->xs[i]?=some x,λi H=>∃ xs,pF K H a xs/\xs.length<=i⟩
def Xi (lo:Int)(n:Nat):It:=⟨λi _=>i<n,λi H x H'=>H'=H/\x=.int (lo+i),λi _=>n<=i⟩
def Hn {P:ae}{w:af}{K:aa}{tg:Expr}(a it:ai):Turn P w K tg (Itl K a) [it] it (λi h=>h.IsListIter it a i) where
 mem:=by simp
 obj:=λi h st b hb=>by
  have e:b=it:=by simpa using hb
  subst e
  obtain⟨o,e,c,d⟩:=st
  exact⟨o,e,λv z=>by rw[d]at z;cases z⟩
 keep:=λi h h' st k=>st.at λo e=>k it (by simp) o e
 item:=by
  intro X hP hw hK hc i fI s σ H E I hf st hg
  subst hP hw hK
  obtain⟨xs,x,hq,hx⟩:=hg
  obtain⟨gp,rv,p,hz⟩:=I.list hq
  obtain⟨u,hu,ru⟩:=rv.get hx
  obtain⟨f0,f1,f2,f3,f4,f5⟩:=hf it (by simp)
  refine wpAny_pyNext_list_item st p.isList (x:=u) (by simpa using hu) λh' Vd sb=>?_
  have I1:Inv X fI σ H {s with heap:=h'}:=I.turned (t':=s.toks) (λb o hb e=>(sb.2 b hb).trans e) f0 f1 f3 f4 f5
  obtain⟨o,e,c,d⟩:=id Vd
  exact⟨u,rfl,QL (s:={s with heap:=h'}) e c d (by decide) ⟨x,H,I1,ru,⟨rfl,λys hy=>by rw[I.K6 hy hq];exact hx⟩,Vd,λb hb=>(hf b hb).1⟩⟩
 done:=by
  intro X hP hw hK hc i fI s σ H E I hf st hg
  subst hP hw hK
  obtain⟨xs,hq,hx⟩:=hg
  obtain⟨gp,rv,p,hz⟩:=I.list hq
  obtain⟨f0,f1,f2,f3,f4,f5⟩:=hf it (by simp)
  have hl:=rv.length
  exact wpAny_pyNext_list_end (I.ok.hd hc) st p.isList (by simp;lia) λh' eb=>⟨rfl,I.turned (t':=s.toks) (λb o hb e=>eb b o hb e) f0 f1 f3 f4 f5⟩
 self:=λ_ _ _ _ _ st h=>wpAny_pyIter_listiter st h
def DF {P:ae}{w:af}{K:aa}{tg:Expr}(it:ai)(lo:Int)(n:Nat):Turn P w K tg (Xi lo n) [it] it (λi h=>IsRangeIter h it (lo+(i:Nat)*1) ((n:Int) - (i:Nat)) 1) where
 mem:=by simp
 obj:=λi h st b hb=>by
  have e:b=it:=by simpa using hb
  subst e
  exact⟨_,st,λv z=>by
   have z':Data.fields _=Data.cell v:=z
   cases z'⟩
 keep:=λi h h' st k=>k it (by simp) _ st
 item:=by
  intro X hP hw hK hc i fI s σ H E I hf st hg
  subst hP hw hK
  obtain⟨f0,f1,f2,f3,f4,f5⟩:=hf it (by simp)
  have W:=Walks.range (prog:=X.prog) (w:=X.w) (I.ok.hd hc) it lo 1 n
  refine W.item i s _ _ hg st λv h' tk hv Vd kk=>?_
  obtain⟨t,rfl⟩:=hv
  have I1:Inv X fI σ H {s with heap:=h',toks:=tk}:=I.turned (λb o hb e=>kk b o (by simpa using hb) e) f0 f1 f3 f4 f5
  refine⟨_,rfl,QL (s:={s with heap:=h',toks:=tk}) (n:= "range_iterator") Vd rfl rfl (by decide) ⟨.int (lo+i),H,I1,⟨t,?_⟩,⟨rfl,rfl⟩,Vd,λb hb=>(hf b hb).1⟩⟩
  rw[Int.mul_one]
 done:=by
  intro X hP hw hK hc i fI s σ H E I hf st hg
  subst hP hw hK
  obtain⟨f0,f1,f2,f3,f4,f5⟩:=hf it (by simp)
  exact wpAny_pyNext_range_end (I.ok.hd hc) st (by have:n<=i:=hg;lia) λh' eb=>⟨rfl,I.turned (t':=s.toks) (λb o hb e=>eb b o hb e) f0 f1 f3 f4 f5⟩
 self:=λ_ _ _ _ _ st h=>wpAny_pyIter_rangeiter st h
section
variable {X:Cx}{tg:Expr}
def V6 (K:aa)(tl:TE):TI:=λσ H R=>tl σ H λx H1=>∃ a,x=.ref a/\(∃ xs,pF K H1 a xs)/\R (Itl K a) H1
def NV {l:Expr}{tl:TE}(hl:PE X l tl):PI X tg l (V6 X.K tl):=by
 intro fI s σ H R I h
 refine iJ (hl fI s σ H _ I h) λv s1 rB=>?_
 obtain⟨x,H1,I1,r1,q1⟩:=rB
 obtain⟨a,e,⟨xs,hq⟩,q⟩:=q1
 subst e
 cases r1
 obtain⟨gp,rv,p,hz⟩:=I1.list hq
 refine c9 p.isList ?_
 refine⟨s1.heap.objs.size,[s1.heap.objs.size],_,_,H1,rfl,I1.jz (t':=s1.toks) λb o e=>j8 _ e,Hn a _,⟨_,aG _ rfl,rfl,rfl⟩,λb hb=>?_,q⟩
 have e:b=s1.heap.objs.size:=by simpa using hb
 subst e
 exact I1.Ey (ar _) (I1.iA.fresh (ar _))
def B4 {fI:ao (ai×Obj)}{σ:St}{H:Hp}{s:ah}{R:It->Hp->Prop}{E:ak->ah->Prop}{lo hi:Int}{t u v:Tok}{tk:Nat}(I:Inv X fI σ H s)(h1:-(2 ^ 62)<=lo)(h2:lo<2 ^ 62)(h3:-(2 ^ 62)<=hi)(h4:hi<2 ^ 62)
 (q:R (Xi lo (hi - lo).toNat) H):wpAny (model X.prog X.w) X.A (pyIter (.ref s.heap.objs.size)) (PIE X fI σ tg R) E {s with heap:=s.heap.push { cls:=.type "range",data:=.fields #[.int lo t,.int hi u,.int 1 v]},toks:=tk}:=by
 refine wpAny_pyIter_range (IsRange.new ..) (small_one h1 h2 h3 h4) ?_
 have I1:Inv X fI σ H {s with heap:=s.heap.push { cls:=.type "range",data:=.fields #[.int lo t,.int hi u,.int 1 v]},toks:=tk}:=I.jz λb o e=>j8 _ e
 refine⟨(s.heap.push { cls:=.type "range",data:=.fields #[.int lo t,.int hi u,.int 1 v]}).objs.size,[(s.heap.push { cls:=.type "range",data:=.fields #[.int lo t,.int hi u,.int 1 v]}).objs.size],_,_,H,rfl,
  I1.jz (t':=tk) λb o e=>j8 _ e,DF _ lo (hi - lo).toNat,?_,λb hb=>?_,q⟩
 .have e1:lo+((0:Nat):Int)*1=lo:=by simp
  have e2:(((hi - lo).toNat:Nat):Int) - ((0:Nat):Int)=Builtin.Range.rangeSize lo hi 1:=by rw[rangeSize_one];split<;>lia
  show IsRangeIter _ _ (lo+((0:Nat):Int)*1) ((((hi - lo).toNat:Nat):Int) - ((0:Nat):Int)) 1
  rw[e1,e2]
  exact aG _ rfl
 .have e:b=(s.heap.push { cls:=.type "range",data:=.fields #[.int lo t,.int hi u,.int 1 v]}).objs.size:=by simpa using hb
  subst e
  exact I1.Ey (ar _) (I1.iA.fresh (ar _))
def V5 (ta:TA):TI:=λσ H R=>ta σ H λvs H1=>∃ j:Int,vs=[.int j] /\ -(2 ^ 62)<=j/\j<2 ^ 62/\R (Xi 0 j.toNat) H1
def V4 (ta:TA):TI:=λσ H R=>ta σ H λvs H1=>∃ i j:Int,vs=[.int i,.int j]/\(-(2 ^ 62)<=i/\i<2 ^ 62 /\ -(2 ^ 62)<=j/\j<2 ^ 62)/\R (Xi i (j - i).toNat) H1
def HC {a:Expr}{ta:TA}{p pos:Pos}(hg:Gl X "range")(hm:X.mg "range"=none)(ha:PA X [a] ta)(hs:starEach [a] X.env=[(false,eval a X.env)]:=by rfl):PI X tg (.Call (.Name "range" p) [a] [] pos) (V5 ta):=by
 intro fI s σ H R I h
 refine Call_ (mj I hg hm boot_range (bw (iJ (ha pos fI s σ H _ I h) λus s1 rZ=>?_) hs rfl))
 obtain⟨vs,H1,I1,r1,q1⟩:=rZ
 obtain⟨j,e,q1,q2,q⟩:=q1
 subst e
 cases r1 with
 | cons r rr =>
  cases rr
  obtain⟨t,rfl⟩:=r
  exact call_range_1 (B4 I1 (by lia) (by lia) q1 q2 (by simpa using q))
def HB {a b:Expr}{ta:TA}{p pos:Pos}(hg:Gl X "range")(hm:X.mg "range"=none)(ha:PA X [a,b] ta)(hs:starEach [a,b] X.env=[(false,eval a X.env),(false,eval b X.env)]:=by rfl)(tE:starEach [b] X.env=[(false,eval b X.env)]:=by rfl):
 PI X tg (.Call (.Name "range" p) [a,b] [] pos) (V4 ta):=by
 intro fI s σ H R I h
 refine Call_ (mj I hg hm boot_range (bw (iJ (ha pos fI s σ H _ I h) λus s1 qX=>?_) (by rw[hs,tE]) (by rw[tE];rfl)))
 obtain⟨vs,H1,I1,r1,q1⟩:=qX
 obtain⟨i,j,e,⟨q1,q2,q3,q4⟩,q⟩:=q1
 subst e
 cases r1 with
 | cons r rr =>
  cases rr with
  | cons r' rr =>
   cases rr
   obtain⟨t,rfl⟩:=r
   obtain⟨t',rfl⟩:=r'
   exact call_range_2 (B4 I1 q1 q2 q3 q4 q)
def YA (wi:TI)(g:TG)(tb:TS):TS:=λD σ H=>wi σ H λJ H1=>∃ W:Nat->Nat->St->Hp->Prop,(∃ m,W 0 m σ H1)/\∀ i m σ H,W i m σ H ->
 (J.stop i H/\D.nx σ H)\/(J.go i H/\∃ N:St->Hp->Prop,(∀ ji H',N ji H'->∃ m',m'<m/\W (i+1) m' ji H')/\∀ x H',J.Ju i H x H'->g x σ H' λow H2=>tb { D with nx:=N,ct:=N,bk:=D.nx} ow H2)
def uy (fp:ao ai)(h:Heap):ao (ai×Obj):=fp.filterMap λb=>(h.get? b).map λo=>(b,o)
def mf {fp:ao ai}{h:Heap}{b:ai}{o:Obj}(hb:b∈fp)(e:h.get? b=some o):(b,o)∈uy fp h:=List.mem_filterMap.mpr ⟨b,hb,by rw[e];rfl⟩
def HN {fp:ao ai}{h:Heap}{p:ai×Obj}(hp:p∈uy fp h):p.1∈fp/\h.get? p.1=some p.2:=by
 obtain⟨b,hb,e⟩:=List.mem_filterMap.mp hp
 cases q:h.get? b with
 |none=>rw[q]at e;cases e
 | some o =>
  rw[q]at e
  have e':(b,o)=p:=aM e
  subst e'
  exact⟨hb,q⟩
def Inv.pinned {fI:ao (ai×Obj)}{σ:St}{H:Hp}{s:ah}{fp:ao ai}(I:Inv X fI σ H s)(hf:∀ b∈fp,mX X fI H b)(ho:∀ b∈fp,∃ o,s.heap.get? b=some o/\∀ v,o.data≠.cell v):Inv X (fI++uy fp s.heap) σ H s :=
 I.sQ λp hp=>(List.mem_append.mp hp).elim (λz=>I.pin p (aS _ z)) λz=>by
  obtain⟨hb,e⟩:=HN z
  obtain⟨f0,f1,f2,_⟩:=hf p.1 hb
  obtain⟨o,e',d⟩:=ho p.1 hb
  rw[e]at e';cases e'
  exact⟨e,f0,f1,f2,d⟩
def Inv.p4 {fI pl:ao (ai×Obj)}{σ:St}{H:Hp}{s:ah}(I:Inv X (fI++pl) σ H s):Inv X fI σ H s:=I.sQ λp hp=>I.pin p (aS _ (dN _ hp))
def RP {iter:Expr}{body:ao Stmt}{wi:TI}{g:TG}{tb:TS}{pos:Pos}(hp:PassesOwn (model X.prog X.w) X.A X.env X.xe)(hc:X.gY=true)(hi:PI X tg iter wi)(hg:PG X tg g)(hb:Bg X body tb)
 (hs:∀ x,foldedSetIterable iter X.env x=pure x:=by intro _;rfl):PS X (.For tg iter body [] pos) (YA wi g tb):=by
 intro fI s σ H D I h
 refine wpAny_For (iJ (hi fI s σ H _ I h) λv s1 h1=>iJ h1 λV0 s2 h2=>?_) hs
 obtain⟨it,fp,tn,J,H2,e,I2,T,Qf,f2,W,⟨m0,w0⟩,turn⟩:=h2
 subst e
 have wH:∀ {H':Hp},(∀ b∈fp,H' b=none)->∀ b∈fp,mX X fI H' b:=λhn b hb=>⟨hn b hb,(f2 b hb).2⟩
 refine codeAny_forLoop_any (λn s'=>∃ i ji H',Inv X fI ji H' s'/\tn i s'.heap/\(∀ b∈fp,H' b=none)/\W i n ji H') ?_ m0 ⟨0,σ,H2,I2,Qf,λb hb=>(f2 b hb).1,w0⟩
 rintro n s3 ⟨i,Fb,H3,I3,MN,QM,w3⟩
 rcases turn i n Fb H3 w3 with⟨stop,qn⟩|⟨go,N,hN,step⟩
 .refine c7 hp (iJ (T.done X rfl rfl rfl hc i fI s3 Fb H3 X.xe I3 (wH QM) MN stop) λr s4 qW=>?_)
  obtain⟨hr,I4⟩:=qW
  subst hr
  exact wpAny_execs_nil ⟨Fb,H3,I4,qn⟩
 .refine c7 hp (iJ (T.item X rfl rfl rfl hc i fI s3 Fb H3 X.xe I3 (wH QM) MN go) λr s4 rY=>?_)
  obtain⟨u,hr,h4⟩:=rY
  subst hr
  refine c7 hp (iJ h4 λ_ s5 qV=>?_)
  obtain⟨x,H5,I5,r5,y5,JM,Wm⟩:=qV
  have Xl:=I5.pinned (wH Wm) (T.obj _ _ JM)
  refine c7 hp (iJ (hg _ s5 Fb H5 x u _ Xl r5 (step x H5 y5)) λ_ s6 tF=>?_)
  obtain⟨MK,H6,I6,q6⟩:=tF
  refine c7 hp (iJ (hb _ s6 MK H6 _ I6 q6) λf s7 q7=>?_)
  have again:∀ {Ji:St} {H7:Hp},Inv X (fI++uy fp s5.heap) Ji H7 s7->N Ji H7->∃ m,m<n/\∃ i ji H',Inv X fI ji H' s7/\tn i s7.heap/\(∀ b∈fp,H' b=none)/\W i m ji H':=λ{Ji H7} I7 n7=>by
   obtain⟨m',hm,w7⟩:=hN Ji H7 n7
   refine⟨m',hm,i+1,Ji,H7,I7.p4,T.keep _ _ _ JM λb hb o e=>(I7.pin (b,o) (aS _ (aS _ (mf hb e)))).1,λb hb=>?_,w7⟩
   obtain⟨o,e,d⟩:=T.obj _ _ JM b hb
   exact(I7.pin (b,o) (aS _ (aS _ (mf hb e)))).2.1
  cases f with
  |next=>obtain⟨Ji,H7,I7,n7⟩:=q7;exact again I7 n7
  |cont=>obtain⟨Ji,H7,I7,n7⟩:=q7;exact again I7 n7
  |brk=>obtain⟨Ji,H7,I7,q7⟩:=q7;exact⟨Ji,H7,I7.p4,q7⟩
  |ret v=>obtain⟨x7,Ji,H7,I7,r7,q7⟩:=q7;exact⟨x7,Ji,H7,I7.p4,r7,q7⟩
end
abbrev R2:=V->V->Hp->VK->Prop
def kU (X:Cx)(f:ak->ak->Sem ak)(r:R2):Prop :=
 ∀(fI:ao (ai×Obj)) (s:ah) (σ:St) (H:Hp) (x y:V) (v u:ak) (Q:VK),Inv X fI σ H s->gD x v->gD y u->r x y H Q ->
  wpAny (model X.prog X.w) X.A (f v u) (EP X fI σ Q) X.xe s
def UnR (X:Cx)(f:ak->Sem ak)(r:V->Hp->VK->Prop):Prop :=
 ∀(fI:ao (ai×Obj)) (s:ah) (σ:St) (H:Hp) (x:V) (v:ak) (Q:VK),Inv X fI σ H s->gD x v->r x H Q ->
  wpAny (model X.prog X.w) X.A (f v) (EP X fI σ Q) X.xe s
def jB (X:Cx)(f:ak)(r:ao V->Hp->VK->Prop):Prop :=
 ∀(fI:ao (ai×Obj)) (s:ah) (σ:St) (H:Hp) (xs:ao V) (us:ao ak) (Q:VK),Inv X fI σ H s->gE xs us->r xs H Q ->
  wpAny (model X.prog X.w) X.A (call f us) (EP X fI σ Q) X.xe s
def U4 (r:R2)(ta tb:TE):TE:=λσ H Q=>ta σ H λx H1=>tb σ H1 λy H2=>r x y H2 Q
def tUn (r:V->Hp->VK->Prop)(ta:TE):TE:=λσ H Q=>ta σ H λx H1=>r x H1 Q
def rI (C:Int->Int->Prop)(g:Int->Int->V):R2:=λx y H Q=>∃ i j,x=.int i/\y=.int j/\C i j/\Q (g i j) H
def NI (g:Int->Int->V):R2:=λx y H Q=>∃ i j,x=.int i/\y=.int j/\Q (g i j) H
def rU (g:Int->V):V->Hp->VK->Prop:=λx H Q=>∃ i,x=.int i/\Q (g i) H
section
variable {X:Cx}{a b c:Expr}{ta tb tc:TE}{pos:Pos}
def Pm (ha:PE X a ta)(hb:PE X b tb){fI:ao (ai×Obj)}{s:ah}{σ:St}{H:Hp}{R:V->V->Hp->Prop}(I:Inv X fI σ H s)
 (h:ta σ H λx H1=>tb σ H1 λy H2=>R x y H2) {Q:ak->ah->Prop} {f:ak->ak->Sem ak}
 (hf:∀ v u s2 x y H2,Inv X fI σ H2 s2->gD x v->gD y u->R x y H2->wpAny (model X.prog X.w) X.A (f v u) Q X.xe s2):
 wpAny (model X.prog X.w) X.A (eval a X.env) (λv s₁=>wpAny (model X.prog X.w) X.A (eval b X.env) (λu s₂=>wpAny (model X.prog X.w) X.A (f v u) Q X.xe s₂) X.xe s₁) X.xe s:=by
 refine iJ (ha fI s σ H _ I h) λv s1 rB=>?_
 obtain⟨x,H1,I1,r1,q1⟩:=rB
 refine iJ (hb fI s1 σ H1 _ I1 q1) λu s2 rZ=>?_
 obtain⟨y,H2,I2,r2,q2⟩:=rZ
 exact hf v u s2 x y H2 I2 r1 r2 q2
def lg {op:Operator}{r:R2}(ho:kU X (binaryOp op) r)(ha:PE X a ta)(hb:PE X b tb):PE X (.BinOp a op b pos) (U4 r ta tb):=by
 intro fI s σ H Q I h
 exact wpAny_BinOp (Pm ha hb I h λv u s2 x y H2 I2 rx ry q=>ho fI s2 σ H2 x y v u Q I2 rx ry q)
def Vv {op:UnaryOp}{r:V->Hp->VK->Prop}(ho:UnR X (unaryOp op) r)(ha:PE X a ta):PE X (.UnaryOp op a pos) (tUn r ta):=by
 intro fI s σ H Q I h
 exact UnaryOp_ (iJ (ha fI s σ H _ I h) λv s1 qX=>by obtain⟨x,H1,I1,r1,q1⟩:=qX;exact ho fI s1 σ H1 x v Q I1 r1 q1)
def UB {f:ak->ak->Sem ak}{C:Int->Int->Prop}{g:Int->Int->Int}
 (rule:∀(i j:Int) (t u:Tok) (s:ah) (Q:ak->ah->Prop) (E:ak->ah->Prop),C i j->Q (.int (g i j) s.toks) {s with toks:=s.toks+1}->wpAny (model X.prog X.w) X.A (f (.int i t) (.int j u)) Q E s):
 kU X f (rI C λi j=>.int (g i j)):=by
 intro fI s σ H x y v u Q I rx ry h
 obtain⟨i,j,rfl,rfl,hc,q⟩:=h
 obtain⟨t,rfl⟩:=rx
 obtain⟨t',rfl⟩:=ry
 exact rule i j t t' s _ _ hc ⟨.int (g i j),H,I.tok _,⟨_,rfl⟩,q⟩
def VF {f:ak->ak->Sem ak}{g:Int->Int->Int}
 (rule:∀(i j:Int) (t u:Tok) (s:ah) (Q:ak->ah->Prop) (E:ak->ah->Prop),Q (.int (g i j) s.toks) {s with toks:=s.toks+1}->wpAny (model X.prog X.w) X.A (f (.int i t) (.int j u)) Q E s):
 kU X f (NI λi j=>.int (g i j)):=by
 intro fI s σ H x y v u Q I rx ry h
 obtain⟨i,j,rfl,rfl,q⟩:=h
 obtain⟨t,rfl⟩:=rx
 obtain⟨t',rfl⟩:=ry
 exact rule i j t t' s _ _ ⟨.int (g i j),H,I.tok _,⟨_,rfl⟩,q⟩
def N5 {f:ak->ak->Sem ak}{g:Int->Int->Bool}
 (rule:∀(i j:Int) (t u:Tok) (s:ah) (Q:ak->ah->Prop) (E:ak->ah->Prop),Q (.bool (g i j)) s->wpAny (model X.prog X.w) X.A (f (.int i t) (.int j u)) Q E s):
 kU X f (NI λi j=>.bl (g i j)):=by
 intro fI s σ H x y v u Q I rx ry h
 obtain⟨i,j,rfl,rfl,q⟩:=h
 obtain⟨t,rfl⟩:=rx
 obtain⟨t',rfl⟩:=ry
 exact rule i j t t' s _ _ ⟨.bl (g i j),H,I,rfl,q⟩
def Xx (i j:Int):Prop:=0<j/\j<1073741824
def Xw (i j:Int):Prop:=0<=j/\j<=1000000/\i.natAbs<2 ^ 64
def IW (i j:Int):Prop:=(-(2 ^ 64)<i/\i<2 ^ 64)\/(-(2 ^ 64)<j/\j<2 ^ 64)
def IW.ok {i j:Int}(h:IW i j):IntMulOk i j:=by
 rcases h with⟨h1,h2⟩|⟨h1,h2⟩
 .exact .of_left (intBits_le_64 h1 h2)
 .exact .of_right (intBits_le_64 h1 h2)
def Sa:kU X (binaryOp .Add) (NI λi j=>.int (i+j)):=VF λ_ _ _ _ _ _ _ q=>add_int q
def R5:kU X (binaryOp .Sub) (NI λi j=>.int (i - j)):=VF λ_ _ _ _ _ _ _ q=>sub_int q
def R7:kU X (binaryOp .Mult) (rI IW λi j=>.int (i*j)):=UB λ_ _ _ _ _ _ _ hc q=>mul_int q hc.ok
def N4:kU X (binaryOp .FloorDiv) (rI Xx λi j=>.int (i / j)):=UB λi j _ _ _ _ _ hc q=>by
 have h1:(0:Int)<j:=hc.1
 have h2:j<1073741824:=hc.2
 exact floordiv_int (by lia) (by rw[Int.fdiv_eq_ediv_of_nonneg i (by lia)];exact q) (.inl (PyProof.noPylong_small (by lia)))
def R8:kU X (binaryOp .Mod) (rI (λ_ j=>0<j) λi j=>.int (i%j)):=UB λi j _ _ _ _ _ hc q=>by
 have h1:(0:Int)<j:=hc
 exact mod_int' (by lia) (by rw[Int.fmod_eq_emod_of_nonneg i (by lia)];exact q)
def R6:kU X (binaryOp .Pow) (rI Xw λi j=>.int (i ^ j.toNat)):=UB λ_ _ _ _ _ _ _ hc q=>pow_int_small hc.1 hc.2.1 hc.2.2 q
def unI {f:ak->Sem ak}{g:Int->Int}
 (rule:∀(i:Int) (t:Tok) (s:ah) (Q:ak->ah->Prop) (E:ak->ah->Prop),Q (.int (g i) s.toks) {s with toks:=s.toks+1}->wpAny (model X.prog X.w) X.A (f (.int i t)) Q E s):
 UnR X f (rU λi=>.int (g i)):=by
 intro fI s σ H x v Q I rx h
 obtain⟨i,rfl,q⟩:=h
 obtain⟨t,rfl⟩:=rx
 exact rule i t s _ _ ⟨.int (g i),H,I.tok _,⟨_,rfl⟩,q⟩
def Rf:UnR X (unaryOp .USub) (rU λi=>.int (-i)):=unI λ_ _ _ _ _ q=>neg_int q
end
def Vh:V->V->Bool
 |.iq,.iq=>true|.iq,.int _=>true|.int _,.iq=>true|.iq,.bl _=>true|.bl _,.iq=>true|.iq,.str _=>true|.str _,.iq=>true
 |.int _,.int _=>true|.bl _,.bl _=>true|.str _,.str _=>true|.II _,.II _=>true
 |.int _,.str _=>true|.str _,.int _=>true|.bl _,.str _=>true|.str _,.bl _=>true
 |_,_=>false
def rEq:R2:=λx y H Q=>Vh x y=true/\Q (.bl (decide (x=y))) H
def rNe:R2:=λx y H Q=>Vh x y=true/\Q (.bl (!decide (x=y))) H
def GX {i j:Int}:decide (V.int i=V.int j)=(i==j):=by
 rw[du]
 simp
def L4 {i j:Bool}:decide (V.bl i=V.bl j)=(i==j):=by
 rw[du]
 simp
def GW {i j:Str}:decide (V.str i=V.str j)=(i==j):=by
 rw[du]
 simp
def GY {i j:Array UInt8}:decide (V.II i=V.II j)=(i.toList==j.toList):=by
 rw[du]
 cases i
 cases j
 simp
section
variable {X:Cx}{a b c:Expr}{ta tb tc:TE}{pos:Pos}
def ig {fI:ao (ai×Obj)}{σ:St}{H:Hp}{s:ah}{Q:VK}{k k':Bool}(I:Inv X fI σ H s)(q:Q (.bl k) H)(e:k=k'):EP X fI σ Q (.bool k') s:=by
 subst e
 exact⟨.bl k,H,I,rfl,q⟩
def Qv:kU X (compareOp .Eq) rEq:=by
 intro fI s σ H x y v u Q I rx ry h
 obtain⟨hs,q⟩:=h
 cases x with
 | iq =>
  cases rx
  cases y with
  |iq=>cases ry;exact PySem.EqNone.eq_none_none (ig I q (by simp))
  |bl j=>cases ry;exact PySem.EqNone.eq_none_bool (ig I q (by simp))
  |int j=>obtain⟨t',rfl⟩:=ry;exact PySem.EqNone.eq_none_int (ig I q (by simp))
  |str j=>obtain⟨t',rfl⟩:=ry;exact PySem.EqNone.eq_none_str (ig I q (by simp))
  |_=>exact absurd (show false=true from hs) aJ
 | bl i =>
  cases rx
  cases y with
  |iq=>cases ry;exact PySem.EqNone.eq_bool_none (ig I q (by simp))
  |bl j=>cases ry;exact eq_bool (ig I q L4)
  |str j=>obtain⟨t',rfl⟩:=ry;exact PySem.EqMixed.eq_bool_str (ig I q (by simp))
  |_=>exact absurd (show false=true from hs) aJ
 | int i =>
  obtain⟨t,rfl⟩:=rx
  cases y with
  |iq=>cases ry;exact PySem.EqNone.eq_int_none (ig I q (by simp))
  |int j=>obtain⟨t',rfl⟩:=ry;exact eq_int (ig I q GX)
  |str j=>obtain⟨t',rfl⟩:=ry;exact PySem.EqMixed.eq_int_str (ig I q (by simp))
  |_=>exact absurd (show false=true from hs) aJ
 | str i =>
  obtain⟨t,rfl⟩:=rx
  cases y with
  |iq=>cases ry;exact PySem.EqNone.eq_str_none (ig I q (by simp))
  |bl j=>cases ry;exact PySem.EqMixed.eq_str_bool (ig I q (by simp))
  |int j=>obtain⟨t',rfl⟩:=ry;exact PySem.EqMixed.eq_str_int (ig I q (by simp))
  |str j=>obtain⟨t',rfl⟩:=ry;exact eq_str (ig I q GW)
  |_=>exact absurd (show false=true from hs) aJ
 | II i =>
  obtain⟨t,rfl⟩:=rx
  cases y with
  |II j=>obtain⟨t',rfl⟩:=ry;exact W.eq_bytes (ig I q GY)
  |_=>exact absurd (show false=true from hs) aJ
 |_=>cases y<;>exact absurd (show false=true from hs) aJ
def VA:kU X (compareOp .NotEq) rNe:=by
 intro fI s σ H x y v u Q I rx ry h
 obtain⟨hs,q⟩:=h
 cases x with
 | iq =>
  cases rx
  cases y with
  |iq=>cases ry;exact PySem.EqNone.ne_none_none (ig I q (by simp))
  |bl j=>cases ry;exact PySem.EqNone.ne_none_bool (ig I q (by simp))
  |int j=>obtain⟨t',rfl⟩:=ry;exact PySem.EqNone.ne_none_int (ig I q (by simp))
  |str j=>obtain⟨t',rfl⟩:=ry;exact PySem.EqNone.ne_none_str (ig I q (by simp))
  |_=>exact absurd (show false=true from hs) aJ
 | bl i =>
  cases rx
  cases y with
  |iq=>cases ry;exact PySem.EqNone.ne_bool_none (ig I q (by simp))
  |bl j=>cases ry;exact ne_bool (ig I q (cA not L4))
  |str j=>obtain⟨t',rfl⟩:=ry;exact PySem.EqMixed.ne_bool_str (ig I q (by simp))
  |_=>exact absurd (show false=true from hs) aJ
 | int i =>
  obtain⟨t,rfl⟩:=rx
  cases y with
  |iq=>cases ry;exact PySem.EqNone.ne_int_none (ig I q (by simp))
  |int j=>obtain⟨t',rfl⟩:=ry;exact ne_int (ig I q (cA not GX))
  |str j=>obtain⟨t',rfl⟩:=ry;exact PySem.EqMixed.ne_int_str (ig I q (by simp))
  |_=>exact absurd (show false=true from hs) aJ
 | str i =>
  obtain⟨t,rfl⟩:=rx
  cases y with
  |iq=>cases ry;exact PySem.EqNone.ne_str_none (ig I q (by simp))
  |bl j=>cases ry;exact PySem.EqMixed.ne_str_bool (ig I q (by simp))
  |int j=>obtain⟨t',rfl⟩:=ry;exact PySem.EqMixed.ne_str_int (ig I q (by simp))
  |str j=>obtain⟨t',rfl⟩:=ry;exact ne_str (ig I q (cA not GW))
  |_=>exact absurd (show false=true from hs) aJ
 | II i =>
  obtain⟨t,rfl⟩:=rx
  cases y with
  |II j=>obtain⟨t',rfl⟩:=ry;exact W.ne_bytes (ig I q (cA not GY))
  |_=>exact absurd (show false=true from hs) aJ
 |_=>cases y<;>exact absurd (show false=true from hs) aJ
def VB:kU X (compareOp .Lt) (NI λi j=>.bl (decide (i<j))):=N5 λ_ _ _ _ _ _ _ q=>lt_int q
def VC:kU X (compareOp .LtE) (NI λi j=>.bl (decide (i<=j))):=N5 λ_ _ _ _ _ _ _ q=>le_int q
def VD:kU X (compareOp .Gt) (NI λi j=>.bl (decide (j<i))):=N5 λ_ _ _ _ _ _ _ q=>gt_int q
def VE:kU X (compareOp .GtE) (NI λi j=>.bl (decide (j<=i))):=N5 λ_ _ _ _ _ _ _ q=>ge_int q
def HI:kU X (compareOp .In) (λx y H Q=>∃ i j,x=.str i/\y=.str j/\Q (.bl (!(Builtin.Str.occurrences j i 0 j.length 1).isEmpty)) H):=by
 intro fI s σ H x y v u Q I rx ry h
 obtain⟨i,j,rfl,rfl,q⟩:=h
 obtain⟨t,rfl⟩:=rx
 obtain⟨t',rfl⟩:=ry
 exact in_str (ig I q rfl)
def kU.or {f:ak->ak->Sem ak}{r r':R2}(h:kU X f r)(h':kU X f r'):kU X f (λx y H Q=>r x y H Q\/r' x y H Q):=by
 intro fI s σ H x y v u Q I rx ry q
 rcases q with q|q
 .exact h fI s σ H x y v u Q I rx ry q
 .exact h' fI s σ H x y v u Q I rx ry q
def iS (b:Expr){op:CmpOp}(h:op≠.In:=by decide)(h2:op≠.NotIn:=by decide):behindInMarks op b=false:=by
 have e1:(op==CmpOp.In)=false:=by cases op<;>first|rfl|exact absurd rfl h
 have e2:(op==CmpOp.NotIn)=false:=by cases op<;>first|rfl|exact absurd rfl h2
 cases b<;>simp[behindInMarks,e1,e2]
def sT {op:CmpOp}{r:R2}(ho:kU X (compareOp op) r)(ha:PE X a ta)(hb:PE X b tb)(hm:behindInMarks op b=false):PE X (.Compare a [op] [b] pos) (U4 r ta tb):=by
 intro fI s σ H Q I h
 exact wpAny_Compare1 (Pm ha hb I h λv u s2 x y H2 I2 rx ry q=>ho fI s2 σ H2 x y v u Q I2 rx ry q) hm
def qi:(sizeLine:Nat)<2 ^ 63:=by rw[sizeLine_eq];decide
def D4:kU X (binaryOp .Add) (λx y H Q=>∃ i j,x=.str i/\y=.str j/\i.length+j.length<=sizeLine/\Q (.str (i++j)) H):=by
 intro fI s σ H x y v u Q I rx ry h
 obtain⟨i,j,rfl,rfl,hz,q⟩:=h
 obtain⟨t,rfl⟩:=rx
 obtain⟨t',rfl⟩:=ry
 exact add_str (λt' tk=>⟨.str (i++j),H,I.tok _,⟨_,rfl⟩,q⟩) hz
def vals1 {x:V}{us:ao ak}(r:gE [x] us):∃ u,us=[u]/\gD x u:=by
 cases r with
 |cons r1 r2=>cases r2;exact⟨_,rfl,r1⟩
def vals2 {x y:V}{us:ao ak}(r:gE [x,y] us):∃ u w',us=[u,w']/\gD x u/\gD y w':=by
 cases r with
 | cons r1 r2 =>
  cases r2 with
  |cons r3 r4=>cases r4;exact⟨_,_,rfl,r1,r3⟩
def IH (hc:X.gY=true):jB X (.builtin "max") (λxs H Q=>∃ i j,xs=[.int i,.int j]/\Q (.int (if j>i then j else i)) H):=by
 intro fI s σ H xs us Q I r h
 obtain⟨i,j,rfl,q⟩:=h
 obtain⟨u,w',rfl,⟨t,rfl⟩,⟨t',rfl⟩⟩:=vals2 r
 refine max_two_ints (I.ok.hd hc) λh' tk k=>⟨_,H,I.jz k,?_,q⟩
 by_cases hj:j>i
 .rw[aB hj,aB hj];exact⟨_,rfl⟩
 .rw[aC hj,aC hj];exact⟨_,rfl⟩
end
structure EV (h:Heap)(x dx C:ai)(mA:Str->Option ak):Prop where
 obj:h.get? x=some (W.instObj C dx)
 ns:h.Ns1 dx mA
 ne:dx≠x
def HW {h:Heap}{dx:ai}{mA:Str->aq ak}(n:h.Ns1 dx mA):∃ od,h.get? dx=some od/\∀ name,W.lookIn name od=some (mA name):=by
 obtain⟨o,es,ep,ho,hd,hk,_,hm⟩:=n
 refine⟨o,ho,λname=>?_⟩
 have e:=hm name
 unfold nsFind findBy at e
 rw[<- Array.find?_toList]at e
 unfold W.lookIn
 rw[hd]
 dsimp only
 split
 .rename_i y q
  rw[q]at e
  exact cA some e
 .rename_i q
  rw[q]at e
  have a:es.toList.any (·.refKey)=false:=by
   rw[fj]
   intro y hy
   obtain⟨z,t,Zy⟩:=hk y (Array.mem_toList_iff.mp hy)
   simp[DictEntry.refKey,Zy]
  have a':¬ es.toList.any (·.refKey)=true:=by rw[a];exact aJ
  rw[aC a']
  exact cA some e
def EV.look {h:Heap}{x dx C:ai}{mA:Str->aq ak}(I:EV h x dx C mA):∃ od,W.InstAt h x (W.instObj C dx) C (some od)/\∀ name,W.lookIn name od=some (mA name) :=
 let ⟨od,ho,hl⟩:=HW I.ns
 ⟨od,⟨I.obj,rfl,rfl,ho⟩,hl⟩
section
variable {prog:ae}{w:af}{A:Around}{E:ak->ah->Prop}{s:ah}{K:aa}{x dx C f:ai}{mA:Str->aq ak}{name:Str}{v:ak}
def get_map {expr:Bool}{Q:ak->ah->Prop}(X:K.In s.heap)(I:EV s.heap x dx C mA)(hg:W.plainGet K C name=true)(hh:W.hasDictIn K C=true)
 (ha:W.findIn K (.ref C) name=some none) (hv:mA name=some v) (CF:W.handedIn v=true) (h:Q v {s with toks:=s.toks+1}):
 wpAny (model prog w) A (getAttr (.ref x) name expr) Q E s:=by
 obtain⟨od,J,hl⟩:=I.look
 exact W.get_value X J (W.plainGet_of hg).1 (W.findObj_own hh ha rfl (by rw[hl,hv])) CF h
def Lz {pl:Sem Bool}{Q:ak×ao ak->ah->Prop}(X:K.In s.heap)(I:EV s.heap x dx C mA)(hg:W.plainGet K C name=true)
 (hf:W.findIn K (.ref C) name=some (some (.ref f))) (ht:W.isFn K (.ref f)=true) (hv:mA name=none) (h:Q (.ref f,[.ref x]) s):
 wpAny (model prog w) A (getMethod (.ref x) name pl) Q E s:=by
 obtain⟨od,J,hl⟩:=I.look
 exact W.method_fn X J (W.plainGet_of hg).1 (W.plainGet_of hg).2 hf (beq_iff_eq.mp ht) (by show(W.lookIn name od).map (·.isSome)=some false;rw[hl,hv];rfl) h
def NA {ns:ao Str}{Q:Unit->ah->Prop}(X:K.In s.heap)(I:EV s.heap x dx C mA)
 (hs:W.findIn K (.ref C) "__setattr__"=some (some (.builtin "object.__setattr__"))) (hp:W.plainOver K C=true) (ht:W.takerIn K C name=some none) (hh:W.hasDictIn K C=true)
 (hw:PySem.Within mA ns) (hsz:ns.length<=sizeLine)
 (h:∀ h',EV h' x dx C (λy=>if y=name then some v else mA y)->Heap.SameBut dx s.heap h'->Q () {s with heap:=h',toks:=s.toks+2}):
 wpAny (model prog w) A (setAttr (.ref x) name v) Q E s:=by
 obtain⟨od,J,hl⟩:=I.look
 refine W.set_plain X J hs (W.osa_open (s:={s with toks:=s.toks+1}) (r:=none) X J hp ht λb=>?_)
 obtain⟨cd,hc,Jd⟩:=W.any_some hh
 have hx:s.heap.get? x=some ⟨.ref C,some dx,.plain,#[]⟩:=I.obj
 refine fY (au (fY (fY (wpAny_loadPart hx (fY (W.Looks.here (s:={s with toks:=s.toks+1}) (W.looks_clsIn X hc) ?_))))))
 rw[Jd]
 refine au (a:=some dx) (fY (au (fY ?_)))
 refine wpAny_nsSet1 (s:={s with toks:=s.toks+1}) I.ns λh' Gm tE=>?_
 obtain⟨oD,esD,epD,hoD,hdD,hcD⟩:=Gm.count (PySem.Within.cons name v hw)
 refine fY (wpAny_lookBehind hoD (by rw[hdD];exact pastItsLine_dict (aW hcD (by rw[aU];lia))) ?_)
 exact au (h _ ⟨(tE.2 _ (bo I.ne)).trans I.obj,Gm,I.ne⟩ tE)
def K3 {R:Result->ah->Prop}{vs:ao ak}{kw:ao (Str×ak)}(X:K.In s.heap)(hm:W.makesIn K C=true)
 (hi:W.findIn K (.ref C) "__init__"=some (some (.ref f))) (hf:W.typeIn K (.ref f)=some (.type "function"))
 (h:codeAny (model prog w) (A.under (.builtin "type.__call__" ⟨.ref C::vs,kw⟩)) (.call (.ref f) ⟨.ref (s.heap.objs.size+1)::vs,kw⟩) (W.InitBack (s.heap.objs.size+1) R)
   {s with heap:=(s.heap.push W.emptyDict).push (W.instObj C s.heap.objs.size)}):
 codeAny (model prog w) A (.call (.ref C) ⟨vs,kw⟩) R s:=by
 obtain⟨hh,g,d,t,os⟩:=s
 exact W.make_core (W.makes_of X hm) (W.looks_findIn X hi) (λself=>W.bind_fn X self hf) (.inl rfl) h
end
def oE (f:Str)(v:V):ao (Str×V)->ao (Str×V)
 |[]=>[(f,v)]
 |(g,x)::r=>if g=f then(g,v)::r else(g,x)::oE f v r
def uY (f g:Str)(v:V):∀ fs:ao (Str×V),(oE f v fs).lookup g=if g=f then some v else fs.lookup g
 | []=>by
  show List.lookup g [(f,v)]=_
  by_cases h:g=f
  .have hb:(g==f)=true:=beq_iff_eq.mpr h
   simp only[List.lookup,hb,aB h]
  .have hb:(g==f)=false:=beq_eq_false_iff_ne.mpr h
   simp only[List.lookup,hb,aC h]
 | (k,x)::r=>by
  have ih:=uY f g v r
  rw[show oE f v ((k,x)::r)=(if k=f then(k,v)::r else(k,x)::oE f v r)from rfl]
  by_cases hk:k=f
  .rw[aB hk]
   by_cases h:g=k
   .have hb:(g==k)=true:=beq_iff_eq.mpr h
    simp only[List.lookup,hb,aB (h.trans hk)]
   .have hb:(g==k)=false:=beq_eq_false_iff_ne.mpr h
    simp only[List.lookup,hb,aC (λe:g=f=>h (e.trans hk.symm))]
  .rw[aC hk]
   by_cases h:g=k
   .have hb:(g==k)=true:=beq_iff_eq.mpr h
    simp only[List.lookup,hb,aC (λe:g=f=>hk (h.symm.trans e))]
   .have hb:(g==k)=false:=beq_eq_false_iff_ne.mpr h
    simp only[List.lookup,hb]
    exact ih
def uB (f:Str)(v:V):∀ fs:ao (Str×V),f∈(oE f v fs).map (·.1)/\∀ g,g∈fs.map (·.1)->g∈(oE f v fs).map (·.1)
 |[]=>⟨by simp[oE],λg h=>by simp at h⟩
 | (k,x)::r=>by
  obtain⟨i1,i2⟩:=uB f v r
  rw[show oE f v ((k,x)::r)=(if k=f then(k,v)::r else(k,x)::oE f v r)from rfl]
  by_cases hk:k=f
  .rw[aB hk]
   subst hk
   exact⟨by simp,λg h=>by simpa using h⟩
  .rw[aC hk]
   refine⟨?_,λg h=>?_⟩
   .rw[aw]
    exact nF _ i1
   .rw[aw]at h ⊢
    rcases List.mem_cons.mp h with e|e
    .exact List.mem_cons.mpr (.inl e)
    .exact nF _ (i2 g e)
def u3 (f:Str)(v:V):∀ fs:ao (Str×V),(oE f v fs).length<=fs.length+1
 |[]=>by simp[oE]
 | (k,x)::r=>by
  have ih:=u3 f v r
  rw[show oE f v ((k,x)::r)=(if k=f then(k,v)::r else(k,x)::oE f v r)from rfl]
  by_cases hk:k=f
  .rw[aB hk,aU,aU];lia
  .rw[aC hk,aU,aU];lia
def rb.some_of {v:V}{o:aq ak}(r:rb (some v) o):∃ u,o=some u/\gD v u:=by
 cases o with
 |none=>exact(show False from r).elim
 |some u=>exact⟨u,rfl,r⟩
def rb.none_of {o:aq ak}(r:rb none o):o=none:=by
 cases o with
 |none=>rfl
 |some u=>exact(show False from r).elim
def Ir {v:V}{u:ak}(r:gD v u):W.handedIn u=true:=by
 cases v with
 |iq=>cases(show u=Value.none from r);rfl
 |bl b=>cases(show u=Value.bool b from r);rfl
 |int i=>obtain⟨t,e⟩:=(show ∃ t,u=Value.int i t from r);cases e;rfl
 |str x=>obtain⟨t,e⟩:=(show ∃ t,u=Value.str x t from r);cases e;rfl
 |II b=>obtain⟨t,e⟩:=(show ∃ t,u=Value.bytes b t from r);cases e;rfl
 |QO b=>obtain⟨t,e⟩:=(show ∃ t,u=Value.float b t from r);cases e;rfl
 |ref a=>cases(show u=Value.ref a from r);rfl
 |ty n=>cases(show u=Value.type n from r);rfl
section
variable {P:ae}{w:af}{H H':Hp}{h h':Heap}{a C dx:ai}{fs fs':ao (Str×V)}
def vN (iA:pQ P w H h)(e:H a=some (.ins C dx fs)):∃ mA,EV h a dx C mA/\(∀ f,rb (fs.lookup f) (mA f))/\PySem.Within mA (fs.map (·.1))/\fs.length<=1000/\H dx=some (.own a):=by
 obtain⟨d,z,ne,ob,mA,n,r,q⟩:=(show jg P w H h a (.ins C dx fs)from iA a _ e)
 exact⟨mA,⟨ob,n,ne⟩,r,q,z,d⟩
end
structure E5 (K:aa)(C:ai):Prop where
 pg:W.plainGet K C Str.empty=true
 hd:W.hasDictIn K C=true
 po:W.plainOver K C=true
 sa:W.findIn K (.ref C) "__setattr__"=some (some (.builtin "object.__setattr__"))
def E5.get {K:aa}{C:ai}(c:E5 K C)(f:Str):W.plainGet K C f=true:=c.pg
def qw (K:aa)(C:ai)(f:Str):Prop:=W.findIn K (.ref C) f=some none
def qw.U1 {K:aa}{C:ai}{f:Str}(n:qw K C f):W.takerIn K C f=some none:=by
 unfold W.takerIn
 rw[show W.findIn K (.ref C) f=some none from n]
 rfl
structure Meth (K:aa)(C:ai)(m:Str)(f:ai):Prop where
 at_:W.findIn K (.ref C) m=some (some (.ref f))
 fn:W.isFn K (.ref f)=true
 kp:W.keepIn K (.ref f)=true
section
variable {X:Cx}{fI:ao (ai×Obj)}{σ:St}{H:Hp}{s:ah}{a C dx:ai}{fs:ao (Str×V)}{f:Str}{v:V}{A:Around}{E:ak->ah->Prop}
def Ex {b:Bool}{Q:ak->ah->Prop}(I:Inv X fI σ H s)(e:H a=some (.ins C dx fs))(c:E5 X.K C)(n:qw X.K C f)(l:fs.lookup f=some v)
 (h:∀ u s',Inv X fI σ H s'->gD v u->Q u s'):wpAny (model X.prog X.w) A (getAttr (.ref a) f b) Q E s:=by
 obtain⟨mA,O,r,_,_,_⟩:=vN I.iA e
 obtain⟨u,hu,ru⟩:=rb.some_of (v:=v) (o:=mA f) (by rw[<- l];exact r f)
 exact get_map I.vM O (c.get f) c.hd n hu (Ir ru) (h u _ (I.tok _) ru)
def xr {m:Str}{g:ai}{pl:Sem Bool}{Q:ak×ao ak->ah->Prop}(I:Inv X fI σ H s)(e:H a=some (.ins C dx fs))(c:E5 X.K C)(k:Meth X.K C m g)(l:fs.lookup m=none)
 (h:Q (.ref g,[.ref a]) s):wpAny (model X.prog X.w) A (getMethod (.ref a) m pl) Q E s:=by
 obtain⟨mA,O,r,_,_,_⟩:=vN I.iA e
 have hn:mA m=none:=rb.none_of (by rw[<- l];exact r m)
 exact Lz I.vM O (c.get m) k.at_ k.fn hn h
def DP {y:V}{u:ak}{Q:Unit->ah->Prop}(I:Inv X fI σ H s)(e:H a=some (.ins C dx fs))(c:E5 X.K C)(n:qw X.K C f)(hl:fs.length<1000)(ry:gD y u)
 (h:∀ s',Inv X fI σ (upd H a (.ins C dx (oE f y fs))) s'->Q () s'):wpAny (model X.prog X.w) A (setAttr (.ref a) f u) Q E s:=by
 obtain⟨mA,O,r,wi,_,ho⟩:=vN I.iA e
 have hz:(fs.map (·.1)).length<=sizeLine:=by rw[iu,sizeLine_eq];lia
 refine NA I.vM O c.sa c.po n.U1 c.hd wi hz λh' O' sb=>h _ ?_
 have hd:∃ o,h'.get? dx=some o:=let ⟨o,_,_,e',_⟩:=O'.ns;⟨o,e'⟩
 refine I.write (x:=a) (e:=dx) (by rw[e];exact True.intro) (.inr ho) (λb q hb z=>(sb.2 b hb).trans z) hd ?_
 refine⟨by rw[gB O.ne];exact ho,?_,O.ne,O'.obj,_,O'.ns,λg=>?_,λg hg=>?_⟩
 .have:=u3 f y fs;lia
 .show rb ((oE f y fs).lookup g) (if g=f then some u else mA g)
  rw[uY]
  by_cases q:g=f
  .rw[aB q,aB q];exact ry
  .rw[aC q,aC q];exact r g
 .by_cases q:g=f
  .rw[q];exact(uB f y fs).1
  .refine(uB f y fs).2 g (wi g λz=>hg ?_)
   show(if g=f then some u else mA g)=none
   rw[aC q];exact z
def Inv.made (I:Inv X fI σ H s):Inv X fI σ (upd (upd H s.heap.objs.size (.own (s.heap.objs.size+1))) (s.heap.objs.size+1) (.ins C s.heap.objs.size []))
 {s with heap:=(s.heap.push W.emptyDict).push (W.instObj C s.heap.objs.size)}:=by
 have e1:(s.heap.push W.emptyDict).get? s.heap.objs.size=some W.emptyDict:=aG s.heap rfl
 have e2:((s.heap.push W.emptyDict).push (W.instObj C s.heap.objs.size)).get? (s.heap.objs.size+1)=some (W.instObj C s.heap.objs.size):=by
  have:=aG (s.heap.push W.emptyDict) (o:=W.instObj C s.heap.objs.size) rfl
  rwa [bj]at this
 have e3:(s.heap.push W.emptyDict).Ns s.heap.objs.size (λ_=>none):=⟨W.emptyDict,#[],_,e1,rfl,(λe he=>absurd he (by simp)),λ_=>rfl⟩
 have I1:=I.laid (a:=s.heap.objs.size) (o:=.own (s.heap.objs.size+1)) (h':=s.heap.push W.emptyDict) (t':=s.toks) (λb u q=>j8 _ q) (ar _) ⟨_,e1⟩
 refine I1.laid (a:=s.heap.objs.size+1) (o:=.ins C s.heap.objs.size []) (t':=s.toks) (λb u q=>j8 _ q) (Nat.le_of_eq (bj _ _)) ?_
 have ne:s.heap.objs.size≠s.heap.objs.size+1:=aD (bL _)
 refine⟨by rw[gB ne,gh],bC _,ne,e2,λ_=>none,(Heap.Ns1.of_empty e3).at λo q=>j8 _ q,λ_=>True.intro,λy hy=>absurd rfl hy⟩
def Pn {prog:ae}{w:af}{env:Env}{e:Expr}{f:Str}{pos:Pos}{s:ah}{Q:ak->ah->Prop}(hb:attributeBase e f env (eval e env)=eval e env)
 (h:wpAny (model prog w) A (eval e env) (λo s₁=>wpAny (model prog w) A (getAttr o f true) Q E s₁) E s):wpAny (model prog w) A (eval (.Attribute e f pos) env) Q E s:=
 Attribute_any_ h (by rw[arm_eval_Attribute,hb])
end
def YB (K:aa)(ta:TE)(f:Str):TE:=λσ H Q=>ta σ H λx H1=>∃ a C dx fs v,x=.ref a/\H1 a=some (.ins C dx fs)/\E5 K C/\qw K C f/\fs.lookup f=some v/\Q v H1
def YN (K:aa)(ta tv:TE)(f:Str):TS:=λD σ H=>tv σ H λy H1=>ta σ H1 λx H2=>∃ a C dx fs,x=.ref a/\H2 a=some (.ins C dx fs)/\E5 K C/\qw K C f/\fs.length<1000 /\
 D.nx σ (upd H2 a (.ins C dx (oE f y fs)))
section
variable {X:Cx}{o e value:Expr}{f:Str}{pos pos' tpos:Pos}{ta tv:TE}
def R1 (he:PE X e ta)(hb:attributeBase e f X.env (eval e X.env)=eval e X.env):PE X (.Attribute e f pos) (YB X.K ta f):=by
 intro fI s σ H Q I h
 refine Pn hb (iJ (he fI s σ H _ I h) λu s1 qW=>?_)
 obtain⟨x,H1,I1,rx,a,C,dx,fs,v,ex,ea,c,n,l,q⟩:=qW
 subst ex
 obtain rfl:u=Value.ref a:=rx
 exact Ex I1 ea c n l λu' s2 I2 ru=>⟨v,H1,I2,ru,q⟩
def RQ (ha:PE X o ta)(hv:PE X value tv)(hs:swapsWith value (some (.Attribute o f pos')) pos.line X.env=pure false):PS X (.Assign [.Attribute o f pos'] value pos) (YN X.K ta tv f):=by
 intro fI s σ H D I h
 refine plainObj_wpAny_Assign_Attribute (iJ (hv fI s σ H _ I h) λu s1 rY=>?_) hs
 obtain⟨y,H1,I1,ry,q⟩:=rY
 refine iJ (ha fI s1 σ H1 _ I1 q) λov s2 qV=>?_
 obtain⟨x,H2,I2,rx,a,C,dx,fs,ex,ea,c,n,l,q2⟩:=qV
 subst ex
 obtain rfl:ov=Value.ref a:=rx
 exact DP I2 ea c n l ry λs3 I3=>⟨σ,_,I3,q2⟩
def QA {pl:Sem Bool}{m:Str}{mK:Pos}{args:ao Expr}{fI:ao (ai×Obj)}{s:ah}{σ:St}{H:Hp}{Q:ak->ah->Prop}{te:TE}(he:PE X e te)(I:Inv X fI σ H s)
 (h:te σ H λx H1=>∃ a C dx fs g,x=.ref a/\H1 a=some (.ins C dx fs)/\E5 X.K C/\Meth X.K C m g/\fs.lookup m=none /\
   ∀ s1,Inv X fI σ H1 s1->wpAny (model X.prog X.w) X.A (callWith pos (.ref g) [.ref a] (backTo pos (starEach args X.env)) (backToKw pos (keywordEach [] X.env))) Q X.xe s1)
 (ht:eval (.Call (.Attribute e m mK) args [] pos) X.env=(do
   let ov <- eval e X.env
   standAt mK.atName
   let (f,first) <- holding [ov] (getMethod ov m pl)
   callWith pos f first (backTo pos (starEach args X.env)) (backToKw pos (keywordEach [] X.env)))):
 wpAny (model X.prog X.w) X.A (eval (.Call (.Attribute e m mK) args [] pos) X.env) Q X.xe s:=by
 refine W.methodCall_KW (pl:=pl) (iJ (he fI s σ H _ I h) λu s1 tF=>?_) ht
 obtain⟨x,H1,I1,rx,a,C,dx,fs,g,ex,ea,c,k,l,q⟩:=tF
 subst ex
 obtain rfl:u=Value.ref a:=rx
 exact xr I1 ea c k l (q s1 I1)
end
section
variable {X:Cx}{fI:ao (ai×Obj)}{σ:St}{H:Hp}{s:ah}{A:Around}{E:ak->ah->Prop}{Q:ak->ah->Prop}{c:ak}{b:Bool}
inductive kG (K:aa)(H:Hp):V->ak->Prop where
 |iq:kG K H .iq (.type "NoneType")
 |bl (x:Bool):kG K H (.bl x) (.type "bool")
 |int (i:Int):kG K H (.int i) (.type "int")
 |str (x:Str):kG K H (.str x) (.type "str")
 |QO (x:UInt64):kG K H (.QO x) (.type "float")
 |lst {a:ai} {xs:List V} (e:H a=some (.lst xs)):kG K H (.ref a) (.type "list")
 |BD {a:ai} {o:Obj} {xs:List V} (e:H a=some (.BD o (.lst xs))):kG K H (.ref a) (.type "list")
 |tup {a:ai} {xs:List V} (e:H a=some (.tup xs)):kG K H (.ref a) (.type "tuple")
 |dK {a:ai} {kvs:List (Key×V)} (e:H a=some (.dK kvs)):kG K H (.ref a) (.type "dict")
 |dT {a:ai} {kvs:List (List Key×V)} (e:H a=some (.dT kvs)):kG K H (.ref a) (.type "dict")
 | ins {a C dx:ai} {fs:List (Str×V)} (e:H a=some (.ins C dx fs)) (cl:E5 K C) (ha:W.findIn K (.ref C) "__class__"=some (some (.builtin "object.__class__")))
  (hn:W.specialIn K (.builtin "object.__class__") "__get__"=some (some (.builtin "getset_descriptor.__get__"))) (htk:W.takesIn K (.builtin "object.__class__")=some true)
  (hm:W.mroIn K C (.type "object")=some true):kG K H (.ref a) (.ref C)
def Ie {x:V}{u t:ak}(I:Inv X fI σ H s)(rx:gD x u)(ty:kG X.K H x t)(e:W.kitOne X.K t c=some b)(h:∀ tk,Q (.bool b) { s with toks:=tk}):
 wpAny (model X.prog X.w) A (call (.builtin "isinstance") [u,c]) Q E s:=by
 cases ty with
 |iq=>cases(show u=Value.none from rx);exact dz W.kitx_none I.vM True.intro e (λz=>nomatch z) h
 |bl y=>cases(show u=Value.bool y from rx);exact dz W.kitx_bool I.vM True.intro e (λz=>nomatch z) h
 |int i=>obtain⟨t,q⟩:=(show ∃ t,u=Value.int i t from rx);cases q;exact dz W.kitx_int I.vM True.intro e (λz=>nomatch z) h
 |str y=>obtain⟨t,q⟩:=(show ∃ t,u=Value.str y t from rx);cases q;exact dz W.kitx_str I.vM True.intro e (λz=>nomatch z) h
 |QO y=>obtain⟨t,q⟩:=(show ∃ t,u=Value.float y t from rx);cases q;exact dz W.kitx_float I.vM True.intro e (λz=>nomatch z) h
 | @lst a xs ea =>
  cases(show u=Value.ref a from rx)
  obtain⟨_,_,n,_,h1⟩:=(show jg X.prog X.w H s.heap a (.lst xs)from I.iA a _ ea)
  exact dz W.kitx_list I.vM ⟨_,h1,rfl⟩ e (λz=>nomatch z) h
 | @BD a ob xs ea =>
  cases(show u=Value.ref a from rx)
  obtain⟨_,_,_,n,_,h1⟩:=(show jg X.prog X.w H s.heap a (.BD ob (.lst xs))from I.iA a _ ea)
  exact dz W.kitx_list I.vM ⟨_,h1,rfl⟩ e (λz=>nomatch z) h
 | @tup a xs ea =>
  cases(show u=Value.ref a from rx)
  obtain⟨_,_,_,p⟩:=(show jg X.prog X.w H s.heap a (.tup xs)from I.iA a _ ea)
  obtain⟨o,h1,h2,_⟩:=p
  exact dz W.kitx_tuple I.vM ⟨o,h1,h2⟩ e (λz=>nomatch z) h
 | @dK a kvs ea =>
  cases(show u=Value.ref a from rx)
  obtain⟨_,_,vs,_,p⟩:=(show jg X.prog X.w H s.heap a (.dK kvs)from I.iA a _ ea)
  obtain⟨o,es,ep,h1,h2,_⟩:=p
  exact dz W.kitx_dict I.vM ⟨o,h1,h2.1⟩ e (λz=>nomatch z) h
 | @dT a kvs ea =>
  cases(show u=Value.ref a from rx)
  obtain⟨_,_,xs,_,o,es,ep,h1,h2,_⟩:=(show jg X.prog X.w H s.heap a (.dT kvs)from I.iA a _ ea)
  exact dz W.kitx_dict I.vM ⟨o,h1,h2.1⟩ e (λz=>nomatch z) h
 | @ins a C dx fs ea cl ha hn htk hm =>
  cases(show u=Value.ref a from rx)
  obtain⟨mA,O,_⟩:=vN I.iA ea
  obtain⟨od,J,_⟩:=O.look
  exact dz (W.kitx_own (cl.get _) cl.hd ha hn htk hm) I.vM J e (λz=>nomatch z) h
end
structure jT (k:Nat)(A:Around):Prop where
 hd:A.handled=none
 dp:A.depth+3*k+5<recursionLimit
 un:A.units+16*k+200<cLine
def jT.mono {j k:Nat}{A:Around}(r:jT k A)(h:j<=k):jT j A:=⟨r.hd,by have:=r.dp;lia,by have:=r.un;lia⟩
def jT.deeper {k:Nat}{A:Around}(r:jT (k+1) A)(env:Env):jT k (A.deeper env) :=
 ⟨r.hd,by have:=r.dp;show A.depth+1+3*k+5<_;lia,by have:=r.un;show A.units+3+16*k+200<_;lia⟩
def Ei {A:Around}{C:ai}{us:ao ak}{kw:ao (Str×ak)}:(A.under (.builtin "type.__call__" ⟨.ref C::us,kw⟩)).depth=A.depth+1:=by
 first|rfl|simp[Around.under,Code.weight,Code.isCreation,Code.isGuard,Code.isCaller,Code.frames,Code.isFrame,guardIds]
def Eh {A:Around}{C:ai}{us:ao ak}{kw:ao (Str×ak)}:(A.under (.builtin "type.__call__" ⟨.ref C::us,kw⟩)).units=A.units+1:=by
 first|rfl|simp[Around.under,Code.cUnits,Code.frames,Code.isFrame]
def jT.make {k:Nat}{A:Around}(r:jT (k+1) A)(C:ai)(us:ao ak)(kw:ao (Str×ak)):jT k (A.under (.builtin "type.__call__" ⟨.ref C::us,kw⟩)) :=
 ⟨r.hd,by have:=r.dp;rw[Ei];lia,by have:=r.un;rw[Eh];lia⟩
def jT.depth {k:Nat}{A:Around}(r:jT k A):A.depth<recursionLimit:=by have:=r.dp;lia
def jT.units {k:Nat}{A:Around}(r:jT k A):A.units+64<cLine:=by have:=r.un;lia
def Ni:TA:=λ_ H Q=>Q [] H
def Fp (ta:TE)(tr:TA):TA:=λσ H Q=>ta σ H λx H1=>tr σ H1 λxs H2=>Q (x::xs) H2
section
variable {X:Cx}{e:Expr}{es:ao Expr}{te:TE}{t:TA}{pos:Pos}
def iR:PA X [] Ni:=λ_ _ _ _ H Q I h=>Calls.spliced_nil ⟨[],H,I,.nil,h⟩
def gv (ha:PE X e te)(hr:PA X es t)(hs:starEach (e::es) X.env=(false,eval e X.env)::starEach es X.env:=by rfl):PA X (e::es) (Fp te t):=by
 intro pos fI s σ H Q I h
 rw[hs]
 show wpAny _ _ (spliced ((false,eval e X.env)::backTo pos (starEach es X.env))) _ _ s
 refine Calls.spliced_cons (iJ (ha fI s σ H _ I h) λu s1 rB=>?_)
 obtain⟨x,H1,I1,r1,q1⟩:=rB
 exact iJ (hr pos fI s1 σ H1 _ I1 q1) λus s2 rZ=>by obtain⟨xs,H2,I2,r2,q2⟩:=rZ;exact⟨x::xs,H2,I2,.cons r1 r2,q2⟩
def Yu (t:TA):TE:=λσ H Q=>t σ H λxs H1=>xs.length<=sizeLine/\∀ p,H1 p=none->Q (.ref p) (upd H1 p (.tup xs))
def Yy (t:TA):TE:=λσ H Q=>t σ H λxs H1=>xs.length<=sizeLine/\∀ p,H1 p=none->Q (.ref p) (upd H1 p (.lst xs))
def RX {x1}(h:PA X es t):PE X (.Tuple es x1 pos) (Yu t):=by
 intro fI s σ H Q I hq
 refine wpAny_Tuple_spliced (iJ (h pos fI s σ H _ I hq) λus s1 ⟨xs,H1,I1,r,z,q⟩=>⟨by rw[<- r.length];exact z,?_⟩)
 have hf:H1 s1.heap.objs.size=none:=I1.iA.fresh (ar _)
 refine⟨.ref s1.heap.objs.size,upd H1 s1.heap.objs.size (.tup xs),I1.laid (t':=s1.toks) (λb u e=>j8 _ e) (ar _) ?_,rfl,q _ hf⟩
 exact⟨z,us,r,⟨_,aG _ rfl,rfl,_,rfl⟩⟩
def Kn (h:PA X es t):PE X (.List es pos) (Yy t):=by
 intro fI s σ H Q I hq
 refine wpAny_List_spliced (iJ (h pos fI s σ H _ I hq) λus s1 ⟨xs,H1,I1,r,z,q⟩=>⟨by rw[<- r.length];exact z,?_⟩)
 have hf:H1 s1.heap.objs.size=none:=I1.iA.fresh (ar _)
 refine⟨.ref s1.heap.objs.size,upd H1 s1.heap.objs.size (.lst xs),I1.laid (t':=s1.toks) (λb u e=>j8 _ e) (ar _) ?_,rfl,q _ hf⟩
 exact⟨z,us,0,r,aG _ rfl⟩
end
abbrev Sp:=ao V->Hp->VK->XK->Prop
abbrev Hj:=ao Env->Hp->ah->XK->ak->ah->Prop
structure E4 (P:ae)(w:af)(K:aa)(mg:Str->Option ak)(fJ:Heap)(A:Around)(fT:List Env)(s:ah)(H:Hp):Prop where
 frames:A.frames=some fT
 mod:Mod K mg fJ
 bs:∀ b o,fJ.get? b=some o->s.heap.get? b=some o/\H b=none
 Jf:fJ.objs.size<=s.heap.objs.size
 uD:s.heap.FunFrames fJ fT
 Tt:∀ b∈AG fT,H b=none
 iA:pQ P w H s.heap
 bare:AllBare s.gens
def CE (fT:ao Env)(P:ae)(w:af)(H:Hp)(s:ah)(Q:VK)(u:ak)(s':ah):Prop :=
 ∃ v H',s'.os=s.os/\AllBare s'.gens/\Un (AG fT) [] H H' s.heap s'.heap/\pQ P w H' s'.heap/\gD v u/\Q v H'
def CR (CX:Hj)(fT:ao Env)(P:ae)(w:af)(H:Hp)(s:ah)(Q:VK)(E:XK)(r:Result)(s':ah):Prop :=
 match r with
 |.ok (.ret u)=>CE fT P w H s Q u s'
 |.ok _=>False
 |.error e=>CX fT H s E e s'
structure gF (P:ae)(w:af)(K:aa)(mg:Str->Option ak)(fJ:Heap)(CX:Hj)(k:Nat)(f:ai)(fd:ag)(ps:List Str)(sp:Sp):Prop where
 len:∀ vs H Q E,sp vs H Q E->vs.length=ps.length
 run:∀(A:Around) (fT:List Env) (s:ah) (H:Hp) (args:Args) (us:List ak) (vs:List V) (Q:VK) (E:XK),jT k A->E4 P w K mg fJ A fT s H->BindsTo s fd args (ps.zip us)->gE vs us->sp vs H Q E ->
  codeAny (model P w) A (.call (.ref f) args) (CR CX fT P w H s Q E) s
def gF.imp {P:ae}{w:af}{K:aa}{mg:Str->aq ak}{fJ:Heap}{CX:Hj}{k:Nat}{f:ai}{fd:ag}{ps:ao Str}{sp sp':Sp}(F:gF P w K mg fJ CX k f fd ps sp)
 (h:∀ vs H Q E,sp' vs H Q E->sp vs H Q E):gF P w K mg fJ CX k f fd ps sp':=
 ⟨λvs H Q E q=>F.len vs H Q E (h _ _ _ _ q),λA fT s H args us vs Q E hr he hb hv hs=>F.run A fT s H args us vs Q E hr he hb hv (h _ _ _ _ hs)⟩
def E4.make {P:ae}{w:af}{K:aa}{mg:Str->aq ak}{fJ:Heap}{A:Around}{fT:ao Env}{s:ah}{H:Hp}(e:E4 P w K mg fJ A fT s H)(C:ai)(us:ao ak)(kw:ao (Str×ak)):
 E4 P w K mg fJ (A.under (.builtin "type.__call__" ⟨.ref C::us,kw⟩)) fT s H:=⟨by first|exact e.frames|(simpa [Around.under,Code.envs,Code.isFrame,pushEnvs]using e.frames),e.mod,e.bs,e.Jf,e.uD,e.Tt,e.iA,e.bare⟩
section
variable {X:Cx}{fI:ao (ai×Obj)}{σ:St}{H:Hp}{s s':ah}
def Inv.Wt (I:Inv X fI σ H s):E4 X.prog X.w X.K X.mg X.fJ X.A X.stack s H :=
 ⟨I.ok.frames,I.ok.mod,I.bs,aW I.ok.Jf I.sz,I.stack,I.sG,I.iA,I.bare⟩
def Inv.after {Q:VK}{u:ak}(I:Inv X fI σ H s)(h:CE X.stack X.prog X.w H s Q u s'):EP X fI σ Q u s':=by
 obtain⟨v,H',os,bare,un,iA,r,q⟩:=h
 obtain⟨hh,g,d,t,os'⟩:=s'
 obtain rfl:os'=s.os:=os
 exact⟨v,H',I.call (h':=hh) (g':=g) (d':=d) (t':=t) (ch:=[]) un iA bare (λb z=>absurd z (by simp)),r,q⟩
end
def Qd (sp:Sp)(AQ:ao V)(E:XK)(t:TA):TE:=λσ H Q=>t σ H λvs H1=>sp (vs++AQ) H1 Q E
def JG (C:ai)(m:Str)(sp:Sp)(AQ:ao V)(E:XK)(ta:TE)(t:TA):TE:=λσ H Q=>ta σ H λx H1=>∃ a dx fs,x=.ref a/\H1 a=some (.ins C dx fs)/\fs.lookup m=none /\
 t σ H1 λvs H2=>sp (x::(vs++AQ)) H2 Q E
def Qb (C:ai)(sp:Sp)(AQ:ao V)(E:XK)(t:TA):TE:=λσ H Q=>t σ H λvs H1=>∀ x dx,H1 x=none->H1 dx=none->dx≠x ->
 sp (.ref x::(vs++AQ)) (upd (upd H1 dx (.own x)) x (.ins C dx [])) (λv H2=>v=.iq/\Q (.ref x) H2) E
def Binds (K:aa)(fd:ag)(ps:ao Str)(ds:ao ak):Prop :=
 ∀(s:ah) (us:ao ak),K.In s.heap->(us++ds).length=ps.length->BindsTo s fd ⟨us,[]⟩ (ps.zip (us++ds))
def Binds.all {K:aa}{fd:ag}{ps:ao Str}(h:∀ us:ao ak,us.length=ps.length->bindArgs fd ⟨us,[]⟩=pure (ps.zip us)):Binds K fd ps []:=λs us _ hl=>by
 rw[cy]at hl ⊢
 exact .of_eq (h us hl)
def Passes (CX:Hj)(X:Cx)(E:XK):Prop:=∀(fI:ao (ai×Obj)) (σ:St) (H:Hp) (s:ah) (e:ak) (s':ah),Inv X fI σ H s->CX X.stack H s E e s'->X.xe e s'
section
variable {X:Cx}{CX:Hj}{k:Nat}{f C:ai}{fd:ag}{ps:ao Str}{sp:Sp}{AQ:ao V}{ds:ao ak}{E:XK}{x m:Str}{p pos mK:Pos}{e o:Expr}{es:ao Expr}{ta:TE}{t:TA}
def JV {fI:ao (ai×Obj)}{σ:St}{H:Hp}{s:ah}{Q:VK}{us:ao ak}{vs:ao V}(F:gF X.prog X.w X.K X.mg X.fJ CX k f fd ps sp)(hr:jT k X.A)(hb:Binds X.K fd ps ds)(hd:gE AQ ds)(hx:Passes CX X E)
 (I:Inv X fI σ H s) (r:gE vs us) (h:sp (vs++AQ) H Q E):wpAny (model X.prog X.w) X.A (call (.ref f) us) (EP X fI σ Q) X.xe s:=by
 have r2:gE (vs++AQ) (us++ds):=r.append hd
 have hl:(us++ds).length=ps.length:=by rw[<- r2.length];exact F.len _ _ _ _ h
 refine wpAny_call (codeAny_mono (F.run X.A X.stack s H ⟨us,[]⟩ (us++ds) (vs++AQ) Q E hr I.Wt (hb s us I.vM hl) r2 h) λr s' hq=>?_)
 cases r with
 |error e=>exact hx fI σ H s e s' I hq
 | ok fl =>
  cases fl with
  |ret u=>exact I.after hq
  |next=>exact False.elim hq
  |brk=>exact False.elim hq
  |cont=>exact False.elim hq
def Af (F:gF X.prog X.w X.K X.mg X.fJ CX k f fd ps sp)(hr:jT k X.A)(hg:Gl X x)(hm:X.mg x=some (.ref f))(hk:W.keepIn X.K (.ref f)=true)(hb:Binds X.K fd ps ds)(hd:gE AQ ds)(hx:Passes CX X E)
 (ha:PA X (e::es) t) (xo:(x==("__debug__" : Str))=false:=by decide) (he:starEach (e::es) X.env=(false,eval e X.env)::starEach es X.env:=by rfl) (pw:(backTo pos (starEach es X.env)).any (·.1)=false:=by rfl):
 PE X (.Call (.Name x p) (e::es) [] pos) (Qd sp AQ E t):=by
 intro fI s σ H Q I h
 refine c0 (Aw I hg hm ?_ xo)
 refine W.callWith_K (h₀:=X.fJ) I.ok.mod.VY hk (iJ (ha pos fI s σ H _ I h) λus s1 rY=>?_) he pw
 obtain⟨vs,H1,I1,r,q⟩:=rY
 refine⟨I1.vM,?_⟩
 exact JV F hr hb hd hx I1 r q
def FO {pl:Sem Bool}(he:PE X o ta)(c:E5 X.K C)(hm:Meth X.K C m f)(F:gF X.prog X.w X.K X.mg X.fJ CX k f fd ps sp)(hr:jT k X.A)(hb:Binds X.K fd ps ds)(hd:gE AQ ds)(hx:Passes CX X E)(ha:PA X (e::es) t)
 (Im:starEach (e::es) X.env=(false,eval e X.env)::starEach es X.env:=by rfl) (pw:(backTo pos (starEach es X.env)).any (·.1)=false:=by rfl)
 (ht:eval (.Call (.Attribute o m mK) (e::es) [] pos) X.env=(do
   let ov <- eval o X.env
   standAt mK.atName
   let (f,first) <- holding [ov] (getMethod ov m pl)
   callWith pos f first (backTo pos (starEach (e::es) X.env)) (backToKw pos (keywordEach [] X.env))):=by rfl):
 PE X (.Call (.Attribute o m mK) (e::es) [] pos) (JG C m sp AQ E ta t):=by
 intro fI s σ H Q I h
 refine W.methodCall_KW (pl:=pl) (iJ (he fI s σ H _ I h) λu s1 qV=>?_) ht
 obtain⟨x,H1,I1,rx,a,dx,fs,ex,ea,l,q⟩:=qV
 subst ex
 obtain rfl:u=Value.ref a:=rx
 refine xr I1 ea c hm l ?_
 refine W.callWith_K (first:=[.ref a]) (h₀:=X.fJ) I.ok.mod.VY hm.kp (iJ (ha pos fI s1 σ H1 _ I1 q) λus s2 tF=>?_) Im pw
 obtain⟨vs,H2,I2,r,q2⟩:=tF
 refine⟨I2.vM,?_⟩
 exact JV (us:=.ref a::us) (vs:=.ref a::vs) F hr hb hd hx I2 (.cons rfl r) q2
structure Mk (K:aa)(C f:ai):Prop where
 makes:W.makesIn K C=true
 init:W.findIn K (.ref C) "__init__"=some (some (.ref f))
 fn:W.isFn K (.ref f)=true
 kp:W.keepIn K (.ref C)=true
def JU {fI:ao (ai×Obj)}{σ:St}{H:Hp}{s:ah}{Q:VK}{us:ao ak}{vs:ao V}(M:Mk X.K C f)(F:gF X.prog X.w X.K X.mg X.fJ CX k f fd ps sp)(hr:jT (k+1) X.A)(hb:Binds X.K fd ps ds)(hd:gE AQ ds)
 (hx:Passes CX X E) (I:Inv X fI σ H s) (r:gE vs us)
 (h:∀ x dx,H x=none->H dx=none->dx≠x->sp (.ref x::(vs++AQ)) (upd (upd H dx (.own x)) x (.ins C dx [])) (λv H2=>v=.iq/\Q (.ref x) H2) E):
 wpAny (model X.prog X.w) X.A (call (.ref C) us) (EP X fI σ Q) X.xe s:=by
 have hq:=h (s.heap.objs.size+1) s.heap.objs.size (I.iA.fresh (eT _)) (I.iA.fresh (ar _)) (aD (bL _))
 have I2:=Inv.made (C:=C) I
 have r2:gE (V.ref (s.heap.objs.size+1)::(vs++AQ)) (Value.ref (s.heap.objs.size+1)::(us++ds)):=.cons rfl (r.append hd)
 have hl:(Value.ref (s.heap.objs.size+1)::us++ds).length=ps.length:=by
  have e:=r2.length
  rw[F.len _ _ _ _ hq]at e
  exact e.symm
 refine wpAny_call (K3 (f:=f) I.vM M.makes M.init (beq_iff_eq.mp M.fn) (codeAny_mono (F.run _ X.stack _ _ ⟨Value.ref (s.heap.objs.size+1)::us,[]⟩ (Value.ref (s.heap.objs.size+1)::(us++ds)) _ _ E (hr.make C us [])
  (I2.Wt.make C us []) (hb _ (Value.ref (s.heap.objs.size+1)::us) I2.vM hl) r2 hq) λr s' Lo=>?_))
 cases r with
 |error e=>exact hx fI σ _ _ e s' I2 Lo
 | ok fl =>
  cases fl with
  | ret u =>
   obtain⟨v,H',I3,rv,ev,q3⟩:=I2.after Lo
   subst ev
   exact⟨rv,⟨V.ref (s.heap.objs.size+1),H',I3,rfl,q3⟩⟩
  |next=>exact False.elim Lo
  |brk=>exact False.elim Lo
  |cont=>exact False.elim Lo
def NY (M:Mk X.K C f)(F:gF X.prog X.w X.K X.mg X.fJ CX k f fd ps sp)(hr:jT (k+1) X.A)(hg:Gl X x)(hm:X.mg x=some (.ref C))(hb:Binds X.K fd ps ds)(hd:gE AQ ds)(hx:Passes CX X E)
 (ha:PA X (e::es) t) (xo:(x==("__debug__" : Str))=false:=by decide) (he:starEach (e::es) X.env=(false,eval e X.env)::starEach es X.env:=by rfl) (pw:(backTo pos (starEach es X.env)).any (·.1)=false:=by rfl):
 PE X (.Call (.Name x p) (e::es) [] pos) (Qb C sp AQ E t):=by
 intro fI s σ H Q I h
 refine c0 (Aw I hg hm ?_ xo)
 refine W.callWith_K (h₀:=X.fJ) I.ok.mod.VY M.kp (iJ (ha pos fI s σ H _ I h) λus s1 rB=>?_) he pw
 obtain⟨vs,H1,I1,r,q⟩:=rB
 refine⟨I1.vM,?_⟩
 exact JU M F hr hb hd hx I1 r q
end
def PK (X:Cx)(VX:ao Keyword)(t:TA):Prop :=
 ∀(pos:Pos) (fI:ao (ai×Obj)) (s:ah) (σ:St) (H:Hp) (Q:ao V->Hp->Prop),Inv X fI σ H s->t σ H Q->wpAny (model X.prog X.w) X.A (evalAll ((backToKw pos (keywordEach VX X.env)).map (·.2))) (AP X fI σ Q) X.xe s
section
variable {X:Cx}{CX:Hj}{k:Nat}{f C:ai}{fd:ag}{ps ks:ao Str}{sp:Sp}{E:XK}{x m:Str}{p pos mK HY:Pos}{e o:Expr}{es:ao Expr}{VX:ao Keyword}{te ta:TE}{t tk:TA}{nm:aq Str}
def RU:PK X [] Ni:=λ_ _ _ _ H Q I h=>wpAny_evalAll_nil ⟨[],H,I,.nil,h⟩
def NT (ha:PE X e te)(hr:PK X VX t):PK X (⟨nm,e,HY⟩::VX) (Fp te t):=by
 intro pos fI s σ H Q I h
 show wpAny _ _ (evalAll ((do let v <- eval e X.env;standAt pos;pure v)::(backToKw pos (keywordEach VX X.env)).map (·.2))) _ _ s
 refine wpAny_evalAll_cons (fY (iJ (ha fI s σ H _ I h) λu s1 rZ=>?_))
 obtain⟨x,H1,I1,r1,q1⟩:=rZ
 refine fY (eB (au ?_))
 exact iJ (hr pos fI s1 σ H1 _ I1 q1) λus s2 qX=>by obtain⟨xs,H2,I2,r2,q2⟩:=qX;exact⟨x::xs,H2,I2,.cons r1 r2,q2⟩
variable {g:ao ak->ao ak->ao ak}{gV:ao V->ao V->ao V}
end
structure gm (N P:List Str)(sc:Scope):Prop where
 kind:sc.kind=.function
 co:sc.isCoroutine=false
 gen:sc.isGenerator=false
 nd:N.Nodup
 pre:N.take P.length=P
 par:∀ x∈P,sc.names.lookup x=some .local\/sc.names.lookup x=some .cell
 Sl:∀ y∈sc.names,y.2≠.free
def zx {kindOf:Str->aq NameKind}{x:Str}:∀ {binds:ao (Str×ak)} {m:Str->aq ak},(∀ v,(x,v)∉binds)->bindL kindOf binds m x=m x
 |[],_,_=>rfl
 | (n,v)::r,m,h=>by
  unfold bindL
  rw[zx λw hw=>h w (nF _ hw)]
  split
  .have:x≠n:=by rintro rfl;exact h v aF
   simp[this]
  .rfl
def zz {kindOf:Str->aq NameKind}{x:Str}:∀ {binds:ao (Str×ak)} {m:Str->aq ak},(∀ v,(x,v)∉binds)->bindC kindOf binds m x=m x
 |[],_,_=>rfl
 | (n,v)::r,m,h=>by
  unfold bindC
  rw[zz λw hw=>h w (nF _ hw)]
  split
  .rfl
  .have:x≠n:=by rintro rfl;exact h v aF
   simp[this]
def zy {kindOf:Str->aq NameKind}{x:Str}{v:ak}:∀ {P:ao Str} {vs:ao ak} {i:Nat} {m:Str->aq ak},P.Nodup->P[i]?=some x->vs[i]?=some v->kindOf x=some .local ->
 bindL kindOf (P.zip vs) m x=some v
 |[],_,_,_,_,h,_,_=>by simp at h
 |_::_,[],_,_,_,_,h,_=>by simp at h
 | p::P,w::vs,0,m,nd,h1,h2,hk=>by
  simp at h1 h2;subst h1;subst h2
  show bindL kindOf ((p,w)::P.zip vs) m p=_
  unfold bindL
  rw[zx λv hv=>(List.nodup_cons.mp nd).1 (eL hv).1,aB hk]
  simp
 | p::P,w::vs,i+1,m,nd,h1,h2,hk=>by
  show bindL kindOf ((p,w)::P.zip vs) m x=_
  unfold bindL
  exact zy (i:=i) (List.nodup_cons.mp nd).2 (by simpa using h1) (by simpa using h2) hk
def zA {kindOf:Str->aq NameKind}{x:Str}{v:ak}:∀ {P:ao Str} {vs:ao ak} {i:Nat} {m:Str->aq ak},P.Nodup->P[i]?=some x->vs[i]?=some v->kindOf x≠some .local ->
 bindC kindOf (P.zip vs) m x=some v
 |[],_,_,_,_,h,_,_=>by simp at h
 |_::_,[],_,_,_,_,h,_=>by simp at h
 | p::P,w::vs,0,m,nd,h1,h2,hk=>by
  simp at h1 h2;subst h1;subst h2
  show bindC kindOf ((p,w)::P.zip vs) m p=_
  unfold bindC
  rw[zz λv hv=>(List.nodup_cons.mp nd).1 (eL hv).1,aC hk]
  simp
 | p::P,w::vs,i+1,m,nd,h1,h2,hk=>by
  show bindC kindOf ((p,w)::P.zip vs) m x=_
  unfold bindC
  exact zA (i:=i) (List.nodup_cons.mp nd).2 (by simpa using h1) (by simpa using h2) hk
def start (N:ao Str)(vs:ao V):St:=vs.map some++List.replicate (N.length - vs.length) none
def qZ (CX:Hj)(P:ae)(w:af)(K:aa)(mg:Str->aq ak)(fJ:Heap)(N:ao Str)(qual:Str)(scope:Scope)(f:ai)(cd:ak)(A:Around)(fT:ao Env)(s:ah)(H:Hp)(E:XK):Cx where
 prog:=P
 w:=w
 K:=K
 mg:=mg
 fJ:=fJ
 A:=A.deeper (envOfC qual scope s.heap.objs.size f cd)
 N:=N
 s₀:=s
 H₀:=H
 env:=envOfC qual scope s.heap.objs.size f cd
 fT:=fT
 stack:=envOfC qual scope s.heap.objs.size f cd::fT
 ex:=[]
 gY:=true
 fn:=λ_=>true
 pn:=[]
 xe:=λe s'=>wpAny (model P w) (A.deeper (envOfC qual scope s.heap.objs.size f cd)) (leaving (envOfC qual scope s.heap.objs.size f cd) e) (λ_ UA=>CX fT H s E e UA) (λe' UA=>CX fT H s E e' UA) s'
def oN {sc:Scope}{n:Nat}{x:Str}(h:sc.names.lookup x=some .cell):∃ c,(cellsFrom n sc.names []).lookup x=some c:=by
 have q:=W.cellsFrom_some sc.names n [] (.inl h)
 exact Option.isSome_iff_exists.mp q
def Ig {CX:Hj}{P:ae}{w:af}{K:aa}{mg:Str->aq ak}{fJ:Heap}{N ps:ao Str}{qual:Str}{scope:Scope}{f:ai}{cd:ak}{A:Around}{fT:ao Env}{s s1:ah}{H:Hp}{E:XK}{us:ao ak}{vs:ao V}
 (S:gm N ps scope) (hd:A.handled=none) (e0:E4 P w K mg fJ A fT s H) (hl:vs.length=ps.length) (r:gE vs us)
 (x:InCallC s s.heap.objs.size (bindL (envOfC qual scope s.heap.objs.size f cd).kindOf (ps.zip us) λ_=>none) (cellsFrom (s.heap.objs.size+1) scope.names []) (bindC (envOfC qual scope s.heap.objs.size f cd).kindOf (ps.zip us) λ_=>none) s1):
 Inv (qZ CX P w K mg fJ N qual scope f cd A fT s H E) [] (start N vs) H s1:=by
 have pw:ps.length<=N.length:=by have:=cA List.length S.pre;rw[bH]at this;lia
 obtain⟨h1,tk,rfl,hk⟩:=x.done
 have VI:∀ b:ai,b∉(qZ CX P w K mg fJ N qual scope f cd A fT s H E).ex:=λb z=>absurd (show b∈([]:ao ai)from z) (by simp)
 refine⟨⟨e0.mod,S.kind,rfl,rfl,ar _,λy z c h1 h2=>?_,λy hy=>?_,λy c _ h=>?_,λ_=>hd,Around.frames_deeper e0.frames,.inr ⟨rfl,rfl⟩,λb z=>absurd z (VI b),e0.bs,e0.Jf,λb _ _=>VI b,λb z=>absurd z (VI b),e0.uD,e0.Tt⟩,
  rfl,e0.bare,Un.jz hk,⟨_,x.toInCall.ns,λi y v h1 h2 h3=>?_⟩,λy c h=>⟨_,x.cell y c h⟩,e0.iA.fresh (ar _),λy c h=>?_,λp hp=>absurd (show p∈([]:ao (ai×Obj))from hp) (by simp),e0.iA.jz hk,?_⟩
 .exact name_of_addr x.apart (dj h1) (dj h2)
 .have hy:scope.names.lookup y=some .cell\/scope.names.lookup y=some .free:=hy
  rcases hy with hy|hy
  .exact oN hy
  .exact absurd rfl (S.Sl _ (dj hy))
 .exact dU (x.above y c (dj h))
 .have hi:i<vs.length:=by
   unfold start at h2
   by_cases hi:i<vs.length
   .exact hi
   .rw[pX (by simpa using hi)]at h2
    rw[eV]at h2
    split at h2<;>cases h2
  have ha:vs[i]?=some v:=by
   unfold start at h2
   rw[vR (by simpa using hi),oU]at h2
   cases e:vs[i]? with
   |none=>rw[e]at h2;cases h2
   |some a=>rw[e]at h2;cases h2;rfl
  obtain⟨u,hu,rv⟩:=r.get ha
  have hp:ps[i]?=some y:=by
   rw[<- S.pre,bT (by lia)];exact h1
  have ndP:ps.Nodup:=by rw[<- S.pre];exact S.nd.sublist (List.take_sublist _ _)
  refine⟨u,rv,?_⟩
  rcases S.par y (mw hp)with k|k
  .exact .inl ⟨k,zy ndP hp hu k⟩
  .obtain⟨c,e⟩:=oN (n:=s.heap.objs.size+1) k
   refine .inr ⟨.inl k,c,e,?_⟩
   have q:=x.cell y c e
   rw[zA ndP hp hu (by show scope.names.lookup y≠_;rw[k];decide)]at q
   exact q
 .exact e0.iA.fresh (dU (x.above y c (dj h)))
 .unfold start
  show _=N.length
  rw[oq,iu,aZ]
  lia
def QN {CX:Hj}{P:ae}{w:af}{K:aa}{mg:Str->aq ak}{fJ:Heap}{k:Nat}{f:ai}{name qual:Str}{params:Arguments}{body:ao Stmt}{scope:Scope}{dV kV doc pm jl ct oc:ak}{an od:aq ai}
 {N3:Array (aq ak)} {N ps:ao Str} {sp:Sp} (lk:K.lookup f=some ⟨oc,od,.func (W.fnOf name qual params body scope dV kV doc pm an jl ct),N3⟩) (Ew:W.codeIn K jl qual=true) (S:gm N ps scope)
 (len:∀ vs H Q E,sp vs H Q E->vs.length=ps.length)
 (xp:∀(A:Around) (fT:ao Env) (s:ah) (H:Hp) (vs:ao V) (Q:VK) (E:XK),jT k (A.deeper (envOfC qual scope s.heap.objs.size f jl))->sp vs H Q E ->
   ∃ t,Bg (qZ CX P w K mg fJ N qual scope f jl A fT s H E) body t/\t { nx:=λ_ H'=>Q .iq H',rt:=Q} (start N vs) H):
 gF P w K mg fJ CX (k+1) f (W.fnOf name qual params body scope dV kV doc pm an jl ct) ps sp:=by
 refine⟨len,λA fT s H args us vs Q E hr e0 hb r MV=>?_⟩
 have hl:=len _ _ _ _ MV
 have KX:K.In s.heap:=e0.mod.VY.keeps λb o e=>(e0.bs b o e).1
 have lim:s.heap.NoLimit:=e0.mod.nolimit.keeps λb o e=>(e0.bs b o e).1
 have Wb:∀ y∈ps.zip us,scope.names.lookup y.1=some .local\/(scope.names.lookup y.1=some .cell/\((cellsFrom (s.heap.objs.size+1) scope.names []).lookup y.1).isSome=true):=λ⟨n,v⟩ hy=>by
  rcases S.par n (eL hy).1 with q|q
  .exact .inl q
  .exact .inr ⟨q,W.cellsFrom_some _ _ _ (.inl q)⟩
 refine codeAny_call_function hr.depth (KX _ _ lk) rfl S.co S.gen rfl (W.codeRec_of KX Ew) (hb _ _ _ _ ?_)
 refine wpAny_newFunctionEnv_cells S.kind Wb λenv he s1 x=>?_
 subst he
 refine⟨lim.keeps x.toInCall.keep,codeAny_func ?_⟩
 obtain⟨t,ht,hq⟩:=xp A fT s H vs Q E (hr.deeper _) MV
 have I:Inv (qZ CX P w K mg fJ N qual scope f jl A fT s H E) [] (start N vs) H s1:=Ig S hr.hd e0 hl r x
 refine cc (ht [] s1 (start N vs) H _ I hq) (λfl s' hs=>?_) λe s' hs=>hs
 have fin:∀ {ji:St} {H':Hp} {v:V} {u:ak},Inv (qZ CX P w K mg fJ N qual scope f jl A fT s H E) [] ji H' s'->gD v u->Q v H'->CE fT P w H s Q u s' :=
  λ{ji H' v u} J rv q=>⟨v,H',J.os,J.bare,J.fJ,J.iA,rv,q⟩
 cases fl with
 | ret u =>
  obtain⟨v,ji,H',J,rv,q⟩:=hs
  exact fin J rv q
 | next =>
  obtain⟨ji,H',J,q⟩:=hs
  exact fin (v:=V.iq) (u:=Value.none) J rfl q
 | brk =>
  obtain⟨_,_,_,q⟩:=hs
  exact False.elim q
 | cont =>
  obtain⟨_,_,_,q⟩:=hs
  exact False.elim q
section
variable {X:Cx}{x:Str}{p pos:Pos}{e:Expr}{es:ao Expr}{t:TA}{id T:String}{r:ao V->Hp->VK->Prop}
def YF (r:ao V->Hp->VK->Prop)(t:TA):TE:=λσ H Q=>t σ H λvs H1=>r vs H1 Q
def iz (hc:jB X (.builtin id) r)(hg:Gl X x)(hm:X.mg x=none)(hv:bootBuiltins x=some (.builtin id))(ha:PA X (e::es) t)(hn:x ≠ "__name__":=by decide)(xo:(x==("__debug__" : Str))=false:=by decide)
 (he:starEach (e::es) X.env=(false,eval e X.env)::starEach es X.env:=by rfl) (pw:(backTo pos (starEach es X.env)).any (·.1)=false:=by rfl):PE X (.Call (.Name x p) (e::es) [] pos) (YF r t):=by
 intro fI s σ H Q I h
 refine c0 (mj I hg hm hv ?_ hn xo)
 exact PyProof.Rows.callWith_builtin1 (iJ (ha pos fI s σ H _ I h) λus s1 qW=>by obtain⟨vs,H1,I1,r1,q1⟩:=qW;exact hc fI s1 σ H1 vs us Q I1 r1 q1) he pw
def yQ (hc:jB X (.type T) r)(hg:Gl X x)(hm:X.mg x=none)(hv:bootBuiltins x=some (.type T))(ha:PA X (e::es) t)(hn:x ≠ "__name__":=by decide)(xo:(x==("__debug__" : Str))=false:=by decide)
 (he:starEach (e::es) X.env=(false,eval e X.env)::starEach es X.env:=by rfl) (pw:(backTo pos (starEach es X.env)).any (·.1)=false:=by rfl):PE X (.Call (.Name x p) (e::es) [] pos) (YF r t):=by
 intro fI s σ H Q I h
 refine c0 (mj I hg hm hv ?_ hn xo)
 exact bw (iJ (ha pos fI s σ H _ I h) λus s1 rY=>by obtain⟨vs,H1,I1,r1,q1⟩:=rY;exact hc fI s1 σ H1 vs us Q I1 r1 q1) he pw
end
end L2
namespace HT
open PySem PyProof.Rows
section
variable {prog:ae}{w:af}{A:Around}{E:ak->ah->Prop}{s:ah}
def oB (n d:Nat):aq Int->Nat
 |none=>d
 |some v=>if v<0 then(v+(n:Int)).toNat else min v.toNat n
def wW (n d:Nat):oB n d none=d:=rfl
def mU (n d k:Nat):oB n d (some (k:Int))=min k n:=by
 show(if(k:Int)<0 then((k:Int)+(n:Int)).toNat else min (k:Int).toNat n)=min k n
 rw[aC (by lia),xq]
def z7 (n d:Nat)(hd:d<=n)(o:aq Int):oB n d o<=n:=by
 cases o with
 |none=>exact hd
 | some v =>
  show(if v<0 then(v+(n:Int)).toNat else min v.toNat n)<=n
  by_cases hv:v<0
  .rw[aB hv];lia
  .rw[aC hv];exact Nat.min_le_right _ _
end
end HT
namespace L2
open PySem PySem.Spec PyProof.Rows
abbrev TO:=St->Hp->(aq Int->Hp->Prop)->Prop
def PO (X:Cx)(e:aq Expr)(t:TO):Prop :=
 ∀(fI:ao (ai×Obj)) (s:ah) (σ:St) (H:Hp) (Q:aq Int->Hp->Prop),Inv X fI σ H s->t σ H Q ->
  wpAny (model X.prog X.w) X.A (evalPart e X.env) (λu s'=>∃ o H',Inv X fI σ H' s'/\IsPart u o/\Q o H') X.xe s
def Nh:TO:=λ_ H Q=>Q none H
section
variable {X:Cx}{e:Expr}{te:TE}{lo hi:aq Expr}{tl th:TO}{pos p2:Pos}
def NS:PO X none Nh:=by
 intro fI s σ H Q I h
 rw[evalPart_none]
 exact au ⟨none,H,I,.none,h⟩
def Yc (X:Cx)(r:V->aq Int->aq Int->Hp->VK->Prop):Prop :=
 ∀(fI:ao (ai×Obj)) (s:ah) (σ:St) (H:Hp) (x:V) (v vl vu:ak) (lo hi:aq Int) (sl:ai) (Q:VK),Inv X fI σ H s->gD x v->s.heap.IsSliceOf sl vl vu .none->IsPart vl lo->IsPart vu hi->r x lo hi H Q ->
  ∃ T id,typeLookup (.type T) "__getitem__"=pure (some (.builtin id))/\s.TypeIs v T/\wpAny (model X.prog X.w) X.A (getItem v (.ref sl)) (EP X fI σ Q) X.xe s
def tSl (r:V->aq Int->aq Int->Hp->VK->Prop)(te:TE)(tl th:TO):TE:=λσ H Q=>te σ H λx H1=>tl σ H1 λl H2=>th σ H2 λu H3=>r x l u H3 Q
def Km {r:V->aq Int->aq Int->Hp->VK->Prop}(hr:Yc X r)(he:PE X e te)(hl:PO X lo tl)(hu:PO X hi th):PE X (.Subscript e (.Slice lo hi none p2) pos) (tSl r te tl th):=by
 intro fI s σ H Q I h
 refine Subscript_ (iJ (he fI s σ H _ I h) λv s1 qV=>?_)
 obtain⟨x,H1,I1,r1,q1⟩:=qV
 refine wpAny_Slice (iJ (hl fI s1 σ H1 _ I1 q1) λvl s2 tF=>?_)
 obtain⟨l,H2,I2,pl,q2⟩:=tF
 refine iJ (hu fI s2 σ H2 _ I2 q2) λvu s3 rB=>?_
 obtain⟨u,H3,I3,pu,q3⟩:=rB
 rw[evalPart_none]
 refine au ?_
 have I4:Inv X fI σ H3 { s3 with heap:=s3.heap.push { cls:=.type "slice",data:=.fields #[vl,vu,.none]}}:=I3.jz (t':=s3.toks) λb ob q=>j8 _ q
 obtain⟨T,id,hT,ht,hg⟩:=hr fI { s3 with heap:=s3.heap.push { cls:=.type "slice",data:=.fields #[vl,vu,.none]}} σ H3 x v vl vu l u s3.heap.objs.size Q I4 r1 (Heap.IsSliceOf.new ..) pl pu q3
 show wpAny (model X.prog X.w) X.A (subscriptTail e (.Slice lo hi none p2) v (.ref s3.heap.objs.size)) (EP X fI σ Q) X.xe { s3 with heap:=s3.heap.push { cls:=.type "slice",data:=.fields #[vl,vu,.none]}}
 exact tail_any (ops:=[.ref s3.heap.objs.size,v]) ht hT hg (by with_unfolding_all rfl)
def EL (xs:ao V)(lo hi:aq Int):ao V:=(xs.drop (HT.oB xs.length 0 lo)).take (HT.oB xs.length xs.length hi - HT.oB xs.length 0 lo)
def Dc (xs:ao V)(lo hi:aq Int):(EL xs lo hi).length<=xs.length:=by
 unfold EL
 rw[bH,bA]
 lia
end
def CB (n:Nat)(i:Int):aq Nat:=if 0<=i then(if i<n then some i.toNat else none)else if -(n:Int)<=i then some (i+n).toNat else none
def lO {α:Type}(xs:ao α)(i:Int):aq α:=(CB xs.length i).bind λj=>xs[j]?
def Gh {n:Nat}{i:Int}{j:Nat}(h:CB n i=some j):seqIndex? i n=some j/\j<n /\ -(n:Int)<=i/\i<n:=by
 unfold CB at h
 by_cases h0:0<=i
 .rw[aB h0]at h
  by_cases h1:i<n
  .rw[aB h1]at h
   have e:i.toNat=j:=aM h
   exact⟨by rw[seqIndex_of h0 h1,e],by lia,by lia,h1⟩
  .rw[aC h1]at h;cases h
 .rw[aC h0]at h
  by_cases h1:-(n:Int)<=i
  .rw[aB h1]at h
   have e:(i+n).toNat=j:=aM h
   exact⟨by rw[seqIndex_neg (by lia) h1,e],by lia,h1,by lia⟩
  .rw[aC h1]at h;cases h
def Bc {α:Type}{xs:ao α}{i:Int}{v:α}(h:lO xs i=some v):∃ j,seqIndex? i xs.length=some j/\xs[j]?=some v/\j<xs.length /\ -(xs.length:Int)<=i/\i<xs.length:=by
 unfold lO at h
 cases e:CB xs.length i with
 |none=>rw[e]at h;cases h
 | some j =>
  rw[e]at h
  obtain⟨h1,h2,h3,h4⟩:=Gh e
  exact⟨j,h1,h,h2,h3,h4⟩
def jQ {α:Type}{xs:ao α}{j:Nat}{v:α}(h:xs[j]?=some v):lO xs (j:Int)=some v:=by
 have hj:j<xs.length:=(kM h).1
 have e:CB xs.length (j:Int)=some j:=by
  unfold CB
  rw[aB (by lia),aB (by lia)];simp
 unfold lO;rw[e];exact h
def Dn {α:Type}(xs:ao α)(v:α):lO (xs++[v]) (-1)=some v:=by
 have hl:(xs++[v]).length=xs.length+1:=by simp
 have e:CB (xs++[v]).length (-1)=some xs.length:=by
  unfold CB
  rw[hl,aC (by decide),aB (by lia)]
  congr 1
  lia
 unfold lO
 rw[e]
 show(xs++[v])[xs.length]?=some v
 simp
def Bf (b:Expr):Prop:=∀ o i,subscripted b false o i=operate [o,i] (getItem o i)
def Hh (X:Cx)(r:R2):Prop :=
 ∀(value slice:Expr) (fI:ao (ai×Obj)) (s:ah) (σ:St) (H:Hp) (x y:V) (v u:ak) (Q:VK),Inv X fI σ H s->gD x v->gD y u->r x y H Q ->
  subscripted slice false v u=operate [v,u] (getItem v u)->wpAny (model X.prog X.w) X.A (subscriptTail value slice v u) (EP X fI σ Q) X.xe s
def MG (X:Cx)(id:String)(r:V->ao V->Hp->VK->Prop):Prop :=
 ∀(fI:ao (ai×Obj)) (s:ah) (σ:St) (H:Hp) (x:V) (xs:ao V) (v:ak) (us:ao ak) (Q:VK),Inv X fI σ H s->gD x v->gE xs us->r x xs H Q ->
  wpAny (model X.prog X.w) X.A (call (.builtin id) (v::us)) (EP X fI σ Q) X.xe s
section
variable {X:Cx}{a b:Expr}{ta tb:TE}{pos:Pos}
def Hh.or {r r':R2}(h:Hh X r)(h':Hh X r'):Hh X (λx y H Q=>r x y H Q\/r' x y H Q):=by
 intro value slice fI s σ H x y v u Q I rx ry q hs
 rcases q with q|q
 .exact h value slice fI s σ H x y v u Q I rx ry q hs
 .exact h' value slice fI s σ H x y v u Q I rx ry q hs
def qc {r:R2}(hr:Hh X r)(ha:PE X a ta)(hb:PE X b tb)(hs:Bf b):PE X (.Subscript a b pos) (U4 r ta tb):=by
 intro fI s σ H Q I h
 exact Subscript_ (Pm ha hb I h λv u s2 x y H2 I2 rx ry q=>hr a b fI s2 σ H2 x y v u Q I2 rx ry q (hs _ _))
def Vp (K:aa):R2:=λx y H Q=>∃ p xs i v,x=.ref p/\y=.int i/\pF K H p xs/\lO xs i=some v/\Q v H
def Vn (K:aa):R2:=λx y H Q=>∃ p xs i v,x=.ref p/\y=.int i/\EU K H p xs/\lO xs i=some v/\Q v H
def Vo:R2:=λx y H Q=>∃ z i c,x=.str z/\y=.int i/\z.length<=sizeLine/\lO z.cps.toList i=some c/\Q (.str ⟨#[c]⟩) H
def OD:Hh X (Vp X.K):=by
 intro value slice fI s σ H x y v u Q I rx ry h hs
 obtain⟨p,xs,i,z,rfl,rfl,hq,he,q⟩:=h
 cases rx
 obtain⟨t,rfl⟩:=ry
 obtain⟨gp,r,pl,hz⟩:=I.list hq
 obtain⟨j,h1,h2,h3,h4,h5⟩:=Bc he
 obtain⟨w,ew,By⟩:=r.get h2
 have hl:=r.length
 have hn:=qi
 have fin:EP X fI σ Q w s:=⟨z,H,I,By,q⟩
 by_cases h0:0<=i
 .have hj:i.toNat=j:=by
   rw[seqIndex_of h0 h5]at h1
   exact aM h1
  exact item_listR pl.isList h0 (by lia) (by rw[hj];simpa using ew) fin hs
 .have hj:(i+(gp.toArray.size:Int)).toNat=j:=by
   rw[seqIndex_neg (by lia) h4]at h1
   rw[aE,<- hl]
   exact aM h1
  exact subscriptTail_builtinR (x:=w) pl.isList.typeIs slot_list_getitem.lookup
   (wpAny_getItem_list_neg (Q:=λr s'=>r=w/\EP X fI σ Q r s') pl.isList (by lia) (by rw[aE]<;> lia) (by lia) (by rw[hj];simpa using ew) ⟨rfl,fin⟩) hs
def SI:Hh X (Vn X.K):=by
 intro value slice fI s σ H x y v u Q I rx ry h hs
 obtain⟨p,xs,i,z,rfl,rfl,hq,he,q⟩:=h
 cases rx
 obtain⟨t,rfl⟩:=ry
 obtain⟨gp,r,pl,hz⟩:=I.tuple hq
 obtain⟨j,h1,h2,h3,h4,h5⟩:=Bc he
 obtain⟨w,ew,By⟩:=r.get h2
 have hl:=r.length
 have hn:=qi
 have fin:EP X fI σ Q w s:=⟨z,H,I,By,q⟩
 exact subscriptTail_builtinR (x:=w) pl.typeIs slot_tuple_getitem.lookup
  (getItem_tuple (j:=j) (Q:=λr s'=>r=w/\EP X fI σ Q r s') pl (by lia) (by lia) (by rw[aE,<- hl];exact h1) (by simpa using ew) ⟨rfl,fin⟩) hs
def SJ:Hh X Vo:=by
 intro value slice fI s σ H x y v u Q I rx ry h hs
 obtain⟨z,i,c,rfl,rfl,hz,he,q⟩:=h
 obtain⟨t,rfl⟩:=rx
 obtain⟨t',rfl⟩:=ry
 obtain⟨j,h1,h2,h3,h4,h5⟩:=Bc he
 have hl:z.cps.toList.length=z.length:=by simp[Str.length]
 rw[hl]at h1 h4 h5
 have hn:=qi
 exact tail_any (typeIs_str s z t) slot_str_getitem.lookup (getItem_str (c:=c) (by
  have e1:decide (i < -(2 ^ 63:Int))=false:=aV (by lia)
  have e2:decide (i≥2 ^ 63)=false:=aV (by lia)
  rw[e1,e2,Bool.or_false]) (by rw[h1];simpa using h2) ⟨.str ⟨#[c]⟩,H,I.tok _,⟨_,rfl⟩,q⟩) hs
def rIx (K:aa):R2:=λx y H Q=>Vp K x y H Q\/Vn K x y H Q\/Vo x y H Q
def SK:Hh X (rIx X.K):=OD.or (SI.or SJ)
def Eg (gp:ao ak)(n j:Nat)(u:ak):Obj.mapSeq (·.setIfInBounds j u) { cls:=.type "list",data:=.seq gp.toArray n}={ cls:=.type "list",data:=.seq (gp.set j u).toArray n}:=by
 simp[Obj.mapSeq]
def Inv.lst {fI:ao (ai×Obj)}{σ:St}{H:Hp}{s:ah}{p:ai}{xs:ao V}(I:Inv X fI σ H s)(h:H p=some (.lst xs)):
 ∃(gp:ao ak) (n:Nat),gE xs gp/\s.heap.get? p=some { cls:=.type "list",data:=.seq gp.toArray n}/\xs.length<=sizeLine:=by
 obtain⟨z,gp,n,r,e⟩:=I.iA p _ h
 exact⟨gp,n,r,e,z⟩
def Inv.Su {fI:ao (ai×Obj)}{σ:St}{H:Hp}{s:ah}{p:ai}{xs ys:ao V}{gp its':ao ak}{n n':Nat}{f:Obj->Obj}(I:Inv X fI σ H s)(h:H p=some (.lst xs))
 (ho:s.heap.get? p=some { cls:=.type "list",data:=.seq gp.toArray n}) (hf:f { cls:=.type "list",data:=.seq gp.toArray n}={ cls:=.type "list",data:=.seq its'.toArray n'}) (r:gE ys its') (hz:ys.length<=sizeLine) (t:Nat):
 Inv X fI σ (upd H p (.lst ys)) {s with heap:=s.heap.update p f,toks:=t}:=by
 have e:(s.heap.update p f).get? p=some { cls:=.type "list",data:=.seq its'.toArray n'}:=by
  rw[bG f ho (by rw[hf]<;> rfl),hf]
 refine I.write (x:=p) (e:=p) (by rw[h];trivial) (.inl rfl) (λb u hb q=>(aT _ _ (bo hb)).trans q) ⟨_,e⟩ ?_
 exact⟨hz,its',n',r,e⟩
def Vm:V->V->V->Hp->(Hp->Prop)->Prop:=λo i v H Q=>∃ p xs k j,o=.ref p/\i=.int k/\H p=some (.lst xs)/\CB xs.length k=some j/\Q (upd H p (.lst (xs.set j v)))
def set_list:PB X Vm:=by
 intro fI s σ H o i v ov iv u Q I ro ri rv h
 obtain⟨p,xs,k,j,rfl,rfl,hp,hj,q⟩:=h
 cases ro
 obtain⟨t,rfl⟩:=ri
 obtain⟨gp,n,r,ho,hz⟩:=I.lst hp
 obtain⟨h1,h2,h3,h4⟩:=Gh hj
 have hl:=r.length
 have hn:=qi
 have I':Inv X fI σ (upd H p (.lst (xs.set j v))) { s with heap:=s.heap.update p (Obj.mapSeq (·.setIfInBounds j u))} :=
  I.Su hp ho (Eg gp n j u) (r.set rv j) (by rw[bW];exact hz) s.toks
 by_cases h0:0<=k
 .have hk:k.toNat=j:=by
   rw[seqIndex_of h0 h4]at h1
   exact aM h1
  exact W.ki_setAt ho h0 (by lia) (by rw[aE,<- hl];exact h4) (by rw[hk];exact⟨_,I',q⟩)
 .have hk:(k+(gp.toArray.size:Int)).toNat=j:=by
   rw[seqIndex_neg (by lia) h3]at h1
   rw[aE,<- hl]
   exact aM h1
  exact W.ki_setBack ho (by lia) (by rw[aE,<- hl];exact h3) (by lia) (by rw[hk];exact⟨_,I',q⟩)
def zV (lo hi:aq Int)(n:Nat):(sliceBounds lo hi none n).1=((HT.oB n 0 lo:Nat):Int)/\(sliceBounds lo hi none n).2.1=((HT.oB n n hi:Nat):Int)/\(sliceBounds lo hi none n).2.2=1:=by
 refine⟨?_,?_,rfl⟩
 .cases lo with
  |none=>simp[sliceBounds,HT.oB]
  | some i =>
   simp only[sliceBounds,HT.oB,Option.getD_none,show(1:Int)>0 by decide,if_true]
   by_cases h:i<0
   .simp only[h,if_true]<;> lia
   .simp only[h,if_false]<;> lia
 .cases hi with
  |none=>simp[sliceBounds,HT.oB]
  | some i =>
   simp only[sliceBounds,HT.oB,Option.getD_none,show(1:Int)>0 by decide,if_true]
   by_cases h:i<0
   .simp only[h,if_true]<;> lia
   .simp only[h,if_false]<;> lia
def yd (gp:ao ak)(lo hi:aq Int):slicePick gp.toArray lo hi none=((gp.drop (HT.oB gp.length 0 lo)).take (HT.oB gp.length gp.length hi - HT.oB gp.length 0 lo)).toArray:=by
 obtain⟨h1,h2,h3⟩:=zV lo hi gp.toArray.size
 unfold slicePick
 rw[h1,h2,h3]
 simp only[sliceRange_one,pick_run,aE]<;> rfl
def YR (K:aa):V->aq Int->aq Int->Hp->VK->Prop:=λx lo hi H Q=>∃ a xs,x=.ref a/\pF K H a xs/\∀ p,H p=none->Q (.ref p) (upd H p (.lst (EL xs lo hi)))
def Nz:Yc X (YR X.K):=by
 intro fI s σ H x v vl vu lo hi sl Q I rx hs pl pu h
 obtain⟨a,xs,rfl,hx,q⟩:=h
 cases rx
 obtain⟨gp,r,ht,hz⟩:=I.list hx
 have hlen:=r.length
 refine⟨"list",_,slot_list_getitem.lookup,ht.isList.typeIs,?_⟩
 refine wpAny_getItem_list_slice ht.isList hs pl pu .none (by simp) ?_ (by rw[aE]<;> lia)
 rw[yd,<- hlen]
 refine⟨.ref s.heap.objs.size,_,I.laid (t':=s.toks) (o:=.lst (EL xs lo hi)) (λb ob q=>j8 _ q) (ar _) ?_,rfl,q _ (I.iA.fresh (ar _))⟩
 exact⟨aW (Dc xs lo hi) hz,_,0,(r.drop (HT.oB xs.length 0 lo)).take (HT.oB xs.length xs.length hi - HT.oB xs.length 0 lo),aG _ rfl⟩
def lU:V->Bool
 |.iq=>true
 |.bl _=>true
 |.int _=>true
 |.str _=>true
 |_=>false
def GQ:V->V->Bool
 |.iq,.iq=>true
 |.bl a,.bl b=>a==b
 |.bl a,.int b=>(if a then 1 else 0)==b
 |.int a,.bl b=>a==(if b then 1 else 0)
 |.int a,.int b=>a==b
 |.str a,.str b=>a==b
 |_,_=>false
def EG {A:Around}{s:ah}{y x:V}{u v:ak}(ry:gD y u)(rx:gD x v)(fy:lU y=true)(fx:lU x=true):SeqAt.EqAt A s u v (GQ y x):=by
 cases y with
 | iq =>
  cases ry
  cases x with
  |iq=>cases rx;exact SeqAt.EqAt.same _
  |bl b=>cases rx;exact SeqAt.EqAt.none_bool b
  |int b=>obtain⟨t,rfl⟩:=rx;exact SeqAt.EqAt.none_int b t
  |str b=>obtain⟨t,rfl⟩:=rx;exact SeqAt.EqAt.none_str b t
  |_=>exact absurd (show false=true from fx) aJ
 | bl a =>
  cases ry
  cases x with
  |iq=>cases rx;exact SeqAt.EqAt.bool_none a
  |bl b=>cases rx;exact SeqAt.EqAt.bool_bool a b
  |int b=>obtain⟨t,rfl⟩:=rx;exact SeqAt.EqAt.bool_int a b t
  |str b=>obtain⟨t,rfl⟩:=rx;exact SeqAt.EqAt.bool_str a b t
  |_=>exact absurd (show false=true from fx) aJ
 | int a =>
  obtain⟨t',rfl⟩:=ry
  cases x with
  |iq=>cases rx;exact SeqAt.EqAt.int_none a t'
  |bl b=>cases rx;exact SeqAt.EqAt.int_bool a t' b
  |int b=>obtain⟨t,rfl⟩:=rx;exact SeqAt.EqAt.int_int a t' b t
  |str b=>obtain⟨t,rfl⟩:=rx;exact SeqAt.EqAt.int_str a t' b t
  |_=>exact absurd (show false=true from fx) aJ
 | str a =>
  obtain⟨t',rfl⟩:=ry
  cases x with
  |iq=>cases rx;exact SeqAt.EqAt.str_none a t'
  |bl b=>cases rx;exact SeqAt.EqAt.str_bool a t' b
  |int b=>obtain⟨t,rfl⟩:=rx;exact SeqAt.EqAt.str_int a t' b t
  |str b=>obtain⟨t,rfl⟩:=rx;exact SeqAt.EqAt.str_str a t' b t
  |_=>exact absurd (show false=true from fx) aJ
 |_=>exact absurd (show false=true from fy) aJ
def CP (x:V)(u:ak):Bool:=match u with
 |.none=>GQ .iq x
 |.bool b=>GQ (.bl b) x
 |.int i _=>GQ (.int i) x
 |.str z _=>GQ (.str z) x
 |_=>false
def EF {x y:V}{u:ak}(r:gD y u)(f:lU y=true):CP x u=GQ y x:=by
 cases y with
 |iq=>cases r;rfl
 |bl b=>cases r;rfl
 |int i=>obtain⟨t,rfl⟩:=r;rfl
 |str z=>obtain⟨t,rfl⟩:=r;rfl
 |_=>exact absurd (show false=true from f) aJ
def ub {x:V}:∀ {xs:ao V} {us:ao ak},gE xs us->xs.all lU=true->us.any (CP x)=xs.any λy=>GQ y x
 |_,_,.nil,_=>rfl
 | y::xs,u::us,.cons r t,f=>by
  rw[cO,bJ]at f
  rw[dh,dh,EF r f.1,ub t f.2]
def oH {A:Around}{s:ah}{x:V}{v:ak}(rx:gD x v)(fx:lU x=true):∀ {xs:ao V} {us:ao ak},gE xs us->xs.all lU=true->∀ u∈us,SeqAt.EqAt A s u v (CP x u)
 |_,_,.nil,_=>λu hu=>by cases hu
 | y::xs,u::us,.cons r t,f=>λu' hu=>by
  rw[cO,bJ]at f
  rcases List.mem_cons.mp hu with rfl|hu
  .rw[EF r f.1];exact EG r rx f.1 fx
  .exact oH rx fx t f.2 u' hu
def UE (x:V)(xs:ao V):Bool:=xs.any λy=>GQ y x
def rIn (K:aa)(neg:Bool):R2:=λx y H Q=>∃ p xs,y=.ref p/\(pF K H p xs\/EU K H p xs)/\lU x=true/\xs.all lU=true/\Q (.bl (if neg then !UE x xs else UE x xs)) H
def HJ:kU X (compareOp .In) (rIn X.K false):=by
 intro fI s σ H x y v u Q I rx ry h
 obtain⟨p,xs,rfl,hq,fx,fs,q⟩:=h
 cases ry
 rcases hq with hq|hq
 .obtain⟨gp,r,pl,hz⟩:=I.list hq
  refine SeqAt.in_listAt (CP x) pl.isList (λw hw=>oH rx fx r fs w (by simpa using hw)) ⟨.bl _,H,I,rfl,?_⟩
  rw[show gp.toArray.any (CP x)=gp.any (CP x) by simp,ub r fs]
  exact q
 .obtain⟨gp,r,pl,hz⟩:=I.tuple hq
  refine SeqAt.in_tupleAt (CP x) pl (λw hw=>oH rx fx r fs w (by simpa using hw)) ⟨.bl _,H,I,rfl,?_⟩
  rw[show gp.toArray.any (CP x)=gp.any (CP x) by simp,ub r fs]
  exact q
def Ah:kU X (compareOp .NotIn) (rIn X.K true):=by
 intro fI s σ H x y v u Q I rx ry h
 obtain⟨p,xs,rfl,hq,fx,fs,q⟩:=h
 cases ry
 rcases hq with hq|hq
 .obtain⟨gp,r,pl,hz⟩:=I.list hq
  refine SeqAt.notIn_listAt (CP x) pl.isList (λw hw=>oH rx fx r fs w (by simpa using hw)) ⟨.bl _,H,I,rfl,?_⟩
  rw[show gp.toArray.any (CP x)=gp.any (CP x) by simp,ub r fs]
  exact q
 .obtain⟨gp,r,pl,hz⟩:=I.tuple hq
  refine SeqAt.notIn_tupleAt (CP x) pl (λw hw=>oH rx fx r fs w (by simpa using hw)) ⟨.bl _,H,I,rfl,?_⟩
  rw[show gp.toArray.any (CP x)=gp.any (CP x) by simp,ub r fs]
  exact q
def Ag:kU X (compareOp .NotIn) (λx y H Q=>∃ i j,x=.str i/\y=.str j/\Q (.bl (!(!(Builtin.Str.occurrences j i 0 j.length 1).isEmpty))) H):=by
 intro fI s σ H x y v u Q I rx ry h
 obtain⟨i,j,rfl,rfl,q⟩:=h
 obtain⟨t,rfl⟩:=rx
 obtain⟨t',rfl⟩:=ry
 exact notIn_str ⟨.bl _,H,I,rfl,q⟩
def A7:jB X (.builtin "len") (λxs H Q=>∃ p ys,xs=[.ref p]/\(pF X.K H p ys\/EU X.K H p ys)/\Q (.int ys.length) H):=by
 intro fI s σ H xs us Q I r h
 obtain⟨p,ys,rfl,hq,q⟩:=h
 obtain⟨u,rfl,rx⟩:=vals1 r
 cases rx
 have hn:=qi
 rcases hq with hq|hq
 .obtain⟨gp,r',pl,hz⟩:=I.list hq
  have hlen:=r'.length
  exact Calls.call_len_list pl.isList (by simp only[aE]<;> lia) ⟨.int ys.length,H,I.tok _,⟨s.toks+1,by rw[aE,hlen]⟩,q⟩
 .obtain⟨gp,r',pl,hz⟩:=I.tuple hq
  have hlen:=r'.length
  exact len_tuple pl (by simp only[aE]<;> lia) ⟨.int ys.length,H,I.tok _,⟨s.toks+1,by rw[aE,hlen]⟩,q⟩
def A6:jB X (.builtin "len") (λxs H Q=>∃ z,xs=[.str z]/\z.length<=sizeLine/\Q (.int z.length) H):=by
 intro fI s σ H xs us Q I r h
 obtain⟨z,rfl,hz,q⟩:=h
 obtain⟨u,rfl,t,rfl⟩:=vals1 r
 have hn:=qi
 exact len_str (by lia) ⟨.int z.length,H,I.tok _,⟨_,rfl⟩,q⟩
def jB.or {f:ak}{r r':ao V->Hp->VK->Prop}(h:jB X f r)(h':jB X f r'):jB X f (λxs H Q=>r xs H Q\/r' xs H Q):=by
 intro fI s σ H xs us Q I rs q
 rcases q with q|q
 .exact h fI s σ H xs us Q I rs q
 .exact h' fI s σ H xs us Q I rs q
def A5:jB X (.type "list") (λxs H Q=>∃ p ys,xs=[.ref p]/\(pF X.K H p ys\/EU X.K H p ys)/\∀ l,H l=none->Q (.ref l) (upd H l (.lst ys))):=by
 intro fI s σ H xs us Q I r h
 obtain⟨p,ys,rfl,hq,q⟩:=h
 obtain⟨u,rfl,rx⟩:=vals1 r
 cases rx
 have fin:∀(gp:ao ak),gE ys gp->ys.length<=sizeLine->∀(h':Heap) (c':Nat),(∀ b o',s.heap.get? b=some o'->h'.get? b=some o') ->
  h'.get? s.heap.objs.size=some { cls:=.type "list",dict:=none,data:=.seq gp.toArray c',slots:=#[]}->EP X fI σ Q (.ref s.heap.objs.size) {s with heap:=h'}:=λgp r' hz h' c' kp e=>
  ⟨.ref s.heap.objs.size,_,I.laid (t':=s.toks) kp (ar _) (show jg X.prog X.w _ h' _ (.lst ys)from⟨hz,gp,c',r',e⟩),rfl,q _ (I.iA.fresh (ar _))⟩
 rcases hq with hq|hq
 .obtain⟨gp,r',pl,hz⟩:=I.list hq
  have hlen:=r'.length
  obtain⟨o,ho,hc,n,hd⟩:=pl.isList
  exact call_list_seq p (.inl rfl) ho hc hd (λh' c' kp e=>fin gp r' hz h' c' kp e) (by simp only[aE]<;> lia)
 .obtain⟨gp,r',pl,hz⟩:=I.tuple hq
  have hlen:=r'.length
  obtain⟨o,ho,hc,n,hd⟩:=pl
  exact call_list_seq p (.inr rfl) ho hc hd (λh' c' kp e=>fin gp r' hz h' c' kp e) (by simp only[aE]<;> lia)
def Yq (K:aa)(T:String)(x:V)(H:Hp):Prop:=match x with
 |.str _=>T = "str"
 |.int _=>T = "int"
 | .ref p=>(T = "list"/\∃ xs,pF K H p xs)\/(T = "tuple"/\∃ o,K.lookup p=some o/\o.cls=.type "tuple"/\o.dict=none) \/
  (T = "dict"/\((∃ kvs,H p=some (.dK kvs))\/∃ kvs,H p=some (.dT kvs)))\/(T = "set"/\∃ S n,H p=some (.set S n))
 |_=>False
def Rg {fI:ao (ai×Obj)}{σ:St}{H:Hp}{s:ah}{T:String}{x:V}{v:ak}(I:Inv X fI σ H s)(r:gD x v)(ty:Yq X.K T x H):
 s.TypeIs v T/\∀ a,v=.ref a->∃ ob,s.heap.get? a=some ob/\ob.dict=none:=by
 cases x with
 | str z =>
  obtain⟨t,rfl⟩:=r
  cases(show T = "str" from ty)
  exact⟨typeIs_str s z t,λ_ e=>nomatch e⟩
 | int i =>
  obtain⟨t,rfl⟩:=r
  cases(show T = "int" from ty)
  exact⟨typeIs_int s i t,λ_ e=>nomatch e⟩
 | ref p =>
  cases r
  rcases ty with⟨rfl,xs,hq⟩|⟨rfl,o,hk,hc,hd⟩|⟨rfl,hk⟩|⟨rfl,S,n,hk⟩
  .obtain⟨gp,_,pl,_⟩:=I.list hq
   refine⟨pl.isList.typeIs,λa e=>?_⟩
   cases e
   obtain⟨o,n,e,c,hd,_⟩:=pl
   exact⟨o,e,hd⟩
  .refine⟨⟨o,I.vM p o hk,hc⟩,λa e=>?_⟩
   cases e
   exact⟨o,I.vM _ o hk,hd⟩
  .have z:∃ o,s.heap.get? p=some o/\o.ExactDict:=by
    rcases hk with⟨kvs,hk⟩|⟨kvs,hk⟩
    .obtain⟨_,_,_,_,o,_,_,e,ex,_⟩:=I.iA p _ hk
     exact⟨o,e,ex⟩
    .obtain⟨_,_,_,_,o,_,_,e,ex,_⟩:=I.iA p _ hk
     exact⟨o,e,ex⟩
   obtain⟨o,e,ex⟩:=z
   refine⟨⟨o,e,ex.1⟩,λa e2=>?_⟩
   cases e2
   exact⟨o,e,ex.2.1⟩
  .obtain⟨o,_,_,_,e,ex,_⟩:=I.iA p _ hk
   refine⟨⟨o,e,ex.1⟩,λa e2=>?_⟩
   cases e2
   exact⟨o,e,ex.2.1⟩
 |_=>exact False.elim ty
def tBM (K:aa)(T:String)(r:V->ao V->Hp->VK->Prop)(to:TE)(t:TA):TE:=λσ H Q=>to σ H λx H1=>Yq K T x H1/\t σ H1 λxs H2=>r x xs H2 Q
variable {o e:Expr}{es:ao Expr}{to:TE}{t:TA}{name:Str}{mK lR:Pos}{T id:String}{r:V->ao V->Hp->VK->Prop}
def Vw (pa:PlainAttrs T)(slot:Slot T name id)(Zj:typeOf (.builtin id)=pure (.type "method_descriptor"))(hm:MG X id r)(ho:PE X o to)(ha:PA X (e::es) t)
 (Lu:attributeBase o name X.env (eval o X.env)=eval o X.env:=by rfl)
 (OL:((backTo lR (starEach (e::es) X.env)).all (λx=>!x.1)&&(backToKw lR (keywordEach [] X.env)).all (λx=>x.1.isSome)
   && decide ((e::es).length+([]:ao Keyword).length+(if([]:ao Keyword).isEmpty then 0 else 1)<30))=true:=by rfl)
 (Lq:(mK.endLine==lR.line)=true:=by rfl) (hs:starEach (e::es) X.env=(false,eval e X.env)::starEach es X.env:=by rfl) (Et:(backTo lR (starEach es X.env)).any (·.1)=false:=by rfl):
 PE X (.Call (.Attribute o name mK) (e::es) [] lR) (tBM X.K T r to t):=by
 intro fI s σ H Q I h
 refine wpAny_Call_method_late Lu OL Lq rfl (iJ (ho fI s σ H _ I h) λv s1 rZ=>?_)
 obtain⟨x,H1,I1,r1,ty,q1⟩:=rZ
 obtain⟨h1,h2⟩:=Rg I1 r1 ty
 refine⟨T,id,pa,slot,Zj,h1,h2,?_⟩
 have hA:=ha lR fI s1 σ H1 _ I1 q1
 rw[hs]at hA ⊢
 refine Calls.callWith_builtin (by show(false||(backTo lR (starEach es X.env)).any (·.1))=false;rw[Et]<;> rfl) (Calls.evalArgs_plain ?_)
 exact iJ hA λus s2 qX=>by obtain⟨vs,H2,I2,r2,q2⟩:=qX;exact hm fI s2 σ H2 x vs v us Q I2 r1 r2 q2
end
def MtM (X:Cx)(id:String)(r:V->ao V->Hp->VK->Prop):Prop :=
 ∀(fI:ao (ai×Obj)) (s:ah) (σ:St) (H:Hp) (x:V) (xs:ao V) (v:ak) (us:ao ak) (Q:VK),Inv X fI σ H s->gD x v->gE xs us->r x xs H Q ->
  wpAny (model X.prog X.w) X.A (call (.builtin id) (v::us)) (EP X fI σ Q) X.xe s
def gE.one {x:V}{us:ao ak}(h:gE [x] us):∃ u,us=[u]/\gD x u:=by
 cases h with
 |cons r t=>cases t;exact⟨_,rfl,r⟩
def gE.two {x y:V}{us:ao ak}(h:gE [x,y] us):∃ u v,us=[u,v]/\gD x u/\gD y v:=by
 cases h with
 |cons r t=>obtain⟨v,rfl,q⟩:=gE.one t;exact⟨_,v,rfl,r,q⟩
section
variable {X:Cx}{fI:ao (ai×Obj)}{σ:St}{H:Hp}{s:ah}{l b:ai}{xs ys zs:ao V}
def Inv.VR {gp its':ao ak}{n:Nat}{f:Array ak->Array ak}{t':Nat}(I:Inv X fI σ H s)(hH:H l=some (.lst xs))
 (e:s.heap.get? l=some { cls:=.type "list",data:=.seq gp.toArray n}) (hf:f gp.toArray=its'.toArray) (hv:gE ys its') (hz:ys.length<=sizeLine):
 Inv X fI σ (upd H l (.lst ys)) {s with heap:=s.heap.update l (Obj.mapSeq f),toks:=t'}:=by
 have q:=PySem.IsL.update e f
 rw[hf]at q
 refine I.write (x:=l) (e:=l) (by rw[hH];exact trivial) (.inl rfl) (λb' u hb hu=>(aT s.heap (Obj.mapSeq f) (bo hb)).trans hu) ⟨_,q⟩ ?_
 exact⟨hz,its',_,hv,q⟩
def Inv.Y0 {gp:ao ak}{t':Nat}(I:Inv X fI σ H s)(hv:gE ys gp)(hz:ys.length<=sizeLine):
 Inv X fI σ (upd H s.heap.objs.size (.lst ys)) {s with heap:=s.heap.push { cls:=.type "list",data:=.seq gp.toArray},toks:=t'}:=
 I.laid (λ_ _ q=>j8 _ q) (ar _) ⟨hz,gp,0,hv,aG _ rfl⟩
def Inv.fresh (I:Inv X fI σ H s):H s.heap.objs.size=none:=I.iA.fresh (ar _)
def Inv.mH (I:Inv X fI σ H s)(hH:H l=some (.lst xs)):xs.length<=sizeLine/\∃(gp:ao ak) (n:Nat),gE xs gp/\xs.length=gp.length/\s.heap.get? l=some { cls:=.type "list",data:=.seq gp.toArray n}:=by
 obtain⟨z,gp,n,r,e⟩:=I.iA l _ hH
 exact⟨z,gp,n,r,r.length,e⟩
def KO {n:Nat}(h:n<=sizeLine):Builtin.List.listTooLong n=false:=by
 unfold Builtin.List.listTooLong
 exact aV (by lia)
end
section
variable {X:Cx}
def NK:V->ao V->Hp->VK->Prop:=λx vs H Q=>∃ l xs y,x=.ref l/\vs=[y]/\H l=some (.lst xs)/\xs.length<sizeLine/\Q .iq (upd H l (.lst (xs++[y])))
def HS:MtM X "list.append" NK:=by
 intro fI s σ H x vs v us Q I rx rv h
 obtain⟨l,xs,y,rfl,rfl,hH,hz,q⟩:=h
 cases rx
 obtain⟨u,rfl,ru⟩:=rv.one
 obtain⟨z,gp,n,r,hl,e⟩:=I.mH hH
 refine call_meets F.slot_list_append ⟨_,e,rfl⟩ F.entry_list_append (F.args_list_append_2 _ _) (PySem.list_append l gp.toArray n u (by rw[aE];lia)) ⟨e,?_⟩
 refine⟨.iq,_,I.VR (its':=gp++[u]) hH e (by simp) (r.append (.cons ru .nil)) ?_,rfl,q⟩
 rw[oq,bF]
 lia
def NJ:V->ao V->Hp->VK->Prop:=λx vs H Q=>∃ l b xs zs,x=.ref l/\vs=[.ref b]/\H l=some (.lst xs)/\H b=some (.lst zs)/\xs.length+zs.length<=sizeLine/\Q .iq (upd H l (.lst (xs++zs)))
def UC:MtM X "list.extend" NJ:=by
 intro fI s σ H x vs v us Q I rx rv h
 obtain⟨l,b,xs,zs,rfl,rfl,hH,hB,hz,q⟩:=h
 cases rx
 obtain⟨u,rfl,ru⟩:=rv.one
 cases ru
 obtain⟨z,gp,n,r,hl,e⟩:=I.mH hH
 obtain⟨z2,CC,n2,r2,sx,e2⟩:=I.mH hB
 have hsz:gp.toArray.size+CC.toArray.size<=sizeLine:=by rw[aE,aE];lia
 have V9:¬ (!gp.toArray.isEmpty&&Builtin.List.listTooLong (gp.toArray.size+CC.toArray.size))=true:=by
  rw[KO hsz,fo]
  exact aJ
 refine call_meets F.slot_list_extend ⟨_,e,rfl⟩ F.entry_list_extend (F.args_list_extend_2 _ _)
  (AutoSeq1.list_extend_list_list_0 l gp.toArray n b CC.toArray n2 V9 (by rw[aE];lia) (by lia)) ⟨e,e2,?_⟩
 refine⟨.iq,_,I.VR (its':=gp++CC) hH e (by simp) (r.append r2) ?_,rfl,q⟩
 rw[oq]
 lia
def YS:R2:=λx y H Q=>∃ l b xs zs,x=.ref l/\y=.ref b/\H l=some (.lst xs)/\H b=some (.lst zs)/\xs.length+zs.length<=sizeLine/\∀ p,H p=none->Q (.ref p) (upd H p (.lst (xs++zs)))
def R9:kU X (binaryOp .Add) YS:=by
 intro fI s σ H x y v u Q I rx ry h
 obtain⟨l,b,xs,zs,rfl,rfl,hH,hB,hz,q⟩:=h
 cases rx
 cases ry
 obtain⟨z,gp,n,r,hl,e⟩:=I.mH hH
 obtain⟨z2,CC,n2,r2,sx,e2⟩:=I.mH hB
 refine PySem.P.add_list e e2 ?_ (by rw[aE,aE];lia)
 have ea:gp.toArray++CC.toArray=(gp++CC).toArray:=by simp
 rw[ea]
 exact⟨.ref _,_,I.Y0 (t':=s.toks) (r.append r2) (by rw[oq];lia),rfl,q _ I.fresh⟩
end
end L2
namespace Att
open PySem PySem.W PySem.Calls PyProof.Rows
def vt {P:Params}{h:Heap}:∀(ns:ao Int) (vs:ao ak),WellAll P h vs (ns.map WData.int)->IntsAre vs ns:=by
 intro ns
 induction ns with
 | nil =>
  intro vs w
  rw[fh]at w
  cases w
  exact .nil
 | cons n ns ih =>
  intro vs w
  rw[aw]at w
  cases w with
  | cons a b =>
   cases a
   exact .cons _ _ (ih _ b)
def Hx {l:OpenLaw}{n:Nat}(hn:l.most=some n){P:Params}{h:Heap}{args:ao WData}{vals:ao ak}
 (OI:l.row.toRowW.claim.pre args=true) (Zf:WellAll P h vals args):
 ∃ a vs ns,vals=[Value.ref a]/\args=[WData.list (ns.map WData.int)]/\h.get? a=some { cls:=.type "list",data:=.seq vs.toArray}/\IntsAre vs ns/\ns.length<=n:=by
 have hsh:WShape.hasAll [] args [.list .int]=true:=(pre_splitW OI).1
 have hc:l.pre.holds [] { args:=args}=true:=(pre_splitW OI).2
 obtain⟨d,r,rfl,h1,h2⟩:=hasAllW_cons hsh
 obtain rfl:=hasAllW_nil h2
 obtain⟨xs,rfl,h3⟩:=hasW_list h1
 obtain⟨ns,rfl⟩:=items_int h3
 have hlen:ns.length<=n:=by
  unfold OpenLaw.pre at hc
  have h4:(WTm.not (.lt (.lit (.int (n:Int))) (.len (.arg 0)))).holds [] { args:=[.list (ns.map .int)]}=true:=by
   have h4:=(holds_andW hc).1
   rw[hn]at h4
   exact h4
  have h5:=condW_of h4 (w_not (w_lt w_lit (w_len_list (w_arg rfl))))
  rw[iu]at h5
  refine Nat.le_of_not_lt λq=>?_
  have q':(n:Int)<((ns.length:Nat):Int):=by lia
  first
   |(rw[aI q']at h5;exact absurd h5 (by decide))
   |(simp at h5;lia)
 cases Zf with
 | cons w1 w2 =>
  cases w2
  cases w1 with
  |list ho Lv=>exact⟨_,_,ns,rfl,rfl,ho,vt ns _ Lv,hlen⟩
def HA (l:OpenLaw)(args:ao WData):l.row.toRowW.claim.post args (.bool true) args=true :=
 postW_of (r:=l.row.toRowW) (X:=(true==true))
  (show WShape.has [] (.bool true) .bool=true by first|rfl|decide|simp[WShape.has,WShape.arms,WShape.armsAll])
  (show(WTm.eq .res (.lit (.bool true))).value [] { args:=args,res:=some (.bool true),after:=args}=some (.bool (true==true))from w_eq_bool (w_res rfl) w_lit) rfl
def Dm {l:OpenLaw}{n:Nat}{q:ae}{loose:ao Str}{XP:(Str->aq ak)->Heap->Prop}{YP:af->Heap->Prop}{d:DefRec}
 (hn:l.most=some n) (ZJ:d.params.defaults=[])
 (call:∀(w:af) (s₀ s₁:ah) (mg mb:Str->aq ak) (fa:ai) (o:Obj) (pm cd doc:ak) (a:ai) (vs:ao ak) (ns:ao Int),
   Ground q loose [] XP w s₀ mg mb s₁.heap->YP w s₁.heap ->
   s₁.heap.get? fa=some o->o.data=.func (docDef d.name d.params d.body d.scope pm cd doc)->s₁.heap.CodeRec cd d.name->mg d.name=some (.ref fa) ->
   s₁.heap.get? a=some { cls:=.type "list",data:=.seq vs.toArray}->IntsAre vs ns->ns.length<=n->s₁.gens=#[] ->
   codeAny (model l.prog w) callerA (.call (.ref fa) ⟨[.ref a],[]⟩) (λr s'=>r=.ok (.ret (.bool true))/\OldK s₁.heap s'.heap/\s'.os=s₁.os/\AllBare s'.gens) s₁):
 WalkO q loose XP YP l.row.toRowW d [] (λf vs=>PySem.call f vs):=by
 intro w s₀ s₁ mg mb G Y fa o pm cd doc dV kV ho hd Ew hD Zu hg args vals as OI hlay hrd Zf hlo
 obtain rfl:dV=.none:=Dflts.none hD ZJ
 obtain rfl:kV=.none:=Dflts.noKw hD
 obtain⟨a,vs,ns,rfl,rfl,Ta,hints,hlen⟩:=Hx hn OI Zf
 refine enter_call (codeAny_mono (call w s₀ s₁ mg mb fa o pm cd doc a vs ns G Y ho (fd_plain hd) Ew Zu Ta hints hlen hg) λr s' hq=>?_)
 obtain⟨rfl,h2,h3,h4⟩:=hq
 exact⟨.inl ⟨.bool true,.bool true,[],rfl,λ_=>rfl,.bool true,HA l _,λ_=>⟨List.Pairwise.nil,λ_ hm=>(nomatch hm)⟩⟩,h2,h3,h4⟩
end Att
namespace L2
open PySem PySem.Spec PyProof.Rows
def yE {vs:ao ak}{ns:ao Int}(h:IntsAre vs ns):gE (ns.map V.int) vs:=by
 induction h with
 |nil=>exact .nil
 |cons n t h ih=>exact .cons ⟨t,rfl⟩ ih
def Ul (H:Hp):Prop:=∀ b,H b=none\/∃ o xs,H b=some (.BD o (.lst xs))
def K8 {P:ae}{w:af}{K:aa}{mg mb:Str->aq ak}{CX:Hj}{k:Nat}{fa a:ai}{fd:ag}{x:Str}{sp:Sp}{s₁:ah}{vs:ao ak}{ns:ao Int}
 (KX:K.In s₁.heap) (UH:s₁.heap.Ns mainGlobals mg) (hb:s₁.heap.Ns builtinsNs mb) (hbb:∀ x:Str,x ≠ "__name__"->mb x=bootBuiltins x) (Zw:s₁.heap.NoLimit) (hg:s₁.gens=#[])
 (ha:s₁.heap.get? a=some { cls:=.type "list",data:=.seq vs.toArray}) (hi:IntsAre vs ns) (hl:ns.length<=sizeLine) (hr:jT k callerA)
 (F:∀ fJ:Heap,K.In fJ->fJ.Ns mainGlobals mg->gF P w K mg fJ CX k fa fd [x] sp) (Wh:∀(s:ah) (u:ak),BindsTo s fd ⟨[u],[]⟩ [(x,u)])
 (MV:∀ H:Hp,Ul H->pF K H a (ns.map V.int)->sp [.ref a] H (λv _=>v=.bl true) λ_ _ _=>False)
 (ZW:∀ H e s',CX [] H s₁ (λ_ _ _=>False) e s'->False):
 codeAny (model P w) callerA (.call (.ref fa) ⟨[.ref a],[]⟩) (λr s'=>r=.ok (.ret (.bool true))/\OldK s₁.heap s'.heap/\s'.os=s₁.os/\AllBare s'.gens) s₁:=by
 have rv:=yE hi
 have Y1:=hi.length
 have core:∀ H:Hp,Ul H->pF K H a (ns.map V.int)->pQ P w H s₁.heap->(∀ b,H b≠none->b=a)->(H a≠none->K.lookup a=none) ->
  codeAny (model P w) callerA (.call (.ref fa) ⟨[.ref a],[]⟩) (λr s'=>r=.ok (.ret (.bool true))/\OldK s₁.heap s'.heap/\s'.os=s₁.os/\AllBare s'.gens) s₁:=by
  intro H hO hS iA hA hK
  have Hd:∀ {b:ai} {o:Obj},s₁.heap.get? b=some o->H b=none->(AD s₁.heap H).get? b=some o:=λe n=>Lr e n
  have VI:∀ {b:ai} {o:Obj} {es:Array DictEntry} {ep:Nat},s₁.heap.get? b=some o->o.data=.dict es ep->H b=none:=λ{b o es ep} e d=>by
   cases q:H b with
   |none=>rfl
   | some u =>
    have e':b=a:=hA b (by rw[q];simp)
    subst e'
    rw[ha]at e;cases e
    have d':Data.seq vs.toArray _=Data.dict es ep:=d
    cases d'
  have XI:∀ {b:ai} {m:Str->aq ak},s₁.heap.Ns b m->(AD s₁.heap H).Ns b m:=λ{b m} qW=>by obtain⟨o,es,ep,e,d,r⟩:=qW;exact⟨o,es,ep,Hd e (VI e d),d,r⟩
  have hKb:K.In (AD s₁.heap H):=λb o e=>Hd (KX b o e) (by
   cases q:H b with
   |none=>rfl
   | some u =>
    have e':b=a:=hA b (by rw[q];simp)
    subst e'
    rw[hK (by rw[q];simp)]at e;cases e)
  have hM:Mod K mg (AD s₁.heap H):=⟨hKb,XI UH,⟨mb,XI hb,hbb⟩,let ⟨mc,h1,h2⟩:=Zw;⟨mc,XI h1,h2⟩⟩
  have e0:E4 P w K mg (AD s₁.heap H) callerA [] s₁ H:=⟨rfl,hM,λb o e=>Oc e,Nat.le_of_eq (Io _ _),trivial,λb hb=>absurd (show b∈([]:ao ai)from hb) (by simp),iA,.of_eq hg⟩
  refine codeAny_mono ((F _ hKb (XI UH)).run callerA [] s₁ H ⟨[.ref a],[]⟩ [.ref a] [.ref a] _ _ hr e0 (Wh s₁ (.ref a)) (.cons rfl .nil) (MV H hO hS)) λr s' h=>?_
  cases r with
  |error e=>exact(ZW H e s' h).elim
  | ok fl =>
   cases fl with
   |next=>exact False.elim h
   |brk=>exact False.elim h
   |cont=>exact False.elim h
   | ret u =>
    obtain⟨v,H',os,bare,un,Zr,r',q⟩:=h
    have q':v=.bl true:=q
    subst q'
    obtain rfl:u=Value.bool true:=r'
    refine⟨rfl,OldK.of_keep λb o e=>?_,os,bare⟩
    cases q:H b with
    |none=>exact un.keep b o e q (by intro z;exact absurd (show b∈([]:ao ai)from z) (by simp)) (by simp)
    | some u =>
     rcases hO b with z|⟨ob,xs,z⟩
     .rw[q]at z;cases z
     .have z2:=un.xw b ob _ z
      obtain⟨e1,_⟩:=iA b _ z
      obtain⟨e2,_⟩:=Zr b _ z2
      rw[e]at e1;cases e1
      exact e2
 cases hk:K.lookup a with
 | some o =>
  have e:=KX a o hk
  rw[ha]at e
  cases e
  refine core (λ_=>none) (λ_=>.inl rfl) (.inr ⟨_,vs.toArray,_,hk,rfl,rfl,rfl,by rw[aE,Y1];exact hl,by simpa using rv⟩) (λb u z=>by have z':(none:aq HO)=some u:=z;cases z') (λb z=>absurd rfl z) λz=>absurd rfl z
 | none =>
  refine core (λb=>if b=a then some (.BD { cls:=.type "list",data:=.seq vs.toArray} (.lst (ns.map V.int)))else none) (λb=>?_) (.inl (.inr ⟨{ cls:=.type "list",data:=.seq vs.toArray},aB rfl⟩)) (λb u z=>?_) (λb z=>?_) λ_=>hk
  .by_cases hb:b=a
   .exact .inr ⟨_,_,aB hb⟩
   .exact .inl (aC hb)
  .by_cases hb:b=a
   .have z':=(aB hb).symm.trans z
    cases z'
    subst hb
    exact⟨ha,by rw[iu];exact hl,vs,_,rv,ha⟩
   .have z':=(aC hb).symm.trans z
    cases z'
  .by_cases hb:b=a
   .exact hb
   .exact absurd (aC hb) z
def Nb {l:W.OpenLaw}{n k:Nat}{q:ae}{loose:ao Str}{XP:(Str->aq ak)->Heap->Prop}{YP:af->Heap->Prop}{d:DefRec}{K:Params->aa}{CX:af->Hj}{sp:af->Sp}{x:Str}
 (hn:l.most=some n) (Gm:n<=sizeLine) (ZJ:d.params.defaults=[]) (hr:jT k callerA)
 (hY:∀(w:af) (h:Heap),YP w h->(K w.params).In h)
 (F:∀(w:af) (mg:Str->aq ak) (fa:ai) (h:Heap),(K w.params).In h->h.Ns mainGlobals mg->mg d.name=some (.ref fa) ->
   ∃ fd:ag,(∀(s:ah) (u:ak),BindsTo s fd ⟨[u],[]⟩ [(x,u)]) /\
    ∀ fJ:Heap,(K w.params).In fJ->fJ.Ns mainGlobals mg->gF l.prog w (K w.params) mg fJ (CX w) k fa fd [x] (sp w))
 (MV:∀(w:af) (H:Hp) (a:ai) (ns:ao Int),ns.length<=n->Ul H->pF (K w.params) H a (ns.map V.int)->sp w [.ref a] H (λv _=>v=.bl true) λ_ _ _=>False)
 (ZW:∀(w:af) (H:Hp) (s:ah) (e:ak) (s':ah),CX w [] H s (λ_ _ _=>False) e s'->False):
 W.WalkO q loose XP YP l.row.toRowW d [] (λf vs=>PySem.call f vs):=by
 refine Att.Dm hn ZJ λw s₀ s₁ mg mb fa o pm cd doc a vs ns G Y ho hd Ew Zu Ta hints hlen hg=>?_
 have KX:=hY w _ Y
 obtain⟨fd,hb,hF⟩:=F w mg fa _ KX G.T.g Zu
 exact K8 KX G.T.g G.T.b G.T.builtins G.T.nolimit hg Ta hints (aW hlen Gm) hr hF hb (λH hO hS=>MV w H a ns hlen hO hS) λH e s'=>ZW w H s₁ e s'
def kz (s:Stmt):Arguments:=match s with
 |.FunctionDef _ a _ _ _ _ _ _ _ _=>a
 |_=>{ posonlyargs:=[],args:=[],vararg:=none,kwonlyargs:=[],kw_defaults:=[],kwarg:=none,defaults:=[]}
def jP (s:Stmt):ao Stmt:=match s with
 |.FunctionDef _ _ b _ _ _ _ _ _ _=>b
 |_=>[]
def fP (s:Stmt):Scope:=match s with
 |.FunctionDef _ _ _ _ _ _ sc _ _ _=>sc
 |_=>{ kind:=.function,names:=[],isGenerator:=false,isCoroutine:=false}
abbrev kW:Hj:=λ_ _ _ _ _ _=>False
abbrev E0:XK:=λ_ _ _=>False
def Ku {X:Cx}:Passes kW X E0:=λ_ _ _ _ _ _ _ h=>h.elim
structure j4 (K:aa)(x qual:Str)(st:Stmt)(f:ai)(fd:ag):Prop where
 ex:∃(oc:ak) (od:Option ai) (kV doc pm:ak) (an:Option ai) (jl ct:ak) (N3:Array (Option ak)),
  fd=W.fnOf x qual (kz st) (jP st) (fP st) .none kV doc pm an jl ct/\K.lookup f=some ⟨oc,od,.func fd,N3⟩/\W.codeIn K jl qual=true
 kp:W.keepIn K (.ref f)=true
section
variable {P:ae}{w:af}{K:aa}{mg:Str->aq ak}{fJ:Heap}
def j4.ok {x qual:Str}{st:Stmt}{f:ai}{fd:ag}{N ps:ao Str}{k:Nat}{sp:Sp}(F:j4 K x qual st f fd)(S:gm N ps (fP st))(len:∀ vs H Q E,sp vs H Q E->vs.length=ps.length)
 (xp:∀(jl:ak) (A:Around) (fT:ao Env) (s:ah) (H:Hp) (vs:ao V) (Q:VK) (E:XK),jT k (A.deeper (envOfC qual (fP st) s.heap.objs.size f jl))->sp vs H Q E ->
   ∃ t,Bg (qZ kW P w K mg fJ N qual (fP st) f jl A fT s H E).VG (jP st) t/\t { nx:=λ_ H'=>Q .iq H',rt:=Q} (start N vs) H):gF P w K mg fJ kW (k+1) f fd ps sp:=by
 obtain⟨oc,od,kV,doc,pm,an,jl,ct,N3,rfl,lk,Ew⟩:=F.ex
 refine QN lk Ew S len λA fT s H vs Q E hr MV=>?_
 obtain⟨t,h,q⟩:=xp jl A fT s H vs Q E hr MV
 exact⟨t,h.VG,q⟩
def j4.binds {x qual:Str}{st:Stmt}{f:ai}{fd:ag}{ps:ao Str}(F:j4 K x qual st f fd)
 (h:∀(kV doc pm:ak) (an:aq ai) (jl ct:ak) (us:ao ak),us.length=ps.length->bindArgs (W.fnOf x qual (kz st) (jP st) (fP st) .none kV doc pm an jl ct) ⟨us,[]⟩=pure (ps.zip us)):Binds K fd ps []:=by
 obtain⟨oc,od,kV,doc,pm,an,jl,ct,N3,rfl,lk,Ew⟩:=F.ex
 exact .all (h kV doc pm an jl ct)
def Tr {x qual:Str}{st:Stmt}{f:ai}{oc:ak}{od an:aq ai}{N3:Array (aq ak)}{kV doc pm jl ct:ak}(l:K.lookup f=some ⟨oc,od,.func (W.fnOf x qual (kz st) (jP st) (fP st) .none kV doc pm an jl ct),N3⟩)
 (c:W.codeIn K jl qual=true) (k:W.keepIn K (.ref f)=true):j4 K x qual st f (W.fnOf x qual (kz st) (jP st) (fP st) .none kV doc pm an jl ct):=⟨⟨oc,od,kV,doc,pm,an,jl,ct,N3,rfl,l,c⟩,k⟩
end
def qm {A:Around}{k:Nat}(hr:jT k A):A.units+1<cLine:=cq (Nat.add_le_add_left (by decide:1<=64) _) hr.units
def Y9 {A B:Prop}(h:B):if false=true then A else B:=by
 rw[aC aJ]
 exact h
def Y8 {A B:Prop}(h:A):if true=true then A else B:=by
 rw[aB rfl]
 exact h
def iI (H H':Hp):Prop:=∀ b o,H b=some o->H' b=some o
def iI.refl (H:Hp):iI H H:=λ_ _ h=>h
def iI.trans {H H1 H2:Hp}(a:iI H H1)(b:iI H1 H2):iI H H2:=λc o h=>b c o (a c o h)
def iI.free {H H':Hp}(e:iI H H'){l:ai}(h:H' l=Option.none):H l=Option.none:=by
 cases q:H l with
 |none=>rfl
 | some o =>
  rw[e l o q]at h
  cases h
end L2
namespace L2
open PySem PySem.W PyProof.Rows
noncomputable abbrev PX:=Fast.tw14082659384304107361
noncomputable abbrev PV:=Fast.tw14364793385576792824
noncomputable abbrev Ri:=Fast.tw4187177175401517315
noncomputable abbrev S00 (w:af)(os:OsState):ah:=⟨boot_heap w.params,#[],boot_drawn,boot_toks,os⟩
def IK (P:Params):((boot_heap P).isNs mainGlobals,(boot_heap P).objs.size,(boot_heap P).nsMap mainGlobals "__annotations__")=(true,11,some (.ref 6)):=by kernel_rfl
def Ou {p q:ae}{loose:ao Str}{Xt:ah->Bool}{α:Type}{Yf:ah->α}{Ya:af->α}{N M:Nat}
 (e:opening p=plainProg p.main.scope.names) (hN:Nat.ble 600 N=true) (f:∀ s,fenceModules? p s=some s) (le:Nat.ble M N=true)
 (h:∀(w:af) (os:OsState),(PX PV p w 11 (some (.ref 6)) M (S00 w os) (topStub p)).map (λs =>
   (staticsOk (importedModules p.main.body) (boot_heap w.params) s.heap&&namesBound p s.heap&&gensDone s&&laidKept (boot_heap w.params) s.heap,Ri q loose (importedModules p.main.body) Xt true s,Yf s))=some (true,openGood q loose,Ya w)):
 LeftO p q loose Xt Yf Ya N:=λw=>by
 obtain⟨⟨h0,gs,d,k,os⟩,e1,e2⟩:=Option.map_eq_some_iff.mp (boot_open e hN f w)
 obtain⟨rfl,rfl,rfl,rfl⟩:h0=boot_heap w.params/\gs=#[]/\d=boot_drawn/\k=boot_toks:=by simpa using e2
 have b:=IK w.params
 simp only[Prod.mk.injEq]at b
 obtain⟨s1,r,e3⟩:=Option.map_eq_some_iff.mp (h w os)
 simp only[Prod.mk.injEq]at e3
 have r':topRun treeTable p w 11 (some (.ref 6)) M (S00 w os) (topStub p)=some s1:=by
  rw[show topRun=PX from Fast.te14082659384304107361,show treeTable=PV from Fast.te14364793385576792824];exact r
 have r2:=topRun_mono (N - M) _ _ _ _ r'
 rw[show M+(N - M)=N by have:=Nat.le_of_ble_eq_true le;lia]at r2
 have t:topFrom treeTable p w N ⟨boot_heap w.params,#[],boot_drawn,boot_toks,os⟩=some s1:=by
  unfold topFrom
  dsimp only
  rw[b.1,b.2.1,b.2.2,r2]
  show(match staticsOk (importedModules p.main.body) (boot_heap w.params) s1.heap&&namesBound p s1.heap&&gensDone s1&&laidKept (boot_heap w.params) s1.heap with|true=>_|false=>_)=_
  rw[e3.1]
 unfold openEnds
 rw[e1]
 show(topFrom treeTable p w N _).map _=_
 rw[t]
 refine cA some (Prod.ext ?_ e3.2.2)
 rw[<- e3.2.1]
 exact congrFun (congrFun (congrFun (congrFun (congrFun (congrFun Fast.te4187177175401517315 q) loose) (importedModules p.main.body)) Xt) true) s1
def v8 (P:Params)(x:Str)(t:Nat)(v:ak):DictEntry:=⟨PyData.keyHash P x,.str x t,v⟩
def VQ (P:Params)(nm:Str)(t:Nat)(es:ao (Str×Nat×ak)):Obj:=⟨.type "dict",none,.dict ((([("__name__",165,.str nm t),("__doc__",166,.none),("__package__",167,.none),("__loader__",168,.builtin "__main__.__loader__#opaque"),("__spec__",169,.none),("__annotations__",170,.ref 6),("__builtins__",171,.ref 4),("__file__",173,.str "/claim/cut.py" 172),("__cached__",174,.none)]:ao (Str×Nat×ak))++es).map λe=>v8 P e.1 e.2.1 e.2.2).toArray (es.length+9),#[]⟩
abbrev sS (x:String):Str:=Str.ofString x
abbrev me (x:String)(t:Nat)(v:ak):Str×Nat×ak:=(Str.ofString x,t,v)
abbrev ko (a:ai)(o:Obj):ai×Obj:=(a,o)
abbrev sr (a:ai):aq (aq ak):=some (some (.ref a))
abbrev sn:aq (aq ak):=some none
def X1 (x q:Str)(s:Stmt)(pm:ak)(c:ai):Obj:=⟨.type "function",none,.func (fnOf x q (kz s) (jP s) (fP s) .none .none .none pm none (.ref c) .none),#[]⟩
def coQ (x q:Str)(t l a r1 r2:Nat)(v1 v2:ak)(r3 t2:Nat):Obj:=⟨.type "code",none,.fields #[.str x t,.str q (t+1),.str "/claim/cut.py" (t+2),.int l 0,.int a 0,.int 0 0,.int 0 0,.int 3 0,.ref r1,.bool true,.int 181 0,.ref r2,.none,v1,v2,.ref r3,.int t2 0,.int l 0,.str "/claim/cut.py" (t2+1)],#[]⟩
def LA {K:Frag}{x q:Str}{s:Stmt}{f c:ai}{pm:ak}(l:K.lookup f=some (X1 x q s pm c):=by kernel_rfl)(c':codeIn K (.ref c) q=true:=by kernel_rfl)(k:keepIn K (.ref f)=true:=by kernel_rfl):j4 K x q s f (fnOf x q (kz s) (jP s) (fP s) .none .none .none pm none (.ref c) .none):=Tr l c' k
def Q5 {α:Type}{P:ao α->Prop}(h:∀ a,P [a])(us:ao α)(e:us.length=1):P us:=by
 obtain⟨a,rfl⟩:=List.length_eq_one_iff.mp e
 exact h a
def Jg {α:Type}{P:ao α->Prop}{n:Nat}(h:∀ a us,us.length=n->P (a::us))(us:ao α)(e:us.length=n+1):P us:=by
 cases us with
 |nil=>cases e
 |cons a us=>exact h a us (Nat.succ.inj e)
def Pc (s:Stmt):ao Stmt:=match s with
 |.ClassDef _ _ _ b _ _ _ _ _ _ _=>b
 |_=>[]
def TH (s:Stmt):Pos:=match s with
 |.FunctionDef _ _ _ _ _ _ _ _ _ p=>p
 |_=>⟨0,0,0,0⟩
end L2
namespace L2
open PySem PySem.Spec PyProof.Rows
def lK (cells:ao (Str×ai)):ao (Str×NameKind)->ao (Str×ai)->ao (Str×ai)
 |[],acc=>acc
 |(n,k)::r,acc=>if k==.free then lK cells r ((n,(cells.lookup n).getD 0)::acc)else lK cells r acc
def r9 {env:Env}(f:Str×NameKind->ao (Str×ai)->Sem (ForInStep (ao (Str×ai))))
 (hf:∀ n k cs,f (n,k) cs=if k==.free then(do let a <- cellOf env n;pure (.yield ((n,a)::cs)))else pure (.yield cs)):
 ∀(names:ao (Str×NameKind)) (acc:ao (Str×ai)),(∀ y∈names,y.2=.free->∃ c,env.cells.lookup y.1=some c) ->
  forIn names acc f=pure (lK env.cells names acc)
 |[],acc,_=>by rw[dP];rfl
 | (n,k)::r,acc,h=>by
  rw[bD,hf]
  unfold lK
  have hr:∀ y∈r,y.2=.free->∃ c,env.cells.lookup y.1=some c:=λy hy=>h y (nF _ hy)
  by_cases hk:(k==NameKind.free)=true
  .rw[aB hk,aB hk]
   obtain⟨c,hc⟩:=h (n,k) aF (by simpa using hk)
   have tH:env.cells.lookup n=some c:=hc
   have e:cellOf env n=pure c:=by unfold cellOf;rw[tH]
   rw[e,tH,pure_bind,pure_bind]
   exact r9 f hf r _ hr
  .rw[aC hk,aC hk,pure_bind]
   exact r9 f hf r _ hr
def oj {scope:Scope}{env:Env}(h:∀ y∈scope.names,y.2=.free->∃ c,env.cells.lookup y.1=some c):closureFor scope env=pure (lK env.cells scope.names []):=by
 simp only[closureFor]
 rw[r9 (env:=env) _ (λn k cs=>by
  by_cases hk:(k==NameKind.free)=true
  .simp only[hk,if_true]
  .simp only[Bool.not_eq_true]at hk;simp only[hk,eP,if_false]) scope.names [] h]
 rfl
def pC {cells:ao (Str×ai)}:∀ {names:ao (Str×NameKind)} {acc:ao (Str×ai)},(∀ y∈names,y.2=.free->∃ c,cells.lookup y.1=some c) ->
 ∀ n c,(n,c)∈lK cells names acc->(n,c)∈acc\/cells.lookup n=some c
 |[],acc,_,n,c,h=>.inl h
 | (m,k)::r,acc,hf,n,c,h=>by
  unfold lK at h
  have hr:∀ y∈r,y.2=.free->∃ c,cells.lookup y.1=some c:=λy hy=>hf y (nF _ hy)
  split at h
  .rename_i hk
   rcases pC hr n c h with h|h
   .rcases List.mem_cons.mp h with e | h
    .cases e
     obtain⟨c,hc⟩:=hf (m,k) aF (by simpa using hk)
     have tH:cells.lookup m=some c:=hc
     exact .inr (by rw[tH];rfl)
    .exact .inl h
   .exact .inr h
  .exact pC hr n c h
def se {cells:ao (Str×ai)}:∀(names:ao (Str×NameKind)) (acc:ao (Str×ai)) (n:Str),(acc.lookup n).isSome=true->((lK cells names acc).lookup n).isSome=true
 |[],acc,n,h=>h
 | (m,k)::r,acc,n,h=>by
  unfold lK
  split
  .refine se r _ n ?_
   rw[dX]
   cases n==m
   .exact h
   .rfl
  .exact se r _ n h
def pD {cells:ao (Str×ai)}:∀(names:ao (Str×NameKind)) (acc:ao (Str×ai)) (n:Str),(n,NameKind.free)∈names->((lK cells names acc).lookup n).isSome=true
 | (m,k)::r,acc,n,h=>by
  unfold lK
  rcases List.mem_cons.mp h with e|h
  .cases e
   refine se r _ m ?_
   simp
  .split
   .exact pD r _ n h
   .exact pD r _ n h
def mB:∀(names:ao (Str×NameKind)) (n:Nat) (a b:ao (Str×ai)),cellsFrom n names (a++b)=cellsFrom n names a++b
 |[],_,_,_=>rfl
 | (m,k)::r,n,a,b=>by
  unfold cellsFrom
  split
  .exact mB r (n+1) ((m,n)::a) b
  .exact mB r n a b
def qg {M:Model}{A:Around}{E:ak->ah->Prop}{s:ah}{scope:Scope}{cl:ao (Str×ai)}{env:Env}{Q:Env->ah->Prop}
 (h:Q (newEnv scope s.heap.objs.size env.globals (cellsFrom (s.heap.objs.size+1) scope.names cl) env.qual none .none (some env) builtinsNs) {s with heap:=pushCells (s.heap.push { cls:=.type "dict",data:=.dict #[]}) scope.names}):
 wpAny M A (newFunctionEnv scope env.globals cl [] env.qual none .none (some env)) Q E s:=by
 simp only[newFunctionEnv,Option.isSome_some,if_true]
 refine fY (wpAny_alloc ?_)
 refine fY (wpAny_layCells _ (λname kind cells=>by cases Wc:kind==NameKind.cell<;>simp[Wc]) _ _ _ _ ?_)
 rw[show({s with heap:=s.heap.push { cls:=.type "dict",data:=.dict #[]}}:ah).heap.objs.size=s.heap.objs.size+1 from bj ..]
 rw[dP]
 exact fY (au (au h))
def ia (js:ao (aq Nat))(σ:St):St:=js.map λo=>o.bind λj=>(σ[j]?).join
def wj (XN:ao Str)(xsc:Scope)(N:ao Str)(js:ao (aq Nat))(sc:Scope):Bool :=
 (sc.kind==.function)&&(sc.names.all λy=>(y.2 != .local)||(sc.names.lookup y.1==some .local)) &&
 (sc.names.all λy=>(y.2 != .free)||(xsc.names.lookup y.1==some .cell)||(xsc.names.lookup y.1==some .free)) &&
 (js.length==N.length)&&decide N.Nodup &&
 ((N.zip js).all λp=>match p.2 with
   |none=>true
   |some j=>XN[j]?==some p.1&&sc.names.contains (p.1,NameKind.free)&&sc.names.lookup p.1==some .free&&!(sc.names.contains (p.1,NameKind.cell)))
structure kr (X:Cx)(N:List Str)(js:List (Option Nat))(sc:Scope):Prop where
 kind:sc.kind=.function
 loc:∀ y∈sc.names,y.2=.local->sc.names.lookup y.1=some .local
 free:∀ y∈sc.names,y.2=.free->X.env.kindOf y.1=some .cell\/X.env.kindOf y.1=some .free
 len:js.length=N.length
 nd:N.Nodup
 slot:∀(i:Nat) (x:Str) (j:Nat),N[i]?=some x->js[i]?=some (some j)->X.N[j]?=some x/\(x,NameKind.free)∈sc.names/\sc.names.lookup x=some .free/\(x,NameKind.cell)∉sc.names
def EM {X:Cx}{XN:ao Str}{xsc:Scope}{N:ao Str}{js:ao (aq Nat)}{sc:Scope}(h:wj XN xsc N js sc=true)(hN:X.N=XN:=by rfl)(hs:X.env.scope=xsc:=by rfl):kr X N js sc:=by
 subst hN;subst hs
 unfold wj at h
 simp only[bJ,cY,Bool.or_eq_true,bne_iff_ne,beq_iff_eq,bq]at h
 obtain⟨⟨⟨⟨⟨h1,h2⟩,h3⟩,h4⟩,h5⟩,h6⟩:=h
 refine⟨h1,λy hy e=>(h2 y hy).resolve_left λz=>z e,λy hy e=>?_,h4,h5,λi x j e1 e2=>?_⟩
 .rcases h3 y hy with(z | z) | z
  .exact absurd e z
  .exact .inl z
  .exact .inr z
 .have hm:(x,some j)∈N.zip js:=List.mem_iff_getElem?.mpr ⟨i,by rw[List.getElem?_zip_eq_some];exact⟨e1,e2⟩⟩
  have q:=h6 _ hm
  simp only[bJ,beq_iff_eq,List.contains_iff_mem,Bool.not_eq_true',List.contains_eq_mem,bq,decide_eq_false_iff_not]at q
  exact⟨q.1.1.1,q.1.1.2,q.1.2,q.2⟩
def my:∀(names:ao (Str×NameKind)) (n:Nat) (acc:ao (Str×ai)) (x:Str) (c:ai),(x,c)∈cellsFrom n names acc->(x,NameKind.cell)∈names\/(x,c)∈acc
 |[],_,_,_,_,h=>.inr h
 | (m,k)::r,n,acc,x,c,h=>by
  unfold cellsFrom at h
  split at h
  .rename_i hk
   rcases my r _ _ x c h with h|h
   .exact .inl (nF _ h)
   .rcases List.mem_cons.mp h with e | h
    .cases e
     have Dv:k=NameKind.cell:=by simpa using hk
     exact .inl (by rw[Dv];exact aF)
    .exact .inr h
  .rcases my r _ _ x c h with h | h
   .exact .inl (nF _ h)
   .exact .inr h
def uZ {α β:Type}(g:Str->α->β):∀(l:ao (Str×α)) (x:Str),(l.map λp=>(p.1,g p.1 p.2)).lookup x=(l.lookup x).map (g x)
 |[],_=>rfl
 | (n,k)::r,x=>by
  rw[aw,dX,dX]
  cases hb:x==n with
  |true=>rw[beq_iff_eq.mp hb];rfl
  |false=>exact uZ g r x
def uv (env:Env)(x:Str)(k:NameKind):NameKind:=if(k==.free&&env.scope.kind==.function&&env.kindOf x==some .cell)then .cell else k
def lI {sc:Scope}{env:Env}{x:Str}:(relabel sc env).names.lookup x=(sc.names.lookup x).map (uv env x):=by
 rw[<- uZ]
 unfold relabel
 congr 1
 refine bN λp _=>?_
 obtain⟨n,k⟩:=p
 show(if _ then _ else _)=(n,uv env n k)
 unfold uv
 split<;>rfl
def B1 {env:Env}{x:Str}{k:NameKind}(h:uv env x k=.cell\/uv env x k=.free):k=.cell\/k=.free:=by
 unfold uv at h
 split at h
 .rename_i q
  simp only[bJ,beq_iff_eq]at q
  exact .inr q.1.1
 .exact h
def yP {env:Env}{x:Str}:uv env x .free=.cell\/uv env x .free=.free:=by
 unfold uv
 split
 .exact .inl rfl
 .exact .inr rfl
def nG (sc:Scope)(C:ai)(env:Env):Env where
 scope:=relabel sc env
 locals:=C
 globals:=env.globals
 cells:=cellsFrom (C+1) sc.names (lK env.cells sc.names [])
 qual:=env.qual
 func:=none
 code:=env.code
 frame:=env.frame
 builtins:=env.builtins
def ou (X:Cx)(N:ao Str)(sc:Scope)(fp:ao ai)(s:ah)(H:Hp):Cx where
 prog:=X.prog
 w:=X.w
 K:=X.K
 mg:=X.mg
 fJ:=X.fJ
 A:=X.A
 N:=N
 s₀:=s
 H₀:=H
 env:=nG sc (s.heap.objs.size+1) X.env
 fT:=X.stack
 stack:=X.stack
 ex:=fp
 fn:=λx=>sc.names.lookup x==some .cell
 gY:=X.gY
 pn:=[]
 xe:=λ_ _=>False
def tG (sc:Scope)(h:Heap):Heap:=pushCells ((h.push { cls:=.type "list",dict:=none,data:=.seq ([]:ao ak).toArray}).push { cls:=.type "dict",data:=.dict #[]}) sc.names
def u5 {sc:Scope}{h:Heap}:∀ b o,h.get? b=some o->(tG sc h).get? b=some o:=λb o e=>eJ _ _ b o (j8 _ (j8 _ e))
def Ip {sc:Scope}{h:Heap}:(tG sc h).get? h.objs.size=some { cls:=.type "list",dict:=none,data:=.seq ([]:ao ak).toArray} :=
 eJ _ _ _ _ (j8 _ (aG _ rfl))
def xu {js:ao (aq Nat)}{σ:St}{i:Nat}{v:V}(h:(ia js σ)[i]?=some (some v)):∃ j,js[i]?=some (some j)/\σ[j]?=some (some v):=by
 unfold ia at h
 rw[oU]at h
 cases e:js[i]? with
 |none=>rw[e]at h;cases h
 | some o =>
  rw[e]at h
  cases o with
  |none=>cases h
  | some j =>
   refine⟨j,rfl,?_⟩
   have h':(σ[j]?).join=some v:=aM h
   cases q:σ[j]? with
   |none=>rw[q]at h';cases h'
   |some z=>rw[q]at h';have:z=some v:=h';rw[this]
section
variable {X:Cx}{fI:ao (ai×Obj)}{σ:St}{H:Hp}{s:ah}{N:ao Str}{js:ao (aq Nat)}{sc:Scope}{fp:ao ai}
def Lh (I:Inv X fI σ H s)(hc:kr X N js sc)(hf:∀ b∈fp,mX X fI H b)(ho:∀ b∈fp,∃ o,s.heap.get? b=some o)(tk:Nat):
 Inv (ou X N sc fp s H) [] (ia js σ) H {s with heap:=tG sc s.heap,toks:=tk}:=by
 have hC:(s.heap.push { cls:=.type "list",dict:=none,data:=.seq ([]:ao ak).toArray}).objs.size=s.heap.objs.size+1:=bj ..
 have LB:∀ y∈sc.names,y.2=.free->∃ c,X.env.cells.lookup y.1=some c:=λy hy e=>I.ok.has y.1 (hc.free y hy e)
 have ok:=cellsFrom_ok sc.names ((s.heap.push { cls:=.type "list",dict:=none,data:=.seq ([]:ao ak).toArray}).push { cls:=.type "dict",data:=.dict #[]}) (s.heap.objs.size+1+1) [] ⟨λ_ _ hm=>(nomatch hm),List.Pairwise.nil⟩
  (by rw[bj,hC];exact ar _)
 rw[bj,hC]at ok
 have eC:(nG sc (s.heap.objs.size+1) X.env).cells=cellsFrom (s.heap.objs.size+1+1) sc.names []++lK X.env.cells sc.names []:=mB sc.names _ [] _
 have lk:∀ x c,(nG sc (s.heap.objs.size+1) X.env).cells.lookup x=some c->(x,c)∈cellsFrom (s.heap.objs.size+1+1) sc.names []\/X.env.cells.lookup x=some c:=λx c e=>by
  rw[eC]at e
  rcases List.mem_append.mp (mem_of_lookup e)with h|h
  .exact .inl h
  .rcases pC LB x c h with h | h
   .cases h
   .exact .inr h
 have big:∀(x:Str) (c:Nat),(x,c)∈cellsFrom (s.heap.objs.size+1+1) sc.names []->s.heap.objs.size+1+1<=c:=λx c h=>(ok.empty x c h).2
 have small:∀(x:Str) (c:Nat),X.env.cells.lookup x=some c->c<s.heap.objs.size:=λx c h=>let ⟨_,q⟩:=I.cell x c h;q.lt
 have has:∀ x,((nG sc (s.heap.objs.size+1) X.env).kindOf x=some .cell\/(nG sc (s.heap.objs.size+1) X.env).kindOf x=some .free)->∃ c,(nG sc (s.heap.objs.size+1) X.env).cells.lookup x=some c:=λx h=>by
  have h':(relabel sc X.env).names.lookup x=some .cell\/(relabel sc X.env).names.lookup x=some .free:=h
  rw[lI]at h'
  rw[eC,eN]
  cases q:sc.names.lookup x with
  |none=>rw[q]at h';rcases h' with h'|h'<;>cases h'
  | some k =>
   rw[q]at h'
   have hk:=B1 (env:=X.env) (x:=x) (k:=k) (h'.elim (λz=>.inl (aM z)) λz=>.inr (aM z))
   rcases hk with rfl|rfl
   .obtain⟨c,tH⟩:=oN (n:=s.heap.objs.size+1+1) q
    exact⟨c,by rw[tH];rfl⟩
   .have z:=pD (cells:=X.env.cells) sc.names [] x (mem_of_lookup q)
    obtain⟨c,tH⟩:=Option.isSome_iff_exists.mp z
    cases q2:(cellsFrom (s.heap.objs.size+1+1) sc.names []).lookup x with
    |none=>exact⟨c,by rw[tH];rfl⟩
    |some d=>exact⟨d,rfl⟩
 have Ja:(ou X N sc fp s H).Ok:=by
  refine⟨I.ok.mod,hc.kind,I.ok.glob,I.ok.blt,eT _,λx y c h1 h2=>?_,has,λx c hx h=>?_,I.ok.hd,I.ok.frames,.inl rfl,λb hb=>⟨?_,λx c h=>?_⟩,I.bs,aW I.ok.Jf I.sz,λb o e hb=>?_,λb hb hs=>?_,I.stack,I.sG⟩
  .rcases lk x c h1 with g1 | g1 <;> rcases lk y c h2 with g2 | g2
   .exact name_of_addr ok.apart g1 g2
   .exact absurd (aL (small _ _ g2) (aW (aR _ 2) (big _ _ g1))) (cv _)
   .exact absurd (aL (small _ _ g1) (aW (aR _ 2) (big _ _ g2))) (cv _)
   .exact I.ok.inj x y c g1 g2
  .have Es:sc.names.lookup x=some .cell:=by simpa [ou]using hx
   have h':(nG sc (s.heap.objs.size+1) X.env).cells.lookup x=some c:=h
   rw[eC,eN]at h'
   obtain⟨c2,tH⟩:=oN (n:=s.heap.objs.size+1+1) Es
   rw[tH]at h'
   have e:c2=c:=aM h'
   subst e
   exact aW (aR _ 2) (big _ _ (mem_of_lookup tH))
  .obtain⟨o,e⟩:=ho b hb
   exact aD (bc (jf e))
  .obtain⟨o,e⟩:=ho b hb
   have l:=jf e
   rcases lk x c h with g|g
   .exact bp (aL l (aW (aR _ 2) (big _ _ g)))
   .exact(hf b hb).2.2.2.2.1 x c g
  .rcases(hf b hb).2.2.2.1 with z | z
   .exact I.ok.HQ b o e z
   .exact absurd (aL (jf e) (aW I.ok.Jf z)) (cv _)
  .rcases List.mem_cons.mp (I.wG b hs)with z | z
   .exact(hf b hb).2.1 z
   .exact(hf b hb).2.2.1 z
 have tu:∀ b u,s.heap.get? b=some u->(tG sc s.heap).get? b=some u:=u5
 have YV:(tG sc s.heap).Ns (s.heap.objs.size+1) λ_=>none:=by
  have q:=(Heap.Ns.new (s.heap.push { cls:=.type "list",dict:=none,data:=.seq ([]:ao ak).toArray}) (.type "dict")).keeps (eJ sc.names _)
  rw[hC]at q
  exact q
 refine⟨Ja,rfl,I.bare,Un.jz tu,⟨_,YV,λi x v e1 e2 e3=>?_⟩,λx c h=>?_,I.iA.fresh (eT _),λx c h=>?_,λp hp=>absurd (show p∈([]:ao (ai×Obj))from hp) (by simp),I.iA.jz tu,?_⟩
 .obtain⟨j,hj,hv⟩:=xu e2
  obtain⟨g1,g2,g3,g4⟩:=hc.slot i x j e1 hj
  have kx:=hc.free _ g2 rfl
  obtain⟨m,hn,hl⟩:=I.loc
  obtain⟨u,r,l⟩:=hl j x v g1 hv (.inr kx)
  refine⟨u,r,?_⟩
  rcases l with⟨z,_⟩|⟨_,c,UN,u6⟩
  .have z':X.env.kindOf x=some .local:=z
   rcases kx with k|k<;>(have k':X.env.kindOf x=_:=k;rw[z']at k';cases k')
  .have kY:(nG sc (s.heap.objs.size+1) X.env).kindOf x=some .cell\/(nG sc (s.heap.objs.size+1) X.env).kindOf x=some .free:=by
    show(relabel sc X.env).names.lookup x=some .cell\/(relabel sc X.env).names.lookup x=some .free
    rw[lI,g3]
    rcases yP (env:=X.env) (x:=x)with q|q
    .exact .inl (show some (uv X.env x .free)=_ by rw[q])
    .exact .inr (show some (uv X.env x .free)=_ by rw[q])
   obtain⟨c',h'⟩:=has x kY
   refine .inr ⟨kY,c',h',?_⟩
   rcases lk x c' h' with g|g
   .rcases my _ _ _ _ _ g with z | z
    .exact absurd z g4
    .cases z
   .rw[UN]at g;cases g
    exact u6.keeps tu
 .rcases lk x c h with g | g
  .exact⟨_,(ok.empty x c g).1⟩
  .obtain⟨v,q⟩:=I.cell x c g
   exact⟨v,q.keeps tu⟩
 .rcases lk x c h with g | g
  .exact I.iA.fresh (aW (aR _ 2) (big _ _ g))
  .exact I.pJ x c g
 .show(ia js σ).length=N.length
  unfold ia
  rw[iu];exact hc.len
end
section
variable {X:Cx}{fI:ao (ai×Obj)}{σ:St}{H:Hp}{s:ah}
def Inv.adopt {D:ai}{ys:ao V}{gp:ao ak}{n:Nat}(I:Inv X fI σ H s)(hn:H D=none)(hL:D≠X.env.locals)(h1:X.s₀.heap.objs.size<=D)(h2:∀ x c,X.env.cells.lookup x=some c->c≠D)(h3:∀ p∈X.pn++fI,p.1≠D)
 (e:s.heap.get? D=some { cls:=.type "list",data:=.seq gp.toArray n}) (r:gE ys gp) (hz:ys.length<=sizeLine):Inv X fI σ (upd H D (.lst ys)) s:=by
 have ne:∀ b,b∉[D]->b≠D:=λb h z=>h (by simp[z])
 refine I.step (g':=s.gens) (d':=s.drawn) (t':=s.toks) (h':=s.heap) (ch:=[D]) (λb hb=>?_) (λb o _ _ _ q _=>q) (λb o _ _ _ q _=>⟨o.slots,q⟩) (λb o hb q z=>by rw[gB (ne b hb)];exact z) (λb o _ q=>⟨o,q⟩)
  (λb xs q=>by rw[gB (gM q hn)];exact q) (λb o u q=>by rw[gB (gM q hn)];exact q) (λb ps q=>⟨#[],by rw[gB (gM q hn),q];simp⟩) (λm q=>q) (λb u q=>?_) I.bare
 .have z:b=D:=by simpa using hb
  subst z
  exact⟨.inr h1,hL,h2,h3⟩
 .by_cases hb:b=D
  .subst hb;rw[gh]at q;cases q
   exact⟨hz,gp,n,r,e⟩
  .rw[gB hb]at q
   exact(I.iA b u q).zM (λc v _ z=>z) (λc z=>by rw[gB (gM z hn)];exact z) λc xs z=>by rw[gB (gM z hn)];exact z
def ME (X:Cx)(ifs:ao Expr)(t:TT):Prop :=
 ∀(fI:ao (ai×Obj)) (s:ah) (σ:St) (H:Hp) (Q:Bool->Hp->Prop),Inv X fI σ H s->t σ H Q ->
  wpAny (model X.prog X.w) X.A (forIn ifs true λc r=>if r=true then do let ok <- isTrue c X.env (eval c X.env);pure (ForInStep.yield ok)else pure (ForInStep.yield r)) (TP X fI σ Q) X.xe s
def Ys:TT:=λ_ H Q=>Q true H
def FJ:ME X [] Ys:=λ_ _ _ H _ I h=>wpAny_tests_nil ⟨H,I,h⟩
def NL {c:Expr}{t:TT}(h:PT X c t):ME X [c] t:=λfI s σ H Q I q=>wpAny_tests_one (h fI s σ H Q I q)
def Ext (σ ji:St):Prop:=σ.length=ji.length/\∀(i:Nat) v,σ[i]?=some (some v)->ji[i]?=some (some v)
def Ext.Vy {v u:aq V}{r:St}:Ext (none::none::r) (v::u::r):=⟨rfl,λi z h=>by
 match i,h with
 |0,h=>simp at h
 |1,h=>simp at h
 |i+2,h=>simpa using h⟩
def Jw (js:ao (aq Nat))(g:TG)(tt:TT)(te:TE)(J:It)(σ:St)(H1:Hp)(fin:ao V->Hp->Prop):Prop :=
 ∃ W:Nat->Nat->ao V->Hp->Prop,(∃ m,W 0 m [] H1)/\∀ i m ys H,W i m ys H ->
  (J.stop i H/\fin ys H)\/(J.go i H/\∀ x H',J.Ju i H x H'->g x (ia js σ) H' λow H2=>Ext (ia js σ) ow/\tt ow H2 λb H3 =>
    if b=true then te ow H3 λy H4=>ys.length<sizeLine/\∃ m',m'<m/\W (i+1) m' (ys++[y]) H4 else ∃ m',m'<m/\W (i+1) m' ys H3)
def A0 {prog:ae}{w:af}{A:Around}{R:Result->ah->Prop}{s:ah}{elt target iter:Expr}{ifs:ao Expr}{scope:Scope}{pos:Pos}{it acc:ak}{env:Env}(I:Nat->ah->Prop)
 (turn:∀ n s,I n s->wpAny (model prog w) A (pyNext it) (λr s₁=>match r with
   |none=>R (.ok .next) s₁
   | some v=>wpAny (model prog w) A (letOwnedTupleGo target it v) (λ_ BU=>wpAny (model prog w) A (assign target env v) (λ_ s₂ =>
    wpAny (model prog w) A (forIn ifs true λc r=>if r=true then do let ok <- isTrue c env (eval c env);pure (ForInStep.yield ok)else pure (ForInStep.yield r)) (λok s₃ =>
     if ok=true then wpAny (model prog w) A (eval elt env) (λx s₄ =>
      wpAny (model prog w) A (call (.builtin "list.append") [acc,x]) (λ_ s₅=>∃ m,m<n/\I m s₅) (λ_ _=>False) s₄) (λ_ _=>False) s₃
     else ∃ m,m<n/\I m s₃) (λ_ _=>False) s₂) (λ_ _=>False) BU) (λ_ _=>False) s₁) (λ_ _=>False) s)
 (n:Nat) (h:I n s):
 codeAny (model prog w) A (.compLoop (.ListComp elt [⟨target,iter,ifs,0⟩] scope pos) 0 it acc env) R s:=by
 refine codeAny_loop rfl I (λn s hI=>?_) n h
 show wpAny _ A ((compTurn (.ListComp elt [⟨target,iter,ifs,0⟩] scope pos) 0 it acc env).onRaise (λx=>do noteFrame x env;theTreesLotGoes x)) _ _ s
 refine wpAny_noted ?_
 rw[compTurn_list]
 refine fY (eB (fY (cc (turn n s hI) (λr s₁ h₁=>?_) λ_ _ h'=>h'.elim)))
 cases r with
 |none=>exact au h₁
 | some v =>
  refine fY (cc h₁ (λ_ BU Lk=>?_) λ_ _ h'=>h'.elim)
  refine fY (cc Lk (λ_ s₂ h₂=>fY (cc h₂ (λok s₃ h₃=>?_) λ_ _ h'=>h'.elim)) λ_ _ h'=>h'.elim)
  cases ok with
  |false=>exact au ⟨rfl,h₃⟩
  | true =>
   exact fY (fY (cc h₃ (λx s₄ h₄=>fY (cc h₄ (λ_ s₅ h₅=>au (au ⟨rfl,h₅⟩)) λ_ _ h'=>h'.elim)) λ_ _ h'=>h'.elim))
variable {N:ao Str}{js:ao (aq Nat)}{sc:Scope}{fp:ao ai}{tg elt iter:Expr}{ifs:ao Expr}{g:TG}{tt:TT}{te:TE}
def lobj (gp:ao ak)(n:Nat):Obj:={ cls:=.type "list",data:=.seq gp.toArray n}
def xP {J:It}{it:ai}{tn:Nat->Heap->Prop}{pos:Pos}{R:Result->ah->Prop}{fin:ao V->Hp->Prop}{tk:Nat}(I:Inv X fI σ H s)(hc:kr X N js sc){CM:Cx->Prop}(gY:CM (ou X N sc fp s H))
 (T:Turn X.prog X.w X.K tg J fp it tn CM) (st:tn 0 s.heap) (hf:∀ b∈fp,mX X fI H b)
 (hg:PG (ou X N sc fp s H) tg g) (ht:ME (ou X N sc fp s H) ifs tt) (he:PE (ou X N sc fp s H) elt te) (q:Jw js g tt te J σ H fin)
 (hR:∀ s' H' ys m,Inv X fI σ (upd H' s.heap.objs.size (.lst ys)) s'->H' s.heap.objs.size=none->fin ys H'->s'.heap.Ns (s.heap.objs.size+1) m->H' (s.heap.objs.size+1)=none->R (.ok .next) s'):
 codeAny (model X.prog X.w) X.A (.compStart (.ListComp elt [⟨tg,iter,ifs,0⟩] sc pos) 0 (.ref it) (.ref s.heap.objs.size) (nG sc (s.heap.objs.size+1) X.env)) R {s with heap:=tG sc s.heap,toks:=tk}:=by
 have UG:∀ b∈fp,∃ o,s.heap.get? b=some o:=λb hb=>let ⟨o,e,_⟩:=T.obj 0 s.heap st b hb;⟨o,e⟩
 have I0:=Lh I hc hf UG tk
 have Ja:=I0.ok
 obtain⟨W,⟨m0,w0⟩,turn⟩:=q
 have small:∀ b∈fp,b≠s.heap.objs.size:=λb hb=>let ⟨o,e⟩:=UG b hb;aD (jf e)
 have wH:∀ {gp:ao ak} {k:Nat} {H':Hp},(∀ b∈fp,H' b=none)->∀ b∈fp,mX (ou X N sc fp s H) [(s.heap.objs.size,lobj gp k)] H' b:=λ{gp k H'} hn b hb =>
  ⟨hn b hb,(Ja.UT b hb).1,Ja.Iz b hb,.inl hb,(Ja.UT b hb).2,λp hp=>by
   have e:p=(s.heap.objs.size,lobj gp k):=by simpa [ou]using hp
   rw[e];exact(small b hb).symm⟩
 have Qg:tn 0 (tG sc s.heap):=T.keep 0 _ _ st λb _ o e=>u5 b o e
 have I1:Inv (ou X N sc fp s H) [(s.heap.objs.size,lobj [] 0)] (ia js σ) H { s with heap:=tG sc s.heap,toks:=tk}:=I0.sQ λp hp=>by
  have e:p=(s.heap.objs.size,lobj [] 0):=by simpa using hp
  subst e
  refine⟨Ip,I.iA.fresh (ar _),aD (bL _),λz=>?_,λv z=>by cases z⟩
  obtain⟨_,o,ho,_⟩:=Ja.uD.mem z
  exact cv _ (jf ho)
 have loop:codeAny (model X.prog X.w) X.A (.compLoop (.ListComp elt [⟨tg,iter,ifs,0⟩] sc pos) 0 (.ref it) (.ref s.heap.objs.size) (nG sc (s.heap.objs.size+1) X.env)) R { s with heap:=tG sc s.heap,toks:=tk}:=by
  refine A0 (λn s'=>∃ i ys gp k H',Inv (ou X N sc fp s H) [(s.heap.objs.size,lobj gp k)] (ia js σ) H' s'/\tn i s'.heap/\(∀ b∈fp,H' b=none)/\gE ys gp/\ys.length<=sizeLine/\W i n ys H') ?_ m0
   ⟨0,[],[],0,H,I1,Qg,λb hb=>(hf b hb).1,.nil,bC _,w0⟩
  rintro n s3 ⟨i,ys,gp,k,H3,I3,MN,QM,rv,hz,w3⟩
  have len:=rv.length
  rcases turn i n ys H3 w3 with⟨stop,qf⟩|⟨go,step⟩
  .refine iJ (T.done (ou X N sc fp s H) rfl rfl rfl gY i _ s3 _ H3 _ I3 (wH QM) MN stop) λr s4 rY=>?_
   obtain⟨hr,I4⟩:=rY
   subst hr
   show R (.ok .next) s4
   have hD:=I4.pin (s.heap.objs.size,lobj gp k) (aS _ aF)
   obtain⟨m,UH,_⟩:=I4.loc
   have IX:Inv X fI σ H3 s4:=I.Mm (ch:=fp) I4.os I4.fJ I4.iA I4.bare λb hb=>by
    obtain⟨f0,f1,f2,f3,f4,f5⟩:=hf b hb
    exact⟨f3,f1,f4,f5⟩
   have neD:∀(b:ai) (o:Obj),s.heap.get? b=some o->b≠s.heap.objs.size:=λb o e=>aD (jf e)
   refine hR s4 H3 ys m (IX.adopt hD.2.1 (bp I.lt) I.sz (λx c e=>?_) (λp hp=>neD _ _ (I.pin p hp).1) hD.1 rv hz) hD.2.1 qf UH I4.free
   obtain⟨v,q⟩:=I.cell x c e
   exact aD q.lt
  .refine iJ (T.item (ou X N sc fp s H) rfl rfl rfl gY i _ s3 _ H3 _ I3 (wH QM) MN go) λr s4 qV=>?_
   obtain⟨u,hr,h4⟩:=qV
   subst hr
   refine iJ h4 λ_ s5 tF=>?_
   obtain⟨x,H5,I5,r5,y5,JM,Wm⟩:=tF
   have Xl:=I5.pinned (wH Wm) (T.obj _ _ JM)
   refine iJ (hg _ s5 _ H5 x u _ Xl r5 (step x H5 y5)) λ_ s6 ⟨MK,H6,I6,⟨LN,q6⟩⟩=>?_
   refine iJ (ht _ s6 MK H6 _ I6 q6) λb s7 rB=>?_
   obtain⟨H7,I7,q7⟩:=rB
   have back:∀ {s':ah} {H':Hp},Inv (ou X N sc fp s H) ([(s.heap.objs.size,lobj gp k)]++uy fp s5.heap) MK H' s'->tn (i+1) s'.heap/\(∀ b∈fp,H' b=none)/\Inv (ou X N sc fp s H) [(s.heap.objs.size,lobj gp k)] (ia js σ) H' s':=λ{s' H'} I'=>by
    refine⟨T.keep _ _ _ JM λb hb o e=>(I'.pin (b,o) (aS _ (aS _ (mf hb e)))).1,λb hb=>?_,(I'.weak LN.1 LN.2).p4⟩
    obtain⟨o,e,d⟩:=T.obj _ _ JM b hb
    exact(I'.pin (b,o) (aS _ (aS _ (mf hb e)))).2.1
   cases b with
   | false =>
    rw[aC aJ]at q7 ⊢
    obtain⟨m',hm,w7⟩:=q7
    obtain⟨t7,f7,I7'⟩:=back I7
    exact⟨m',hm,i+1,ys,gp,k,H7,I7',t7,f7,rv,hz,w7⟩
   | true =>
    rw[aB rfl]at q7 ⊢
    refine iJ (he _ s7 MK H7 _ I7 q7) λy s8 rZ=>?_
    obtain⟨yv,H8,I8,ry,mP,m',hm,w8⟩:=rZ
    obtain⟨t8,f8,Xk⟩:=back I8
    have hD:=Xk.pin (s.heap.objs.size,lobj gp k) (aS _ aF)
    have eD:s8.heap.get? s.heap.objs.size=some { cls:=.type "list",data:=.seq gp.toArray k}:=hD.1
    refine call_meets F.slot_list_append ⟨_,eD,rfl⟩ F.entry_list_append (F.args_list_append_2 _ _) (PySem.list_append s.heap.objs.size gp.toArray k y (by rw[aE];lia)) ⟨eD,?_⟩
    have q:=PySem.IsL.update eD (·.push y)
    have Ws:gp.toArray.push y=(gp++[y]).toArray:=by simp
    have keep:∀(b:ai) (o:Obj),b≠s.heap.objs.size->s8.heap.get? b=some o->(s8.heap.update s.heap.objs.size (Obj.mapSeq (·.push y))).get? b=some o:=λb o hb e=>(aT s8.heap (Obj.mapSeq (·.push y)) (bo hb)).trans e
    have W0:∀ x c,(ou X N sc fp s H).env.cells.lookup x=some c->c≠s.heap.objs.size:=λx c e z=>by
     obtain⟨v,o,ho,hd⟩:=Xk.cell x c e
     rw[z,eD]at ho;cases ho
     cases hd
    have I9:Inv (ou X N sc fp s H) [] (ia js σ) H8 { s8 with heap:=s8.heap.update s.heap.objs.size (Obj.mapSeq (·.push y))} :=
     (Xk.sQ (pins':=[]) λp hp=>absurd hp (by simp)).turned (t':=s8.toks) keep hD.2.1 hD.2.2.1 (.inr (ar _)) W0 (λp hp=>absurd (show p∈([]:ao (ai×Obj))from hp) (by simp))
    rw[Ws]at q
    obtain⟨k',q'⟩:∃ k',(s8.heap.update s.heap.objs.size (Obj.mapSeq (·.push y))).get? s.heap.objs.size=some (lobj (gp++[y]) k'):=⟨_,q⟩
    refine⟨m',hm,i+1,ys++[yv],gp++[y],k',H8,I9.sQ λp hp=>?_,T.keep _ _ _ t8 λb hb o e=>keep b o (small b hb) e,f8,rv.append (.cons ry .nil),by rw[oq,bF];lia,w8⟩
    have e:p=(s.heap.objs.size,lobj (gp++[y]) k'):=by simpa using hp
    subst e
    exact⟨q',hD.2.1,hD.2.2.1,hD.2.2.2.1,λv z=>by cases z⟩
 exact codeAny_compStart_list loop (T.self _ 0 _ _ _ Qg loop)
def JK (wi:TI)(js:ao (aq Nat))(g:TG)(tt:TT)(te:TE):TE:=λσ H Q=>wi σ H λJ H1=>Jw js g tt te J σ H1 λys H'=>∀ D,H' D=none->Q (.ref D) (upd H' D (.lst ys))
def FQ {wi:TI}{pos:Pos}(hc:kr X N js sc)(gY:X.gY=true)(hi:PI X tg iter wi)(hg:∀ fp s H,PG (ou X N sc fp s H) tg g)(ht:∀ fp s H,ME (ou X N sc fp s H) ifs tt)(he:∀ fp s H,PE (ou X N sc fp s H) elt te)
 (hs:∀ x,foldedSetIterable iter X.env x=pure x:=by intro _;rfl):PE X (.ListComp elt [⟨tg,iter,ifs,0⟩] sc pos) (JK wi js g tt te):=by
 intro fI s σ H Q I h
 rw[eval_ListComp]
 refine eE (use:=none) rfl hs (oj λy hy e=>I.ok.has y.1 (hc.free y hy e)) hc.kind hc.loc (iJ (hi fI s σ H _ I h) λv s1 h1=>iJ h1 λV0 s2 h2=>?_)
 obtain⟨it,fp,tn,J,H2,e,I2,T,Qf,f2,q⟩:=h2
 subst e
 refine dc (qg ?_)
 have hC:(s2.heap.push { cls:=.type "list",dict:=none,data:=.seq ([]:ao ak).toArray}).objs.size=s2.heap.objs.size+1:=bj ..
 simp only[hC]
 refine xP (tk:=s2.toks) I2 hc gY T Qf f2 (hg fp s2 H2) (ht fp s2 H2) (he fp s2 H2) q λs' H' ys m IX nD qf nC hn=>?_
 refine⟨m,nC,λh' sb=>?_⟩
 have Cq:∀(b:ai) (o:Obj),s2.heap.get? b=some o->b≠s2.heap.objs.size+1:=λb o e=>aD (bc (jf e))
 have IY:Inv X fI σ (upd H' s2.heap.objs.size (.lst ys)) { s' with heap:=h'}:=IX.turned (t':=s'.toks) (it:=s2.heap.objs.size+1) (λb o hb e=>(sb.2 b hb).trans e) (by rw[gB (bp (bL _))];exact hn)
  (bp (bc I2.lt)) (.inr (Nat.le_succ_of_le I2.sz)) (λx c e=>let ⟨v,z⟩:=I2.cell x c e;aD (bc z.lt)) (λp hp=>Cq _ _ (I2.pin p hp).1)
 exact⟨.ref _,_,IY,rfl,qf _ nD⟩
def D0 {wi:TI}{pos pos' wI:Pos}{i:Nat}{x:Str}(hc:kr X N js sc)(gY:X.gY=true)(hN:X.N.Nodup)(Es:X.N[i]?=some x)(hx:Loc X.env.scope x)(hi:PI X tg iter wi)(hg:∀ fp s H,PG (ou X N sc fp s H) tg g)
 (ht:∀ fp s H,ME (ou X N sc fp s H) ifs tt) (he:∀ fp s H,PE (ou X N sc fp s H) elt te) (Lm:swapsWith (.ListComp elt [⟨tg,iter,ifs,0⟩] sc pos) (some (.Name x pos')) wI.line X.env=pure true:=by rfl)
 (hs:∀ x,foldedSetIterable iter X.env x=pure x:=by intro _;rfl) (hf:X.fn x=true\/X.env.scope.names.lookup x=some .local:=by first|exact .inl rfl|exact .inr rfl|assumption):
 PS X (.Assign [.Name x pos'] (.ListComp elt [⟨tg,iter,ifs,0⟩] sc pos) wI) (Rp (JK wi js g tt te) (tJ i)):=by
 intro fI s σ H D I h
 rw[exec_Assign_Name_used _ _ _ _ Lm]
 refine fY (eB (fY ?_))
 show wpAny _ X.A (do let _ <- comprehension (.ListComp elt [⟨tg,iter,ifs,0⟩] sc pos) sc X.env _ (newList []) false (eval iter X.env) (some (assign (.Name x pos') X.env))) _ _ s
 refine fY (cc (eE (use:=some (assign (.Name x pos') X.env)) (Q:=λ_ s'=>SP X fI D .next s') rfl hs (oj λy hy e=>I.ok.has y.1 (hc.free y hy e)) hc.kind hc.loc
  (iJ (hi fI s σ H _ I h) λv s1 h1=>iJ h1 λV0 s2 h2=>?_)) (λ_ s' hq=>au (au hq)) λ_ _ e=>e)
 obtain⟨it,fp,tn,J,H2,e,I2,T,Qf,f2,q⟩:=h2
 subst e
 refine dc (qg ?_)
 have hC:(s2.heap.push { cls:=.type "list",dict:=none,data:=.seq ([]:ao ak).toArray}).objs.size=s2.heap.objs.size+1:=bj ..
 simp only[hC]
 refine xP (tk:=s2.toks) I2 hc gY T Qf f2 (hg fp s2 H2) (ht fp s2 H2) (he fp s2 H2) q λs' H' ys m IX nD qf nC hn=>?_
 have Cq:∀(b:ai) (o:Obj),s2.heap.get? b=some o->b≠s2.heap.objs.size+1:=λb o e=>aD (bc (jf e))
 have hnC:upd H' s2.heap.objs.size (.lst ys) (s2.heap.objs.size+1)=none:=by rw[gB (bp (bL _))];exact hn
 show wpAny _ X.A (assign (.Name x pos') X.env (.ref s2.heap.objs.size)) _ _ s'
 refine wpAny_assign_Name (yK (v:=.ref s2.heap.objs.size) IX hN Es hx rfl (λUA IZ ch=>?_) hf)
 obtain⟨a,sba,ha⟩:=ch
 have hac:s2.heap.objs.size+1≠a:=by
  rcases ha with z|z
  .rw[z];exact bp (bc I2.lt)
  .obtain⟨v,z⟩:=I2.cell x a z
   exact bp (bc z.lt)
 refine⟨m,nC.sameBut sba hac,λh' sb=>?_⟩
 have IY:Inv X fI (σ.set i (some (.ref s2.heap.objs.size))) (upd H' s2.heap.objs.size (.lst ys)) { UA with heap:=h'}:=IZ.turned (t':=UA.toks) (it:=s2.heap.objs.size+1) (λb o hb e=>(sb.2 b hb).trans e) hnC
  (bp (bc I2.lt)) (.inr (Nat.le_succ_of_le I2.sz)) (λx c e=>let ⟨v,z⟩:=I2.cell x c e;aD (bc z.lt)) (λp hp=>Cq _ _ (I2.pin p hp).1)
 exact⟨_,_,IY,qf _ nD⟩
end
open Builtin Builtin.Str
def lp {α:Type}(xs:ao α)(lo hi:aq Int):ao α:=(xs.drop (HT.oB xs.length 0 lo)).take (HT.oB xs.length xs.length hi - HT.oB xs.length 0 lo)
def Pe (n:Nat)(lo:aq Int):(match lo with | none=>(0:Int) | some i=>max 0 (min (if i<0 then i+(n:Int)else i) (n:Int)))=((HT.oB n 0 lo:Nat):Int):=by
 cases lo with
 |none=>rfl
 |some i=>unfold HT.oB;dsimp only;split<;>lia
def Pg (n:Nat)(hi:aq Int):(match hi with | none=>(n:Int) | some i=>max 0 (min (if i<0 then i+(n:Int)else i) (n:Int)))=((HT.oB n n hi:Nat):Int):=by
 cases hi with
 |none=>rfl
 |some i=>unfold HT.oB;dsimp only;split<;>lia
def oY (lo hi:aq Int)(n:Nat):strSliceIndices lo hi 1 n=sliceRange ((HT.oB n 0 lo:Nat):Int) ((HT.oB n n hi:Nat):Int) 1:=by
 rw[<- Pe,<- Pg]
 unfold strSliceIndices
 cases lo<;>cases hi<;>rfl
def Hv (x:Str)(lo hi:aq Int):(strSliceIndices lo hi 1 x.length).filterMap (x.cps[·]?)=lp x.cps.toList lo hi:=by
 have hl:x.cps.toList.length=x.length:=by simp[Str.length]
 unfold lp
 rw[hl]
 have ha:=HT.z7 x.length 0 (bC _) lo
 have hb:=HT.z7 x.length x.length (ar _) hi
 by_cases Gp:HT.oB x.length 0 lo<=HT.oB x.length x.length hi
 .rw[<- StrLaws.sliced_plain x Gp hb,oY,oY]
  congr 2
  .rw[HT.mU,cu ha]
  .rw[HT.mU,cu hb]
 .rw[oY]
  have e:HT.oB x.length x.length hi - HT.oB x.length 0 lo=0:=by lia
  rw[e,List.take_zero]
  unfold sliceRange
  have h1:¬ (((HT.oB x.length 0 lo:Nat):Int)<((HT.oB x.length x.length hi:Nat):Int)):=by lia
  simp[h1]
def Df {α:Type}(xs:ao α)(lo hi:aq Int):(lp xs lo hi).length<=xs.length:=by
 unfold lp
 rw[bH,bA]
 lia
section
variable {X:Cx}
def YQ:V->aq Int->aq Int->Hp->VK->Prop:=λx lo hi H Q=>∃ z:Str,x=.str z/\z.length<=sizeLine/\Q (.str ⟨(lp z.cps.toList lo hi).toArray⟩) H
def RB:Yc X YQ:=by
 intro fI s σ H x v vl vu lo hi sl Q I rx hs pl pu h
 obtain⟨z,rfl,hz,q⟩:=h
 obtain⟨t,rfl⟩:=rx
 refine⟨"str",_,F.slot_str_getitem.lookup,typeIs_str _ _ _,?_⟩
 obtain⟨l,el⟩:∃ l:aq (Int×Tok),vl=partValue l/\l.map (·.1)=lo:=by
  cases pl with
  |none=>exact⟨none,rfl,rfl⟩
  |int i t=>exact⟨some (i,t),rfl,rfl⟩
 obtain⟨u,eu⟩:∃ u:aq (Int×Tok),vu=partValue u/\u.map (·.1)=hi:=by
  cases pu with
  |none=>exact⟨none,rfl,rfl⟩
  |int i t=>exact⟨some (i,t),rfl,rfl⟩
 obtain⟨rfl,el⟩:=el
 obtain⟨rfl,eu⟩:=eu
 refine wpAny_getItem_str_slice (l:=l) (u:=u) (st:=none) hs rfl ?_
 unfold sliceMade
 have e:slicePicked z l u none=strSliceIndices lo hi 1 z.length:=by unfold slicePicked;rw[el,eu];rfl
 rw[e,Hv]
 by_cases hc:(((none:aq (Int×Tok)).map (·.1)).getD 1==1&&(strSliceIndices lo hi 1 z.length).length==z.length)=true
 .rw[aB hc]
  refine⟨.str z,H,I,⟨_,rfl⟩,?_⟩
  have tH:(strSliceIndices lo hi 1 z.length).length=z.length:=by simpa using hc
  have hl:z.cps.toList.length=z.length:=by simp[Str.length]
  have h3:lp z.cps.toList lo hi=z.cps.toList:=by
   rw[oY]at tH
   unfold sliceRange at tH
   have ha:=HT.z7 z.length 0 (bC _) lo
   have hb:=HT.z7 z.length z.length (ar _) hi
   rw[iu,u7]at tH
   unfold lp
   rw[hl]
   by_cases mP:((HT.oB z.length 0 lo:Nat):Int)<((HT.oB z.length z.length hi:Nat):Int)
   .simp[mP]at tH
    have a0:HT.oB z.length 0 lo=0:=by lia
    have b0:HT.oB z.length z.length hi=z.length:=by lia
    rw[a0,b0,List.drop_zero,Nat.sub_zero,<- hl,List.take_length]
   .simp[mP]at tH
    have z0:z.cps.toList=[]:=List.length_eq_zero_iff.mp (by lia)
    rw[z0];simp
  have e2:(⟨(lp z.cps.toList lo hi).toArray⟩:Str)=z:=by rw[h3]
  rw[e2]at q
  exact q
 .rw[aC hc]
  refine⟨?_,.str _,H,I.tok _,⟨_,rfl⟩,q⟩
  have hl:z.cps.toList.length=z.length:=by simp[Str.length]
  have:=Df z.cps.toList lo hi
  show(lp z.cps.toList lo hi).toArray.size<=sizeLine
  rw[aE]
  lia
def yD:∀ {ys:ao Str} {us:ao ak},gE (ys.map V.str) us->StrsAre us ys
 |[],_,h=>by cases h;exact .nil
 | y::r,_,h=>by
  cases h with
  |cons a b=>obtain⟨t,rfl⟩:=a;exact .cons _ _ (yD b)
def u9:∀(ys:ao Str) (acc:Array Nat),ys.foldl (λacc p=>acc++(#[]:Array Nat)++p.cps) acc=acc++(ys.map (·.cps.toList)).flatten.toArray
 |[],acc=>by simp
 | y::r,acc=>by
  rw[cJ,u9 r,aw,List.flatten_cons]
  apply Array.toList_inj.mp
  simp
def Ep (z:Str)(hz:z.cps=#[])(ys:ao Str):Txt.join z ys=⟨(ys.map (·.cps.toList)).flatten.toArray⟩:=by
 unfold Txt.join glued
 rw[hz]
 congr 1
 cases ys with
 |nil=>rfl
 | cons y r =>
  show List.foldl _ y.cps r=_
  rw[u9,aw,List.flatten_cons]
  apply Array.toList_inj.mp
  simp
def rJoin (K:aa):V->ao V->Hp->VK->Prop:=λx vs H Q=>∃(z:Str) (l:ai) (ys:ao Str),x=.str z/\z.cps=#[]/\vs=[.ref l]/\pF K H l (ys.map V.str)/\(ys.map (·.length)).sum<=16777216/\Q (.str ⟨(ys.map (·.cps.toList)).flatten.toArray⟩) H
def Oe:MG X "str.join" (rJoin X.K):=by
 intro fI s σ H x vs v us Q I rx rv h
 obtain⟨z,l,ys,rfl,hz,rfl,hl,hs,q⟩:=h
 obtain⟨t,rfl⟩:=rx
 obtain⟨u,rfl,ru⟩:=rv.one
 cases ru
 obtain⟨gp,r,p,_⟩:=I.list hl
 have zl:z.length=0:=by unfold Str.length;rw[hz];rfl
 refine join_list p.isList (ys:=ys) (by simpa using yD r) (by rw[zl];lia) λt' k=>?_
 rw[Ep z hz]
 exact⟨.str _,H,I.tok _,⟨_,rfl⟩,q⟩
def FF (c:Nat):∀(n:Nat) (acc:Array Nat),(List.replicate n #[c]).foldl (·++·) acc=acc++(List.replicate n c).toArray
 |0,acc=>by simp
 | n+1,acc=>by
  rw[List.replicate_succ,cJ,FF c n,List.replicate_succ]
  apply Array.toList_inj.mp
  simp
def mul_one (c:Nat)(n:Int):Txt.mul ⟨#[c]⟩ n=⟨(List.replicate n.toNat c).toArray⟩:=by
 unfold Txt.mul
 by_cases h1:n<1
 .rw[aB h1]
  have e:n.toNat=0:=by lia
  rw[e];rfl
 .rw[aC h1]
  by_cases h2:(n==1||(⟨#[c]⟩:Str).length==0)=true
  .rw[aB h2]
   have e:n=1:=by simpa [Str.length]using h2
   rw[e];rfl
  .rw[aC h2]
   congr 1
   have:=FF c n.toNat #[]
   rw[this]
   apply Array.toList_inj.mp
   simp
def D3:kU X (binaryOp .Mult) (λx y H Q=>∃(c:Nat) (n:Int),x=.str ⟨#[c]⟩/\y=.int n /\ -1000000<=n/\n<=1000000/\Q (.str ⟨(List.replicate n.toNat c).toArray⟩) H):=by
 intro fI s σ H x y v u Q I rx ry h
 obtain⟨c,n,rfl,rfl,h1,h2,q⟩:=h
 obtain⟨t,rfl⟩:=rx
 obtain⟨t',rfl⟩:=ry
 refine SB.mul ⟨?_,λhn _=>?_,λhn _=>?_⟩ λt' k=>?_
 .rw[aV (by lia),aV (by lia)];rfl
 .have e:((⟨#[c]⟩:Str).length:Int)=1:=rfl
  rw[e]
  have:(1:Int)<=(2 ^ 63 - 1) / n:=(Int.le_ediv_iff_mul_le (by lia)).mpr (by lia)
  lia
 .have e:(⟨#[c]⟩:Str).length=1:=rfl
  rw[e]
  unfold tooLong sizeLine
  rw[aV (by lia)]
 .rw[mul_one]
  exact⟨.str _,H,I.tok _,⟨_,rfl⟩,q⟩
def Ml:jB X (.builtin "isinstance") (λvs H Q=>∃ x T t b,vs=[x,.ty T]/\kG X.K H x t/\W.kitOne X.K t (.type T)=some b/\Q (.bl b) H):=by
 intro fI s σ H vs us Q I rv h
 obtain⟨x,T,t,b,rfl,ty,e,q⟩:=h
 obtain⟨u,w',rfl,r1,r2⟩:=vals2 rv
 cases r2
 exact Ie I r1 ty e λtk=>⟨.bl b,H,I.tok tk,rfl,q⟩
end
end L2
namespace L2
open PySem PySem.Spec PyProof.Rows
open Builtin Builtin.Str
section
variable {X:Cx}
def kU.imp {f:ak->ak->Sem ak}{r r':R2}(h:kU X f r)(hi:∀ x y H Q,r' x y H Q->r x y H Q):kU X f r':=λfI s σ H x y v u Q I r1 r2 q=>h fI s σ H x y v u Q I r1 r2 (hi x y H Q q)
def PE.imp {e:Expr}{t t':TE}(h:PE X e t)(hi:∀ σ H Q,t' σ H Q->t σ H Q):PE X e t':=λfI s σ H Q I q=>h fI s σ H Q I (hi σ H Q q)
def PT.imp {e:Expr}{t t':TT}(h:PT X e t)(hi:∀ σ H Q,t' σ H Q->t σ H Q):PT X e t':=λfI s σ H Q I q=>h fI s σ H Q I (hi σ H Q q)
def PG.imp {e:Expr}{t t':TG}(h:PG X e t)(hi:∀ v σ H Q,t' v σ H Q->t v σ H Q):PG X e t':=λfI s σ H v u Q I r q=>h fI s σ H v u Q I r (hi v σ H Q q)
def MF.imp {e:ao Expr}{t t':zB}(h:MF X e t)(hi:∀ v σ H Q,t' v σ H Q->t v σ H Q):MF X e t':=λfI s σ H v u Q I r q=>h fI s σ H v u Q I r (hi v σ H Q q)
def PS.imp {e:Stmt}{t t':TS}(h:PS X e t)(hi:∀ D σ H,t' D σ H->t D σ H):PS X e t':=λfI s σ H D I q=>h fI s σ H D I (hi D σ H q)
def jB.imp {f:ak}{r r':ao V->Hp->VK->Prop}(h:jB X f r)(hi:∀ vs H Q,r' vs H Q->r vs H Q):jB X f r':=λfI s σ H vs us Q I rv q=>h fI s σ H vs us Q I rv (hi vs H Q q)
def MG.imp {id:String}{r r':V->ao V->Hp->VK->Prop}(h:MG X id r)(hi:∀ x vs H Q,r' x vs H Q->r x vs H Q):MG X id r':=λfI s σ H x vs v us Q I r1 rv q=>h fI s σ H x vs v us Q I r1 rv (hi x vs H Q q)
def W3 (i:Nat):TE:=λσ H Q=>match σ[i]? with|some (some v)=>Q v H|_=>False
def lT (i:Nat){x:Str}{pos:Pos}(hN:X.N[i]?=some x:=by rfl)(hv:W9 X.env.scope x:=by first | exact Or.inl rfl | exact Or.inr (Or.inl rfl) | exact Or.inr (Or.inr rfl))(hd:(x==("__debug__" : Str))=false:=by decide)
 (Ew:(x==("__classdict__" : Str))=false:=by decide):PE X (.Name x pos) (W3 i):=(Kl (i:=i) hN hv hd Ew).imp λσ H Q q=>by
 unfold W3 at q
 split at q
 .rename_i v e;exact⟨v,e,q⟩
 .exact q.elim
def Ka:R2:=λx y H Q=>match x,y with
 |.int i,.int j=>Q (.int (i+j)) H
 |.str i,.str j=>i.length+j.length<=sizeLine/\Q (.str (i++j)) H
 |.ref l,.ref b=>∃ xs zs,H l=some (.lst xs)/\H b=some (.lst zs)/\xs.length+zs.length<=sizeLine/\∀ p,H p=none->Q (.ref p) (upd H p (.lst (xs++zs)))
 |_,_=>False
def MA:kU X (binaryOp .Add) Ka:=(Sa.or (D4.or R9)).imp λx y H Q q=>by
 unfold Ka at q
 split at q
 .exact .inl ⟨_,_,rfl,rfl,q⟩
 .exact .inr (.inl ⟨_,_,rfl,rfl,q.1,q.2⟩)
 .obtain⟨xs,zs,a,b,c,d⟩:=q;exact .inr (.inr ⟨_,_,xs,zs,rfl,rfl,a,b,c,d⟩)
 .exact q.elim
def RK (C:Int->Int->Prop)(g:Int->Int->V):R2:=λx y H Q=>match x,y with
 |.int i,.int j=>C i j/\Q (g i j) H
 |_,_=>False
def Ac (g:Int->Int->V):R2:=λx y H Q=>match x,y with
 |.int i,.int j=>Q (g i j) H
 |_,_=>False
def kU.i2 {f:ak->ak->Sem ak}{C:Int->Int->Prop}{g:Int->Int->V}(h:kU X f (rI C g)):kU X f (RK C g):=h.imp λx y H Q q=>by
 unfold RK at q
 split at q
 .exact⟨_,_,rfl,rfl,q.1,q.2⟩
 .exact q.elim
def kU.V7 {f:ak->ak->Sem ak}{g:Int->Int->V}(h:kU X f (NI g)):kU X f (Ac g):=h.imp λx y H Q q=>by
 unfold Ac at q
 split at q
 .exact⟨_,_,rfl,rfl,q⟩
 .exact q.elim
def YI:kU X (binaryOp .Sub) (Ac λi j=>.int (i - j)):=R5.V7
def J4:R2:=λx y H Q=>match x,y with
 |.int i,.int j=>IW i j/\Q (.int (i*j)) H
 |.str z,.int n=>∃ c:Nat,z=⟨#[c]⟩ /\ -1000000<=n/\n<=1000000/\Q (.str ⟨(List.replicate n.toNat c).toArray⟩) H
 |_,_=>False
def mulC:kU X (binaryOp .Mult) J4:=(R7.or D3).imp λx y H Q q=>by
 unfold J4 at q
 split at q
 .exact .inl ⟨_,_,rfl,rfl,q.1,q.2⟩
 .obtain⟨c,rfl,a,b,d⟩:=q;exact .inr ⟨c,_,rfl,rfl,a,b,d⟩
 .exact q.elim
def divC:kU X (binaryOp .FloorDiv) (RK Xx λi j=>.int (i / j)):=N4.i2
def Ap:kU X (binaryOp .Mod) (RK (λ_ j=>0<j) λi j=>.int (i%j)):=R8.i2
def powC:kU X (binaryOp .Pow) (RK Xw λi j=>.int (i ^ j.toNat)):=R6.i2
def XM:kU X (compareOp .Lt) (Ac λi j=>.bl (decide (i<j))):=VB.V7
def leC:kU X (compareOp .LtE) (Ac λi j=>.bl (decide (i<=j))):=VC.V7
def ZY:kU X (compareOp .Gt) (Ac λi j=>.bl (decide (j<i))):=VD.V7
def geC:kU X (compareOp .GtE) (Ac λi j=>.bl (decide (j<=i))):=VE.V7
def J9 (neg:Bool):R2:=λx y H Q=>match x,y with
 |.int i,.int j=>Q (.bl (neg != decide (i=j))) H
 |.str i,.str j=>Q (.bl (neg != decide (i=j))) H
 |.bl i,.bl j=>Q (.bl (neg != decide (i=j))) H
 |_,_=>False
def uI {p q:Prop}[Decidable p][Decidable q](h:p↔q):decide p=decide q:=by
 by_cases hp:p
 .rw[aI hp,aI (h.mp hp)]
 .rw[aV hp,aV λz=>hp (h.mpr z)]
def dI {i j:Int}:decide (V.int i=V.int j)=decide (i=j):=uI (by simp)
def dS {i j:Str}:decide (V.str i=V.str j)=decide (i=j):=uI (by simp)
def dB {i j:Bool}:decide (V.bl i=V.bl j)=decide (i=j):=uI (by simp)
def X5:kU X (compareOp .Eq) (J9 false):=Qv.imp λx y H Q q=>by
 unfold J9 at q
 split at q
 .exact⟨rfl,by rw[dI];simpa using q⟩
 .exact⟨rfl,by rw[dS];simpa using q⟩
 .exact⟨rfl,by rw[dB];simpa using q⟩
 .exact q.elim
def Cq:kU X (compareOp .NotEq) (J9 true):=VA.imp λx y H Q q=>by
 unfold J9 at q
 split at q
 .exact⟨rfl,by rw[dI];simpa using q⟩
 .exact⟨rfl,by rw[dS];simpa using q⟩
 .exact⟨rfl,by rw[dB];simpa using q⟩
 .exact q.elim
def cT (t:TE):TT:=λσ H Q=>t σ H λx H1=>match x with|.bl c=>Q c H1|_=>False
end
def bK (Q:Bool->Hp->Prop):VK:=λx H1=>match x with|.bl c=>Q c H1|_=>False
section
variable {X:Cx}{a b e:Expr}{t ta tb:TE}{pos:Pos}
def cB (t:TE):TT:=λσ H Q=>t σ H (bK Q)
def nM {op:CmpOp}{r:R2}(ho:kU X (compareOp op) r)(ha:PE X a ta)(hb:PE X b tb)(hm:behindInMarks op b=false):PT X (.Compare a [op] [b] pos) (cB (U4 r ta tb)):=by
 intro fI s σ H Q I h
 have hE:=sT (pos:=pos) ho ha hb hm
 refine wpAny_isTrue_Compare1 ?_ hm
 refine Pm ha hb I h λv u s2 x y H2 I2 rx ry q=>?_
 refine iJ (ho _ s2 σ H2 x y v u _ I2 rx ry q) λc s3 qX=>?_
 obtain⟨z,H3,I3,r3,q3⟩:=qX
 cases z with
 |bl d=>cases r3;exact cF ⟨H3,I3,q3⟩
 |_=>exact(show False from q3).elim
def sP (h:PE X e t)(he:∀ whole,isTrue e X.env whole=(do let v <- whole;standAt e.pos;holding [v] (truthy v)):=by intro _;rfl):PT X e (cB t):=by
 intro fI s σ H Q I hw
 refine isTrue_plain (iJ (h fI s σ H _ I hw) λv s1 qW=>?_) (he _)
 obtain⟨x,H1,I1,r1,q1⟩:=qW
 cases x with
 |bl d=>cases r1;exact cF ⟨H1,I1,q1⟩
 |_=>exact(show False from q1).elim
def cAnd (ta tb:TE):TE:=λσ H Q=>ta σ H λx H1=>match x with|.bl c=>if c=true then tb σ H1 Q else Q (.bl false) H1|_=>False
def cNot (ta:TE):TE:=λσ H Q=>ta σ H λx H1=>match x with|.bl c=>Q (.bl (!c)) H1|_=>False
def vH {rest:ao Expr}(ha:PE X a ta)(hb:PE X (.BoolOp .And (b::rest) pos) tb):PE X (.BoolOp .And (a::b::rest) pos) (cAnd ta tb):=by
 intro fI s σ H Q I h
 refine BoolOp_and (iJ (ha fI s σ H _ I h) λv s1 rY=>?_)
 obtain⟨x,H1,I1,r1,q1⟩:=rY
 cases x with
 | bl c =>
  cases r1
  refine cF ?_
  cases c with
  |true=>exact hb fI s1 σ H1 Q I1 q1
  |false=>exact⟨.bl false,H1,I1,rfl,q1⟩
 |_=>exact(show False from q1).elim
def NX (ha:PE X a ta):PE X (.UnaryOp .Not a pos) (cNot ta):=by
 intro fI s σ H Q I h
 refine UnaryOp_ (iJ (ha fI s σ H _ I h) λv s1 qV=>?_)
 obtain⟨x,H1,I1,r1,q1⟩:=qV
 cases x with
 |bl c=>cases r1;exact not_of (cF ⟨.bl (!c),H1,I1,rfl,q1⟩)
 |_=>exact(show False from q1).elim
def opt {α:Type}(o:aq α)(k:α->Prop):Prop:=match o with|some v=>k v|none=>False
def hX {α:Type}{o:aq α}{k:α->Prop}(h:opt o k):∃ v,o=some v/\k v:=by
 cases o with
 |none=>exact h.elim
 |some v=>exact⟨v,rfl,h⟩
def RJ:R2:=λx y H Q=>match x,y with
 |.ref p,.int i=>∃ xs,(H p=some (.lst xs)\/H p=some (.tup xs))/\opt (lO xs i) λv=>Q v H
 |.str z,.int i=>z.length<=sizeLine/\opt (lO z.cps.toList i) λc=>Q (.str ⟨#[c]⟩) H
 |_,_=>False
def Hh.imp {r r':R2}(h:Hh X r)(hi:∀ x y H Q,r' x y H Q->r x y H Q):Hh X r':=λvalue slice fI s σ H x y v u Q I r1 r2 q=>h value slice fI s σ H x y v u Q I r1 r2 (hi x y H Q q)
def Ld:Hh X RJ:=SK.imp λx y H Q q=>by
 unfold RJ at q
 split at q
 .obtain⟨xs,h,q⟩:=q
  obtain⟨v,e,q⟩:=hX q
  rcases h with h|h
  .exact .inl ⟨_,xs,_,v,rfl,rfl,pF.of h,e,q⟩
  .exact .inr (.inl ⟨_,xs,_,v,rfl,rfl,EU.of h,e,q⟩)
 .obtain⟨hz,q⟩:=q
  obtain⟨v,e,q⟩:=hX q
  exact .inr (.inr ⟨_,_,v,rfl,rfl,hz,e,q⟩)
 .exact q.elim
def Vl:V->aq Int->aq Int->Hp->VK->Prop:=λx lo hi H Q=>match x with
 |.ref p=>∃ xs,H p=some (.lst xs)/\∀ l,H l=none->Q (.ref l) (upd H l (.lst (EL xs lo hi)))
 |.str z=>z.length<=sizeLine/\Q (.str ⟨(lp z.cps.toList lo hi).toArray⟩) H
 |_=>False
def slC:Yc X Vl:=by
 intro fI s σ H x v vl vu lo hi sl Q I rx hs pl pu h
 unfold Vl at h
 split at h
 .obtain⟨xs,h1,h2⟩:=h
  exact Nz fI s σ H _ v vl vu lo hi sl Q I rx hs pl pu ⟨_,xs,rfl,pF.of h1,h2⟩
 .exact RB fI s σ H _ v vl vu lo hi sl Q I rx hs pl pu ⟨_,rfl,h.1,h.2⟩
 .cases h
def cNo:TO:=λ_ H Q=>Q none H
def W4 (t:TE):TO:=λσ H Q=>t σ H λx H1=>match x with|.int i=>Q (some i) H1|_=>False
def RT:PO X none cNo:=NS
def Kh {te:TE}(h:PE X e te):PO X (some e) (W4 te):=by
 intro fI s σ H Q I hw
 rw[evalPart_some]
 refine iJ (h fI s σ H _ I hw) λu s1 tF=>?_
 obtain⟨x,H1,I1,r1,q1⟩:=tF
 cases x with
 |int i=>obtain⟨t,rfl⟩:=r1;exact⟨some i,H1,I1,.int i t,q1⟩
 |_=>exact(show False from q1).elim
def J7:ao V->Hp->VK->Prop:=λvs H Q=>match vs with
 |[.ref p]=>∃ xs,(H p=some (.lst xs)\/H p=some (.tup xs))/\Q (.int xs.length) H
 |[.str z]=>z.length<=sizeLine/\Q (.int z.length) H
 |_=>False
def Ot:jB X (.builtin "len") J7:=(A7.or A6).imp λvs H Q q=>by
 unfold J7 at q
 split at q
 .obtain⟨xs,h,q⟩:=q
  rcases h with h|h
  .exact .inl ⟨_,xs,rfl,.inl (pF.of h),q⟩
  .exact .inl ⟨_,xs,rfl,.inr (EU.of h),q⟩
 .exact .inr ⟨_,rfl,q.1,q.2⟩
 .exact q.elim
def J2:ET:=λo i v H Q=>match o,i with
 |.ref p,.int k=>∃ xs,H p=some (.lst xs)/\opt (CB xs.length k) λj=>Q (upd H p (.lst (xs.set j v)))
 |_,_=>False
def setC:PB X J2:=by
 intro fI s σ H o i v ov iv u Q I ro ri rv h
 unfold J2 at h
 split at h
 .obtain⟨xs,hx,q⟩:=h
  obtain⟨j,e,q⟩:=hX q
  exact set_list fI s σ H _ _ v ov iv u Q I ro ri rv ⟨_,xs,_,j,rfl,rfl,hx,e,q⟩
 .cases h
def Qs:V->V->Hp->VK->Prop:=λo i H Q=>match o,i with
 |.ref p,.int k=>∃ xs,H p=some (.lst xs)/\0<=k/\opt (xs[k.toNat]?) λv=>Q v H
 |_,_=>False
def Z1:Xf X Qs:=by
 intro fI s σ H o i ov iv Q I ro ri h
 unfold Qs at h
 split at h
 .obtain⟨xs,hx,h0,q⟩:=h
  obtain⟨v,e,q⟩:=hX q
  cases ro
  obtain⟨t,rfl⟩:=ri
  obtain⟨z,gp,n,r,hl,ho⟩:=I.mH hx
  obtain⟨w,ew,By⟩:=r.get e
  have mP:=(kM e).1
  have hn:=qi
  exact wpAny_getItem_list (x:=w) (⟨_,ho,rfl,n,rfl⟩:s.heap.IsList _ gp.toArray) h0 (by lia) (by simpa using ew) ⟨v,H,I,By,q⟩
 .cases h
def V2 (f:Int->Int->Int):Py:=λx y H Q=>match x,y with|.int i,.int j=>Q (.int (f i j)) H|_,_=>False
def tx:Uk X .Add (V2 λi j=>i+j):=by
 intro fI s σ H x y v u Q I r1 r2 h
 unfold V2 at h
 split at h
 .exact SO fI s σ H _ _ v u Q I r1 r2 ⟨_,_,rfl,rfl,h⟩
 .cases h
def Pj (n:Nat)(t:zB):TG:=λv σ H Q=>match v with|.ref a=>∃ xs,H a=some (.tup xs)/\xs.length=n/\t xs σ H Q|_=>False
def Ha (t:TG)(u:zB):zB:=λvs σ H Q=>match vs with|v::r=>t v σ H λji H'=>u r ji H' Q|[]=>False
def Pk:zB:=λvs σ H Q=>match vs with|[]=>Q σ H|_=>False
def g9 {es:ao Expr}{k:Nat}{t:zB}{n:Nat}(hc:X.gY=true)(h:MF X es t)(hn:(assignEach es X.env).length=n:=by rfl)(Im:(assignEach es X.env).findIdx? (·.1)=none:=by rfl):PG X (.Tuple es k pos) (Pj n t) :=
 (RW (pos:=pos) (k:=k) hc h hn Im).imp λv σ H Q q=>by
  unfold Pj at q
  split at q
  .obtain⟨xs,a,b,c⟩:=q;exact⟨_,xs,rfl,EU.of a,b,c⟩
  .exact q.elim
def fQ {es:ao Expr}{t:TG}{u:zB}(h1:PG X e t)(h2:MF X es u)(hs:(assignEach (e::es) X.env).map (·.2)=assign e X.env::(assignEach es X.env).map (·.2):=by rfl):MF X (e::es) (Ha t u) :=
 (Kk h1 h2 hs).imp λv σ H Q q=>by
  unfold Ha at q
  split at q
  .exact⟨_,_,rfl,q⟩
  .exact q.elim
def gI:MF X [] Pk:=NW.imp λv σ H Q q=>by
 unfold Pk at q
 split at q
 .exact⟨rfl,q⟩
 .exact q.elim
def DY:V->ao V->Hp->VK->Prop:=λx vs H Q=>match x,vs with
 |.str z,[.ref l]=>z.cps=#[]/\∃ ys:ao Str,H l=some (.lst (ys.map V.str))/\(ys.map (·.length)).sum<=16777216/\Q (.str ⟨(ys.map (·.cps.toList)).flatten.toArray⟩) H
 |_,_=>False
def Lb:MG X "str.join" DY:=Oe.imp λx vs H Q q=>by
 unfold DY at q
 split at q
 .obtain⟨a,ys,b,c,d⟩:=q;exact⟨_,_,ys,rfl,a,rfl,pF.of b,c,d⟩
 .exact q.elim
def Qr (K:aa):ao V->Hp->VK->Prop:=λvs H Q=>match vs with
 |[x,.ty T]=>∃ t b,kG K H x t/\W.kitOne K t (.type T)=some b/\Q (.bl b) H
 |_=>False
def rX:jB X (.builtin "isinstance") (Qr X.K):=Ml.imp λvs H Q q=>by
 unfold Qr at q
 split at q
 .obtain⟨t,b,h1,h2,h3⟩:=q;exact⟨_,_,t,b,rfl,h1,h2,h3⟩
 .exact q.elim
def DW (K:aa):ao V->Hp->VK->Prop:=λvs H Q=>match vs with
 |[.ref p]=>∃ ys,pF K H p ys/\∀ l,H l=none->Q (.ref l) (upd H l (.lst ys))
 |_=>False
def Cv:jB X (.type "list") (DW X.K):=A5.imp λvs H Q q=>by
 unfold DW at q
 split at q
 .obtain⟨ys,h1,h2⟩:=q;exact⟨_,ys,rfl,.inl h1,h2⟩
 .exact q.elim
def Qp:ao V->Hp->VK->Prop:=λvs H Q=>∃ i j,vs=[.int i,.int j]/\Q (.int (max i j)) H
def Ol (hc:X.gY=true):jB X (.builtin "max") Qp:=(IH hc).imp λvs H Q q=>by
 obtain⟨i,j,rfl,q⟩:=q
 refine⟨_,_,rfl,?_⟩
 have e:(if j>i then j else i)=max i j:=by split<;>lia
 rw[e];exact q
end
def kL {c A B:Prop}[Decidable c](h1:c->A)(h2:¬ c->B):if decide c=true then A else B:=by
 by_cases h:c
 .rw[aB (aI h)];exact h1 h
 .rw[aC (by simp[h])];exact h2 h
def Le {c A B:Prop}[Decidable c](h1:¬ c->A)(h2:c->B):if(true != decide c)=true then A else B:=by
 by_cases h:c
 .rw[aC (by simp[h])];exact h2 h
 .rw[aB (by simp[h])];exact h1 h
def pI {c A B:Prop}[Decidable c](h1:c->A)(h2:¬ c->B):if(false != decide c)=true then A else B:=by
 by_cases h:c
 .rw[aB (by simp[h])];exact h1 h
 .rw[aC (by simp[h])];exact h2 h
def OE {b:Bool}{A B:Prop}(h1:b=true->A)(h2:b=false->B):if b=true then A else B:=by
 cases b with
 |true=>exact h1 rfl
 |false=>exact h2 rfl
def CNx (n i:Nat)(Pv:Nat->ao V->Hp->Prop)(ys:ao V):VK:=λy H4=>ys.length<sizeLine/\∃ m',m'<n - i/\(m'=n - (i+1)/\i+1<=n/\Pv (i+1) (ys++[y]) H4)
def cnx {n i:Nat}{Pv:Nat->ao V->Hp->Prop}{ys:ao V}{y:V}{H:Hp}(hi:i<n)(hl:ys.length<sizeLine)(p:Pv (i+1) (ys++[y]) H):CNx n i Pv ys y H:=⟨hl,n - (i+1),by lia,rfl,hi,p⟩
def CSk (n i:Nat)(Pv:Nat->ao V->Hp->Prop)(ys:ao V)(H3:Hp):Prop:=∃ m',m'<n - i/\(m'=n - (i+1)/\i+1<=n/\Pv (i+1) ys H3)
end L2
namespace L2
open PySem PySem.Spec PyProof.Rows
structure nB (P:ae)(w:af)(K:aa)(mg:Str->Option ak)(fJ:Heap)(x:Str)(k:Nat)(ps:List Str)(sp:Sp):Prop where
 ex:∃ f fd,gF P w K mg fJ kW k f fd ps sp/\mg x=some (.ref f)/\W.keepIn K (.ref f)=true/\Binds K fd ps []
def w5 {X:Cx}{x:Str}{p pos:Pos}{e:Expr}{es:ao Expr}{t:TA}{k:Nat}{ps:ao Str}{sp:Sp}(C:nB X.prog X.w X.K X.mg X.fJ x k ps sp)(hr:jT k X.A)(hg:Gl X x)(ha:PA X (e::es) t)
 (xo:(x==("__debug__" : Str))=false:=by decide) (he:starEach (e::es) X.env=(false,eval e X.env)::starEach es X.env:=by rfl) (pw:(backTo pos (starEach es X.env)).any (·.1)=false:=by rfl):
 PE X (.Call (.Name x p) (e::es) [] pos) (Qd sp [] E0 t):=by
 obtain⟨f,fd,F,hm,hk,hb⟩:=C.ex
 exact Af F hr hg hm hk hb .nil Ku ha xo he pw
def YE (t u:TS):TS:=λD σ H=>∃ M:St->Hp->Prop,t { D with nx:=M} σ H/\∀ ji H',M ji H'->u D ji H'
def NM {X:Cx}{st:Stmt}{rest:ao Stmt}{t u:TS}(h1:PS X st t)(h2:Bg X rest u):Bg X (st::rest) (YE t u):=by
 intro fI s σ H D I h
 obtain⟨M,a,b⟩:=h
 refine wpAny_execs_cons (iJ (h1 fI s σ H { D with nx:=M} I a) λf s1 q=>?_)
 cases f with
 | next =>
  obtain⟨ji,H',I',q⟩:=q
  exact h2 fI s1 ji H' D I' (b ji H' q)
 |ret v=>exact q
 |brk=>exact q
 |cont=>exact q
def fS {α:Type}{o:aq α}{k:α->Prop}{v:α}(e:o=some v)(h:k v):opt o k:=by rw[e];exact h
def OB (b:ai)(H H':Hp):Prop:=∀ c,c≠b->H' c=H c
def OB.refl {b:ai}{H:Hp}:OB b H H:=λ_ _=>rfl
def OB.upd {b:ai}{H H':Hp}{o:HO}(h:OB b H H'):OB b H (L2.upd H' b o):=λc n=>by rw[gB n];exact h c n
def pM:(0:Int)<2147483647:=by decide
def pN:(0:Int)<1000000007:=by decide
def OX (l:ao Nat):Prop:=∀ c∈l,c=111\/c=120
def OX.of {l:ao Nat}(h:l.all (λc=>c==111||c==120)=true):OX l:=λc hc=>by
 have:=List.all_eq_true.mp h c hc
 simpa using this
def OX.app {a b:ao Nat}(ha:OX a)(hb:OX b):OX (a++b):=λc h=>(List.mem_append.mp h).elim (ha c) (hb c)
def OX.one {c:Nat}(h:c=111\/c=120):OX [c]:=λd hd=>by rw[List.mem_singleton.mp hd];exact h
def OX.rep {c n:Nat}(h:c=111\/c=120):OX (List.replicate n c):=λd hd=>by rw[(List.mem_replicate.mp hd).2];exact h
def Bb {l:ao Nat}{v:Int}(h0:0<=v)(h1:v<l.length):∃ c,lO l v=some c/\c∈l:=by
 have mP:v.toNat<l.length:=by lia
 refine⟨l[v.toNat],?_,bI _⟩
 have q:=jQ (xs:=l) (j:=v.toNat) (v:=l[v.toNat]) (jk mP)
 rwa [cI h0]at q
def pE (a b:ao Nat):((⟨a.toArray⟩:Str)++(⟨b.toArray⟩:Str))=⟨(a++b).toArray⟩:=by
 show(⟨a.toArray++b.toArray⟩:Str)=_
 congr 1
 simp
def HX (a:ao Nat):(⟨a.toArray⟩:Str).length=a.length:=by simp[Str.length]
def xA:∀ l:ao Nat,((l.map λc=>(⟨#[c]⟩:Str)).map (·.cps.toList)).flatten=l
 |[]=>rfl
 |c::r=>by rw[aw,aw,List.flatten_cons,xA r];rfl
def yJ:∀ l:ao Nat,((l.map λc=>(⟨#[c]⟩:Str)).map (·.length)).sum=l.length
 |[]=>rfl
 | c::r=>by
  rw[aw,aw,cw,yJ r]
  show 1+r.length=r.length+1
  lia
def Qi (K:aa):Sp:=λvs H Q _=>∃(a:ai) (ns:ao Int),vs=[.ref a]/\pF K H a (ns.map V.int)/\ns.length<=63/\∀ H',Q (.bl true) H'
def VT (z:Str):z.length=z.cps.toList.length:=by simp[Str.length]
def UR (b:Bool):(false != b)=b:=by cases b<;>rfl
def Uw (b:Bool):(true != b)=!b:=by cases b<;>rfl
def jv (K:aa)(T:String):W.kitOne K (.type T) (.type T)=some true:=by unfold W.kitOne;simp
def k9 (c:Bool)(h:Heap)(it a:ai)(k:Nat):Prop:=if c=true then h.IsTupleIter it a k else h.IsListIter it a k
def lq (c:Bool)(h:Heap)(a:ai)(gp:Array ak):Prop:=if c=true then h.IsTuple a gp else h.IsList a gp
def k9.extBut {c:Bool}{h h':Heap}{it a b:ai}{k:Nat}(x:k9 c h it a k)(hs:Heap.ExtBut b h h')(Gp:it≠b):k9 c h' it a k:=by
 cases c with
 |true=>exact Heap.IsTupleIter.extBut x hs Gp
 |false=>exact Heap.IsListIter.extBut x hs Gp
def lq.extBut {c:Bool}{h h':Heap}{a b:ai}{gp:Array ak}(x:lq c h a gp)(hs:Heap.ExtBut b h h')(Gp:a≠b):lq c h' a gp:=by
 cases c with
 |true=>exact Heap.IsTuple.extBut x hs Gp
 |false=>exact Heap.IsList.extBut x hs Gp
def lq.lt {c:Bool}{h:Heap}{a:ai}{gp:Array ak}(x:lq c h a gp):a≠h.objs.size:=by
 cases c with
 |true=>obtain⟨o,e,_⟩:=x;exact aD (jf e)
 |false=>obtain⟨o,e,_⟩:=x;exact aD (jf e)
def k9.ex {c:Bool}{h:Heap}{it a:ai}{k:Nat}(x:k9 c h it a k):∃ o,h.get? it=some o:=by
 cases c with
 |true=>obtain⟨o,e,_⟩:=x;exact⟨o,e⟩
 |false=>obtain⟨o,e,_⟩:=x;exact⟨o,e⟩
def k9.data {c:Bool}{h:Heap}{it a:ai}{k:Nat}(x:k9 c h it a k):∃ o,h.get? it=some o/\∀ v,o.data≠.cell v:=by
 cases c with
 |true=>obtain⟨o,e,_,d⟩:=x;exact⟨o,e,λv z=>by rw[d]at z;cases z⟩
 |false=>obtain⟨o,e,_,d⟩:=x;exact⟨o,e,λv z=>by rw[d]at z;cases z⟩
def k9.at {c:Bool}{h h':Heap}{it a:ai}{k:Nat}(x:k9 c h it a k)(e:∀ o,h.get? it=some o->h'.get? it=some o):k9 c h' it a k:=by
 cases c with
 |true=>obtain⟨o,q,r⟩:=x;exact⟨o,e o q,r⟩
 |false=>obtain⟨o,q,r⟩:=x;exact⟨o,e o q,r⟩
section
variable {prog:ae}{w:af}{A:Around}{E:ak->ah->Prop}{s:ah}
def Ea {it t:ai}{i:Nat}{items}{x:ak}{Q:ak->ah->Prop}(hit:s.heap.IsTupleIter it t i)(ht:s.heap.IsTuple t items)(hx:items[i]?=some x)
 (hQ:∀ h',h'.IsTupleIter it t (i+1)->Heap.SameBut it s.heap h'->Q x {s with heap:=h'}):wpAny (model prog w) A (Builtin.SmallTypes.nextOf (.ref it)) Q E s:=by
 obtain⟨o,ho,hc,hd⟩:=id hit
 obtain⟨ol,QF,_,nl,ZH⟩:=ht
 unfold Builtin.SmallTypes.nextOf
 refine fY (bE (name:=Str.ofString "__next__") hit.typeIs c4 (cj c4 hit.typeIs F.entry_tuple_iterator_next ?_ (F.args_tuple_iterator_next_1 _)))
 show wpAny _ _ (field (.ref it) 0>>=_) _ _ s
 refine fY (aK ho hd (x:=.ref t) rfl ?_)
 show wpAny _ _ (if(Value.ref t==Value.none)=true then _ else _) _ _ s
 rw[aC (show ¬ ((Value.ref t==Value.none)=true)from aJ)]
 show wpAny _ _ (field (.ref it) 1>>=_) _ _ s
 refine fY (aK ho hd (x:=.int i 0) rfl ?_)
 show wpAny _ _ (seqItems? (.ref t)>>=_) _ _ s
 refine fY (bg QF ZH ?_)
 simp only[xq,hx]
 refine fY (dm ho hd (by simp) (au ⟨x,rfl,au (hQ _ ?_ (eh ..))⟩))
 exact⟨_,bG _ ho (fA (eM hd _)),(Obj.cls_mapFields ..).trans hc,by rw[eM hd];simp[rawInt]⟩
def HR {it t:ai}{i:Nat}{items}{Q:ak->ah->Prop}(hh:A.handled=none)(hit:s.heap.IsTupleIter it t i)(ht:s.heap.IsTuple t items)(hx:items[i]?=none)
 (hE:∀ h' e,Heap.ExtBut it s.heap h'->(∃ o,h'.get? e=some o/\o.cls=.type "StopIteration")->E (.ref e) {s with heap:=h'}):wpAny (model prog w) A (Builtin.SmallTypes.nextOf (.ref it)) Q E s:=by
 obtain⟨o,ho,hc,hd⟩:=id hit
 obtain⟨ol,QF,_,nl,ZH⟩:=ht
 unfold Builtin.SmallTypes.nextOf
 refine fY (bE (name:=Str.ofString "__next__") hit.typeIs c4 (cj c4 hit.typeIs F.entry_tuple_iterator_next ?_ (F.args_tuple_iterator_next_1 _)))
 show wpAny _ _ (field (.ref it) 0>>=_) _ _ s
 refine fY (aK ho hd (x:=.ref t) rfl ?_)
 show wpAny _ _ (if(Value.ref t==Value.none)=true then _ else _) _ _ s
 rw[aC (show ¬ ((Value.ref t==Value.none)=true)from aJ)]
 show wpAny _ _ (field (.ref it) 1>>=_) _ _ s
 refine fY (aK ho hd (x:=.int i 0) rfl ?_)
 show wpAny _ _ (seqItems? (.ref t)>>=_) _ _ s
 refine fY (bg QF ZH ?_)
 simp only[xq,hx]
 refine fY (dJ (fY (dm ho hd (by simp) ?_)))
 show wpAny _ _ (newExc (.type "StopIteration") []>>=_) _ _ _
 refine fY ?_
 simp only[newExc,newTuple]
 refine fY (dc ?_ (by size_fits))
 refine fY (m:=firstArgMember _ _) (wpAny_of_eq (a:=Value.none) (by first|rfl|(simp only[firstArgMember];rfl)) ?_)
 refine dc ?_ (by size_fits)
 simp only[raiseNew]
 refine fY (wpAny_handled ?_)
 first|rw[show A.in1.handled=none from hh]|rw[hh]
 refine fY (au (wpAny_throw ?_))
 exact hE _ _ (((eh ..).extBut.push _).push _) ⟨_,aG _ rfl,rfl⟩
def iW {c:Bool}{it l:ai}{i:Nat}{items:Array ak}{x:ak}{Q:ak->ah->Prop}(hit:k9 c s.heap it l i)(hl:lq c s.heap l items)(hx:items[i]?=some x)
 (hQ:∀ h',k9 c h' it l (i+1)->Heap.SameBut it s.heap h'->Q x {s with heap:=h'}):wpAny (model prog w) A (Builtin.SmallTypes.nextOf (.ref it)) Q E s:=by
 cases c with
 |true=>exact Ea hit hl hx hQ
 |false=>exact wpAny_nextOf_list_item hit hl hx hQ
def lh {c:Bool}{it l:ai}{i:Nat}{items:Array ak}{Q:ak->ah->Prop}(hh:A.handled=none)(hit:k9 c s.heap it l i)(hl:lq c s.heap l items)(hx:items[i]?=none)
 (hE:∀ h' e,Heap.ExtBut it s.heap h'->(∃ o,h'.get? e=some o/\o.cls=.type "StopIteration")->E (.ref e) {s with heap:=h'}):wpAny (model prog w) A (Builtin.SmallTypes.nextOf (.ref it)) Q E s:=by
 cases c with
 |true=>exact HR hh hit hl hx hE
 |false=>exact wpAny_nextOf_list_end hh hit hl hx hE
structure ZS (c:Bool)(z TI TO i1 i2 l1 l2:ai)(f a b:ak)(k1 k2:Nat)(xs ys:Array ak)(h:Heap):Prop where
 z:IsZip h z TI TO f
 ti:IsPair h TI (.ref i1) (.ref i2)
 to:IsPair h TO a b
 n1:k9 c h i1 l1 k1
 n2:k9 c h i2 l2 k2
 q1:lq c h l1 xs
 q2:lq c h l2 ys
def ZK (z TO i1 i2:ai)(h h':Heap):Prop:=∀ d o,d≠z->d≠TO->d≠i1->d≠i2->h.get? d=some o->h'.get? d=some o
def ZK.trans {z TO i1 i2:ai}{h h1 h2:Heap}(a:ZK z TO i1 i2 h h1)(b:ZK z TO i1 i2 h1 h2):ZK z TO i1 i2 h h2:=λd o q1 q2 q3 q4 e=>b d o q1 q2 q3 q4 (a d o q1 q2 q3 q4 e)
section
variable {c:Bool}{z TI TO i1 i2 l1 l2:ai}{f f' a b x y:ak}{k1 k2:Nat}{xs ys:Array ak}{h h':Heap}
def ZS.mz (S:ZS c z TI TO i1 i2 l1 l2 f a b k1 k2 xs ys h)(D:ZipApart z TI TO i1 i2 l1 l2)(e:IsZip h' z TI TO f')(k:Heap.ExtBut z h h'):ZS c z TI TO i1 i2 l1 l2 f' a b k1 k2 xs ys h' :=
 ⟨e,k _ _ D.TIz S.ti,k _ _ D.TOz S.to,S.n1.extBut k D.i1z,S.n2.extBut k D.i2z,S.q1.extBut k D.l1z,S.q2.extBut k D.l2z⟩
def ZS.m1 {j:Nat}(S:ZS c z TI TO i1 i2 l1 l2 f a b k1 k2 xs ys h)(D:ZipApart z TI TO i1 i2 l1 l2)(e:k9 c h' i1 l1 j)(k:Heap.ExtBut i1 h h'):ZS c z TI TO i1 i2 l1 l2 f a b j k2 xs ys h' :=
 ⟨k _ _ D.i1z.symm S.z,k _ _ D.TIi1 S.ti,k _ _ D.TOi1 S.to,e,S.n2.extBut k D.i12.symm,S.q1.extBut k D.l1i1,S.q2.extBut k D.l2i1⟩
def ZS.m2 {j:Nat}(S:ZS c z TI TO i1 i2 l1 l2 f a b k1 k2 xs ys h)(D:ZipApart z TI TO i1 i2 l1 l2)(e:k9 c h' i2 l2 j)(k:Heap.ExtBut i2 h h'):ZS c z TI TO i1 i2 l1 l2 f a b k1 j xs ys h' :=
 ⟨k _ _ D.i2z.symm S.z,k _ _ D.TIi2 S.ti,k _ _ D.TOi2 S.to,S.n1.extBut k D.i12,e,S.q1.extBut k D.l1i2,S.q2.extBut k D.l2i2⟩
def ZS.mo (S:ZS c z TI TO i1 i2 l1 l2 f a b k1 k2 xs ys h)(D:ZipApart z TI TO i1 i2 l1 l2)(e:IsPair h' TO x y)(k:Heap.ExtBut TO h h'):ZS c z TI TO i1 i2 l1 l2 f x y k1 k2 xs ys h' :=
 ⟨k _ _ D.TOz.symm S.z,k _ _ D.TITO S.ti,e,S.n1.extBut k D.TOi1.symm,S.n2.extBut k D.TOi2.symm,S.q1.extBut k D.l1TO,S.q2.extBut k D.l2TO⟩
def ZS.push (S:ZS c z TI TO i1 i2 l1 l2 f a b k1 k2 xs ys h)(o:Obj):ZS c z TI TO i1 i2 l1 l2 f a b k1 k2 xs ys (h.push o) :=
 ⟨j8 _ S.z,j8 _ S.ti,j8 _ S.to,S.n1.at λ_ e=>j8 _ e,S.n2.at λ_ e=>j8 _ e,
  S.q1.extBut (b:=h.objs.size) (λ_ _ _ e=>j8 _ e) (S.q1.lt),S.q2.extBut (b:=h.objs.size) (λ_ _ _ e=>j8 _ e) (S.q2.lt)⟩
def n8 (k:Heap.ExtBut z h h'):ZK z TO i1 i2 h h':=λd o q _ _ _ e=>k d o q e
def Hk (k:Heap.ExtBut TO h h'):ZK z TO i1 i2 h h':=λd o _ q _ _ e=>k d o q e
def vm (k:Heap.ExtBut i1 h h'):ZK z TO i1 i2 h h':=λd o _ _ q _ e=>k d o q e
def BF (k:Heap.ExtBut i2 h h'):ZK z TO i1 i2 h h':=λd o _ _ _ q e=>k d o q e
end
section
variable {c:Bool}{z TI TO i1 i2 l1 l2:ai}{k1 k2:Nat}{xs ys:Array ak}{x y a b:ak}
def Jk {Q:ak->ah->Prop}(D:ZipApart z TI TO i1 i2 l1 l2)(S:ZS c z TI TO i1 i2 l1 l2 .none a b k1 k2 xs ys s.heap)(hx:xs[k1]?=some x)(hy:ys[k2]?=some y)
 (hQ:∀ h',ZS c z TI TO i1 i2 l1 l2 (rawInt s.heap.objs.size) x y (k1+1) (k2+1) xs ys h'->IsPair h' s.heap.objs.size x y->ZK z TO i1 i2 s.heap h'->Q (.ref s.heap.objs.size) {s with heap:=h'}):
 wpAny (model prog w) A (Builtin.«zip.__next__» ⟨[.ref z],[]⟩) (λfin s'=>∃ v,fin=.done (.ret v)/\Q v s') E s:=by
 refine fY (au (fY (aK S.z rfl (x:=.bool false) rfl (fY (aK S.z rfl (x:=.ref TI) rfl (fY (bg S.ti rfl ?_)))))))
 refine fY (m:=Builtin.SmallTypes.ownedTupleIsFree (.ref z)) (fY (aK S.z rfl (x:=.none) rfl (au ?_)))
 refine fY (dJ (fY (aK S.z rfl (x:=.ref TO) rfl (fY (aY S.z (by simp) λg1 e1 t1=>?_)))))
 have S1:=S.mz D (f':=.ellipsis) e1 t1.extBut
 refine fY ?_
 rw[show(#[Value.ref i1,Value.ref i2]:Array ak).toList.zipIdx=[(.ref i1,0),(.ref i2,1)]from rfl,bD]
 refine fY (fY (cM (fY (iW S1.n1 S1.q1 hx λg2 e2 t2=>au ?_))))
 have S2:=S1.m1 D e2 t2.extBut
 refine fY (bg S2.to rfl (fY (cP S2.to λg3 e3 t3=>fY (cQ (au ?_)))))
 have S3:=S2.mo D (x:=x) (y:=b) e3 t3.extBut
 dsimp only
 rw[bD]
 refine fY (fY (cM (fY (iW S3.n2 S3.q2 hy λg4 e4 t4=>au ?_))))
 have S4:=S3.m2 D e4 t4.extBut
 refine fY (bg S4.to rfl (fY (cP S4.to λg5 e5 t5=>fY (cQ (au ?_)))))
 have S5:=S4.mo D (x:=x) (y:=y) e5 t5.extBut
 dsimp only
 rw[dP]
 have sz:g5.objs.size=s.heap.objs.size:=t5.1.trans (t4.1.trans (t3.1.trans (t2.1.trans t1.1)))
 refine au (fY (bg S5.to rfl (fY (e9 ?_))))
 have S6:=S5.push { cls:=.type "tuple",data:=.seq #[x,y]}
 refine fY (m:=Builtin.SmallTypes.ownedTupleHandOut (.ref z) (.ref g5.objs.size)) (fY (aY S6.z (by simp) λg7 e7 t7=>?_))
 have S7:=S6.mz D (f':=rawInt g5.objs.size) e7 t7.extBut
 refine aY S7.z (by simp) λg8 e8 t8=>?_
 have S8:=S7.mz D (f':=rawInt g5.objs.size) e8 t8.extBut
 have Ra:g5.objs.size≠z:=bp (jf S5.z)
 have hT:IsPair g8 g5.objs.size x y:=t8.extBut _ _ Ra (t7.extBut _ _ Ra (aG _ rfl))
 have kk:ZK z TO i1 i2 s.heap g8:=((((((n8 t1.extBut).trans (vm t2.extBut)).trans (Hk t3.extBut)).trans (BF t4.extBut)).trans (Hk t5.extBut)).trans (λd o _ _ _ _ e=>j8 _ e)).trans ((n8 t7.extBut).trans (n8 t8.extBut))
 rw[sz]at S8 hT
 refine au ⟨_,rfl,?_⟩
 show Q (.ref g5.objs.size) _
 rw[sz]
 exact hQ g8 S8 hT kk
def Jn {Q:Fin->ah->Prop}(hh:A.handled=none)(D:ZipApart z TI TO i1 i2 l1 l2)(S:ZS c z TI TO i1 i2 l1 l2 .none a b k1 k2 xs ys s.heap)(hx:xs[k1]?=none)
 (hE:∀ h' e,ZK z TO i1 i2 s.heap h'->(∃ o,h'.get? e=some o/\o.cls=.type "StopIteration")->E (.ref e) {s with heap:=h'}):
 wpAny (model prog w) A (Builtin.«zip.__next__» ⟨[.ref z],[]⟩) Q E s:=by
 refine fY (au (fY (aK S.z rfl (x:=.bool false) rfl (fY (aK S.z rfl (x:=.ref TI) rfl (fY (bg S.ti rfl ?_)))))))
 refine fY (m:=Builtin.SmallTypes.ownedTupleIsFree (.ref z)) (fY (aK S.z rfl (x:=.none) rfl (au ?_)))
 refine fY (dJ (fY (aK S.z rfl (x:=.ref TO) rfl (fY (aY S.z (by simp) λg1 e1 t1=>?_)))))
 have S1:=S.mz D (f':=.ellipsis) e1 t1.extBut
 refine fY ?_
 rw[show(#[Value.ref i1,Value.ref i2]:Array ak).toList.zipIdx=[(.ref i1,0),(.ref i2,1)]from rfl,bD]
 refine fY (fY (cM (fY (lh hh S1.n1 S1.q1 hx λg2 e t2 he=>?_))))
 obtain⟨oe,Eu,Ls⟩:=he
 have CD:IsZip g2 z TI TO .ellipsis:=t2 _ _ D.i1z.symm S1.z
 have Ti:e≠z:=λq=>by subst q;rw[CD]at Eu;cases Eu;simp at Ls
 exact aY CD (by simp) λg3 _ t3=>hE g3 e (((n8 t1.extBut).trans (vm t2)).trans (n8 t3.extBut)) ⟨oe,t3.extBut _ _ Ti Eu,Ls⟩
def BH {Q:aq ak->ah->Prop}(D:ZipApart z TI TO i1 i2 l1 l2)(S:ZS c z TI TO i1 i2 l1 l2 .none a b k1 k2 xs ys s.heap)(hx:xs[k1]?=some x)(hy:ys[k2]?=some y)
 (hQ:∀ h',ZS c z TI TO i1 i2 l1 l2 (rawInt s.heap.objs.size) x y (k1+1) (k2+1) xs ys h'->IsPair h' s.heap.objs.size x y->ZK z TO i1 i2 s.heap h'->Q (some (.ref s.heap.objs.size)) {s with heap:=h'}):
 wpAny (model prog w) A (pyNext (.ref z)) Q E s:=by
 have ty:s.TypeIs (.ref z) "zip":=⟨_,S.z,rfl⟩
 unfold pyNext
 exact fY (dw (bE (name:=Str.ofString "__next__") ty bX (cj bX ty cZ (Jk D S hx hy λh' a1 a2 a3=>au (hQ h' a1 a2 a3)) (cU _))))
def Fd {Q:aq ak->ah->Prop}(hh:A.handled=none)(D:ZipApart z TI TO i1 i2 l1 l2)(S:ZS c z TI TO i1 i2 l1 l2 .none a b k1 k2 xs ys s.heap)(hx:xs[k1]?=none)
 (hQ:∀ h',ZK z TO i1 i2 s.heap h'->Q none {s with heap:=h'}):wpAny (model prog w) A (pyNext (.ref z)) Q E s:=by
 have ty:s.TypeIs (.ref z) "zip":=⟨_,S.z,rfl⟩
 unfold pyNext
 refine fY (dw (bE (name:=Str.ofString "__next__") ty bX (cj bX ty cZ (Jn hh D S hx λh' e hk he=>?_) (cU _))))
 obtain⟨o,ho,hc⟩:=he
 exact fY (fF (T:= "StopIteration") (b:=true) ⟨o,ho,hc⟩ isSubtype_stop (au (hQ _ hk)))
end
end
def yx (c:Bool)(H:Hp)(a:ai)(xs:ao V):Prop:=if c=true then H a=some (.tup xs)else H a=some (.lst xs)
def yx.inj {c:Bool}{H:Hp}{a:ai}{xs ys:ao V}(h:yx c H a xs)(h':yx c H a ys):xs=ys:=by
 cases c with
 |true=>have h1:H a=some (.tup xs):=h;have h2:H a=some (.tup ys):=h';rw[h1]at h2;cases h2;rfl
 |false=>have h1:H a=some (.lst xs):=h;have h2:H a=some (.lst ys):=h';rw[h1]at h2;cases h2;rfl
def yx.ex {c:Bool}{H:Hp}{a:ai}{xs:ao V}(h:yx c H a xs):∃ o,H a=some o:=by
 cases c with
 |true=>exact⟨_,h⟩
 |false=>exact⟨_,h⟩
def yx.val {X:Cx}{fI:ao (ai×Obj)}{σ:St}{H:Hp}{s:ah}{c:Bool}{a:ai}{xs:ao V}(I:Inv X fI σ H s)(h:yx c H a xs):∃ gp:ao ak,gE xs gp/\lq c s.heap a gp.toArray:=by
 cases c with
 | true =>
  obtain⟨_,gp,r,p⟩:=(show jg X.prog X.w H s.heap a (.tup xs)from I.iA a _ h)
  exact⟨gp,r,p⟩
 | false =>
  obtain⟨_,gp,n,r,_,e⟩:=I.mH h
  exact⟨gp,r,⟨_,e,rfl,n,rfl⟩⟩
def Yg (c:Bool)(a1 a2:ai):It :=
 ⟨λi H=>∃ xs ys x y,yx c H a1 xs/\yx c H a2 ys/\xs[i]?=some x/\ys[i]?=some y,
  λi H v H'=>∃ T x y,v=.ref T/\H T=none/\H'=upd H T (.tup [x,y])/\(∀ xs,yx c H a1 xs->xs[i]?=some x)/\(∀ ys,yx c H a2 ys->ys[i]?=some y),
  λi H=>∃ xs ys,yx c H a1 xs/\yx c H a2 ys/\xs.length<=i⟩
section
variable {X:Cx}{fI:ao (ai×Obj)}{σ:St}{H:Hp}{s:ah}
def Inv.BR {ch:ao ai}{h'':Heap}{x y:V}{u v:ak}(I:Inv X fI σ H s)(fr:∀ b∈ch,mX X fI H b)(En:∀ b o,b∉ch->s.heap.get? b=some o->h''.get? b=some o)(ZV:IsPair h'' s.heap.objs.size u v)(ru:gD x u)(rv:gD y v):
 Inv X fI σ (upd H s.heap.objs.size (.tup [x,y])) {s with heap:=h''}:=by
 have hn:H s.heap.objs.size=none:=I.iA.fresh (ar _)
 refine I.step (g':=s.gens) (d':=s.drawn) (t':=s.toks) (h':=h'') (ch:=ch) (λb hb=>?_) (λb o _ _ hb e _=>En b o hb e) (λb o _ _ hb e _=>⟨o.slots,En b o hb e⟩)
  (λb o hb e n=>by rw[gB (aD (jf e))];exact n) (λb o hb e=>⟨o,En b o hb e⟩)
  (λb zs e=>by rw[gB (gM e hn)];exact e) (λb o u e=>by rw[gB (gM e hn)];exact e) (λb ps e=>⟨#[],by rw[gB (gM e hn),e];simp⟩) (λm hm=>?_) (λb o e=>?_) I.bare
 .obtain⟨f0,f1,f2,f3,f4,f5⟩:=fr b hb
  exact⟨f3,f1,f4,f5⟩
 .obtain⟨o,es,ep,ho,rr⟩:=hm
  exact⟨o,es,ep,En _ o (λq=>(fr _ q).2.1 rfl) ho,rr⟩
 .by_cases hb:b=s.heap.objs.size
  .subst hb;rw[gh]at e;cases e
   exact⟨by show 2<=sizeLine;decide,[u,v],.cons ru (.cons rv .nil),⟨_,ZV,rfl,0,rfl⟩⟩
  .rw[gB hb]at e
   refine(I.iA b o e).zM (λd v' hd q=>En d v' (λhm=>?_) q) (λd q=>by rw[gB (gM q hn)];exact q) λd zs q=>by rw[gB (gM q hn)];exact q
   have nn:=(fr d hm).1
   rcases hd with rfl|hd
   .rw[nn]at e;cases e
   .rw[nn]at hd;cases hd
def Inv.yG {ch:ao ai}{h'':Heap}(I:Inv X fI σ H s)(fr:∀ b∈ch,mX X fI H b)(En:∀ b o,b∉ch->s.heap.get? b=some o->h''.get? b=some o):Inv X fI σ H { s with heap:=h''}:=by
 refine I.step (g':=s.gens) (d':=s.drawn) (t':=s.toks) (h':=h'') (ch:=ch) (λb hb=>?_) (λb o _ _ hb e _=>En b o hb e) (λb o _ _ hb e _=>⟨o.slots,En b o hb e⟩)
  (λb o hb e n=>n) (λb o hb e=>⟨o,En b o hb e⟩) (λb zs e=>e) (λb o u e=>e) (λb ps e=>⟨#[],by rw[e];simp⟩) (λm hm=>?_) (λb o e=>?_) I.bare
 .obtain⟨f0,f1,f2,f3,f4,f5⟩:=fr b hb
  exact⟨f3,f1,f4,f5⟩
 .obtain⟨o,es,ep,ho,rr⟩:=hm
  exact⟨o,es,ep,En _ o (λq=>(fr _ q).2.1 rfl) ho,rr⟩
 .refine(I.iA b o e).zM (λd v' hd q=>En d v' (λhm=>?_) q) (λd q=>q) λd zs q=>q
  have nn:=(fr d hm).1
  rcases hd with rfl|hd
  .rw[nn]at e;cases e
  .rw[nn]at hd;cases hd
end
def oy {P:ae}{w:af}{K:aa}{elts:ao Expr}{kk:Nat}{tpos:Pos}{c:Bool}{z TI TO i1 i2 l1 l2:ai}(D:ZipApart z TI TO i1 i2 l1 l2):
 Turn P w K (.Tuple elts kk tpos) (Yg c l1 l2) [z,TI,TO,i1,i2] z (λi h=>IsZip h z TI TO .none/\IsPair h TI (.ref i1) (.ref i2)/\(∃ a b,IsPair h TO a b)/\k9 c h i1 l1 i/\k9 c h i2 l2 i) where
 mem:=by simp
 obj:=λi h st b hb=>by
  obtain⟨hz,BC,⟨a,b',BB⟩,h1,h2⟩:=st
  simp only[aP,aH,bS]at hb
  rcases hb with rfl|rfl|rfl|rfl|rfl
  .exact⟨_,hz,λv q=>by cases q⟩
  .exact⟨_,BC,λv q=>by cases q⟩
  .exact⟨_,BB,λv q=>by cases q⟩
  .exact h1.data
  .exact h2.data
 keep:=λi h h' st k=>by
  obtain⟨hz,BC,⟨a,b',BB⟩,h1,h2⟩:=st
  exact⟨k z (by simp) _ hz,k TI (by simp) _ BC,⟨a,b',k TO (by simp) _ BB⟩,h1.at λo e=>k i1 (by simp) o e,h2.at λo e=>k i2 (by simp) o e⟩
 item:=by
  intro X hP hw hK hc i fI s σ H E I hf st hg
  subst hP hw hK
  obtain⟨hz,BC,⟨a,b',BB⟩,h1,h2⟩:=st
  obtain⟨xs,ys,x,y,q1,q2,ex,ey⟩:=hg
  obtain⟨us,r1,p1⟩:=q1.val I
  obtain⟨ws,r2,p2⟩:=q2.val I
  obtain⟨u,eu,ru⟩:=r1.get ex
  obtain⟨v,ev,rv⟩:=r2.get ey
  refine BH D ⟨hz,BC,BB,h1,h2,p1,p2⟩ (by simpa using eu) (by simpa using ev) λh' S' hT hk=>?_
  refine⟨_,rfl,wpAny_letOwnedTupleGo_zip S'.z λh'' e'' YH=>?_⟩
  have Xc:=S'.mz D (f':=.none) e'' YH.extBut
  have Tz:s.heap.objs.size≠z:=bp (jf hz)
  have ZV:IsPair h'' s.heap.objs.size u v:=YH.extBut _ _ Tz hT
  have kp:ZK z TO i1 i2 s.heap h'':=hk.trans (n8 YH.extBut)
  have hn:H s.heap.objs.size=none:=I.iA.fresh (ar _)
  have fr:∀ b∈[z,TO,i1,i2],mX X fI H b:=λb hb=>hf b (by
   simp only[aP,aH,bS]at hb ⊢
   rcases hb with q|q|q|q<;>simp[q])
  have En:∀ b o,b∉[z,TO,i1,i2]->s.heap.get? b=some o->h''.get? b=some o:=λb o hb e=>kp b o (λq=>hb (by simp[q])) (λq=>hb (by simp[q])) (λq=>hb (by simp[q])) (λq=>hb (by simp[q])) e
  have I1:Inv X fI σ (upd H s.heap.objs.size (.tup [x,y])) {s with heap:=h''}:=I.BR fr En ZV ru rv
  refine⟨.ref s.heap.objs.size,_,I1,rfl,⟨_,x,y,rfl,hn,rfl,λzs q=>by rw[q.inj q1];exact ex,λzs q=>by rw[q.inj q2];exact ey⟩,⟨Xc.z,Xc.ti,⟨_,_,Xc.to⟩,Xc.n1,Xc.n2⟩,λb hb=>?_⟩
  obtain⟨o,e,_⟩:∃ o,s.heap.get? b=some o/\True:=by
   simp only[aP,aH,bS]at hb
   rcases hb with rfl|rfl|rfl|rfl|rfl
   .exact⟨_,hz,trivial⟩
   .exact⟨_,BC,trivial⟩
   .exact⟨_,BB,trivial⟩
   .obtain⟨o,e⟩:=h1.ex;exact⟨o,e,trivial⟩
   .obtain⟨o,e⟩:=h2.ex;exact⟨o,e,trivial⟩
  rw[gB (aD (jf e))]
  exact(hf b hb).1
 done:=by
  intro X hP hw hK hc i fI s σ H E I hf st hg
  subst hP hw hK
  obtain⟨hz,BC,⟨a,b',BB⟩,h1,h2⟩:=st
  obtain⟨xs,ys,q1,q2,hx⟩:=hg
  obtain⟨us,r1,p1⟩:=q1.val I
  obtain⟨ws,r2,p2⟩:=q2.val I
  have hl:=r1.length
  refine Fd (I.ok.hd hc) D ⟨hz,BC,BB,h1,h2,p1,p2⟩ (by simp;lia) λh' hk=>⟨rfl,?_⟩
  have fr:∀ b∈[z,TO,i1,i2],mX X fI H b:=λb hb=>hf b (by
   simp only[aP,aH,bS]at hb ⊢
   rcases hb with q|q|q|q<;>simp[q])
  have En:∀ b o,b∉[z,TO,i1,i2]->s.heap.get? b=some o->h'.get? b=some o:=λb o hb e=>hk b o (λq=>hb (by simp[q])) (λq=>hb (by simp[q])) (λq=>hb (by simp[q])) (λq=>hb (by simp[q])) e
  exact I.yG fr En
 self:=λ_ _ _ _ _ st h=>cK st.1 h
def rH (a:ai):Obj:={ cls:=.type "tuple_iterator",data:=.fields #[.ref a,.int 0 0]}
def zH (l1 l2:ai)(h:Heap):Heap :=
 ((((h.push (rH l1)).push (rH l2)).push { cls:=.type "tuple",data:=.seq #[.ref h.objs.size,.ref (h.push (rH l1)).objs.size]}).push { cls:=.type "tuple",data:=.seq #[.none,.none]}).push
  { cls:=.type "zip",data:=.fields #[.none,.bool false,.bool false,.ref ((h.push (rH l1)).push (rH l2)).objs.size,.ref (((h.push (rH l1)).push (rH l2)).push { cls:=.type "tuple",data:=.seq #[.ref h.objs.size,.ref (h.push (rH l1)).objs.size]}).objs.size]}
def Jo (l1 l2:ai)(xs ys:Array ak):Meets (Builtin.«zip.__new__» ⟨[.type "zip",.ref l1,.ref l2],[]⟩) (λ_ R s=>s.heap.IsTuple l1 xs/\s.heap.IsTuple l2 ys /\
 R (.ok (.ret (.ref (s.heap.objs.size+4)))) {s with heap:=zH l1 l2 s.heap}):=
 .of_wp λprog w A R s h=>by
  obtain⟨hp,g,d,tk,os⟩:=s;obtain⟨hl1,sx,h⟩:=h
  have Zl:=sub_zip
  have t1:Heap.IsTuple (Shared.heap ⟨hp,g,d,tk,os⟩) l1 xs:=hl1
  have t2:Heap.IsTuple (Shared.heap ⟨hp.push { cls:=.type "tuple_iterator",data:=.fields #[.ref l1,.int 0 0]},g,d,tk,os⟩) l2 ys:=Heap.IsTuple.push sx _
  wp_walk using wpAny_pyIter_tuple t1,wpAny_pyIter_tuple t2
  refine⟨_,rfl,?_⟩
  have e:hp.objs.size+4=((((hp.push (rH l1)).push (rH l2)).push { cls:=.type "tuple",data:=.seq #[.ref hp.objs.size,.ref (hp.push (rH l1)).objs.size]}).push { cls:=.type "tuple",data:=.seq #[.none,.none]}).objs.size:=by
   simp only[bj]
  have h':R (.ok (.ret (.ref (hp.objs.size+4)))) _:=h
  rw[e]at h'
  exact h'
def sA {prog:ae}{w:af}{A:Around}{E:ak->ah->Prop}{s:ah}{c:Bool}{l1 l2:ai}{xs ys:Array ak}{Q:ak->ah->Prop}(p1:lq c s.heap l1 xs)(p2:lq c s.heap l2 ys)
 (h:∀ h',IsZip h' (s.heap.objs.size+4) (s.heap.objs.size+2) (s.heap.objs.size+3) .none->IsPair h' (s.heap.objs.size+2) (.ref s.heap.objs.size) (.ref (s.heap.objs.size+1))->IsPair h' (s.heap.objs.size+3) .none .none ->
   k9 c h' s.heap.objs.size l1 0->k9 c h' (s.heap.objs.size+1) l2 0->(∀ b o,s.heap.get? b=some o->h'.get? b=some o)->Q (.ref (s.heap.objs.size+4)) {s with heap:=h'}):
 wpAny (model prog w) A (call (.type "zip") [.ref l1,.ref l2]) Q E s:=by
 cases c with
 |false=>exact call_zip_2 p1 p2 λh' a1 a2 a3 a4 a5 _ a7=>h h' a1 a2 a3 a4 a5 a7
 | true =>
  refine callType_new F.called_zip (by decide) (F.typeCall_zip_2 _ _) (F.newCall_zip_2 _ _) (λobj=>F.args_object_init_3 obj _ _) F.entry_zip_new (Jo l1 l2 xs ys) ⟨p1,p2,?_⟩
  have z1:(s.heap.push (rH l1)).objs.size=s.heap.objs.size+1:=bj ..
  have z2:((s.heap.push (rH l1)).push (rH l2)).objs.size=s.heap.objs.size+2:=by rw[bj,z1]
  have z3:(((s.heap.push (rH l1)).push (rH l2)).push { cls:=.type "tuple",data:=.seq #[.ref s.heap.objs.size,.ref (s.heap.push (rH l1)).objs.size]}).objs.size=s.heap.objs.size+3:=by rw[bj,z2]
  have z4:((((s.heap.push (rH l1)).push (rH l2)).push { cls:=.type "tuple",data:=.seq #[.ref s.heap.objs.size,.ref (s.heap.push (rH l1)).objs.size]}).push { cls:=.type "tuple",data:=.seq #[.none,.none]}).objs.size=s.heap.objs.size+4:=by rw[bj,z3]
  have g0:(zH l1 l2 s.heap).get? s.heap.objs.size=some (rH l1):=j8 _ (j8 _ (j8 _ (j8 _ (aG _ rfl))))
  have g1:(zH l1 l2 s.heap).get? (s.heap.push (rH l1)).objs.size=some (rH l2):=j8 _ (j8 _ (j8 _ (aG _ rfl)))
  have g2:(zH l1 l2 s.heap).get? ((s.heap.push (rH l1)).push (rH l2)).objs.size=some _:=j8 _ (j8 _ (aG _ rfl))
  have g3:(zH l1 l2 s.heap).get? (((s.heap.push (rH l1)).push (rH l2)).push { cls:=.type "tuple",data:=.seq #[.ref s.heap.objs.size,.ref (s.heap.push (rH l1)).objs.size]}).objs.size=some _:=j8 _ (aG _ rfl)
  have g4:(zH l1 l2 s.heap).get? ((((s.heap.push (rH l1)).push (rH l2)).push { cls:=.type "tuple",data:=.seq #[.ref s.heap.objs.size,.ref (s.heap.push (rH l1)).objs.size]}).push { cls:=.type "tuple",data:=.seq #[.none,.none]}).objs.size=some _:=aG _ rfl
  rw[z1]at g1
  rw[z2,z1]at g2
  rw[z3]at g3
  rw[z4,z2,z3]at g4
  exact⟨⟨_,g4,rfl⟩,h _ g4 g2 g3 ⟨_,g0,rfl,rfl⟩ ⟨_,g1,rfl,rfl⟩ λb o e=>j8 _ (j8 _ (j8 _ (j8 _ (j8 _ e))))⟩
section
variable {X:Cx}
def Zd (ta:TA):TI:=λσ H R=>ta σ H λvs H1=>match vs with
 |[.ref a,.ref b]=>∃(c:Bool) (xs ys:ao V),yx c H1 a xs/\yx c H1 b ys/\R (Yg c a b) H1
 |_=>False
def RV {elts:ao Expr}{kk:Nat}{tpos:Pos}{a b:Expr}{ta:TA}{p pos:Pos}(hg:Gl X "zip")(hm:X.mg "zip"=none)(ha:PA X [a,b] ta)(hs:starEach [a,b] X.env=[(false,eval a X.env),(false,eval b X.env)]:=by rfl)(tE:starEach [b] X.env=[(false,eval b X.env)]:=by rfl):
 PI X (.Tuple elts kk tpos) (.Call (.Name "zip" p) [a,b] [] pos) (Zd ta):=by
 intro fI s σ H R I h
 refine Call_ (mj I hg hm boot_zip (bw (iJ (ha pos fI s σ H _ I h) λus s1 rB=>?_) (by rw[hs,tE]) (by rw[tE];rfl)))
 obtain⟨vs,H1,I1,r1,q1⟩:=rB
 try dsimp only at q1
 split at q1
 .rename_i l1 l2
  obtain⟨c,xs,ys,q1,q2,q⟩:=q1
  obtain⟨u1,u2,rfl,e1,e2⟩:=r1.two
  cases e1;cases e2
  obtain⟨us,r1,p1⟩:=q1.val I1
  obtain⟨ws,r2,p2⟩:=q2.val I1
  have lt:∀ {l:ai} {o:HO},H1 l=some o->l<s1.heap.objs.size:=λe=>I1.iA.lt e
  obtain⟨o1,w1⟩:=q1.ex
  obtain⟨o2,w2⟩:=q2.ex
  refine sA p1 p2 λh' hz BC BB n1 n2 kp=>cK hz ?_
  have I2:Inv X fI σ H1 { s1 with heap:=h'}:=I1.jz (t':=s1.toks) kp
  refine⟨s1.heap.objs.size+4,_,_,_,H1,rfl,I2,oy (c:=c) (zipApart_new (lt w1) (lt w2)),⟨hz,BC,⟨_,_,BB⟩,n1,n2⟩,λb hb=>?_,q⟩
  have BA:s1.heap.objs.size<=b:=by
   simp only[aP,aH,bS]at hb
   rcases hb with e|e|e|e|e<;>subst e
   .exact aR ..
   .exact aR ..
   .exact aR ..
   .exact ar _
   .exact aR ..
  exact I1.Ey BA (I1.iA.fresh BA)
 .exact q1.elim
def B7 (g:ao Bool->Bool):ao V->Hp->VK->Prop:=λvs H Q=>match vs with
 |[.ref p]=>∃ bs:ao Bool,H p=some (.lst (bs.map V.bl))/\Q (.bl (g bs)) H
 |_=>False
def range_all (bs:ao Bool):(List.range bs.length).all (λi=>bs.getD i true)=bs.all id:=by
 rw[du,cY,cY]
 constructor
 .intro h b hb
  obtain⟨i,hi,e⟩:=aX hb
  have:=h i (by simpa using hi)
  rw[aA,jk hi,e]at this
  exact this
 .intro h i hi
  have OJ:i<bs.length:=by simpa using hi
  rw[aA,jk OJ]
  exact h _ (bI _)
def W5 (hc:X.gY=true):jB X (.builtin "all") (B7 λbs=>bs.all id):=by
 intro fI s σ H vs us Q I rv h
 unfold B7 at h
 split at h
 .rename_i p
  obtain⟨bs,hp,q⟩:=h
  obtain⟨u,rfl,ru⟩:=rv.one
  cases ru
  obtain⟨z,gp,n,r,hl,e⟩:=I.mH hp
  have y7:s.heap.IsList p gp.toArray:=⟨_,e,rfl,n,rfl⟩
  have lt:p≠s.heap.objs.size:=aD (jf e)
  refine call_all_walk (c9 y7 ⟨_,_,_,_,_,_,λi=>bs.getD i true,rfl,Walks.list (A:=X.A.in1) (I.ok.hd hc) s.heap.objs.size p lt gp.toArray,⟨⟨_,aG _ rfl,rfl,rfl⟩,y7.push _⟩,?_,λh' tk kp=>?_⟩)
  .intro i v s' Q' E' hv hq
   have CF:gp[i]?=some v:=by simpa using hv
   have hb:∃ b,bs[i]?=some b/\v=.bool b:=by
    cases eb:(bs.map V.bl)[i]? with
    |none=>have:=r.none_of eb;rw[CF]at this;cases this
    | some y =>
     obtain⟨u,hu,ry⟩:=r.get eb
     rw[CF]at hu;cases hu
     rw[oU]at eb
     cases e2:bs[i]? with
     |none=>rw[e2]at eb;cases eb
     |some b=>rw[e2]at eb;cases eb;exact⟨b,rfl,ry⟩
   obtain⟨b,eb,rfl⟩:=hb
   have e3:bs.getD i true=b:=by rw[aA,eb];rfl
   have Lo:Q' (bs.getD i true) s':=hq
   rw[e3]at Lo
   exact cF Lo
  .have I2:Inv X fI σ H { s with heap:=h',toks:=tk}:=I.jz λb o e'=>kp b o (by simpa using aD (jf e')) (j8 _ e')
   have len:gp.toArray.size=bs.length:=by rw[aE,<- hl,iu]
   rw[len,range_all]
   exact⟨.bl _,H,I2,rfl,q⟩
 .cases h
def Vq:R2:=λx y H Q=>match x,y with
 |.iq,.iq=>Q (.bl true) H
 |.int i,.int j=>Q (.bl (decide (i=j))) H
 |.str i,.str j=>Q (.bl (decide (i=j))) H
 |.bl i,.bl j=>Q (.bl (decide (i=j))) H
 |_,_=>False
def eqN:kU X (compareOp .Eq) Vq:=Qv.imp λx y H Q q=>by
 unfold Vq at q
 split at q
 .exact⟨rfl,by simpa using q⟩
 .exact⟨rfl,by rw[dI];exact q⟩
 .exact⟨rfl,by rw[dS];exact q⟩
 .exact⟨rfl,by rw[dB];exact q⟩
 .exact q.elim
end
section
variable {js:ao (aq Nat)}{g:TG}{tt:TT}{te:TE}{σ:St}{H:Hp}{fin:ao V->Hp->Prop}
def G6 {c:Bool}{a1 a2:ai}{xs zs:ao V}(hn:xs.length=zs.length)(Pv:Nat->ao V->Hp->Prop)(h0:Pv 0 [] H)(hl:∀ i ys H,Pv i ys H->yx c H a1 xs/\yx c H a2 zs)
 (hs:∀ i x y ys H T,i<xs.length->xs[i]?=some x->zs[i]?=some y->Pv i ys H->H T=none->g (.ref T) (ia js σ) (upd H T (.tup [x,y])) λow H2=>Ext (ia js σ) ow/\tt ow H2 λb H3=>if b=true then te ow H3 (CNx xs.length i Pv ys)else CSk xs.length i Pv ys H3)
 (hd:∀ ys H,Pv xs.length ys H->fin ys H):Jw js g tt te (Yg c a1 a2) σ H fin:=by
 refine⟨λi m ys H=>m=xs.length - i/\i<=xs.length/\Pv i ys H,⟨xs.length,by simp,bC _,h0⟩,?_⟩
 rintro i m ys H ⟨rfl,hi,p⟩
 obtain⟨q1,q2⟩:=hl i ys H p
 by_cases mP:i<xs.length
 .refine .inr ⟨⟨xs,zs,xs[i],zs[i]'(by lia),q1,q2,by simp[mP],by simp[show i<zs.length by lia]⟩,λv H' yl=>?_⟩
  obtain⟨T,x,y,rfl,hT,rfl,h1,h2⟩:=yl
  exact hs i x y ys H T mP (h1 xs q1) (h2 zs q2) p hT
 .have e:i=xs.length:=by lia
  subst e
  exact .inl ⟨⟨xs,zs,q1,q2,ar _⟩,hd ys H p⟩
end
inductive DV where
 |iq|bl (b:Bool)|int (i:Int)|str (z:Str)|lst (ds:List DV)|tup (ds:List DV)
mutual
def dep:DV->Nat
 |.lst ds=>yt ds+1
 |.tup ds=>yt ds+1
 |_=>0
def yt:List DV->Nat
 |[]=>0
 |d::ds=>max (dep d) (yt ds)
end
mutual
def MM:DV->Nat
 |.lst ds=>max ds.length (x8 ds)
 |.tup ds=>max ds.length (x8 ds)
 |_=>0
def x8:List DV->Nat
 |[]=>0
 |d::ds=>max (MM d) (x8 ds)
end
mutual
def Is (H:Hp):DV->V->Prop
 |.iq,v=>v=.iq
 |.bl b,v=>v=.bl b
 |.int i,v=>v=.int i
 |.str z,v=>v=.str z
 |.lst ds,v=>∃ p vs,v=.ref p/\H p=some (.lst vs)/\mS H ds vs
 |.tup ds,v=>∃ p vs,v=.ref p/\H p=some (.tup vs)/\mS H ds vs
def mS (H:Hp):List DV->List V->Prop
 |[],vs=>vs=[]
 |d::ds,vs=>∃ v r,vs=v::r/\Is H d v/\mS H ds r
end
mutual
def Is.mono {H H':Hp}(s:iI H H'):∀(d:DV) (v:V),Is H d v->Is H' d v
 |.iq,_,h=>h
 |.bl _,_,h=>h
 |.int _,_,h=>h
 |.str _,_,h=>h
 | .lst ds,_,h=>by
  obtain⟨p,vs,e,hp,q⟩:=h
  exact⟨p,vs,e,s _ _ hp,mS.mono s ds vs q⟩
 | .tup ds,_,h=>by
  obtain⟨p,vs,e,hp,q⟩:=h
  exact⟨p,vs,e,s _ _ hp,mS.mono s ds vs q⟩
def mS.mono {H H':Hp}(s:iI H H'):∀(ds:List DV) (vs:List V),mS H ds vs->mS H' ds vs
 |[],_,h=>h
 | d::ds,_,h=>by
  obtain⟨v,r,e,h1,h2⟩:=h
  exact⟨v,r,e,Is.mono s d v h1,mS.mono s ds r h2⟩
end
def mS.len {H:Hp}:∀ {ds:ao DV} {vs:ao V},mS H ds vs->vs.length=ds.length
 |[],_,h=>by rw[show _=[]from h];rfl
 |d::ds,_,h=>by obtain⟨v,r,rfl,_,h2⟩:=h;rw[aU,aU,mS.len h2]
def mS.get {H:Hp}:∀ {ds:ao DV} {vs:ao V} {i:Nat} {v:V},mS H ds vs->vs[i]?=some v->∃ d,ds[i]?=some d/\Is H d v
 |[],_,i,v,h,e=>by rw[show _=[]from h]at e;simp at e
 | d::ds,_,0,v,h,e=>by
  obtain⟨v',r,rfl,h1,h2⟩:=h
  simp at e;subst e;exact⟨d,rfl,h1⟩
 | d::ds,_,i+1,v,h,e=>by
  obtain⟨v',r,rfl,h1,h2⟩:=h
  obtain⟨d',e1,e2⟩:=mS.get (i:=i) h2 (by simpa using e)
  exact⟨d',by simpa using e1,e2⟩
def xK:∀ {ds:ao DV} {i:Nat} {d:DV},ds[i]?=some d->dep d<=yt ds
 |d::ds,0,d',h=>by simp at h;subst h;unfold yt;lia
 |d::ds,i+1,d',h=>by have:=xK (ds:=ds) (i:=i) (by simpa using h);unfold yt;lia
def wz:∀ {ds:ao DV} {i:Nat} {d:DV},ds[i]?=some d->MM d<=x8 ds
 |d::ds,0,d',h=>by simp at h;subst h;unfold x8;lia
 |d::ds,i+1,d',h=>by have:=wz (ds:=ds) (i:=i) (by simpa using h);unfold x8;lia
def uo (n:Nat):Sp:=λvs H Q _=>match vs with
 |[x,y]=>∃ d,dep d<=n/\MM d<sizeLine/\Is H d x/\Is H d y/\∀ H',iI H H'->Q (.bl true) H'
 |_=>False
def YJ:Sp:=λ_ _ _ _=>False
def spS:Nat->Sp
 |0=>YJ
 |n+1=>uo n
def iI.upd {H:Hp}{p:ai}{o:HO}(h:H p=none):iI H (L2.upd H p o):=λb u e=>by rw[gB (gM e h)];exact e
def G4 {α:Type}{l:ao α}{n:Int}(h:0<=n):lp l none (some n)=l.take n.toNat:=by
 obtain⟨m,rfl⟩:∃ m:Nat,n=(m:Int):=⟨n.toNat,by lia⟩
 unfold lp
 rw[HT.mU,HT.wW,List.drop_zero,Nat.sub_zero,xq]
 by_cases hm:m<=l.length
 .rw[cu hm]
 .rw[fG (by lia),List.take_length,bQ (by lia)]
def zm {α:Type}{l:ao α}{n:Int}(h:0<=n):lp l (some n) none=l.drop n.toNat:=by
 obtain⟨m,rfl⟩:∃ m:Nat,n=(m:Int):=⟨n.toNat,by lia⟩
 unfold lp
 rw[HT.mU,HT.wW,xq]
 by_cases hm:m<=l.length
 .rw[cu hm,bQ (by rw[bA];lia)]
 .rw[fG (by lia),bz (ar _),bz (by lia),List.take_nil]
section
variable {X:Cx}
def B6:V->ao V->Hp->VK->Prop:=λx vs H Q=>∃ l y xs,x=.ref l/\vs=[y]/\H l=some (.lst xs)/\xs.length<sizeLine/\Q .iq (upd H l (.lst (xs++[y])))
def Bd:MG X "list.append" B6:=MG.imp HS λx vs H Q q=>by
 obtain⟨l,y,xs,rfl,rfl,a,b,c⟩:=q
 exact⟨_,xs,_,rfl,rfl,a,b,c⟩
end
def rr (l:ao Nat):Nat->Nat×ao (Nat×Nat)
 |0=>(0,[])
 |i+1=>if l[i]?=some 120 then(i+1,if(rr l i).1<i then(rr l i).2++[((rr l i).1,i)]else(rr l i).2)else rr l i
def Hc (ns:ao Int):∀ k,k<ns.length->argBest (λi j=>decide (ns.getD j 0<ns.getD i 0)) k<=k/\∀ j,j<=k->ns.getD j 0<=ns.getD (argBest (λi j=>decide (ns.getD j 0<ns.getD i 0)) k) 0
 |0,_=>⟨ar _,λj hj=>by rw[show j=0 by lia];exact bU _⟩
 | k+1,h=>by
  obtain⟨h1,h2⟩:=Hc ns k (by lia)
  unfold argBest
  by_cases hb:ns.getD (argBest (λi j=>decide (ns.getD j 0<ns.getD i 0)) k) 0<ns.getD (k+1) 0
  .rw[aB (aI hb)]
   refine⟨ar _,λj hj=>?_⟩
   by_cases e:j=k+1
   .rw[e];exact bU _
   .exact cD (h2 j (by lia)) (df hb)
  .rw[aC (by simp only[bq];exact hb)]
   refine⟨by lia,λj hj=>?_⟩
   by_cases e:j=k+1
   .rw[e];lia
   .exact h2 j (by lia)
section
variable {X:Cx}
def J6:ao V->Hp->VK->Prop:=λvs H Q=>match vs with
 |[.ref p]=>∃ ns:ao Int,H p=some (.lst (ns.map V.int))/\ns≠[]/\∀ m,m∈ns->(∀ x∈ns,x<=m)->Q (.int m) H
 |_=>False
def Oj (hc:X.gY=true):jB X (.builtin "max") J6:=by
 intro fI s σ H vs us Q I rv h
 unfold J6 at h
 split at h
 .rename_i p
  obtain⟨ns,hp,Jc,q⟩:=h
  obtain⟨u,rfl,ru⟩:=rv.one
  cases ru
  obtain⟨z,gp,n,r,hl,e⟩:=I.mH hp
  have y7:s.heap.IsList p gp.toArray:=⟨_,e,rfl,n,rfl⟩
  have lt:p≠s.heap.objs.size:=aD (jf e)
  have len:gp.toArray.size=ns.length:=by rw[aE,<- hl,iu]
  have pos:0<ns.length:=List.length_pos_iff.mpr Jc
  have val:∀ i v,gp.toArray[i]?=some v->∃ t,i<ns.length/\v=.int (ns.getD i 0) t:=λi v hv=>by
   have CF:gp[i]?=some v:=by simpa using hv
   cases eb:(ns.map V.int)[i]? with
   |none=>have:=r.none_of eb;rw[CF]at this;cases this
   | some y =>
    obtain⟨u,hu,ry⟩:=r.get eb
    rw[CF]at hu;cases hu
    rw[oU]at eb
    cases e2:ns[i]? with
    |none=>rw[e2]at eb;cases eb
    | some b =>
     rw[e2]at eb;cases eb
     obtain⟨t,rfl⟩:=ry
     exact⟨t,(kM e2).1,by rw[aA,e2];rfl⟩
  refine call_max_walk (c9 y7 ⟨_,_,_,_,_,_,λi j=>decide (ns.getD j 0<ns.getD i 0),rfl,Walks.list (A:=X.A.in1) (I.ok.hd hc) s.heap.objs.size p lt gp.toArray,⟨⟨_,aG _ rfl,rfl,rfl⟩,y7.push _⟩,?_,by rw[len];exact pos,?_,λv h' tk hv kp=>?_⟩)
  .intro b hb
   simp only[aP,aH,bS]at hb
   show b<(s.heap.push _).objs.size
   rw[bj]
   rcases hb with rfl|rfl
   .exact bL _
   .exact bc (jf e)
  .intro i j vi vj s' Q' E' hi hj hq
   obtain⟨t,_,rfl⟩:=val i vi hi
   obtain⟨t',_,rfl⟩:=val j vj hj
   exact gt_int hq
  .have I2:Inv X fI σ H { s with heap:=h',toks:=tk}:=I.jz λb o e'=>kp b o (by simpa using aD (jf e')) (j8 _ e')
   rw[len]at hv
   obtain⟨t,mP,rfl⟩:=val _ v hv
   obtain⟨b1,b2⟩:=Hc ns (ns.length - 1) (by lia)
   refine⟨.int _,H,I2,⟨t,rfl⟩,q _ ?_ λx hx=>?_⟩
   .rw[aA,jk mP];exact bI _
   .obtain⟨j,hj,ej⟩:=aX hx
    have:=b2 j (by lia)
    rw[aA,jk hj,ej]at this
    exact this
 .cases h
def Gz (l:ao Nat)(c i:Nat):Int->Prop:=λr=>(r = -1/\∀ v,i<=v->l[v]?≠some c)\/∃ k:Nat,r=(k:Int)/\i<=k/\l[k]?=some c/\∀ v,i<=v->v<k->l[v]?≠some c
def J8:V->ao V->Hp->VK->Prop:=λx vs H Q=>∃(z:Str) (c:Nat) (i:Int),x=.str z/\vs=[.str ⟨#[c]⟩,.int i]/\0<=i/\i<=z.length/\∀ r,Gz z.cps.toList c i.toNat r->Q (.int r) H
def Wo:MG X "str.find" J8:=by
 intro fI s σ H x vs v us Q I rx rv h
 .obtain⟨z,c,i,rfl,rfl,h0,h1,q⟩:=h
  obtain⟨t,rfl⟩:=rx
  obtain⟨u1,u2,rfl,r1,r2⟩:=rv.two
  obtain⟨t1,rfl⟩:=r1
  obtain⟨t2,rfl⟩:=r2
  refine SC.find3 ⟨.int _,H,I.tok _,⟨_,rfl⟩,q _ ?_⟩
  have fi:fromIndex z.length i=i.toNat:=by unfold fromIndex;lia
  have gd:∀ v,z.cps.getD v 0≠c\/¬ v<z.length->z.cps.toList[v]?≠some c:=λv hv e=>by
   have mP:v<z.cps.toList.length:=(kM e).1
   have Zv:v<z.length:=by rw[VT];exact mP
   rcases hv with hv|hv
   .exact hv (by rw[jk mP]at e;injection e with e;rw[<- e];simp[Array.getD,show v<z.cps.size by simpa using mP])
   .exact hv Zv
  rcases StrLaws.find3_spec z c i with⟨e,hn⟩|⟨k,e,k1,k2,k3,k4⟩
  .refine .inl ⟨e,λv hv=>gd v ?_⟩
   by_cases hl:v<z.length
   .exact .inl (hn v (by lia) hl)
   .exact .inr hl
  .refine .inr ⟨k,e,by lia,?_,λv h1 h2=>gd v (.inl (k4 v (by lia) h2))⟩
   have mP:k<z.cps.toList.length:=by rw[<- VT];exact k2
   rw[jk mP,<- k3]
   simp[Array.getD,show k<z.cps.size by simpa using mP]
end
def Uq (l:ao Nat)(e t:Nat):Prop:=e<=t/\t<=l.length/\(∀ v,e<=v->v<t->l[v]?=some 111)/\(t=l.length\/l[t]?=some 120)
def Uq.uniq {l:ao Nat}{e t u:Nat}(a:Uq l e t)(b:Uq l e u):t=u:=by
 obtain⟨a1,a2,a3,a4⟩:=a
 obtain⟨b1,b2,b3,b4⟩:=b
 rcases dH t u with h|h|h
 .rcases a4 with q | q
  .lia
  .have:=b3 t a1 h;rw[q]at this;cases this
 .exact h
 .rcases b4 with q | q
  .lia
  .have:=a3 u b1 h;rw[q]at this;cases this
def Qt {l:ao Nat}(ho:OX l){v:Nat}(h:v<l.length)(n:l[v]?≠some 120):l[v]?=some 111:=by
 have e:l[v]?=some l[v]:=jk h
 rcases ho _ (bI h)with q|q
 .rw[e,q]
 .exact absurd (by rw[e,q]) n
def Gz.cl {l:ao Nat}{e:Nat}{r:Int}(ho:OX l)(he:e<=l.length)(h:Gz l 120 e r):(r<0->Uq l e l.length)/\(¬ r<0->Uq l e r.toNat/\r=(r.toNat:Int)):=by
 rcases h with⟨rfl,hn⟩|⟨k,rfl,h1,h2,h3⟩
 .exact⟨λ_=>⟨he,ar _,λv a b=>Qt ho b (hn v a),.inl rfl⟩,λq=>absurd (by decide) q⟩
 .have hk:k<l.length:=(kM h2).1
  exact⟨λq=>absurd q (by lia),λ_=>⟨⟨by lia,by lia,λv a b=>Qt ho (by lia) (h3 v a (by lia)),.inr (by rw[xq];exact h2)⟩,by rw[xq]⟩⟩
def Xm (es:ao Int)(l:ao Nat)(e:Int)(m:Int):Prop:=∃ t,Uq l e.toNat t/\m∈es/\m<=(t:Int)/\∀ x∈es,x<=(t:Int)->x<=m
def Xm.uniq {es:ao Int}{l:ao Nat}{e m k:Int}(a:Xm es l e m)(b:Xm es l e k):m=k:=by
 obtain⟨t,a1,a2,a3,a4⟩:=a
 obtain⟨u,b1,b2,b3,b4⟩:=b
 cases a1.uniq b1
 exact Int.le_antisymm (b4 m a2 a3) (a4 k b2 b3)
def fH (n:Int)(cs:ao Int):ao Int:=0::cs++[n]
inductive D where
 |iq|bl (b:Bool)|int (i:Int)|str (z:Str)|lst (ds:List D)|tup (ds:List D)|jC (ks:List Key) (ds:List D)|mr (k:Nat)|obj (C:ai) (ns:List Str) (ds:List D)|rC (ks:List Key) (ds:List D)|fn (a:ai)
inductive MO where
 |box|lst (ds:List D)|jC (ks:List Key) (ds:List D)|vw (o:Obj) (kvs:List (Key×V)) (ds:List D)|ins (C:ai) (ns:List Str) (ds:List D)|lA (ks:List (List Key)) (ds:List D)|gx (φ:List ai) (H:Hp)|exc (c:ak)
abbrev MS:=ao MO
def yY (μ:MS)(k:Nat):aq (ao D):=match μ[k]? with|some (.lst ds)=>some ds|_=>none
def mh {μ:MS}{k:Nat}{ds:ao D}(h:yY μ k=some ds):μ[k]?=some (.lst ds):=by
 unfold yY at h
 split at h
 .cases h;assumption
 .cases h
def Av {μ:MS}{k:Nat}{ds:ao D}(h:μ[k]?=some (.lst ds)):yY μ k=some ds:=by unfold yY;rw[h]
def Au {μ:MS}{k:Nat}{ds:ao D}(h:k<μ.length):yY (μ.set k (.lst ds)) k=some ds:=Av (aN h)
def jZ {μ:MS}{ds:ao D}:yY (μ++[.lst ds]) μ.length=some ds:=Av (by rw[pX (ar _),a6];rfl)
def Oo {μ:MS}{m:MO}{k:Nat}{ds:ao D}(h:yY μ k=some ds):yY (μ++[m]) k=some ds:=Av (by rw[vR (kM (mh h)).1];exact mh h)
abbrev DE:=ao (aq D)
mutual
def je (φ:List ai)(H:Hp):D->V->Prop
 |.iq,v=>v=.iq
 |.bl b,v=>v=.bl b
 |.int i,v=>v=.int i
 |.str z,v=>v=.str z
 |.lst ds,v=>∃ p vs,v=.ref p/\p∉φ/\H p=some (.lst vs)/\fZ φ H ds vs
 |.tup ds,v=>∃ p vs,v=.ref p/\p∉φ/\H p=some (.tup vs)/\fZ φ H ds vs
 |.jC ks ds,v=>∃ p kvs vs,v=.ref p/\p∉φ/\H p=some (.dK kvs)/\kvs.map (·.1)=ks/\vs=kvs.map (·.2)/\fZ φ H ds vs
 |.mr k,v=>∃ p,φ[k]?=some p/\v=.ref p
 |.obj C ns ds,v=>∃ p dx fs vs,v=.ref p/\p∉φ/\H p=some (.ins C dx fs)/\fs.map (·.1)=ns/\vs=fs.map (·.2)/\fZ φ H ds vs
 |.rC ks ds,v=>∃ p o kvs vs,v=.ref p/\p∉φ/\H p=some (.BD o (.dK kvs))/\kvs.map (·.1)=ks/\vs=kvs.map (·.2)/\fZ φ H ds vs
 |.fn a,v=>v=.ref a
def fZ (φ:List ai)(H:Hp):List D->List V->Prop
 |[],vs=>vs=[]
 |d::ds,vs=>∃ v r,vs=v::r/\je φ H d v/\fZ φ H ds r
end
structure Fr (φ:List ai)(H:Hp)(gG:List ai)(H':Hp):Prop where
 ext:∃ ψ,gG=φ++ψ/\∀ c∈ψ,H c=none
 keep:∀ c o,c∉φ->H c=some o->H' c=some o
 X7:∀ c,H' c=none->H c=none
def Fr.refl (φ:ao ai)(H:Hp):Fr φ H φ H:=⟨⟨[],by simp,λ_ h=>nomatch h⟩,λ_ _ _ h=>h,λ_ h=>h⟩
def Fr.trans {φ gN kQ:ao ai}{H H1 H2:Hp}(a:Fr φ H gN H1)(b:Fr gN H1 kQ H2):Fr φ H kQ H2:=by
 obtain⟨⟨ψ,rfl,Ij⟩,k1,d1⟩:=a
 obtain⟨⟨χ,rfl,hχ⟩,k2,d2⟩:=b
 refine⟨⟨ψ++χ,by simp,λc hc=>?_⟩,λc o hc e=>k2 c o (λh=>?_) (k1 c o hc e),λc h=>d1 c (d2 c h)⟩
 .rcases List.mem_append.mp hc with h | h
  .exact Ij c h
  .exact d1 c (hχ c h)
 .rcases List.mem_append.mp h with h | h
  .exact hc h
  .rw[Ij c h]at e;cases e
def Fr.same {φ:ao ai}{H H':Hp}(h:iI H H'):Fr φ H φ H':=⟨⟨[],by simp,λ_ h=>nomatch h⟩,λc o _ e=>h c o e,λc e=>h.free e⟩
def Fr.new {φ:ao ai}{H:Hp}{p:ai}{o:HO}(h:H p=none):Fr φ H φ (upd H p o):=.same (iI.upd h)
def Fr.put {φ:ao ai}{H:Hp}{p:ai}{o:HO}(h:p∈φ):Fr φ H φ (upd H p o) :=
 ⟨⟨[],by simp,λ_ h=>nomatch h⟩,λc u hc e=>by rw[gB (show c≠p from λz=>hc (by rw[z];exact h))];exact e,λc e=>by
  unfold upd at e
  split at e
  .cases e
  .exact e⟩
def Fr.snoc {φ:ao ai}{H:Hp}{p:ai}(h:H p=none):Fr φ H (φ++[p]) H:=⟨⟨[p],rfl,λc hc=>by rw[List.mem_singleton.mp hc];exact h⟩,λ_ _ _ e=>e,λ_ e=>e⟩
def Fr.yV {φ gG:ao ai}{H H':Hp}(f:Fr φ H gG H'){p:ai}{o:HO}(h:p∉φ)(e:H p=some o):p∉gG:=by
 obtain⟨⟨ψ,rfl,Ij⟩,_,_⟩:=f
 intro hc
 rcases List.mem_append.mp hc with q|q
 .exact h q
 .rw[Ij p q]at e;cases e
def Fr.get {φ gG:ao ai}{H H':Hp}(f:Fr φ H gG H'){k:Nat}{p:ai}(h:φ[k]?=some p):gG[k]?=some p:=by
 obtain⟨⟨ψ,rfl,Ij⟩,_,_⟩:=f
 rw[vR (kM h).1];exact h
mutual
def je.mono {φ gG:List ai}{H H':Hp}(f:Fr φ H gG H'):∀ {d:D} {v:V},je φ H d v->je gG H' d v
 |.iq,_,h=>h
 |.bl _,_,h=>h
 |.int _,_,h=>h
 |.str _,_,h=>h
 |.lst _,_,h=>by obtain⟨p,vs,e,n,hp,q⟩:=h;exact⟨p,vs,e,f.yV n hp,f.keep _ _ n hp,fZ.mono f q⟩
 |.tup _,_,h=>by obtain⟨p,vs,e,n,hp,q⟩:=h;exact⟨p,vs,e,f.yV n hp,f.keep _ _ n hp,fZ.mono f q⟩
 |.jC _ _,_,h=>by obtain⟨p,kvs,vs,e,n,hp,q1,q2,q⟩:=h;exact⟨p,kvs,vs,e,f.yV n hp,f.keep _ _ n hp,q1,q2,fZ.mono f q⟩
 |.mr _,_,h=>by obtain⟨p,e,q⟩:=h;exact⟨p,f.get e,q⟩
 |.obj _ _ _,_,h=>by obtain⟨p,dx,fs,vs,e,n,hp,q1,q2,q⟩:=h;exact⟨p,dx,fs,vs,e,f.yV n hp,f.keep _ _ n hp,q1,q2,fZ.mono f q⟩
 |.rC _ _,_,h=>by obtain⟨p,dx,fs,vs,e,n,hp,q1,q2,q⟩:=h;exact⟨p,dx,fs,vs,e,f.yV n hp,f.keep _ _ n hp,q1,q2,fZ.mono f q⟩
 |.fn _,_,h=>h
def fZ.mono {φ gG:List ai}{H H':Hp}(f:Fr φ H gG H'):∀ {ds:List D} {vs:List V},fZ φ H ds vs->fZ gG H' ds vs
 |[],_,h=>h
 |_::_,_,h=>by obtain⟨v,r,e,h1,h2⟩:=h;exact⟨v,r,e,je.mono f h1,fZ.mono f h2⟩
end
def fZ.len {φ:ao ai}{H:Hp}:∀ {ds:ao D} {vs:ao V},fZ φ H ds vs->vs.length=ds.length
 |[],_,h=>by rw[show _=[]from h];rfl
 |d::ds,_,h=>by obtain⟨v,r,rfl,_,h2⟩:=h;rw[aU,aU,fZ.len h2]
def fZ.get {φ:ao ai}{H:Hp}:∀ {ds:ao D} {vs:ao V} {i:Nat} {d:D},fZ φ H ds vs->ds[i]?=some d->∃ v,vs[i]?=some v/\je φ H d v
 |[],_,i,d,h,e=>by simp at e
 |d::ds,_,0,d',h,e=>by obtain⟨v',r,rfl,h1,h2⟩:=h;simp at e;subst e;exact⟨v',rfl,h1⟩
 | d::ds,_,i+1,d',h,e=>by
  obtain⟨v',r,rfl,h1,h2⟩:=h
  obtain⟨v,e1,e2⟩:=fZ.get (i:=i) h2 (by simpa using e)
  exact⟨v,by simpa using e1,e2⟩
def fZ.CH {φ:ao ai}{H:Hp}{ds:ao D}{vs:ao V}{i:Nat}{v:V}(h:fZ φ H ds vs)(e:vs[i]?=some v):∃ d,ds[i]?=some d/\je φ H d v:=by
 have hl:=h.len
 have hi:=(kM e).1
 obtain⟨u,e1,e2⟩:=h.get (d:=ds[i]'(by lia)) (jk (by lia))
 rw[e]at e1;cases e1
 exact⟨_,jk (by lia),e2⟩
def fZ.app {φ:ao ai}{H:Hp}:∀ {ds es:ao D} {vs us:ao V},fZ φ H ds vs->fZ φ H es us->fZ φ H (ds++es) (vs++us)
 |[],_,_,_,h,g=>by rw[show _=[]from h];exact g
 |d::ds,es,_,us,h,g=>by obtain⟨v,r,rfl,h1,h2⟩:=h;exact⟨v,r++us,rfl,h1,h2.app g⟩
def fZ.take {φ:ao ai}{H:Hp}:∀ {ds:ao D} {vs:ao V} (n:Nat),fZ φ H ds vs->fZ φ H (ds.take n) (vs.take n)
 |_,_,0,_=>rfl
 |[],_,n+1,h=>by rw[show _=[]from h];rfl
 |d::ds,_,n+1,h=>by obtain⟨v,r,rfl,h1,h2⟩:=h;exact⟨v,r.take n,rfl,h1,h2.take n⟩
def fZ.drop {φ:ao ai}{H:Hp}:∀ {ds:ao D} {vs:ao V} (n:Nat),fZ φ H ds vs->fZ φ H (ds.drop n) (vs.drop n)
 |_,_,0,h=>h
 |[],_,n+1,h=>by rw[show _=[]from h];rfl
 |d::ds,_,n+1,h=>by obtain⟨v,r,rfl,h1,h2⟩:=h;exact h2.drop n
def fZ.set {φ:ao ai}{H:Hp}{d:D}{v:V}(hd:je φ H d v):∀ {ds:ao D} {vs:ao V} (n:Nat),fZ φ H ds vs->fZ φ H (ds.set n d) (vs.set n v)
 |[],_,n,h=>by rw[show _=[]from h];cases n<;>rfl
 |e::ds,_,0,h=>by obtain⟨w,r,rfl,h1,h2⟩:=h;exact⟨v,r,rfl,hd,h2⟩
 |e::ds,_,n+1,h=>by obtain⟨w,r,rfl,h1,h2⟩:=h;exact⟨w,r.set n v,rfl,h1,h2.set hd n⟩
def fZ.ints {φ:ao ai}{H:Hp}:∀ {ns:ao Int} {vs:ao V},fZ φ H (ns.map D.int) vs->vs=ns.map V.int
 |[],_,h=>h
 |n::ns,_,h=>by obtain⟨v,r,rfl,h1,h2⟩:=h;rw[show v=.int n from h1,fZ.ints h2];rfl
def fZ.ofInts {φ:ao ai}{H:Hp}:∀ ns:ao Int,fZ φ H (ns.map D.int) (ns.map V.int)
 |[]=>rfl
 |n::ns=>⟨_,_,rfl,rfl,fZ.ofInts ns⟩
def fZ.bls {φ:ao ai}{H:Hp}:∀ {ns:ao Bool} {vs:ao V},fZ φ H (ns.map D.bl) vs->vs=ns.map V.bl
 |[],_,h=>h
 |n::ns,_,h=>by obtain⟨v,r,rfl,h1,h2⟩:=h;rw[show v=.bl n from h1,fZ.bls h2];rfl
def fZ.strs {φ:ao ai}{H:Hp}:∀ {ns:ao Str} {vs:ao V},fZ φ H (ns.map D.str) vs->vs=ns.map V.str
 |[],_,h=>h
 |n::ns,_,h=>by obtain⟨v,r,rfl,h1,h2⟩:=h;rw[show v=.str n from h1,fZ.strs h2];rfl
def BxF (φ:ao ai)(H:Hp)(b:ai):Prop:=∃(q:ai) (ns:ao Int) (i r z:Int),H b=some (.lst [.ref q,.int i,.int r,.int z])/\H q=some (.lst (ns.map V.int))/\q∉φ/\0<=i/\0<=z/\z<2147483647
def Xr (p:ai)(c:ak)(h:Heap):Prop:=∃ oe vs,h.get? p=some oe/\oe.cls=c/\oe.dict=none/\oe.data=.fields vs/\vs[2]?=some .none
def yz (φ:ao ai)(H:Hp):MO->ai->Prop
 |.box,p=>BxF φ H p
 |.lst ds,p=>∃ vs,H p=some (.lst vs)/\fZ φ H ds vs
 |.jC ks ds,p=>∃ kvs vs,H p=some (.dK kvs)/\kvs.map (·.1)=ks/\vs=kvs.map (·.2)/\fZ φ H ds vs
 |.vw o kvs ds,p=>H p=some (.BD o (.dK kvs))/\fZ φ H ds (kvs.map (·.2))
 |.ins C ns ds,p=>∃ dx fs,H p=some (.ins C dx fs)/\fs.map (·.1)=ns/\fZ φ H ds (fs.map (·.2))
 |.lA ks ds,p=>∃ kvs,H p=some (.dT kvs)/\kvs.map (·.1)=ks/\fZ φ H ds (kvs.map (·.2))
 |.gx jh H0,p=>Fr jh H0 φ H/\H p=H0 p/\(∃ o,H p=some o)/\∀ zs,H p≠some (.tup zs)
 |.exc c,p=>H p=some (.ext (Xr p c))
structure gC (φ:List ai)(H:Hp)(μ:MS):Prop where
 nd:φ.Nodup
 len:φ.length=μ.length
 at_:∀(k:Nat) (m:MO),μ[k]?=some m->∃ p,φ[k]?=some p/\yz φ H m p
def yz.mono {φ gG:ao ai}{H H':Hp}(f:Fr φ H gG H'){m:MO}{p:ai}(s:∀ o,H p=some o->H' p=some o)(h:yz φ H m p):yz gG H' m p:=by
 cases m with
 |box=>obtain⟨q,ns,i,r,z,h1,h2,h3,h4⟩:=h;exact⟨q,ns,i,r,z,s _ h1,f.keep _ _ h3 h2,f.yV h3 h2,h4⟩
 |lst ds=>obtain⟨vs,h1,h2⟩:=h;exact⟨vs,s _ h1,h2.mono f⟩
 |jC ks ds=>obtain⟨kvs,vs,h1,h2,h3,h4⟩:=h;exact⟨kvs,vs,s _ h1,h2,h3,h4.mono f⟩
 |vw o kvs ds=>exact⟨s _ h.1,h.2.mono f⟩
 |ins C ns ds=>obtain⟨dx,fs,h1,h2,h3⟩:=h;exact⟨dx,fs,s _ h1,h2,h3.mono f⟩
 |lA ks ds=>obtain⟨kvs,h1,h2,h3⟩:=h;exact⟨kvs,s _ h1,h2,h3.mono f⟩
 |gx jh H0=>obtain⟨h1,h2,⟨o,h3⟩,h4⟩:=h;exact⟨h1.trans f,(s _ h3).trans (h3.symm.trans h2),⟨o,s _ h3⟩,λzs e=>h4 zs (h3.trans ((s _ h3).symm.trans e))⟩
 |exc c=>exact s _ h
def yz.ex {φ:ao ai}{H:Hp}{m:MO}{p:ai}(h:yz φ H m p):∃ o,H p=some o:=by
 cases m with
 |box=>obtain⟨q,ns,i,r,z,h1,_⟩:=h;exact⟨_,h1⟩
 |lst ds=>obtain⟨vs,h1,_⟩:=h;exact⟨_,h1⟩
 |jC ks ds=>obtain⟨kvs,vs,h1,_⟩:=h;exact⟨_,h1⟩
 |vw o kvs ds=>exact⟨_,h.1⟩
 |ins C ns ds=>obtain⟨dx,fs,h1,_⟩:=h;exact⟨_,h1⟩
 |lA ks ds=>obtain⟨kvs,h1,_⟩:=h;exact⟨_,h1⟩
 |gx jh H0=>exact h.2.2.1
 |exc c=>exact⟨_,h⟩
def gC.same {φ:ao ai}{H H':Hp}{μ:MS}(h:gC φ H μ)(s:iI H H'):gC φ H' μ :=
 ⟨h.nd,h.len,λk m e=>let ⟨p,e1,e2⟩:=h.at_ k m e;⟨p,e1,e2.mono (.same s) λo q=>s _ _ q⟩⟩
def gC.mem {φ:ao ai}{H:Hp}{μ:MS}(h:gC φ H μ){p:ai}(hp:p∈φ):∃ o,H p=some o:=by
 obtain⟨k,hk,e⟩:=aX hp
 obtain⟨q,e1,e2⟩:=h.at_ k (μ[k]'(by have:=h.len;lia)) (jk _)
 rw[jk hk,e]at e1
 cases e1
 exact e2.ex
def gC.fresh {φ:ao ai}{H:Hp}{μ:MS}(h:gC φ H μ){p:ai}(hp:H p=none):p∉φ:=λq=>by
 obtain⟨o,e⟩:=h.mem q
 rw[hp]at e;cases e
def gC.snoc {φ:ao ai}{H:Hp}{μ:MS}{m:MO}{p:ai}{o:HO}(h:gC φ H μ)(hp:H p=none)(hm:yz (φ++[p]) (upd H p o) m p):gC (φ++[p]) (upd H p o) (μ++[m])/\Fr φ H (φ++[p]) (upd H p o):=by
 have f1:Fr φ H (φ++[p]) H:=.snoc hp
 have f:Fr φ H (φ++[p]) (upd H p o):=⟨f1.ext,λc u hc e=>iI.upd hp _ _ e,λc e=>(iI.upd hp).free e⟩
 refine⟨⟨?_,by rw[oq,oq,h.len];rfl,λk n e=>?_⟩,f⟩
 .rw[fg]
  exact⟨h.nd,by simp,λa ha b hb=>by rw[List.mem_singleton.mp hb];intro z;exact h.fresh hp (by rw[<- z];exact ha)⟩
 .by_cases hk:k<μ.length
  .rw[vR hk]at e
   obtain⟨q,e1,e2⟩:=h.at_ k n e
   exact⟨q,f.get e1,e2.mono f λu eu=>iI.upd hp _ _ eu⟩
  .have Dv:k=μ.length:=by
    have:=(kM e).1
    rw[oq,bF]at this
    lia
   subst Dv
   rw[pX (ar _),a6]at e
   cases e
   exact⟨p,by rw[pX (by rw[h.len];exact ar _),h.len,a6];rfl,hm⟩
def gC.put {φ:ao ai}{H:Hp}{μ:MS}{m:MO}{p:ai}{o:HO}{k:Nat}(h:gC φ H μ)(hk:φ[k]?=some p)(hm:yz φ (upd H p o) m p):gC φ (upd H p o) (μ.set k m):=by
 have hp:p∈φ:=mw hk
 have f:Fr φ H φ (upd H p o):=.put hp
 refine⟨h.nd,by rw[bW];exact h.len,λj n e=>?_⟩
 by_cases hj:k=j
 .subst hj
  have hl:k<μ.length:=by have:=(kM hk).1;have:=h.len;lia
  rw[aN hl]at e
  cases e
  exact⟨p,hk,hm⟩
 .rw[aQ hj]at e
  obtain⟨q,e1,e2⟩:=h.at_ j n e
  refine⟨q,e1,e2.mono f λu eu=>?_⟩
  rw[gB]
  .exact eu
  .intro z
   subst z
   have a1:=kM hk
   have a2:=kM e1
   obtain⟨i1,r1⟩:=a1
   obtain⟨i2,r2⟩:=a2
   rcases Nat.lt_or_gt_of_ne hj with z|z
   .exact List.pairwise_iff_getElem.mp h.nd k j i1 i2 z (r1.trans r2.symm)
   .exact List.pairwise_iff_getElem.mp h.nd j k i2 i1 z (r2.trans r1.symm)
def kP (φ:ao ai)(H:Hp)(ρ:DE)(σ:St):Prop:=ρ.length=σ.length/\∀(i:Nat) (d:D),ρ[i]?=some (some d)->∃ v,σ[i]?=some (some v)/\je φ H d v
def kP.mono {φ gG:ao ai}{H H':Hp}{ρ:DE}{σ:St}(f:Fr φ H gG H')(h:kP φ H ρ σ):kP gG H' ρ σ:=⟨h.1,λi d e=>let ⟨v,a,b⟩:=h.2 i d e;⟨v,a,b.mono f⟩⟩
def kP.set {φ:ao ai}{H:Hp}{ρ:DE}{σ:St}{d:D}{v:V}(h:kP φ H ρ σ)(hd:je φ H d v)(i:Nat):kP φ H (ρ.set i (some d)) (σ.set i (some v)):=by
 refine⟨by rw[bW,bW];exact h.1,λj e hj=>?_⟩
 by_cases pW:i=j
 .subst pW
  have hl:i<ρ.length:=by have:=(kM hj).1;rwa [bW]at this
  rw[aN hl]at hj
  cases hj
  exact⟨v,aN (by rw[<- h.1];exact hl),hd⟩
 .rw[aQ pW]at hj
  obtain⟨u,a,b⟩:=h.2 j e hj
  exact⟨u,by rw[aQ pW];exact a,b⟩
def lv (μ:MS):D->aq (ao D)
 |.lst ds=>some ds
 |.mr k=>yY μ k
 |_=>none
def lc:D->ao D->MS->Prop
 |.mr k,ds=>λμ=>yY μ k=some ds
 |_,_=>λ_=>True
def jY {φ:ao ai}{H:Hp}{μ:MS}{d:D}{v:V}{ds:ao D}(M:gC φ H μ)(i:je φ H d v)(h:lv μ d=some ds):∃ p vs,v=.ref p/\H p=some (.lst vs)/\fZ φ H ds vs:=by
 cases d with
 |lst es=>cases h;obtain⟨p,vs,rfl,_,hp,ha⟩:=i;exact⟨p,vs,rfl,hp,ha⟩
 | mr k =>
  obtain⟨p,hp,rfl⟩:=i
  have e:=mh (show yY μ k=some ds from h)
  obtain⟨q,e1,vs,hv,ha⟩:=M.at_ k _ e
  rw[hp]at e1;cases e1
  exact⟨p,vs,rfl,hv,ha⟩
 |_=>cases h
def qH {φ gG:ao ai}{H H':Hp}{μ gc:MS}{d:D}{p:ai}{ds:ao D}(M:gC φ H μ)(i:je φ H d (.ref p))(h:lv μ d=some ds)(f:Fr φ H gG H')(M':gC gG H' gc)(c:lc d ds gc):∃ vs,H' p=some (.lst vs)/\fZ gG H' ds vs:=by
 cases d with
 |lst es=>cases h;obtain⟨p',vs,e,n,hp,ha⟩:=i;cases e;exact⟨vs,f.keep _ _ n hp,ha.mono f⟩
 | mr k =>
  obtain⟨p',hp,e⟩:=i
  cases e
  obtain⟨q,e1,vs,hv,ha⟩:=M'.at_ k _ (mh c)
  rw[f.get hp]at e1;cases e1
  exact⟨vs,hv,ha⟩
 |_=>cases h
def tp {μ:MS}{d:D}{ds:ao D}(h:lv μ d=some ds):lc d ds μ:=by
 cases d<;>first|trivial|exact h
abbrev DK:=D->MS->Prop
abbrev De:=DE->MS->DK->Prop
abbrev DA:=DE->MS->(ao D->MS->Prop)->Prop
abbrev Dt:=DE->MS->(Bool->MS->Prop)->Prop
def wu (φ:ao ai)(H:Hp)(K:DK)(Q:VK):Prop:=∀ d gc gG v H',K d gc->Fr φ H gG H'->gC gG H' gc->je gG H' d v->Q v H'
def wu.mono {φ gN:ao ai}{H H1:Hp}{K:DK}{Q:VK}(h:wu φ H K Q)(f:Fr φ H gN H1):wu gN H1 K Q:=λd gc gG v H' k g m i=>h d gc gG v H' k (f.trans g) m i
def tD (w:De):TE:=λσ H Q=>∃ φ ρ μ K,kP φ H ρ σ/\gC φ H μ/\w ρ μ K/\wu φ H K Q
def Ux (w:DA):TA:=λσ H Q=>∃ φ ρ μ K,kP φ H ρ σ/\gC φ H μ/\w ρ μ K/\∀ ds gc gG vs H',K ds gc->Fr φ H gG H'->gC gG H' gc->fZ gG H' ds vs->Q vs H'
def yc (w:Dt):TT:=λσ H Q=>∃ φ ρ μ K,kP φ H ρ σ/\gC φ H μ/\w ρ μ K/\∀ b gc gG H',K b gc->Fr φ H gG H'->gC gG H' gc->Q b H'
section
variable {X:Cx}{a b e:Expr}{pos:Pos}
abbrev PD (X:Cx)(e:Expr)(w:De):Prop:=PE X e (tD w)
def vz (i:Nat):De:=λρ μ K=>match ρ[i]? with|some (some d)=>K d μ|_=>False
def dC (d:D):De:=λ_ μ K=>K d μ
def dv (i:Nat){x:Str}{pos:Pos}(hN:X.N[i]?=some x:=by rfl)(hv:W9 X.env.scope x:=by first | exact Or.inl rfl | exact Or.inr (Or.inl rfl) | exact Or.inr (Or.inr rfl))(hd:(x==("__debug__" : Str))=false:=by decide)
 (Ew:(x==("__classdict__" : Str))=false:=by decide):PD X (.Name x pos) (vz i):=(Kl (i:=i) hN hv hd Ew).imp λσ H Q q=>by
 obtain⟨φ,ρ,μ,K,E,M,w,L⟩:=q
 unfold vz at w
 split at w
 .rename_i d hd
  obtain⟨v,e,r⟩:=E.2 i d hd
  exact⟨v,e,L d μ φ v H w (.refl _ _) M r⟩
 .exact w.elim
def fR {i j pos}:PD X (.Constant (.int i) j pos) (dC (.int i)):=ic.imp λσ H Q rZ=>by obtain⟨φ,ρ,μ,K,E,M,w,L⟩:=rZ;exact L _ _ φ _ H w (.refl _ _) M rfl
def r8 {b j pos}:PD X (.Constant (.bool b) j pos) (dC (.bl b)):=Kt.imp λσ H Q qX=>by obtain⟨φ,ρ,μ,K,E,M,w,L⟩:=qX;exact L _ _ φ _ H w (.refl _ _) M rfl
def xM {j pos}:PD X (.Constant .none j pos) (dC .iq):=RZ.imp λσ H Q qW=>by obtain⟨φ,ρ,μ,K,E,M,w,L⟩:=qW;exact L _ _ φ _ H w (.refl _ _) M rfl
def kC {x j pos}:PD X (.Constant (.str x) j pos) (dC (.str x)):=RY.imp λσ H Q rY=>by obtain⟨φ,ρ,μ,K,E,M,w,L⟩:=rY;exact L _ _ φ _ H w (.refl _ _) M rfl
abbrev sy:=D->D->MS->DK->Prop
def wc (ro:sy)(wa wb:De):De:=λρ μ K=>wa ρ μ λx gr=>wb ρ gr λy iE=>ro x y iE K
def om (r:R2)(ro:sy):Prop:=∀ φ H x y dx dy μ K Q,gC φ H μ->je φ H dx x->je φ H dy y->ro dx dy μ K->wu φ H K Q->r x y H Q
def Fj {r:R2}{ro:sy}{wa wb:De}(so:om r ro){σ:St}{H:Hp}{Q:VK}(h:tD (wc ro wa wb) σ H Q):U4 r (tD wa) (tD wb) σ H Q:=by
 obtain⟨φ,ρ,μ,K,E,M,w,L⟩:=h
 refine⟨φ,ρ,μ,_,E,M,w,λd1 gr gN v1 H1 k1 f1 M1 i1=>?_⟩
 refine⟨gN,ρ,gr,_,E.mono f1,M1,k1,λd2 iE kQ v2 H2 k2 f2 M2 i2=>?_⟩
 exact so kQ H2 v1 v2 d1 d2 iE K Q M2 (i1.mono f2) i2 k2 (L.mono (f1.trans f2))
def pU {op:Operator}{r:R2}{ro:sy}{wa wb:De}(h:kU X (binaryOp op) r)(so:om r ro)(ha:PD X a wa)(hb:PD X b wb):PD X (.BinOp a op b pos) (wc ro wa wb):=(lg h ha hb).imp λσ H Q q=>Fj so q
def vd {op:CmpOp}{r:R2}{ro:sy}{wa wb:De}(h:kU X (compareOp op) r)(so:om r ro)(ha:PD X a wa)(hb:PD X b wb)(hm:behindInMarks op b=false):PD X (.Compare a [op] [b] pos) (wc ro wa wb):=(sT h ha hb hm).imp λσ H Q q=>Fj so q
def d_ix {r:R2}{ro:sy}{wa wb:De}(h:Hh X r)(so:om r ro)(ha:PD X a wa)(hb:PD X b wb)(hs:Bf b):PD X (.Subscript a b pos) (wc ro wa wb):=(qc h ha hb hs).imp λσ H Q q=>Fj so q
def pB (w:De):Dt:=λρ μ K=>w ρ μ λd gc=>match d with|.bl b=>K b gc|_=>False
def Nl {w:De}{σ:St}{H:Hp}{Q:Bool->Hp->Prop}(h:yc (pB w) σ H Q):cB (tD w) σ H Q:=by
 obtain⟨φ,ρ,μ,K,E,M,k,L⟩:=h
 refine⟨φ,ρ,μ,_,E,M,k,λd gc gG v H' k' f M' i=>?_⟩
 cases d with
 |bl b=>cases(show v=_ from i);exact L b gc gG H' k' f M'
 |_=>exact k'.elim
def jc {w:De}(h:PD X e w)(he:∀ whole,isTrue e X.env whole=(do let v <- whole;standAt e.pos;holding [v] (truthy v)):=by intro _;rfl):PT X e (yc (pB w)):=(sP h he).imp λσ H Q q=>Nl q
def kS {op:CmpOp}{r:R2}{ro:sy}{wa wb:De}(h:kU X (compareOp op) r)(so:om r ro)(ha:PD X a wa)(hb:PD X b wb)(hm:behindInMarks op b=false):PT X (.Compare a [op] [b] pos) (yc (pB (wc ro wa wb))) :=
 (nM h ha hb hm).imp λσ H Q q=>by
  obtain⟨φ,ρ,μ,K,E,M,k,L⟩:=q
  refine Fj so ⟨φ,ρ,μ,_,E,M,k,λd gc gG v H' k' f M' i=>?_⟩
  cases d with
  |bl b=>cases(show v=_ from i);exact L b gc gG H' k' f M'
  |_=>exact k'.elim
def Mc (neg:Bool)(w:De):De:=λρ μ K=>w ρ μ λd gc=>match d with|.iq=>K (.bl (!neg)) gc|_=>K (.bl neg) gc
def Lf {φ:ao ai}{H:Hp}{d:D}{v:V}(i:je φ H d v):decide (v=V.iq)=(match d with | .iq=>true | _=>false):=by
 cases d with
 |iq=>cases(show v=_ from i);rfl
 |bl _=>cases(show v=_ from i);rfl
 |int _=>cases(show v=_ from i);rfl
 |str _=>cases(show v=_ from i);rfl
 |lst _=>obtain⟨p,vs,rfl,_⟩:=i;rfl
 |tup _=>obtain⟨p,vs,rfl,_⟩:=i;rfl
 |jC _ _=>obtain⟨p,kvs,vs,rfl,_⟩:=i;rfl
 |mr _=>obtain⟨p,_,rfl⟩:=i;rfl
 |obj _ _ _=>obtain⟨p,dx,fs,vs,rfl,_⟩:=i;rfl
 |rC _ _=>obtain⟨p,dx,fs,vs,rfl,_⟩:=i;rfl
 |fn _=>cases(show v=_ from i);rfl
def Rk {w:De}{σ:St}{H:Hp}{Q:VK}(h:tD (Mc false w) σ H Q):U6 (tD w) σ H Q:=by
 obtain⟨φ,ρ,μ,K,E,M,k,L⟩:=h
 refine⟨φ,ρ,μ,_,E,M,k,λd gc gG v H' k' f M' i=>?_⟩
 show Q (.bl _) H'
 rw[Lf i]
 cases d<;>exact L _ gc gG _ H' k' f M' rfl
def Fl {w:De}{σ:St}{H:Hp}{Q:VK}(h:tD (Mc true w) σ H Q):Qa (tD w) σ H Q:=by
 obtain⟨φ,ρ,μ,K,E,M,k,L⟩:=h
 refine⟨φ,ρ,μ,_,E,M,k,λd gc gG v H' k' f M' i=>?_⟩
 show Q (.bl _) H'
 rw[Lf i]
 cases d<;>exact L _ gc gG _ H' k' f M' rfl
end
section
variable {X:Cx}{a b e:Expr}{es:ao Expr}{pos:Pos}
def PA.imp {es:ao Expr}{t t':TA}(h:PA X es t)(hi:∀ σ H Q,t' σ H Q->t σ H Q):PA X es t':=λpos fI s σ H Q I q=>h pos fI s σ H Q I (hi σ H Q q)
def Bg.imp {st:ao Stmt}{t t':TS}(h:Bg X st t)(hi:∀ D σ H,t' D σ H->t D σ H):Bg X st t':=λfI s σ H D I q=>h fI s σ H D I (hi D σ H q)
def ID:DA:=λ_ μ K=>K [] μ
def tU (wa:De)(wr:DA):DA:=λρ μ K=>wa ρ μ λx gr=>wr ρ gr λxs iE=>K (x::xs) iE
abbrev vB (X:Cx)(es:ao Expr)(w:DA):Prop:=PA X es (Ux w)
def kq:vB X [] ID:=iR.imp λσ H Q qV=>by obtain⟨φ,ρ,μ,K,E,M,w,L⟩:=qV;exact L [] μ φ [] H w (.refl _ _) M rfl
def gz {wa:De}{wr:DA}(ha:PD X e wa)(hr:vB X es wr)(hs:starEach (e::es) X.env=(false,eval e X.env)::starEach es X.env:=by rfl):vB X (e::es) (tU wa wr):=(gv ha hr hs).imp λσ H Q q=>by
 obtain⟨φ,ρ,μ,K,E,M,w,L⟩:=q
 refine⟨φ,ρ,μ,_,E,M,w,λd1 gr gN v1 H1 k1 f1 M1 i1=>?_⟩
 refine⟨gN,ρ,gr,_,E.mono f1,M1,k1,λds iE kQ vs H2 k2 f2 M2 i2=>?_⟩
 exact L _ iE kQ _ H2 k2 (f1.trans f2) M2 ⟨v1,vs,rfl,i1.mono f2,i2⟩
def Mz {φ:ao ai}{H:Hp}{μ:MS}{K:DK}{Q:VK}{ds:ao D}{vs:ao V}{p:ai}(L:wu φ H K Q)(M:gC φ H μ)(h:fZ φ H ds vs)(k:K (.lst ds) μ)(hp:H p=none):Q (.ref p) (upd H p (.lst vs)) :=
 L _ μ φ _ _ k (.new hp) (M.same (iI.upd hp)) ⟨p,vs,rfl,M.fresh hp,gh,h.mono (.new hp)⟩
def Uh {φ:ao ai}{H:Hp}{μ:MS}{K:DK}{Q:VK}{ds:ao D}{vs:ao V}{p:ai}(L:wu φ H K Q)(M:gC φ H μ)(h:fZ φ H ds vs)(k:K (.tup ds) μ)(hp:H p=none):Q (.ref p) (upd H p (.tup vs)) :=
 L _ μ φ _ _ k (.new hp) (M.same (iI.upd hp)) ⟨p,vs,rfl,M.fresh hp,gh,h.mono (.new hp)⟩
def W6 {φ:ao ai}{H:Hp}{μ:MS}{K:DK}{Q:VK}{ds:ao D}{vs:ao V}{p:ai}(L:wu φ H K Q)(M:gC φ H μ)(h:fZ φ H ds vs)(k:K (.mr μ.length) (μ++[.lst ds]))(hp:H p=none):Q (.ref p) (upd H p (.lst vs)):=by
 have f:Fr φ H (φ++[p]) (upd H p (.lst vs)):=⟨(Fr.snoc (φ:=φ) hp).ext,λc u _ e=>iI.upd hp _ _ e,λc e=>(iI.upd hp).free e⟩
 obtain⟨M',_⟩:=M.snoc (m:=.lst ds) (o:=.lst vs) hp ⟨vs,gh,h.mono f⟩
 exact L _ _ _ _ _ k f M' ⟨p,by rw[pX (by rw[M.len];exact ar _),M.len,a6];rfl,rfl⟩
def nL (m:Bool)(ds:ao D)(μ:MS)(K:DK):Prop:=match m with|false=>K (.lst ds) μ|true=>K (.mr μ.length) (μ++[.lst ds])
def IP {m:Bool}{φ:ao ai}{H:Hp}{μ:MS}{K:DK}{Q:VK}{ds:ao D}{vs:ao V}{p:ai}(L:wu φ H K Q)(M:gC φ H μ)(h:fZ φ H ds vs)(k:nL m ds μ K)(hp:H p=none):Q (.ref p) (upd H p (.lst vs)):=by
 cases m with
 |false=>exact Mz L M h k hp
 |true=>exact W6 L M h k hp
def dLst (m:Bool)(w:DA):De:=λρ μ K=>w ρ μ λds gr=>ds.length<=sizeLine/\nL m ds gr K
def dTup (w:DA):De:=λρ μ K=>w ρ μ λds gr=>ds.length<=sizeLine/\K (.tup ds) gr
def kD {w:DA}(m:Bool)(h:vB X es w):PD X (.List es pos) (dLst m w):=(Kn h).imp λσ H Q ⟨φ,ρ,μ,K,E,M,w,L⟩ =>
 ⟨φ,ρ,μ,_,E,M,w,λds gr gN vs H1 k1 f1 M1 i1=>⟨by rw[i1.len];exact k1.1,λp hp=>IP (L.mono f1) M1 i1 k1.2 hp⟩⟩
def pK {w:DA}{x1}(h:vB X es w):PD X (.Tuple es x1 pos) (dTup w):=(RX h).imp λσ H Q ⟨φ,ρ,μ,K,E,M,w,L⟩ =>
 ⟨φ,ρ,μ,_,E,M,w,λds gr gN vs H1 k1 f1 M1 i1=>⟨by rw[i1.len];exact k1.1,λp hp=>Uh (L.mono f1) M1 i1 k1.2 hp⟩⟩
abbrev j5:=ao D->MS->DK->Prop
def iG (f:j5):Sp:=λvs H Q _=>∃ φ ds μ K,fZ φ H ds vs/\gC φ H μ/\f ds μ K/\wu φ H K Q
def ve (f:j5)(w:DA):De:=λρ μ K=>w ρ μ λds gr=>f ds gr K
def TU {f:j5}{w:DA}{x:Str}{p:Pos}{k:Nat}{ps:ao Str}(C:nB X.prog X.w X.K X.mg X.fJ x k ps (iG f))(hr:jT k X.A)(hg:Gl X x)(ha:vB X (e::es) w)
 (xo:(x==("__debug__" : Str))=false:=by decide) (he:starEach (e::es) X.env=(false,eval e X.env)::starEach es X.env:=by rfl) (pw:(backTo pos (starEach es X.env)).any (·.1)=false:=by rfl):
 PD X (.Call (.Name x p) (e::es) [] pos) (ve f w):=(w5 C hr hg ha xo he pw).imp λσ H Q ⟨φ,ρ,μ,K,E,M,w,L⟩=>
 ⟨φ,ρ,μ,_,E,M,w,λds gr gN vs H1 k1 f1 M1 i1=>by show iG f (vs++[]) H1 Q E0;rw[cy];exact⟨gN,ds,gr,K,i1,M1,k1,L.mono f1⟩⟩
def mR (r:ao V->Hp->VK->Prop)(f:j5):Prop:=∀ φ H vs ds μ K Q,gC φ H μ->fZ φ H ds vs->f ds μ K->wu φ H K Q->r vs H Q
def Qc {r:ao V->Hp->VK->Prop}{f:j5}{w:DA}(so:mR r f){σ:St}{H:Hp}{Q:VK}(h:tD (ve f w) σ H Q):YF r (Ux w) σ H Q:=by
 obtain⟨φ,ρ,μ,K,E,M,w,L⟩:=h
 exact⟨φ,ρ,μ,_,E,M,w,λds gr gN vs H1 k1 f1 M1 i1=>so gN H1 vs ds gr K Q M1 i1 k1 (L.mono f1)⟩
def nj {r:ao V->Hp->VK->Prop}{f:j5}{w:DA}{id:String}{x:Str}{p:Pos}(hc:jB X (.builtin id) r)(so:mR r f)(hg:Gl X x)(hm:X.mg x=none)(hv:bootBuiltins x=some (.builtin id))(ha:vB X (e::es) w)(hn:x ≠ "__name__":=by decide)(xo:(x==("__debug__" : Str))=false:=by decide)
 (he:starEach (e::es) X.env=(false,eval e X.env)::starEach es X.env:=by rfl) (pw:(backTo pos (starEach es X.env)).any (·.1)=false:=by rfl):PD X (.Call (.Name x p) (e::es) [] pos) (ve f w):=
 (iz hc hg hm hv ha hn xo he pw).imp λσ H Q q=>Qc so q
def L5 {r:ao V->Hp->VK->Prop}{f:j5}{w:DA}{T:String}{x:Str}{p:Pos}(hc:jB X (.type T) r)(so:mR r f)(hg:Gl X x)(hm:X.mg x=none)(hv:bootBuiltins x=some (.type T))(ha:vB X (e::es) w)(hn:x ≠ "__name__":=by decide)(xo:(x==("__debug__" : Str))=false:=by decide)
 (he:starEach (e::es) X.env=(false,eval e X.env)::starEach es X.env:=by rfl) (pw:(backTo pos (starEach es X.env)).any (·.1)=false:=by rfl):PD X (.Call (.Name x p) (e::es) [] pos) (ve f w):=
 (yQ hc hg hm hv ha hn xo he pw).imp λσ H Q q=>Qc so q
abbrev Um:=D->ao D->MS->DK->Prop
def MB (K:aa)(T:String)(r:V->ao V->Hp->VK->Prop)(f:Um):Prop:=∀ φ H x vs d ds μ K' Q,gC φ H μ->je φ H d x->fZ φ H ds vs->f d ds μ K'->wu φ H K' Q->r x vs H Q
def UU (T:String)(μ:MS):D->Prop
 |.str _=>T = "str"
 |.lst _=>T = "list"
 |.jC _ _=>T = "dict"
 |.mr k=>match μ[k]? with|some (.lst _)=>T = "list" | some (.jC _ _)=>T = "dict" | _=>False
 |_=>False
def UU.is {Kf:aa}{T:String}{φ:ao ai}{H:Hp}{μ:MS}{d:D}{v:V}(M:gC φ H μ)(i:je φ H d v)(h:UU T μ d):Yq Kf T v H:=by
 cases d with
 |str z=>cases(show v=_ from i);exact h
 |lst ds=>obtain⟨p,vs,rfl,_,hp,_⟩:=i;exact .inl ⟨h,vs,pF.of hp⟩
 |jC ks ds=>obtain⟨p,kvs,vs,rfl,_,hp,_⟩:=i;exact .inr (.inr (.inl ⟨h,.inl ⟨kvs,hp⟩⟩))
 | mr k =>
  obtain⟨p,hp,rfl⟩:=i
  unfold UU at h
  dsimp only at h
  cases e:μ[k]? with
  |none=>rw[e]at h;exact h.elim
  | some m =>
   obtain⟨q,e1,e2⟩:=M.at_ k m e
   rw[hp]at e1;cases e1
   rw[e]at h
   cases m with
   |box=>exact h.elim
   |lst ds=>obtain⟨vs,hv,_⟩:=e2;exact .inl ⟨h,vs,pF.of hv⟩
   |jC ks ds=>obtain⟨kvs,vs,hv,_⟩:=e2;exact .inr (.inr (.inl ⟨h,.inl ⟨kvs,hv⟩⟩))
   |_=>exact h.elim
 |_=>exact(show False from h).elim
def dMt (T:String)(f:Um)(wo:De)(w:DA):De:=λρ μ K=>wo ρ μ λx gr=>UU T gr x/\w ρ gr λds iE=>f x ds iE K
def AX {o:Expr}{name:Str}{mK lR:Pos}{T id:String}{r:V->ao V->Hp->VK->Prop}{f:Um}{wo:De}{w:DA}(pa:PlainAttrs T)(slot:Slot T name id)(Zj:typeOf (.builtin id)=pure (.type "method_descriptor"))(hm:MG X id r)(so:MB X.K T r f)(ho:PD X o wo)(ha:vB X (e::es) w)
 (Lu:attributeBase o name X.env (eval o X.env)=eval o X.env:=by rfl)
 (OL:((backTo lR (starEach (e::es) X.env)).all (λx=>!x.1)&&(backToKw lR (keywordEach [] X.env)).all (λx=>x.1.isSome)
   && decide ((e::es).length+([]:ao Keyword).length+(if([]:ao Keyword).isEmpty then 0 else 1)<30))=true:=by rfl)
 (Lq:(mK.endLine==lR.line)=true:=by rfl) (hs:starEach (e::es) X.env=(false,eval e X.env)::starEach es X.env:=by rfl) (Et:(backTo lR (starEach es X.env)).any (·.1)=false:=by rfl):
 PD X (.Call (.Attribute o name mK) (e::es) [] lR) (dMt T f wo w):=(Vw pa slot Zj hm ho ha Lu OL Lq hs Et).imp λσ H Q q=>by
 obtain⟨φ,ρ,μ,K,E,M,w,L⟩:=q
 refine⟨φ,ρ,μ,_,E,M,w,λd1 gr gN v1 H1 k1 f1 M1 i1=>⟨UU.is M1 i1 k1.1,?_⟩⟩
 exact⟨gN,ρ,gr,_,E.mono f1,M1,k1.2,λds iE kQ vs H2 k2 f2 M2 i2=>so kQ H2 v1 vs d1 ds iE K Q M2 (i1.mono f2) i2 k2 (L.mono (f1.trans f2))⟩
def dAnd (wa wb:De):De:=λρ μ K=>wa ρ μ λx gr=>match x with|.bl c=>if c=true then wb ρ gr K else K (.bl false) gr|_=>False
def dNot (wa:De):De:=λρ μ K=>wa ρ μ λx gr=>match x with|.bl c=>K (.bl (!c)) gr|_=>False
def G1 {rest:ao Expr}{wa wb:De}(ha:PD X a wa)(hb:PD X (.BoolOp .And (b::rest) pos) wb):PD X (.BoolOp .And (a::b::rest) pos) (dAnd wa wb):=(vH ha hb).imp λσ H Q q=>by
 obtain⟨φ,ρ,μ,K,E,M,w,L⟩:=q
 refine⟨φ,ρ,μ,_,E,M,w,λd1 gr gN v1 H1 k1 f1 M1 i1=>?_⟩
 cases d1 with
 | bl c =>
  cases(show v1=_ from i1)
  cases c with
  |true=>exact⟨gN,ρ,gr,_,E.mono f1,M1,k1,L.mono f1⟩
  |false=>exact L _ gr gN _ H1 k1 f1 M1 rfl
 |_=>exact k1.elim
def L6 {op}{w:De}(h:PD X a w):PD X (.BoolOp op [a] pos) w:=D1 h
def WA {wa:De}(ha:PD X a wa):PD X (.UnaryOp .Not a pos) (dNot wa):=(NX ha).imp λσ H Q q=>by
 obtain⟨φ,ρ,μ,K,E,M,w,L⟩:=q
 refine⟨φ,ρ,μ,_,E,M,w,λd1 gr gN v1 H1 k1 f1 M1 i1=>?_⟩
 cases d1 with
 |bl c=>cases(show v1=_ from i1);exact L _ gr gN _ H1 k1 f1 M1 rfl
 |_=>exact k1.elim
def dNeg (wa:De):De:=λρ μ K=>wa ρ μ λx gr=>match x with|.int i=>K (.int (-i)) gr|_=>False
def L7 {wa:De}(ha:PD X a wa):PD X (.UnaryOp .USub a pos) (dNeg wa):=(Vv Rf ha).imp λσ H Q q=>by
 obtain⟨φ,ρ,μ,K,E,M,w,L⟩:=q
 refine⟨φ,ρ,μ,_,E,M,w,λd1 gr gN v1 H1 k1 f1 M1 i1=>?_⟩
 cases d1 with
 |int c=>cases(show v1=_ from i1);exact⟨c,rfl,L _ gr gN _ H1 k1 f1 M1 rfl⟩
 |_=>exact k1.elim
def GV (t u:Dt):Dt:=λρ μ K=>t ρ μ λc gr=>if c=true then u ρ gr K else K false gr
def LW (t u:Dt):Dt:=λρ μ K=>t ρ μ λc gr=>if c=true then K true gr else u ρ gr K
def QW (t:Dt):Dt:=λρ μ K=>t ρ μ λc gr=>K (!c) gr
abbrev IQ (X:Cx)(e:Expr)(w:Dt):Prop:=PT X e (yc w)
def Nm {t u:Dt}{σ:St}{H:Hp}{Q:Bool->Hp->Prop}(h:yc (GV t u) σ H Q):Vb (yc t) (yc u) σ H Q:=by
 obtain⟨φ,ρ,μ,K,E,M,w,L⟩:=h
 refine⟨φ,ρ,μ,_,E,M,w,λb gr gN H1 k1 f1 M1=>?_⟩
 cases b with
 |true=>exact⟨gN,ρ,gr,_,E.mono f1,M1,k1,λb iE kQ H2 k2 f2 M2=>L b iE kQ H2 k2 (f1.trans f2) M2⟩
 |false=>exact L _ gr gN H1 k1 f1 M1
def Rl {t u:Dt}{σ:St}{H:Hp}{Q:Bool->Hp->Prop}(h:yc (LW t u) σ H Q):tOr (yc t) (yc u) σ H Q:=by
 obtain⟨φ,ρ,μ,K,E,M,w,L⟩:=h
 refine⟨φ,ρ,μ,_,E,M,w,λb gr gN H1 k1 f1 M1=>?_⟩
 cases b with
 |false=>exact⟨gN,ρ,gr,_,E.mono f1,M1,k1,λb iE kQ H2 k2 f2 M2=>L b iE kQ H2 k2 (f1.trans f2) M2⟩
 |true=>exact L _ gr gN H1 k1 f1 M1
abbrev UW (X:Cx)(e:Expr)(w:Dt):Prop:=PW X e (yc w)
def PW.imp {e:Expr}{t t':TT}(h:PW X e t)(hi:∀ σ H Q,t' σ H Q->t σ H Q):PW X e t':=λwh fI s σ H Q I q=>h wh fI s σ H Q I (hi σ H Q q)
def wD {t:Dt}(h:IQ X a t):UW X (.BoolOp .And [a] pos) t:=pw_and1 h
def uT {t:Dt}(h:IQ X a t):UW X (.BoolOp .Or [a] pos) t:=pw_or1 h
def BS {rest:ao Expr}{t u:Dt}(ha:IQ X a t)(hb:UW X (.BoolOp .And (b::rest) pos) u):UW X (.BoolOp .And (a::b::rest) pos) (GV t u):=(pw_and ha hb).imp λσ H Q q=>Nm q
def yb {rest:ao Expr}{t u:Dt}(ha:IQ X a t)(hb:UW X (.BoolOp .Or (b::rest) pos) u):UW X (.BoolOp .Or (a::b::rest) pos) (LW t u):=(pw_or ha hb).imp λσ H Q q=>Rl q
def uU {t:Dt}(h:IQ X a t):IQ X (.UnaryOp .Not a pos) (QW t):=(RO h).imp λσ H Q q=>by
 obtain⟨φ,ρ,μ,K,E,M,w,L⟩:=q
 exact⟨φ,ρ,μ,_,E,M,w,λb gr gN H1 k1 f1 M1=>L _ gr gN H1 k1 f1 M1⟩
def dIf (t:Dt)(wa wb:De):De:=λρ μ K=>t ρ μ λc gr=>if c=true then wa ρ gr K else wb ρ gr K
def O5 {c:Expr}{t:Dt}{wa wb:De}(hc:IQ X c t)(ha:PD X a wa)(hb:PD X b wb):PD X (.IfExp c a b pos) (dIf t wa wb):=(Ko hc ha hb).imp λσ H Q q=>by
 obtain⟨φ,ρ,μ,K,E,M,w,L⟩:=q
 refine⟨φ,ρ,μ,_,E,M,w,λb gr gN H1 k1 f1 M1=>?_⟩
 cases b with
 |true=>exact⟨gN,ρ,gr,_,E.mono f1,M1,k1,L.mono f1⟩
 |false=>exact⟨gN,ρ,gr,_,E.mono f1,M1,k1,L.mono f1⟩
def TL {j pos'}{w:De}(h:PD X a w):PD X (.Compare a [.IsNot] [.Constant .none j pos'] pos) (Mc true w):=(R3 (FR h)).imp λσ H Q q=>Fl q
def Qe {w:De}{t:TE}{σ:St}{H:Hp}{Q:Bool->Hp->Prop}(hi:∀ Q,tD w σ H Q->t σ H Q)(h:yc (pB w) σ H Q):tB t σ H Q:=by
 obtain⟨φ,ρ,μ,K,E,M,k,L⟩:=h
 refine hi _ ⟨φ,ρ,μ,_,E,M,k,λd gc gG v H' k' f M' i=>?_⟩
 cases d with
 |bl b=>cases(show v=_ from i);exact⟨b,rfl,L b gc gG H' k' f M'⟩
 |_=>exact k'.elim
def P0 {j pos'}{w:De}(h:PD X a w):IQ X (.Compare a [.Is] [.Constant .none j pos'] pos) (pB (Mc false w)):=(DZ (R4 h)).imp λσ H Q q=>Qe (λQ q=>Rk q) q
def rG {j pos'}{w:De}(h:PD X a w):IQ X (.Compare a [.IsNot] [.Constant .none j pos'] pos) (pB (Mc true w)):=(DZ (FR h)).imp λσ H Q q=>Qe (λQ q=>Fl q) q
end
structure DN where
 nx:DE->MS->Prop
 rt:DK
 bk:DE->MS->Prop:=λ_ _=>False
 ct:DE->MS->Prop:=λ_ _=>False
abbrev Ds:=DN->DE->MS->Prop
def Q8 (φ:ao ai)(H:Hp)(k:DE->MS->Prop)(q:St->Hp->Prop):Prop:=∀ j7 gc gG ji H',k j7 gc->Fr φ H gG H'->kP gG H' j7 ji->gC gG H' gc->q ji H'
def Q8.mono {φ gN:ao ai}{H H1:Hp}{k:DE->MS->Prop}{q:St->Hp->Prop}(h:Q8 φ H k q)(f:Fr φ H gN H1):Q8 gN H1 k q:=λj7 gc gG ji H' a b c d=>h j7 gc gG ji H' a (f.trans b) c d
structure Ye (φ:List ai)(H:Hp)(N:DN)(E:Ends):Prop where
 nx:Q8 φ H N.nx E.nx
 rt:wu φ H N.rt E.rt
 bk:Q8 φ H N.bk E.bk
 ct:Q8 φ H N.ct E.ct
def Ye.mono {φ gN:ao ai}{H H1:Hp}{N:DN}{E:Ends}(h:Ye φ H N E)(f:Fr φ H gN H1):Ye gN H1 N E:=⟨h.nx.mono f,h.rt.mono f,h.bk.mono f,h.ct.mono f⟩
def YC (w:Ds):TS:=λE σ H=>∃ φ ρ μ N,kP φ H ρ σ/\gC φ H μ/\w N ρ μ/\Ye φ H N E
abbrev yy (X:Cx)(st:Stmt)(w:Ds):Prop:=PS X st (YC w)
abbrev Jh (X:Cx)(st:ao Stmt)(w:Ds):Prop:=Bg X st (YC w)
section
variable {X:Cx}{a b e:Expr}{es:ao Expr}{pos:Pos}{st:Stmt}{rest:ao Stmt}
def dNx:Ds:=λN ρ μ=>N.nx ρ μ
def dSeq (t u:Ds):Ds:=λN ρ μ=>t { N with nx:=λj7 gc=>u N j7 gc} ρ μ
def dCut (t u:Ds):Ds:=λN ρ μ=>∃ M:DE->MS->Prop,t { N with nx:=M} ρ μ/\∀ j7 gc,M j7 gc->u N j7 gc
def hG:Jh X [] dNx:=nN.imp λE σ H tF=>by obtain⟨φ,ρ,μ,N,A,M,w,L⟩:=tF;exact L.nx ρ μ φ σ H w (.refl _ _) A M
def fO {t u:Ds}(h1:yy X st t)(h2:Jh X rest u):Jh X (st::rest) (dSeq t u):=(iQ h1 h2).imp λE σ H ⟨φ,ρ,μ,N,A,M,w,L⟩ =>
 ⟨φ,ρ,μ,_,A,M,w,⟨λj7 gc gG ji H' k f A' M'=>⟨gG,j7,gc,N,A',M',k,L.mono f⟩,L.rt,L.bk,L.ct⟩⟩
def vh {t u:Ds}(h1:yy X st t)(h2:Jh X rest u):Jh X (st::rest) (dCut t u):=(iQ h1 h2).imp λE σ H ⟨φ,ρ,μ,N,A,M,⟨P,w1,w2⟩,L⟩ =>
 ⟨φ,ρ,μ,_,A,M,w1,⟨λj7 gc gG ji H' k f A' M'=>⟨gG,j7,gc,N,A',M',w2 j7 gc k,L.mono f⟩,L.rt,L.bk,L.ct⟩⟩
def fW {t:Ds}(h:yy X st t):Jh X [st] t:=lF h
def WT (w:De):Ds:=λN ρ μ=>w ρ μ λ_ gc=>N.nx ρ gc
def DR {w:De}(h:PD X e w)(hs:swapsWith e none pos.line X.env=pure false:=by rfl):yy X (.Expr e pos) (WT w):=(NN h hs).imp λE σ H rB=>by obtain⟨φ,ρ,μ,N,A,M,w,L⟩:=rB;exact⟨φ,ρ,μ,_,A,M,w,λd gr gN v1 H1 k1 f1 M1 i1=>L.nx ρ gr gN σ H1 k1 f1 (A.mono f1) M1⟩
def WE (w:De):Ds:=λN ρ μ=>w ρ μ N.rt
def gA {w:De}(h:PD X e w):yy X (.Return (some e) pos) (WE w):=(og h).imp λE σ H rZ=>by obtain⟨φ,ρ,μ,N,A,M,w,L⟩:=rZ;exact⟨φ,ρ,μ,_,A,M,w,L.rt⟩
def T3 (c:Dt)(t u:Ds):Ds:=λN ρ μ=>c ρ μ λb gr=>if b=true then t N ρ gr else u N ρ gr
def jd {c:Expr}{body orelse:ao Stmt}{t:Dt}{u v:Ds}(hc:IQ X c t)(h1:Jh X body u)(h2:Jh X orelse v):yy X (.If c body orelse pos) (T3 t u v):=(uW hc h1 h2).imp λE σ H ⟨φ,ρ,μ,N,A,M,w,L⟩ =>
 ⟨φ,ρ,μ,_,A,M,w,λb gr gN H1 k1 f1 M1=>by
  cases b with
  |true=>exact⟨gN,ρ,gr,N,A.mono f1,M1,k1,L.mono f1⟩
  |false=>exact⟨gN,ρ,gr,N,A.mono f1,M1,k1,L.mono f1⟩⟩
def L8 (i:Nat)(w:De):Ds:=λN ρ μ=>w ρ μ λd gc=>N.nx (ρ.set i (some d)) gc
def Vi {i:Nat}{x:Str}{w:De}{pos':Pos}(hN:X.N.Nodup)(hi:X.N[i]?=some x)(hx:Loc X.env.scope x)(he:PD X e w)(hf:X.fn x=true\/X.env.scope.names.lookup x=some .local:=by first | exact .inl rfl | exact .inr rfl | assumption)
 (Lm:swapsWith e (some (.Name x pos')) pos.line X.env=pure false:=by rfl):yy X (.Assign [.Name x pos'] e pos) (L8 i w):=(uw (pos:=pos) (pos':=pos') hN hi hx he Lm hf).imp λE σ H ⟨φ,ρ,μ,N,A,M,w,L⟩=>
 ⟨φ,ρ,μ,_,A,M,w,λd gr gN v1 H1 k1 f1 M1 i1=>L.nx _ gr gN _ H1 k1 f1 ((A.mono f1).set i1 i) M1⟩
abbrev DG:=D->DE->MS->(DE->MS->Prop)->Prop
abbrev Uo:=ao D->DE->MS->(DE->MS->Prop)->Prop
def MC (g:TG)(w:DG)(S:ao Nat):Prop:=∀ φ H ρ σ μ d v K,kP φ H ρ σ->gC φ H μ->je φ H d v->w d ρ μ K->g v σ H λow H2=>H2=H/\ow.length=σ.length/\(∀ i,i∉S->ow[i]?=σ[i]?)/\∃ pV,kP φ H pV ow/\K pV μ
def Pz (g:zB)(w:Uo)(S:ao Nat):Prop:=∀ φ H ρ σ μ ds vs K,kP φ H ρ σ->gC φ H μ->fZ φ H ds vs->w ds ρ μ K->g vs σ H λow H2=>H2=H/\ow.length=σ.length/\(∀ i,i∉S->ow[i]?=σ[i]?)/\∃ pV,kP φ H pV ow/\K pV μ
def pP (g:TG):Prop:=∀ v σ H Q Q',(∀ ji H',Q ji H'->Q' ji H')->g v σ H Q->g v σ H Q'
def xU (g:zB):Prop:=∀ v σ H Q Q',(∀ ji H',Q ji H'->Q' ji H')->g v σ H Q->g v σ H Q'
def AS (i:Nat):DG:=λd ρ μ K=>K (ρ.set i (some d)) μ
def Wx (n:Nat)(t:Uo):DG:=λd ρ μ K=>match d with|.tup ds=>ds.length=n/\t ds ρ μ K|_=>False
def TF (t:DG)(u:Uo):Uo:=λds ρ μ K=>match ds with|d::r=>t d ρ μ λj7 gc=>u r j7 gc K|[]=>False
def Wy:Uo:=λds ρ μ K=>match ds with|[]=>K ρ μ|_=>False
def f9 (i:Nat):MC (tJ i) (AS i) [i]:=λφ H ρ σ μ d v K E M h w=>⟨rfl,bW,λj hj=>aQ (λz=>hj (by simp[z])),_,E.set h i,w⟩
def fL (i:Nat):pP (tJ i):=λv σ H Q Q' h q=>h _ _ q
def iP:Pz Pk Wy []:=λφ H ρ σ μ ds vs K E M h w=>by
 cases ds with
 |nil=>cases(show vs=[]from h);exact⟨rfl,rfl,λ_ _=>rfl,ρ,E,w⟩
 |cons d r=>exact w.elim
def fU:xU Pk:=λv σ H Q Q' h q=>by
 cases v with
 |nil=>exact h _ _ q
 |cons x r=>exact q
def fN {g:TG}{u:zB}(h1:pP g)(h2:xU u):xU (Ha g u):=λv σ H Q Q' h q=>by
 cases v with
 |nil=>exact q
 |cons x r=>exact h1 _ _ _ _ _ (λji H' q'=>h2 _ _ _ _ _ h q') q
def iB {n:Nat}{u:zB}(h2:xU u):pP (Pj n u):=λv σ H Q Q' h q=>by
 cases v with
 |ref a=>obtain⟨xs,e,l,q⟩:=q;exact⟨xs,e,l,h2 _ _ _ _ _ h q⟩
 |_=>exact q
def gb {g:TG}{u:zB}{w:DG}{y:Uo}{S T:ao Nat}(h1:MC g w S)(m1:pP g)(h2:Pz u y T)(m2:xU u):Pz (Ha g u) (TF w y) (S++T):=λφ H ρ σ μ ds vs K E M h k=>by
 cases ds with
 |nil=>exact k.elim
 | cons d r =>
  obtain⟨v,vr,rfl,hd,hr⟩:=h
  refine m1 _ _ _ _ _ (λPQ H1 qX=>?_) (h1 φ H ρ σ μ d v _ E M hd k)
  obtain⟨e1,l1,n1,ρ1,E1,k1⟩:=qX
  subst e1
  refine m2 _ _ _ _ _ (λow H2 qW=>?_) (h2 φ H1 ρ1 PQ μ r vr K E1 M hr k1)
  obtain⟨e2,l2,n2,pV,E2,k2⟩:=qW
  refine⟨e2,l2.trans l1,λi hi=>?_,pV,E2,k2⟩
  rw[n2 i (λz=>hi (aS _ z)),n1 i (λz=>hi (dN _ z))]
def iO {n:Nat}{u:zB}{y:Uo}{S:ao Nat}(h2:Pz u y S):MC (Pj n u) (Wx n y) S:=λφ H ρ σ μ d v K E M h k=>by
 cases d with
 | tup ds =>
  obtain⟨p,vs,rfl,hn,hp,ha⟩:=h
  exact⟨vs,hp,by rw[ha.len];exact k.1,h2 φ H ρ σ μ ds vs K E M ha k.2⟩
 |_=>exact k.elim
structure Tg (X:Cx)(tg:Expr)(g:TG)(w:DG)(S:List Nat):Prop where
 pg:PG X tg g
 so:MC g w S
 mo:pP g
def dAsg (w:De)(g:DG):Ds:=λN ρ μ=>w ρ μ λd gr=>g d ρ gr N.nx
def FD {tg:Expr}{w:De}{g:TG}{y:DG}{S:ao Nat}(he:PD X e w)(hg:Tg X tg g y S)(hs:swapsWithSole [tg] e pos.line X.env=pure false:=by rfl)(hw:swappedStores [tg] e X.env=pure none:=by rfl)
 (h1:(assignEach [tg] X.env).map (·.2)=[assign tg X.env]:=by rfl):yy X (.Assign [tg] e pos) (dAsg w y):=(ux he hg.pg hs hw h1).imp λE σ H ⟨φ,ρ,μ,N,A,M,w,L⟩=>
 ⟨φ,ρ,μ,_,A,M,w,λd gr gN v1 H1 k1 f1 M1 i1=>hg.mo _ _ _ _ _ (λow H2 ⟨e2,_,_,pV,E2,k2⟩=>by subst e2;exact L.nx pV gr gN ow _ k2 f1 E2 M1) (hg.so gN H1 ρ σ gr d v1 _ (A.mono f1) M1 i1 k1)⟩
def Xa (t:ET)(w:D->D->D->MS->(MS->Prop)->Prop):Prop:=∀ φ H o i v dO di d μ K Q,gC φ H μ->je φ H dO o->je φ H di i->je φ H d v->w dO di d μ K->(∀ gc H',K gc->Fr φ H φ H'->gC φ H' gc->Q H')->t o i v H Q
def LY:D->D->D->MS->(MS->Prop)->Prop:=λo i d μ K=>match o,i with
 |.mr k,.int j=>opt (yY μ k) λds=>opt (CB ds.length j) λn=>K (μ.set k (.lst (ds.set n d)))
 |_,_=>False
def Rt:Xa J2 LY:=λφ H o i v dO di d μ K Q M hO hi hd w q=>by
 unfold LY at w
 split at w
 .rename_i k j
  obtain⟨ds,em,w⟩:=hX w
  have em:=mh em
  obtain⟨p,hp,rfl⟩:=hO
  cases(show i=_ from hi)
  obtain⟨p',e1,vs,hv,ha⟩:=M.at_ k _ em
  rw[hp]at e1;cases e1
  obtain⟨n,en,w⟩:=hX w
  refine⟨vs,hv,fS (v:=n) (by rw[ha.len];exact en) ?_⟩
  have f:Fr φ H φ (upd H p (.lst (vs.set n v))):=.put (mw hp)
  exact q _ _ w f (M.put hp ⟨_,gh,(ha.set hd n).mono f⟩)
 .exact w.elim
def WY (w wo wi:De):Ds:=λN ρ μ=>w ρ μ λd gr=>wo ρ gr λo iE=>wi ρ iE λi rh=>LY o i d rh λML=>N.nx ρ ML
def DS {o i:Expr}{w wo wi:De}{pos':Pos}(he:PD X e w)(ho:PD X o wo)(hi:PD X i wi)
 (ha:∀ v,assign (.Subscript o i pos') X.env v=(do
   let ov <- holding [v] (eval o X.env)
   let iv <- holding [v,ov] (eval i X.env)
   standAt pos'
   holding [v,ov,iv] (setItem ov iv v)
   release [v,ov,iv] []):=by intro _;rfl) (hs:swapsWithSole [.Subscript o i pos'] e pos.line X.env=pure false:=by rfl) (hw:swappedStores [.Subscript o i pos'] e X.env=pure none:=by rfl)
 (h1:(assignEach [.Subscript o i pos'] X.env).map (·.2)=[assign (.Subscript o i pos') X.env]:=by rfl):yy X (.Assign [.Subscript o i pos'] e pos) (WY w wo wi):=(ux he (wZ ho hi setC ha) hs hw h1).imp λE σ H hq=>by
 obtain⟨φ,ρ,μ,N,A,M,w,L⟩:=hq
 refine⟨φ,ρ,μ,_,A,M,w,λd gr gN v1 H1 k1 f1 M1 i1=>?_⟩
 refine⟨gN,ρ,gr,_,A.mono f1,M1,k1,λd2 iE kQ v2 H2 k2 f2 M2 i2=>?_⟩
 refine⟨kQ,ρ,iE,_,A.mono (f1.trans f2),M2,k2,λd3 rh BE v3 H3 k3 f3 M3 i3=>?_⟩
 exact Rt BE H3 _ _ _ d2 d3 d rh _ _ M3 (i2.mono f3) i3 (i1.mono (f2.trans f3)) k3 λgc H' k4 f4 M4=>L.nx ρ gc BE σ H' k4 ((f1.trans (f2.trans f3)).trans f4) (A.mono ((f1.trans (f2.trans f3)).trans f4)) M4
def Xb (t:Py)(ro:sy):Prop:=∀ φ H x y dx dy μ K Q,gC φ H μ->je φ H dx x->je φ H dy y->ro dx dy μ K->wu φ H K Q->t x y H Q
def WW (i:Nat)(w:De)(ro:sy):Ds:=λN ρ μ=>match ρ[i]? with|some (some x)=>w ρ μ λy gr=>ro x y gr λz iE=>N.nx (ρ.set i (some z)) iE|_=>False
def BY {i:Nat}{x:Str}{w:De}{op:Operator}{ti:Py}{ro:sy}{pos':Pos}(hN:X.N.Nodup)(hi:X.N[i]?=some x)(hx:Loc X.env.scope x)(he:PD X e w)(ho:Uk X op ti)(so:Xb ti ro)(hf:X.fn x=true\/X.env.scope.names.lookup x=some .local:=by first | exact .inl rfl | exact .inr rfl | assumption):
 yy X (.AugAssign (.Name x pos') op e pos) (WW i w ro):=(RR (pos:=pos) (pos':=pos') hN hi hx he ho hf).imp λE σ H hq=>by
 obtain⟨φ,ρ,μ,N,A,M,w,L⟩:=hq
 unfold WW at w
 split at w
 .rename_i d hd
  obtain⟨v,hv,ZF⟩:=A.2 i d hd
  refine⟨v,hv,φ,ρ,μ,_,A,M,w,λd1 gr gN v1 H1 k1 f1 M1 i1=>?_⟩
  exact so gN H1 _ _ d d1 gr _ _ M1 (ZF.mono f1) i1 k1 λd2 iE kQ v2 H2 k2 f2 M2 i2=>L.nx _ iE kQ _ H2 k2 (f1.trans f2) ((A.mono (f1.trans f2)).set i2 i) M2
 .exact w.elim
def TX (c:Dt)(b:Ds):Ds:=λN ρ μ=>∃ W:Nat->DE->MS->Prop,(∃ m,W m ρ μ)/\∀ m ρ μ,W m ρ μ ->
 c ρ μ λt gr=>if t=true then b { N with nx:=λj7 gc=>∃ m',m'<m/\W m' j7 gc,ct:=λj7 gc=>∃ m',m'<m/\W m' j7 gc,bk:=N.nx} ρ gr else N.nx ρ gr
def FA {c:Expr}{body:ao Stmt}{t:Dt}{u:Ds}(hp:PassesOwn (model X.prog X.w) X.A X.env X.xe)(hc:IQ X c t)(hb:Jh X body u):yy X (.While c body [] pos) (TX t u):=(Ke hp hc hb).imp λE σ H ⟨φ,ρ,μ,N,A,M,⟨W,⟨m0,w0⟩,turn⟩,L⟩=>by
 refine⟨λm ji H'=>∃ gG j7 gc,Fr φ H gG H'/\kP gG H' j7 ji/\gC gG H' gc/\W m j7 gc,⟨m0,φ,ρ,μ,.refl _ _,A,M,w0⟩,?_⟩
 rintro m ji H' ⟨gG,j7,gc,f',A',M',w'⟩
 refine⟨gG,j7,gc,_,A',M',turn m j7 gc w',λb gr gN H1 k1 f1 M1=>?_⟩
 cases b with
 | true =>
  refine⟨λow H2=>∃ m',m'<m/\∃ kQ pV iE,Fr φ H kQ H2/\kP kQ H2 pV ow/\gC kQ H2 iE/\W m' pV iE,λow H2 q=>q,gN,j7,gr,_,A'.mono f1,M1,k1,?_⟩
  have nx:Q8 gN H1 (λj7 gc=>∃ m',m'<m/\W m' j7 gc) λow H2=>∃ m',m'<m/\∃ kQ pV iE,Fr φ H kQ H2/\kP kQ H2 pV ow/\gC kQ H2 iE/\W m' pV iE:=λpV iE kQ ow H2 ⟨m',hm,w2⟩ f2 A2 M2=>⟨m',hm,kQ,pV,iE,(f'.trans f1).trans f2,A2,M2,w2⟩
  exact⟨nx,L.rt.mono (f'.trans f1),L.nx.mono (f'.trans f1),nx⟩
 |false=>exact L.nx j7 gr gN ji H1 k1 (f'.trans f1) (A'.mono f1) M1
def Wk (J:It)(φ:ao ai)(H:Hp)(ds:ao D)(c:MS->Prop):Prop:=∀ gG H' gc,Fr φ H gG H'->gC gG H' gc->c gc->∀ i,
 (∀ d,ds[i]?=some d->J.go i H'/\∀ x PH,J.Ju i H' x PH->Fr gG H' gG PH/\gC gG PH gc/\je gG PH d x)/\(i=ds.length->J.stop i H')
abbrev DI:=DE->MS->(ao D->(MS->Prop)->MS->Prop)->Prop
def YD (w:DI):TI:=λσ H R=>∃ φ ρ μ K,kP φ H ρ σ/\gC φ H μ/\w ρ μ K/\∀ ds c gc gG J H',K ds c gc->Fr φ H gG H'->gC gG H' gc->Wk J gG H' ds c->R J H'
abbrev Hg (X:Cx)(tg iter:Expr)(w:DI):Prop:=PI X tg iter (YD w)
def PI.imp {tg iter:Expr}{t t':TI}(h:PI X tg iter t)(hi:∀ σ H Q,t' σ H Q->t σ H Q):PI X tg iter t':=λfI s σ H Q I q=>h fI s σ H Q I (hi σ H Q q)
def CK (g:DG)(b:Ds)(N:DN)(c:MS->Prop):ao D->DE->MS->Prop
 |[],ρ,μ=>c μ/\N.nx ρ μ
 |d::ds,ρ,μ=>c μ/\g d ρ μ λpV iE=>b { N with nx:=λj7 gc=>CK g b N c ds j7 gc,ct:=λj7 gc=>CK g b N c ds j7 gc,bk:=N.nx} pV iE
def dFor (wi:DI)(g:DG)(b:Ds):Ds:=λN ρ μ=>wi ρ μ λds c gr=>CK g b N c ds ρ gr
def m7 {tg iter:Expr}{body:ao Stmt}{wi:DI}{g:TG}{y:DG}{S:ao Nat}{u:Ds}(hp:PassesOwn (model X.prog X.w) X.A X.env X.xe)(hc:X.gY=true)(hi:Hg X tg iter wi)(hg:Tg X tg g y S)(hb:Jh X body u)
 (hs:∀ x,foldedSetIterable iter X.env x=pure x:=by intro _;rfl):yy X (.For tg iter body [] pos) (dFor wi y u):=(RP hp hc hi hg.pg hb hs).imp λE σ H hq=>by
 obtain⟨φ,ρ,μ,N,A,M,w,L⟩:=hq
 refine⟨φ,ρ,μ,_,A,M,w,λds c gr gN J H1 k1 f1 M1 wk=>?_⟩
 refine⟨λi m ji H'=>m=ds.length - i/\i<=ds.length/\∃ gG j7 gc,Fr gN H1 gG H'/\kP gG H' j7 ji/\gC gG H' gc/\CK y u N c (ds.drop i) j7 gc,⟨ds.length,rfl,bC _,gN,ρ,gr,.refl _ _,A.mono f1,M1,k1⟩,?_⟩
 rintro i m ji H' ⟨rfl,hi,gG,j7,gc,f',A',M',w'⟩
 by_cases mP:i<ds.length
 .rw[bu mP]at w'
  obtain⟨c',w'⟩:=w'
  obtain⟨go,Ju⟩:=(wk gG H' gc f' M' c' i).1 ds[i] (jk mP)
  refine .inr ⟨go,λow H2=>∃ kQ pV iE,Fr gN H1 kQ H2/\kP kQ H2 pV ow/\gC kQ H2 iE/\CK y u N c (ds.drop (i+1)) pV iE,λow H2 q=>⟨ds.length - (i+1),by lia,rfl,mP,q⟩,λx H2 hy=>?_⟩
  obtain⟨f2,M2,i2⟩:=Ju x H2 hy
  refine hg.mo _ _ _ _ _ (λFb H3 rZ=>?_) (hg.so gG H2 j7 ji gc _ x _ (A'.mono f2) M2 i2 w')
  obtain⟨e3,_,_,PR,E3,k3⟩:=rZ
  subst e3
  refine⟨gG,PR,gc,_,E3,M2,k3,?_⟩
  have nx:Q8 gG H3 (λj7 gc=>CK y u N c (ds.drop (i+1)) j7 gc) λow H2=>∃ kQ pV iE,Fr gN H1 kQ H2/\kP kQ H2 pV ow/\gC kQ H2 iE/\CK y u N c (ds.drop (i+1)) pV iE:=λpV iE kQ ow H2 w2 g2 A2 N2=>⟨kQ,pV,iE,(f'.trans f2).trans g2,A2,N2,w2⟩
  have ff:=f1.trans (f'.trans f2)
  exact⟨nx,L.rt.mono ff,L.nx.mono ff,nx⟩
 .have e:i=ds.length:=by lia
  subst e
  rw[List.drop_length]at w'
  exact .inl ⟨(wk gG H' gc f' M' w'.1 _).2 rfl,L.nx j7 gc gG ji H' w'.2 (f1.trans f') A' M'⟩
end
def oX (js:ao (aq Nat))(ρ:DE):DE:=js.map λo=>o.bind λj=>(ρ[j]?).join
def kP.ia {φ:ao ai}{H:Hp}{ρ:DE}{σ:St}(h:kP φ H ρ σ)(js:ao (aq Nat)):kP φ H (oX js ρ) (ia js σ):=by
 refine⟨by unfold oX L2.ia;rw[iu,iu],λi d e=>?_⟩
 unfold oX at e
 rw[oU]at e
 unfold L2.ia
 rw[oU]
 cases q:js[i]? with
 |none=>rw[q]at e;cases e
 | some o =>
  rw[q]at e
  cases o with
  |none=>cases e
  | some j =>
   have e':(ρ[j]?).join=some d:=aM e
   have e2:ρ[j]?=some (some d):=by
    cases z:ρ[j]? with
    |none=>rw[z]at e';cases e'
    |some y=>rw[z]at e';have:y=some d:=e';rw[this]
   obtain⟨v,hv,hd⟩:=h.2 j d e2
   refine⟨v,?_,hd⟩
   show some ((σ[j]?).join)=_
   rw[hv];rfl
def Q0 (ρ:DE)(y:DG)(t:Dt)(w:De)(d:D)(μ:MS)(K:aq D->MS->Prop):Prop:=y d ρ μ λpV iE=>t pV iE λb rh=>if b=true then w pV rh (λz ML=>K (some z) ML)else K none rh
def rE (it:D->MS->(aq D->MS->Prop)->Prop)(c:MS->Prop):ao D->MS->(ao D->MS->Prop)->Prop
 |[],μ,K=>c μ/\K [] μ
 |d::ds,μ,K=>c μ/\it d μ λo gr=>rE it c ds gr λys iE=>K (o.toList++ys) iE
def rl (S:ao Nat)(js:ao (aq Nat)):Bool:=S.all λi=>js[i]?==some none
def LM {js:ao (aq Nat)}{σ ow:St}{S:ao Nat}(ho:rl S js=true)(hl:ow.length=(ia js σ).length)(hn:∀ i,i∉S->ow[i]?=(ia js σ)[i]?):Ext (ia js σ) ow:=by
 refine⟨hl.symm,λi v e=>?_⟩
 by_cases hi:i∈S
 .have q:=List.all_eq_true.mp ho i hi
  have q':js[i]?=some none:=by simpa using q
  obtain⟨j,e1,_⟩:=xu e
  rw[q']at e1;cases e1
 .rw[hn i hi];exact e
def xN (m:Bool)(wi:DI)(js:ao (aq Nat))(y:DG)(t:Dt)(w:De):De:=λρ μ K=>wi ρ μ λds c gr=>ds.length<=sizeLine/\rE (Q0 (oX js ρ) y t w) c ds gr λys iE=>nL m ys iE K
def Fm {m:Bool}{wi:DI}{js:ao (aq Nat)}{g:TG}{y:DG}{S:ao Nat}{t:Dt}{w:De}(so:MC g y S)(mo:pP g)(ho:rl S js=true){σ:St}{H:Hp}{Q:VK}(h:tD (xN m wi js y t w) σ H Q):JK (YD wi) js g (yc t) (tD w) σ H Q:=by
 obtain⟨φ,ρ,μ,K,A,M,k,L⟩:=h
 refine⟨φ,ρ,μ,_,A,M,k,λds c gr gN J H1 k1 f1 M1 wk=>?_⟩
 obtain⟨hz,k1⟩:=k1
 refine⟨λi n ys H'=>n=ds.length - i/\i<=ds.length/\ys.length<=i/\∃ gG zs gc,Fr gN H1 gG H'/\fZ gG H' zs ys/\gC gG H' gc/\rE (Q0 (oX js ρ) y t w) c (ds.drop i) gc λr iE=>nL m (zs++r) iE K,
  ⟨ds.length,rfl,bC _,bC _,gN,[],gr,.refl _ _,rfl,M1,k1⟩,?_⟩
 rintro i n ys H' ⟨rfl,hi,hy,gG,zs,gc,f',Z',M',w'⟩
 by_cases mP:i<ds.length
 .rw[bu mP]at w'
  obtain⟨c',w'⟩:=w'
  obtain⟨go,Ju⟩:=(wk gG H' gc f' M' c' i).1 ds[i] (jk mP)
  refine .inr ⟨go,λx H2 Il=>?_⟩
  obtain⟨f2,M2,i2⟩:=Ju x H2 Il
  have E2:kP gG H2 (oX js ρ) (ia js σ):=((A.mono (f1.trans (f'.trans f2))).ia js)
  refine mo _ _ _ _ _ (λFb H3 qX=>?_) (so gG H2 _ _ gc _ x _ E2 M2 i2 w')
  obtain⟨e3,l3,n3,PR,E3,k3⟩:=qX
  refine⟨LM ho l3 n3,?_⟩
  subst e3
  refine⟨gG,PR,gc,_,E3,M2,k3,λb ML UX H4 k4 f4 M4=>?_⟩
  have ff:=f'.trans (f2.trans f4)
  cases b with
  | true =>
   refine⟨UX,PR,ML,_,E3.mono f4,M4,k4,λd5 UZ Ym v5 H5 k5 f5 M5 i5=>⟨by lia,ds.length - (i+1),by lia,rfl,mP,by rw[oq,bF];lia,Ym,zs++[d5],UZ,ff.trans f5,(Z'.mono (f2.trans (f4.trans f5))).app ⟨v5,[],rfl,i5,rfl⟩,M5,?_⟩⟩
   have e:(λr iE=>nL m (zs++[d5]++r) iE K)=λr iE=>nL m (zs++((some d5).toList++r)) iE K:=by funext r iE;rw[cG];rfl
   rw[e]
   exact k5
  | false =>
   exact⟨ds.length - (i+1),by lia,rfl,mP,by lia,UX,zs,ML,ff,Z'.mono (f2.trans f4),M4,k4⟩
 .have e:i=ds.length:=by lia
  subst e
  rw[List.drop_length]at w'
  refine .inl ⟨(wk gG H' gc f' M' w'.1 _).2 rfl,λp hp=>?_⟩
  have q:nL m (zs++[]) gc K:=w'.2
  rw[cy]at q
  exact IP (L.mono (f1.trans f')) M' Z' q hp
section
variable {X:Cx}{a b e:Expr}{es:ao Expr}{pos:Pos}
variable {N:ao Str}{js:ao (aq Nat)}{sc:Scope}{tg elt iter:Expr}{ifs:ao Expr}{g:TG}{y:DG}{S:ao Nat}{t:Dt}{w:De}
abbrev Bh (X:Cx)(ifs:ao Expr)(t:Dt):Prop:=ME X ifs (yc t)
def ME.imp {ifs:ao Expr}{t t':TT}(h:ME X ifs t)(hi:∀ σ H Q,t' σ H Q->t σ H Q):ME X ifs t':=λfI s σ H Q I q=>h fI s σ H Q I (hi σ H Q q)
def dYes:Dt:=λ_ μ K=>K true μ
def iK:Bh X [] dYes:=FJ.imp λσ H Q qW=>by obtain⟨φ,ρ,μ,K,A,M,k,L⟩:=qW;exact L true μ φ H k (.refl _ _) M
def p5 {c:Expr}(h:IQ X c t):Bh X [c] t:=NL h
def TR (m:Bool){wi:DI}(hc:kr X N js sc)(gY:X.gY=true)(so:MC g y S)(mo:pP g)(ho:rl S js=true)(hi:Hg X tg iter wi)(hg:∀ fp s H,PG (ou X N sc fp s H) tg g)(ht:∀ fp s H,Bh (ou X N sc fp s H) ifs t)(he:∀ fp s H,PD (ou X N sc fp s H) elt w)
 (hs:∀ x,foldedSetIterable iter X.env x=pure x:=by intro _;rfl):PD X (.ListComp elt [⟨tg,iter,ifs,0⟩] sc pos) (xN m wi js y t w):=(FQ hc gY hi hg ht he hs).imp λσ H Q q=>Fm so mo ho q
def Hy (m:Bool){wi:DI}{pos' wI:Pos}{i:Nat}{x:Str}(hc:kr X N js sc)(gY:X.gY=true)(so:MC g y S)(mo:pP g)(ho:rl S js=true)(hN:X.N.Nodup)(Es:X.N[i]?=some x)(hx:Loc X.env.scope x)(hi:Hg X tg iter wi)(hg:∀ fp s H,PG (ou X N sc fp s H) tg g)
 (ht:∀ fp s H,Bh (ou X N sc fp s H) ifs t) (he:∀ fp s H,PD (ou X N sc fp s H) elt w) (Lm:swapsWith (.ListComp elt [⟨tg,iter,ifs,0⟩] sc pos) (some (.Name x pos')) wI.line X.env=pure true:=by rfl)
 (hs:∀ x,foldedSetIterable iter X.env x=pure x:=by intro _;rfl) (hf:X.fn x=true\/X.env.scope.names.lookup x=some .local:=by first|exact .inl rfl|exact .inr rfl|assumption):
 yy X (.Assign [.Name x pos'] (.ListComp elt [⟨tg,iter,ifs,0⟩] sc pos) wI) (L8 i (xN m wi js y t w)):=(D0 hc gY hN Es hx hi hg ht he Lm hs hf).imp λE σ H ⟨φ,ρ,μ,N,A,M,w,L⟩=>
 Fm so mo ho ⟨φ,ρ,μ,_,A,M,w,λd gr gN v1 H1 k1 f1 M1 i1=>L.nx _ gr gN _ H1 k1 f1 ((A.mono f1).set i1 i) M1⟩
def dItL (w:De):DI:=λρ μ K=>w ρ μ λd gr=>opt (lv gr d) λds=>K ds (lc d ds) gr
def M9 {Kf:aa}{p:ai}{φ:ao ai}{H:Hp}{ds:ao D}{c:MS->Prop}(h:∀ gG H' gc,Fr φ H gG H'->gC gG H' gc->c gc->∃ vs,H' p=some (.lst vs)/\fZ gG H' ds vs):Wk (Itl Kf p) φ H ds c:=λgG H' gc f M c' i=>by
 obtain⟨vs,hp,ha⟩:=h gG H' gc f M c'
 refine⟨λd hd=>?_,λhi=>⟨vs,pF.of hp,by rw[ha.len,hi];exact ar _⟩⟩
 obtain⟨v,hv,hi⟩:=ha.get hd
 refine⟨⟨vs,v,pF.of hp,hv⟩,λx PH hy=>?_⟩
 obtain⟨rfl,hy⟩:=hy
 have e:=hy vs (pF.of hp)
 rw[hv]at e;cases e
 exact⟨.refl _ _,M,hi⟩
def jA {w:De}(h:PD X a w):Hg X tg a (dItL w):=(NV h).imp λσ H Q hq=>by
 obtain⟨φ,ρ,μ,K,A,M,k,L⟩:=hq
 refine⟨φ,ρ,μ,_,A,M,k,λd gr gN v1 H1 k1 f1 M1 i1=>?_⟩
 obtain⟨ds,el,k1⟩:=hX k1
 obtain⟨p,vs,rfl,hp,ha⟩:=jY M1 i1 el
 exact⟨p,rfl,⟨vs,pF.of hp⟩,L ds _ gr gN _ H1 k1 f1 M1 (M9 λgG H' gc f M c=>qH M1 i1 el f M c)⟩
def lP (lo:Int)(n:Nat):ao D:=(List.range n).map λi=>D.int (lo+(i:Nat))
def BL {lo:Int}{n:Nat}{φ:ao ai}{H:Hp}:Wk (Xi lo n) φ H (lP lo n) λ_=>True:=λgG H' gc f M _ i=>by
 have hl:(lP lo n).length=n:=by unfold lP;rw[iu,u7]
 refine⟨λd hd=>?_,λhi=>by rw[hl]at hi;exact Nat.le_of_eq hi.symm⟩
 have hi:i<n:=by have:=(kM hd).1;lia
 refine⟨hi,λx PH hy=>?_⟩
 obtain⟨rfl,rfl⟩:=hy
 refine⟨.refl _ _,M,?_⟩
 unfold lP at hd
 rw[oU,bB hi]at hd
 cases hd
 rfl
def WQ (w:DA):DI:=λρ μ K=>w ρ μ λds gr=>match ds with
 |[.int j]=> -(2 ^ 62)<=j/\j<2 ^ 62/\K (lP 0 j.toNat) (λ_=>True) gr
 |_=>False
def WO (w:DA):DI:=λρ μ K=>w ρ μ λds gr=>match ds with
 |[.int i,.int j]=>(-(2 ^ 62)<=i/\i<2 ^ 62 /\ -(2 ^ 62)<=j/\j<2 ^ 62)/\K (lP i (j - i).toNat) (λ_=>True) gr
 |_=>False
def iX {w:DA}{p:Pos}(hg:Gl X "range")(hm:X.mg "range"=none)(ha:vB X [a] w)(hs:starEach [a] X.env=[(false,eval a X.env)]:=by rfl):Hg X tg (.Call (.Name "range" p) [a] [] pos) (WQ w):=(HC hg hm ha hs).imp λσ H Q hq=>by
 obtain⟨φ,ρ,μ,K,A,M,k,L⟩:=hq
 refine⟨φ,ρ,μ,_,A,M,k,λds gr gN vs H1 k1 f1 M1 i1=>?_⟩
 split at k1
 .obtain⟨v,r,rfl,h1,h2⟩:=i1
  cases(show v=_ from h1);cases(show r=[]from h2)
  exact⟨_,rfl,k1.1,k1.2.1,L _ _ gr gN _ H1 k1.2.2 f1 M1 BL⟩
 .exact k1.elim
def oI {w:DA}{p:Pos}(hg:Gl X "range")(hm:X.mg "range"=none)(ha:vB X [a,b] w)(hs:starEach [a,b] X.env=[(false,eval a X.env),(false,eval b X.env)]:=by rfl)(tE:starEach [b] X.env=[(false,eval b X.env)]:=by rfl):Hg X tg (.Call (.Name "range" p) [a,b] [] pos) (WO w):=(HB hg hm ha hs tE).imp λσ H Q hq=>by
 obtain⟨φ,ρ,μ,K,A,M,k,L⟩:=hq
 refine⟨φ,ρ,μ,_,A,M,k,λds gr gN vs H1 k1 f1 M1 i1=>?_⟩
 split at k1
 .obtain⟨v,r,rfl,h1,u,r',rfl,h2,h3⟩:=i1
  cases(show v=_ from h1);cases(show u=_ from h2);cases(show r'=[]from h3)
  exact⟨_,_,rfl,k1.1,L _ _ gr gN _ H1 k1.2 f1 M1 BL⟩
 .exact k1.elim
end
mutual
def Ge (n:Nat):D->Prop
 |.lst ds=>uh n ds
 |.tup ds=>uh n ds
 |.jC _ ds=>uh n ds
 |.mr k=>k<n
 |.obj _ _ ds=>uh n ds
 |.rC _ ds=>uh n ds
 |_=>True
def uh (n:Nat):List D->Prop
 |[]=>True
 |d::ds=>Ge n d/\uh n ds
end
def Aq (n:Nat):MO->Prop
 |.box=>True
 |.lst ds=>uh n ds
 |.jC _ ds=>uh n ds
 |.vw _ _ ds=>uh n ds
 |.ins _ _ ds=>uh n ds
 |.lA _ ds=>uh n ds
 |.gx jh _=>jh.length<=n
 |.exc _=>True
def Fr.PZ {jh φ:ao ai}{H0 H:Hp}{n:Nat}(f:Fr jh H0 φ H)(h:jh.length<=n):Fr jh H0 (φ.take n) H:=by
 obtain⟨⟨ψ,rfl,Ij⟩,k,d⟩:=f
 exact⟨⟨ψ.take (n - jh.length),by rw[List.take_append,bQ h],λc hc=>Ij c (ba hc)⟩,k,d⟩
def Fr.Y3 {jh φ:ao ai}{H0 H:Hp}{j:Nat}{p:ai}(f:Fr jh H0 φ H)(h:jh.length<=j)(hp:φ[j]?=some p):H0 p=none:=by
 obtain⟨⟨ψ,rfl,Ij⟩,k,d⟩:=f
 rw[pX h]at hp
 exact Ij p (mw hp)
def Fr.U3 {jh φ:ao ai}{H0 H:Hp}{n:Nat}{p:ai}(f:Fr jh H0 φ H)(h:jh.length<=n)(hp:H0 p=none):Fr jh H0 (φ.take n++[p]) H:=by
 obtain⟨⟨ψ,e,Ij⟩,k,d⟩:=f.PZ h
 exact⟨⟨ψ++[p],by rw[e,cG],λc hc=>by rcases List.mem_append.mp hc with z|z;exact Ij c z;rw[List.mem_singleton.mp z];exact hp⟩,k,d⟩
mutual
def je.kF {n:Nat}{φ:List ai}{H:Hp}:∀ {d:D} {v:V},Ge n d->je φ H d v->je (φ.take n) H d v
 |.iq,_,_,h=>h
 |.bl _,_,_,h=>h
 |.int _,_,_,h=>h
 |.str _,_,_,h=>h
 |.lst _,_,m,h=>by obtain⟨p,vs,e,nn,hp,q⟩:=h;exact⟨p,vs,e,λz=>nn (ba z),hp,fZ.kF m q⟩
 |.tup _,_,m,h=>by obtain⟨p,vs,e,nn,hp,q⟩:=h;exact⟨p,vs,e,λz=>nn (ba z),hp,fZ.kF m q⟩
 |.jC _ _,_,m,h=>by obtain⟨p,kvs,vs,e,nn,hp,q1,q2,q⟩:=h;exact⟨p,kvs,vs,e,λz=>nn (ba z),hp,q1,q2,fZ.kF m q⟩
 |.mr k,_,m,h=>by obtain⟨p,e,q⟩:=h;exact⟨p,by rw[bT m];exact e,q⟩
 |.obj _ _ _,_,m,h=>by obtain⟨p,dx,fs,vs,e,nn,hp,q1,q2,q⟩:=h;exact⟨p,dx,fs,vs,e,λz=>nn (ba z),hp,q1,q2,fZ.kF m q⟩
 |.rC _ _,_,m,h=>by obtain⟨p,dx,fs,vs,e,nn,hp,q1,q2,q⟩:=h;exact⟨p,dx,fs,vs,e,λz=>nn (ba z),hp,q1,q2,fZ.kF m q⟩
 |.fn _,_,_,h=>h
def fZ.kF {n:Nat}{φ:List ai}{H:Hp}:∀ {ds:List D} {vs:List V},uh n ds->fZ φ H ds vs->fZ (φ.take n) H ds vs
 |[],_,_,h=>h
 |_::_,_,m,h=>by obtain⟨v,r,e,h1,h2⟩:=h;exact⟨v,r,e,je.kF m.1 h1,fZ.kF m.2 h2⟩
end
def gC.kF {n:Nat}{φ:ao ai}{H:Hp}{μ:MS}(h:gC φ H μ)(hm:∀(k:Nat) (m:MO),k<n->μ[k]?=some m->Aq n m):gC (φ.take n) H (μ.take n):=by
 refine⟨h.nd.sublist (List.take_sublist _ _),by rw[bH,bH,h.len],λk m e=>?_⟩
 have hk:k<n:=by have:=(kM e).1;rw[bH]at this;lia
 rw[bT hk]at e
 obtain⟨p,e1,e2⟩:=h.at_ k m e
 refine⟨p,by rw[bT hk];exact e1,?_⟩
 have hb:=hm k m hk e
 cases m with
 |box=>obtain⟨q,ns,i,r,z,h1,h2,h3,h4⟩:=e2;exact⟨q,ns,i,r,z,h1,h2,λz=>h3 (ba z),h4⟩
 |lst ds=>obtain⟨vs,h1,h2⟩:=e2;exact⟨vs,h1,h2.kF hb⟩
 |jC ks ds=>obtain⟨kvs,vs,h1,h2,h3,h4⟩:=e2;exact⟨kvs,vs,h1,h2,h3,h4.kF hb⟩
 |vw o kvs ds=>exact⟨e2.1,e2.2.kF hb⟩
 |ins C ns ds=>obtain⟨dx,fs,h1,h2,h3⟩:=e2;exact⟨dx,fs,h1,h2,h3.kF hb⟩
 |lA ks ds=>obtain⟨kvs,h1,h2,h3⟩:=e2;exact⟨kvs,h1,h2,h3.kF hb⟩
 |gx jh H0=>exact⟨e2.1.PZ hb,e2.2⟩
 |exc c=>exact e2
mutual
def je.bound {φ:List ai}{H:Hp}:∀ {d:D} {v:V},je φ H d v->Ge φ.length d
 |.iq,_,_=>True.intro
 |.bl _,_,_=>True.intro
 |.int _,_,_=>True.intro
 |.str _,_,_=>True.intro
 |.lst _,_,h=>by obtain⟨p,vs,e,nn,hp,q⟩:=h;exact fZ.bound q
 |.tup _,_,h=>by obtain⟨p,vs,e,nn,hp,q⟩:=h;exact fZ.bound q
 |.jC _ _,_,h=>by obtain⟨p,kvs,vs,e,nn,hp,q1,q2,q⟩:=h;exact fZ.bound q
 |.mr k,_,h=>by obtain⟨p,e,q⟩:=h;exact(kM e).1
 |.obj _ _ _,_,h=>by obtain⟨p,dx,fs,vs,e,nn,hp,q1,q2,q⟩:=h;exact fZ.bound q
 |.rC _ _,_,h=>by obtain⟨p,dx,fs,vs,e,nn,hp,q1,q2,q⟩:=h;exact fZ.bound q
 |.fn _,_,_=>True.intro
def fZ.bound {φ:List ai}{H:Hp}:∀ {ds:List D} {vs:List V},fZ φ H ds vs->uh φ.length ds
 |[],_,_=>True.intro
 |_::_,_,h=>by obtain⟨v,r,e,h1,h2⟩:=h;exact⟨je.bound h1,fZ.bound h2⟩
end
def gC.bound {φ:ao ai}{H:Hp}{μ:MS}(h:gC φ H μ):∀(k:Nat) (m:MO),μ[k]?=some m->Aq μ.length m:=λk m e=>by
 obtain⟨p,e1,e2⟩:=h.at_ k m e
 rw[<- h.len]
 cases m with
 |box=>exact True.intro
 |lst ds=>obtain⟨vs,h1,h2⟩:=e2;exact h2.bound
 |jC ks ds=>obtain⟨kvs,vs,h1,h2,h3,h4⟩:=e2;exact h4.bound
 |vw o kvs ds=>exact e2.2.bound
 |ins C ns ds=>obtain⟨dx,fs,h1,h2,h3⟩:=e2;exact h3.bound
 |lA ks ds=>obtain⟨kvs,h1,h2,h3⟩:=e2;exact h3.bound
 |gx jh H0=>obtain⟨⟨ψ,e,_⟩,_⟩:=e2.1;show jh.length<=φ.length;rw[e,oq];lia
 |exc c=>exact True.intro
def ma {n:Nat}{gG:ao ai}{p q:ai}(hp:p∈gG)(h:q∉gG):q∉gG.take n++[p]:=λz=>by
 rcases List.mem_append.mp z with z|z
 .exact h (ba z)
 .exact h (by rw[List.mem_singleton.mp z];exact hp)
mutual
def je.addP {n:Nat}{gG:List ai}{H:Hp}{p:ai}(hp:p∈gG):∀ {d:D} {v:V},Ge n d->je gG H d v->je (gG.take n++[p]) H d v
 |.iq,_,_,h=>h
 |.bl _,_,_,h=>h
 |.int _,_,_,h=>h
 |.str _,_,_,h=>h
 |.lst _,_,m,h=>by obtain⟨q,vs,e,nn,hq,z⟩:=h;exact⟨q,vs,e,ma hp nn,hq,fZ.pO hp m z⟩
 |.tup _,_,m,h=>by obtain⟨q,vs,e,nn,hq,z⟩:=h;exact⟨q,vs,e,ma hp nn,hq,fZ.pO hp m z⟩
 |.jC _ _,_,m,h=>by obtain⟨q,kvs,vs,e,nn,hq,q1,q2,z⟩:=h;exact⟨q,kvs,vs,e,ma hp nn,hq,q1,q2,fZ.pO hp m z⟩
 | .mr k,_,m,h=>by
  obtain⟨q,e,z⟩:=h
  have hk:k<(gG.take n).length:=by rw[bH];have:=(kM e).1;have m':k<n:=m;lia
  exact⟨q,by rw[vR hk,bT m];exact e,z⟩
 |.obj _ _ _,_,m,h=>by obtain⟨q,dx,fs,vs,e,nn,hq,q1,q2,z⟩:=h;exact⟨q,dx,fs,vs,e,ma hp nn,hq,q1,q2,fZ.pO hp m z⟩
 |.rC _ _,_,m,h=>by obtain⟨q,dx,fs,vs,e,nn,hq,q1,q2,z⟩:=h;exact⟨q,dx,fs,vs,e,ma hp nn,hq,q1,q2,fZ.pO hp m z⟩
 |.fn _,_,_,h=>h
def fZ.pO {n:Nat}{gG:List ai}{H:Hp}{p:ai}(hp:p∈gG):∀ {ds:List D} {vs:List V},uh n ds->fZ gG H ds vs->fZ (gG.take n++[p]) H ds vs
 |[],_,_,h=>h
 |_::_,_,m,h=>by obtain⟨v,r,e,h1,h2⟩:=h;exact⟨v,r,e,je.addP hp m.1 h1,fZ.pO hp m.2 h2⟩
end
def ug (R:D->D->Prop)(ds es:ao D):Prop:=ds.length=es.length/\∀(i:Nat) (a b:D),ds[i]?=some a->es[i]?=some b->R a b
def Bj (n:Nat)(μ:MS):Nat->D->D->Prop
 |0,d,d'=>d'=d/\Ge n d
 |k+1,d,d'=>(d'=d/\Ge n d)\/(∃ j ds es,d=.mr j/\n<=j/\μ[j]?=some (.lst ds)/\d'=.lst es/\ug (Bj n μ k) ds es)\/(∃ ds es,d=.lst ds/\d'=.lst es/\ug (Bj n μ k) ds es)\/(∃ ds es,d=.tup ds/\d'=.tup es/\ug (Bj n μ k) ds es)\/(∃ j ks ds es,d=.mr j/\n<=j/\μ[j]?=some (.jC ks ds)/\d'=.jC ks es/\ug (Bj n μ k) ds es)
def fZ.yU {φ:ao ai}{H:Hp}:∀ {ds:ao D} {vs:ao V},ds.length=vs.length->(∀(i:Nat) (d:D) (v:V),ds[i]?=some d->vs[i]?=some v->je φ H d v)->fZ φ H ds vs
 | [],vs,hl,_=>by cases vs with
  |nil=>rfl
  |cons v r=>simp at hl
 | d::ds,vs,hl,h=>by cases vs with
  |nil=>simp at hl
  |cons v r=>exact⟨v,r,rfl,h 0 d v rfl rfl,fZ.yU (by simpa using hl) λi a b e1 e2=>h (i+1) a b (by simpa using e1) (by simpa using e2)⟩
def Bj.is {n:Nat}{φ:ao ai}{H:Hp}{μ:MS}(M:gC φ H μ)(FZ:∀ {j:Nat} {p:ai},n<=j->φ[j]?=some p->p∉φ.take n):∀ {k:Nat} {d d':D} {v:V},Bj n μ k d d'->je φ H d v->je (φ.take n) H d' v:=by
 intro k
 induction k with
 |zero=>intro d d' v h i;obtain⟨rfl,hb⟩:=h;exact i.kF hb
 | succ k ih =>
  have all:∀ {ds es:ao D} {vs:ao V},ug (Bj n μ k) ds es->fZ φ H ds vs->fZ (φ.take n) H es vs:=λ{ds es vs} ha hd =>
   fZ.yU (by rw[hd.len,ha.1]) λi b v e1 e2=>by
    obtain⟨a,e3,hv⟩:=hd.CH e2
    exact ih (ha.2 i a b e3 e1) hv
  intro d d' v h i
  rcases h with⟨rfl,hb⟩|⟨j,ds,es,rfl,hj,e,rfl,ha⟩|⟨ds,es,rfl,rfl,ha⟩|⟨ds,es,rfl,rfl,ha⟩|⟨j,ks,ds,es,rfl,hj,e,rfl,ha⟩
  .exact i.kF hb
  .obtain⟨p,hp,rfl⟩:=i
   obtain⟨p',e1,vs,hv,hd⟩:=M.at_ j _ e
   rw[hp]at e1;cases e1
   exact⟨p,vs,rfl,FZ hj hp,hv,all ha hd⟩
  .obtain⟨p,vs,rfl,hn,hp,hd⟩:=i
   exact⟨p,vs,rfl,λz=>hn (ba z),hp,all ha hd⟩
  .obtain⟨p,vs,rfl,hn,hp,hd⟩:=i
   exact⟨p,vs,rfl,λz=>hn (ba z),hp,all ha hd⟩
  .obtain⟨p,hp,rfl⟩:=i
   obtain⟨p',e1,kvs,vs,hv,h1,h2,hd⟩:=M.at_ j _ e
   rw[hp]at e1;cases e1
   exact⟨p,kvs,vs,rfl,FZ hj hp,hv,h1,h2,all ha hd⟩
def Bk (n:Nat)(μ:MS):Nat->D->D->Prop
 |0,d,d'=>d'=d/\Ge n d
 |k+1,d,d'=>(d'=d/\Ge n d)\/(∃ j ds es,d=.mr j/\n<=j/\μ[j]?=some (.lst ds)/\d'=.lst es/\ug (Bk n μ k) ds es)\/(∃ ds es,d=.lst ds/\d'=.lst es/\ug (Bk n μ k) ds es)\/(∃ ds es,d=.tup ds/\d'=.tup es/\ug (Bk n μ k) ds es)\/(∃ j o kvs ds es,d=.mr j/\n<=j/\μ[j]?=some (.vw o kvs ds)/\d'=.rC (kvs.map (·.1)) es/\ug (Bk n μ k) ds es)\/(∃ j C ns ds es,d=.mr j/\n<=j/\μ[j]?=some (.ins C ns ds)/\d'=.obj C ns es/\ug (Bk n μ k) ds es)
def Bk.is {n:Nat}{φ:ao ai}{H:Hp}{μ:MS}(M:gC φ H μ)(FZ:∀ {j:Nat} {p:ai},n<=j->φ[j]?=some p->p∉φ.take n):∀ {k:Nat} {d d':D} {v:V},Bk n μ k d d'->je φ H d v->je (φ.take n) H d' v:=by
 intro k
 induction k with
 |zero=>intro d d' v h i;obtain⟨rfl,hb⟩:=h;exact i.kF hb
 | succ k ih =>
  have all:∀ {ds es:ao D} {vs:ao V},ug (Bk n μ k) ds es->fZ φ H ds vs->fZ (φ.take n) H es vs:=λ{ds es vs} ha hd =>
   fZ.yU (by rw[hd.len,ha.1]) λi b v e1 e2=>by
    obtain⟨a,e3,hv⟩:=hd.CH e2
    exact ih (ha.2 i a b e3 e1) hv
  intro d d' v h i
  rcases h with⟨rfl,hb⟩|⟨j,ds,es,rfl,hj,e,rfl,ha⟩|⟨ds,es,rfl,rfl,ha⟩|⟨ds,es,rfl,rfl,ha⟩|⟨j,o,kvs,ds,es,rfl,hj,e,rfl,ha⟩|⟨j,C,ns,ds,es,rfl,hj,e,rfl,ha⟩
  .exact i.kF hb
  .obtain⟨p,hp,rfl⟩:=i
   obtain⟨p',e1,vs,hv,hd⟩:=M.at_ j _ e
   rw[hp]at e1;cases e1
   exact⟨p,vs,rfl,FZ hj hp,hv,all ha hd⟩
  .obtain⟨p,vs,rfl,hn,hp,hd⟩:=i
   exact⟨p,vs,rfl,λz=>hn (ba z),hp,all ha hd⟩
  .obtain⟨p,vs,rfl,hn,hp,hd⟩:=i
   exact⟨p,vs,rfl,λz=>hn (ba z),hp,all ha hd⟩
  .obtain⟨p,hp,rfl⟩:=i
   obtain⟨p',e1,hv,hd⟩:=M.at_ j _ e
   rw[hp]at e1;cases e1
   exact⟨p,o,kvs,_,rfl,FZ hj hp,hv,rfl,rfl,all ha hd⟩
  .obtain⟨p,hp,rfl⟩:=i
   obtain⟨p',e1,dx,fs,hv,h1,hd⟩:=M.at_ j _ e
   rw[hp]at e1;cases e1
   exact⟨p,dx,fs,_,rfl,FZ hj hp,hv,h1,rfl,all ha hd⟩
inductive Fz (n:Nat)(K:DK):DK where
 |keep {d μ} (k:K d μ):Fz n K d μ
 |drop {d μ} (hd:Ge n d) (hm:∀(j:Nat) (m:MO),j<n->μ[j]?=some m->Aq n m) (k:K d (μ.take n)):Fz n K d μ
 |lst {j ds μ} (hj:n<=j) (e:μ[j]?=some (.lst ds)) (hd:uh n ds) (hm:∀(j:Nat) (m:MO),j<n->μ[j]?=some m->Aq n m) (k:K (.lst ds) (μ.take n)):Fz n K (.mr j) μ
 |one {j ds μ} (hj:n<=j) (e:μ[j]?=some (.lst ds)) (hd:uh n ds) (hm:∀(j:Nat) (m:MO),j<n->μ[j]?=some m->Aq n m) (k:K (.mr n) (μ.take n++[.lst ds])):Fz n K (.mr j) μ
 |deep {f d d' μ} (e:Bj n μ f d d') (hm:∀(j:Nat) (m:MO),j<n->μ[j]?=some m->Aq n m) (k:K d' (μ.take n)):Fz n K d μ
 |jC {j ks ds μ} (hj:n<=j) (e:μ[j]?=some (.jC ks ds)) (hd:uh n ds) (hm:∀(j:Nat) (m:MO),j<n->μ[j]?=some m->Aq n m) (k:K (.jC ks ds) (μ.take n)):Fz n K (.mr j) μ
 |obj {j C ns ds μ} (hj:n<=j) (e:μ[j]?=some (.ins C ns ds)) (hd:uh n ds) (hm:∀(j:Nat) (m:MO),j<n->μ[j]?=some m->Aq n m) (k:K (.obj C ns ds) (μ.take n)):Fz n K (.mr j) μ
 |rC {j o kvs ds μ} (hj:n<=j) (e:μ[j]?=some (.vw o kvs ds)) (hd:uh n ds) (hm:∀(j:Nat) (m:MO),j<n->μ[j]?=some m->Aq n m) (k:K (.rC (kvs.map (·.1)) ds) (μ.take n)):Fz n K (.mr j) μ
 |Wz {f d d' μ} (e:Bk n μ f d d') (hm:∀(j:Nat) (m:MO),j<n->μ[j]?=some m->Aq n m) (k:K d' (μ.take n)):Fz n K d μ
def wu.fz {φ:ao ai}{H:Hp}{μ:MS}{K:DK}{Q:VK}(M:gC φ H μ)(L:wu φ H K Q):wu φ H (Fz μ.length K) Q:=λd gc gG v H' k f M' i=>by
 have GP:gG.take μ.length=φ:=by
  obtain⟨⟨ψ,rfl,_⟩,_,_⟩:=f
  rw[<- M.len,cf]
 have f0:Fr φ H (gG.take μ.length) H':=by
  rw[GP]
  exact⟨⟨[],by simp,λ_ h=>nomatch h⟩,f.keep,f.X7⟩
 have FZ:∀ {j:Nat} {p:ai},μ.length<=j->gG[j]?=some p->p∉gG.take μ.length:=λ{j p} hj e hp=>by
  obtain⟨i,hi,ei⟩:=aX hp
  rw[bH]at hi
  rw[List.getElem_take]at ei
  obtain⟨Dw,ej⟩:=kM e
  exact List.pairwise_iff_getElem.mp M'.nd i j (by lia) Dw (by lia) (ei.trans ej.symm)
 cases k with
 |keep k=>exact L d gc gG v H' k f M' i
 |drop hd hm k=>exact L d _ _ v H' k f0 (M'.kF hm) (i.kF hd)
 | @lst j ds _ hj e hd hm k =>
  obtain⟨p,hp,rfl⟩:=i
  obtain⟨p',e1,vs,hv,ha⟩:=M'.at_ j _ e
  rw[hp]at e1;cases e1
  exact L _ _ _ _ H' k f0 (M'.kF hm) ⟨p,vs,rfl,FZ hj hp,hv,ha.kF hd⟩
 | @one j ds _ hj e hd hm k =>
  obtain⟨p,hp,rfl⟩:=i
  obtain⟨p',e1,vs,hv,ha⟩:=M'.at_ j _ e
  rw[hp]at e1;cases e1
  have M0:=M'.kF hm
  have hpn:p∉φ:=by have:=FZ hj hp;rwa [GP]at this
  have hH:H p=none:=by
   obtain⟨⟨ψ,rfl,Ij⟩,_,_⟩:=f
   refine Ij p ?_
   have q:=mw hp
   rcases List.mem_append.mp q with q|q
   .exact absurd q hpn
   .exact q
  have M1:gC (gG.take μ.length) H' (gc.take μ.length):=M0
  rw[GP]at M1
  have f1:Fr φ H (φ++[p]) H':=⟨⟨[p],rfl,λc hc=>by rw[List.mem_singleton.mp hc];exact hH⟩,f.keep,f.X7⟩
  have len:(gc.take μ.length).length=μ.length:=by rw[<- M1.len,M.len]
  have pin:p∈gG:=mw hp
  have ZF:fZ (φ++[p]) H' ds vs:=by
   have q:=fZ.pO pin hd ha
   rwa [GP]at q
  have M2:gC (φ++[p]) H' (gc.take μ.length++[.lst ds]):=by
   refine⟨?_,by rw[oq,oq,M1.len];rfl,λk m ek=>?_⟩
   .rw[fg]
    exact⟨M.nd,by simp,λa ha b hb=>by rw[List.mem_singleton.mp hb];intro z;exact hpn (by rw[<- z];exact ha)⟩
   .by_cases hk:k<μ.length
    .rw[vR (by rw[len];exact hk)]at ek
     rw[bT hk]at ek
     obtain⟨q,e1,e2⟩:=M'.at_ k m ek
     have e1':φ[k]?=some q:=by rw[<- GP,bT hk];exact e1
     refine⟨q,by rw[vR (by rw[M.len];exact hk)];exact e1',?_⟩
     have hb:=hm k m hk ek
     cases m with
     | box =>
      obtain⟨b,ns,i,r,z,h1,h2,h3,h4⟩:=e2
      exact⟨b,ns,i,r,z,h1,h2,by have:=ma (n:=μ.length) pin h3;rwa [GP]at this,h4⟩
     |lst es=>obtain⟨us,h1,h2⟩:=e2;exact⟨us,h1,by have:=fZ.pO pin hb h2;rwa [GP]at this⟩
     |jC ks es=>obtain⟨kvs,us,h1,h2,h3,h4⟩:=e2;exact⟨kvs,us,h1,h2,h3,by have:=fZ.pO pin hb h4;rwa [GP]at this⟩
     |vw o kvs es=>exact⟨e2.1,by have:=fZ.pO pin hb e2.2;rwa [GP]at this⟩
     |ins C ns es=>obtain⟨dx,fs,h1,h2,h3⟩:=e2;exact⟨dx,fs,h1,h2,by have:=fZ.pO pin hb h3;rwa [GP]at this⟩
     |lA ks es=>obtain⟨kvs,h1,h2,h3⟩:=e2;exact⟨kvs,h1,h2,by have:=fZ.pO pin hb h3;rwa [GP]at this⟩
     |gx jh H0=>exact⟨by have:=e2.1.U3 (n:=μ.length) hb (p:=p) (e2.1.Y3 (aW hb hj) hp);rwa [GP]at this,e2.2⟩
     |exc c=>exact e2
    .have Dv:k=μ.length:=by
      have:=(kM ek).1
      rw[oq,bF,len]at this
      lia
     subst Dv
     rw[pX (by rw[len];exact ar _),len,a6]at ek
     cases ek
     exact⟨p,by rw[pX (by rw[M.len];exact ar _),M.len,a6];rfl,vs,hv,ZF⟩
  exact L _ _ _ _ H' k f1 M2 ⟨p,by rw[pX (by rw[M.len];exact ar _),M.len,a6];rfl,rfl⟩
 |@deep f' d d' _ e hm k=>exact L _ _ _ _ H' k f0 (M'.kF hm) (e.is M' FZ i)
 | @jC j ks ds _ hj e hd hm k =>
  obtain⟨p,hp,rfl⟩:=i
  obtain⟨p',e1,kvs,vs,hv,h1,h2,ha⟩:=M'.at_ j _ e
  rw[hp]at e1;cases e1
  exact L _ _ _ _ H' k f0 (M'.kF hm) ⟨p,kvs,vs,rfl,FZ hj hp,hv,h1,h2,ha.kF hd⟩
 | @obj j C ns ds _ hj e hd hm k =>
  obtain⟨p,hp,rfl⟩:=i
  obtain⟨p',e1,dx,fs,h1,h2,h3⟩:=M'.at_ j _ e
  rw[hp]at e1;cases e1
  exact L _ _ _ _ H' k f0 (M'.kF hm) ⟨p,dx,fs,_,rfl,FZ hj hp,h1,h2,rfl,h3.kF hd⟩
 | @rC j o kvs ds _ hj e hd hm k =>
  obtain⟨p,hp,rfl⟩:=i
  obtain⟨p',e1,h1,h3⟩:=M'.at_ j _ e
  rw[hp]at e1;cases e1
  exact L _ _ _ _ H' k f0 (M'.kF hm) ⟨p,o,kvs,_,rfl,FZ hj hp,h1,rfl,rfl,h3.kF hd⟩
 |@Wz f' d d' _ e hm k=>exact L _ _ _ _ H' k f0 (M'.kF hm) (e.is M' FZ i)
def J0 (n:Nat)(K:DK):DN:={ nx:=λ_ gc=>Fz n K .iq gc,rt:=λd gc=>Fz n K d gc}
def um (N:ao Str)(ds:ao D):DE:=ds.map some++List.replicate (N.length - ds.length) none
def kP.start {φ:ao ai}{H:Hp}{N:ao Str}{ds:ao D}{vs:ao V}(h:fZ φ H ds vs):kP φ H (um N ds) (start N vs):=by
 have hl:=h.len
 unfold um L2.start
 refine⟨by simp[hl],λi d e=>?_⟩
 by_cases hi:i<ds.length
 .rw[vR (by rw[iu];exact hi),oU]at e
  have e':ds[i]?=some d:=by
   cases q:ds[i]? with
   |none=>rw[q]at e;cases e
   |some z=>rw[q]at e;cases e;rfl
  obtain⟨v,hv,hd⟩:=h.get e'
  exact⟨v,by rw[vR (by rw[iu];lia),oU,hv];rfl,hd⟩
 .rw[pX (by rw[iu];lia)]at e
  have:=mw e
  have:=List.eq_of_mem_replicate this
  cases this
section
variable {P:ae}{w:af}{K:aa}{mg:Str->aq ak}{fJ:Heap}
def j4.oQ {x qual:Str}{st:Stmt}{f:ai}{fd:ag}{N ps:ao Str}{k:Nat}{fs:j5}(F:j4 K x qual st f fd)(S:gm N ps (fP st))(len:∀ ds μ Kd,fs ds μ Kd->ds.length=ps.length)
 (xp:∀(jl:ak) (A:Around) (fT:ao Env) (s:ah) (H:Hp) (E:XK),jT k (A.deeper (envOfC qual (fP st) s.heap.objs.size f jl)) ->
   ∃ W,Jh (qZ kW P w K mg fJ N qual (fP st) f jl A fT s H E).VG (jP st) W/\∀ ds μ Kd,(∀(j:Nat) (m:MO),μ[j]?=some m->Aq μ.length m)->uh μ.length ds->fs ds μ Kd->W (J0 μ.length Kd) (um N ds) μ):gF P w K mg fJ kW (k+1) f fd ps (iG fs):=by
 refine F.ok S (λvs H Q E h=>?_) (λjl A fT s H vs Q E hr h=>?_)
 .obtain⟨φ,ds,μ,Kd,ha,M,hf,L⟩:=h
  rw[ha.len];exact len ds μ Kd hf
 .obtain⟨φ,ds,μ,Kd,ha,M,hf,L⟩:=h
  obtain⟨W,hW,q⟩:=xp jl A fT s H E hr
  refine⟨_,hW,φ,um N ds,μ,J0 μ.length Kd,.start ha,M,q ds μ Kd M.bound (by rw[<- M.len];exact ha.bound) hf,⟨λj7 gc gG ji H' k' f' A' M'=>?_,L.fz M,λ_ _ _ _ _ k' _ _ _=>k'.elim,λ_ _ _ _ _ k' _ _ _=>k'.elim⟩⟩
  exact L.fz M .iq gc gG .iq H' k' f' M' rfl
end
section
variable {prog:ae}{w:af}{A:Around}{E:ak->ah->Prop}{s:ah}
variable {c:Bool}{z TI TO i1 i2 l1 l2:ai}{k1 k2:Nat}{xs ys:Array ak}{x y a b:ak}
def nH {a:ai}{Q:aq Obj->ah->Prop}(h:Q (s.heap.get? a) s):wpAny (model prog w) A (loadIfAlive a) Q E s:=λΓ p _=>by
 show Sem.wp _ Γ (.loadIfAlive a .pure) _ _ p s
 rw[Sem.wp_loadIfAlive];exact h
def Hl {Q:Fin->ah->Prop}(hh:A.handled=none)(D:ZipApart z TI TO i1 i2 l1 l2)(S:ZS c z TI TO i1 i2 l1 l2 .none a b k1 k2 xs ys s.heap)(hx:xs[k1]?=some x)(hy:ys[k2]?=none)
 (hE:∀ h' e,ZK z TO i1 i2 s.heap h'->(∃ o,h'.get? e=some o/\o.cls=.type "StopIteration")->E (.ref e) {s with heap:=h'}):
 wpAny (model prog w) A (Builtin.«zip.__next__» ⟨[.ref z],[]⟩) Q E s:=by
 refine fY (au (fY (aK S.z rfl (x:=.bool false) rfl (fY (aK S.z rfl (x:=.ref TI) rfl (fY (bg S.ti rfl ?_)))))))
 refine fY (m:=Builtin.SmallTypes.ownedTupleIsFree (.ref z)) (fY (aK S.z rfl (x:=.none) rfl (au ?_)))
 refine fY (dJ (fY (aK S.z rfl (x:=.ref TO) rfl (fY (aY S.z (by simp) λg1 e1 t1=>?_)))))
 have S1:=S.mz D (f':=.ellipsis) e1 t1.extBut
 refine fY ?_
 rw[show(#[Value.ref i1,Value.ref i2]:Array ak).toList.zipIdx=[(.ref i1,0),(.ref i2,1)]from rfl,bD]
 refine fY (fY (cM (fY (iW S1.n1 S1.q1 hx λg2 e2 t2=>au ?_))))
 have S2:=S1.m1 D e2 t2.extBut
 refine fY (bg S2.to rfl (fY (cP S2.to λg3 e3 t3=>fY (cQ (au ?_)))))
 have S3:=S2.mo D (x:=x) (y:=b) e3 t3.extBut
 dsimp only
 rw[bD]
 refine fY (fY (cM (fY (lh hh S3.n2 S3.q2 hy λg4 e t4 he=>?_))))
 obtain⟨oe,Eu,Ls⟩:=he
 have CD:IsZip g4 z TI TO .ellipsis:=t4 _ _ D.i2z.symm S3.z
 have Ti:e≠z:=λq=>by subst q;rw[CD]at Eu;cases Eu;simp at Ls
 exact aY CD (by simp) λg5 _ t5=>hE g5 e ((((((n8 t1.extBut).trans (vm t2.extBut)).trans (Hk t3.extBut)).trans (BF t4))).trans (n8 t5.extBut)) ⟨oe,t5.extBut _ _ Ti Eu,Ls⟩
def BI {Q:aq ak->ah->Prop}(hh:A.handled=none)(D:ZipApart z TI TO i1 i2 l1 l2)(S:ZS c z TI TO i1 i2 l1 l2 .none a b k1 k2 xs ys s.heap)(hx:xs[k1]?=none\/ys[k2]?=none)
 (hQ:∀ h',ZK z TO i1 i2 s.heap h'->Q none {s with heap:=h'}):wpAny (model prog w) A (pyNext (.ref z)) Q E s:=by
 cases e1:xs[k1]? with
 |none=>exact Fd hh D S e1 hQ
 | some x =>
  have hy:ys[k2]?=none:=by
   rcases hx with q|q
   .rw[e1]at q;cases q
   .exact q
  have ty:s.TypeIs (.ref z) "zip":=⟨_,S.z,rfl⟩
  unfold pyNext
  refine fY (dw (bE (name:=Str.ofString "__next__") ty bX (cj bX ty cZ (Hl hh D S e1 hy λh' e hk he=>?_) (cU _))))
  obtain⟨o,ho,hc⟩:=he
  exact fY (fF (T:= "StopIteration") (b:=true) ⟨o,ho,hc⟩ isSubtype_stop (au (hQ _ hk)))
def EY (h:Heap)(z TI TO:ai)(T0:ai)(bb:Bool):Prop:=h.get? z=some { cls:=.type "zip",data:=.fields #[rawInt T0,.bool bb,.bool false,.ref TI,.ref TO]}
structure ZB (c:Bool)(z TI TO i1 i2 l1 l2 T0:ai)(k1 k2:Nat)(xs ys:Array ak)(h:Heap):Prop where
 az:T0≠z/\T0≠i1/\T0≠i2
 z:∃ bb,EY h z TI TO T0 bb
 ti:IsPair h TI (.ref i1) (.ref i2)
 n1:k9 c h i1 l1 k1
 n2:k9 c h i2 l2 k2
 q1:lq c h l1 xs
 q2:lq c h l2 ys
 al:∃ o,h.get? T0=some o
 to:∃ o,h.get? TO=some o
def MZ {Q:ak->ah->Prop}{T0:ai}(D:ZipApart z TI TO i1 i2 l1 l2)(S:ZB c z TI TO i1 i2 l1 l2 T0 k1 k2 xs ys s.heap)(hx:xs[k1]?=some x)(hy:ys[k2]?=some y)
 (hQ:∀ h',ZB c z TI TO i1 i2 l1 l2 T0 (k1+1) (k2+1) xs ys h'->IsPair h' s.heap.objs.size x y->ZK z TO i1 i2 s.heap h'->Q (.ref s.heap.objs.size) {s with heap:=h'}):
 wpAny (model prog w) A (Builtin.«zip.__next__» ⟨[.ref z],[]⟩) (λfin s'=>∃ v,fin=.done (.ret v)/\Q v s') E s:=by
 obtain⟨bb,hz⟩:=S.z
 obtain⟨oT,XZ⟩:=S.al
 refine fY (au (fY (aK hz rfl (x:=.bool false) rfl (fY (aK hz rfl (x:=.ref TI) rfl (fY (bg S.ti rfl ?_)))))))
 refine fY (m:=Builtin.SmallTypes.ownedTupleIsFree (.ref z)) (fY (aK hz rfl (x:=rawInt T0) rfl ?_))
 show wpAny _ _ (loadIfAlive T0>>=_) _ _ s
 refine fY (nH ?_)
 rw[XZ]
 show wpAny _ _ (field (.ref z) 1>>=_) _ _ s
 refine fY (aK hz rfl (x:=.bool bb) rfl ?_)
 have go:∃ g1:Heap,EY g1 z TI TO T0 true/\Heap.SameBut z s.heap g1/\∀(Q':Bool->ah->Prop),Q' false { s with heap:=g1}->wpAny (model prog w) A (if(Value.bool bb != Value.bool true)=true then(setField (Value.ref z) 1 (Value.bool true) >>= λ_=>pure false)else pure false) Q' E s:=by
  cases bb with
  |true=>exact⟨s.heap,hz,⟨rfl,λ_ _=>rfl⟩,λQ' q=>au q⟩
  |false=>exact⟨s.heap.update z (Obj.mapFields (·.setIfInBounds 1 (.bool true))),bG _ hz rfl,eh ..,λQ' q=>fY (dm hz rfl (by simp) (au q))⟩
 obtain⟨g1,z1,t1,run⟩:=go
 refine run _ ?_
 have n1:=S.n1.extBut t1.extBut D.i1z
 have n2:=S.n2.extBut t1.extBut D.i2z
 have q1:=S.q1.extBut t1.extBut D.l1z
 have q2:=S.q2.extBut t1.extBut D.l2z
 show wpAny _ _ (forIn (#[Value.ref i1,Value.ref i2]:Array ak) (none,#[]) _>>=_) _ _ _
 rw[<- eR]
 refine fY ?_
 rw[show(#[Value.ref i1,Value.ref i2]:Array ak).toList=[.ref i1,.ref i2]from rfl,bD]
 refine fY (fY (bR (fY (iW (s:={s with heap:=g1}) n1 q1 hx λg2 e2 t2=>au (au ?_)))))
 dsimp only
 rw[bD]
 have YZ:=n2.extBut t2.extBut D.i12.symm
 have Vt:=q2.extBut t2.extBut D.l2i1
 refine fY (fY (bR (fY (iW (s:={s with heap:=g2}) YZ Vt hy λg3 e3 t3=>au (au ?_)))))
 dsimp only
 rw[dP]
 refine au (fY (e9 (au ⟨_,rfl,?_⟩) (by show 2<=sizeLine;decide)))
 have sz:g3.objs.size=s.heap.objs.size:=t3.1.trans (t2.1.trans t1.1)
 show Q (.ref g3.objs.size) _
 have kk:ZK z TO i1 i2 s.heap (g3.push { cls:=.type "tuple",data:=.seq #[x,y]}):=(((n8 t1.extBut).trans (vm t2.extBut)).trans (BF t3.extBut)).trans λd o _ _ _ _ e=>j8 _ e
 have hT:IsPair (g3.push { cls:=.type "tuple",data:=.seq #[x,y]}) g3.objs.size x y:=aG _ rfl
 rw[sz]at hT ⊢
 have pu:∀ {d:ai} {o:Obj},g3.get? d=some o->(g3.push { cls:=.type "tuple",data:=.seq #[x,y]}).get? d=some o:=λe=>j8 _ e
 refine hQ _ ⟨S.az,⟨true,pu (t3.extBut _ _ D.i2z.symm (t2.extBut _ _ D.i1z.symm z1))⟩,pu (t3.extBut _ _ D.TIi2 (t2.extBut _ _ D.TIi1 (t1.extBut _ _ D.TIz S.ti))),(e2.extBut t3.extBut D.i12).at λ_ e=>pu e,e3.at λ_ e=>pu e,
  (((q1.extBut t2.extBut D.l1i1).extBut t3.extBut D.l1i2)).extBut (b:=g3.objs.size) (λ_ _ _ e=>pu e) (((q1.extBut t2.extBut D.l1i1).extBut t3.extBut D.l1i2).lt),((Vt.extBut t3.extBut D.l2i2)).extBut (b:=g3.objs.size) (λ_ _ _ e=>pu e) ((Vt.extBut t3.extBut D.l2i2).lt),⟨oT,pu (t3.extBut _ _ S.az.2.2 (t2.extBut _ _ S.az.2.1 (t1.extBut _ _ S.az.1 XZ)))⟩,(let ⟨o,e⟩:=S.to;⟨o,pu (t3.extBut _ _ D.TOi2 (t2.extBut _ _ D.TOi1 (t1.extBut _ _ D.TOz e)))⟩)⟩ hT kk
def M7 {Q:Fin->ah->Prop}{T0:ai}(hh:A.handled=none)(D:ZipApart z TI TO i1 i2 l1 l2)(S:ZB c z TI TO i1 i2 l1 l2 T0 k1 k2 xs ys s.heap)(hx:xs[k1]?=none\/ys[k2]?=none)
 (hE:∀ h' e,ZK z TO i1 i2 s.heap h'->(∃ o,h'.get? e=some o/\o.cls=.type "StopIteration")->E (.ref e) {s with heap:=h'}):
 wpAny (model prog w) A (Builtin.«zip.__next__» ⟨[.ref z],[]⟩) Q E s:=by
 obtain⟨bb,hz⟩:=S.z
 obtain⟨oT,XZ⟩:=S.al
 refine fY (au (fY (aK hz rfl (x:=.bool false) rfl (fY (aK hz rfl (x:=.ref TI) rfl (fY (bg S.ti rfl ?_)))))))
 refine fY (m:=Builtin.SmallTypes.ownedTupleIsFree (.ref z)) (fY (aK hz rfl (x:=rawInt T0) rfl ?_))
 show wpAny _ _ (loadIfAlive T0>>=_) _ _ s
 refine fY (nH ?_)
 rw[XZ]
 show wpAny _ _ (field (.ref z) 1>>=_) _ _ s
 refine fY (aK hz rfl (x:=.bool bb) rfl ?_)
 have go:∃ g1:Heap,EY g1 z TI TO T0 true/\Heap.SameBut z s.heap g1/\∀(Q':Bool->ah->Prop),Q' false { s with heap:=g1}->wpAny (model prog w) A (if(Value.bool bb != Value.bool true)=true then(setField (Value.ref z) 1 (Value.bool true) >>= λ_=>pure false)else pure false) Q' E s:=by
  cases bb with
  |true=>exact⟨s.heap,hz,⟨rfl,λ_ _=>rfl⟩,λQ' q=>au q⟩
  |false=>exact⟨s.heap.update z (Obj.mapFields (·.setIfInBounds 1 (.bool true))),bG _ hz rfl,eh ..,λQ' q=>fY (dm hz rfl (by simp) (au q))⟩
 obtain⟨g1,z1,t1,run⟩:=go
 refine run _ ?_
 have n1:=S.n1.extBut t1.extBut D.i1z
 have n2:=S.n2.extBut t1.extBut D.i2z
 have q1:=S.q1.extBut t1.extBut D.l1z
 have q2:=S.q2.extBut t1.extBut D.l2z
 show wpAny _ _ (forIn (#[Value.ref i1,Value.ref i2]:Array ak) (none,#[]) _>>=_) _ _ _
 rw[<- eR]
 refine fY ?_
 rw[show(#[Value.ref i1,Value.ref i2]:Array ak).toList=[.ref i1,.ref i2]from rfl,bD]
 cases ex:xs[k1]? with
 |none=>exact fY (fY (bR (fY (lh (s:={s with heap:=g1}) hh n1 q1 ex λg2 e t2 he=>hE g2 e ((n8 t1.extBut).trans (vm t2)) he))))
 | some x =>
  have hy:ys[k2]?=none:=by
   rcases hx with q|q
   .rw[ex]at q;cases q
   .exact q
  refine fY (fY (bR (fY (iW (s:={s with heap:=g1}) n1 q1 ex λg2 e2 t2=>au (au ?_)))))
  dsimp only
  rw[bD]
  have YZ:=n2.extBut t2.extBut D.i12.symm
  have Vt:=q2.extBut t2.extBut D.l2i1
  exact fY (fY (bR (fY (lh (s:={s with heap:=g2}) hh YZ Vt hy λg3 e t3 he=>hE g3 e (((n8 t1.extBut).trans (vm t2.extBut)).trans (BF t3)) he))))
def M8 {Q:aq ak->ah->Prop}{T0:ai}(D:ZipApart z TI TO i1 i2 l1 l2)(S:ZB c z TI TO i1 i2 l1 l2 T0 k1 k2 xs ys s.heap)(hx:xs[k1]?=some x)(hy:ys[k2]?=some y)
 (hQ:∀ h',ZB c z TI TO i1 i2 l1 l2 T0 (k1+1) (k2+1) xs ys h'->IsPair h' s.heap.objs.size x y->ZK z TO i1 i2 s.heap h'->Q (some (.ref s.heap.objs.size)) {s with heap:=h'}):
 wpAny (model prog w) A (pyNext (.ref z)) Q E s:=by
 have ty:s.TypeIs (.ref z) "zip":=let ⟨_,q⟩:=S.z;⟨_,q,rfl⟩
 unfold pyNext
 exact fY (dw (bE (name:=Str.ofString "__next__") ty bX (cj bX ty cZ (MZ D S hx hy λh' a1 a2 a3=>au (hQ h' a1 a2 a3)) (cU _))))
def Rb {Q:aq ak->ah->Prop}{T0:ai}(hh:A.handled=none)(D:ZipApart z TI TO i1 i2 l1 l2)(S:ZB c z TI TO i1 i2 l1 l2 T0 k1 k2 xs ys s.heap)(hx:xs[k1]?=none\/ys[k2]?=none)
 (hQ:∀ h',ZK z TO i1 i2 s.heap h'->Q none {s with heap:=h'}):wpAny (model prog w) A (pyNext (.ref z)) Q E s:=by
 have ty:s.TypeIs (.ref z) "zip":=let ⟨_,q⟩:=S.z;⟨_,q,rfl⟩
 unfold pyNext
 refine fY (dw (bE (name:=Str.ofString "__next__") ty bX (cj bX ty cZ (M7 hh D S hx λh' e hk he=>?_) (cU _))))
 obtain⟨o,ho,hc⟩:=he
 exact fY (fF (T:= "StopIteration") (b:=true) ⟨o,ho,hc⟩ isSubtype_stop (au (hQ _ hk)))
end
def Xh (c:Bool)(a1 a2:ai):It:={ Yg c a1 a2 with stop:=λi H=>∃ xs ys,yx c H a1 xs/\yx c H a2 ys/\(xs.length<=i\/ys.length<=i)}
def Hm {P:ae}{w:af}{K:aa}{elts:ao Expr}{kk:Nat}{tpos:Pos}{c:Bool}{z TI TO i1 i2 l1 l2:ai}(D:ZipApart z TI TO i1 i2 l1 l2):
 Turn P w K (.Tuple elts kk tpos) (Xh c l1 l2) [z,TI,TO,i1,i2] z (λi h=>IsZip h z TI TO .none/\IsPair h TI (.ref i1) (.ref i2)/\(∃ a b,IsPair h TO a b)/\k9 c h i1 l1 i/\k9 c h i2 l2 i) where
 mem:=(oy (P:=P) (w:=w) (K:=K) (elts:=elts) (kk:=kk) (tpos:=tpos) (c:=c) D).mem
 obj:=(oy (P:=P) (w:=w) (K:=K) (elts:=elts) (kk:=kk) (tpos:=tpos) (c:=c) D).obj
 keep:=(oy (P:=P) (w:=w) (K:=K) (elts:=elts) (kk:=kk) (tpos:=tpos) (c:=c) D).keep
 item:=(oy (P:=P) (w:=w) (K:=K) (elts:=elts) (kk:=kk) (tpos:=tpos) (c:=c) D).item
 self:=(oy (P:=P) (w:=w) (K:=K) (elts:=elts) (kk:=kk) (tpos:=tpos) (c:=c) D).self
 done:=by
  intro X hP hw hK hc i fI s σ H E I hf st hg
  subst hP hw hK
  obtain⟨hz,BC,⟨a,b',BB⟩,h1,h2⟩:=st
  obtain⟨xs,ys,q1,q2,hx⟩:=hg
  obtain⟨us,r1,p1⟩:=q1.val I
  obtain⟨ws,r2,p2⟩:=q2.val I
  have hl:=r1.length
  have sx:=r2.length
  refine BI (I.ok.hd hc) D ⟨hz,BC,BB,h1,h2,p1,p2⟩ (by simp;lia) λh' hk=>⟨rfl,?_⟩
  exact I.yG (ch:=[z,TO,i1,i2]) (λb hb=>hf b (by
   simp only[aP,aH,bS]at hb ⊢
   rcases hb with q|q|q|q<;>simp[q])) λb o hb e=>hk b o (λq=>hb (by simp[q])) (λq=>hb (by simp[q])) (λq=>hb (by simp[q])) (λq=>hb (by simp[q])) e
def V3 (ta:TA):TI:=λσ H R=>ta σ H λvs H1=>match vs with
 |[.ref a,.ref b]=>∃(c:Bool) (xs ys:ao V),yx c H1 a xs/\yx c H1 b ys/\R (Xh c a b) H1
 |_=>False
def NU {X:Cx}{elts:ao Expr}{kk:Nat}{tpos:Pos}{a b:Expr}{ta:TA}{p pos:Pos}(hg:Gl X "zip")(hm:X.mg "zip"=none)(ha:PA X [a,b] ta)(hs:starEach [a,b] X.env=[(false,eval a X.env),(false,eval b X.env)]:=by rfl)(tE:starEach [b] X.env=[(false,eval b X.env)]:=by rfl):
 PI X (.Tuple elts kk tpos) (.Call (.Name "zip" p) [a,b] [] pos) (V3 ta):=by
 intro fI s σ H R I h
 refine Call_ (mj I hg hm boot_zip (bw (iJ (ha pos fI s σ H _ I h) λus s1 rB=>?_) (by rw[hs,tE]) (by rw[tE];rfl)))
 obtain⟨vs,H1,I1,r1,q1⟩:=rB
 try dsimp only at q1
 split at q1
 .rename_i l1 l2
  obtain⟨c,xs,ys,q1,q2,q⟩:=q1
  obtain⟨u1,u2,rfl,e1,e2⟩:=r1.two
  cases e1;cases e2
  obtain⟨us,r1,p1⟩:=q1.val I1
  obtain⟨ws,r2,p2⟩:=q2.val I1
  have lt:∀ {l:ai} {o:HO},H1 l=some o->l<s1.heap.objs.size:=λe=>I1.iA.lt e
  obtain⟨o1,w1⟩:=q1.ex
  obtain⟨o2,w2⟩:=q2.ex
  refine sA p1 p2 λh' hz BC BB n1 n2 kp=>cK hz ?_
  have I2:Inv X fI σ H1 { s1 with heap:=h'}:=I1.jz (t':=s1.toks) kp
  refine⟨s1.heap.objs.size+4,_,_,_,H1,rfl,I2,Hm (c:=c) (zipApart_new (lt w1) (lt w2)),⟨hz,BC,⟨_,_,BB⟩,n1,n2⟩,λb hb=>?_,q⟩
  have BA:s1.heap.objs.size<=b:=by
   simp only[aP,aH,bS]at hb
   rcases hb with e|e|e|e|e<;>subst e
   .exact aR ..
   .exact aR ..
   .exact aR ..
   .exact ar _
   .exact aR ..
  exact I1.Ey BA (I1.iA.fresh BA)
 .exact q1.elim
def DC:typeLookup (.type "zip") "__len__"=pure none:=by rw[typeLookup_type,builtinLookup_eq_fast];kernel_rfl
def BG:typeLookup (.type "zip") "__length_hint__"=pure none:=by rw[typeLookup_type,builtinLookup_eq_fast];kernel_rfl
def Pw (z TI TO i1 i2 l1 l2:ai)(i:Nat)(xs ys:Array ak)(h:Heap):Prop :=
 (i=0/\∃ a b,ZS false z TI TO i1 i2 l1 l2 .none a b 0 0 xs ys h)\/∃ T0,ZB false z TI TO i1 i2 l1 l2 T0 i i xs ys h
def Pw.next {P:ae}{w:af}{A:Around}{s:ah}{E:ak->ah->Prop}{z TI TO i1 i2 l1 l2:ai}{i:Nat}{xs ys:Array ak}{x y:ak}{Q:aq ak->ah->Prop}(Z:Pw z TI TO i1 i2 l1 l2 i xs ys s.heap)(D:ZipApart z TI TO i1 i2 l1 l2)(hx:xs[i]?=some x)(hy:ys[i]?=some y)
 (hQ:∀ h',Pw z TI TO i1 i2 l1 l2 (i+1) xs ys h'->IsPair h' s.heap.objs.size x y->ZK z TO i1 i2 s.heap h'->Q (some (.ref s.heap.objs.size)) {s with heap:=h'}):wpAny (model P w) A (pyNext (.ref z)) Q E s:=by
 rcases Z with⟨rfl,a,b,S⟩|⟨T0,S⟩
 .refine BH D S hx hy λh' S' hT kk=>hQ h' (.inr ⟨s.heap.objs.size,⟨?_,?_,?_⟩,⟨false,S'.z⟩,S'.ti,S'.n1,S'.n2,S'.q1,S'.q2,⟨_,hT⟩,⟨_,S'.to⟩⟩) hT kk
  .exact bp (jf S.z)
  .obtain⟨o,e⟩:=S.n1.ex;exact bp (jf e)
  .obtain⟨o,e⟩:=S.n2.ex;exact bp (jf e)
 .exact M8 D S hx hy λh' S' hT kk=>hQ h' (.inr ⟨T0,S'⟩) hT kk
def Pw.over {P:ae}{w:af}{A:Around}{s:ah}{E:ak->ah->Prop}{z TI TO i1 i2 l1 l2:ai}{i:Nat}{xs ys:Array ak}{Q:aq ak->ah->Prop}(hh:A.handled=none)(Z:Pw z TI TO i1 i2 l1 l2 i xs ys s.heap)(D:ZipApart z TI TO i1 i2 l1 l2)(hx:xs[i]?=none\/ys[i]?=none)
 (hQ:∀ h',ZK z TO i1 i2 s.heap h'->Q none {s with heap:=h'}):wpAny (model P w) A (pyNext (.ref z)) Q E s:=by
 rcases Z with⟨rfl,a,b,S⟩|⟨T0,S⟩
 .exact BI hh D S hx hQ
 .exact Rb hh D S hx hQ
def Pw.but {z TI TO i1 i2 l1 l2 S:ai}{i:Nat}{xs ys:Array ak}{h h':Heap}(Z:Pw z TI TO i1 i2 l1 l2 i xs ys h)(e:Heap.ExtBut S h h')(n:S∉[z,TI,TO,i1,i2,l1,l2])(nT:∀ o,h.get? S=some o->o.cls=.type "list")(nT':∃ o,h'.get? S=some o):Pw z TI TO i1 i2 l1 l2 i xs ys h':=by
 simp only[aP,aH,bS,not_or]at n
 obtain⟨n1,n2,n3,n4,n5,n6,n7⟩:=n
 rcases Z with⟨rfl,a,b,Sz⟩|⟨T0,Sz⟩
 .exact .inl ⟨rfl,a,b,e _ _ (bo n1) Sz.z,e _ _ (bo n2) Sz.ti,e _ _ (bo n3) Sz.to,Sz.n1.extBut e (bo n4),Sz.n2.extBut e (bo n5),Sz.q1.extBut e (bo n6),Sz.q2.extBut e (bo n7)⟩
 .obtain⟨bb,hz⟩:=Sz.z
  refine .inr ⟨T0,Sz.az,⟨bb,e _ _ (bo n1) hz⟩,e _ _ (bo n2) Sz.ti,Sz.n1.extBut e (bo n4),Sz.n2.extBut e (bo n5),Sz.q1.extBut e (bo n6),Sz.q2.extBut e (bo n7),?_,(let ⟨o,q⟩:=Sz.to;⟨o,e _ _ (bo n3) q⟩)⟩
  obtain⟨o,ho⟩:=Sz.al
  by_cases hT:T0=S
  .subst hT;exact nT'
  .exact⟨o,e _ _ hT ho⟩
section
variable {X:Cx}{fI:ao (ai×Obj)}{σ:St}
def vk (H:Hp)(xs ys:ao V)(us:ao V):Prop:=∀(i:Nat) (u:V),us[i]?=some u->∃ T x y,u=V.ref T/\H T=some (.tup [x,y])/\xs[i]?=some x/\ys[i]?=some y
def vk.same {H H':Hp}{xs ys us:ao V}(h:vk H xs ys us)(s:iI H H'):vk H' xs ys us:=λi u e=>let ⟨T,x,y,a,b,c⟩:=h i u e;⟨T,x,y,a,s _ _ b,c⟩
def Jr {A:Around}{R:Result->ah->Prop}{z TI TO i1 i2 l1 l2 S:ai}{H0:Hp}{xs ys:ao V}{xv yv:ao ak}{res:ak}(hh:A.handled=none)(D:ZipApart z TI TO i1 i2 l1 l2)(rx:gE xs xv)(ry:gE ys yv)(hz1:xs.length<=sizeLine)
 (nS:S∉[z,TI,TO,i1,i2,l1,l2])
 (hR:∀ s' H' us gp c,Inv X fI σ H' s'->iI H0 H'->H' S=none->s'.heap.get? S=some (lobj gp c)->gE us gp->us.length=min xs.length ys.length->vk H' xs ys us->R (.ok (.ret res)) s'):
 ∀(k i:Nat) (s:ah) (H:Hp) (us:ao V) (gp:ao ak) (c:Nat),min xs.length ys.length - i=k->i<=min xs.length ys.length->us.length=i->Inv X fI σ H s->iI H0 H->(∀ b∈[z,TO,i1,i2,S],mX X fI H b)->s.heap.get? S=some (lobj gp c)->gE us gp->vk H xs ys us ->
  Pw z TI TO i1 i2 l1 l2 i xv.toArray yv.toArray s.heap->codeAny (model X.prog X.w) A (.builtin "list.extend.loop" ⟨[.ref S,.ref z,res],[]⟩) R s:=by
 have lx:=rx.length
 have ly:=ry.length
 have Qx:S≠z/\S≠TO/\S≠i1/\S≠i2:=by
  simp only[aP,aH,bS,not_or]at nS
  exact⟨nS.1,nS.2.2.1,nS.2.2.2.1,nS.2.2.2.2.1⟩
 have zk:∀ {h h':Heap},ZK z TO i1 i2 h h'->∀ b o,b∉[z,TO,i1,i2]->h.get? b=some o->h'.get? b=some o:=λkk b o hb e=>kk b o (λq=>hb (by simp[q])) (λq=>hb (by simp[q])) (λq=>hb (by simp[q])) (λq=>hb (by simp[q])) e
 have sub:∀ b∈[z,TO,i1,i2],b∈[z,TO,i1,i2,S]:=λb hb=>by
  simp only[aP,aH,bS]at hb ⊢
  rcases hb with q|q|q|q<;>simp[q]
 have SnI:S∉[z,TO,i1,i2]:=by
  simp only[aP,aH,bS,not_or]
  exact⟨Qx.1,Qx.2.1,Qx.2.2.1,Qx.2.2.2⟩
 intro k
 induction k with
 | zero =>
  intro i s H us gp c hk hi hu I hS fp gS rv pr Z
  have ei:i=min xs.length ys.length:=by lia
  refine eK F.entry_extend_loop ?_
  rw[dg eA _]
  show wpAny _ A.in1 (pyNext (.ref z)>>=_) _ _ s
  refine fY (Z.over (A:=A.in1) hh D (by simp;lia) λh' kk=>?_)
  have I':=I.yG (ch:=[z,TO,i1,i2]) (λb hb=>fp b (sub b hb)) (zk kk)
  exact au (hR _ H us gp c I' hS (fp S (by simp)).1 (zk kk _ _ SnI gS) rv (hu.trans ei) pr)
 | succ k ih =>
  intro i s H us gp c hk hi hu I hS fp gS rv pr Z
  have mP:i<min xs.length ys.length:=by lia
  obtain⟨x,ex⟩:∃ x,xs[i]?=some x:=⟨xs[i]'(by lia),jk _⟩
  obtain⟨y,ey⟩:∃ y,ys[i]?=some y:=⟨ys[i]'(by lia),jk _⟩
  obtain⟨u,eu,ru⟩:=rx.get ex
  obtain⟨v,ev,rv'⟩:=ry.get ey
  have lu:=rv.length
  refine eK F.entry_extend_loop ?_
  rw[dg eA _]
  show wpAny _ A.in1 (pyNext (.ref z)>>=_) _ _ s
  refine fY (Z.next (A:=A.in1) D (by simpa using eu) (by simpa using ev) λh' Z' hT kk=>?_)
  have I':=I.BR (ch:=[z,TO,i1,i2]) (λb hb=>fp b (sub b hb)) (zk kk) hT ru rv'
  have hn:H s.heap.objs.size=none:=I.iA.fresh (ar _)
  have S1:iI H (upd H s.heap.objs.size (.tup [x,y])):=iI.upd hn
  have neT:∀ b∈[z,TO,i1,i2,S],b≠s.heap.objs.size:=λb hb q=>by
   have nl:S<s.heap.objs.size:=jf gS
   have nz:z<s.heap.objs.size:=by
    rcases Z with⟨_,a,b,Sz⟩|⟨T0,Sz⟩
    .exact jf Sz.z
    .obtain⟨_,hz⟩:=Sz.z;exact jf hz
   have n1:i1<s.heap.objs.size:=by
    rcases Z with⟨_,a,b,Sz⟩|⟨T0,Sz⟩
    .obtain⟨o,e⟩:=Sz.n1.ex;exact jf e
    .obtain⟨o,e⟩:=Sz.n1.ex;exact jf e
   have n2:i2<s.heap.objs.size:=by
    rcases Z with⟨_,a,b,Sz⟩|⟨T0,Sz⟩
    .obtain⟨o,e⟩:=Sz.n2.ex;exact jf e
    .obtain⟨o,e⟩:=Sz.n2.ex;exact jf e
   have n3:TO<s.heap.objs.size:=by
    rcases Z with⟨_,a,b,Sz⟩|⟨T0,Sz⟩
    .exact jf Sz.to
    .obtain⟨o,e⟩:=Sz.to;exact jf e
   simp only[aP,aH,bS]at hb
   rcases hb with e|e|e|e|e
   .exact aD nz (e.symm.trans q)
   .exact aD n3 (e.symm.trans q)
   .exact aD n1 (e.symm.trans q)
   .exact aD n2 (e.symm.trans q)
   .exact aD nl (e.symm.trans q)
  have UQ:=zk kk _ _ SnI gS
  have fp':∀ b∈[z,TO,i1,i2,S],mX X fI (upd H s.heap.objs.size (.tup [x,y])) b:=λb hb=>⟨by rw[gB (neT b hb)];exact(fp b hb).1,(fp b hb).2⟩
  show wpAny _ A.in1 (updateSeq S (·.push (Value.ref s.heap.objs.size))>>=_) _ _ _
  refine fY (c6 UQ rfl (au ⟨eF eA _,?_⟩) (by rw[aE];lia) (by show(gp.toArray.push _).size<=sizeLine+1;rw[Array.size_push,aE];lia))
  have but:Heap.ExtBut S h' (h'.update S (Obj.mapSeq (·.push (Value.ref s.heap.objs.size)))):=λb o hb e=>(aT _ _ (bo hb)).trans e
  have gS2:=bG (Obj.mapSeq (·.push (Value.ref s.heap.objs.size))) UQ rfl
  have I2:=I'.yG (ch:=[S]) (h'':=h'.update S (Obj.mapSeq (·.push (Value.ref s.heap.objs.size)))) (λb hb=>by rw[List.mem_singleton.mp hb];exact fp' S (by simp)) λb o hb e=>but b o (λq=>hb (by simp[q])) e
  have e2:gp.toArray.push (Value.ref s.heap.objs.size)=(gp++[Value.ref s.heap.objs.size]).toArray:=by simp
  obtain⟨c',gS3⟩:∃ c',(h'.update S (Obj.mapSeq (·.push (Value.ref s.heap.objs.size)))).get? S=some (lobj (gp++[Value.ref s.heap.objs.size]) c'):=by
   have q:=PySem.IsL.update UQ (·.push (Value.ref s.heap.objs.size))
   rw[e2]at q
   exact⟨_,q⟩
  refine ih (i+1) _ _ (us++[.ref s.heap.objs.size]) _ c' (by lia) mP (by rw[oq,bF,hu]) I2 (hS.trans S1) fp' gS3 (rv.append (.cons (show gD (V.ref s.heap.objs.size) _ from rfl) .nil)) ?_ (Z'.but but nS (λo e=>?_) ⟨_,gS3⟩)
  .intro j u' ej
   by_cases hj:j<us.length
   .rw[vR hj]at ej
    exact pr.same S1 j u' ej
   .rw[pX (by lia)]at ej
    have QH:j - us.length=0:=by
     have:=(kM ej).1
     rw[bF]at this;lia
    rw[QH]at ej
    cases ej
    have:j=i:=by lia
    subst this
    exact⟨_,x,y,rfl,gh,ex,ey⟩
  .rw[UQ]at e;cases e;rfl
def K5 {H:Hp}{s:ah}{a b:ai}{xs ys:ao V}{Q:VK}(I:Inv X fI σ H s)(gY:X.gY=true)(ha:H a=some (.lst xs))(hb:H b=some (.lst ys))
 (hQ:∀ l us H',H l=none->iI H H'->H' l=some (.lst us)->us.length=min xs.length ys.length->vk H' xs ys us->Q (.ref l) H'):
 wpAny (model X.prog X.w) X.A (call (.type "zip") [.ref a,.ref b]) (λv s1=>wpAny (model X.prog X.w) X.A (call (.type "list") [v]) (EP X fI σ Q) X.xe s1) X.xe s:=by
 obtain⟨z1,xv,n1,rx,lx,ea⟩:=I.mH ha
 obtain⟨z2,yv,n2,ry,ly,eb⟩:=I.mH hb
 have p1:lq false s.heap a xv.toArray:=⟨_,ea,rfl,n1,rfl⟩
 have p2:lq false s.heap b yv.toArray:=⟨_,eb,rfl,n2,rfl⟩
 have la:(a:Nat)<s.heap.objs.size:=jf ea
 have lb:(b:Nat)<s.heap.objs.size:=jf eb
 refine sA p1 p2 λh' hz BC BB i1 i2 kp=>?_
 have I1:Inv X fI σ H {s with heap:=h'}:=I.jz (t':=s.toks) kp
 have D:ZipApart (s.heap.objs.size+4) (s.heap.objs.size+2) (s.heap.objs.size+3) s.heap.objs.size (s.heap.objs.size+1) a b:=zipApart_new la lb
 refine callType_codes (Q₁:=λobj s₁=>obj=.ref h'.objs.size/\s₁={s with heap:=h'.push { cls:=.type "list",data:=.seq #[]}}) F.called_list (F.typeCall_list_1 _) F.entry_list_init (code_list_new _ ⟨rfl,rfl⟩) λobj s₁ h₁=>?_
 obtain⟨rfl,rfl⟩:=h₁
 have hS:(h'.push { cls:=.type "list",data:=.seq #[]}).get? h'.objs.size=some (lobj [] 0):=aG _ rfl
 refine⟨⟨_,hS,rfl⟩,F.args_list_init_2 _ _,?_⟩
 have I2:Inv X fI σ H {s with heap:=h'.push { cls:=.type "list",data:=.seq #[]}}:=I1.jz (t':=s.toks) λ_ _ e=>j8 _ e
 have sz:s.heap.objs.size+4<h'.objs.size:=jf hz
 have fpn:∀ c,s.heap.objs.size<=c->mX X fI H c:=λc hc=>I.Ey hc (I.iA.fresh hc)
 show wpAny _ X.A.in1.in1 (do let old <- Builtin.List.listItems (.ref h'.objs.size);Builtin.List.listUpdate (.ref h'.objs.size) (λ_=>#[]);letGo old.toList.reverse;Builtin.List.listExtendWith (.ref h'.objs.size) (.ref (s.heap.objs.size+4)) .none) _ _ _
 refine fY ?_
 unfold Builtin.List.listItems
 refine fY (bg hS rfl (au ?_))
 show wpAny _ X.A.in1.in1 (updateSeq h'.objs.size (λ_=>#[])>>=λ_=>letGo (#[]:Array ak).toList.reverse>>=λ_=>Builtin.List.listExtendWith (.ref h'.objs.size) (.ref (s.heap.objs.size+4)) .none) _ _ _
 refine fY (c6 hS rfl ?_)
 refine fY (cQ ?_)
 have fill:∀(g:Heap) (tk c:Nat),(∀ d o,d≠h'.objs.size->(h'.push { cls:=.type "list",data:=.seq #[]}).get? d=some o->g.get? d=some o)->g.get? h'.objs.size=some (lobj [] c) ->
  codeAny (model X.prog X.w) X.A.in1 (.builtin "list.extend.loop" ⟨[.ref h'.objs.size,.ref (s.heap.objs.size+4),.none],[]⟩) (wants (λr s₂=>r=.none/\EP X fI σ Q (.ref h'.objs.size) s₂) X.xe) {s with heap:=g,toks:=tk}:=λg tk c kg gS=>by
  have QC:∀ d o,h'.get? d=some o->g.get? d=some o:=λd o e=>kg d o (aD (jf e)) (j8 _ e)
  have I3:Inv X fI σ H {s with heap:=g,toks:=tk}:=I1.jz (t':=tk) QC
  have nS:h'.objs.size∉[s.heap.objs.size+4,s.heap.objs.size+2,s.heap.objs.size+3,s.heap.objs.size,s.heap.objs.size+1,a,b]:=by
   simp only[aP,aH,bS,not_or]
   have sz':(s.heap.objs.size:Nat)+4<h'.objs.size:=sz
   refine⟨?_,?_,?_,?_,?_,bp (dR la (by lia)),bp (dR lb (by lia))⟩<;> (intro q;lia)
  refine Jr (A:=X.A.in1) (I.ok.hd gY) D rx ry z1 nS (H0:=H) ?_ _ 0 _ H [] [] c rfl (bC _) rfl I3 (iI.refl _) ?_ gS .nil (λi u e=>by simp at e) (.inl ⟨rfl,.none,.none,QC _ _ hz,QC _ _ BC,QC _ _ BB,i1.at λ_ e=>QC _ _ e,i2.at λ_ e=>QC _ _ e,⟨_,QC _ _ (kp _ _ ea),rfl,n1,rfl⟩,⟨_,QC _ _ (kp _ _ eb),rfl,n2,rfl⟩⟩)
  .intro s' H' us gp c' I' S' Qx UQ rv lu pr
   refine⟨rfl,?_⟩
   have ZA:=fpn h'.objs.size (by lia)
   have I4:=I'.adopt (ys:=us) Qx ZA.2.1 (by have:=I.sz;lia) ZA.2.2.2.2.1 ZA.2.2.2.2.2 UQ rv (by lia)
   exact⟨.ref h'.objs.size,_,I4,rfl,hQ _ us _ (I.iA.fresh (by lia)) (S'.trans (iI.upd Qx)) gh lu (pr.same (iI.upd Qx))⟩
  .intro d hd
   simp only[aP,aH,bS]at hd
   refine fpn d ?_
   rcases hd with e|e|e|e|e<;>subst e<;>lia
 have hS₂:=bG (Obj.mapSeq (λ_=>(#[]:Array ak))) hS rfl
 have oth:∀(d:ai) (o:Obj),d≠h'.objs.size->(h'.push { cls:=.type "list",data:=.seq #[]}).get? d=some o->((h'.push { cls:=.type "list",data:=.seq #[]}).update h'.objs.size (Obj.mapSeq (λ_=>(#[]:Array ak)))).get? d=some o :=
  λd o hd e=>(aT _ _ (bo hd)).trans e
 have CD:=oth _ _ (aD sz) (j8 { cls:=.type "list",data:=.seq #[]} hz)
 have Yp:Shared.TypeIs {s with heap:=(h'.push { cls:=.type "list",data:=.seq #[]}).update h'.objs.size (Obj.mapSeq (λ_=>(#[]:Array ak)))} (.ref (s.heap.objs.size+4)) "zip":=⟨_,CD,rfl⟩
 unfold Builtin.List.listExtendWith
 refine fY (wpAny_typeOf Yp ?_)
 have e1:Builtin.List.listSameRef (.ref h'.objs.size) (.ref (s.heap.objs.size+4))=false:=by
  simp only[Builtin.List.listSameRef]
  exact beq_false_of_ne (bp sz)
 have e2:(Value.type "zip"==Value.type "list")=false:=by decide
 have e3:(Value.type "zip"==Value.type "tuple")=false:=by decide
 simp only[e1,e2,e3,Bool.or_false,eP,if_false]
 refine fY (cK CD ?_)
 refine fY (bR ?_)
 unfold Builtin.List.listLengthHint
 refine fY (wpAny_specialOf Yp DC ?_)
 show wpAny _ _ (specialOf (Value.ref (s.heap.objs.size+4)) (Str.ofString "__length_hint__")>>=_) _ _ _
 refine fY (wpAny_specialOf Yp BG ?_)
 refine au ?_
 show wpAny _ _ (rule "list.extend.makes-room" >>= λ_=>Builtin.List.listTouch (.ref h'.objs.size) >>= λ_ =>
  again (.builtin "list.extend.loop" ⟨[.ref h'.objs.size,.ref (s.heap.objs.size+4),.none],[]⟩)) _ _ _
 refine fY (dJ ?_)
 refine fY ?_
 show wpAny _ _ (updateSeq h'.objs.size (·.push .none)>>=λ_=>updateSeq h'.objs.size (·.pop)) _ _ _
 refine fY (c6 hS₂ rfl ?_)
 have hS₃:=bG (Obj.mapSeq (·.push Value.none)) hS₂ rfl
 refine c6 (hz:=by seq_fits) hS₃ rfl ?_
 have hS₄:=bG (Obj.mapSeq (·.pop)) hS₃ rfl
 refine au ⟨eF eA _,fill _ s.toks _ (λd o hd e=>?_) hS₄⟩
 exact(aT _ _ (bo hd)).trans ((aT _ _ (bo hd)).trans (oth d o hd e))
end
def Ite (l:ai):It :=
 ⟨λi H=>∃ xs x,H l=some (.lst xs)/\xs[i]?=some x,
  λi H v H'=>∃ T x,v=.ref T/\H T=none/\H'=upd H T (.tup [.int i,x])/\∀ xs,H l=some (.lst xs)->xs[i]?=some x,
  λi H=>∃ xs,H l=some (.lst xs)/\i=xs.length⟩
def DJ {P:ae}{w:af}{K:aa}{elts:ao Expr}{kk:Nat}{tpos:Pos}{e it l:ai}(ZE:e≠it)(hle:l≠e)(hli:l≠it):
 Turn P w K (.Tuple elts kk tpos) (Ite l) [e,it] e (λi h=>(∃ old,IsEnum h e it i old)/\h.IsListIter it l i) where
 mem:=by simp
 obj:=λi h st b hb=>by
  obtain⟨⟨old,he⟩,o,ho,hc,hd⟩:=st
  simp only[aP,aH,bS]at hb
  rcases hb with rfl|rfl
  .exact⟨_,he,λv q=>by cases q⟩
  .exact⟨o,ho,λv q=>by rw[hd]at q;cases q⟩
 keep:=λi h h' st k=>by
  obtain⟨⟨old,he⟩,o,ho,r⟩:=st
  exact⟨⟨old,k e (by simp) _ he⟩,o,k it (by simp) _ ho,r⟩
 item:=by
  intro X hP hw hK hc i fI s σ H E I hf st hg
  subst hP hw hK
  obtain⟨⟨old,he⟩,hit⟩:=st
  obtain⟨xs,x,hl,ex⟩:=hg
  obtain⟨_,gp,n,r,_,ho⟩:=I.mH hl
  have y7:s.heap.IsList l gp.toArray:=⟨_,ho,rfl,n,rfl⟩
  obtain⟨u,eu,ru⟩:=r.get ex
  have mP:i<gp.toArray.size:=by rw[aE];exact(kM eu).1
  have D:=Draws.list (prog:=X.prog) (w:=X.w) (A:=X.A.in1) (I.ok.hd hc) it l hli gp.toArray
  refine wpAny_pyNext_enum_itemD D he ⟨hit,y7⟩ mP ZE (by simp[ZE,bo hle]) λy h1 tk hPy ho1 Zm hT hsz hk=>?_
  have hy:y=u:=by
   have q:gp[i]?=some y:=by simpa using hPy
   rw[eu]at q;exact(aM q).symm
  subst hy
  refine⟨_,rfl,wpAny_letOwnedTupleGo_enum ho1 λh2 UL tE=>?_⟩
  have fr:∀ b∈[e,it],mX X fI H b:=hf
  have lte:e<s.heap.objs.size:=jf he
  have ne1:s.heap.objs.size≠e:=bp lte
  have Tq:IsPair h2 s.heap.objs.size (.int i tk) y:=(tE.2 _ ne1).trans hT
  have kp:∀ b o,b∉[e,it]->s.heap.get? b=some o->h2.get? b=some o:=λb o hb q=>by
   have b1:b≠e:=λz=>hb (by simp[z])
   have b2:b≠it:=λz=>hb (by simp[z])
   exact(tE.2 b b1).trans (hk b o b1 b2 q)
  have hn:H s.heap.objs.size=none:=I.iA.fresh (ar _)
  have I1:=(I.BR (ch:=[e,it]) (h'':=h2) (x:=.int i) (y:=x) fr kp Tq ⟨tk,rfl⟩ ru).tok (tk+1)
  refine⟨.ref s.heap.objs.size,_,I1,rfl,⟨_,x,rfl,hn,rfl,λzs q=>by rw[hl]at q;cases q;exact ex⟩,⟨⟨_,by simpa using UL⟩,Zm.1.at λo q=>(tE.2 it (bo ZE)).trans q⟩,λb hb=>?_⟩
  have lti:it<s.heap.objs.size:=by obtain⟨o,q,_⟩:=hit;exact jf q
  rw[gB]
  .exact(hf b hb).1
  .simp only[aP,aH,bS]at hb
   rcases hb with rfl|rfl
   .exact aD lte
   .exact aD lti
 done:=by
  intro X hP hw hK hc i fI s σ H E I hf st hg
  subst hP hw hK
  obtain⟨⟨old,he⟩,hit⟩:=st
  obtain⟨xs,hl,ei⟩:=hg
  obtain⟨_,gp,n,r,ll,ho⟩:=I.mH hl
  have y7:s.heap.IsList l gp.toArray:=⟨_,ho,rfl,n,rfl⟩
  have D:=Draws.list (prog:=X.prog) (w:=X.w) (A:=X.A.in1) (I.ok.hd hc) it l hli gp.toArray
  have en:i=gp.toArray.size:=by rw[aE,ei];exact ll
  refine wpAny_pyNext_enum_endD D he (by rw[<- en];exact⟨hit,y7⟩) λh' hx=>⟨rfl,?_⟩
  exact I.yG (ch:=[e,it]) (λb hb=>hf b hb) λb o hb q=>hx b o (λz=>hb (by simp[z])) q
 self:=λ_ _ _ _ _ st h=>let ⟨⟨_,e⟩,_⟩:=st;eZ e h
section
variable {X:Cx}{a b e:Expr}{es:ao Expr}{pos:Pos}
def SV (ta:TA):TI:=λσ H R=>ta σ H λvs H1=>match vs with
 |[.ref l]=>∃ xs,H1 l=some (.lst xs)/\R (Ite l) H1
 |_=>False
def Kj {elts:ao Expr}{kk:Nat}{tpos:Pos}{ta:TA}{p:Pos}(hg:Gl X "enumerate")(hm:X.mg "enumerate"=none)(ha:PA X [a] ta)(hs:starEach [a] X.env=[(false,eval a X.env)]:=by rfl):
 PI X (.Tuple elts kk tpos) (.Call (.Name "enumerate" p) [a] [] pos) (SV ta):=by
 intro fI s σ H R I h
 refine Call_ (mj I hg hm (show bootBuiltins "enumerate"=some (.type "enumerate") by decide +kernel) (bw (iJ (ha pos fI s σ H _ I h) λus s1 rZ=>?_) hs rfl))
 obtain⟨vs,H1,I1,r1,q1⟩:=rZ
 try dsimp only at q1
 split at q1
 .rename_i l
  obtain⟨xs,hl,q⟩:=q1
  obtain⟨u,rfl,ru⟩:=r1.one
  cases ru
  obtain⟨_,gp,n,r,ll,ho⟩:=I1.mH hl
  have lt:l<s1.heap.objs.size:=jf ho
  refine call_enumerate_list (l:=l) (items:=gp.toArray) ⟨_,ho,rfl,n,rfl⟩ λh' he hi hsz kp=>eZ he ?_
  have I2:Inv X fI σ H1 { s1 with heap:=h'}:=I1.jz (t':=s1.toks) kp
  refine⟨s1.heap.objs.size+1,_,_,_,H1,rfl,I2,DJ (bp (bL _)) (aD (bc lt)) (aD lt),⟨⟨_,he⟩,hi⟩,λb hb=>?_,q⟩
  have BA:s1.heap.objs.size<=b:=by
   simp only[aP,aH,bS]at hb
   rcases hb with e|e<;>subst e
   .exact eT _
   .exact ar _
  exact I1.Ey BA (I1.iA.fresh BA)
 .exact q1.elim
def dItZ (w:DA):DI:=λρ μ K=>w ρ μ λds gr=>match ds with
 |[x,y]=>opt (lv gr x) λxs=>opt (lv gr y) λys=>K (List.zipWith (λa b=>D.tup [a,b]) xs ys) (λgc=>lc x xs gc/\lc y ys gc) gr
 |_=>False
def Lj {elts:ao Expr}{kk:Nat}{tpos:Pos}{w:DA}{p:Pos}(hg:Gl X "zip")(hm:X.mg "zip"=none)(ha:vB X [a,b] w)(hs:starEach [a,b] X.env=[(false,eval a X.env),(false,eval b X.env)]:=by rfl)(tE:starEach [b] X.env=[(false,eval b X.env)]:=by rfl):
 Hg X (.Tuple elts kk tpos) (.Call (.Name "zip" p) [a,b] [] pos) (dItZ w):=(NU hg hm ha hs tE).imp λσ H Q hq=>by
 obtain⟨φ,ρ,μ,K,A,M,k,L⟩:=hq
 refine⟨φ,ρ,μ,_,A,M,k,λds gr gN vs H1 k1 f1 M1 i1=>?_⟩
 split at k1
 .rename_i x y
  obtain⟨xs,ex,k1⟩:=hX k1
  obtain⟨ys,ey,k1⟩:=hX k1
  .obtain⟨v,r,rfl,h1,u,r',rfl,h2,h3⟩:=i1
   cases(show r'=[]from h3)
   obtain⟨p1,vx,rfl,S9,ax⟩:=jY M1 h1 ex
   obtain⟨p2,vy,rfl,SY,ay⟩:=jY M1 h2 ey
   refine⟨false,vx,vy,S9,SY,L _ _ gr gN _ H1 k1 f1 M1 λgG H' gc f M' c i=>?_⟩
   obtain⟨vx,hx,ax⟩:=qH M1 h1 ex f M' c.1
   obtain⟨vy,hy,ay⟩:=qH M1 h2 ey f M' c.2
   have lx:=ax.len
   have ly:=ay.len
   refine⟨λd hd=>?_,λhi=>⟨vx,vy,hx,hy,by rw[bO]at hi;lia⟩⟩
   rw[bV]at hd
   cases e1:xs[i]? with
   |none=>rw[e1]at hd;cases hd
   | some dx =>
    cases e2:ys[i]? with
    |none=>rw[e1,e2]at hd;cases hd
    | some dy =>
     rw[e1,e2]at hd
     cases hd
     obtain⟨v1,g1,j1⟩:=ax.get e1
     obtain⟨v2,g2,j2⟩:=ay.get e2
     refine⟨⟨vx,vy,v1,v2,hx,hy,g1,g2⟩,λz PH SW=>?_⟩
     obtain⟨T,x',y',rfl,hT,rfl,q1,q2⟩:=SW
     have c1:=q1 vx hx
     have c2:=q2 vy hy
     rw[g1]at c1;cases c1
     rw[g2]at c2;cases c2
     have fn:=Fr.new (φ:=gG) (o:=.tup [v1,v2]) hT
     exact⟨fn,M'.same (iI.upd hT),T,_,rfl,M'.fresh hT,gh,v1,_,rfl,j1.mono fn,v2,_,rfl,j2.mono fn,rfl⟩
 .exact k1.elim
def nV (ds:ao D):ao D:=List.zipWith (λi d=>D.tup [.int (i:Nat),d]) (List.range ds.length) ds
def ze {ds:ao D}{i:Nat}{d:D}(h:(nV ds)[i]?=some d):∃ x,ds[i]?=some x/\d=.tup [.int i,x]:=by
 unfold nV at h
 rw[bV]at h
 cases e:ds[i]? with
 |none=>rw[e]at h;cases q:(List.range ds.length)[i]?<;>(rw[q]at h;cases h)
 | some x =>
  have hi:=(kM e).1
  rw[e,bB hi]at h
  cases h
  exact⟨x,rfl,rfl⟩
def m4 (ds:ao D):(nV ds).length=ds.length:=by unfold nV;rw[bO,u7,Nat.min_self]
def dItE (w:DA):DI:=λρ μ K=>w ρ μ λds gr=>match ds with
 |[x]=>opt (lv gr x) λxs=>K (nV xs) (λgc=>lc x xs gc) gr
 |_=>False
def Az {elts:ao Expr}{kk:Nat}{tpos:Pos}{w:DA}{p:Pos}(hg:Gl X "enumerate")(hm:X.mg "enumerate"=none)(ha:vB X [a] w)(hs:starEach [a] X.env=[(false,eval a X.env)]:=by rfl):
 Hg X (.Tuple elts kk tpos) (.Call (.Name "enumerate" p) [a] [] pos) (dItE w):=(Kj hg hm ha hs).imp λσ H Q hq=>by
 obtain⟨φ,ρ,μ,K,A,M,k,L⟩:=hq
 refine⟨φ,ρ,μ,_,A,M,k,λds gr gN vs H1 k1 f1 M1 i1=>?_⟩
 split at k1
 .rename_i x
  obtain⟨xs,ex,k1⟩:=hX k1
  .obtain⟨v,r,rfl,h1,h3⟩:=i1
   cases(show r=[]from h3)
   obtain⟨p1,vx,rfl,S9,ax⟩:=jY M1 h1 ex
   refine⟨vx,S9,L _ _ gr gN _ H1 k1 f1 M1 λgG H' gc f M' c i=>?_⟩
   obtain⟨vx,hx,ax⟩:=qH M1 h1 ex f M' c
   have lx:=ax.len
   refine⟨λd hd=>?_,λhi=>⟨vx,hx,by rw[m4]at hi;lia⟩⟩
   obtain⟨dx,e1,rfl⟩:=ze hd
   obtain⟨v1,g1,j1⟩:=ax.get e1
   refine⟨⟨vx,v1,hx,g1⟩,λz PH SW=>?_⟩
   obtain⟨T,x',rfl,hT,rfl,q1⟩:=SW
   have c1:=q1 vx hx
   rw[g1]at c1;cases c1
   have fn:=Fr.new (φ:=gG) (o:=.tup [.int i,v1]) hT
   exact⟨fn,M'.same (iI.upd hT),T,_,rfl,M'.fresh hT,gh,.int i,_,rfl,rfl,v1,_,rfl,j1.mono fn,rfl⟩
 .exact k1.elim
def dLZ (m:Bool)(w:DA):De:=λρ μ K=>w ρ μ λds gr=>match ds with
 |[x,y]=>opt (lv gr x) λxs=>opt (lv gr y) λys=>nL m (List.zipWith (λa b=>D.tup [a,b]) xs ys) gr K
 |_=>False
def FL {φ:ao ai}{H:Hp}{xs ys:ao D}{vx vy us:ao V}(ax:fZ φ H xs vx)(ay:fZ φ H ys vy)(hu:us.length=min vx.length vy.length)(nφ:∀(T:ai) (zs:ao V),H T=some (.tup zs)->T∉φ)(h:vk H vx vy us):fZ φ H (List.zipWith (λa b=>D.tup [a,b]) xs ys) us:=by
 have key:∀(ds:ao D) (us:ao V),ds.length=us.length->(∀(i:Nat) (d:D) (u:V),ds[i]?=some d->us[i]?=some u->je φ H d u)->fZ φ H ds us:=by
  intro ds
  induction ds with
  | nil=>intro us hl _;cases us with
   |nil=>rfl
   |cons _ _=>simp at hl
  | cons d ds ih =>
   intro us hl hh
   cases us with
   |nil=>simp at hl
   |cons u us=>exact⟨u,us,rfl,hh 0 d u rfl rfl,ih us (by simpa using hl) λi d' u' e1 e2=>hh (i+1) d' u' (by simpa using e1) (by simpa using e2)⟩
 refine key _ _ (by rw[bO,hu,ax.len,ay.len]) λi d u e1 e2=>?_
 obtain⟨T,x,y,rfl,hT,hx,hy⟩:=h i u e2
 obtain⟨dx,ex,ix⟩:=ax.CH hx
 obtain⟨dy,ey,iy⟩:=ay.CH hy
 rw[bV,ex,ey]at e1
 cases e1
 exact⟨T,_,rfl,nφ T _ hT,hT,x,_,rfl,ix,y,_,rfl,iy,rfl⟩
def zj (m:Bool){w:DA}{p p2 rV:Pos}(gY:X.gY=true)(hg:Gl X "list")(hm:X.mg "list"=none)(Th:Gl X "zip")(Tc:X.mg "zip"=none)(ha:vB X [a,b] w)(hs:starEach [a,b] X.env=[(false,eval a X.env),(false,eval b X.env)]:=by rfl)(tE:starEach [b] X.env=[(false,eval b X.env)]:=by rfl)
 (Ln:starEach [.Call (.Name "zip" p2) [a,b] [] rV] X.env=[(false,eval (.Call (.Name "zip" p2) [a,b] [] rV) X.env)]:=by rfl):
 PD X (.Call (.Name "list" p) [.Call (.Name "zip" p2) [a,b] [] rV] [] pos) (dLZ m w):=by
 intro fI s σ H Q I h
 refine c0 (mj I hg hm boot_list ?_)
 obtain⟨φ,ρ,μ,K,A,M,k,L⟩:=h
 refine bw ?_ Ln rfl
 rw[Ln]
 show wpAny _ _ (spliced ((false,eval (.Call (.Name "zip" p2) [a,b] [] rV) X.env)::backTo pos [])) _ _ s
 refine Calls.spliced_cons ?_
 have hq:Ux w σ H (λvs H1=>match vs with | [.ref a,.ref b]=>∃(xs ys:ao V),H1 a=some (.lst xs)/\H1 b=some (.lst ys)/\∀ l us H',H1 l=none->iI H1 H'->H' l=some (.lst us)->us.length=min xs.length ys.length->vk H' xs ys us->Q (.ref l) H' | _=>False):=by
  refine⟨φ,ρ,μ,_,A,M,k,λds gr gN vs H1 k1 f1 M1 i1=>?_⟩
  split at k1
  .rename_i x y
   obtain⟨xs,ex,k1⟩:=hX k1
   obtain⟨ys,ey,k1⟩:=hX k1
   .obtain⟨v,r,rfl,h1,u,r',rfl,h2,h3⟩:=i1
    cases(show r'=[]from h3)
    obtain⟨p1,vx,rfl,S9,ax⟩:=jY M1 h1 ex
    obtain⟨p2,vy,rfl,SY,ay⟩:=jY M1 h2 ey
    refine⟨vx,vy,S9,SY,λl us H' hl S' hu len pr=>?_⟩
    have oJ:l∉gN:=M1.fresh hl
    have M2:=M1.same S'
    have f2:Fr gN H1 gN H':=.same S'
    have nt:∀(T:ai) (zs:ao V),H' T=some (.tup zs)->T∉gN:=λT zs e hT=>by
     obtain⟨j,hj,ej⟩:=aX hT
     obtain⟨q,e1,e2⟩:=M2.at_ j (gr[j]'(by have:=M2.len;lia)) (jk _)
     rw[jk hj,ej]at e1
     cases e1
     revert e2
     cases gr[j]'(by have:=M2.len;lia)with
     |box=>rintro⟨q,ns,i,r,z,h1,_⟩;rw[e]at h1;cases h1
     |lst ds=>rintro⟨vs,h1,_⟩;rw[e]at h1;cases h1
     |jC ks ds=>rintro⟨kvs,vs,h1,_⟩;rw[e]at h1;cases h1
     |vw o kvs ds=>rintro⟨h1,_⟩;rw[e]at h1;cases h1
     |ins C ns ds=>rintro⟨dx,fs,h1,_⟩;rw[e]at h1;cases h1
     |lA ks ds=>rintro⟨kvs,h1,_⟩;rw[e]at h1;cases h1
     |gx jh H0=>rintro⟨_,_,_,h4⟩;exact absurd e (h4 _)
     |exc c=>intro h1;rw[show _=_ from h1]at e;cases e
    have al:=FL (ax.mono f2) (ay.mono f2) len nt pr
    cases m with
    |false=>exact L _ gr gN _ H' k1 (f1.trans f2) M2 ⟨l,us,rfl,oJ,hu,al⟩
    | true =>
     have f3:Fr gN H1 (gN++[l]) H':=⟨(Fr.snoc (φ:=gN) hl).ext,λc o _ e=>S' c o e,λc e=>S'.free e⟩
     have M3:gC (gN++[l]) H' (gr++[.lst (List.zipWith (λa b=>D.tup [a,b]) xs ys)]):=by
      have nt':∀(T:ai) (zs:ao V),H' T=some (.tup zs)->T∉gN++[l]:=λT zs e hT=>by
       rcases List.mem_append.mp hT with q|q
       .exact nt T zs e q
       .rw[List.mem_singleton.mp q,hu]at e;cases e
      have al':=FL (ax.mono f3) (ay.mono f3) len nt' pr
      refine⟨?_,by rw[oq,oq,M1.len];rfl,λk n e=>?_⟩
      .rw[fg]
       exact⟨M1.nd,by simp,λa ha b hb=>by rw[List.mem_singleton.mp hb];intro z;exact oJ (by rw[<- z];exact ha)⟩
      .by_cases hk:k<gr.length
       .rw[vR hk]at e
        obtain⟨q,e1,e2⟩:=M1.at_ k n e
        exact⟨q,f3.get e1,e2.mono f3 λu eu=>S' _ _ eu⟩
       .have Dv:k=gr.length:=by
         have:=(kM e).1
         rw[oq,bF]at this
         lia
        subst Dv
        rw[pX (ar _),a6]at e
        cases e
        exact⟨l,by rw[pX (by rw[M1.len];exact ar _),M1.len,a6];rfl,us,hu,al'⟩
     exact L _ _ (gN++[l]) _ H' k1 (f1.trans f3) M3 ⟨l,by rw[pX (by rw[M1.len];exact ar _),M1.len,a6];rfl,rfl⟩
  .exact k1.elim
 refine Call_ (mj I Th Tc boot_zip (bw (iJ (ha rV fI s σ H _ I hq) λus s1 rY=>?_) (by rw[hs,tE]) (by rw[tE];rfl)))
 obtain⟨vs,H1,I1,r1,q1⟩:=rY
 try dsimp only at q1
 split at q1
 .rename_i l1 l2
  obtain⟨xs,ys,h1,h2,q⟩:=q1
  obtain⟨u1,u2,rfl,e1,e2⟩:=r1.two
  cases e1;cases e2
  exact iJ (K5 I1 gY h1 h2 q) λv s2 hv=>Calls.spliced_nil hv
 .exact q1.elim
end
def wu.val {φ:ao ai}{H:Hp}{μ:MS}{K:DK}{Q:VK}{d:D}{v:V}(L:wu φ H K Q)(M:gC φ H μ)(k:K d μ)(i:je φ H d v):Q v H:=L d μ φ v H k (.refl _ _) M i
def T7 (m:Bool):sy:=λx y μ K=>match x,y with
 |.int i,.int j=>K (.int (i+j)) μ
 |.str i,.str j=>i.length+j.length<=sizeLine/\K (.str (i++j)) μ
 |x,y=>opt (lv μ x) λxs=>opt (lv μ y) λys=>xs.length+ys.length<=sizeLine/\nL m (xs++ys) μ K
def Rx {m:Bool}:om Ka (T7 m):=λφ H x y dx dy μ K Q M hx hy k L=>by
 unfold T7 at k
 split at k
 .cases(show x=_ from hx);cases(show y=_ from hy);exact L.val M k rfl
 .cases(show x=_ from hx);cases(show y=_ from hy);exact⟨k.1,L.val M k.2 rfl⟩
 .obtain⟨xs,ex,k⟩:=hX k
  obtain⟨ys,ey,k⟩:=hX k
  obtain⟨p,vx,rfl,hp,ax⟩:=jY M hx ex
  obtain⟨q,vy,rfl,hq,ay⟩:=jY M hy ey
  exact⟨vx,vy,hp,hq,by rw[ax.len,ay.len];exact k.1,λl hl=>IP L M (ax.app ay) k.2 hl⟩
def dI2 (C:Int->Int->Prop)(g:Int->Int->D):sy:=λx y μ K=>match x,y with
 |.int i,.int j=>C i j/\K (g i j) μ
 |_,_=>False
def vA (g:Int->Int->D):sy:=λx y μ K=>match x,y with
 |.int i,.int j=>K (g i j) μ
 |_,_=>False
def Qj {C:Int->Int->Prop}{g:Int->Int->Int}:om (RK C λi j=>.int (g i j)) (dI2 C λi j=>.int (g i j)):=λφ H x y dx dy μ K Q M hx hy k L=>by
 unfold dI2 at k
 split at k
 .cases(show x=_ from hx);cases(show y=_ from hy);exact⟨k.1,L.val M k.2 rfl⟩
 .exact k.elim
def Rw {g:Int->Int->Int}:om (Ac λi j=>.int (g i j)) (vA λi j=>.int (g i j)):=λφ H x y dx dy μ K Q M hx hy k L=>by
 unfold vA at k
 split at k
 .cases(show x=_ from hx);cases(show y=_ from hy);exact L.val M k rfl
 .exact k.elim
def rK {g:Int->Int->Bool}:om (Ac λi j=>.bl (g i j)) (vA λi j=>.bl (g i j)):=λφ H x y dx dy μ K Q M hx hy k L=>by
 unfold vA at k
 split at k
 .cases(show x=_ from hx);cases(show y=_ from hy);exact L.val M k rfl
 .exact k.elim
def WJ:sy:=λx y μ K=>match x,y with
 |.int i,.int j=>IW i j/\K (.int (i*j)) μ
 |.str z,.int n=>∃ c:Nat,z=⟨#[c]⟩ /\ -1000000<=n/\n<=1000000/\K (.str ⟨(List.replicate n.toNat c).toArray⟩) μ
 |_,_=>False
def p7:om J4 WJ:=λφ H x y dx dy μ K Q M hx hy k L=>by
 unfold WJ at k
 split at k
 .cases(show x=_ from hx);cases(show y=_ from hy);exact⟨k.1,L.val M k.2 rfl⟩
 .cases(show x=_ from hx);cases(show y=_ from hy)
  obtain⟨c,rfl,h1,h2,k⟩:=k
  exact⟨c,rfl,h1,h2,L.val M k rfl⟩
 .exact k.elim
def Md (neg:Bool):sy:=λx y μ K=>match x,y with
 |.int i,.int j=>K (.bl (neg != decide (i=j))) μ
 |.str i,.str j=>K (.bl (neg != decide (i=j))) μ
 |.bl i,.bl j=>K (.bl (neg != decide (i=j))) μ
 |_,_=>False
def wK {neg:Bool}:om (J9 neg) (Md neg):=λφ H x y dx dy μ K Q M hx hy k L=>by
 unfold Md at k
 split at k
 .cases(show x=_ from hx);cases(show y=_ from hy);exact L.val M k rfl
 .cases(show x=_ from hx);cases(show y=_ from hy);exact L.val M k rfl
 .cases(show x=_ from hx);cases(show y=_ from hy);exact L.val M k rfl
 .exact k.elim
def WN:sy:=λx y μ K=>match x,y with
 |.str z,.int i=>z.length<=sizeLine/\opt (lO z.cps.toList i) λc=>K (.str ⟨#[c]⟩) μ
 |.tup ds,.int i=>opt (lO ds i) λd=>K d μ
 |x,.int i=>opt (lv μ x) λds=>opt (lO ds i) λd=>K d μ
 |_,_=>False
def fZ.lO {φ:ao ai}{H:Hp}{ds:ao D}{vs:ao V}{i:Int}{d:D}(h:fZ φ H ds vs)(e:lO ds i=some d):∃ v,lO vs i=some v/\je φ H d v:=by
 unfold L2.lO at e ⊢
 rw[h.len]
 cases q:CB ds.length i with
 |none=>rw[q]at e;cases e
 |some j=>rw[q]at e;exact h.get e
def Vg:om RJ WN:=λφ H x y dx dy μ K Q M hx hy k L=>by
 unfold WN at k
 split at k
 .cases(show x=_ from hx);cases(show y=_ from hy)
  obtain⟨c,e,k'⟩:=hX k.2
  exact⟨k.1,fS e (L.val M k' rfl)⟩
 .cases(show y=_ from hy)
  obtain⟨d,e,k⟩:=hX k
  obtain⟨p,vs,rfl,_,hp,ha⟩:=hx
  obtain⟨v,ev,iv⟩:=ha.lO e
  exact⟨vs,.inr hp,fS ev (L.val M k iv)⟩
 .cases(show y=_ from hy)
  obtain⟨ds,el,k⟩:=hX k
  obtain⟨d,e,k⟩:=hX k
  obtain⟨p,vs,rfl,hp,ha⟩:=jY M hx el
  obtain⟨v,ev,iv⟩:=ha.lO e
  exact⟨vs,.inl hp,fS ev (L.val M k iv)⟩
 .exact k.elim
abbrev DO:=DE->MS->(aq Int->MS->Prop)->Prop
def XC (w:DO):TO:=λσ H Q=>∃ φ ρ μ K,kP φ H ρ σ/\gC φ H μ/\w ρ μ K/\∀ o gc gG H',K o gc->Fr φ H gG H'->gC gG H' gc->Q o H'
def dNo:DO:=λ_ μ K=>K none μ
def WG (w:De):DO:=λρ μ K=>w ρ μ λd gr=>match d with|.int i=>K (some i) gr|_=>False
def cutD (ds:ao D)(lo hi:aq Int):ao D:=(ds.drop (HT.oB ds.length 0 lo)).take (HT.oB ds.length ds.length hi - HT.oB ds.length 0 lo)
def dSlc (m:Bool)(w:De)(l h:DO):De:=λρ μ K=>w ρ μ λx gr=>l ρ gr λlo iE=>h ρ iE λhi rh=>match x with
 |.str z=>z.length<=sizeLine/\K (.str ⟨(lp z.cps.toList lo hi).toArray⟩) rh
 |x=>opt (lv rh x) λds=>nL m (cutD ds lo hi) rh K
section
variable {X:Cx}{a b e:Expr}{es:ao Expr}{pos:Pos}
def PO.imp {e:aq Expr}{t t':TO}(h:PO X e t)(hi:∀ σ H Q,t' σ H Q->t σ H Q):PO X e t':=λfI s σ H Q I q=>h fI s σ H Q I (hi σ H Q q)
def KN:PO X none (XC dNo):=RT.imp λσ H Q qV=>by obtain⟨φ,ρ,μ,K,A,M,k,L⟩:=qV;exact L none μ φ H k (.refl _ _) M
def l8 {w:De}(h:PD X e w):PO X (some e) (XC (WG w)):=(Kh h).imp λσ H Q ⟨φ,ρ,μ,K,A,M,k,L⟩ =>
 ⟨φ,ρ,μ,_,A,M,k,λd gr gN v1 H1 k1 f1 M1 i1=>by
  cases d with
  |int i=>cases(show v1=_ from i1);exact L _ gr gN H1 k1 f1 M1
  |_=>exact k1.elim⟩
def fZ.cut {φ:ao ai}{H:Hp}{ds:ao D}{vs:ao V}(h:fZ φ H ds vs)(lo hi:aq Int):fZ φ H (cutD ds lo hi) (EL vs lo hi):=by
 unfold cutD EL
 rw[h.len]
 exact(h.drop _).take _
def mW (m:Bool){lo hi:aq Expr}{w:De}{l h:DO}{p:Pos}(ha:PD X a w)(hl:PO X lo (XC l))(hh:PO X hi (XC h)):PD X (.Subscript a (.Slice lo hi none p) pos) (dSlc m w l h):=(Km slC ha hl hh).imp λσ H Q hq=>by
 obtain⟨φ,ρ,μ,K,A,M,k,L⟩:=hq
 refine⟨φ,ρ,μ,_,A,M,k,λd gr gN v1 H1 k1 f1 M1 i1=>?_⟩
 refine⟨gN,ρ,gr,_,A.mono f1,M1,k1,λlo iE kQ H2 k2 f2 M2=>?_⟩
 refine⟨kQ,ρ,iE,_,A.mono (f1.trans f2),M2,k2,λhi rh BE H3 k3 f3 M3=>?_⟩
 have i3:=i1.mono (f2.trans f3)
 have L3:=L.mono (f1.trans (f2.trans f3))
 split at k3
 .cases(show v1=_ from i3);exact⟨k3.1,L3.val M3 k3.2 rfl⟩
 .obtain⟨ds,el,k⟩:=hX k3
  obtain⟨p,vs,rfl,hp,ha⟩:=jY M3 i3 el
  exact⟨vs,hp,λl hl=>IP L3 M3 (ha.cut lo hi) k hl⟩
end
def OS:j5:=λds μ K=>match ds with
 |[.str z]=>z.length<=sizeLine/\K (.int z.length) μ
 |[.tup xs]=>K (.int xs.length) μ
 |[x]=>opt (lv μ x) λxs=>K (.int xs.length) μ
 |_=>False
def Rv:mR J7 OS:=λφ H vs ds μ K Q M h k L=>by
 unfold OS at k
 split at k
 .obtain⟨v,r,rfl,h1,h2⟩:=h;cases(show r=[]from h2);cases(show v=_ from h1);exact⟨k.1,L.val M k.2 rfl⟩
 .obtain⟨v,r,rfl,h1,h2⟩:=h;cases(show r=[]from h2)
  obtain⟨p,vs,rfl,_,hp,ha⟩:=h1
  exact⟨vs,.inr hp,by rw[ha.len];exact L.val M k rfl⟩
 .obtain⟨v,r,rfl,h1,h2⟩:=h;cases(show r=[]from h2)
  obtain⟨xs,el,k⟩:=hX k
  obtain⟨p,vs,rfl,hp,ha⟩:=jY M h1 el
  exact⟨vs,.inl hp,by rw[ha.len];exact L.val M k rfl⟩
 .exact k.elim
def Wq:j5:=λds μ K=>match ds with|[.int i,.int j]=>K (.int (max i j)) μ|_=>False
def zQ:mR Qp Wq:=λφ H vs ds μ K Q M h k L=>by
 unfold Wq at k
 split at k
 .obtain⟨v,r,rfl,h1,u,r',rfl,h2,h3⟩:=h;cases(show r'=[]from h3);cases(show v=_ from h1);cases(show u=_ from h2);exact⟨_,_,rfl,L.val M k rfl⟩
 .exact k.elim
def QS:j5:=λds μ K=>match ds with
 |[x]=>∃ ns:ao Int,lv μ x=some (ns.map D.int)/\ns≠[]/\∀ m,m∈ns->(∀ y∈ns,y<=m)->K (.int m) μ
 |_=>False
def vD:mR J6 QS:=λφ H vs ds μ K Q M h k L=>by
 unfold QS at k
 split at k
 .obtain⟨v,r,rfl,h1,h2⟩:=h;cases(show r=[]from h2)
  obtain⟨ns,el,hn,k⟩:=k
  obtain⟨p,vs,rfl,hp,ha⟩:=jY M h1 el
  exact⟨ns,by rw[hp,ha.ints],hn,λm a b=>L.val M (k m a b) rfl⟩
 .exact k.elim
def Wr (g:ao Bool->Bool):j5:=λds μ K=>match ds with
 |[x]=>∃ bs:ao Bool,lv μ x=some (bs.map D.bl)/\K (.bl (g bs)) μ
 |_=>False
def JP {g:ao Bool->Bool}:mR (B7 g) (Wr g):=λφ H vs ds μ K Q M h k L=>by
 unfold Wr at k
 split at k
 .obtain⟨v,r,rfl,h1,h2⟩:=h;cases(show r=[]from h2)
  obtain⟨bs,el,k⟩:=k
  obtain⟨p,vs,rfl,hp,ha⟩:=jY M h1 el
  exact⟨bs,by rw[hp,ha.bls],L.val M k rfl⟩
 .exact k.elim
def QT (m:Bool):j5:=λds μ K=>match ds with
 |[x]=>opt (lv μ x) λxs=>nL m xs μ K
 |_=>False
def vE {Kf:aa}{m:Bool}:mR (DW Kf) (QT m):=λφ H vs ds μ K Q M h k L=>by
 unfold QT at k
 split at k
 .obtain⟨v,r,rfl,h1,h2⟩:=h;cases(show r=[]from h2)
  obtain⟨xs,el,k⟩:=hX k
  obtain⟨p,vs,rfl,hp,ha⟩:=jY M h1 el
  exact⟨vs,pF.of hp,λl hl=>IP L M ha k hl⟩
 .exact k.elim
def LK:Um:=λd ds μ K=>match d,ds with
 |.str z,[x]=>z.cps=#[]/\∃ ys:ao Str,lv μ x=some (ys.map D.str)/\(ys.map (·.length)).sum<=16777216/\K (.str ⟨(ys.map (·.cps.toList)).flatten.toArray⟩) μ
 |_,_=>False
def zR {Kf:aa}:MB Kf "str" DY LK:=λφ H x vs d ds μ K Q M hx h k L=>by
 unfold LK at k
 split at k
 .cases(show x=_ from hx)
  obtain⟨v,r,rfl,h1,h2⟩:=h;cases(show r=[]from h2)
  obtain⟨hz,ys,el,hs,k⟩:=k
  obtain⟨p,vs,rfl,hp,ha⟩:=jY M h1 el
  exact⟨hz,ys,by rw[hp,ha.strs],hs,L.val M k rfl⟩
 .exact k.elim
def QU:Um:=λd ds μ K=>match d,ds with
 |.str z,[.str y,.int i]=>∃ c:Nat,y=⟨#[c]⟩/\0<=i/\i<=z.length/\∀ r,Gz z.cps.toList c i.toNat r->K (.int r) μ
 |_,_=>False
def Nv {Kf:aa}:MB Kf "str" J8 QU:=λφ H x vs d ds μ K Q M hx h k L=>by
 unfold QU at k
 split at k
 .cases(show x=_ from hx)
  obtain⟨v,r,rfl,h1,u,r',rfl,h2,h3⟩:=h;cases(show r'=[]from h3);cases(show v=_ from h1);cases(show u=_ from h2)
  obtain⟨c,rfl,h0,h1,k⟩:=k
  exact⟨_,c,_,rfl,rfl,h0,h1,λr hr=>L.val M (k r hr) rfl⟩
 .exact k.elim
def VN {φ:ao ai}{H:Hp}{μ:MS}{k:Nat}{x:V}{ds:ao D}(M:gC φ H μ)(hx:je φ H (.mr k) x)(e:μ[k]?=some (.lst ds)):∃ p vs,x=.ref p/\φ[k]?=some p/\H p=some (.lst vs)/\fZ φ H ds vs:=by
 obtain⟨p,hp,rfl⟩:=hx
 obtain⟨q,e1,vs,hv,ha⟩:=M.at_ k _ e
 rw[hp]at e1;cases e1
 exact⟨p,vs,rfl,hp,hv,ha⟩
def Sq {φ:ao ai}{H:Hp}{μ:MS}{K:DK}{Q:VK}{k:Nat}{p:ai}{ds:ao D}{vs:ao V}{d:D}{v:V}(L:wu φ H K Q)(M:gC φ H μ)(hp:φ[k]?=some p)(ha:fZ φ H ds vs)(hd:je φ H d v)(kk:K d (μ.set k (.lst ds))):Q v (upd H p (.lst vs)):=by
 have f:Fr φ H φ (upd H p (.lst vs)):=.put (mw hp)
 exact L d _ φ v _ kk f (M.put hp ⟨_,gh,ha.mono f⟩) (hd.mono f)
def GO:Um:=λd ds μ K=>match d,ds with
 |.mr k,[y]=>opt (yY μ k) λxs=>xs.length<sizeLine/\K .iq (μ.set k (.lst (xs++[y])))
 |_,_=>False
def uq {Kf:aa}:MB Kf "list" B6 GO:=λφ H x vs d ds μ K Q M hx h k L=>by
 unfold GO at k
 split at k
 .obtain⟨xs,em,k⟩:=hX k
  .obtain⟨p,us,rfl,hp,hv,ha⟩:=VN M hx (mh em)
   obtain⟨v,r,rfl,h1,h2⟩:=h;cases(show r=[]from h2)
   exact⟨_,_,us,rfl,rfl,hv,by rw[ha.len];exact k.1,Sq (d:=.iq) (v:=.iq) L M hp (ha.app (show fZ φ H [_] [v]from⟨v,[],rfl,h1,rfl⟩)) rfl k.2⟩
 .exact k.elim
def wJ {f:Int->Int->Int}:Xb (V2 f) (vA λi j=>.int (f i j)):=λφ H x y dx dy μ K Q M hx hy k L=>by
 unfold vA at k
 split at k
 .cases(show x=_ from hx);cases(show y=_ from hy);exact L.val M k rfl
 .exact k.elim
mutual
def lQ:D->D->Bool
 |.iq,.iq=>true
 |.bl a,.bl b=>a==b
 |.bl a,.int b=>(if a then 1 else 0)==b
 |.int a,.bl b=>a==(if b then 1 else 0)
 |.int a,.int b=>a==b
 |.str a,.str b=>a==b
 |.lst xs,.lst ys=>ml xs ys
 |.tup xs,.tup ys=>ml xs ys
 |_,_=>false
def ml:List D->List D->Bool
 |[],[]=>true
 |x::xs,y::ys=>lQ x y&&ml xs ys
 |_,_=>false
end
mutual
def j6:Nat->D->Prop
 |n+1,.lst ds=>Ad n ds
 |n+1,.tup ds=>Ad n ds
 |0,.lst _=>False
 |0,.tup _=>False
 |_,.jC _ _=>False
 |_,.mr _=>False
 |_,.obj _ _ _=>False
 |_,.rC _ _=>False
 |_,.fn _=>False
 |_,_=>True
def Ad:Nat->List D->Prop
 |_,[]=>True
 |n,d::ds=>j6 n d/\Ad n ds
end
def sO {n:Nat}:∀ {ds:ao D} {i:Nat} {d:D},Ad n ds->ds[i]?=some d->j6 n d
 |[],_,_,_,e=>by simp at e
 |d::ds,0,d',h,e=>by simp at e;subst e;unfold Ad at h;exact h.1
 |d::ds,i+1,d',h,e=>by unfold Ad at h;exact sO (i:=i) h.2 (by simpa using e)
mutual
def CU {φ:List ai}{H:Hp}:∀ {n:Nat} {d e:D} {v:V},j6 n d->j6 n e->je φ H d v->je φ H e v->lQ d e=true:=λ{n d e v} pd pe hd he=>by
 cases d with
 | iq=>cases(show v=_ from hd);cases e with
  |iq=>rfl
  |lst _=>obtain⟨_,_,q,_⟩:=he;cases q
  |tup _=>obtain⟨_,_,q,_⟩:=he;cases q
  |jC _ _=>obtain⟨_,_,_,q,_⟩:=he;cases q
  |mr _=>obtain⟨_,_,q⟩:=he;cases q
  |obj _ _ _=>obtain⟨_,_,_,_,q,_⟩:=he;cases q
  |rC _ _=>obtain⟨_,_,_,_,q,_⟩:=he;cases q
  |_=>cases(show _=_ from he)
 | bl b=>cases(show v=_ from hd);cases e with
  |bl c=>cases(show _=_ from he);simp[lQ]
  |lst _=>obtain⟨_,_,q,_⟩:=he;cases q
  |tup _=>obtain⟨_,_,q,_⟩:=he;cases q
  |jC _ _=>obtain⟨_,_,_,q,_⟩:=he;cases q
  |mr _=>obtain⟨_,_,q⟩:=he;cases q
  |obj _ _ _=>obtain⟨_,_,_,_,q,_⟩:=he;cases q
  |rC _ _=>obtain⟨_,_,_,_,q,_⟩:=he;cases q
  |_=>cases(show _=_ from he)
 | int b=>cases(show v=_ from hd);cases e with
  |int c=>cases(show _=_ from he);simp[lQ]
  |lst _=>obtain⟨_,_,q,_⟩:=he;cases q
  |tup _=>obtain⟨_,_,q,_⟩:=he;cases q
  |jC _ _=>obtain⟨_,_,_,q,_⟩:=he;cases q
  |mr _=>obtain⟨_,_,q⟩:=he;cases q
  |obj _ _ _=>obtain⟨_,_,_,_,q,_⟩:=he;cases q
  |rC _ _=>obtain⟨_,_,_,_,q,_⟩:=he;cases q
  |_=>cases(show _=_ from he)
 | str b=>cases(show v=_ from hd);cases e with
  |str c=>cases(show _=_ from he);simp[lQ]
  |lst _=>obtain⟨_,_,q,_⟩:=he;cases q
  |tup _=>obtain⟨_,_,q,_⟩:=he;cases q
  |jC _ _=>obtain⟨_,_,_,q,_⟩:=he;cases q
  |mr _=>obtain⟨_,_,q⟩:=he;cases q
  |obj _ _ _=>obtain⟨_,_,_,_,q,_⟩:=he;cases q
  |rC _ _=>obtain⟨_,_,_,_,q,_⟩:=he;cases q
  |_=>cases(show _=_ from he)
 | lst ds =>
  obtain⟨p,vs,rfl,_,hp,ha⟩:=hd
  cases n with
  |zero=>exact absurd pd (by unfold j6;exact id)
  | succ n =>
   cases e with
   | lst es =>
    obtain⟨p',Yn,q,_,AB,Wi⟩:=he;cases q
    rw[hp]at AB;cases AB
    unfold j6 at pd pe
    unfold lQ
    exact uH pd pe ha Wi
   |tup es=>obtain⟨p',Yn,q,_,AB,Wi⟩:=he;cases q;rw[hp]at AB;cases AB
   |jC _ _=>exact absurd pe (by unfold j6;exact id)
   |mr _=>exact absurd pe (by unfold j6;exact id)
   |obj _ _ _=>exact absurd pe (by unfold j6;exact id)
   |rC _ _=>exact absurd pe (by unfold j6;exact id)
   |fn _=>exact absurd pe (by unfold j6;exact id)
   |_=>cases(show _=_ from he)
 | tup ds =>
  obtain⟨p,vs,rfl,_,hp,ha⟩:=hd
  cases n with
  |zero=>exact absurd pd (by unfold j6;exact id)
  | succ n =>
   cases e with
   | tup es =>
    obtain⟨p',Yn,q,_,AB,Wi⟩:=he;cases q
    rw[hp]at AB;cases AB
    unfold j6 at pd pe
    unfold lQ
    exact uH pd pe ha Wi
   |lst es=>obtain⟨p',Yn,q,_,AB,Wi⟩:=he;cases q;rw[hp]at AB;cases AB
   |jC _ _=>exact absurd pe (by unfold j6;exact id)
   |mr _=>exact absurd pe (by unfold j6;exact id)
   |obj _ _ _=>exact absurd pe (by unfold j6;exact id)
   |rC _ _=>exact absurd pe (by unfold j6;exact id)
   |fn _=>exact absurd pe (by unfold j6;exact id)
   |_=>cases(show _=_ from he)
 |jC _ _=>exact absurd pd (by cases n<;>(unfold j6;exact id))
 |mr _=>exact absurd pd (by cases n<;>(unfold j6;exact id))
 |obj _ _ _=>exact absurd pd (by cases n<;>(unfold j6;exact id))
 |rC _ _=>exact absurd pd (by cases n<;>(unfold j6;exact id))
 |fn _=>exact absurd pd (by cases n<;>(unfold j6;exact id))
def uH {φ:List ai}{H:Hp}:∀ {n:Nat} {ds es:List D} {vs:List V},Ad n ds->Ad n es->fZ φ H ds vs->fZ φ H es vs->ml ds es=true:=λ{n ds es vs} pd pe hd he=>by
 cases ds with
 | nil =>
  cases(show vs=[]from hd)
  cases es with
  |nil=>unfold ml;rfl
  |cons e es=>obtain⟨_,_,q,_⟩:=he;cases q
 | cons d ds =>
  obtain⟨v,r,rfl,h1,h2⟩:=hd
  cases es with
  |nil=>cases(show _=_ from he)
  | cons e es =>
   obtain⟨v',r',q,h3,h4⟩:=he
   cases q
   unfold Ad at pd pe
   unfold ml
   rw[CU pd.1 pe.1 h1 h3,uH pd.2 pe.2 h2 h4]
   rfl
end
def qr:∀ {ds es:ao D},ds.length≠es.length->ml ds es=false
 |[],[],h=>absurd rfl h
 |[],_::_,_=>by unfold ml;rfl
 |_::_,[],_=>by unfold ml;rfl
 |d::ds,e::es,h=>by unfold ml;rw[qr (ds:=ds) (es:=es) (by simpa using h),fo]
def yw (ds es:ao D)(j:Nat):Bool:=match ds[j]?,es[j]? with|some a,some b=>lQ a b|_,_=>true
def wY (n:Nat)(f:Nat->Bool):(List.range (n+1)).all f=(f 0&&(List.range n).all λj=>f (j+1)):=by
 rw[List.range_succ_eq_map,cO,List.all_map];rfl
def ni:∀(ds es:ao D),ds.length=es.length->(List.range ds.length).all (yw ds es)=ml ds es
 |[],[],_=>by unfold ml;rfl
 |[],_::_,h=>by simp at h
 |_::_,[],h=>by simp at h
 | d::ds,e::es,h=>by
  rw[aU,wY]
  unfold ml
  have ih:=ni ds es (by simpa using h)
  have e1:(λj=>yw (d::ds) (e::es) (j+1))=yw ds es:=by funext j;unfold yw;simp
  rw[e1,ih]
  rfl
section
variable {X:Cx}{fI:ao (ai×Obj)}{σ:St}{H:Hp}{s:ah}{φ:ao ai}
def zF {xs:ao V}{us:ao ak}(r:gE xs us){j:Nat}(h1:j<us.toArray.size):∃ x,xs[j]?=some x/\gD x us.toArray[j]:=by
 have hj:j<us.length:=by rwa [aE]at h1
 have hx:j<xs.length:=by rw[r.length];exact hj
 obtain⟨u,eu,ru⟩:=r.get (jk hx)
 refine⟨_,jk hx,?_⟩
 have:us.toArray[j]=u:=by have:=kM eu;simpa using this.2
 rw[this];exact ru
def wN (I:Inv X fI σ H s){d:D}{x:V}{u:ak}{n:Nat}(pd:j6 n d)(hd:je φ H d x)(ru:gD x u):(∀ p,u≠.ref p)\/∃ p gp ds vs,u=.ref p/\gE vs gp/\fZ φ H ds vs/\∃ m,n=m+1/\Ad m ds/\((d=.lst ds/\s.heap.IsList p gp.toArray)\/(d=.tup ds/\s.heap.IsTuple p gp.toArray)):=by
 cases d with
 |iq=>cases(show x=_ from hd);cases ru;exact .inl λp q=>by cases q
 |bl b=>cases(show x=_ from hd);cases ru;exact .inl λp q=>by cases q
 |int b=>cases(show x=_ from hd);obtain⟨t,rfl⟩:=ru;exact .inl λp q=>by cases q
 |str b=>cases(show x=_ from hd);obtain⟨t,rfl⟩:=ru;exact .inl λp q=>by cases q
 | lst ds =>
  obtain⟨p,vs,rfl,_,hp,ha⟩:=hd
  cases ru
  obtain⟨_,gp,k,r,_,ho⟩:=I.mH hp
  cases n with
  |zero=>exact absurd pd (by unfold j6;exact id)
  |succ n=>exact .inr ⟨p,gp,ds,vs,rfl,r,ha,n,rfl,(by unfold j6 at pd;exact pd),.inl ⟨rfl,⟨_,ho,rfl,k,rfl⟩⟩⟩
 | tup ds =>
  obtain⟨p,vs,rfl,_,hp,ha⟩:=hd
  cases ru
  obtain⟨_,gp,r,ho⟩:=(show jg X.prog X.w H s.heap p (.tup vs)from I.iA p _ hp)
  cases n with
  |zero=>exact absurd pd (by unfold j6;exact id)
  |succ n=>exact .inr ⟨p,gp,ds,vs,rfl,r,ha,n,rfl,(by unfold j6 at pd;exact pd),.inr ⟨rfl,ho⟩⟩
 |jC _ _=>exact absurd pd (by cases n<;>(unfold j6;exact id))
 |mr _=>exact absurd pd (by cases n<;>(unfold j6;exact id))
 |obj _ _ _=>exact absurd pd (by cases n<;>(unfold j6;exact id))
 |rC _ _=>exact absurd pd (by cases n<;>(unfold j6;exact id))
 |fn _=>exact absurd pd (by cases n<;>(unfold j6;exact id))
def Gx {n:Nat}{d:D}{x:V}(pd:j6 n d)(hd:je φ H d x)(fx:lU x=true):(d=.iq/\x=.iq)\/(∃ b,d=.bl b/\x=.bl b)\/(∃ b,d=.int b/\x=.int b)\/∃ b,d=.str b/\x=.str b:=by
 cases d with
 |iq=>exact .inl ⟨rfl,hd⟩
 |bl b=>exact .inr (.inl ⟨b,rfl,hd⟩)
 |int b=>exact .inr (.inr (.inl ⟨b,rfl,hd⟩))
 |str b=>exact .inr (.inr (.inr ⟨b,rfl,hd⟩))
 |lst ds=>obtain⟨p,vs,rfl,_⟩:=hd;cases fx
 |tup ds=>obtain⟨p,vs,rfl,_⟩:=hd;cases fx
 |jC _ _=>exact absurd pd (by cases n<;>(unfold j6;exact id))
 |mr _=>exact absurd pd (by cases n<;>(unfold j6;exact id))
 |obj _ _ _=>exact absurd pd (by cases n<;>(unfold j6;exact id))
 |rC _ _=>exact absurd pd (by cases n<;>(unfold j6;exact id))
 |fn _=>exact absurd pd (by cases n<;>(unfold j6;exact id))
def J1 (I:Inv X fI σ H s)(n:Nat)(A:Around)(ds es:ao D)(vs ws:ao V)(gp xX:ao ak)(p q:ai)(hu:A.units<cLine)
 (ih:∀(d e:D) (x y:V) (u v:ak),j6 n d->j6 n e->je φ H d x->je φ H e y->gD x u->gD y v->SeqAt.EqAt A.in1 s u v (lQ d e)) (pd:Ad n ds) (pe:Ad n es) (hd:fZ φ H ds vs) (he:fZ φ H es ws) (rv:gE vs gp) (By:gE ws xX):
 (s.heap.IsList p gp.toArray->s.heap.IsList q xX.toArray->SeqAt.RcAt A s (.ref p) (.ref q) (ml ds es))/\(s.heap.IsTuple p gp.toArray->s.heap.IsTuple q xX.toArray->SeqAt.RcAt A s (.ref p) (.ref q) (ml ds es)):=by
 have l1:gp.toArray.size=ds.length:=by rw[aE,<- rv.length,hd.len]
 have l2:xX.toArray.size=es.length:=by rw[aE,<- By.length,he.len]
 have el:∀ j (h1:j<gp.toArray.size) (h2:j<xX.toArray.size),SeqAt.EqAt A.in1 s gp.toArray[j] xX.toArray[j] (yw ds es j):=λj h1 h2=>by
  obtain⟨x,ex,rx⟩:=zF rv h1
  obtain⟨y,ey,ry⟩:=zF By h2
  obtain⟨d,ed,Zc⟩:=hd.CH ex
  obtain⟨e,ee,ie⟩:=he.CH ey
  have q:yw ds es j=lQ d e:=by unfold yw;rw[ed,ee]
  rw[q]
  exact ih d e x y _ _ (sO pd ed) (sO pe ee) Zc ie rx ry
 constructor
 .intro hl hq
  by_cases hlen:ds.length=es.length
  .have:=SeqAt.RcAt.lists hl hq (by rw[l1,l2,hlen]) hu el
   rw[l1,ni ds es hlen]at this
   exact this
  .rw[qr hlen]
   exact SeqAt.RcAt.lists_lengths hl hq (by rw[l1,l2];simpa using hlen) hu
 .intro hl hq
  have:=SeqAt.RcAt.tuples hl hq hu el
  rw[l1,l2]at this
  by_cases hlen:ds.length=es.length
  .rw[<- hlen,Nat.min_self,ni ds es hlen]at this
   simpa using this
  .rw[qr hlen]
   have e0:(ds.length==es.length)=false:=by simpa using hlen
   rw[e0,fo]at this
   exact this
def LO (I:Inv X fI σ H s):∀(n:Nat) (A:Around) (d e:D) (x y:V) (u v:ak),A.units+n<cLine->j6 n d->j6 n e->je φ H d x->je φ H e y->gD x u->gD y v->SeqAt.EqAt A s u v (lQ d e):=by
 intro n
 induction n with
 | zero =>
  intro A d e x y u v hu pd pe hd he ru rv
  have fl:∀ {d:D} {x:V},j6 0 d->je φ H d x->lU x=true:=λ{d x} pd hd=>by
   cases d with
   |iq=>cases(show x=_ from hd);rfl
   |bl b=>cases(show x=_ from hd);rfl
   |int b=>cases(show x=_ from hd);rfl
   |str b=>cases(show x=_ from hd);rfl
   |_=>exact absurd pd (by unfold j6;exact id)
  have q:=EG (A:=A) (s:=s) ru rv (fl pd hd) (fl pe he)
  have eq:GQ x y=lQ d e:=by
   cases d <;> first
    |exact absurd pd (by unfold j6;exact id)
    | (cases(show x=_ from hd)
       cases e <;> first
        |exact absurd pe (by unfold j6;exact id)
        |(cases(show y=_ from he);unfold GQ lQ;rfl))
  rw[eq]at q
  exact q
 | succ n ih =>
  intro A d e x y u v hu pd pe hd he ru rv
  have AA:A.units<cLine:=by lia
  have hu1:A.in1.units+n<cLine:=by show A.units+1+n<cLine;lia
  rcases wN I pd hd ru with fd|⟨p,gp,ds,vs,rfl,r1,a1,m1,e1,p1,k1⟩
  .rcases wN I pe he rv with fe | ⟨q,xX,es,ws,rfl,r2,a2,m2,e2,p2,k2⟩
   .have fl:∀ {d:D} {x:V} {u:ak},j6 (n+1) d->je φ H d x->gD x u->(∀ p,u≠.ref p)->lU x=true:=λ{d x u} pd hd ru fu=>by
     cases d with
     |iq=>cases(show x=_ from hd);rfl
     |bl b=>cases(show x=_ from hd);rfl
     |int b=>cases(show x=_ from hd);rfl
     |str b=>cases(show x=_ from hd);rfl
     |lst ds=>obtain⟨p,vs,rfl,_⟩:=hd;cases ru;exact absurd rfl (fu p)
     |tup ds=>obtain⟨p,vs,rfl,_⟩:=hd;cases ru;exact absurd rfl (fu p)
     |_=>exact absurd pd (by unfold j6;exact id)
    have fx:=fl pd hd ru fd
    have fy:=fl pe he rv fe
    have q:=EG (A:=A) (s:=s) ru rv fx fy
    have eq:GQ x y=lQ d e:=by
     rcases Gx pd hd fx with⟨rfl,rfl⟩|⟨b,rfl,rfl⟩|⟨b,rfl,rfl⟩|⟨b,rfl,rfl⟩<;>
     rcases Gx pe he fy with⟨rfl,rfl⟩|⟨c,rfl,rfl⟩|⟨c,rfl,rfl⟩|⟨c,rfl,rfl⟩<;> (unfold GQ lQ;rfl)
    rw[eq]at q
    exact q
   .rcases k2 with⟨rfl,hl⟩ | ⟨rfl,hl⟩
    .cases d with
     |iq=>cases(show x=_ from hd);cases ru;exact SeqAt.EqAt.none_list hl AA
     |bl b=>cases(show x=_ from hd);cases ru;exact SeqAt.EqAt.bool_list b hl AA
     |int b=>cases(show x=_ from hd);obtain⟨t,rfl⟩:=ru;exact SeqAt.EqAt.int_list b t hl AA
     |str b=>cases(show x=_ from hd);obtain⟨t,rfl⟩:=ru;exact SeqAt.EqAt.str_list b t hl AA
     |lst _=>obtain⟨_,_,rfl,_⟩:=hd;cases ru;exact absurd rfl (fd _)
     |tup _=>obtain⟨_,_,rfl,_⟩:=hd;cases ru;exact absurd rfl (fd _)
     |_=>exact absurd pd (by unfold j6;exact id)
    .cases d with
     |iq=>cases(show x=_ from hd);cases ru;exact SeqAt.EqAt.none_tuple hl AA
     |bl b=>cases(show x=_ from hd);cases ru;exact SeqAt.EqAt.bool_tuple b hl AA
     |int b=>cases(show x=_ from hd);obtain⟨t,rfl⟩:=ru;exact SeqAt.EqAt.int_tuple b t hl AA
     |str b=>cases(show x=_ from hd);obtain⟨t,rfl⟩:=ru;exact SeqAt.EqAt.str_tuple b t hl AA
     |lst _=>obtain⟨_,_,rfl,_⟩:=hd;cases ru;exact absurd rfl (fd _)
     |tup _=>obtain⟨_,_,rfl,_⟩:=hd;cases ru;exact absurd rfl (fd _)
     |_=>exact absurd pd (by unfold j6;exact id)
  .rcases wN I pe he rv with fe | ⟨q,xX,es,ws,rfl,r2,a2,m2,e2,p2,k2⟩
   .rcases k1 with⟨rfl,hl⟩ | ⟨rfl,hl⟩
    .cases e with
     |iq=>cases(show y=_ from he);cases rv;exact SeqAt.EqAt.list_none hl AA
     |bl b=>cases(show y=_ from he);cases rv;exact SeqAt.EqAt.list_bool b hl AA
     |int b=>cases(show y=_ from he);obtain⟨t,rfl⟩:=rv;exact SeqAt.EqAt.list_int b t hl AA
     |str b=>cases(show y=_ from he);obtain⟨t,rfl⟩:=rv;exact SeqAt.EqAt.list_str b t hl AA
     |lst _=>obtain⟨_,_,rfl,_⟩:=he;cases rv;exact absurd rfl (fe _)
     |tup _=>obtain⟨_,_,rfl,_⟩:=he;cases rv;exact absurd rfl (fe _)
     |_=>exact absurd pe (by unfold j6;exact id)
    .cases e with
     |iq=>cases(show y=_ from he);cases rv;exact SeqAt.EqAt.tuple_none hl AA
     |bl b=>cases(show y=_ from he);cases rv;exact SeqAt.EqAt.tuple_bool b hl AA
     |int b=>cases(show y=_ from he);obtain⟨t,rfl⟩:=rv;exact SeqAt.EqAt.tuple_int b t hl AA
     |str b=>cases(show y=_ from he);obtain⟨t,rfl⟩:=rv;exact SeqAt.EqAt.tuple_str b t hl AA
     |lst _=>obtain⟨_,_,rfl,_⟩:=he;cases rv;exact absurd rfl (fe _)
     |tup _=>obtain⟨_,_,rfl,_⟩:=he;cases rv;exact absurd rfl (fe _)
     |_=>exact absurd pe (by unfold j6;exact id)
   .cases e1;cases e2
    have rc:=J1 I n A ds es vs ws gp xX p q AA (λd e x y u v a b c d' e' f'=>ih A.in1 d e x y u v hu1 a b c d' e' f') p1 p2 a1 a2 r1 r2
    by_cases Zo:p=q
    .subst Zo
     have hv:x=y:=ru.inj rv
     subst hv
     rw[CU pd pe hd he]
     exact SeqAt.EqAt.same _
    .rcases k1 with⟨rfl,hl⟩ | ⟨rfl,hl⟩<;> rcases k2 with⟨rfl,sx⟩ | ⟨rfl,sx⟩
     .unfold lQ;exact .of_refs Zo (rc.1 hl sx)
     .unfold lQ;exact SeqAt.EqAt.list_tuple hl sx AA
     .unfold lQ;exact SeqAt.EqAt.tuple_list hl sx AA
     .unfold lQ;exact .of_refs Zo (rc.2 hl sx)
end
section
variable {X:Cx}
def Ve:D->D->aq (ao D×ao D)
 |.lst xs,.lst ys=>some (xs,ys)
 |.tup xs,.tup ys=>some (xs,ys)
 |_,_=>none
def RL (n:Nat)(neg:Bool):R2:=λx y H Q=>∃ φ d e,j6 n d/\j6 n e/\je φ H d x/\je φ H e y/\(Ve d e).isSome=true/\Q (.bl (neg != lQ d e)) H
def Fg {fI:ao (ai×Obj)}{s:ah}{σ:St}{H:Hp}{φ:ao ai}{n:Nat}{d e:D}{x y:V}{u v:ak}(I:Inv X fI σ H s)(pd:j6 n d)(pe:j6 n e)(hd:je φ H d x)(he:je φ H e y)(rx:gD x u)(ry:gD y v)(hs:(Ve d e).isSome=true):
 ∃ p q gp xX ds es vs ws m,u=.ref p/\v=.ref q/\n=m+1/\gE vs gp/\gE ws xX/\fZ φ H ds vs/\fZ φ H es ws/\Ad m ds/\Ad m es/\((d=.lst ds/\e=.lst es/\s.heap.IsList p gp.toArray/\s.heap.IsList q xX.toArray)\/(d=.tup ds/\e=.tup es/\s.heap.IsTuple p gp.toArray/\s.heap.IsTuple q xX.toArray)):=by
 rcases wN I pd hd rx with fd|⟨p,gp,ds,vs,rfl,r1,a1,m1,e1,p1,k1⟩
 .cases d with
  |lst _=>obtain⟨_,_,rfl,_⟩:=hd;cases rx;exact absurd rfl (fd _)
  |tup _=>obtain⟨_,_,rfl,_⟩:=hd;cases rx;exact absurd rfl (fd _)
  |_=>cases hs
 .rcases wN I pe he ry with fe | ⟨q',xX,es,ws,rfl,r2,a2,m2,e2,p2,k2⟩
  .cases e with
   |lst _=>obtain⟨_,_,rfl,_⟩:=he;cases ry;exact absurd rfl (fe _)
   |tup _=>obtain⟨_,_,rfl,_⟩:=he;cases ry;exact absurd rfl (fe _)
   |_=>cases d<;>cases hs
  .subst e1
   cases e2
   refine⟨p,q',gp,xX,ds,es,vs,ws,m1,rfl,rfl,rfl,r1,r2,a1,a2,p1,p2,?_⟩
   rcases k1 with⟨rfl,hl⟩|⟨rfl,hl⟩<;> rcases k2 with⟨rfl,sx⟩|⟨rfl,sx⟩
   .exact .inl ⟨rfl,rfl,hl,sx⟩
   .cases hs
   .cases hs
   .exact .inr ⟨rfl,rfl,hl,sx⟩
def TB {n:Nat}(hu:X.A.units+n<cLine):kU X (compareOp .Eq) (RL n false):=by
 intro fI s σ H x y u v Q I rx ry h
 obtain⟨φ,d,e,pd,pe,hd,he,hs,q⟩:=h
 obtain⟨p,q',gp,xX,ds,es,vs,ws,m1,rfl,rfl,rfl,r1,r2,a1,a2,p1,p2,kk⟩:=Fg I pd pe hd he rx ry hs
 have rc:=J1 I m1 X.A ds es vs ws gp xX p q' (by lia) (λd e x y u v a b c d' e' f'=>LO I m1 X.A.in1 d e x y u v (by show X.A.units+1+m1<cLine;lia) a b c d' e' f') p1 p2 a1 a2 r1 r2
 rcases kk with⟨rfl,rfl,hl,sx⟩|⟨rfl,rfl,hl,sx⟩
 .unfold lQ at q;exact rc.1 hl sx X.prog X.w X.xe _ ⟨.bl _,H,I,rfl,by rw[UR]at q;exact q⟩
 .unfold lQ at q;exact rc.2 hl sx X.prog X.w X.xe _ ⟨.bl _,H,I,rfl,by rw[UR]at q;exact q⟩
def Eb {n:Nat}(hu:X.A.units+n<cLine):kU X (compareOp .NotEq) (RL n true):=by
 intro fI s σ H x y u v Q I rx ry h
 obtain⟨φ,d,e,pd,pe,hd,he,hs,q⟩:=h
 obtain⟨p,q',gp,xX,ds,es,vs,ws,m1,rfl,rfl,rfl,r1,r2,a1,a2,p1,p2,kk⟩:=Fg I pd pe hd he rx ry hs
 have l1:gp.toArray.size=ds.length:=by rw[aE,<- r1.length,a1.len]
 have l2:xX.toArray.size=es.length:=by rw[aE,<- r2.length,a2.len]
 have el:∀ j (h1:j<gp.toArray.size) (h2:j<xX.toArray.size),SeqAt.EqAt X.A.in1 s gp.toArray[j] xX.toArray[j] (yw ds es j):=λj h1 h2=>by
  obtain⟨x,ex,rx⟩:=zF r1 h1
  obtain⟨y,ey,ry⟩:=zF r2 h2
  obtain⟨d,ed,Zc⟩:=a1.CH ex
  obtain⟨e,ee,ie⟩:=a2.CH ey
  have q:yw ds es j=lQ d e:=by unfold yw;rw[ed,ee]
  rw[q]
  exact LO I m1 X.A.in1 d e x y _ _ (by show X.A.units+1+m1<cLine;lia) (sO p1 ed) (sO p2 ee) Zc ie rx ry
 have fin:Q (.bl (!ml ds es)) H->EP X fI σ Q (.bool (!ml ds es)) s:=λq=>⟨.bl _,H,I,rfl,q⟩
 rcases kk with⟨rfl,rfl,hl,sx⟩|⟨rfl,rfl,hl,sx⟩
 .unfold lQ at q
  rw[Uw]at q
  by_cases hlen:ds.length=es.length
  .have:=SeqAt.RcNeAt.lists hl sx (by rw[l1,l2,hlen]) (by lia) el
   rw[l1,ni ds es hlen]at this
   exact this X.prog X.w X.xe _ (fin q)
  .have t:=fin q
   rw[qr hlen]at t
   exact SeqAt.RcNeAt.lists_lengths hl sx (by rw[l1,l2];simpa using hlen) (by lia) X.prog X.w X.xe _ t
 .unfold lQ at q
  rw[Uw]at q
  have this:=SeqAt.RcNeAt.tuples hl sx (by lia) el
  rw[l1,l2]at this
  by_cases hlen:ds.length=es.length
  .rw[<- hlen,Nat.min_self,ni ds es hlen]at this
   exact this X.prog X.w X.xe _ (by simpa using fin q)
  .have t:=fin q
   rw[qr hlen]at t
   have e0:(ds.length==es.length)=false:=by simpa using hlen
   rw[e0,fo]at this
   exact this X.prog X.w X.xe _ t
def T4 (n:Nat)(neg:Bool):sy:=λx y μ K=>j6 n x/\j6 n y/\(Ve x y).isSome=true/\K (.bl (neg != lQ x y)) μ
def zS {n:Nat}{neg:Bool}:om (RL n neg) (T4 n neg):=λφ H x y dx dy μ K Q M hx hy k L=>⟨φ,dx,dy,k.1,k.2.1,hx,hy,k.2.2.1,L.val M k.2.2.2 rfl⟩
end
mutual
def AU:∀(d:D) (n:Nat),j6 n d->lQ d d=true
 |.iq,_,_=>by unfold lQ;rfl
 |.bl _,_,_=>by simp[lQ]
 |.int _,_,_=>by simp[lQ]
 |.str _,_,_=>by simp[lQ]
 |.lst ds,0,h=>absurd h (by unfold j6;exact id)
 |.lst ds,n+1,h=>by unfold j6 at h;unfold lQ;exact xI ds n h
 |.tup ds,0,h=>absurd h (by unfold j6;exact id)
 |.tup ds,n+1,h=>by unfold j6 at h;unfold lQ;exact xI ds n h
 |.jC _ _,n,h=>absurd h (by cases n<;>(unfold j6;exact id))
 |.mr _,n,h=>absurd h (by cases n<;>(unfold j6;exact id))
 |.obj _ _ _,n,h=>absurd h (by cases n<;>(unfold j6;exact id))
 |.rC _ _,n,h=>absurd h (by cases n<;>(unfold j6;exact id))
 |.fn _,n,h=>absurd h (by cases n<;>(unfold j6;exact id))
def xI:∀(ds:List D) (n:Nat),Ad n ds->ml ds ds=true
 |[],_,_=>by unfold ml;rfl
 |d::ds,n,h=>by unfold Ad at h;unfold ml;rw[AU d n h.1,xI ds n h.2];rfl
end
def px:D->Bool
 |.iq=>true
 |.bl _=>true
 |.int _=>true
 |.str _=>true
 |_=>false
section
variable {X:Cx}
def B5 (neg:Bool):R2:=λx y H Q=>match x,y with
 |.str z,.str t=>∃ c:Nat,z=⟨#[c]⟩/\Q (.bl (neg != decide (c∈t.cps.toList))) H
 |x,.ref p=>∃ xs,(H p=some (.lst xs)\/H p=some (.tup xs))/\lU x=true/\xs.all lU=true/\Q (.bl (neg != UE x xs)) H
 |_,_=>False
def inC:kU X (compareOp .In) (B5 false):=(HI.or HJ).imp λx y H Q q=>by
 unfold B5 at q
 split at q
 .obtain⟨c,rfl,q⟩:=q
  exact .inl ⟨_,_,rfl,rfl,by rw[StrLaws.found_one];rw[UR]at q;exact q⟩
 .obtain⟨xs,h,h1,h2,q⟩:=q
  rw[UR]at q
  rcases h with h|h
  .exact .inr ⟨_,xs,rfl,.inl (pF.of h),h1,h2,q⟩
  .exact .inr ⟨_,xs,rfl,.inr (EU.of h),h1,h2,q⟩
 .exact q.elim
def KQ:kU X (compareOp .NotIn) (B5 true):=(Ag.or Ah).imp λx y H Q q=>by
 unfold B5 at q
 split at q
 .obtain⟨c,rfl,q⟩:=q
  exact .inl ⟨_,_,rfl,rfl,by rw[StrLaws.found_one];rw[Uw]at q;exact q⟩
 .obtain⟨xs,h,h1,h2,q⟩:=q
  rw[Uw]at q
  rcases h with h|h
  .exact .inr ⟨_,xs,rfl,.inl (pF.of h),h1,h2,q⟩
  .exact .inr ⟨_,xs,rfl,.inr (EU.of h),h1,h2,q⟩
 .exact q.elim
end
def X9 (neg:Bool):sy:=λx y μ K=>match x,y with
 |.str z,.str t=>∃ c:Nat,z=⟨#[c]⟩/\K (.bl (neg != decide (c∈t.cps.toList))) μ
 |x,y=>opt (lv μ y) λds=>px x=true/\ds.all px=true/\K (.bl (neg != ds.any λd=>lQ d x)) μ
def LC {φ:ao ai}{H:Hp}{d:D}{v:V}(i:je φ H d v)(h:px d=true):lU v=true:=by
 cases d<;>first|exact(Bool.noConfusion (show false=true from h))|(cases(show v=_ from i);rfl)
def Tu {φ:ao ai}{H:Hp}{d e:D}{v u:V}(i:je φ H d v)(j:je φ H e u)(h:px d=true)(h':px e=true):GQ v u=lQ d e:=by
 cases d <;> first
  |exact(Bool.noConfusion (show false=true from h))
  | (cases(show v=_ from i)
     cases e <;> first
      |exact(Bool.noConfusion (show false=true from h'))
      |(cases(show u=_ from j);unfold GQ lQ;rfl))
def Gw {φ:ao ai}{H:Hp}{x:D}{v:V}(i:je φ H x v)(hx:px x=true):∀ {ds:ao D} {vs:ao V},fZ φ H ds vs->ds.all px=true->vs.all lU=true/\UE v vs=ds.any λd=>lQ d x
 |[],_,h,_=>by cases(show _=[]from h);exact⟨rfl,rfl⟩
 | d::ds,_,h,f=>by
  obtain⟨u,r,rfl,h1,h2⟩:=h
  rw[cO,bJ]at f
  obtain⟨a,b⟩:=Gw i hx h2 f.2
  unfold UE at b ⊢
  rw[cO,dh,dh,a,b,LC h1 f.1,Tu h1 i f.1 hx]
  exact⟨rfl,rfl⟩
def Fv {neg:Bool}:om (B5 neg) (X9 neg):=λφ H x y dx dy μ K Q M hx hy k L=>by
 unfold X9 at k
 split at k
 .cases(show x=_ from hx);cases(show y=_ from hy)
  obtain⟨c,rfl,k⟩:=k
  exact⟨c,rfl,L.val M k rfl⟩
 .obtain⟨ds,el,f1,f2,k⟩:=hX k
  obtain⟨p,vs,rfl,hp,ha⟩:=jY M hy el
  obtain⟨a,b⟩:=Gw hx f1 ha f2
  have fx:=LC hx f1
  have key:∃ xs,(H p=some (.lst xs)\/H p=some (.tup xs))/\lU x=true/\xs.all lU=true/\Q (.bl (neg != UE x xs)) H:=⟨vs,.inl hp,fx,a,by rw[b];exact L.val M k rfl⟩
  unfold B5
  cases x<;>exact key
def range_any (bs:ao Bool):(List.range bs.length).any (λi=>bs.getD i false)=bs.any id:=by
 rw[du,d9,d9]
 constructor
 .rintro⟨i,hi,e⟩
  have OJ:i<bs.length:=by simpa using hi
  rw[aA,jk OJ]at e
  exact⟨_,bI OJ,e⟩
 .rintro⟨b,hb,e⟩
  obtain⟨i,hi,e2⟩:=aX hb
  refine⟨i,by simpa using hi,?_⟩
  rw[aA,jk hi,e2]
  exact e
def anyC {X:Cx}(hc:X.gY=true):jB X (.builtin "any") (B7 λbs=>bs.any id):=by
 intro fI s σ H vs us Q I rv h
 unfold B7 at h
 split at h
 .rename_i p
  obtain⟨bs,hp,q⟩:=h
  obtain⟨u,rfl,ru⟩:=rv.one
  cases ru
  obtain⟨z,gp,n,r,hl,e⟩:=I.mH hp
  have y7:s.heap.IsList p gp.toArray:=⟨_,e,rfl,n,rfl⟩
  have lt:p≠s.heap.objs.size:=aD (jf e)
  refine call_any_walk (c9 y7 ⟨_,_,_,_,_,_,λi=>bs.getD i false,rfl,Walks.list (A:=X.A.in1) (I.ok.hd hc) s.heap.objs.size p lt gp.toArray,⟨⟨_,aG _ rfl,rfl,rfl⟩,y7.push _⟩,?_,λh' tk kp=>?_⟩)
  .intro i v s' Q' E' hv hq
   have CF:gp[i]?=some v:=by simpa using hv
   have hb:∃ b,bs[i]?=some b/\v=.bool b:=by
    cases eb:(bs.map V.bl)[i]? with
    |none=>have:=r.none_of eb;rw[CF]at this;cases this
    | some y =>
     obtain⟨u,hu,ry⟩:=r.get eb
     rw[CF]at hu;cases hu
     rw[oU]at eb
     cases e2:bs[i]? with
     |none=>rw[e2]at eb;cases eb
     |some b=>rw[e2]at eb;cases eb;exact⟨b,rfl,ry⟩
   obtain⟨b,eb,rfl⟩:=hb
   have e3:bs.getD i false=b:=by rw[aA,eb];rfl
   have Lo:Q' (bs.getD i false) s':=hq
   rw[e3]at Lo
   exact cF Lo
  .have I2:Inv X fI σ H { s with heap:=h',toks:=tk}:=I.jz λb o e'=>kp b o (by simpa using aD (jf e')) (j8 _ e')
   have len:gp.toArray.size=bs.length:=by rw[aE,<- hl,iu]
   rw[len,range_any]
   exact⟨.bl _,H,I2,rfl,q⟩
 .cases h
def Xy:D->MS->aq String
 |.iq,_=>some "NoneType"
 |.bl _,_=>some "bool"
 |.int _,_=>some "int"
 |.str _,_=>some "str"
 |.lst _,_=>some "list"
 |.tup _,_=>some "tuple"
 |.jC _ _,_=>some "dict"
 |.mr k,μ=>match μ[k]? with|some (.lst _)=>some "list" | some (.jC _ _)=>some "dict" | _=>none
 |.obj _ _ _,_=>none
 |.rC _ _,_=>none
 |.fn _,_=>none
def SM (t T:String):Bool:=t==T||(t == "bool"&&T == "int")
def dIsi (T:String)(w:De):De:=λρ μ K=>w ρ μ λd gr=>opt (Xy d gr) λt=>K (.bl (SM t T)) gr
def Sy (K:aa){t T:String}(ht:t∈["NoneType","bool","int","str","list","tuple","dict"])(hT:T∈["bool","int","str","list","tuple","dict"]):W.kitOne K (.type t) (.type T)=some (SM t T):=by
 simp only[aP,aH,bS]at ht hT
 rcases ht with rfl|rfl|rfl|rfl|rfl|rfl|rfl<;>rcases hT with rfl|rfl|rfl|rfl|rfl|rfl<;>first|rfl|exact jv K _
def Rh {φ:ao ai}{H:Hp}{μ:MS}{Kf:aa}{d:D}{v:V}{t:String}(M:gC φ H μ)(i:je φ H d v)(e:Xy d μ=some t):kG Kf H v (.type t)/\t∈["NoneType","bool","int","str","list","tuple","dict"]:=by
 cases d with
 |iq=>cases e;cases(show v=_ from i);exact⟨.iq,by simp⟩
 |bl b=>cases e;cases(show v=_ from i);exact⟨.bl b,by simp⟩
 |int b=>cases e;cases(show v=_ from i);exact⟨.int b,by simp⟩
 |str b=>cases e;cases(show v=_ from i);exact⟨.str b,by simp⟩
 |lst ds=>cases e;obtain⟨p,vs,rfl,_,hp,_⟩:=i;exact⟨.lst hp,by simp⟩
 |tup ds=>cases e;obtain⟨p,vs,rfl,_,hp,_⟩:=i;exact⟨.tup hp,by simp⟩
 |jC ks ds=>cases e;obtain⟨p,kvs,vs,rfl,_,hp,_⟩:=i;exact⟨.dK hp,by simp⟩
 |obj _ _ _=>cases e
 |rC _ _=>cases e
 |fn _=>cases e
 | mr k =>
  unfold Xy at e
  dsimp only at e
  obtain⟨p,hp,rfl⟩:=i
  cases em:μ[k]? with
  |none=>rw[em]at e;cases e
  | some m =>
   rw[em]at e
   obtain⟨q,e1,e2⟩:=M.at_ k m em
   rw[hp]at e1;cases e1
   cases m with
   |box=>cases e
   |lst ds=>cases e;obtain⟨vs,hv,_⟩:=e2;exact⟨.lst hv,by simp⟩
   |jC ks ds=>cases e;obtain⟨kvs,vs,hv,_⟩:=e2;exact⟨.dK hv,by simp⟩
   |_=>cases e
def rD {X:Cx}{a:Expr}{w:De}{T:String}{x:Str}{p p2 pos:Pos}(hT:T∈["bool","int","str","list","tuple","dict"])(hg:Gl X "isinstance")(hm:X.mg "isinstance"=none)(Th:Gl X x)(Tc:X.mg x=none)(hv:bootBuiltins x=some (.type T))(ha:PD X a w)(hn:x ≠ "__name__":=by decide)(hd:(x==("__debug__" : Str))=false:=by decide)
 (hs:starEach [a,.Name x p2] X.env=(false,eval a X.env)::starEach [.Name x p2] X.env:=by rfl) (tE:starEach [.Name x p2] X.env=(false,eval (.Name x p2) X.env)::starEach [] X.env:=by rfl) (pw:(backTo pos (starEach [.Name x p2] X.env)).any (·.1)=false:=by rfl):
 PD X (.Call (.Name "isinstance" p) [a,.Name x p2] [] pos) (dIsi T w):=
 (iz rX hg hm boot_isinstance (gv ha (gv (jO (v:=.ty T) Th Tc hv rfl hn hd) iR tE) hs) (by decide) (by decide) hs pw).imp λσ H Q hq=>by
  obtain⟨φ,ρ,μ,K,A,M,k,L⟩:=hq
  refine⟨φ,ρ,μ,_,A,M,k,λd gr gN v1 H1 k1 f1 M1 i1=>?_⟩
  obtain⟨t,et,k1⟩:=hX k1
  obtain⟨h1,h2⟩:=Rh M1 i1 et
  exact⟨.type t,SM t T,h1,Sy X.K h2 hT,L _ gr gN _ H1 k1 f1 M1 rfl⟩
def PN (H:Hp)(b q:ai):Prop:=∃(ns:ao Int) (i r z:Int),H b=some (.lst [.ref q,.int i,.int r,.int z])/\H q=some (.lst (ns.map V.int))/\q≠b/\0<=i/\0<=z/\z<2147483647
def zO:Sp:=λvs H Q _=>match vs with
 |[.ref b,.int n]=>∃ q,PN H b q/\0<n/\n<1073741824/\∀ v H',0<=v->v<n->PN H' b q->OB b H H'->Q (.int v) H'
 |_=>False
def Qh {vs:ao V}{H:Hp}{Q:VK}{E:XK}(h:zO vs H Q E):∃ b n q,vs=[.ref b,.int n]/\PN H b q/\0<n/\n<1073741824/\∀ v H',0<=v->v<n->PN H' b q->OB b H H'->Q (.int v) H':=by
 unfold zO at h
 split at h
 .obtain⟨q,h⟩:=h;exact⟨_,_,q,rfl,h⟩
 .cases h
def y9:j5:=λds μ K=>match ds with
 |[.mr k,.int n]=>μ[k]?=some .box/\0<n/\n<1073741824/\∀ v,0<=v->v<n->K (.int v) μ
 |_=>False
def U2 {vs:ao V}{H:Hp}{Q:VK}{E:XK}(h:iG y9 vs H Q E):zO vs H Q E:=by
 obtain⟨φ,ds,μ,K,ha,M,k,L⟩:=h
 unfold y9 at k
 split at k
 .rename_i kk n
  obtain⟨v,r,rfl,h1,u,r',rfl,h2,h3⟩:=ha
  cases(show r'=[]from h3);cases(show u=_ from h2)
  obtain⟨b,hb,rfl⟩:=h1
  obtain⟨em,hn,Gm,k⟩:=k
  obtain⟨b',e1,q,ns,i,r,z,g1,g2,g3,g4,g5,g6⟩:=M.at_ kk _ em
  rw[hb]at e1;cases e1
  have bin:b∈φ:=mw hb
  have qb:q≠b:=λe=>g3 (by rw[e];exact bin)
  refine⟨q,⟨ns,i,r,z,g1,g2,qb,g4,g5,g6⟩,hn,Gm,λv H' v0 v1 B' ob=>?_⟩
  obtain⟨uA,i',r',z',b1,b2,b3,b4,b5,b6⟩:=B'
  have f:Fr φ H φ H':=⟨⟨[],by simp,λ_ h=>nomatch h⟩,λc o hc e=>(ob c (λe'=>hc (by rw[e'];exact bin))).trans e,λc e=>by
   by_cases hc:c=b
   .rw[hc,b1]at e;cases e
   .rw[<- ob c hc];exact e⟩
  refine L _ μ φ _ H' (k v v0 v1) f ⟨M.nd,M.len,λj m ej=>?_⟩ rfl
  by_cases hj:j=kk
  .subst hj
   rw[em]at ej;cases ej
   exact⟨b,hb,q,uA,i',r',z',b1,b2,g3,b4,b5,b6⟩
  .obtain⟨p,e1,e2⟩:=M.at_ j m ej
   refine⟨p,e1,e2.mono f λo eo=>?_⟩
   have pb:p≠b:=λe=>by
    subst e
    obtain⟨i1,r1⟩:=kM hb
    obtain⟨i2,r2⟩:=kM e1
    rcases Nat.lt_or_gt_of_ne hj with z|z
    .exact List.pairwise_iff_getElem.mp M.nd j kk i2 i1 z (r2.trans r1.symm)
    .exact List.pairwise_iff_getElem.mp M.nd kk j i1 i2 z (r1.trans r2.symm)
   rw[ob p pb];exact eo
 .exact k.elim
def zP (K:aa):Sp:=λvs H Q _=>match vs with
 |[.ref a]=>∃ ns:ao Int,pF K H a (ns.map V.int)/\∀ b q H',PN H' b q->H b=none->H q=none->iI H H'->Q (.ref b) H'
 |_=>False
def IJ {H:Hp}{b q:ai}(h:PN H b q):gC [b] H [.box]:=by
 obtain⟨ns,i,r,z,h1,h2,h3,h4,h5,h6⟩:=h
 refine⟨by simp,rfl,λk m e=>?_⟩
 cases k with
 |zero=>cases e;exact⟨b,rfl,q,ns,i,r,z,h1,h2,by simpa using h3,h4,h5,h6⟩
 |succ k=>simp at e
mutual
def nA:Nat->D->Prop
 |n+1,.lst ds=>ds.length<=100000/\MP n ds
 |n+1,.tup ds=>ds.length<=100000/\MP n ds
 |0,.lst _=>False
 |0,.tup _=>False
 |_,.jC _ _=>False
 |_,.mr _=>False
 |_,.obj _ _ _=>False
 |_,.rC _ _=>False
 |_,.fn _=>False
 |_,_=>True
def MP:Nat->List D->Prop
 |_,[]=>True
 |n,d::ds=>nA n d/\MP n ds
end
def zU {n:Nat}:∀ {ds:ao D},(∀ d∈ds,nA n d)->MP n ds
 |[],_=>by unfold MP;trivial
 |d::ds,h=>by unfold MP;exact⟨h d aF,zU λx hx=>h x (nF _ hx)⟩
def wL {n:Nat}{ds:ao D}(hl:ds.length<=100000)(h:∀ d∈ds,nA n d):nA (n+1) (.lst ds):=by unfold nA;exact⟨hl,zU h⟩
def JQ {n:Nat}{ds:ao D}(hl:ds.length<=100000)(h:∀ d∈ds,nA n d):nA (n+1) (.tup ds):=by unfold nA;exact⟨hl,zU h⟩
def ur {n:Nat}{i:Int}:nA n (.int i):=by cases n<;>(unfold nA;trivial)
def RA {n:Nat}{i:Str}:nA n (.str i):=by cases n<;>(unfold nA;trivial)
def Ny {n:Nat}{ns:ao Int}(h:ns.length<=100000):nA (n+1) (.lst (ns.map D.int)):=wL (by rw[iu];exact h) λd hd=>by
 obtain⟨i,_,rfl⟩:=List.mem_map.mp hd;exact ur
mutual
def oz:∀ {n:Nat} {d:D},nA n d->j6 n d:=λ{n d} h=>by
 cases d with
 | lst ds =>
  cases n with
  |zero=>exact absurd h (by unfold nA;exact id)
  |succ n=>unfold nA at h;unfold j6;exact DM h.2
 | tup ds =>
  cases n with
  |zero=>exact absurd h (by unfold nA;exact id)
  |succ n=>unfold nA at h;unfold j6;exact DM h.2
 |jC _ _=>exact absurd h (by cases n<;>(unfold nA;exact id))
 |mr _=>exact absurd h (by cases n<;>(unfold nA;exact id))
 |obj _ _ _=>exact absurd h (by cases n<;>(unfold nA;exact id))
 |rC _ _=>exact absurd h (by cases n<;>(unfold nA;exact id))
 |fn _=>exact absurd h (by cases n<;>(unfold nA;exact id))
 |_=>cases n<;>(unfold j6;trivial)
def DM:∀ {n:Nat} {ds:List D},MP n ds->Ad n ds:=λ{n ds} h=>by
 cases ds with
 |nil=>unfold Ad;trivial
 |cons d ds=>unfold MP at h;unfold Ad;exact⟨oz h.1,DM h.2⟩
end
mutual
def uj:D->DV
 |.iq=>.iq
 |.bl b=>.bl b
 |.int i=>.int i
 |.str z=>.str z
 |.lst ds=>.lst (p6 ds)
 |.tup ds=>.tup (p6 ds)
 |_=>.iq
def p6:List D->List DV
 |[]=>[]
 |d::ds=>uj d::p6 ds
end
def ui:∀ ds:ao D,(p6 ds).length=ds.length
 |[]=>rfl
 |d::ds=>by unfold p6;rw[aU,aU,ui ds]
mutual
def p8 {φ:List ai}{H:Hp}:∀ {n:Nat} {d:D},nA n d->(∀ v,je φ H d v->Is H (uj d) v)/\dep (uj d)<=n/\MM (uj d)<=100000:=λ{n d} h=>by
 cases d with
 | lst ds =>
  cases n with
  |zero=>exact absurd h (by unfold nA;exact id)
  | succ n =>
   unfold nA at h
   obtain⟨a,b,c⟩:=zT (φ:=φ) (H:=H) h.2
   refine⟨λv hv=>?_,?_,?_⟩
   .obtain⟨p,vs,rfl,_,hp,q⟩:=hv
    unfold uj
    exact⟨p,vs,rfl,hp,a vs q⟩
   .unfold uj dep;lia
   .have:=ui ds
    unfold uj MM;lia
 | tup ds =>
  cases n with
  |zero=>exact absurd h (by unfold nA;exact id)
  | succ n =>
   unfold nA at h
   obtain⟨a,b,c⟩:=zT (φ:=φ) (H:=H) h.2
   refine⟨λv hv=>?_,?_,?_⟩
   .obtain⟨p,vs,rfl,_,hp,q⟩:=hv
    unfold uj
    exact⟨p,vs,rfl,hp,a vs q⟩
   .unfold uj dep;lia
   .have:=ui ds
    unfold uj MM;lia
 |iq=>exact⟨λv hv=>hv,bC _,bC _⟩
 |bl b=>exact⟨λv hv=>hv,bC _,bC _⟩
 |int b=>exact⟨λv hv=>hv,bC _,bC _⟩
 |str b=>exact⟨λv hv=>hv,bC _,bC _⟩
 |jC _ _=>exact absurd h (by cases n<;>(unfold nA;exact id))
 |mr _=>exact absurd h (by cases n<;>(unfold nA;exact id))
 |obj _ _ _=>exact absurd h (by cases n<;>(unfold nA;exact id))
 |rC _ _=>exact absurd h (by cases n<;>(unfold nA;exact id))
 |fn _=>exact absurd h (by cases n<;>(unfold nA;exact id))
def zT {φ:List ai}{H:Hp}:∀ {n:Nat} {ds:List D},MP n ds->(∀ vs,fZ φ H ds vs->mS H (p6 ds) vs)/\yt (p6 ds)<=n/\x8 (p6 ds)<=100000:=λ{n ds} h=>by
 cases ds with
 |nil=>exact⟨λvs hv=>hv,bC _,bC _⟩
 | cons d ds =>
  unfold MP at h
  obtain⟨a,b,c⟩:=p8 (φ:=φ) (H:=H) h.1
  obtain⟨a',b',c'⟩:=zT (φ:=φ) (H:=H) h.2
  refine⟨λvs hv=>?_,?_,?_⟩
  .obtain⟨v,r,rfl,h1,h2⟩:=hv
   unfold p6
   exact⟨v,r,rfl,a v h1,a' r h2⟩
  .unfold p6 yt;lia
  .unfold p6 x8;lia
end
def Ts (μ:MS):D->aq D
 |.mr k=>(yY μ k).map .lst
 |x=>some x
def Gq {φ:ao ai}{H:Hp}{μ:MS}{x d:D}{v:V}{n:Nat}(M:gC φ H μ)(e:Ts μ x=some d)(hs:nA n d)(h:je φ H x v):Is H (uj d) v:=by
 cases x with
 | mr k =>
  obtain⟨p,hp,rfl⟩:=h
  have e':(yY μ k).map D.lst=some d:=e
  cases q:yY μ k with
  |none=>rw[q]at e';cases e'
  | some ds =>
   rw[q]at e';cases e'
   obtain⟨p',e1,vs,hv,ha⟩:=M.at_ k _ (mh q)
   rw[hp]at e1;cases e1
   cases n with
   |zero=>exact absurd hs (by unfold nA;exact id)
   | succ n =>
    unfold nA at hs
    unfold uj
    exact⟨p,vs,rfl,hv,(zT (φ:=φ) (H:=H) hs.2).1 vs ha⟩
 |iq=>cases e;exact(p8 (φ:=φ) (H:=H) hs).1 v h
 |bl b=>cases e;exact(p8 (φ:=φ) (H:=H) hs).1 v h
 |int b=>cases e;exact(p8 (φ:=φ) (H:=H) hs).1 v h
 |str b=>cases e;exact(p8 (φ:=φ) (H:=H) hs).1 v h
 |lst b=>cases e;exact(p8 (φ:=φ) (H:=H) hs).1 v h
 |tup b=>cases e;exact(p8 (φ:=φ) (H:=H) hs).1 v h
 |obj _ _ _=>cases e;exact(p8 (φ:=φ) (H:=H) hs).1 v h
 |rC _ _=>cases e;exact(p8 (φ:=φ) (H:=H) hs).1 v h
 |fn _=>cases e;exact(p8 (φ:=φ) (H:=H) hs).1 v h
 |jC _ _=>cases e;exact absurd hs (by cases n<;>(unfold nA;exact id))
def LI:j5:=λds μ K=>match ds with
 |[x,y]=>∃ d,Ts μ x=some d/\Ts μ y=some d/\nA 5 d/\K (.bl true) μ
 |_=>False
def JT {vs:ao V}{H:Hp}{Q:VK}{E:XK}(h:iG LI vs H Q E):uo 5 vs H Q E:=by
 obtain⟨φ,ds,μ,K,ha,M,k,L⟩:=h
 unfold LI at k
 split at k
 .obtain⟨v,r,rfl,h1,u,r',rfl,h2,h3⟩:=ha
  cases(show r'=[]from h3)
  obtain⟨d,e1,e2,hs,k⟩:=k
  obtain⟨a,b,c⟩:=p8 (φ:=φ) (H:=H) hs
  exact⟨uj d,b,cq c (by decide),Gq M e1 hs h1,Gq M e2 hs h2,λH' S=>L _ μ φ _ H' k (.same S) (M.same S) rfl⟩
 .exact k.elim
def CQ {n:Nat}{x y:D}{μ:MS}{K:DK}(e:x=y)(h:nA n x)(hs:(Ve x x).isSome=true)(k:K (.bl true) μ):T4 n false x y μ K:=by
 subst e
 refine⟨oz h,oz h,hs,?_⟩
 rw[AU x n (oz h)]
 exact k
def iF {it:D->MS->(aq D->MS->Prop)->Prop}{c:MS->Prop}{μ:MS}(hc:c μ)(f:D->aq D):∀ {ds:ao D} {K:ao D->MS->Prop},(∀ d∈ds,∀(K':aq D->MS->Prop),K' (f d) μ->it d μ K')->K (ds.filterMap f) μ->rE it c ds μ K
 |[],K,_,k=>⟨hc,k⟩
 | d::ds,K,h,k=>⟨hc,h d aF _ (iF hc f (λx hx=>h x (nF _ hx)) (by
  cases e:f d with
  |none=>rw[List.filterMap_cons_none e]at k;exact k
  |some y=>rw[List.filterMap_cons_some e]at k;exact k))⟩
def zo {it:D->MS->(aq D->MS->Prop)->Prop}{c:MS->Prop}(Pv:ao D->ao D->MS->Prop):∀ {ds:ao D} {μ:MS} {ys:ao D} {K:ao D->MS->Prop},Pv ds ys μ->(∀ d xG ys μ,Pv (d::xG) ys μ->c μ/\∀(K':aq D->MS->Prop),(∀ o gc,Pv xG (ys++o.toList) gc->K' o gc)->it d μ K')->(∀ ys μ,Pv [] ys μ->c μ)->(∀ zs μ,Pv [] (ys++zs) μ->K zs μ)->rE it c ds μ K
 |[],μ,ys,K,h,hs,hc,hk=>⟨hc ys μ h,hk [] μ (by rw[cy];exact h)⟩
 | d::ds,μ,ys,K,h,hs,hc,hk=>by
  obtain⟨c',st⟩:=hs d ds ys μ h
  exact⟨c',st _ λo gc h'=>zo Pv h' hs hc λzs iE h2=>hk _ iE (by rw[<- cG];exact h2)⟩
def iY {g:DG}{b:Ds}{N:DN}{c:MS->Prop}(Pv:ao D->DE->MS->Prop):∀ {ds:ao D} {ρ:DE} {μ:MS},Pv ds ρ μ->(∀ d xG ρ μ,Pv (d::xG) ρ μ->c μ/\∀(nx:DE->MS->Prop),(∀ j7 gc,Pv xG j7 gc->nx j7 gc)->g d ρ μ λpV iE=>b { N with nx:=nx,ct:=nx,bk:=N.nx} pV iE)->(∀ ρ μ,Pv [] ρ μ->c μ/\N.nx ρ μ)->CK g b N c ds ρ μ
 |[],ρ,μ,h,hs,hd=>hd ρ μ h
 | d::ds,ρ,μ,h,hs,hd=>by
  obtain⟨c',st⟩:=hs d ds ρ μ h
  exact⟨c',st _ λj7 gc h'=>iY Pv h' hs hd⟩
structure lM (mg:Str->Option ak):Prop where
 len:mg "len"=none
 range:mg "range"=none
 list:mg "list"=none
 isinstance:mg "isinstance"=none
 max:mg "max"=none
 min:mg "min"=none
 bool:mg "bool"=none
 tuple:mg "tuple"=none
 str:mg "str"=none
 int:mg "int"=none
 all:mg "all"=none
 any:mg "any"=none
 zip:mg "zip"=none
 enumerate:mg "enumerate"=none
 reversed:mg "reversed"=none
 dict:mg "dict"=none
 sorted:mg "sorted"=none
abbrev txt (l:ao Nat):Str:=⟨l.toArray⟩
def GN:j5:=λds μ K=>match ds with
 |[.mr k,.int n]=>μ[k]?=some .box/\1<=n/\n<=1000/\∀ l:ao Nat,l.length=n.toNat->OX l->K (.str (txt l)) μ
 |_=>False
structure Cuts (n:Int)(cs:List Int):Prop where
 Jb:∀ c∈cs,1<=c/\c<n
 up:cs.Pairwise (·<·)
def GL:j5:=λds μ K=>match ds with
 |[.mr k,.int n]=>μ[k]?=some .box/\1<=n/\n<=1000/\∀ cs:ao Int,cs.length<=n.toNat->Cuts n cs->K (.lst (cs.map D.int)) μ
 |_=>False
def Jx (l:ao Nat):D:=.str (txt l)
def Good (n:Int)(ls:ao (ao Nat)):Prop:=∀ l∈ls,(l.length:Int)=n/\OX l
def tN:j5:=λds μ K=>match ds with
 | [.mr k,.int n,.lst cs,.mr t]=>μ[k]?=some .box/\k≠t/\1<=n/\n<=1000/\∃(q9:ao Int) (ls:ao (ao Nat)),cs=q9.map D.int/\q9.length<=1000/\Cuts n q9/\μ[t]?=some (.lst (ls.map Jx))/\ls≠[]/\ls.length<=100/\Good n ls /\
  ∀ vp:ao (ao Nat),vp.length=ls.length->Good n vp->K (.mr t) (μ.set t (.lst (vp.map Jx)))
 |_=>False
abbrev Tk:=ao Nat×Int
def mM (t:Tk):D:=.tup [.str (txt t.1),.int t.2]
structure ud (n:Int)(ts:List Tk):Prop where
 mZ:ts.length<=20
 ok:∀ t∈ts,(t.1.length:Int)=n/\OX t.1/\0<=t.2/\t.2<=60
def AH:j5:=λds μ K=>match ds with
 |[.mr k,.int m]=>μ[k]?=some .box/\1<=m/\m<=100/\∀(n:Int) (cs:ao Int) (ts:ao Tk),1<=n->n<=m->cs.length<=n.toNat->Cuts n cs->ud n ts->K (.tup [.int n,.lst (cs.map D.int),.lst (ts.map mM)]) μ
 |_=>False
def GK:j5:=λds μ K=>match ds with
 |[.int n,x]=>∃ cs:ao Int,lv μ x=some (cs.map D.int)/\cs.length<=1000/\K (.lst ((fH n cs).map D.int)) μ
 |_=>False
def gy (n:Int)(cs:ao Int):(fH n cs).length=cs.length+2:=by unfold fH;simp
def qo (n:Int)(cs:ao Int):[D.int 0]++cs.map D.int++[D.int n]=(fH n cs).map D.int:=by unfold fH;simp
def sz {n:Nat}(h:n<=100000):n<=sizeLine:=aW h (by decide)
def Uy {n:Nat}(h:n<=100000):n<sizeLine:=cq h (by decide)
def Bz (es:ao Int):ao (Int×Int):=es.zip es.tail
def Vu (p:Int×Int):D:=.tup [.int p.1,.int p.2]
def vU:j5:=λds μ K=>match ds with
 |[.int n,x]=>∃ cs:ao Int,lv μ x=some (cs.map D.int)/\cs.length<=1000/\K (.lst ((Bz (fH n cs)).map Vu)) μ
 |_=>False
def oi (l:ao Nat)(a b:Int):ao Nat:=lp l (some a) (some b)
def bad (ts:ao Tk)(p:Int×Int):Bool:=ts.all λt=>decide (120∈oi t.1 p.1 p.2)
def jG (es:ao Int)(ts:ao Tk):aq (Int×Int):=(Bz es).find? (bad ts)
def Qu:aq (Int×Int)->D
 |some p=>Vu p
 |none=>.iq
def AM:j5:=λds μ K=>match ds with
 |[.int n,x,y]=>∃(cs:ao Int) (ts:ao Tk),lv μ x=some (cs.map D.int)/\lv μ y=some (ts.map mM)/\cs.length<=1000/\ud n ts/\n<=1000/\K (Qu (jG (fH n cs) ts)) μ
 |_=>False
def v7:j5:=λds μ K=>match ds with
 |[.lst b,y]=>∃(n:Int) (cs:ao Int) (ts:ao Tk),b=(fH n cs).map D.int/\lv μ y=some (ts.map mM)/\cs.length<=1000/\1<=n/\n<=1000/\Cuts n cs/\ud n ts/\K (Qu (jG (fH n cs) ts)) μ
 |_=>False
def uJ {it:D->MS->(aq D->MS->Prop)->Prop}{c:MS->Prop}{μ:MS}(hc:c μ):∀ {ds:ao D} {K:ao D->MS->Prop},(∀ d∈ds,∀(K':aq D->MS->Prop),K' (some d) μ->K' none μ->it d μ K')->(∀ zs,zs.Sublist ds->K zs μ)->rE it c ds μ K
 |[],K,_,k=>⟨hc,k [] (.slnil)⟩
 |d::ds,K,h,k=>⟨hc,h d aF _ (uJ hc (λx hx=>h x (nF _ hx)) λzs hz=>k _ (hz.cons₂ d)) (uJ hc (λx hx=>h x (nF _ hx)) λzs hz=>k _ (hz.cons d))⟩
def qR {α:Type}(g:α->D)(P:α->Prop){it:D->MS->(aq D->MS->Prop)->Prop}{c:MS->Prop}{μ:MS}(hc:c μ):∀ {ds:ao D} {K:ao D->MS->Prop},(∀ d∈ds,∀(K':aq D->MS->Prop),(∀ a,P a->K' (some (g a)) μ)->it d μ K')->(∀ as:ao α,as.length=ds.length->(∀ a∈as,P a)->K (as.map g) μ)->rE it c ds μ K
 |[],K,_,k=>⟨hc,k [] rfl λ_ h=>nomatch h⟩
 | d::ds,K,h,k=>⟨hc,h d aF _ λa ha=>qR g P hc (λx hx=>h x (nF _ hx)) λas hl hp=>k (a::as) (by rw[aU,aU,hl]) λx hx=>by
  rcases List.mem_cons.mp hx with e|e
  .rw[e];exact ha
  .exact hp x e⟩
def sM (lo:Int)(n:Nat):lP lo n=((List.range n).map λi=>lo+(i:Nat)).map D.int:=by unfold lP;rw[a8];rfl
def iw (lo:Int)(n:Nat):(lP lo n).length=n:=by unfold lP;rw[iu,u7]
def wX {lo:Int}{n:Nat}{d:D}(h:d∈lP lo n):∃ i:Nat,i<n/\d=.int (lo+i):=by
 unfold lP at h
 obtain⟨i,hi,rfl⟩:=List.mem_map.mp h
 exact⟨i,by simpa using hi,rfl⟩
def JZ (lo:Int)(n:Nat):((List.range n).map λi=>lo+(i:Nat)).Pairwise (·<·):=by
 rw[List.pairwise_map]
 exact fk (λh=>by lia) dq
def BZ {n:Int}{cs:ao Int}(h1:1<=n)(h:cs.Sublist ((List.range (n - 1).toNat).map λi=>1+((i:Nat):Int))):cs.length<=n.toNat/\Cuts n cs:=by
 refine⟨?_,λc hc=>?_,(JZ 1 _).sublist h⟩
 .have:=h.length_le
  rw[iu,u7]at this
  lia
 .obtain⟨i,hi,rfl⟩:=List.mem_map.mp (h.subset hc)
  rw[cg]at hi
  lia
def Nn {α:Type}{g:α->D}{zs:ao D}{as:ao α}(h:zs.Sublist (as.map g)):∃ bs:ao α,bs.Sublist as/\zs=bs.map g:=by
 obtain⟨bs,hb,e⟩:=List.sublist_map_iff.mp h
 exact⟨bs,hb,e⟩
def iD {n:Int}{cs:ao Int}(h1:1<=n)(h:Cuts n cs):(fH n cs).Pairwise (·<·):=by
 unfold fH
 rw[dZ,List.pairwise_cons]
 refine⟨λx hx=>?_,?_⟩
 .rcases List.mem_append.mp hx with q | q
  .have:=h.Jb x q;lia
  .rw[List.mem_singleton.mp q];lia
 .rw[List.pairwise_append]
  exact⟨h.up,List.pairwise_singleton _ _,λx hx y hy=>by rw[List.mem_singleton.mp hy];exact(h.Jb x hx).2⟩
def jw {n:Int}{cs:ao Int}(h1:1<=n)(h:Cuts n cs){x:Int}(hx:x∈fH n cs):0<=x/\x<=n:=by
 unfold fH at hx
 rw[dZ]at hx
 rcases List.mem_cons.mp hx with q|q
 .lia
 .rcases List.mem_append.mp q with q | q
  .have:=h.Jb x q;lia
  .rw[List.mem_singleton.mp q];lia
def lB {es:ao Int}(h:es.Pairwise (·<·)){i j:Nat}{a b:Int}(hi:es[i]?=some a)(hj:es[j]?=some b)(pW:i<j):a<b:=by
 obtain⟨h1,r1⟩:=kM hi
 obtain⟨h2,r2⟩:=kM hj
 have:=List.pairwise_iff_getElem.mp h i j h1 h2 pW
 rw[r1,r2]at this
 exact this
def j0 {α β:Type}{g:α->β}{xs:ao α}{i:Nat}{a:α}(h:xs[i]?=some a):lO (xs.map g) (i:Int)=some (g a):=jQ (by rw[oU,h];rfl)
def ku (l:ao Nat):(txt l).length=l.length:=HX l
def sD (l:ao Nat):(txt l).cps.toList=l:=by simp
def we {α:Type}(l:ao α)(lo hi:aq Int):(lp l lo hi).length<=l.length:=Df l lo hi
def OX.cut {l:ao Nat}(h:OX l)(lo hi:aq Int):OX (lp l lo hi):=λc hc=>h c (by
 unfold lp at hc
 exact dM (ba hc))
def vJ {n:Nat}:∀ {ds:ao D},(∀ d∈ds,Ge n d)->uh n ds
 |[],_=>True.intro
 |d::ds,h=>⟨h d aF,vJ λx hx=>h x (nF _ hx)⟩
def tf {n:Nat}(ns:ao Int):uh n (ns.map D.int):=vJ λd hd=>by obtain⟨i,_,rfl⟩:=List.mem_map.mp hd;exact True.intro
def Sr {n:Nat}(ts:ao Tk):uh n (ts.map mM):=vJ λd hd=>by obtain⟨i,_,rfl⟩:=List.mem_map.mp hd;exact⟨True.intro,True.intro,True.intro⟩
def Qk {n:Nat}(t:Tk):nA (n+1) (mM t):=by
 unfold mM
 refine JQ (by simp) λd hd=>?_
 simp only[aP,aH,bS]at hd
 rcases hd with rfl|rfl
 .exact RA
 .exact ur
def Ry {n:Nat}{ts:ao Tk}(h:ts.length<=100000):nA (n+2) (.lst (ts.map mM)):=wL (by rw[iu];exact h) λd hd=>by
 obtain⟨t,_,rfl⟩:=List.mem_map.mp hd;exact Qk t
def ka {μ:MS}{t:Nat}{m:MO}(h:μ[t]?=some m):μ.set t m=μ:=by
 refine cC λi=>?_
 by_cases e:t=i
 .subst e
  rw[aN (kM h).1,h]
 .rw[aQ e]
def mT {μ:MS}{x y:MO}:(μ++[x]).set μ.length y=μ++[y]:=by
 rw[dD _ _ (ar _),a6];rfl
def Jl:∀(ls:ao (ao Nat)) (as:ao Int),List.zipWith (λa b=>D.tup [a,b]) (ls.map Jx) (as.map D.int)=(ls.zip as).map mM
 |[],_=>by simp
 |_::_,[]=>by simp
 | l::ls,a::as=>by
  rw[aw,aw,bP,Jl ls as,cL,aw]
  rfl
def Sb {μ:MS}{n:Nat}{x:MO}(hm:∀(j:Nat) (m:MO),μ[j]?=some m->Aq μ.length m):∀(j:Nat) (m:MO),j<μ.length->(μ++[x])[j]?=some m->Aq μ.length m:=λj m hj e=>by
 rw[vR hj]at e;exact hm j m e
def JB {μ:MS}{x:MO}:(μ++[x]).take μ.length=μ:=cf
def W8 {v:Int}(h0:0<=v)(h1:v<4):∃ m,lO [D.int 1,D.int 4,D.int 9,D.int 55] v=some (.int m)/\1<=m/\m<=55:=by
 obtain⟨j,rfl⟩:∃ j:Nat,v=(j:Int):=⟨v.toNat,by lia⟩
 have hj:j<4:=by lia
 match j,hj with
 |0,_=>exact⟨1,rfl,by decide,by decide⟩
 |1,_=>exact⟨4,rfl,by decide,by decide⟩
 |2,_=>exact⟨9,rfl,by decide,by decide⟩
 |3,_=>exact⟨55,rfl,by decide,by decide⟩
def Ma {μ:MS}{x:D}{xs:ao D}{i:Int}{d:D}{K:DK}(e:lv μ x=some xs)(h:lO xs i=some d)(k:K d μ):WN x (.int i) μ K:=by
 cases x with
 |lst ds=>cases e;exact fS h k
 |mr j=>exact fS e (fS h k)
 |_=>cases e
def xO (l:ao Nat)(i j:Nat):oi l i j=(l.drop i).take (j - i):=by
 unfold oi lp
 rw[HT.mU,HT.mU]
 rcases Nat.le_total i l.length with q|q
 .rw[cu q]
  rcases Nat.le_total j l.length with z|z
  .rw[cu z]
  .rw[fG z,bQ (by rw[bA];exact ar _),bQ (by rw[bA];exact Nat.sub_le_sub_right z i)]
 .rw[fG q,bz (ar _),bz q,List.take_nil,List.take_nil]
def IE {l:ao Nat}{a b:Int}(ho:OX l)(ha:0<=a)(Gp:a<=b)(hb:b<=l.length):decide (txt (oi l a b)=txt (List.replicate (b - a).toNat 111))=!decide (120∈oi l a b):=by
 have len:(oi l a b).length=(b - a).toNat:=by
  obtain⟨i,rfl⟩:=cE ha
  obtain⟨j,rfl⟩:=cE (cD ha Gp)
  rw[xO,bH,bA,cu (Nat.sub_le_sub_right (Int.ofNat_le.mp hb) i)]
  lia
 have ox:OX (oi l a b):=ho.cut _ _
 by_cases h:120∈oi l a b
 .rw[aI h,aV]
  .rfl
  .intro e
   have e':oi l a b=List.replicate (b - a).toNat 111:=by have q:=cA (λz:Str=>z.cps.toList) e;simpa using q
   rw[e']at h
   have:=(List.mem_replicate.mp h).2
   cases this
 .rw[aV h,aI]
  .rfl
  .congr 2
   refine List.eq_replicate_iff.mpr ⟨len,λc hc=>?_⟩
   rcases ox c hc with q|q
   .exact q
   .rw[q]at hc;exact absurd hc h
def FK {es:ao Int}{i:Nat}:(Bz es)[i]?=(match es[i]?,es[i+1]? with | some a,some b=>some (a,b) | _,_=>none):=by
 unfold Bz
 rw[List.zip,bV,List.getElem?_tail]
 cases es[i]?<;>cases es[i+1]?<;>rfl
def BO {k n:Nat}{A:Around}(hr:jT k A)(hn:n<=64):A.units+n<cLine:=by have:=hr.units;lia
def Ov {m:Nat}{b:ai}{H:Hp}{x:aq V}:kP [b] H (none::some (.mr 0)::List.replicate m none) (x::some (.ref b)::List.replicate m none):=by
 refine⟨by simp,λi d e=>?_⟩
 cases i with
 |zero=>cases e
 | succ i =>
  cases i with
  |zero=>cases e;exact⟨_,rfl,b,rfl,rfl⟩
  | succ i =>
   have:=List.eq_of_mem_replicate (mw (show(List.replicate m (none:aq D))[i]?=some (some d)from e))
   cases this
def VU:DN:={ nx:=λ_ _=>False,rt:=λd _=>d=.bl true}
def Sv {m:Nat}{b q a:ai}{H:Hp}{Q:VK}{W:Ds}(B:PN H b q)(w:W VU (none::some (.mr 0)::List.replicate m none) [.box])(k:∀ H',Q (.bl true) H'):YC W { nx:=λ_ H'=>Q .iq H',rt:=Q} (some (.ref a)::some (.ref b)::List.replicate m none) H :=
 ⟨[b],_,[.box],VU,Ov,IJ B,w,⟨λ_ _ _ _ _ z=>z.elim,λd gc gG v H' kd _ _ i=>by cases(show d=.bl true from kd);cases(show v=_ from i);exact k H',λ_ _ _ _ _ z=>z.elim,λ_ _ _ _ _ z=>z.elim⟩⟩
section
variable {κ:Type}[DecidableEq κ]
def pR (kvs:ao (κ×V))(k:κ):aq V:=(kvs.find? λkv=>decide (kv.1=k)).map (·.2)
def putK (kvs:ao (κ×V))(k:κ)(v:V):ao (κ×V) :=
 if(kvs.any λkv=>decide (kv.1=k))=true then kvs.map (λkv=>if kv.1=k then(kv.1,v)else kv)else kvs++[(k,v)]
def pY {p:κ×V}{r:ao (κ×V)}{k:κ}(e:p.1=k):pR (p::r) k=some p.2:=by simp[pR,cx,e]
def pZ {p:κ×V}{r:ao (κ×V)}{k:κ}(e:¬ p.1=k):pR (p::r) k=pR r k:=by simp[pR,cx,e]
def BN (k:κ):∀ kvs:ao (κ×V),(kvs.any λkv=>decide (kv.1=k))=(pR kvs k).isSome
 |[]=>rfl
 | p::r=>by
  rw[dh]
  by_cases e:p.1=k
  .simp only[pY e,aI e,Bool.true_or,Option.isSome_some]
  .rw[pZ e,aV e,Bool.false_or];exact BN k r
def nP (kvs:ao (κ×V))(k:κ)(v:V):(putK kvs k v).length<=kvs.length+1:=by
 unfold putK
 split
 .rw[iu];lia
 .rw[oq,aU,List.length_nil];lia
def rb.uC {o:aq V}{u:aq ak}(r:rb o u):o.isSome=u.isSome:=by
 cases o with
 | none=>cases u with
  |none=>rfl
  |some _=>exact(show False from r).elim
 | some _=>cases u with
  |none=>exact(show False from r).elim
  |some _=>rfl
def KV.val {kvs:ao (κ×V)}{vs:ao (κ×ak)}(r:KV kvs vs)(k:κ):rb (pR kvs k) (valueAt vs k):=by
 unfold KV at r
 induction r with
 |nil=>exact True.intro
 | @cons p q ps qs h t ih =>
  obtain⟨h1,h2⟩:=h
  by_cases e:p.1=k
  .have e':q.1=k:=h1.symm.trans e
   have b:valueAt (q::qs) k=some q.2:=by simp[valueAt,cx,e']
   rw[pY e,b];exact h2
  .have e':¬ q.1=k:=λz=>e (h1.trans z)
   have b:valueAt (q::qs) k=valueAt qs k:=by simp[valueAt,cx,e']
   rw[pZ e,b];exact ih
def KV.any {kvs:ao (κ×V)}{vs:ao (κ×ak)}(r:KV kvs vs)(k:κ):(kvs.any λkv=>decide (kv.1=k))=vs.any λkv=>decide (kv.1=k):=by
 unfold KV at r
 induction r with
 |nil=>rfl
 |cons h t ih=>rw[dh,dh,ih,h.1]
def KV.RH {kvs:ao (κ×V)}{vs:ao (κ×ak)}(r:KV kvs vs)(k:κ){y:V}{u:ak}(ry:gD y u):
 KV (kvs.map λkv=>if kv.1=k then(kv.1,y)else kv) (vs.map λkv=>if kv.1=k then(kv.1,u)else kv):=by
 unfold KV at r ⊢
 induction r with
 |nil=>exact .nil
 | @cons p q ps qs h t ih =>
  rw[aw,aw]
  refine .cons ?_ ih
  obtain⟨h1,h2⟩:=h
  by_cases e:p.1=k
  .rw[aB e,aB (h1.symm.trans e)];exact⟨h1,ry⟩
  .rw[aC e,aC (λz=>e (h1.trans z))];exact⟨h1,h2⟩
def KV.put {kvs:ao (κ×V)}{vs:ao (κ×ak)}(r:KV kvs vs)(k:κ){y:V}{u:ak}(ry:gD y u):KV (putK kvs k y) (stored vs k u):=by
 unfold putK stored
 rw[r.any k]
 by_cases e:(vs.any λkv=>decide (kv.1=k))=true
 .rw[aB e,aB e];exact r.RH k ry
 .rw[aC e,aC e];exact Paired.snoc r ⟨rfl,ry⟩
def KV.length {kvs:ao (κ×V)}{vs:ao (κ×ak)}(r:KV kvs vs):kvs.length=vs.length:=Paired.length r
end
def yZ {P:ae}{w:af}{k:Key}{u:ak}(r:gD (kV k) u):(ju P w).is k u=true:=by
 cases k with
 |inl i=>obtain⟨t,e⟩:=(show ∃ t,u=Value.int i t from r);subst e;exact Ct P w i t
 |inr x=>obtain⟨t,e⟩:=(show ∃ t,u=Value.str x t from r);subst e;exact Cs P w x t
def y6 {P:ae}{w:af}:∀ {ks:ao Key} {us:ao ak},gE (ks.map kV) us->ItemsAre (ju P w) ks us
 |[],_,r=>by rw[fh]at r;cases r;exact .nil
 | k::ks,_,r=>by
  rw[aw]at r
  cases r with
  |cons h t=>exact .cons (yZ h) (y6 t)
abbrev KT (H:Hp):ao (ao Key×V)->ao (ao Key×ai×ak)->Prop:=Paired λp q=>p.1=q.1/\H q.2.1=some (.tup (p.1.map kV))/\gD p.2 q.2.2
def KT.val {H:Hp}{kvs:ao (ao Key×V)}{xs:ao (ao Key×ai×ak)}(r:KT H kvs xs)(k:ao Key):rb (pR kvs k) ((atKey xs k).map (·.2)):=by
 induction r with
 |nil=>exact True.intro
 | @cons p q ps qs h t ih =>
  obtain⟨h1,_,h2⟩:=h
  by_cases e:p.1=k
  .have e':q.1=k:=h1.symm.trans e
   have b:atKey (q::qs) k=some q.2:=by simp[atKey,cx,e']
   rw[pY e,b];exact h2
  .have e':¬ q.1=k:=λz=>e (h1.trans z)
   have b:atKey (q::qs) k=atKey qs k:=by simp[atKey,cx,e']
   rw[pZ e,b];exact ih
def KT.RH {H:Hp}{kvs:ao (ao Key×V)}{xs:ao (ao Key×ai×ak)}(r:KT H kvs xs)(k:ao Key){y:V}{u:ak}(ry:gD y u):
 KT H (kvs.map λkv=>if kv.1=k then(kv.1,y)else kv) (xs.map (putAt k u)):=by
 induction r with
 |nil=>exact .nil
 | @cons p q ps qs h t ih =>
  rw[aw,aw]
  refine .cons ?_ ih
  obtain⟨h1,h2,h3⟩:=h
  unfold putAt
  by_cases e:p.1=k
  .rw[aB e,aB (h1.symm.trans e)];exact⟨h1,h2,ry⟩
  .rw[aC e,aC (λz=>e (h1.trans z))];exact⟨h1,h2,h3⟩
def KT.put {H:Hp}{kvs:ao (ao Key×V)}{xs:ao (ao Key×ai×ak)}(r:KT H kvs xs)(k:ao Key){b:ai}{y:V}{u:ak}(hb:H b=some (.tup (k.map kV)))(ry:gD y u):
 KT H (putK kvs k y) (storedH xs k b u):=by
 have e:(kvs.any λkv=>decide (kv.1=k))=(atKey xs k).isSome:=by
  rw[BN,(r.val k).uC,fc]
 unfold putK storedH
 rw[e]
 by_cases q:(atKey xs k).isSome=true
 .rw[aB q,aB q];exact r.RH k ry
 .rw[aC q,aC q];exact Paired.snoc r ⟨rfl,hb,ry⟩
def KT.keeps {H H':Hp}{kvs:ao (ao Key×V)}{xs:ao (ao Key×ai×ak)}(r:KT H kvs xs)(ht:∀ b ys,H b=some (.tup ys)->H' b=some (.tup ys)):KT H' kvs xs :=
 Paired.HV r λ_ _ z=>⟨z.1,ht _ _ z.2.1,z.2.2⟩
section
variable {P:ae}{w:af}{H:Hp}{h:Heap}{a:ai}
def Qn {u:HO}(ok:pQ P w H h)(e:Rd H a u):jg P w H h a u:=e.ok ok
def zi {kvs:ao (Key×V)}(ok:pQ P w H h)(e:Rd H a (.dK kvs)):kvs.length<=sizeLine/\(a==sysModules)=false/\∃ vs,KV kvs vs/\h.DictOf (ju P w) a vs :=
 show jg P w H h a (.dK kvs)from Qn ok e
def L1 {kvs:ao (Key×V)}(ok:pQ P w H h)(e:H a=some (.dK kvs)):kvs.length<=sizeLine/\(a==sysModules)=false/\∃ vs,KV kvs vs/\h.DictOf (ju P w) a vs:=zi ok (.inl e)
def Ax {ks:ao Key}(ok:pQ P w H h)(e:H a=some (.tup (ks.map kV))):(tupleKind (ju P w)).is h ks a:=by
 obtain⟨_,gp,r,o,h1,h2,n,h3⟩:=(show jg P w H h a (.tup (ks.map kV))from ok a _ e)
 exact⟨o,gp.toArray,n,h1,h2,h3,by simpa using y6 r⟩
def GU {kvs:ao (ao Key×V)}(ok:pQ P w H h)(e:Rd H a (.dT kvs)):kvs.length<=sizeLine/\(a==sysModules)=false /\
 ∃ xs,KT H kvs xs/\h.DictOfH (tupleKind (ju P w)) a xs:=by
 obtain⟨z,y,xs,r,o,es,ep,h1,h2,h3,h4,h5⟩:=(show jg P w H h a (.dT kvs)from Qn ok e)
 refine⟨z,y,xs,r,o,es,ep,h1,h2,h3,h4,λx hx=>?_,h5⟩
 have all:∀ {l:ao (ao Key×V)} {m:ao (ao Key×ai×ak)},KT H l m->∀ x∈m,(tupleKind (ju P w)).is h x.1 x.2.1:=by
  intro l m q
  induction q with
  |nil=>intro x hx;exact nomatch hx
  | @cons p q ps qs hq t ih =>
   intro x hx
   rcases List.mem_cons.mp hx with e|hx
   .subst e
    exact Ax ok (by rw[<- hq.1];exact hq.2.1)
   .exact ih x hx
 exact all r x hx
def Wv {kvs:ao (ao Key×V)}(ok:pQ P w H h)(e:H a=some (.dT kvs)):kvs.length<=sizeLine/\(a==sysModules)=false /\
 ∃ xs,KT H kvs xs/\h.DictOfH (tupleKind (ju P w)) a xs:=GU ok (.inl e)
end
def Bp (H:Hp)(a:ai)(y:V)(r:aq V):Prop :=
 (∃ kvs k,Rd H a (.dK kvs)/\y=kV k/\r=pR kvs k)\/∃ kvs k b,Rd H a (.dT kvs)/\y=.ref b/\H b=some (.tup (k.map kV))/\r=pR kvs k
def Bo (H:Hp)(a:ai)(y v:V)(H':Hp):Prop :=
 (∃ kvs k,H a=some (.dK kvs)/\y=kV k/\kvs.length<sizeLine/\H'=upd H a (.dK (putK kvs k v))) \/
 ∃ kvs k b,H a=some (.dT kvs)/\y=.ref b/\H b=some (.tup (k.map kV))/\kvs.length<sizeLine/\H'=upd H a (.dT (putK kvs k v))
def Bp.t {H:Hp}{a b:ai}{kvs:ao (ao Key×V)}{k:ao Key}(e:H a=some (.dT kvs))(eb:H b=some (.tup (k.map kV))):Bp H a (.ref b) (pR kvs k):=.inr ⟨kvs,k,b,.inl e,rfl,eb,rfl⟩
def Bo.k {H:Hp}{a:ai}{kvs:ao (Key×V)}{k:Key}{v:V}(e:H a=some (.dK kvs))(hl:kvs.length<sizeLine):Bo H a (kV k) v (upd H a (.dK (putK kvs k v))):=.inl ⟨kvs,k,e,rfl,hl,rfl⟩
def Bo.t {H:Hp}{a b:ai}{kvs:ao (ao Key×V)}{k:ao Key}{v:V}(e:H a=some (.dT kvs))(eb:H b=some (.tup (k.map kV)))(hl:kvs.length<sizeLine):
 Bo H a (.ref b) v (upd H a (.dT (putK kvs k v))):=.inr ⟨kvs,k,b,e,rfl,eb,hl,rfl⟩
section
variable {X:Cx}{fI:ao (ai×Obj)}{σ:St}{H:Hp}{s:ah}{a:ai}{y v:V}{u r:ak}{o:aq V}{A:Around}{E:ak->ah->Prop}
def Inv.big (I:Inv X fI σ H s):sysModules<s.heap.objs.size:=by
 have h:mainGlobals<s.heap.objs.size:=(I.mod.glob.keeps I.bk).lt
 exact dR (by decide) h
def IC {Q:ak->ah->Prop}(hu:A.units+1<cLine)(I:Inv X fI σ H s)(g:Bp H a y (some v))(ry:gD y u)(h:∀ w' s',Inv X fI σ H s'->gD v w'->Q w' s'):
 wpAny (model X.prog X.w) A (getItem (.ref a) u) Q E s:=by
 rcases g with⟨kvs,k,e,ey,l⟩|⟨kvs,k,b,e,ey,eb,l⟩
 .subst ey
  obtain⟨z,hd,vs,rel,dd⟩:=zi I.iA e
  obtain⟨w',hw,By⟩:=rb.some_of (v:=v) (o:=valueAt vs k) (by rw[l];exact rel.val k)
  exact wpAny_getItem_of (yZ ry) dd.mapOf hw (h w' _ (I.tok _) By)
 .subst ey
  cases(show u=Value.ref b from ry)
  obtain⟨z,hd,xs,rel,dd⟩:=GU I.iA e
  obtain⟨w',hw,By⟩:=rb.some_of (v:=v) (o:=(atKey xs k).map (·.2)) (by rw[l];exact rel.val k)
  obtain⟨p,hp,SY⟩:=Option.map_eq_some_iff.mp hw
  refine wpAny_getItem_heap (tupleKind_room_in1 hu) (Ax I.iA eb) dd hp ?_
  rw[SY]
  exact h w' _ (I.tok _) By
def O4 {Q:ak->ah->Prop}(hu:A.units+1<cLine)(I:Inv X fI σ H s)(g:Bp H a y o)(ry:gD y u)(h:∀ s',Inv X fI σ H s'->Q (.bool (!o.isSome)) s'):
 wpAny (model X.prog X.w) A (compareOp .NotIn u (.ref a)) Q E s:=by
 rcases g with⟨kvs,k,e,ey,l⟩|⟨kvs,k,b,e,ey,eb,l⟩
 .subst ey
  obtain⟨z,hd,vs,rel,dd⟩:=zi I.iA e
  refine wpAny_notIn_of (yZ ry) hd dd.mapOf ?_
  rw[<- (rel.val k).uC,<- l]
  exact h _ (I.tok _)
 .subst ey
  cases(show u=Value.ref b from ry)
  obtain⟨z,hd,xs,rel,dd⟩:=GU I.iA e
  refine wpAny_notIn_heap (tupleKind_room_in1 hu) (Ax I.iA eb) hd dd ?_
  have q:=(rel.val k).uC
  rw[fc]at q
  rw[<- q,<- l]
  exact h _ (I.tok _)
def v9 {h':Heap}{t':Nat}{ob:HO}(I:Inv X fI σ H s)(mu:Xg (H a))(hs:Heap.SameBut a s.heap h')(he:∃ q,h'.get? a=some q)(new:jg X.prog X.w (upd H a ob) h' a ob):
 Inv X fI σ (upd H a ob) {s with heap:=h',toks:=t'}:=
 I.write (x:=a) (e:=a) mu (.inl rfl) (λb q hb z=>(hs.2 b hb).trans z) he new
def EI {P:ae}{w:af}{H':Hp}{h':Heap}{kvs:ao (Key×V)}{vs:ao (Key×ak)}(z:kvs.length<=sizeLine)(hd:(a==sysModules)=false)(rel:KV kvs vs)(dd:h'.DictOf (ju P w) a vs):
 jg P w H' h' a (.dK kvs):=⟨z,hd,vs,rel,dd⟩
def IB {H':Hp}{Q:Unit->ah->Prop}(hu:A.units+1<cLine)(I:Inv X fI σ H s)(g:Bo H a y v H')(ry:gD y u)(rv:gD v r)(h:∀ s',Inv X fI σ H' s'->Q () s'):
 wpAny (model X.prog X.w) A (setItem (.ref a) u r) Q E s:=by
 rcases g with⟨kvs,k,e,ey,l,eH⟩|⟨kvs,k,b,e,ey,eb,l,eH⟩
 .subst ey eH
  obtain⟨z,hd,vs,rel,dd⟩:=L1 I.iA e
  have hz:vs.length<=sizeLine:=by rw[<- rel.length];exact z
  have hl:(putK kvs k v).length<=sizeLine:=by have:=nP kvs k v;lia
  refine wpAny_setItem_pairs (hsz:=hz) (yZ ry) dd λh' lN hs=>h _ ?_
  have he:∃ q,h'.get? a=some q:=let ⟨q,_,_,hq,_⟩:=lN;⟨q,hq⟩
  exact v9 I (by rw[e];exact True.intro) hs he (EI hl hd (rel.put k rv) lN)
 .subst ey eH
  cases(show u=Value.ref b from ry)
  obtain⟨z,hd,xs,rel,dd⟩:=Wv I.iA e
  have hz:xs.length<=sizeLine:=by rw[<- Paired.length rel];exact z
  have hl:(putK kvs k v).length<=sizeLine:=by have:=nP kvs k v;lia
  refine wpAny_setItem_heap (hsz:=hz) (tupleKind_room_in1 hu) (Ax I.iA eb) dd λh' lN hs=>h _ ?_
  obtain⟨q,es,ep,hq,h2,h3,h4,_,h5⟩:=lN
  refine v9 I (by rw[e];exact True.intro) hs ⟨q,hq⟩ ⟨hl,hd,_,(rel.put k eb rv).keeps λc ys ec=>?_,q,es,ep,hq,h2,h3,h4,h5⟩
  rw[gB (VJ ec e (λz=>nomatch z))]
  exact ec
end
section
variable {X:Cx}{fI:ao (ai×Obj)}{σ:St}{H:Hp}{s:ah}{a:ai}{kvs:ao (Key×V)}{k:Key}{u:ak}{A:Around}{E:ak->ah->Prop}
def WB {Q:ak->ah->Prop}(I:Inv X fI σ H s)(e:Rd H a (.dK kvs))(h:∀ t s',Inv X fI σ H s'->Q (.int kvs.length t) s'):wpAny (model X.prog X.w) A (call (.builtin "len") [.ref a]) Q E s:=by
 obtain⟨z,hd,vs,rel,dd⟩:=zi I.iA e
 refine call_len_dict hd dd (by rw[<- rel.length];rw[sizeLine_eq]at z;lia) ?_
 rw[<- rel.length]
 exact h _ _ (I.tok _)
end
def PF (i:Expr):Prop:=∀ ov iv,subscripted i false ov iv=operate [ov,iv] (getItem ov iv)
def Np {prog:ae}{w:af}{A:Around}{E:ak->ah->Prop}{s:ah}{env:Env}{value slice:Expr}{pos:Pos}{T id:String}{Q:ak->ah->Prop}
 (hl:typeLookup (.type T) "__getitem__"=pure (some (.builtin id))) (hs:PF slice)
 (h:wpAny (model prog w) A (eval value env) (λo s₁=>wpAny (model prog w) A (eval slice env) (λi s₂=>s₂.TypeIs o T/\wpAny (model prog w) A (getItem o i) Q E s₂) E s₁) E s):
 wpAny (model prog w) A (eval (.Subscript value slice pos) env) Q E s:=by
 refine Subscript_ (cc h (λo s₁ h₁=>cc h₁ (λi s₂ h₂=>?_) λ_ _ x=>x) λ_ _ x=>x)
 obtain⟨hT,h₂⟩:=h₂
 unfold subscriptTail
 refine fY ?_
 rw[getitemInPython_of_ne hT.not_modules]
 refine fY (wpAny_specialOf hT hl ?_)
 have fin:wpAny (model prog w) A (subscripted slice false o i) (λr s₃=>wpAny (model prog w) A (letTemporaryGo value o r >>= λ_=>pure r) Q E s₃) E s₂:=by
  rw[hs o i]
  exact wpAny_operating (cc h₂ (λr s₃ h₃=>fY (wpAny_letTemporaryGo (au h₃))) λ_ _ x=>x)
 first
  |exact au (fY fin)
  |exact fY (au (fY fin))
  |exact fY fin
def CT {X:Cx}{fI:ao (ai×Obj)}{σ:St}{H:Hp}{s:ah}{a:ai}{y:V}{o:aq V}(I:Inv X fI σ H s)(g:Bp H a y o):s.TypeIs (.ref a) "dict":=by
 rcases g with⟨kvs,k,e,_,_⟩|⟨kvs,k,b,e,_,_,_⟩
 .obtain⟨_,_,vs,_,dd⟩:=zi I.iA e
  exact dd.typeIs
 .obtain⟨_,_,xs,_,dd⟩:=GU I.iA e
  exact dd.typeIs
def U9 (td ty:TE):TE:=λσ H Q=>td σ H λx H1=>ty σ H1 λy H2=>∃ a v,x=.ref a/\Bp H2 a y (some v)/\Q v H2
def Fo (ty td:TE):TE:=λσ H Q=>ty σ H λy H1=>td σ H1 λx H2=>∃ a o,x=.ref a/\Bp H2 a y o/\Q (.bl (!o.isSome)) H2
def Vj (td ty tv:TE):TS:=λD σ H=>tv σ H λv H1=>td σ H1 λx H2=>ty σ H2 λy H3=>∃ a H4,x=.ref a/\Bo H3 a y v H4/\D.nx σ H4
section
variable {X:Cx}{o i e value:Expr}{pos pos' tpos:Pos}{td ty tv:TE}
def FP (hu:X.A.units+1<cLine)(ho:PE X o td)(hi:PE X i ty)(hs:PF i):PE X (.Subscript o i pos) (U9 td ty):=by
 intro fI s σ H Q I h
 refine Np PySem.F.slot_dict_getitem.lookup hs (iJ (ho fI s σ H _ I h) λu s1 rZ=>?_)
 obtain⟨x,H1,I1,rx,q1⟩:=rZ
 refine iJ (hi fI s1 σ H1 _ I1 q1) λiv s2 qX=>?_
 obtain⟨y,H2,I2,ry,a,v,ex,g,q2⟩:=qX
 subst ex
 obtain rfl:u=Value.ref a:=rx
 exact⟨CT I2 g,IC hu I2 g ry λw' s3 I3 By=>⟨v,H2,I3,By,q2⟩⟩
def HD (hu:X.A.units+1<cLine)(hi:PE X i ty)(ho:PE X o td):PC X .NotIn i o (Fo ty td):=by
 intro fI s σ H Q I h
 refine iJ (hi fI s σ H _ I h) λiv s1 qW=>?_
 obtain⟨y,H1,I1,ry,q1⟩:=qW
 refine iJ (ho fI s1 σ H1 _ I1 q1) λu s2 rY=>?_
 obtain⟨x,H2,I2,rx,a,ov,ex,g,q2⟩:=rY
 subst ex
 obtain rfl:u=Value.ref a:=rx
 exact O4 hu I2 g ry λs3 I3=>⟨.bl (!ov.isSome),H2,I3,rfl,q2⟩
def Ae (hu:X.A.units+1<cLine)(ho:PE X o td)(hi:PE X i ty)(hv:PE X value tv)(hs:swapsWith value (some (.Subscript o i pos')) pos.line X.env=pure false):
 PS X (.Assign [.Subscript o i pos'] value pos) (Vj td ty tv):=by
 intro fI s σ H D I h
 refine wpAny_Assign_Subscript (iJ (hv fI s σ H _ I h) λr s1 qV=>?_) hs
 obtain⟨v,H1,I1,rv,q1⟩:=qV
 refine iJ (ho fI s1 σ H1 _ I1 q1) λu s2 tF=>?_
 obtain⟨x,H2,I2,rx,q2⟩:=tF
 refine iJ (hi fI s2 σ H2 _ I2 q2) λiv s3 rB=>?_
 obtain⟨y,H3,I3,ry,a,H4,ex,g,q3⟩:=rB
 subst ex
 obtain rfl:u=Value.ref a:=rx
 exact IB hu I3 g ry rv λs4 I4=>⟨σ,H4,I4,q3⟩
end
def xH {P:ae}{w:af}{H:Hp}(h:Heap)(hb:sysModules<h.objs.size):jg P w H (h.push { cls:=.type "dict",data:=.dict #[]}) h.objs.size (.dK []) :=
 ⟨bC _,beq_eq_false_iff_ne.mpr (bo (aD hb)),[],.nil,Heap.DictOf.new h⟩
def LV {P:ae}{w:af}{H:Hp}(h:Heap)(hb:sysModules<h.objs.size):jg P w H (h.push { cls:=.type "dict",data:=.dict #[]}) h.objs.size (.dT []) :=
 ⟨bC _,beq_eq_false_iff_ne.mpr (bo (aD hb)),[],.nil,_,#[],0,aG _ rfl,⟨rfl,rfl,rfl⟩,rfl,rfl,List.nodup_nil⟩
def Ro:TE:=λ_ H Q=>∀ p,H p=none->Q (.ref p) (upd H p (.dK []))
def Rn:TE:=λ_ H Q=>∀ p,H p=none->Q (.ref p) (upd H p (.dT []))
section
variable {X:Cx}{pos:Pos}
def Kr:PE X (.Dict [] [] pos) Ro:=λfI s σ H Q I h =>
 wpAny_Dict_empty ⟨.ref s.heap.objs.size,_,I.laid (a:=s.heap.objs.size) (o:=.dK []) (t':=s.toks) (λ_ _ q=>j8 _ q) (ar _) (xH s.heap I.big),rfl,h _ (I.iA.fresh (ar _))⟩
def Kq:PE X (.Dict [] [] pos) Rn:=λfI s σ H Q I h =>
 wpAny_Dict_empty ⟨.ref s.heap.objs.size,_,I.laid (a:=s.heap.objs.size) (o:=.dT []) (t':=s.toks) (λ_ _ q=>j8 _ q) (ar _) (LV s.heap I.big),rfl,h _ (I.iA.fresh (ar _))⟩
end
def zK:ao (TE×TE)->St->Hp->(ao (V×V)->Hp->Prop)->Prop
 |[],_,H,Q=>Q [] H
 |(tk,tv)::r,σ,H,Q=>tk σ H λx H1=>tv σ H1 λy H2=>zK r σ H2 λps H3=>Q ((x,y)::ps) H3
abbrev VV:ao (V×V)->ao (ak×ak)->Prop:=Paired λp q=>gD p.1 q.1/\gD p.2 q.2
def Xe (X:Cx)(pos:Pos)(keys:ao (aq Expr))(values:ao Expr)(Nd:ao (TE×TE)):Prop :=
 ∀(fI:ao (ai×Obj)) (s:ah) (σ:St) (H:Hp) (Q:ao (V×V)->Hp->Prop),Inv X fI σ H s->zK Nd σ H Q ->
  wpAny (model X.prog X.w) X.A (evalPairs (pairTrees keys values X.env pos)) (λvs s'=>∃ ps H',Inv X fI σ H' s'/\VV ps vs/\Q ps H') X.xe s
def NQ {X:Cx}{pos:Pos}:Xe X pos [] [] []:=λfI s σ H Q I h=>pairTrees_nil_walk ⟨[],H,I,.nil,h⟩
def Kg {X:Cx}{pos:Pos}{k v:Expr}{ks:ao (aq Expr)}{vs:ao Expr}{tk tv:TE}{Nd:ao (TE×TE)}(hk:PE X k tk)(hv:PE X v tv)(hr:Xe X pos ks vs Nd):
 Xe X pos (some k::ks) (v::vs) ((tk,tv)::Nd):=λfI s σ H Q I h=>
 pairTrees_cons_walk (iJ (hk fI s σ H _ I h) λu s1 ⟨x,H1,I1,rx,q1⟩=>iJ (hv fI s1 σ H1 _ I1 q1) λw2 s2 ⟨y,H2,I2,ry,q2⟩ =>
  iJ (hr fI s2 σ H2 _ I2 q2) λws s3 qX=>by obtain⟨ps,H3,I3,rel,q3⟩:=qX;exact⟨(x,y)::ps,H3,I3,.cons ⟨rx,ry⟩ rel,q3⟩)
def mO (kvs more:ao (Key×V)):ao (Key×V):=more.foldl (λacc kv=>putK acc kv.1 kv.2) kvs
def KV.merge:∀ {more:ao (Key×V)} {rs:ao (Key×ak)} {kvs:ao (Key×V)} {vs:ao (Key×ak)},KV more rs->KV kvs vs->KV (mO kvs more) (merged vs rs):=by
 intro more rs kvs vs r
 unfold KV at r
 induction r generalizing kvs vs with
 |nil=>intro q;exact q
 | @cons p q ps qs h t ih =>
  intro r0
  have e:KV (putK kvs p.1 p.2) (stored vs q.1 q.2):=by
   have:=r0.put p.1 h.2
   rw[<- h.1];exact this
  exact ih e
def rq:∀(more kvs:ao (Key×V)),(mO kvs more).length<=kvs.length+more.length
 |[],kvs=>by show kvs.length<=kvs.length+0;lia
 | p::r,kvs=>by
  have h1:=rq r (putK kvs p.1 p.2)
  have h2:=nP kvs p.1 p.2
  show(mO (putK kvs p.1 p.2) r).length<=_
  rw[aU];lia
def xQ {P:ae}{w:af}:∀ {kvs:ao (Key×V)} {ws:ao (ak×ak)},VV (kvs.map λkv=>(kV kv.1,kv.2)) ws->∃ rs,Carries (ju P w) ws rs/\KV kvs rs
 |[],_,r=>by rw[fh]at r;cases r;exact⟨[],True.intro,.nil⟩
 | p::kvs,_,r=>by
  rw[aw]at r
  cases r with
  | @cons a b as bs h t =>
   obtain⟨rs,c,q⟩:=xQ (P:=P) (w:=w) t
   obtain⟨b1,b2⟩:=b
   exact⟨(p.1,b2)::rs,⟨yZ h.1,rfl,c⟩,.cons ⟨rfl,h.2⟩ q⟩
def U8 (Nd:ao (TE×TE)):TE:=λσ H Q=>∀ p,H p=none->zK Nd σ (upd H p (.dK [])) λps H2=>H2 p=some (.dK [])/\∃ kvs:ao (Key×V),ps=kvs.map (λkv=>(kV kv.1,kv.2))/\kvs.length<=15/\Q (.ref p) (upd H2 p (.dK (mO [] kvs)))
def NZ {X:Cx}{pos:Pos}{keys:ao (aq Expr)}{values:ao Expr}{Nd:ao (TE×TE)}(h:Xe X pos keys values Nd)(Lv:keys.all (·.isSome)=true)(hl:keys.length=values.length)(h0:keys≠[])
 (ZX:keys.length<=15):PE X (.Dict keys values pos) (U8 Nd):=by
 intro fI s σ H Q I q
 have hn:=I.iA.fresh (ar s.heap.objs.size)
 have I1:=I.laid (a:=s.heap.objs.size) (o:=.dK []) (h':=s.heap.push { cls:=.type "dict",data:=.dict #[]}) (t':=s.toks) (λ_ _ q=>j8 _ q) (ar _) (xH s.heap I.big)
 refine wpAny_Dict_walk (knd:=ju X.prog X.w) Lv hl h0 ZX (iJ (h fI _ σ _ _ I1 (q _ hn)) λws s2 qW=>?_)
 obtain⟨ps,H2,I2,rel,e,kvs,ep,lk,q2⟩:=qW
 subst ep
 obtain⟨rs,c,rk⟩:=xQ (P:=X.prog) (w:=X.w) rel
 obtain⟨z,hd,vs0,r0,dd⟩:=L1 I2.iA e
 cases r0
 refine⟨rs,c,dd,λh' lN hs=>⟨.ref s.heap.objs.size,_,?_,rfl,q2⟩⟩
 have hz:(mO [] kvs).length<=sizeLine:=by
  have h1:=rq kvs []
  rw[List.length_nil]at h1
  rw[sizeLine_eq];lia
 have he:∃ q,h'.get? s.heap.objs.size=some q:=let ⟨q,_,_,hq,_⟩:=lN;⟨q,hq⟩
 exact v9 I2 (by rw[e];exact True.intro) hs he (EI hz hd (rk.merge .nil) lN)
structure M1 (X:Cx)(o:Expr)(m:Str)(mK:Pos)(e:Expr)(lR:Pos):Prop where
 fJ:attributeBase o m X.env (eval o X.env)=eval o X.env
 mZ:((backTo lR (starEach [e] X.env)).all (λx=>!x.1)&&(backToKw lR (keywordEach [] X.env)).all (λx=>x.1.isSome)
  && decide (([e]:List Expr).length+([]:List Keyword).length+(if([]:List Keyword).isEmpty then 0 else 1)<30))=true
 line:(mK.endLine==lR.line)=true
 trees:backTo lR (starEach [e] X.env)=[(false,eval e X.env)]
structure M2 (X:Cx)(o:Expr)(m:Str)(mK:Pos)(e f:Expr)(lR:Pos):Prop where
 fJ:attributeBase o m X.env (eval o X.env)=eval o X.env
 mZ:((backTo lR (starEach [e,f] X.env)).all (λx=>!x.1)&&(backToKw lR (keywordEach [] X.env)).all (λx=>x.1.isSome)
  && decide (([e,f]:List Expr).length+([]:List Keyword).length+(if([]:List Keyword).isEmpty then 0 else 1)<30))=true
 line:(mK.endLine==lR.line)=true
 trees:backTo lR (starEach [e,f] X.env)=[(false,eval e X.env),(false,eval f X.env)]
def xY (X:Cx)(N:ao Str)(sc:Scope)(fp:ao ai)(s:ah)(H:Hp):Cx where
 prog:=X.prog
 w:=X.w
 K:=X.K
 mg:=X.mg
 fJ:=X.fJ
 A:=X.A
 N:=N
 s₀:=s
 H₀:=H
 env:=nG sc s.heap.objs.size X.env
 fT:=X.stack
 stack:=X.stack
 ex:=fp
 fn:=λx=>sc.names.lookup x==some .cell
 gY:=X.gY
 pn:=[]
 xe:=λ_ _=>False
def xn (sc:Scope)(h:Heap):Heap:=pushCells (h.push { cls:=.type "dict",data:=.dict #[]}) sc.names
def u4 {sc:Scope}{h:Heap}:∀ b o,h.get? b=some o->(xn sc h).get? b=some o:=λb o e=>eJ _ _ b o (j8 _ e)
section
variable {X:Cx}{fI:ao (ai×Obj)}{σ:St}{H:Hp}{s:ah}{N:ao Str}{js:ao (aq Nat)}{sc:Scope}{fp:ao ai}
def Ih (I:Inv X fI σ H s)(hc:kr X N js sc)(hf:∀ b∈fp,mX X fI H b)(ho:∀ b∈fp,∃ o,s.heap.get? b=some o)(tk:Nat):
 Inv (xY X N sc fp s H) [] (ia js σ) H {s with heap:=xn sc s.heap,toks:=tk}:=by
 have LB:∀ y∈sc.names,y.2=.free->∃ c,X.env.cells.lookup y.1=some c:=λy hy e=>I.ok.has y.1 (hc.free y hy e)
 have ok:=cellsFrom_ok sc.names (s.heap.push { cls:=.type "dict",data:=.dict #[]}) (s.heap.objs.size+1) [] ⟨λ_ _ hm=>(nomatch hm),List.Pairwise.nil⟩
  (by rw[bj];exact ar _)
 rw[bj]at ok
 have eC:(nG sc s.heap.objs.size X.env).cells=cellsFrom (s.heap.objs.size+1) sc.names []++lK X.env.cells sc.names []:=mB sc.names _ [] _
 have lk:∀ x c,(nG sc s.heap.objs.size X.env).cells.lookup x=some c->(x,c)∈cellsFrom (s.heap.objs.size+1) sc.names []\/X.env.cells.lookup x=some c:=λx c e=>by
  rw[eC]at e
  rcases List.mem_append.mp (mem_of_lookup e)with h|h
  .exact .inl h
  .rcases pC LB x c h with h | h
   .cases h
   .exact .inr h
 have big:∀(x:Str) (c:Nat),(x,c)∈cellsFrom (s.heap.objs.size+1) sc.names []->s.heap.objs.size+1<=c:=λx c h=>(ok.empty x c h).2
 have small:∀(x:Str) (c:Nat),X.env.cells.lookup x=some c->c<s.heap.objs.size:=λx c h=>let ⟨_,q⟩:=I.cell x c h;q.lt
 have has:∀ x,((nG sc s.heap.objs.size X.env).kindOf x=some .cell\/(nG sc s.heap.objs.size X.env).kindOf x=some .free)->∃ c,(nG sc s.heap.objs.size X.env).cells.lookup x=some c:=λx h=>by
  have h':(relabel sc X.env).names.lookup x=some .cell\/(relabel sc X.env).names.lookup x=some .free:=h
  rw[lI]at h'
  rw[eC,eN]
  cases q:sc.names.lookup x with
  |none=>rw[q]at h';rcases h' with h'|h'<;>cases h'
  | some k =>
   rw[q]at h'
   have hk:=B1 (env:=X.env) (x:=x) (k:=k) (h'.elim (λz=>.inl (aM z)) λz=>.inr (aM z))
   rcases hk with rfl|rfl
   .obtain⟨c,tH⟩:=oN (n:=s.heap.objs.size+1) q
    exact⟨c,by rw[tH];rfl⟩
   .have z:=pD (cells:=X.env.cells) sc.names [] x (mem_of_lookup q)
    obtain⟨c,tH⟩:=Option.isSome_iff_exists.mp z
    cases q2:(cellsFrom (s.heap.objs.size+1) sc.names []).lookup x with
    |none=>exact⟨c,by rw[tH];rfl⟩
    |some d=>exact⟨d,rfl⟩
 have Ja:(xY X N sc fp s H).Ok:=by
  refine⟨I.ok.mod,hc.kind,I.ok.glob,I.ok.blt,ar _,λx y c h1 h2=>?_,has,λx c hx h=>?_,I.ok.hd,I.ok.frames,.inl rfl,λb hb=>⟨?_,λx c h=>?_⟩,I.bs,aW I.ok.Jf I.sz,λb o e hb=>?_,λb hb hs=>?_,I.stack,I.sG⟩
  .rcases lk x c h1 with g1 | g1 <;> rcases lk y c h2 with g2 | g2
   .exact name_of_addr ok.apart g1 g2
   .exact absurd (aL (small _ _ g2) (aW (aR _ 1) (big _ _ g1))) (cv _)
   .exact absurd (aL (small _ _ g1) (aW (aR _ 1) (big _ _ g2))) (cv _)
   .exact I.ok.inj x y c g1 g2
  .have Es:sc.names.lookup x=some .cell:=by simpa [xY]using hx
   have h':(nG sc s.heap.objs.size X.env).cells.lookup x=some c:=h
   rw[eC,eN]at h'
   obtain⟨c2,tH⟩:=oN (n:=s.heap.objs.size+1) Es
   rw[tH]at h'
   have e:c2=c:=aM h'
   subst e
   exact aW (aR _ 1) (big _ _ (mem_of_lookup tH))
  .obtain⟨o,e⟩:=ho b hb
   exact aD (jf e)
  .obtain⟨o,e⟩:=ho b hb
   have l:=jf e
   rcases lk x c h with g|g
   .exact bp (aL l (aW (aR _ 1) (big _ _ g)))
   .exact(hf b hb).2.2.2.2.1 x c g
  .rcases(hf b hb).2.2.2.1 with z | z
   .exact I.ok.HQ b o e z
   .exact absurd (aL (jf e) (aW I.ok.Jf z)) (cv _)
  .rcases List.mem_cons.mp (I.wG b hs)with z | z
   .exact(hf b hb).2.1 z
   .exact(hf b hb).2.2.1 z
 have tu:∀ b u,s.heap.get? b=some u->(xn sc s.heap).get? b=some u:=u4
 have YV:(xn sc s.heap).Ns s.heap.objs.size λ_=>none:=by
  have q:=(Heap.Ns.new s.heap (.type "dict")).keeps (eJ sc.names _)
  exact q
 refine⟨Ja,rfl,I.bare,Un.jz tu,⟨_,YV,λi x v e1 e2 e3=>?_⟩,λx c h=>?_,I.iA.fresh (ar _),λx c h=>?_,λp hp=>absurd (show p∈([]:ao (ai×Obj))from hp) (by simp),I.iA.jz tu,?_⟩
 .obtain⟨j,hj,hv⟩:=xu e2
  obtain⟨g1,g2,g3,g4⟩:=hc.slot i x j e1 hj
  have kx:=hc.free _ g2 rfl
  obtain⟨m,hn,hl⟩:=I.loc
  obtain⟨u,r,l⟩:=hl j x v g1 hv (.inr kx)
  refine⟨u,r,?_⟩
  rcases l with⟨z,_⟩|⟨_,c,UN,u6⟩
  .have z':X.env.kindOf x=some .local:=z
   rcases kx with k|k<;>(have k':X.env.kindOf x=_:=k;rw[z']at k';cases k')
  .have kY:(nG sc s.heap.objs.size X.env).kindOf x=some .cell\/(nG sc s.heap.objs.size X.env).kindOf x=some .free:=by
    show(relabel sc X.env).names.lookup x=some .cell\/(relabel sc X.env).names.lookup x=some .free
    rw[lI,g3]
    rcases yP (env:=X.env) (x:=x)with q|q
    .exact .inl (show some (uv X.env x .free)=_ by rw[q])
    .exact .inr (show some (uv X.env x .free)=_ by rw[q])
   obtain⟨c',h'⟩:=has x kY
   refine .inr ⟨kY,c',h',?_⟩
   rcases lk x c' h' with g|g
   .rcases my _ _ _ _ _ g with z | z
    .exact absurd z g4
    .cases z
   .rw[UN]at g;cases g
    exact u6.keeps tu
 .rcases lk x c h with g | g
  .exact⟨_,(ok.empty x c g).1⟩
  .obtain⟨v,q⟩:=I.cell x c g
   exact⟨v,q.keeps tu⟩
 .rcases lk x c h with g | g
  .exact I.iA.fresh (aW (aR _ 1) (big _ _ g))
  .exact I.pJ x c g
 .show(ia js σ).length=N.length
  unfold ia
  rw[iu];exact hc.len
end
def yu {prog:ae}{w:af}{A:Around}{R:Result->ah->Prop}{s:ah}{kx vx target iter:Expr}{ifs:ao Expr}{scope:Scope}{pos:Pos}{it:ak}{D:ai}{env:Env}(I:Nat->ah->Prop)
 (turn:∀ n s,I n s->wpAny (model prog w) A (pyNext it) (λr s₁=>match r with
   |none=>R (.ok .next) s₁
   | some v=>wpAny (model prog w) A (letOwnedTupleGo target it v) (λ_ BU=>wpAny (model prog w) A (assign target env v) (λ_ s₂ =>
    wpAny (model prog w) A (forIn ifs true λc r=>if r=true then do let ok <- isTrue c env (eval c env);pure (ForInStep.yield ok)else pure (ForInStep.yield r)) (λok s₃ =>
     if ok=true then wpAny (model prog w) A (eval kx env) (λkv s₄=>wpAny (model prog w) A (eval vx env) (λvv s₅ =>
      wpAny (model prog w) A (dictSet D kv vv) (λ_ s₆=>∃ m,m<n/\I m s₆) (λ_ _=>False) s₅) (λ_ _=>False) s₄) (λ_ _=>False) s₃
     else ∃ m,m<n/\I m s₃) (λ_ _=>False) s₂) (λ_ _=>False) BU) (λ_ _=>False) s₁) (λ_ _=>False) s)
 (n:Nat) (h:I n s):
 codeAny (model prog w) A (.compLoop (.DictComp kx vx [⟨target,iter,ifs,0⟩] scope pos) 0 it (.ref D) env) R s:=by
 refine codeAny_loop rfl I (λn s hI=>?_) n h
 show wpAny _ A ((compTurn (.DictComp kx vx [⟨target,iter,ifs,0⟩] scope pos) 0 it (.ref D) env).onRaise (λx=>do noteFrame x env;theTreesLotGoes x)) _ _ s
 refine wpAny_noted ?_
 rw[compTurn_dict]
 refine fY (eB (fY (cc (turn n s hI) (λr s₁ h₁=>?_) λ_ _ h'=>h'.elim)))
 cases r with
 |none=>exact au h₁
 | some v =>
  refine fY (cc h₁ (λ_ BU Lk=>?_) λ_ _ h'=>h'.elim)
  refine fY (cc Lk (λ_ s₂ h₂=>fY (cc h₂ (λok s₃ h₃=>?_) λ_ _ h'=>h'.elim)) λ_ _ h'=>h'.elim)
  cases ok with
  |false=>exact au ⟨rfl,h₃⟩
  | true =>
   exact fY (fY (cc h₃ (λx s₄ h₄=>fY (bR (cc h₄ (λy s₅ h₅=>fY (eB (bR (cc h₅ (λ_ s₆ h₆=>au ⟨rfl,h₆⟩) λ_ _ h'=>h'.elim)))) λ_ _ h'=>h'.elim))) λ_ _ h'=>h'.elim))
def Jv (js:ao (aq Nat))(g:TG)(tt:TT)(tk tv:TE)(J:It)(σ:St)(D:ai)(H1:Hp)(fin:ao (Key×V)->Hp->Prop):Prop :=
 ∃ W:Nat->Nat->ao (Key×V)->Hp->Prop,(∃ m,W 0 m [] H1)/\∀ i m kvs H,W i m kvs H ->
  (J.stop i H/\fin kvs H)\/(J.go i H/\∀ x H',J.Ju i H x H'->g x (ia js σ) H' λow H2=>Ext (ia js σ) ow/\tt ow H2 λb H3 =>
    if b=true then tk ow H3 λk H4=>tv ow H4 λv H5=>∃(kk:Key) (Em:ao (Key×V)),k=kV kk/\H5 D=some (.dK Em)/\Em.length<sizeLine/\∃ m',m'<m/\W (i+1) m' (putK Em kk v) (upd H5 D (.dK (putK Em kk v)))else ∃ m',m'<m/\W (i+1) m' kvs H3)
section
variable {X:Cx}{fI:ao (ai×Obj)}{σ:St}{H:Hp}{s:ah}
def dict_set {A:Around}{E:ak->ah->Prop}{a:ai}{kvs:ao (Key×V)}{k:Key}{u r:ak}{v:V}{Q:Unit->ah->Prop}(I:Inv X fI σ H s)(e:H a=some (.dK kvs))(l:kvs.length<sizeLine)(ry:gD (kV k) u)(rv:gD v r)
 (h:∀ s',Inv X fI σ (upd H a (.dK (putK kvs k v))) s'->Q () s'):wpAny (model X.prog X.w) A (dictSet a u r) Q E s:=by
 obtain⟨z,hd,vs,rel,dd⟩:=L1 I.iA e
 have hz:vs.length<=sizeLine:=by rw[<- rel.length];exact z
 have hl:(putK kvs k v).length<=sizeLine:=by have:=nP kvs k v;lia
 refine wpAny_dictSet_pairs (hsz:=hz) (yZ ry) dd λh' lN hs=>h _ ?_
 have he:∃ q,h'.get? a=some q:=let ⟨q,_,_,hq,_⟩:=lN;⟨q,hq⟩
 exact v9 I (by rw[e];exact True.intro) hs he (EI hl hd (rel.put k rv) lN)
variable {N:ao Str}{js:ao (aq Nat)}{sc:Scope}{fp:ao ai}{tg kx vx iter:Expr}{ifs:ao Expr}{g:TG}{tt:TT}{tk tv:TE}
def Dg {J:It}{it D:ai}{tn:Nat->Heap->Prop}{pos:Pos}{R:Result->ah->Prop}{fin:ao (Key×V)->Hp->Prop}{tok:Nat}(I:Inv X fI σ H s)(hc:kr X N js sc)(gY:X.gY=true)
 (T:Turn X.prog X.w X.K tg J fp it tn) (st:tn 0 s.heap) (hf:∀ b∈fp,mX X fI H b)
 (hg:PG (xY X N sc fp s H) tg g) (ht:ME (xY X N sc fp s H) ifs tt) (hk:PE (xY X N sc fp s H) kx tk) (hv:PE (xY X N sc fp s H) vx tv) (q:Jv js g tt tk tv J σ D H fin)
 (hR:∀ s' H' kvs m,Inv X fI σ H' s'->fin kvs H'->s'.heap.Ns s.heap.objs.size m->H' s.heap.objs.size=none->R (.ok .next) s'):
 codeAny (model X.prog X.w) X.A (.compStart (.DictComp kx vx [⟨tg,iter,ifs,0⟩] sc pos) 0 (.ref it) (.ref D) (nG sc s.heap.objs.size X.env)) R {s with heap:=xn sc s.heap,toks:=tok}:=by
 have UG:∀ b∈fp,∃ o,s.heap.get? b=some o:=λb hb=>let ⟨o,e,_⟩:=T.obj 0 s.heap st b hb;⟨o,e⟩
 have I0:=Ih I hc hf UG tok
 have Ja:=I0.ok
 obtain⟨W,⟨m0,w0⟩,turn⟩:=q
 have wH:∀ {H':Hp},(∀ b∈fp,H' b=none)->∀ b∈fp,mX (xY X N sc fp s H) [] H' b:=λ{H'} hn b hb =>
  ⟨hn b hb,(Ja.UT b hb).1,Ja.Iz b hb,.inl hb,(Ja.UT b hb).2,λp hp=>absurd (show p∈([]:ao (ai×Obj))from hp) (by simp)⟩
 have Qg:tn 0 (xn sc s.heap):=T.keep 0 _ _ st λb _ o e=>u4 b o e
 have loop:codeAny (model X.prog X.w) X.A (.compLoop (.DictComp kx vx [⟨tg,iter,ifs,0⟩] sc pos) 0 (.ref it) (.ref D) (nG sc s.heap.objs.size X.env)) R { s with heap:=xn sc s.heap,toks:=tok}:=by
  refine yu (λn s'=>∃ i kvs H',Inv (xY X N sc fp s H) [] (ia js σ) H' s'/\tn i s'.heap/\(∀ b∈fp,H' b=none)/\W i n kvs H') ?_ m0
   ⟨0,[],H,I0,Qg,λb hb=>(hf b hb).1,w0⟩
  rintro n s3 ⟨i,kvs,H3,I3,MN,QM,w3⟩
  rcases turn i n kvs H3 w3 with⟨stop,qf⟩|⟨go,step⟩
  .refine iJ (T.done (xY X N sc fp s H) rfl rfl rfl gY i _ s3 _ H3 _ I3 (wH QM) MN stop) λr s4 rY=>?_
   obtain⟨hr,I4⟩:=rY
   subst hr
   show R (.ok .next) s4
   obtain⟨m,UH,_⟩:=I4.loc
   have IX:Inv X fI σ H3 s4:=I.Mm (ch:=fp) I4.os I4.fJ I4.iA I4.bare λb hb=>by
    obtain⟨f0,f1,f2,f3,f4,f5⟩:=hf b hb
    exact⟨f3,f1,f4,f5⟩
   exact hR s4 H3 kvs m IX qf UH I4.free
  .refine iJ (T.item (xY X N sc fp s H) rfl rfl rfl gY i _ s3 _ H3 _ I3 (wH QM) MN go) λr s4 qV=>?_
   obtain⟨u,hr,h4⟩:=qV
   subst hr
   refine iJ h4 λ_ s5 tF=>?_
   obtain⟨x,H5,I5,r5,y5,JM,Wm⟩:=tF
   have Xl:=I5.pinned (wH Wm) (T.obj _ _ JM)
   refine iJ (hg _ s5 _ H5 x u _ Xl r5 (step x H5 y5)) λ_ s6 ⟨MK,H6,I6,⟨LN,q6⟩⟩=>?_
   refine iJ (ht _ s6 MK H6 _ I6 q6) λb s7 rB=>?_
   obtain⟨H7,I7,q7⟩:=rB
   have back:∀ {s':ah} {H':Hp},Inv (xY X N sc fp s H) ([]++uy fp s5.heap) MK H' s'->tn (i+1) s'.heap/\(∀ b∈fp,H' b=none)/\Inv (xY X N sc fp s H) [] (ia js σ) H' s':=λ{s' H'} I'=>by
    refine⟨T.keep _ _ _ JM λb hb o e=>(I'.pin (b,o) (aS _ (aS _ (mf hb e)))).1,λb hb=>?_,(I'.weak LN.1 LN.2).p4⟩
    obtain⟨o,e,d⟩:=T.obj _ _ JM b hb
    exact(I'.pin (b,o) (aS _ (aS _ (mf hb e)))).2.1
   cases b with
   | false =>
    obtain⟨m',hm,w7⟩:=q7
    obtain⟨t7,f7,I7'⟩:=back I7
    exact⟨m',hm,i+1,kvs,H7,I7',t7,f7,w7⟩
   | true =>
    refine iJ (hk _ s7 MK H7 _ I7 q7) λy s8 rZ=>?_
    obtain⟨yk,H8,I8,ry,q8⟩:=rZ
    refine iJ (hv _ s8 MK H8 _ I8 q8) λz s9 qX=>?_
    obtain⟨zv,H9,I9,rz,kk,Em,ek,eD,hl,m',hm,w9⟩:=qX
    subst ek
    refine dict_set (X:=xY X N sc fp s H) I9 eD hl ry rz λs10 I10=>?_
    obtain⟨t8,f8,Xk⟩:=back I10
    exact⟨m',hm,i+1,_,_,Xk,t8,f8,w9⟩
 exact codeAny_compStart_dict loop (T.self _ 0 _ _ _ Qg loop)
def JJ (wi:TI)(js:ao (aq Nat))(g:TG)(tt:TT)(tk tv:TE):TE:=λσ H Q=>wi σ H λJ H1=>∀ D,H1 D=none->Jv js g tt tk tv J σ D (upd H1 D (.dK [])) λ_ H'=>Q (.ref D) H'
end
def LF:D->V
 |.bl b=>.bl b
 |.int i=>.int i
 |.str z=>.str z
 |_=>.iq
def Tw {φ:ao ai}{H:Hp}{d:D}(h:px d=true):je φ H d (LF d):=by
 cases d<;>first|exact(Bool.noConfusion (show false=true from h))|rfl
def Ez {φ:ao ai}{H:Hp}{d:D}{v:V}(h:px d=true)(i:je φ H d v):v=LF d:=by
 cases d<;>first|exact(Bool.noConfusion (show false=true from h))|exact i
def Tv {φ:ao ai}{H:Hp}:∀ {ds:ao D},ds.all px=true->fZ φ H ds (ds.map LF)
 |[],_=>rfl
 | d::ds,h=>by
  rw[cO,bJ]at h
  exact⟨_,_,rfl,Tw h.1,Tv h.2⟩
def Gy {φ:ao ai}{H:Hp}:∀ {ds:ao D} {vs:ao V},ds.all px=true->fZ φ H ds vs->vs=ds.map LF
 |[],_,_,h=>h
 | d::ds,_,f,h=>by
  obtain⟨v,r,rfl,h1,h2⟩:=h
  rw[cO,bJ]at f
  rw[Ez f.1 h1,Gy f.2 h2];rfl
def yp:D->aq Key
 |.int i=>some (.inl i)
 |.str z=>some (.inr z)
 |_=>none
def qI {φ:ao ai}{H:Hp}{d:D}{v:V}{k:Key}(e:yp d=some k)(i:je φ H d v):v=kV k:=by
 cases d with
 |int n=>cases e;exact i
 |str z=>cases e;exact i
 |_=>cases e
def dput (kvs:ao (Key×D))(k:Key)(d:D):ao (Key×D):=if(kvs.any λkv=>decide (kv.1=k))=true then kvs.map (λkv=>if kv.1=k then(kv.1,d)else kv)else kvs++[(k,d)]
def uG (kvs:ao (Key×D))(k:Key):aq D:=(kvs.find? λkv=>decide (kv.1=k)).map (·.2)
def DD (kvs:ao (Key×D)):ao (Key×V):=kvs.map λp=>(p.1,LF p.2)
def LZ (kvs:ao (Key×D))(k:Key)(d:D):DD (dput kvs k d)=putK (DD kvs) k (LF d):=by
 unfold dput putK DD
 have e:((kvs.map λp=>(p.1,LF p.2)).any λkv=>decide (kv.1=k))=(kvs.any λkv=>decide (kv.1=k)):=by rw[d7];rfl
 rw[e]
 split
 .rw[a8,a8]
  congr 1
  funext p
  show(_,_)=_
  by_cases h:p.1=k
  .simp[h]
  .simp[h]
 .rw[bh];rfl
def L0 (kvs:ao (Key×D))(k:Key)(d:D):(dput kvs k d).length<=kvs.length+1:=by
 unfold dput
 split
 .rw[iu];lia
 .rw[oq,bF];lia
def zh {kvs:ao (Key×D)}{k:Key}{d:D}(h:(kvs.map (·.2)).all px=true)(hd:px d=true):((dput kvs k d).map (·.2)).all px=true:=by
 unfold dput
 rw[cY]at h ⊢
 intro x hx
 split at hx
 .rw[a8]at hx
  obtain⟨p,hp,rfl⟩:=List.mem_map.mp hx
  show px (if p.1=k then(p.1,d)else p).2=true
  split
  .exact hd
  .exact h _ (List.mem_map.mpr ⟨p,hp,rfl⟩)
 .rw[bh]at hx
  rcases List.mem_append.mp hx with q|q
  .exact h x q
  .rw[List.mem_singleton.mp (show x∈[d]from q)];exact hd
abbrev Ww (kvs:ao (Key×D)):D:=.jC (kvs.map (·.1)) (kvs.map (·.2))
def r6 (it:D->MS->(aq (Key×D)->MS->Prop)->Prop)(c:MS->Prop)(μ:MS):ao D->ao (Key×D)->(ao (Key×D)->Prop)->Prop
 |[],kvs,K=>c (μ++[.jC (kvs.map (·.1)) (kvs.map (·.2))])/\K kvs
 | d::ds,kvs,K=>c (μ++[.jC (kvs.map (·.1)) (kvs.map (·.2))])/\it d (μ++[.jC (kvs.map (·.1)) (kvs.map (·.2))]) λo gc=>gc=μ++[.jC (kvs.map (·.1)) (kvs.map (·.2))]/\(match o with
  |some (k,y)=>px y=true/\r6 it c μ ds (dput kvs k y) K
  |none=>r6 it c μ ds kvs K)
def Mb (ρ:DE)(y:DG)(t:Dt)(wk wv:De)(d:D)(μ:MS)(K:aq (Key×D)->MS->Prop):Prop:=y d ρ μ λpV iE=>t pV iE λb rh=>if b=true then wk pV rh λkd ML=>opt (yp kd) λk=>wv pV ML λv UZ=>K (some (k,v)) UZ else K none rh
def Me (wi:DI)(js:ao (aq Nat))(y:DG)(t:Dt)(wk wv:De):De:=λρ μ K=>wi ρ μ λds c gr=>ds.length<=sizeLine/\r6 (Mb (oX js ρ) y t wk wv) c gr ds [] λkvs=>K (Ww kvs) gr
def Fr.Qw {φ gG:ao ai}{H H':Hp}(f:Fr φ H gG H')(hl:gG.length=φ.length):gG=φ:=by
 obtain⟨⟨ψ,rfl,_⟩,_,_⟩:=f
 rw[oq]at hl
 have:ψ=[]:=List.length_eq_zero_iff.mp (by lia)
 rw[this,cy]
def JI {wi:DI}{js:ao (aq Nat)}{g:TG}{y:DG}{S:ao Nat}{t:Dt}{wk wv:De}(so:MC g y S)(mo:pP g)(ho:rl S js=true){σ:St}{H:Hp}{Q:VK}(h:tD (Me wi js y t wk wv) σ H Q):JJ (YD wi) js g (yc t) (tD wk) (tD wv) σ H Q:=by
 obtain⟨φ,ρ,μ,K,A,M,k,L⟩:=h
 refine⟨φ,ρ,μ,_,A,M,k,λds c gr gN J H1 k1 f1 M1 wk' D hD=>?_⟩
 obtain⟨hz,k1⟩:=k1
 have hDf:D∉gN:=M1.fresh hD
 have fD:Fr gN H1 (gN++[D]) (upd H1 D (.dK [])):=⟨(Fr.snoc (φ:=gN) hD).ext,λc u _ e=>iI.upd hD _ _ e,λc e=>(iI.upd hD).free e⟩
 obtain⟨MD,_⟩:=M1.snoc (m:=.jC [] []) (o:=.dK []) hD ⟨[],[],gh,rfl,rfl,rfl⟩
 have Y2:(gN++[D]).length=gr.length+1:=by rw[oq,M1.len];rfl
 have atD:∀ {H':Hp} {kvs:ao (Key×L2.D)},(kvs.map (·.2)).all px=true->gC (gN++[D]) H' (gr++[.jC (kvs.map (·.1)) (kvs.map (·.2))])->H' D=some (.dK (DD kvs)):=λ{H' kvs} QK M'=>by
  obtain⟨p,e1,Em,vs,e2,e3,e4,e5⟩:=M'.at_ gr.length _ (by rw[pX (ar _),a6];rfl)
  rw[pX (by rw[M1.len];exact ar _),M1.len,a6]at e1
  cases e1
  rw[e2]
  congr 2
  have e6:=Gy QK e5
  rw[e4]at e6
  unfold DD
  have key:∀(as:ao (Key×V)) (bs:ao (Key×L2.D)),as.map (·.1)=bs.map (·.1)->as.map (·.2)=(bs.map (·.2)).map LF->as=bs.map λp=>(p.1,LF p.2):=by
   intro as
   induction as with
   | nil=>intro bs h1 _;cases bs with
    |nil=>rfl
    |cons _ _=>cases h1
   | cons a as ih =>
    intro bs h1 h2
    cases bs with
    |nil=>cases h1
    | cons b bs =>
     simp only[aw,b9]at h1 h2 ⊢
     exact⟨Prod.ext h1.1 h2.1,ih bs h1.2 (by simpa using h2.2)⟩
  exact key Em kvs e3 e6
 refine⟨λi n kv H'=>n=ds.length - i/\i<=ds.length/\∃ kvs:ao (Key×L2.D),kv=DD kvs/\kvs.length<=i/\(kvs.map (·.2)).all px=true/\Fr gN H1 (gN++[D]) H'/\gC (gN++[D]) H' (gr++[.jC (kvs.map (·.1)) (kvs.map (·.2))])/\r6 (Mb (oX js ρ) y t wk wv) c gr (ds.drop i) kvs λkvs=>K (Ww kvs) gr,
  ⟨ds.length,rfl,bC _,[],rfl,bC _,rfl,fD,MD,k1⟩,?_⟩
 rintro i n kv H' ⟨rfl,hi,kvs,rfl,XU,QK,f',M',w'⟩
 by_cases mP:i<ds.length
 .rw[bu mP]at w'
  obtain⟨c',w'⟩:=w'
  obtain⟨go,Ju⟩:=(wk' _ H' _ f' M' c' i).1 ds[i] (jk mP)
  refine .inr ⟨go,λx H2 Il=>?_⟩
  obtain⟨f2,M2,i2⟩:=Ju x H2 Il
  have E2:kP (gN++[D]) H2 (oX js ρ) (ia js σ):=((A.mono (f1.trans (f'.trans f2))).ia js)
  refine mo _ _ _ _ _ (λFb H3 qW=>?_) (so _ H2 _ _ _ _ x _ E2 M2 i2 w')
  obtain⟨e3,l3,n3,PR,E3,k3⟩:=qW
  refine⟨LM ho l3 n3,?_⟩
  subst e3
  refine⟨_,PR,_,_,E3,M2,k3,λb ML UX H4 k4 f4 M4=>?_⟩
  cases b with
  | true =>
   refine⟨UX,PR,ML,_,E3.mono f4,M4,k4,λd5 UZ Ym v5 H5 k5 f5 M5 i5=>?_⟩
   obtain⟨kk,ekk,k5⟩:=hX k5
   refine⟨Ym,PR,UZ,_,E3.mono (f4.trans f5),M5,k5,λd6 μ6 φ6 v6 H6 k6 f6 M6 i6=>?_⟩
   obtain⟨e6,XX,w6⟩:=k6
   subst e6
   have ff:=f2.trans (f4.trans (f5.trans f6))
   have ef:φ6=gN++[D]:=ff.Qw (by rw[M6.len,M'.len])
   subst ef
   have hDv:=atD QK M6
   refine⟨kk,_,qI ekk i5,hDv,by unfold DD;rw[iu];lia,ds.length - (i+1),by lia,rfl,mP,dput kvs kk d6,by rw[LZ,Ez XX i6],by have:=L0 kvs kk d6;lia,zh QK XX,?_,?_,w6⟩
   .refine(f'.trans ff).trans (.put (aS _ (List.mem_singleton.mpr rfl)))
   .have hp:(gN++[D])[gr.length]?=some D:=by rw[pX (by rw[M1.len];exact ar _),M1.len,a6];rfl
    have q:=M6.put (k:=gr.length) (p:=D) (o:=.dK (putK (DD kvs) kk v6)) (m:=.jC ((dput kvs kk d6).map (·.1)) ((dput kvs kk d6).map (·.2))) hp
     ⟨DD (dput kvs kk d6),((dput kvs kk d6).map (·.2)).map LF,by rw[gh,LZ,Ez XX i6],by unfold DD;rw[a8];rfl,by unfold DD;rw[a8,a8];rfl,Tv (zh QK XX)⟩
    have e:(gr++[MO.jC (kvs.map (·.1)) (kvs.map (·.2))]).set gr.length (.jC ((dput kvs kk d6).map (·.1)) ((dput kvs kk d6).map (·.2)))=gr++[.jC ((dput kvs kk d6).map (·.1)) ((dput kvs kk d6).map (·.2))]:=mT
    rw[e]at q
    exact q
  | false =>
   obtain⟨e4,w4⟩:=k4
   subst e4
   have ff:=f2.trans f4
   have ef:UX=gN++[D]:=ff.Qw (by rw[M4.len,M'.len])
   subst ef
   exact⟨ds.length - (i+1),by lia,rfl,mP,kvs,rfl,by lia,QK,f'.trans ff,M4,w4⟩
 .have e:i=ds.length:=by lia
  subst e
  rw[List.drop_length]at w'
  refine .inl ⟨(wk' _ H' _ f' M' w'.1 _).2 rfl,?_⟩
  have M'':gC gN H' gr:=by
   have q:=M'.kF (n:=gr.length) (λk m hk e=>by rw[vR hk]at e;exact M1.bound k m e)
   rw[cf,show(gN++[D]).take gr.length=gN by rw[<- M1.len,cf]]at q
   exact q
  have f'':Fr gN H1 gN H':=⟨⟨[],by simp,λ_ h=>nomatch h⟩,f'.keep,f'.X7⟩
  exact L _ gr gN _ H' w'.2 (f1.trans f'') M'' ⟨D,DD kvs,_,rfl,hDf,atD QK M',by unfold DD;rw[a8];rfl,rfl,by
   have:(DD kvs).map (·.2)=(kvs.map (·.2)).map LF:=by unfold DD;rw[a8,a8];rfl
   rw[this];exact Tv QK⟩
section
variable {X:Cx}{a b e:Expr}{es:ao Expr}{pos:Pos}
variable {N:ao Str}{js:ao (aq Nat)}{sc:Scope}{tg kx vx iter:Expr}{ifs:ao Expr}{g:TG}{y:DG}{S:ao Nat}{t:Dt}{wk wv:De}
def WM:sy:=λx y μ K=>match x with
 |.jC ks ds=>opt (yp y) λk=>opt (uG (ks.zip ds) k) λd=>K d μ
 |_=>False
def LS {φ:ao ai}{H:Hp}{ks:ao Key}:∀ {ds:ao D} {kvs:ao (Key×V)} {k:Key} {d:D},kvs.map (·.1)=ks->fZ φ H ds (kvs.map (·.2))->uG (ks.zip ds) k=some d->∃ v,pR kvs k=some v/\je φ H d v:=by
 intro ds kvs
 induction kvs generalizing ks ds with
 |nil=>intro k d h1 h2 h3;cases h1;cases h3
 | cons p kvs ih =>
  intro k d h1 h2 h3
  cases ks with
  |nil=>cases h1
  | cons k0 ks =>
   cases ds with
   |nil=>cases(show _=_ from h2)
   | cons d0 ds =>
    obtain⟨v,r,e,h4,h5⟩:=h2
    simp only[aw,b9]at h1 e
    obtain⟨rfl,rfl⟩:=e
    obtain⟨rfl,h1⟩:=h1
    rw[cL]at h3
    unfold uG at h3
    rw[cx]at h3
    by_cases hk:p.1=k
    .simp only[hk,decide_true]at h3
     cases h3
     exact⟨p.2,pY hk,h4⟩
    .simp only[hk,decide_false]at h3
     obtain⟨v,a,b⟩:=ih h1 h5 (k:=k) (d:=d) h3
     exact⟨v,by rw[pZ hk];exact a,b⟩
def GZ {wa wb:De}(hu:X.A.units+1<cLine)(ha:PD X a wa)(hb:PD X b wb)(hs:PF b):PD X (.Subscript a b pos) (wc WM wa wb):=(FP hu ha hb hs).imp λσ H Q hq=>by
 obtain⟨φ,ρ,μ,K,A,M,k,L⟩:=hq
 refine⟨φ,ρ,μ,_,A,M,k,λd1 gr gN v1 H1 k1 f1 M1 i1=>?_⟩
 refine⟨gN,ρ,gr,_,A.mono f1,M1,k1,λd2 iE kQ v2 H2 k2 f2 M2 i2=>?_⟩
 unfold WM at k2
 split at k2
 .obtain⟨k,ek,k2⟩:=hX k2
  obtain⟨d,ed,k2⟩:=hX k2
  obtain⟨p,kvs,vs,rfl,_,hp,e1,e2,ha⟩:=i1.mono f2
  cases qI ek i2
  subst e2
  obtain⟨v,ev,iv⟩:=LS e1 ha ed
  exact⟨p,v,rfl,.inl ⟨kvs,k,.inl hp,rfl,ev.symm⟩,(L.mono (f1.trans f2)).val M2 k2 iv⟩
 .exact k2.elim
end
def wy (ns:ao Int):∀ k,k<ns.length->argBest (λi j=>decide (ns.getD i 0<ns.getD j 0)) k<=k/\∀ j,j<=k->ns.getD (argBest (λi j=>decide (ns.getD i 0<ns.getD j 0)) k) 0<=ns.getD j 0
 |0,_=>⟨ar _,λj hj=>by rw[show j=0 by lia];exact bU _⟩
 | k+1,h=>by
  obtain⟨h1,h2⟩:=wy ns k (by lia)
  unfold argBest
  by_cases hb:ns.getD (k+1) 0<ns.getD (argBest (λi j=>decide (ns.getD i 0<ns.getD j 0)) k) 0
  .rw[aB (aI hb)]
   refine⟨ar _,λj hj=>?_⟩
   by_cases e:j=k+1
   .rw[e];exact bU _
   .exact cD (df hb) (h2 j (by lia))
  .rw[aC (by simp only[bq];exact hb)]
   refine⟨by lia,λj hj=>?_⟩
   by_cases e:j=k+1
   .rw[e];lia
   .exact h2 j (by lia)
section
variable {prog:ae}{w:af}{A:Around}{R:Result->ah->Prop}{I:ai}{fp wr:ao ai}{n:Nat}{P:Nat->ak->Prop}{St:Nat->Heap->Prop}{kw:ao (Str×ak)}
def Oh (W:Walks prog w A.in1 I fp wr n P St)(bt:Nat->Nat->Bool)(ZN:CmpOf prog w A.in1 .Lt P bt)(S:ai)(hSf:S∉fp):
 ∀(k j:Nat) (s:ah) (vb:ak) (c:Nat),n - (j+1)=k->j+1<=n->St (j+1) s.heap->P (argBest bt j) vb->s.heap.get? S=some { cls:=.type "list",dict:=none,data:=.seq #[vb,vb] c,slots:=#[]} ->
 (∀ v h' tk,P (argBest bt (n - 1)) v->(∀ b o,b∉wr->b≠S->s.heap.get? b=some o->h'.get? b=some o)->R (.ok (.ret v)) {s with heap:=h',toks:=tk}) ->
 codeAny (model prog w) A (.builtin "min.loop" ⟨[.ref I,.none,.ref S],kw⟩) R s:=by
 have Sw:S∉wr:=λh=>hSf (W.sub _ h)
 have nm:(toString "min"++toString ".loop" : String) = "min.loop":=by decide
 intro k
 induction k with
 | zero =>
  intro j s vb c hk hj Im hP hS hR
  have ej:j+1=n:=by lia
  refine eK fb ?_
  rw[dg cz _]
  show wpAny _ _ (seqItems? (.ref S)>>=_) _ _ s
  refine fY (bg hS rfl ?_)
  show wpAny _ _ (tryCatch (pyNext (.ref I)) _>>=_) _ _ s
  refine fY (eY (W.done s _ _ (ej▸Im) λh' tk kp=>?_))
  show wpAny _ _ (updateSeq S (λ_=>#[])>>=_) _ _ _
  refine fY (c6 (kp S _ Sw hS) rfl (fY (cQ (au ?_))))
  exact hR vb _ tk (by rw[<- ej];exact hP) λb o hb hbS e=>(aT _ _ (bo hbS)).trans (kp b o hb e)
 | succ k ih =>
  intro j s vb c hk hj Im hP hS hR
  have lt:j+1<n:=by lia
  refine eK fb ?_
  rw[dg cz _]
  show wpAny _ _ (seqItems? (.ref S)>>=_) _ _ s
  refine fY (bg hS rfl ?_)
  show wpAny _ _ (tryCatch (pyNext (.ref I)) _>>=_) _ _ s
  refine fY (eY (W.item (j+1) s _ _ lt Im λv h' tk hv OH kp=>?_))
  have UO:=kp S _ Sw hS
  show wpAny _ _ (tryCatch (holding [v,v] (richCompare .Lt v vb>>=_)) _>>=_) _ _ _
  refine fY (eY (bR (fY (ZN (j+1) (argBest bt j) v vb _ _ _ hv hP (fY (bR (cF (fY (cQ (au ?_))))))))))
  cases hb:bt (j+1) (argBest bt j)with
  | true =>
   simp only[if_true]
   refine fY (c6 UO rfl (fY (cQ ?_)))
   rw[nm]
   refine au ⟨eF cz _,ih (j+1) _ v _ (by lia) lt (W.frame _ _ _ OH λb ZR o e=>?_) (by simp only[argBest,hb,if_true];exact hv) (bG _ UO rfl) λv' h2 XA Ll QB=>?_⟩
   .exact(aT _ _ (λh:S=b=>hSf (by rw[h];exact ZR))).trans e
   .exact hR v' h2 XA Ll λb o h1 h3 e=>QB b o h1 h3 ((aT _ _ (bo h3)).trans (kp b o h1 e))
  | false =>
   simp only[eP,if_false]
   refine fY (cQ ?_)
   rw[nm]
   exact au ⟨eF cz _,ih (j+1) _ vb c (by lia) lt OH (by simp only[argBest,hb,eP,if_false];exact hP) UO λv' h2 XA Ll QB=>hR v' h2 XA Ll λb o h1 h3 e=>QB b o h1 h3 (kp b o h1 e)⟩
end
def ES (a v:ak):argsOk "min" ⟨[a],[(Str.ofString "default",v)]⟩:=by unfold argsOk;kernel_rfl
section
variable {X:Cx}
def Cu {fI:ao (ai×Obj)}{σ:St}{H:Hp}{s:ah}{p:ai}{ns:ao Int}{d:V}{dv:ak}{Q:VK}(I:Inv X fI σ H s)(gY:X.gY=true)(hp:H p=some (.lst (ns.map V.int)))(rd:gD d dv)(q:if ns=[]then Q d H else ∀ m,m∈ns->(∀ y∈ns,m<=y)->Q (.int m) H):
 wpAny (model X.prog X.w) X.A (call (.builtin "min") [.ref p] [(Str.ofString "default",dv)]) (EP X fI σ Q) X.xe s:=by
 have nm:(toString "min"++toString ".loop" : String) = "min.loop":=by decide
 obtain⟨_,gp,n,r,hl,e⟩:=I.mH hp
 have y7:s.heap.IsList p gp.toArray:=⟨_,e,rfl,n,rfl⟩
 have lt:p≠s.heap.objs.size:=aD (jf e)
 have len:gp.toArray.size=ns.length:=by rw[aE,<- hl,iu]
 have val:∀(i:Nat) (v:ak),gp.toArray[i]?=some v->∃ t,i<ns.length/\v=.int (ns.getD i 0) t:=λi v hv=>by
  have CF:gp[i]?=some v:=by simpa using hv
  cases eb:(ns.map V.int)[i]? with
  |none=>have:=r.none_of eb;rw[CF]at this;cases this
  | some y =>
   obtain⟨u,hu,ry⟩:=r.get eb
   rw[CF]at hu;cases hu
   rw[oU]at eb
   cases e2:ns[i]? with
   |none=>rw[e2]at eb;cases eb
   | some b =>
    rw[e2]at eb;cases eb
    obtain⟨t,rfl⟩:=ry
    exact⟨t,(kM e2).1,by rw[aA,e2];rfl⟩
 refine PyProof.Rows.kmk_tree PySem.F.kind_min PySem.F.plain_min PySem.F.entry_min (ES _ _) ?_
 show wpAny _ _ (Builtin.Builtins.bindParams "min" ["key","default"] 0 ⟨[],[(Str.ofString "default",dv)]⟩>>=_) _ _ s
 refine fY (wpAny_of_eq (show Builtin.Builtins.bindParams "min" ["key","default"] 0 ⟨[],[(Str.ofString "default",dv)]⟩=pure [none,some dv]from rfl) (fY (au (fY (c9 y7 (fY (wpAny_newList ?_ (bC _))))))))
 rw[nm]
 have W:=Walks.list (prog:=X.prog) (w:=X.w) (A:=X.A.in1) (I.ok.hd gY) s.heap.objs.size p lt gp.toArray
 have hS:((s.heap.push { cls:=.type "list_iterator",data:=.fields #[.ref p,.int 0 0]}).push { cls:=.type "list",data:=.seq ([]:ao ak).toArray}).get? (s.heap.push { cls:=.type "list_iterator",data:=.fields #[.ref p,.int 0 0]}).objs.size=some { cls:=.type "list",dict:=none,data:=.seq #[] 0,slots:=#[]}:=aG _ rfl
 have Vc:(s.heap.push { cls:=.type "list_iterator",data:=.fields #[.ref p,.int 0 0]}).objs.size=s.heap.objs.size+1:=bj ..
 have ltp:p<s.heap.objs.size:=jf e
 have Sf:(s.heap.push { cls:=.type "list_iterator",data:=.fields #[.ref p,.int 0 0]}).objs.size∉[s.heap.objs.size,p]:=by
  rw[Vc]
  simp only[aP,aH,bS,not_or]
  exact⟨bp (bL _),bp (bc ltp)⟩
 have Qg:((s.heap.push { cls:=.type "list_iterator",data:=.fields #[.ref p,.int 0 0]}).push { cls:=.type "list",data:=.seq ([]:ao ak).toArray}).IsListIter s.heap.objs.size p 0/\((s.heap.push { cls:=.type "list_iterator",data:=.fields #[.ref p,.int 0 0]}).push { cls:=.type "list",data:=.seq ([]:ao ak).toArray}).IsList p gp.toArray :=
  ⟨⟨_,j8 _ (aG _ rfl),rfl,rfl⟩,(y7.push _).push _⟩
 have back:∀ {h':Heap} {tk:Nat},(∀ b o,s.heap.get? b=some o->h'.get? b=some o)->Inv X fI σ H {s with heap:=h',toks:=tk}:=λkp=>I.jz kp
 refine au ⟨eF cz _,?_⟩
 refine eK fb ?_
 rw[dg cz _]
 show wpAny _ _ (seqItems? (.ref _)>>=_) _ _ _
 refine fY (bg hS rfl ?_)
 show wpAny _ _ (tryCatch (pyNext (.ref s.heap.objs.size)) _>>=_) _ _ _
 by_cases hn:ns=[]
 .rw[aB hn]at q
  have z0:gp.toArray.size=0:=by rw[len,hn];rfl
  refine fY (eY (W.done _ _ _ (by rw[z0];exact Qg) λh' tk kp=>?_))
  show wpAny _ _ (rule _>>=_) _ _ _
  refine fY (dJ (au ?_))
  exact⟨d,H,back λb o eb=>kp b o (by simpa using aD (jf eb)) (j8 _ (j8 _ eb)),rd,q⟩
 .rw[aC hn]at q
  have pos:0<ns.length:=List.length_pos_iff.mpr hn
  refine fY (eY (W.item 0 _ _ _ (by rw[len];exact pos) Qg λv h' tk hv OH kp=>?_))
  have UO:=kp _ _ (by simpa using(λz:(s.heap.push { cls:=.type "list_iterator",data:=.fields #[.ref p,.int 0 0]}).objs.size=s.heap.objs.size=>Sf (by simp[z]))) hS
  show wpAny _ _ (updateSeq _ (λ_=>#[v,v])>>=_) _ _ _
  refine fY (c6 UO rfl ?_)
  rw[nm]
  refine au ⟨eF cz _,Oh W (λi j=>decide (ns.getD i 0<ns.getD j 0)) ?_ _ Sf _ 0 _ v _ rfl (by rw[len];exact pos) (W.frame _ _ _ OH λb ZR o eb=>?_) hv (bG _ UO rfl) λv' h2 XA Ll QB=>?_⟩
  .intro i j vi vj s' Q' E' hi hj hq
   obtain⟨t,_,rfl⟩:=val i vi hi
   obtain⟨t',_,rfl⟩:=val j vj hj
   exact lt_int hq
  .exact(aT _ _ (λh=>Sf (by rw[h];exact ZR))).trans eb
  .rw[len]at Ll
   obtain⟨t,mP,rfl⟩:=val _ v' Ll
   obtain⟨b1,b2⟩:=wy ns (ns.length - 1) (by lia)
   have nS:∀ b o,s.heap.get? b=some o->b≠(s.heap.push { cls:=.type "list_iterator",data:=.fields #[.ref p,.int 0 0]}).objs.size:=λb o eb=>by rw[Vc];exact aD (bc (jf eb))
   have nI:∀ b o,s.heap.get? b=some o->b∉[s.heap.objs.size]:=λb o eb=>by simpa using aD (jf eb)
   refine⟨.int _,H,back λb o eb=>QB b o (nI b o eb) (nS b o eb) ((aT _ _ (bo (nS b o eb))).trans (kp b o (nI b o eb) (j8 _ (j8 _ eb)))),⟨t,rfl⟩,q _ ?_ λx hx=>?_⟩
   .rw[aA,jk mP];exact bI _
   .obtain⟨j,hj,ej⟩:=aX hx
    have:=b2 j (by lia)
    rw[aA (i:=j),jk hj,ej]at this
    exact this
def WK (w wd:De):De:=λρ μ K=>w ρ μ λx gr=>wd ρ gr λd iE=>∃ ns:ao Int,lv iE x=some (ns.map D.int)/\if ns=[]then K d iE else ∀ m,m∈ns->(∀ y∈ns,m<=y)->K (.int m) iE
def TM {e c:Expr}{p pos HY:Pos}{w wd:De}(gY:X.gY=true)(hg:Gl X "min")(hm:X.mg "min"=none)(he:PD X e w)(hc:PD X c wd)
 (h1:starEach [e] X.env=(false,eval e X.env)::starEach [] X.env:=by rfl)
 (h2:backTo pos (starEach [e] X.env)=(false,eval e X.env)::backTo pos (starEach [] X.env):=by rfl) (h3:(backTo pos (starEach [e] X.env)).any (·.1)=false:=by rfl)
 (h4:(backToKw pos (keywordEach [⟨some "default",c,HY⟩] X.env)).all (·.1.isSome)=true:=by rfl) (h5:(backToKw pos (keywordEach [⟨some "default",c,HY⟩] X.env)).any (·.1.isNone)=false:=by rfl)
 (h6:(backToKw pos (keywordEach [⟨some "default",c,HY⟩] X.env)).filterMap (·.1)=[Str.ofString "default"]:=by rfl):
 PD X (.Call (.Name "min" p) [e] [⟨some "default",c,HY⟩] pos) (WK w wd):=by
 intro fI s σ H Q I h
 obtain⟨φ,ρ,μ,K,A,M,k,L⟩:=h
 refine c0 (mj I hg hm dA ?_)
 have q1:Fp (tD w) Ni σ H (λus H1=>Fp (tD wd) Ni σ H1 λds H2=>∃(l:ai) (d:V) (ns:ao Int),us=[.ref l]/\ds=[d]/\H2 l=some (.lst (ns.map V.int))/\if ns=[]then Q d H2 else ∀ m,m∈ns->(∀ y∈ns,m<=y)->Q (.int m) H2):=by
  refine⟨φ,ρ,μ,_,A,M,k,λd1 gr gN v1 H1 k1 f1 M1 i1=>?_⟩
  refine⟨gN,ρ,gr,_,A.mono f1,M1,k1,λd2 iE kQ v2 H2 k2 f2 M2 i2=>?_⟩
  obtain⟨ns,el,k2⟩:=k2
  obtain⟨l,vs,rfl,hp,ha⟩:=jY M2 (i1.mono f2) el
  have L2':=L.mono (f1.trans f2)
  refine⟨l,v2,ns,rfl,rfl,by rw[hp,ha.ints],?_⟩
  by_cases hn:ns=[]
  .rw[aB hn]at k2 ⊢;exact L2'.val M2 k2 i2
  .rw[aC hn]at k2 ⊢;exact λm a b=>L2'.val M2 (k2 m a b) rfl
 refine PyProof.Rows.callWith_kw (iJ (gv he iR h1 pos fI s σ H _ I q1) λus s1 qV=>?_) h2 h3 h4 h5
 obtain⟨vs,H1,I1,r1,q2⟩:=qV
 refine iJ (NT hc RU pos fI s1 σ H1 _ I1 q2) λks s2 tF=>?_
 obtain⟨ds,H2,I2,r2,l,d,ns,e1,e2,hp,q⟩:=tF
 subst e1 e2
 obtain⟨u,rfl,ru⟩:=r1.one
 obtain⟨u2,rfl,ru2⟩:=r2.one
 cases ru
 rw[h6]
 exact Cu I2 gY hp ru2 q
def FH:V->ao V->Hp->VK->Prop:=λx vs H Q=>∃(l:ai) (y:Int) (ns:ao Int) (j:Nat),x=.ref l/\vs=[.int y]/\H l=some (.lst (ns.map V.int))/\ns[j]?=some y/\(∀ m,m<j->ns[m]?≠some y)/\Q (.int j) H
def Li:MG X "list.index" FH:=by
 intro fI s σ H x vs v us Q I rx rv h
 .obtain⟨l,y,ns,j,rfl,rfl,hl,hj,UI,q⟩:=h
  cases rx
  obtain⟨u,rfl,t,rfl⟩:=rv.one
  obtain⟨hz,gp,n,r,hlen,e⟩:=I.mH hl
  have hjl:j<ns.length:=(kM hj).1
  have len:gp.length=ns.length:=by rw[<- hlen,iu]
  have eU:∀(m:Nat) (hm:m<gp.length),gp[m]=gp[m]/\CP (.int y) gp[m]=decide (ns[m]?=some y):=λm hm=>by
   obtain⟨w',ew,By⟩:=r.get (i:=m) (x:=.int (ns[m]'(by lia))) (by rw[oU,jk (by lia)];rfl)
   have:gp[m]=w':=by rw[jk hm]at ew;exact aM ew
   refine⟨rfl,?_⟩
   rw[this,EF By rfl]
   show(ns[m]==y)=_
   rw[jk (by lia)]
   by_cases h:ns[m]'(by lia)=y
   .simp[h]
   .simp[h]
  refine call_meets eS ⟨_,e,rfl⟩ PySem.F.entry_list_index (PySem.F.args_list_index_2 _ _) (SeqAt.list_indexAt l gp.toArray n none #[] (.int y t) (CP (.int y)) j (by rw[aE,len];exact hjl) (by have:=qi;rw[iu]at hz;lia) ?_ λm hm hmj=>?_) ⟨e,λz hzm=>oH (x:=.int y) ⟨t,rfl⟩ rfl r (by simp[lU]) z (by simpa using hzm),?_⟩
  .have:=(eU j (by lia)).2
   rw[aI hj]at this
   simpa using this
  .have:=(eU m (by lia)).2
   rw[aV (UI m hmj)]at this
   simpa using this
  .exact⟨.int j,H,I.tok _,⟨_,rfl⟩,q⟩
def LL:Um:=λd ds μ K=>match ds with
 |[.int y]=>∃(ns:ao Int) (j:Nat),lv μ d=some (ns.map D.int)/\ns[j]?=some y/\(∀ m,m<j->ns[m]?≠some y)/\K (.int j) μ
 |_=>False
def BV {Kf:aa}:MB Kf "list" FH LL:=λφ H x vs d ds μ K Q M hx h k L=>by
 unfold LL at k
 split at k
 .obtain⟨v,r,rfl,h1,h2⟩:=h;cases(show r=[]from h2);cases(show v=_ from h1)
  obtain⟨ns,j,el,h1,h2,k⟩:=k
  obtain⟨p,us,rfl,hp,ha⟩:=jY M hx el
  exact⟨_,_,ns,j,rfl,rfl,by rw[hp,ha.ints],h1,h2,L.val M k rfl⟩
 .exact k.elim
end
def nU:∀(xs:ao Int) (e:Int),e<=xs.foldl max e/\∀ x∈xs,x<=xs.foldl max e
 |[],e=>⟨bU _,λ_ h=>nomatch h⟩
 | y::xs,e=>by
  obtain⟨h1,h2⟩:=nU xs (max e y)
  rw[cJ]
  refine⟨by lia,λx hx=>?_⟩
  rcases List.mem_cons.mp hx with q|q
  .lia
  .exact h2 x q
def lJ:∀(xs:ao Int) (e:Int),xs.foldl max e=e\/xs.foldl max e∈xs
 |[],e=>.inl rfl
 | y::xs,e=>by
  rw[cJ]
  rcases lJ xs (max e y)with h|h
  .rw[h]
   rcases Int.le_total e y with q|q
   .exact .inr (by rw[show max e y=y by lia];exact aF)
   .exact .inl (by lia)
  .exact .inr (nF _ h)
def OO {xs:ao Int}{e m:Int}(h1:m∈e::xs)(h2:∀ x∈e::xs,x<=m):m=xs.foldl max e:=by
 obtain⟨a,b⟩:=nU xs e
 have le:m<=xs.foldl max e:=by
  rcases List.mem_cons.mp h1 with q|q
  .lia
  .exact b m q
 have ge:xs.foldl max e<=m:=by
  rcases lJ xs e with q|q
  .rw[q];exact h2 e aF
  .exact h2 _ (nF _ q)
 lia
def sh (l:ao Nat)(e:Nat):Nat:=e+((l.drop e).takeWhile (·==111)).length
def uK {l:ao Nat}{e:Nat}(ho:OX l)(he:e<=l.length):Uq l e (sh l e):=by
 have split:=List.takeWhile_append_dropWhile (p:=λc=>c==111) (l:=l.drop e)
 have len:=cA List.length split
 rw[oq,bA]at len
 refine⟨aR _ _,by unfold sh;lia,λv h1 h2=>?_,?_⟩
 .have hv:v - e<((l.drop e).takeWhile (·==111)).length:=by unfold sh at h2;lia
  have g:l[v]?=((l.drop e).takeWhile (·==111))[v - e]?:=by
   have q:(l.drop e)[v - e]?=l[v]?:=by rw[c3];congr 1;lia
   rw[<- q,<- split,vR hv]
   simp
  rw[g,jk hv]
  have:=List.all_eq_true.mp (List.all_takeWhile (l:=l.drop e) (p:=λc=>c==111)) _ (bI hv)
  simpa using this
 .cases hd:(l.drop e).dropWhile (·==111)with
  | nil =>
   left
   rw[hd]at len
   unfold sh
   simp at len
   lia
  | cons c r =>
   right
   have g:l[sh l e]?=some c:=by
    have q:(l.drop e)[sh l e - e]?=l[sh l e]?:=by rw[c3];congr 1;unfold sh;lia
    rw[<- q,<- split,pX (by unfold sh;simp),hd]
    unfold sh
    simp
   have nc:c≠111:=by
    have:=List.head?_dropWhile_not (p:=λc=>c==111) (l:=l.drop e)
    rw[hd]at this
    simpa using this
   rw[g]
   rcases ho c (mw g)with q|q
   .exact absurd q nc
   .rw[q]
def jE (es:ao Int)(l:ao Nat)(e:Int):Int:=(es.filter λx=>decide (x<=(sh l e.toNat:Int))).foldl max e
def GC {es:ao Int}{l:ao Nat}{e:Int}(ho:OX l)(h0:0<=e)(he:e<=l.length)(hm:e∈es):Xm es l e (jE es l e):=by
 have ct:=uK ho (e:=e.toNat) (by lia)
 have X6:e∈es.filter λx=>decide (x<=(sh l e.toNat:Int)):=List.mem_filter.mpr ⟨hm,aI (by have:=ct.1;lia)⟩
 obtain⟨a,b⟩:=nU (es.filter λx=>decide (x<=(sh l e.toNat:Int))) e
 have mi:jE es l e∈es.filter λx=>decide (x<=(sh l e.toNat:Int)):=by
  rcases lJ (es.filter λx=>decide (x<=(sh l e.toNat:Int))) e with q|q
  .unfold jE;rw[q];exact X6
  .exact q
 obtain⟨m1,m2⟩:=List.mem_filter.mp mi
 exact⟨_,ct,m1,cn m2,λx hx hxt=>b x (List.mem_filter.mpr ⟨hx,aI hxt⟩)⟩
def EA {es:ao Int}{l:ao Nat}{e m:Int}(ho:OX l)(h0:0<=e)(he:e<=l.length)(hm:e∈es)(h:Xm es l e m):m=jE es l e:=h.uniq (GC ho h0 he hm)
def xB {es:ao Int}{l:ao Nat}{e:Int}(hm:e∈es):jE es l e∈es:=by
 unfold jE
 rcases lJ (es.filter λx=>decide (x<=(sh l e.toNat:Int))) e with q|q
 .rw[q];exact hm
 .exact(List.mem_filter.mp q).1
def GD (es:ao Int)(l:ao Nat)(e:Int):e<=jE es l e:=(nU _ e).1
def kn (es:ao Int)(ts:ao Tk)(a e:Int):Int:=ts.foldl (λm t=>if t.2<=a then max m (jE es t.1 e)else m) e
def jj (es:ao Int)(ts:ao Tk)(a:Int):ao Int:=es.map (kn es ts a)
def Ca (es:ao Int)(a e:Int):∀(ts:ao Tk) (m:Int),ts.foldl (λm t=>if t.2<=a then max m (jE es t.1 e)else m) m=((ts.filter λt=>decide (t.2<=a)).map λt=>jE es t.1 e).foldl max m
 |[],m=>rfl
 | t::ts,m=>by
  rw[cJ,Ca es a e ts,dY]
  by_cases h:t.2<=a
  .rw[aB h,aB (aI h)];rfl
  .rw[aC h,aC (by simp[h])]
def lG (es:ao Int)(ts:ao Tk)(a e:Int):kn es ts a e=((ts.filter λt=>decide (t.2<=a)).map λt=>jE es t.1 e).foldl max e:=Ca es a e ts e
def Cb {es:ao Int}{ts:ao Tk}{a e:Int}(hm:e∈es):kn es ts a e∈es:=by
 rw[lG]
 rcases lJ ((ts.filter λt=>decide (t.2<=a)).map λt=>jE es t.1 e) e with q|q
 .rw[q];exact hm
 .obtain⟨t,_,ht⟩:=List.mem_map.mp q
  rw[<- ht];exact xB hm
def qF (es:ao Int)(ts:ao Tk)(a e:Int):e<=kn es ts a e:=by rw[lG];exact(nU _ e).1
def yf (es:ao Int)(t:Tk):ao Int:=es.map (jE es t.1)
def sf (es:ao Int)(a:Int)(told:ao Int)(t:Tk):ao Int:=if t.2<=a then List.zipWith max told (yf es t)else told
def zp (es:ao Int)(a:Int):∀(ts:ao Tk) (g:Int->Int),ts.foldl (sf es a) (es.map g)=es.map λe=>ts.foldl (λm t=>if t.2<=a then max m (jE es t.1 e)else m) (g e)
 |[],g=>rfl
 | t::ts,g=>by
  have e1:sf es a (es.map g) t=es.map λe=>if t.2<=a then max (g e) (jE es t.1 e)else g e:=by
   unfold sf
   by_cases h:t.2<=a
   .rw[aB h]
    unfold yf
    rw[dW]
    have key:∀ xs:ao Int,List.zipWith (λx y=>max (g x) (jE es t.1 y)) xs xs=xs.map λe=>max (g e) (jE es t.1 e):=by
     intro xs
     induction xs with
     |nil=>rfl
     |cons x xs ih=>rw[bP,ih];rfl
    rw[key]
    simp[h]
   .rw[aC h];simp[h]
  rw[cJ,e1,zp es a ts]
  rfl
def Mi (es:ao Int)(ts:ao Tk)(a:Int):ts.foldl (sf es a) es=jj es ts a:=by
 have:=zp es a ts id
 rw[List.map_id]at this
 rw[this];rfl
def rowAt (es row:ao Int)(x:Int):Int:=(row[es.idxOf x]?).getD 0
def lH (es:ao Int)(ts:ao Tk)(before:ao Int)(a:Int):ao Int:=List.zipWith (λUS mid=>max US (rowAt es before mid)) (jj es ts a) before
structure ue (es row:List Int):Prop where
 len:row.length=es.length
 mem:∀ x∈row,x∈es
def Er {es:ao Int}{x:Int}(h:x∈es):es.idxOf x<es.length:=List.idxOf_lt_length_iff.mpr h
def qJ {es:ao Int}{x:Int}(h:x∈es):es[es.idxOf x]?=some x:=by
 rw[jk (Er h)]
 congr 1
 exact List.getElem_idxOf (Er h)
def rT {es row:ao Int}(r:ue es row){x:Int}(h:x∈es):row[es.idxOf x]?=some (rowAt es row x):=by
 have hl:es.idxOf x<row.length:=by rw[r.len];exact Er h
 unfold rowAt
 rw[jk hl];rfl
def Hz {es row:ao Int}(r:ue es row){x:Int}(h:x∈es):rowAt es row x∈es:=r.mem _ (mw (rT r h))
def OW (es:ao Int):ue es es:=⟨rfl,λ_ h=>h⟩
def xa (es:ao Int)(ts:ao Tk)(a:Int):ue es (jj es ts a):=⟨by unfold jj;rw[iu],λx hx=>by
 unfold jj at hx
 obtain⟨e,he,rfl⟩:=List.mem_map.mp hx
 exact Cb he⟩
def max_mem {es:ao Int}{a b:Int}(ha:a∈es)(hb:b∈es):max a b∈es:=by
 rcases Int.le_total a b with h|h
 .rw[show max a b=b by lia];exact hb
 .rw[show max a b=a by lia];exact ha
def An {es:ao Int}{ts:ao Tk}{before:ao Int}{a:Int}(r:ue es before):ue es (lH es ts before a):=by
 have o:=xa es ts a
 refine⟨by unfold lH;rw[bO,o.len,r.len,Nat.min_self],λx hx=>?_⟩
 unfold lH at hx
 obtain⟨i,hi,rfl⟩:=aX hx
 rw[List.getElem_zipWith]
 rw[bO]at hi
 exact max_mem (o.mem _ (bI _)) (Hz r (r.mem _ (bI _)))
def gO (es:ao Int)(ts:ao Tk):Nat->ao Int
 |0=>jj es ts 0
 |a+1=>lH es ts (gO es ts a) ((a:Int)+1)
def pj (es:ao Int)(ts:ao Tk):∀ a,ue es (gO es ts a)
 |0=>xa es ts 0
 |a+1=>An (pj es ts a)
def DT {es:ao Int}{x:Int}(h:x∈es):rowAt es es x=x:=by unfold rowAt;rw[qJ h];rfl
def yW (es:ao Int)(ts:ao Tk)(a:Int):lH es ts es a=jj es ts a:=by
 unfold lH jj
 have key:∀ xs:ao Int,(∀ x∈xs,x∈es)->List.zipWith (λUS mid=>max US (rowAt es es mid)) (xs.map (kn es ts a)) xs=xs.map (kn es ts a):=by
  intro xs
  induction xs with
  |nil=>intro _;rfl
  | cons x xs ih =>
   intro h
   rw[aw,bP,ih λy hy=>h y (nF _ hy),DT (h x aF)]
   have:=qF es ts a x
   rw[show max (kn es ts a x) x=kn es ts a x by lia]
 exact key es λ_ h=>h
def B9 {es:ao Int}{ts:ao Tk}{a:Int}(h:∀ t∈ts,a<t.2):jj es ts a=es:=by
 unfold jj
 have e:∀ e,kn es ts a e=e:=λe=>by
  rw[lG,List.filter_eq_nil_iff.mpr λt ht=>by have:=h t ht;simp;lia];rfl
 rw[bN λx _=>e x,List.map_id']
def uu {es:ao Int}{ts:ao Tk}:∀ {a:Nat},(∀ t∈ts,(a:Int)<t.2)->gO es ts a=es
 |0,h=>B9 h
 | a+1,h=>by
  unfold gO
  rw[uu λt ht=>by have:=h t ht;lia,yW]
  exact B9 λt ht=>by have:=h t ht;lia
def As {μ:MS}{m:MO}{x:D}{ds:ao D}(h:lv μ x=some ds):lv (μ++[m]) x=some ds:=by
 cases x with
 |lst es=>exact h
 |mr k=>exact Oo h
 |_=>cases h
structure iC (n:Int)(cs:List Int)(ts:List Tk):Prop where
 n1:1<=n
 n2:n<=1000
 mZ:cs.length<=1000
 jD:Cuts n cs
 takes:ud n ts
def qQ (n:Int)(cs:ao Int):0∈fH n cs:=by unfold fH;simp
def GR {n:Int}{cs:ao Int}(h1:1<=n)(h:Cuts n cs):(fH n cs).Nodup:=fk (λh=>Int.ne_of_lt h) (iD h1 h)
def Z8:j5:=λds μ K=>match ds with
 |[.int n,x]=>∃ cs:ao Int,lv μ x=some (cs.map D.int)/\cs.length<=1000/\K (.mr μ.length) (μ++[.lst ((fH n cs).map D.int)])
 |_=>False
def qM:j5:=λds μ K=>match ds with
 |[.int n,x,.str z,.int e]=>∃ cs:ao Int,lv μ x=some (cs.map D.int)/\cs.length<=1000/\(z.length:Int)=n/\n<=1000/\OX z.cps.toList/\0<=e/\e<=n/\e∈fH n cs/\K (.int (jE (fH n cs) z.cps.toList e)) μ
 |_=>False
def OT:j5:=λds μ K=>match ds with
 |[.lst b,.str z,.int e]=>∃ es:ao Int,b=es.map D.int/\es.length<=2000/\z.length<=1000/\OX z.cps.toList/\0<=e/\e<=z.length/\e∈es/\K (.int (jE es z.cps.toList e)) μ
 |_=>False
def mE (es:ao Int)(t:Tk):D:=.tup [.int t.2,.lst ((yf es t).map D.int)]
def qL:j5:=λds μ K=>match ds with
 |[.int n,x,y]=>∃(cs:ao Int) (ts:ao Tk),lv μ x=some (cs.map D.int)/\lv μ y=some (ts.map mM)/\iC n cs ts/\K (.lst (ts.map (mE (fH n cs)))) μ
 |_=>False
def qP:j5:=λds μ K=>match ds with
 |[x,.lst r,.int a]=>∃(es:ao Int) (ts:ao Tk),lv μ x=some (es.map D.int)/\r=ts.map (mE es)/\es.length<=2000/\ts.length<=100/\K (.lst ((jj es ts a).map D.int)) μ
 |_=>False
def AJ:j5:=λds μ K=>match ds with
 |[x,.lst r,y,.int a]=>∃(es:ao Int) (ts:ao Tk) (bf:ao Int),lv μ x=some (es.map D.int)/\r=ts.map (mE es)/\es.length<=2000/\ts.length<=100/\es.Nodup/\lv μ y=some (bf.map D.int)/\ue es bf/\K (.mr μ.length) (μ++[.lst ((lH es ts bf a).map D.int)])
 |_=>False
def kX (ts:ao Tk):Int:=match ts.map (·.2)with|[]=>0|a::r=>r.foldl min a
def kR:∀(xs:ao Int) (e:Int),(xs.foldl min e=e\/xs.foldl min e∈xs)/\xs.foldl min e<=e/\∀ x∈xs,xs.foldl min e<=x
 |[],e=>⟨.inl rfl,bU _,λ_ h=>nomatch h⟩
 | y::xs,e=>by
  obtain⟨h0,h1,h2⟩:=kR xs (min e y)
  rw[cJ]
  refine⟨?_,by lia,λx hx=>?_⟩
  .rcases h0 with h | h
   .rw[h]
    rcases Int.le_total e y with q|q
    .exact .inl (by lia)
    .exact .inr (by rw[show min e y=y by lia];exact aF)
   .exact .inr (nF _ h)
  .rcases List.mem_cons.mp hx with q | q
   .lia
   .exact h2 x q
def Jt {ts:ao Tk}{m:Int}(hm:m∈ts.map (·.2))(hl:∀ y∈ts.map (·.2),m<=y):m=kX ts:=by
 unfold kX
 cases e:ts.map (·.2)with
 |nil=>rw[e]at hm;cases hm
 | cons a r =>
  rw[e]at hm hl
  obtain⟨h0,h1,h2⟩:=kR r a
  have a1:m<=r.foldl min a:=by
   rcases h0 with q|q
   .rw[q];exact hl a aF
   .exact hl _ (nF _ q)
  have a2:r.foldl min a<=m:=by
   rcases List.mem_cons.mp hm with q|q
   .lia
   .exact h2 m q
  show m=r.foldl min a
  lia
def BK {ts:ao Tk}:∀ t∈ts,kX ts<=t.2:=λt ht=>by
 have hm:t.2∈ts.map (·.2):=List.mem_map.mpr ⟨t,ht,rfl⟩
 unfold kX
 cases e:ts.map (·.2)with
 |nil=>rw[e]at hm;cases hm
 | cons a r =>
  rw[e]at hm
  obtain⟨h0,h1,h2⟩:=kR r a
  show r.foldl min a<=t.2
  rcases List.mem_cons.mp hm with q|q
  .lia
  .exact h2 _ q
def BJ {ts:ao Tk}{n:Int}(h:ud n ts):0<=kX ts/\kX ts<=60:=by
 unfold kX
 cases e:ts.map (·.2)with
 |nil=>exact⟨bU _,by decide⟩
 | cons a r =>
  obtain⟨h0,h1,h2⟩:=kR r a
  have key:∀ x∈a::r,0<=x/\x<=60:=λx hx=>by
   rw[<- e]at hx
   obtain⟨t,ht,rfl⟩:=List.mem_map.mp hx
   have:=h.ok t ht
   exact⟨this.2.2.1,this.2.2.2⟩
  show 0<=r.foldl min a/\r.foldl min a<=60
  rcases h0 with q|q
  .rw[q];exact key a aF
  .exact key _ (nF _ q)
def qK:j5:=λds μ K=>match ds with
 |[y]=>∃ ts:ao Tk,lv μ y=some (ts.map mM)/\ts.length<=100/\K (.int (kX ts)) μ
 |_=>False
def OR:j5:=λds μ K=>match ds with
 |[.lst b,y,.int a]=>∃(n:Int) (cs:ao Int) (ts:ao Tk),b=(fH n cs).map D.int/\lv μ y=some (ts.map mM)/\iC n cs ts/\K (.lst ((jj (fH n cs) ts a).map D.int)) μ
 |_=>False
def GG:j5:=λds μ K=>match ds with
 |[.lst b,y,.int m]=>∃(n:Int) (cs:ao Int) (ts:ao Tk),b=(fH n cs).map D.int/\lv μ y=some (ts.map mM)/\iC n cs ts/\0<=m/\m<=1000/\K (.lst ((List.range m.toNat).map λa=>.lst ((gO (fH n cs) ts a).map D.int))) μ
 |_=>False
def Zb (x sc:Scope):Scope:={ sc with names:=sc.names.map λ(n,k)=>if k==NameKind.free&&x.kind==.function&&x.names.lookup n==some .cell then(n,NameKind.cell)else(n,k)}
def wg {X0:Cx}{N0:ao Str}{xsc Uz:Scope}{N:ao Str}{js:ao (aq Nat)}{sc:Scope}{fp:ao ai}{s:ah}{H:Hp}(hs:X0.env.scope=xsc)(h:wj N0 (Zb xsc Uz) N js sc=true):kr (ou X0 N0 Uz fp s H) N js sc:=by
 subst hs
 exact EM h rfl rfl
def rA (p:Int->Bool):D->aq D
 |.int i=>if p i=true then some (.int i)else none
 |_=>none
def tK (p:Int->Bool)(es:ao Int):(es.map D.int).filterMap (rA p)=(es.filter p).map D.int:=by
 induction es with
 |nil=>rfl
 | cons e es ih =>
  rw[aw,cH,dY]
  unfold rA at ih ⊢
  by_cases h:p e=true
  .simp only[h,if_true,aw];rw[ih]
  .simp only[h,if_false];rw[ih];rfl
def vK {p:Int->Bool}{i:Int}{K:aq D->MS->Prop}{μ:MS}(h:p i=true)(k:K (rA p (.int i)) μ):K (some (.int i)) μ:=by have e:rA p (.int i)=some (.int i):=aB h;rw[e]at k;exact k
def tq {p:Int->Bool}{i:Int}{K:aq D->MS->Prop}{μ:MS}(h:¬ p i=true)(k:K (rA p (.int i)) μ):K none μ:=by have e:rA p (.int i)=none:=aC h;rw[e]at k;exact k
def Om (g:Int->D):D->aq D
 |.int i=>some (g i)
 |_=>none
def Gu (g:Int->D)(es:ao Int):(es.map D.int).filterMap (Om g)=es.map g:=by rw[List.filterMap_map,<- dE];rfl
def K2 (g:Tk->D):D->aq D
 |.tup [.str z,.int a]=>some (g (z.cps.toList,a))
 |_=>none
def vS (g:Tk->D)(ts:ao Tk):(ts.map mM).filterMap (K2 g)=ts.map g:=by rw[List.filterMap_map,<- dE];rfl
def HV (g:Int->Int->D):D->aq D
 |.tup [.int a,.int b]=>some (g a b)
 |_=>none
def Gs (g:Int->Int->D)(xs ys:ao Int):(List.zipWith (λa b=>D.tup [a,b]) (xs.map D.int) (ys.map D.int)).filterMap (HV g)=List.zipWith g xs ys:=by
 rw[dW]
 induction xs generalizing ys with
 |nil=>simp
 | cons x xs ih =>
  cases ys with
  |nil=>simp
  |cons y ys=>rw[bP,bP,cH,ih];rfl
def Fc {xs ys:ao Int}{d:D}(h:d∈List.zipWith (λa b=>D.tup [a,b]) (xs.map D.int) (ys.map D.int)):∃ a∈xs,∃ b∈ys,d=.tup [.int a,.int b]:=by
 rw[dW]at h
 induction xs generalizing ys with
 |nil=>simp at h
 | cons x xs ih =>
  cases ys with
  |nil=>simp at h
  | cons y ys =>
   rw[bP]at h
   rcases List.mem_cons.mp h with q|q
   .exact⟨x,aF,y,aF,q⟩
   .obtain⟨a,ha,b,hb,e⟩:=ih q
    exact⟨a,nF _ ha,b,nF _ hb,e⟩
def DB {α β γ δ:Type}(f:γ->δ)(g:α->β->γ):∀(xs:ao α) (ys:ao β),(List.zipWith g xs ys).map f=List.zipWith (λa b=>f (g a b)) xs ys
 |[],_=>by simp
 |_::_,[]=>by simp
 |x::xs,y::ys=>by rw[bP,bP,aw,DB f g xs ys]
abbrev kI (i:Int):Key:=.inl i
def tT:Nat->ao Int->ao D
 |_,[]=>[]
 |n,e::es=>.tup [.int n,.int e]::tT (n+1) es
def zd:∀(n:Nat) (es:ao Int) (i:Nat),(tT n es)[i]?=(es[i]?).map λe=>D.tup [.int ((n+i:Nat):Int),.int e]
 |n,[],i=>by simp[tT]
 |n,e::es,0=>by simp[tT]
 | n,e::es,i+1=>by
  unfold tT
  rw[eW,eW,zd (n+1) es i]
  congr 1
  funext e
  rw[show n+1+i=n+(i+1) by lia]
def LR (es:ao Int):nV (es.map D.int)=tT 0 es:=by
 apply cC
 intro i
 rw[zd]
 unfold nV
 rw[bV,iu,oU]
 cases e:es[i]? with
 |none=>simp
 | some x =>
  have hi:=(kM e).1
  rw[bB hi]
  simp
def rF:Nat->ao Int->ao (Key×D)
 |_,[]=>[]
 |n,e::es=>(kI e,.int n)::rF (n+1) es
def BM {it:D->MS->(aq (Key×D)->MS->Prop)->Prop}{c:MS->Prop}{μ:MS}{K:ao (Key×D)->Prop}(hc:∀ m,c (μ++[m]))(hit:∀(i:Nat) (e:Int) (gc:MS) (K':aq (Key×D)->MS->Prop),K' (some (kI e,.int i)) gc->it (.tup [.int i,.int e]) gc K'):∀(es:ao Int) (n:Nat) (kvs:ao (Key×D)),es.Nodup->(∀ kv∈kvs,∀ e∈es,kv.1≠kI e)->K (kvs++rF n es)->r6 it c μ (tT n es) kvs K
 | [],n,kvs,_,_,k=>by
  unfold tT r6
  rw[show rF n []=[]from rfl,cy]at k
  exact⟨hc _,k⟩
 | e::es,n,kvs,nd,hk,k=>by
  unfold tT r6
  refine⟨hc _,hit n e _ _ ⟨rfl,rfl,?_⟩⟩
  have hn:(kvs.any λkv=>decide (kv.1=kI e))=false:=by
   rw[fj]
   intro kv Wa
   simp only[bq]
   exact hk kv Wa e aF
  have hd:dput kvs (kI e) (.int n)=kvs++[(kI e,.int n)]:=by unfold dput;rw[hn];rfl
  rw[hd]
  refine BM hc hit es (n+1) _ (List.nodup_cons.mp nd).2 (λkv Wa e' UM=>?_) ?_
  .rcases List.mem_append.mp Wa with q | q
   .exact hk kv q e' (nF _ UM)
   .rw[List.mem_singleton.mp q]
    intro z
    have z':e=e':=by injection z
    rw[z']at nd
    exact(List.nodup_cons.mp nd).1 UM
  .rw[cG];exact k
def zip_parts {α β:Type}:∀ l:ao (α×β),(l.map (·.1)).zip (l.map (·.2))=l
 |[]=>rfl
 |p::l=>by rw[aw,aw,cL,zip_parts l]
def yB:∀ {es:ao Int} {n:Nat} {m:Int},m∈es->uG (rF n es) (kI m)=some (.int ((n+es.idxOf m:Nat):Int))
 |[],n,m,h=>by cases h
 | e::es,n,m,h=>by
  unfold rF uG
  rw[cx]
  by_cases q:e=m
  .subst q;simp
  .have hm : m ∈ es := by rcases List.mem_cons.mp h with z | z
                          .exact absurd z.symm q
                          .exact z
   have nk:decide ((kI e)=kI m)=false:=aV λz=>q (by injection z)
   have nk':decide ((kI e,D.int (n:Int)).fst=kI m)=false:=nk
   rw[nk']
   show Option.map _ _=_
   have:=yB (n:=n+1) hm
   unfold uG at this
   rw[this,show(e::es).idxOf m=es.idxOf m+1 by rw[List.idxOf_cons,show(e==m)=false from beq_false_of_ne q];rfl]
   congr 3
   lia
section
variable {X:Cx}{N:ao Str}{sc:Scope}{js:ao (aq Nat)}{tg iter kx vx:Expr}{ifs:ao Expr}{g:TG}{tt:TT}{tk tv:TE}
def Ks {wi:TI}{pos:Pos}(hc:kr X N js sc)(gY:X.gY=true)(hi:PI X tg iter wi)(hg:∀ fp s H,PG (xY X N sc fp s H) tg g)
 (ht:∀ fp s H,ME (xY X N sc fp s H) ifs tt) (hk:∀ fp s H,PE (xY X N sc fp s H) kx tk) (hv:∀ fp s H,PE (xY X N sc fp s H) vx tv)
 (hs:∀ x,foldedSetIterable iter X.env x=pure x:=by intro _;rfl):PE X (.DictComp kx vx [⟨tg,iter,ifs,0⟩] sc pos) (JJ wi js g tt tk tv):=by
 intro fI s σ H Q I h
 rw[show eval (.DictComp kx vx [⟨tg,iter,ifs,0⟩] sc pos) X.env=comprehension (.DictComp kx vx [⟨tg,iter,ifs,0⟩] sc pos) sc X.env (firstIterPos [⟨tg,iter,ifs,0⟩] pos) newDict (firstAsync [⟨tg,iter,ifs,0⟩]) (firstIter [⟨tg,iter,ifs,0⟩] X.env)from rfl]
 refine eE (use:=none) rfl hs (oj λy hy e=>I.ok.has y.1 (hc.free y hy e)) hc.kind hc.loc (iJ (hi fI s σ H _ I h) λv s1 h1=>iJ h1 λV0 s2 h2=>?_)
 obtain⟨it,fp,tn,J,H2,e,I2,T,Qf,f2,q⟩:=h2
 subst e
 refine dc (qg ?_)
 have hD:H2 s2.heap.objs.size=none:=I2.iA.fresh (ar _)
 have I3:Inv X fI σ (upd H2 s2.heap.objs.size (.dK [])) { s2 with heap:=s2.heap.push { cls:=.type "dict",data:=.dict #[]}}:=I2.laid (t':=s2.toks) (λ_ _ q=>j8 _ q) (ar _) (xH s2.heap I2.big)
 have hC:(s2.heap.push { cls:=.type "dict",data:=.dict #[]}).objs.size=s2.heap.objs.size+1:=bj ..
 have MN:tn 0 (s2.heap.push { cls:=.type "dict",data:=.dict #[]}):=T.keep 0 _ _ Qf λb _ o e=>j8 _ e
 have UG:∀ b∈fp,b≠s2.heap.objs.size:=λb hb=>let ⟨o,e,_⟩:=T.obj 0 s2.heap Qf b hb;aD (jf e)
 have f3:∀ b∈fp,mX X fI (upd H2 s2.heap.objs.size (.dK [])) b:=λb hb=>⟨by rw[gB (UG b hb)];exact(f2 b hb).1,(f2 b hb).2⟩
 refine Dg (s:={ s2 with heap:=s2.heap.push { cls:=.type "dict",data:=.dict #[]}}) (tok:=s2.toks) I3 hc gY T MN f3 (hg fp _ _) (ht fp _ _) (hk fp _ _) (hv fp _ _) (q s2.heap.objs.size hD) λs' H' kvs m IX qf nC hn=>?_
 have mP:s2.heap.objs.size<(s2.heap.push { cls:=.type "dict",data:=.dict #[]}).objs.size:=by rw[hC];exact bL _
 have Cq:∀(b:ai) (o:Obj),s2.heap.get? b=some o->b≠(s2.heap.push { cls:=.type "dict",data:=.dict #[]}).objs.size:=λb o e=>aD (dR (jf e) mP)
 refine⟨m,nC,λh' sb=>?_⟩
 have IY:Inv X fI σ H' { s' with heap:=h'}:=IX.turned (t':=s'.toks) (it:=(s2.heap.push { cls:=.type "dict",data:=.dict #[]}).objs.size) (λb o hb e=>(sb.2 b hb).trans e) hn
  (bp (dR I2.lt mP)) (.inr (dU (cq I2.sz mP))) (λx c e=>let ⟨v,z⟩:=I2.cell x c e;aD (dR z.lt mP)) (λp hp=>Cq _ _ (I2.pin p hp).1)
 exact⟨.ref _,_,IY,rfl,qf⟩
variable {y:DG}{S:ao Nat}{t:Dt}{wk wv:De}
def O7 {wi:DI}{pos:Pos}(hc:kr X N js sc)(gY:X.gY=true)(so:MC g y S)(mo:pP g)(ho:rl S js=true)(hi:Hg X tg iter wi)(hg:∀ fp s H,PG (xY X N sc fp s H) tg g)
 (ht:∀ fp s H,Bh (xY X N sc fp s H) ifs t) (hk:∀ fp s H,PD (xY X N sc fp s H) kx wk) (hv:∀ fp s H,PD (xY X N sc fp s H) vx wv)
 (hs:∀ x,foldedSetIterable iter X.env x=pure x:=by intro _;rfl):PD X (.DictComp kx vx [⟨tg,iter,ifs,0⟩] sc pos) (Me wi js y t wk wv):=(Ks hc gY hi hg ht hk hv hs).imp λσ H Q h=>JI so mo ho h
end
def Ue (es:ao Int)(ts:ao Tk):Nat->ao Int
 |0=>es
 |b+1=>gO es ts b
def Mx (es:ao Int)(ts:ao Tk):∀ b:Nat,lH es ts (Ue es ts b) (b:Int)=Ue es ts (b+1)
 |0=>yW es ts 0
 |b+1=>by show lH es ts (gO es ts b) ((b+1:Nat):Int)=gO es ts (b+1);rfl
def IL {es:ao Int}{ts:ao Tk}:∀ {b:Nat},(∀ t∈ts,(b:Int)<=t.2)->Ue es ts b=es
 |0,_=>rfl
 |b+1,h=>uu λt ht=>by have:=h t ht;lia
def jU (lo:Int)(n:Nat):lP lo (n+1)=.int lo::lP (lo+1) n:=by
 unfold lP
 rw[List.range_succ_eq_map,aw,a8]
 congr 1
 .simp
 .refine bN λi _=>?_
  show D.int (lo+((i+1:Nat):Int))=_
  congr 1
  lia
def pq {μ g:MS}(hm:∀(j:Nat) (m:MO),μ[j]?=some m->Aq μ.length m):∀(j:Nat) (m:MO),j<μ.length->(μ++g)[j]?=some m->Aq μ.length m:=λj m hj e=>by
 rw[vR hj]at e;exact hm j m e
def CA (p:Tk->Bool)(g:Tk->D):D->aq D
 |.tup [.str z,.int a]=>if p (z.cps.toList,a)=true then some (g (z.cps.toList,a))else none
 |_=>none
def xk (p:Tk->Bool)(g:Tk->D)(t:Tk):CA p g (mM t)=if p t=true then some (g t)else none:=rfl
def xx (p:Tk->Bool)(g:Tk->D):∀ ts:ao Tk,(ts.map mM).filterMap (CA p g)=(ts.filter p).map g
 |[]=>rfl
 | t::ts=>by
  rw[aw,cH,xk,dY]
  by_cases h:p t=true
  .rw[aB h,aB h,aw,xx p g ts]
  .rw[aC h,aC h,xx p g ts]
def Oy {p:Tk->Bool}{g:Tk->D}{t:Tk}{K:aq D->MS->Prop}{μ:MS}(h:p t=true)(k:K (CA p g (mM t)) μ):K (some (g t)) μ:=by rw[xk,aB h]at k;exact k
def Oz {p:Tk->Bool}{g:Tk->D}{t:Tk}{K:aq D->MS->Prop}{μ:MS}(h:¬ p t=true)(k:K (CA p g (mM t)) μ):K none μ:=by rw[xk,aC h]at k;exact k
def Ej {μ:MS}{k:Nat}{ds:ao D}(h:yY μ k=some ds):UU "list" μ (.mr k):=by show(match μ[k]? with|some (.lst _)=> "list" = "list" | some (.jC _ _)=> "list" = "dict" | _=>False);rw[mh h]
def ER {α:Type}(xs:ao α)(x:α):lO (xs++[x]) (-1)=some x:=by
 unfold lO CB
 rw[aC (by decide),aB (by rw[oq,bF];lia)]
 show(xs++[x])[((-1:Int)+((xs++[x]).length:Nat)).toNat]?=some x
 rw[oq,bF,show((-1:Int)+((xs.length+1:Nat):Int)).toNat=xs.length by lia,pX (ar _),a6]
 rfl
def OP {α:Type}(g:α->D)(xs:ao α)(f:Int->D)(h:∀(i:Nat) (x:α),xs[i]?=some x->f (i:Int)=g x):(lP 0 xs.length).filterMap (Om f)=xs.map g:=by
 rw[sM,Gu,a8]
 apply cC
 intro i
 rw[oU,oU]
 cases e:xs[i]? with
 | none =>
  have:=List.getElem?_eq_none_iff.mp e
  rw[List.getElem?_eq_none_iff.mpr (by rw[u7];exact this)];rfl
 | some x =>
  have hi:=(kM e).1
  rw[bB hi]
  show some (f (0+(i:Int)))=some (g x)
  rw[de,h i x e]
def Ii {es:ao Int}(nd:es.Nodup){x:Int}(h:x∈es):∀ m,m<es.idxOf x->es[m]?≠some x:=λm hm e=>by
 have hx:=qJ h
 obtain⟨h1,e1⟩:=kM e
 obtain⟨h2,e2⟩:=kM hx
 exact List.pairwise_iff_getElem.mp nd m _ h1 h2 hm (e1.trans e2.symm)
def vI {es:ao Int}{ts:ao Tk}{bf:ao Int}{a:Int}{i:Nat}{f m:Int}(hf:(jj es ts a)[i]?=some f)(hm:bf[i]?=some m):(lH es ts bf a)[i]?=some (max f (rowAt es bf m)):=by
 unfold lH
 rw[bV,hf,hm]
def Mf {l:ao Nat}{a b:Int}{v c:Nat}(ha:0<=a)(h1:a<=v)(h2:(v:Int)<b)(h:l[v]?=some c):c∈oi l a b:=by
 obtain⟨i,rfl⟩:=cE ha
 obtain⟨j,rfl⟩:=cE (cD (Int.natCast_nonneg v) (df h2))
 have h1:=Int.ofNat_le.mp h1
 rw[xO]
 refine mw (i:=v - i) ?_
 rw[bT (Nat.sub_lt_sub_right h1 (Int.ofNat_lt.mp h2)),c3,Nat.add_sub_cancel' h1]
 exact h
def zq {es:ao Int}{l:ao Nat}{a b:Int}(ho:OX l)(ha:0<=a)(hb:b<=l.length)(Gp:a<=b)(hm:b∈es)(h:120∉oi l a b):b<=jE es l a:=by
 have ct:=uK ho (e:=a.toNat) (by lia)
 have hc:b<=(sh l a.toNat:Int):=by
  by_cases q:b<=(sh l a.toNat:Int)
  .exact q
  .rcases ct.2.2.2 with z | z
   .lia
   .exact absurd (Mf ha (by have:=ct.1;lia) (by lia) z) h
 exact(nU _ a).2 b (List.mem_filter.mpr ⟨hm,aI hc⟩)
def KR {n:Int}{cs:ao Int}{ts:ao Tk}(S:iC n cs ts)(hb:jG (fH n cs) ts=none){i:Nat}{u v:Int}(hu:(fH n cs)[i]?=some u)(hv:(fH n cs)[i+1]?=some v):∃ t∈ts,v<=jE (fH n cs) t.1 u:=by
 unfold jG at hb
 have hp:(u,v)∈Bz (fH n cs):=by
  have:=FK (es:=fH n cs) (i:=i)
  rw[hu,hv]at this
  exact mw this
 have nb:=List.find?_eq_none.mp hb _ hp
 unfold bad at nb
 rw[Bool.not_eq_true,List.all_eq_false]at nb
 obtain⟨t,ht,hc⟩:=nb
 have tH:120∉oi t.1 u v:=by simpa using hc
 have ok:=S.takes.ok t ht
 have Zi:=jw S.n1 S.jD (mw hu)
 have Ll:=jw S.n1 S.jD (mw hv)
 have huv:=lB (iD S.n1 S.jD) hu hv (bL _)
 exact⟨t,ht,zq ok.2.1 Zi.1 (by lia) (by lia) (mw hv) tH⟩
def sU {es:ao Int}{ts:ao Tk}{a e:Int}{t:Tk}(ht:t∈ts)(ha:t.2<=a):jE es t.1 e<=kn es ts a e:=by
 rw[lG]
 exact(nU _ e).2 _ (List.mem_map.mpr ⟨t,List.mem_filter.mpr ⟨ht,aI ha⟩,rfl⟩)
def nO {es:ao Int}{ts:ao Tk}{a:Int}{i:Nat}{e:Int}(h:es[i]?=some e):(jj es ts a)[i]?=some (kn es ts a e):=by unfold jj;rw[oU,h];rfl
def JW {es:ao Int}{ts:ao Tk}:∀ {a i:Nat} {e:Int},es[i]?=some e->∃ x,(gO es ts a)[i]?=some x/\kn es ts a e<=x
 |0,i,e,h=>⟨_,nO h,bU _⟩
 | a+1,i,e,h=>by
  have hi:=(kM h).1
  obtain⟨m,hm⟩:∃ m,(gO es ts a)[i]?=some m:=⟨_,jk (by rw[(pj es ts a).len];exact hi)⟩
  refine⟨_,vI (nO h) hm,?_⟩
  show kn es ts ((a:Int)+1) e<=_
  lia
def Goes (es:ao Int)(row:ao Int)(k:Nat):Prop:=∀ i,i<es.length->∃ j,min (i+k) (es.length - 1)<=j/\j<es.length/\row[i]?=es[j]?
def wA {es:ao Int}(hu:es.Pairwise (·<·)){i j:Nat}{a b:Int}(hi:es[i]?=some a)(hj:es[j]?=some b)(h:a<=b):i<=j:=by
 by_cases q:i<=j
 .exact q
 .have:=lB hu hj hi (by lia);lia
def Lx {n:Int}{cs:ao Int}{ts:ao Tk}(S:iC n cs ts)(hb:jG (fH n cs) ts=none){a:Nat}(ha:∀ t∈ts,t.2<=(a:Int)):Goes (fH n cs) (gO (fH n cs) ts a) 1:=λi hi=>by
 have hu:=iD S.n1 S.jD
 obtain⟨e,he⟩:∃ e,(fH n cs)[i]?=some e:=⟨_,jk hi⟩
 obtain⟨x,hx,Zq⟩:=JW (ts:=ts) (a:=a) he
 have xm:=(pj (fH n cs) ts a).mem x (mw hx)
 obtain⟨j,hj,ej⟩:=aX xm
 have ej':(fH n cs)[j]?=some x:=by rw[jk hj,ej]
 refine⟨j,?_,hj,hx.trans ej'.symm⟩
 by_cases q:i+1<(fH n cs).length
 .obtain⟨v,hv⟩:∃ v,(fH n cs)[i+1]?=some v:=⟨_,jk q⟩
  obtain⟨t,ht,hf⟩:=KR S hb he hv
  have:=sU (es:=fH n cs) (e:=e) ht (ha t ht)
  have:=wA hu hv ej' (by lia)
  lia
 .have:=qF (fH n cs) ts a e
  have:=wA hu he ej' (by lia)
  lia
def SS {es:ao Int}(hu:es.Pairwise (·<·)){i:Nat}{e:Int}(h:es[i]?=some e):es.idxOf e=i:=by
 have hm:=mw h
 have g:=qJ hm
 have h1:=wA hu g h (bU _)
 have h2:=wA hu h g (bU _)
 lia
def Lw {i j j' q k L:Nat}(h1:min (i+k) L<=j)(g1:min (j+k) L<=j')(h:j'<=q):min (i+(k+k)) L<=q:=by lia
def Iu {es:ao Int}{ts:ao Tk}{a k:Nat}(hu:es.Pairwise (·<·))(h:Goes es (gO es ts a) k):Goes es (gO es ts (a+1)) (k+k):=λi hi=>by
 obtain⟨j,h1,h2,h3⟩:=h i hi
 obtain⟨j',g1,g2,g3⟩:=h j h2
 obtain⟨e,he⟩:∃ e,es[i]?=some e:=⟨_,jk hi⟩
 obtain⟨m,hm⟩:∃ m,es[j]?=some m:=⟨_,jk h2⟩
 obtain⟨m',Td⟩:∃ m',es[j']?=some m':=⟨_,jk g2⟩
 have nx:=vI (es:=es) (ts:=ts) (bf:=gO es ts a) (a:=(a:Int)+1) (nO he) (h3.trans hm)
 have ra:rowAt es (gO es ts a) m=m':=by
  unfold rowAt
  rw[SS hu hm,g3,Td];rfl
 rw[ra]at nx
 have xm:=(pj es ts (a+1)).mem _ (mw nx)
 obtain⟨q,hq,eq⟩:=aX xm
 have eq':es[q]?=some (max (kn es ts ((a:Int)+1) e) m'):=by rw[jk hq,eq]
 refine⟨q,?_,hq,nx.trans eq'.symm⟩
 exact Lw h1 g1 (wA hu Td eq' (by lia))
def CG {n:Int}{cs:ao Int}{ts:ao Tk}(S:iC n cs ts)(hb:jG (fH n cs) ts=none){a:Nat}(ha:∀ t∈ts,t.2<=(a:Int)):∀ j:Nat,Goes (fH n cs) (gO (fH n cs) ts (a+j)) (2 ^ j)
 |0=>Lx S hb ha
 | j+1=>by
  have:=Iu (iD S.n1 S.jD) (CG S hb ha j)
  rw[show 2 ^ (j+1)=2 ^ j+2 ^ j by rw[Nat.pow_succ];lia]
  exact this
def zg (n:Int)(cs:ao Int):(fH n cs)[(fH n cs).length - 1]?=some n:=by
 rw[gy]
 unfold fH
 rw[show cs.length+2 - 1=(0::cs).length by simp]
 simp
structure iH (es:List Int)(ts:List Tk)(n:Int)(a:Nat):Prop where
 at_:(gO es ts a)[0]?=some n
 low:∀ b,b<a->(gO es ts b)[0]?≠some n
def iH.uniq {es:ao Int}{ts:ao Tk}{n:Int}{a b:Nat}(h:iH es ts n a)(g:iH es ts n b):a=b:=by
 rcases dH a b with q|q|q
 .exact absurd h.at_ (g.low a q)
 .exact q
 .exact absurd g.at_ (h.low b q)
def K7 {es:ao Int}{ts:ao Tk}{n:Int}:∀ {m:Nat},(gO es ts m)[0]?=some n->∃ a,a<=m/\iH es ts n a:=by
 intro m
 induction m using Nat.strongRecOn with
 | ind m ih =>
  intro h
  by_cases q:∃ b,b<m/\(gO es ts b)[0]?=some n
  .obtain⟨b,hb,e⟩:=q
   obtain⟨a,h1,h2⟩:=ih b hb e
   exact⟨a,by lia,h2⟩
  .exact⟨m,ar _,h,λb hb e=>q ⟨b,hb,e⟩⟩
def xi {n:Int}{cs:ao Int}{ts:ao Tk}(S:iC n cs ts)(hl:cs.length<=60)(hb:jG (fH n cs) ts=none){a:Nat}(ha:∀ t∈ts,t.2<=(a:Int)):∃ x,x<=a+6/\iH (fH n cs) ts n x:=by
 refine K7 ?_
 obtain⟨j,h1,h2,h3⟩:=CG S hb ha 6 0 (by rw[gy];lia)
 rw[h3]
 have:j=(fH n cs).length - 1:=by rw[gy]at *;lia
 rw[this]
 exact zg n cs
def Ek {n:Int}{cs:ao Int}{ts:ao Tk}(S:iC n cs ts)(hl:cs.length<=60)(hb:jG (fH n cs) ts=none):∃ x,x<=66/\iH (fH n cs) ts n x:=xi S hl hb (a:=60) λt ht=>(S.takes.ok t ht).2.2.2
def Cw {n:Int}{cs:ao Int}{ts:ao Tk}(S:iC n cs ts){a:Nat}(h:iH (fH n cs) ts n a):kX ts<=a:=by
 by_cases q:kX ts<=a
 .exact q
 .have:=h.at_
  rw[uu λt ht=>by have:=BK t ht;lia]at this
  have h0:(fH n cs)[0]?=some 0:=rfl
  rw[h0]at this
  have:=aM this
  have:=S.n1
  lia
def IM {n:Int}{cs:ao Int}{ts:ao Tk}(S:iC n cs ts)(hb:jG (fH n cs) ts=none):ts≠[]:=λe=>by
 obtain⟨u,hu⟩:∃ u,(fH n cs)[0]?=some u:=⟨_,jk (by rw[gy];lia)⟩
 obtain⟨v,hv⟩:∃ v,(fH n cs)[0+1]?=some v:=⟨_,jk (by rw[gy];lia)⟩
 obtain⟨t,ht,_⟩:=KR S hb hu hv
 rw[e]at ht;cases ht
def rW (es:ao Int)(ts:ao Tk)(n:Int)(μ:MS)(K:DK):Prop:=match jG es ts with
 |some _=>K .iq μ
 |none=>∀ a:Nat,a<=66->iH es ts n a->K (.int a) μ
def AK:j5:=λds μ K=>match ds with
 |[.int n,x,y]=>∃(cs:ao Int) (ts:ao Tk),lv μ x=some (cs.map D.int)/\lv μ y=some (ts.map mM)/\iC n cs ts/\cs.length<=60/\rW (fH n cs) ts n μ K
 |_=>False
def vW:j5:=λds μ K=>match ds with
 |[.lst b,y]=>∃(n:Int) (cs:ao Int) (ts:ao Tk),b=(fH n cs).map D.int/\lv μ y=some (ts.map mM)/\iC n cs ts/\cs.length<=60/\rW (fH n cs) ts n μ K
 |_=>False
def nLf {ds:ao D}{μ:MS}{K:DK}(h:K (.lst ds) μ):nL false ds μ K:=h
def LH {es:ao Int}{l:ao Nat}{e e':Int}(ho:OX l)(h0:0<=e)(hee:e<=e')(UM:e'<=l.length)(hm:e∈es):jE es l e<=jE es l e':=by
 have c1:=uK ho (e:=e.toNat) (by lia)
 have c2:=uK ho (e:=e'.toNat) (by lia)
 have ge':=GD es l e'
 have fm:=xB (es:=es) (l:=l) hm
 obtain⟨t,ht,_,hft,_⟩:=GC (es:=es) ho h0 (by lia) hm
 have et:=ht.uniq c1
 subst et
 by_cases q:jE es l e<=e'
 .lia
 .have hc:sh l e.toNat<=sh l e'.toNat:=by
   by_cases z:sh l e.toNat<=sh l e'.toNat
   .exact z
   .rcases c2.2.2.2 with y | y
    .have:=c1.2.1;lia
    .have:=c1.2.2.1 (sh l e'.toNat) (by have:=c2.1;lia) (by lia)
     rw[y]at this;cases this
  exact(nU _ e').2 _ (List.mem_filter.mpr ⟨fm,aI (by lia)⟩)
def KA {n:Int}{es:ao Int}{ts:ao Tk}{a e e':Int}(T:ud n ts)(h0:0<=e)(hee:e<=e')(UM:e'<=n)(hm:e∈es):kn es ts a e<=kn es ts a e':=by
 have ge:=qF es ts a e'
 rw[lG es ts a e]
 rcases lJ ((ts.filter λt=>decide (t.2<=a)).map λt=>jE es t.1 e) e with q|q
 .rw[q];lia
 .obtain⟨t,ht,e1⟩:=List.mem_map.mp q
  obtain⟨ht1,ht2⟩:=List.mem_filter.mp ht
  rw[<- e1]
  have ok:=T.ok t ht1
  have:=LH ok.2.1 h0 hee (by lia) hm
  have:=sU (es:=es) (e:=e') ht1 (cn ht2)
  lia
def Q7 (row:ao Int):Prop:=∀(i j:Nat) (a b:Int),i<=j->row[i]?=some a->row[j]?=some b->a<=b
def yF {es:ao Int}(hu:es.Pairwise (·<·)):Q7 es:=λi j a b h hi hj=>by
 rcases Nat.lt_or_ge i j with q|q
 .exact df (lB hu hi hj q)
 .have:i=j:=by lia
  subst this
  rw[hi]at hj;cases hj;exact bU _
def HH {n:Int}{cs:ao Int}{ts:ao Tk}{a:Int}(S:iC n cs ts):Q7 (jj (fH n cs) ts a):=λi j x y h hi hj=>by
 unfold jj at hi hj
 rw[oU]at hi hj
 cases e1:(fH n cs)[i]? with
 |none=>rw[e1]at hi;cases hi
 | some u =>
  cases e2:(fH n cs)[j]? with
  |none=>rw[e2]at hj;cases hj
  | some v =>
   rw[e1]at hi;rw[e2]at hj
   cases hi;cases hj
   have hu:=jw S.n1 S.jD (mw e1)
   have hv:=jw S.n1 S.jD (mw e2)
   exact KA S.takes hu.1 (yF (iD S.n1 S.jD) i j u v h e1 e2) hv.2 (mw e1)
def Pp (es:ao Int)(x:Int):((es.map D.int).any λd=>lQ d (.int x))=decide (x∈es):=by
 induction es with
 |nil=>rfl
 | cons e es ih =>
  rw[aw,dh,ih]
  have:lQ (.int e) (.int x)=decide (e=x):=by unfold lQ;rfl
  rw[this]
  by_cases h:e=x
  .simp[h]
  .have:¬ x=e:=λz=>h z.symm
   simp[h,this]
def LD (es:ao Int):(es.map D.int).all px=true:=by
 rw[List.all_map,cY];intro x _;rfl
def fFars:j5:=λds μ K=>match ds with
 |[.lst b,y]=>∃(n:Int) (cs:ao Int) (ts:ao Tk),b=(fH n cs).map D.int/\lv μ y=some (ts.map mM)/\iC n cs ts/\K (.lst (ts.map (mE (fH n cs)))) μ
 |_=>False
def Ga (t:Tk):Tk:=(t.1,t.2%9)
def GH:j5:=λds μ K=>match ds with
 |[y]=>∃ ts:ao Tk,lv μ y=some (ts.map mM)/\ts.length<=1000/\K (.lst ((ts.map Ga).map mM)) μ
 |_=>False
def Od {n:Int}{ts:ao Tk}(h:ud n ts):ud n (ts.map Ga):=⟨by rw[iu];exact h.mZ,λt ht=>by
 obtain⟨u,hu,rfl⟩:=List.mem_map.mp ht
 have:=h.ok u hu
 exact⟨this.1,this.2.1,dt _ (by decide),by show u.2%9<=60;lia⟩⟩
def Po {α:Type}{xs:ao α}{x:α}(h:xs[xs.length - 1]?=some x):lO xs (-1)=some x:=by
 have hl:=(kM h).1
 have e:xs=xs.dropLast++[x]:=by
  have Jc:xs≠[]:=λe=>by rw[e]at hl;simp at hl
  have:=List.dropLast_concat_getLast Jc
  rw[List.getLast_eq_getElem]at this
  rw[jk hl]at h
  rw[aM h]at this
  exact this.symm
 rw[e]
 exact Dn _ _
def m5 {α:Type}{it:D->MS->(aq D->MS->Prop)->Prop}{c:MS->Prop}{μ:MS}(hc:c μ)(g:α->D)(f:α->aq D):∀ {xs:ao α} {K:ao D->MS->Prop},(∀ x∈xs,∀(K':aq D->MS->Prop),K' (f x) μ->it (g x) μ K')->K (xs.filterMap f) μ->rE it c (xs.map g) μ K
 |[],K,_,k=>⟨hc,k⟩
 | x::xs,K,h,k=>⟨hc,h x aF _ (m5 hc g f (λy hy=>h y (nF _ hy)) (by
  cases e:f x with
  |none=>rw[List.filterMap_cons_none e]at k;exact k
  |some y=>rw[List.filterMap_cons_some e]at k;exact k))⟩
def kA {α:Type}{it:D->MS->(aq D->MS->Prop)->Prop}{c:MS->Prop}{μ:MS}(hc:c μ)(g f:α->D){xs:ao α}{K:ao D->MS->Prop}(h:∀ x∈xs,∀(K':aq D->MS->Prop),K' (some (f x)) μ->it (g x) μ K')(k:K (xs.map f) μ):rE it c (xs.map g) μ K:=by
 refine m5 hc g (λx=>some (f x)) h ?_
 rw[List.filterMap_eq_map']
 exact k
def oP {α:Type}{g:α->D}{xs:ao α}{k:Nat}{x:α}(h:xs[k]?=some x):lO (xs.map g) (k:Int)=some (g x):=j0 h
def jT.le {j k:Nat}{A:Around}(r:jT k A)(h:j<=k:=by first|decide|exact ar _|lia):jT j A:=r.mono h
def lo {sc:Scope}{x:Str}(h:Loc sc x:=by first|exact Or.inl rfl|exact Or.inr rfl):Loc sc x:=h
section
variable {X:Cx}
def J5:ao V->Hp->VK->Prop:=λvs H Q=>match vs with
 |[.ref p]=>∃ ns:ao Int,H p=some (.lst (ns.map V.int))/\ns≠[]/\∀ m,m∈ns->(∀ x∈ns,m<=x)->Q (.int m) H
 |_=>False
def VO (hc:X.gY=true):jB X (.builtin "min") J5:=by
 intro fI s σ H vs us Q I rv h
 unfold J5 at h
 split at h
 .rename_i p
  obtain⟨ns,hp,Jc,q⟩:=h
  obtain⟨u,rfl,ru⟩:=rv.one
  cases ru
  obtain⟨z,gp,n,r,hl,e⟩:=I.mH hp
  have y7:s.heap.IsList p gp.toArray:=⟨_,e,rfl,n,rfl⟩
  have lt:p≠s.heap.objs.size:=aD (jf e)
  have len:gp.toArray.size=ns.length:=by rw[aE,<- hl,iu]
  have pos:0<ns.length:=List.length_pos_iff.mpr Jc
  have val:∀ i v,gp.toArray[i]?=some v->∃ t,i<ns.length/\v=.int (ns.getD i 0) t:=λi v hv=>by
   have CF:gp[i]?=some v:=by simpa using hv
   cases eb:(ns.map V.int)[i]? with
   |none=>have:=r.none_of eb;rw[CF]at this;cases this
   | some y =>
    obtain⟨u,hu,ry⟩:=r.get eb
    rw[CF]at hu;cases hu
    rw[oU]at eb
    cases e2:ns[i]? with
    |none=>rw[e2]at eb;cases eb
    | some b =>
     rw[e2]at eb;cases eb
     obtain⟨t,rfl⟩:=ry
     exact⟨t,(kM e2).1,by rw[aA,e2];rfl⟩
  refine call_min_walk (c9 y7 ⟨_,_,_,_,_,_,λi j=>decide (ns.getD i 0<ns.getD j 0),rfl,Walks.list (A:=X.A.in1) (I.ok.hd hc) s.heap.objs.size p lt gp.toArray,⟨⟨_,aG _ rfl,rfl,rfl⟩,y7.push _⟩,?_,by rw[len];exact pos,?_,λv h' tk hv kp=>?_⟩)
  .intro b hb
   simp only[aP,aH,bS]at hb
   show b<(s.heap.push _).objs.size
   rw[bj]
   rcases hb with rfl|rfl
   .exact bL _
   .exact bc (jf e)
  .intro i j vi vj s' Q' E' hi hj hq
   obtain⟨t,_,rfl⟩:=val i vi hi
   obtain⟨t',_,rfl⟩:=val j vj hj
   exact lt_int hq
  .have I2:Inv X fI σ H { s with heap:=h',toks:=tk}:=I.jz λb o e'=>kp b o (by simpa using aD (jf e')) (j8 _ e')
   rw[len]at hv
   obtain⟨t,mP,rfl⟩:=val _ v hv
   obtain⟨b1,b2⟩:=wy ns (ns.length - 1) (by lia)
   refine⟨.int _,H,I2,⟨t,rfl⟩,q _ ?_ λx hx=>?_⟩
   .rw[aA,jk mP];exact bI _
   .obtain⟨j,hj,ej⟩:=aX hx
    have:=b2 j (by lia)
    rw[aA (i:=j),jk hj,ej]at this
    exact this
 .cases h
end
def QQ:j5:=λds μ K=>match ds with
 |[x]=>∃ ns:ao Int,lv μ x=some (ns.map D.int)/\ns≠[]/\∀ m,m∈ns->(∀ y∈ns,m<=y)->K (.int m) μ
 |_=>False
def Fu:mR J5 QQ:=λφ H vs ds μ K Q M h k L=>by
 unfold QQ at k
 split at k
 .obtain⟨v,r,rfl,h1,h2⟩:=h;cases(show r=[]from h2)
  obtain⟨ns,el,hn,k⟩:=k
  obtain⟨p,vs,rfl,hp,ha⟩:=jY M h1 el
  exact⟨ns,by rw[hp,ha.ints],hn,λm a b=>L.val M (k m a b) rfl⟩
 .exact k.elim
def iZ (L:Nat)(f:Nat->Int):ao D:=(List.range L).map λj=>D.int (f j)
def jW (L:Nat)(T:Nat->Nat->Int):ao D:=(List.range L).map λi=>D.lst (iZ L (T i))
def xc:ao Int->Int
 |[]=>0
 |x::r=>r.foldl min x
def K0 {ns:ao Int}{m:Int}(h1:m∈ns)(h2:∀ y∈ns,m<=y):m=xc ns:=by
 cases ns with
 |nil=>cases h1
 | cons x r =>
  obtain⟨a,b,c⟩:=kR r x
  show m=r.foldl min x
  have g1:r.foldl min x<=m:=by
   rcases List.mem_cons.mp h1 with q|q
   .rw[q];exact b
   .exact c m q
  have g2:m<=r.foldl min x:=by
   rcases a with q|q
   .rw[q];exact h2 x aF
   .exact h2 _ (nF _ q)
  lia
def qG {ns:ao Int}(h:ns≠[]):xc ns∈ns/\∀ y∈ns,xc ns<=y:=by
 cases ns with
 |nil=>exact absurd rfl h
 | cons x r =>
  obtain⟨a,b,c⟩:=kR r x
  refine⟨?_,λy hy=>?_⟩
  .rcases a with q | q
   .show r.foldl min x∈_;rw[q];exact aF
   .exact nF _ q
  .rcases List.mem_cons.mp hy with q | q
   .rw[q];exact b
   .exact c y q
def kE (T:Nat->Nat->Int)(i j:Nat):ao Int:=(List.range (j - (i+1))).filterMap λx=>if 0<T i (i+1+x)*T (i+1+x) j then some (T i (i+1+x)+T (i+1+x) j)else none
def kO {T:Nat->Nat->Int}{i j:Nat}{v:Int}:v∈kE T i j↔∃ k,i<k/\k<j/\0<T i k*T k j/\v=T i k+T k j:=by
 unfold kE
 rw[List.mem_filterMap]
 constructor
 .rintro⟨x,hx,e⟩
  rw[cg]at hx
  split at e
  .cases e;exact⟨i+1+x,by lia,by lia,by assumption,rfl⟩
  .cases e
 .rintro⟨k,h1,h2,h3,rfl⟩
  refine⟨k - (i+1),List.mem_range.mpr (by lia),?_⟩
  rw[show i+1+(k - (i+1))=k by lia,aB h3]
def j9 (es own:ao Int)(T:Nat->Nat->Int)(i j:Nat):Int:=if j<=i then 0 else if es.getD j 0<=own.getD i 0 then 1 else xc (kE T i j)
def lE (es:ao Int)(ts:ao Tk):Nat->Nat->Nat->Int
 |0=>λ_ _=>0
 |a+1=>j9 es (jj es ts a) (lE es ts a)
def Nq {es own:ao Int}{T:Nat->Nat->Int}(h:∀ i j,0<=T i j/\T i j<=((j - i:Nat):Int))(i j:Nat):0<=j9 es own T i j/\j9 es own T i j<=((j - i:Nat):Int):=by
 unfold j9
 split
 .lia
 .split
  .lia
  .by_cases hn:kE T i j=[]
   .rw[hn];show(0:Int)<=0/\(0:Int)<=_;lia
   .obtain⟨k,h1,h2,h3,e⟩:=kO.mp (qG hn).1
    rw[e]
    have a:=h i k
    have b:=h k j
    lia
def wC (es:ao Int)(ts:ao Tk):∀ a i j,0<=lE es ts a i j/\lE es ts a i j<=((j - i:Nat):Int)
 |0,i,j=>by show(0:Int)<=0/\(0:Int)<=_;lia
 |a+1,i,j=>Nq (wC es ts a) i j
def tR:j5:=λds μ K=>match ds with
 |[.lst b,.lst o,.lst l]=>∃(es own:ao Int) (T:Nat->Nat->Int),b=es.map D.int/\o=own.map D.int/\own.length=es.length/\es≠[]/\es.length<=2000/\((l=[]/\T=λ_ _=>0)\/l=jW es.length T)/\(∀ i j,0<=T i j/\T i j<=((j - i:Nat):Int))/\K (.lst (jW es.length (j9 es own T))) μ
 |_=>False
def GJ:j5:=λds μ K=>match ds with
 |[.lst b,y,.int a]=>∃(n:Int) (cs:ao Int) (ts:ao Tk),b=(fH n cs).map D.int/\lv μ y=some (ts.map mM)/\iC n cs ts/\0<=a/\a<=1000/\K (.int (lE (fH n cs) ts (a.toNat+1) 0 (cs.length+1))) μ
 |_=>False
def jX (S:Nat->Nat->Int)(i j:Nat)(a b:Nat):Int:=if a<i\/(a=i/\b<j)then S a b else 0
def lj (L:Nat)(T:Nat->Nat->Int)(g:MS):Prop:=g.length=L/\∀ a,a<L->g[a]?=some (.lst (iZ L (T a)))
def kJ {L:Nat}{f:Nat->Int}{j:Nat}(h:j<L):(iZ L f)[j]?=some (.int (f j)):=by unfold iZ;rw[oU,bB h];rfl
def ng (L:Nat)(f:Nat->Int):(iZ L f).length=L:=by unfold iZ;rw[iu,u7]
def mD {L:Nat}{T:Nat->Nat->Int}{j:Nat}(h:j<L):(jW L T)[j]?=some (.lst (iZ L (T j))):=by unfold jW;rw[oU,bB h];rfl
def lD (L:Nat)(f:Nat->Nat->Int):(jW L f).length=L:=by unfold jW;rw[iu,u7]
def JY {L:Nat}{f:Nat->Int}{j:Nat}{v:Int}(h:j<L):(iZ L f).set j (.int v)=iZ L (λb=>if b=j then v else f b):=by
 apply cC
 intro b
 by_cases hb:b<L
 .rw[kJ hb]
  by_cases e:b=j
  .subst e;rw[aN (by rw[ng];exact h),aB rfl]
  .rw[aQ (bo e),kJ hb,aC e]
 .rw[List.getElem?_eq_none_iff.mpr (by rw[bW,ng];lia),List.getElem?_eq_none_iff.mpr (by rw[ng];lia)]
def oC {L:Nat}{f g:Nat->Int}(h:∀ j,j<L->f j=g j):iZ L f=iZ L g:=by
 unfold iZ
 exact bN λj hj=>by rw[h j (List.mem_range.mp hj)]
def lj.ext {L:Nat}{T T':Nat->Nat->Int}{g:MS}(h:lj L T g)(e:∀ i j,i<L->j<L->T i j=T' i j):lj L T' g:=⟨h.1,λa ha=>by rw[h.2 a ha,oC (λj hj=>e a j ha hj)]⟩
def lj.put {L:Nat}{T:Nat->Nat->Int}{g:MS}(h:lj L T g){i j:Nat}(hi:i<L)(hj:j<L)(v:Int):lj L (λa b=>if a=i/\b=j then v else T a b) (g.set i (.lst ((iZ L (T i)).set j (.int v)))):=by
 refine⟨by rw[bW];exact h.1,λa ha=>?_⟩
 by_cases e:a=i
 .subst e
  rw[aN (by rw[h.1];exact hi),JY hj]
  congr 2
  apply oC
  intro b _
  simp
 .rw[aQ (bo e),h.2 a ha]
  congr 2
  apply oC
  intro b _
  simp[e]
def zW {μ g:MS}{i:Nat}{m:MO}:(μ++g).set (μ.length+i) m=μ++g.set i m:=by
 rw[dD _ _ (by lia),Nat.add_sub_cancel_left]
def K4 {μ g:MS}{i:Nat}{ds:ao D}(h:g[i]?=some (.lst ds)):yY (μ++g) (μ.length+i)=some ds:=Av (by rw[pX (by lia),Nat.add_sub_cancel_left];exact h)
def xb {n:Nat}:∀ {ds:ao D},(∀ d∈ds,Ge n d)->uh n ds
 |[],_=>by unfold uh;trivial
 |d::ds,h=>by unfold uh;exact⟨h d aF,xb λx hx=>h x (nF _ hx)⟩
def Gd {n:Nat}(L:Nat)(f:Nat->Int):Ge n (.lst (iZ L f)):=xb λd hd=>by obtain⟨i,_,rfl⟩:=List.mem_map.mp hd;exact trivial
def Og {n:Nat}(L:Nat)(f:Nat->Nat->Int):Ge n (.lst (jW L f)):=xb λd hd=>by obtain⟨i,_,rfl⟩:=List.mem_map.mp hd;exact Gd L _
def Nx {n:Nat}(L:Nat)(f:Nat->Int)(h:L<=100000):nA (n+1) (.lst (iZ L f)):=wL (by rw[ng];exact h) λd hd=>by obtain⟨i,_,rfl⟩:=List.mem_map.mp hd;exact ur
def Fx {n:Nat}(L:Nat)(f:Nat->Nat->Int)(h:L<=100000):nA (n+2) (.lst (jW L f)):=wL (by rw[lD];exact h) λd hd=>by obtain⟨i,_,rfl⟩:=List.mem_map.mp hd;exact Nx L _ h
def ug.self {R:D->D->Prop}{ds:ao D}(h:∀ d∈ds,R d d):ug R ds ds:=⟨rfl,λi a b e1 e2=>by rw[e1]at e2;cases e2;exact h a (mw e1)⟩
def ON {n L:Nat}{T:Nat->Nat->Int}{μ g:MS}(hn:n=μ.length)(h:lj L T g):Bj n (μ++g) 2 (.lst ((List.range L).map λi=>.mr (n+i))) (.lst (jW L T)):=by
 refine .inr (.inr (.inl ⟨_,_,rfl,rfl,by rw[iu,u7,lD],λi a b e1 e2=>?_⟩))
 have hi:i<L:=by have:=(kM e2).1;rwa [lD]at this
 rw[mD hi]at e2
 rw[oU,bB hi]at e1
 cases e1;cases e2
 refine .inr (.inl ⟨n+i,_,_,rfl,by lia,by rw[hn];exact mh (K4 (h.2 i hi)),rfl,ug.self λd hd=>?_⟩)
 obtain⟨j,_,rfl⟩:=List.mem_map.mp hd
 exact⟨rfl,trivial⟩
inductive jV where
 |num (n:Int)
 |lC (p:Int) (l r:jV)
def rp:jV->D
 |.num n=>.int n
 |.lC p l r=>.tup [.int p,rp l,rp r]
def jV.pre:jV->ao jV
 |.num n=>[.num n]
 |.lC p l r=>.lC p l r::(l.pre++r.pre)
def jV.cnt:jV->Nat
 |.num _=>1
 |.lC _ l r=>l.cnt+r.cnt
def jV.dep:jV->Nat
 |.num _=>0
 |.lC _ l r=>max l.dep r.dep+1
def jV.ok (cs:ao Int)(m:Nat):jV->Prop
 |.num n=>0<=n/\n<m
 |.lC p l r=>p∈cs/\l.ok cs m/\r.ok cs m
def jV.A1:∀ t:jV,0<t.cnt
 |.num _=>by show 0<1;decide
 |.lC _ l r=>by have:=l.A1;show 0<l.cnt+r.cnt;lia
def qj (a b:Tk)(p:Int):Tk:=(a.1.take p.toNat++b.1.drop p.toNat,max a.2 b.2+1)
def jV.val (ts:ao Tk):jV->Tk
 |.num n=>(ts[n.toNat]?).getD ([],0)
 |.lC p l r=>qj (l.val ts) (r.val ts) p
def Be (n:Int)(t:Tk):Prop:=(t.1.length:Int)=n/\0<=t.2
def OA {n:Int}{a b:Tk}{p:Int}(ha:Be n a)(hb:Be n b):Be n (qj a b p):=by
 refine⟨?_,?_⟩
 .show((a.1.take p.toNat++b.1.drop p.toNat).length:Int)=n
  rw[oq,bH,bA]
  have:=ha.1
  have:=hb.1
  lia
 .show 0<=max a.2 b.2+1
  have:=ha.2
  lia
def jV.oW {n:Int}{ts:ao Tk}{cs:ao Int}(ht:∀ t∈ts,Be n t):∀ {t:jV},t.ok cs ts.length->Be n (t.val ts)
 | .num k,h=>by
  obtain⟨x,hx⟩:∃ x,ts[k.toNat]?=some x:=⟨_,jk (by have:=h.1;have:=h.2;lia)⟩
  show Be n ((ts[k.toNat]?).getD ([],0))
  rw[hx]
  exact ht x (mw hx)
 |.lC p l r,h=>OA (oW ht h.2.1) (oW ht h.2.2)
def Qz:jV->Bool
 |.lC _ _ _=>true
 |.num _=>false
def X4:j5:=λds μ K=>match ds with
 |[.tup [.str z,.int a],.tup [.str y,.int b],.int p]=>∃ x u:Tk,z=txt x.1/\a=x.2/\y=txt u.1/\b=u.2/\0<=p/\x.1.length<=1000/\u.1.length<=1000/\K (mM (qj x u p)) μ
 |_=>False
def fUnf:j5:=λds μ K=>match ds with
 |[d]=>∃ t:jV,d=rp t/\t.cnt<=1000/\K (.lst (t.pre.map rp)) μ
 |_=>False
def qO (n:Nat):j5:=λds μ K=>match ds with
 |[d]=>∃ t:jV,d=rp t/\t.dep<=n/\K (.int t.cnt) μ
 |_=>False
def Ec {n:Nat}:∀ t:jV,Ge n (rp t)
 |.num _=>trivial
 |.lC p l r=>⟨trivial,Ec l,Ec r,trivial⟩
def OQ (f:Nat->j5):Nat->j5
 |0=>λ_ _ _=>False
 |n+1=>f n
def NB {μ:MS}{x y m:MO}:(μ++[x,y]).set μ.length m=μ++[m,y]:=by
 have:=zW (μ:=μ) (g:=[x,y]) (i:=0) (m:=m)
 rwa [Nat.add_zero]at this
def BP (t:jV)(μ:MS):Xy (rp t) μ=some (if Qz t then "tuple" else "int"):=by cases t<;>rfl
def jV.zE {ts:ao Tk}{n:Int}{x:Tk}(h:ts[n.toNat]?=some x):(jV.num n).val ts=x:=by show(ts[n.toNat]?).getD ([],0)=x;rw[h];rfl
abbrev qx (h:Heap)(z TI TO:ai)(f:ak)(bb:Bool):Prop:=h.get? z=some { cls:=.type "zip",dict:=none,data:=.fields #[f,.bool bb,.bool false,.ref TI,.ref TO],slots:=#[]}
structure ZG (z TI TO i1 i2 l1 l2:ai)(f:ak)(bb:Bool)(a b:ak)(k1 k2:Nat)(xs ys:Array ak)(h:Heap):Prop where
 z:qx h z TI TO f bb
 ti:IsPair h TI (.ref i1) (.ref i2)
 to:IsPair h TO a b
 n1:k9 false h i1 l1 k1
 n2:k9 false h i2 l2 k2
 q1:lq false h l1 xs
 q2:lq false h l2 ys
section
variable {z TI TO i1 i2 l1 l2:ai}{f f' a b x y:ak}{bb bb':Bool}{k1 k2:Nat}{xs ys:Array ak}{h h':Heap}
def ZG.mz (S:ZG z TI TO i1 i2 l1 l2 f bb a b k1 k2 xs ys h)(D:ZipApart z TI TO i1 i2 l1 l2)(e:qx h' z TI TO f' bb')(k:Heap.ExtBut z h h'):ZG z TI TO i1 i2 l1 l2 f' bb' a b k1 k2 xs ys h' :=
 ⟨e,k _ _ D.TIz S.ti,k _ _ D.TOz S.to,S.n1.extBut k D.i1z,S.n2.extBut k D.i2z,S.q1.extBut k D.l1z,S.q2.extBut k D.l2z⟩
def ZG.m1 {j:Nat}(S:ZG z TI TO i1 i2 l1 l2 f bb a b k1 k2 xs ys h)(D:ZipApart z TI TO i1 i2 l1 l2)(e:k9 false h' i1 l1 j)(k:Heap.ExtBut i1 h h'):ZG z TI TO i1 i2 l1 l2 f bb a b j k2 xs ys h' :=
 ⟨k _ _ D.i1z.symm S.z,k _ _ D.TIi1 S.ti,k _ _ D.TOi1 S.to,e,S.n2.extBut k D.i12.symm,S.q1.extBut k D.l1i1,S.q2.extBut k D.l2i1⟩
def ZG.m2 {j:Nat}(S:ZG z TI TO i1 i2 l1 l2 f bb a b k1 k2 xs ys h)(D:ZipApart z TI TO i1 i2 l1 l2)(e:k9 false h' i2 l2 j)(k:Heap.ExtBut i2 h h'):ZG z TI TO i1 i2 l1 l2 f bb a b k1 j xs ys h' :=
 ⟨k _ _ D.i2z.symm S.z,k _ _ D.TIi2 S.ti,k _ _ D.TOi2 S.to,S.n1.extBut k D.i12,e,S.q1.extBut k D.l1i2,S.q2.extBut k D.l2i2⟩
def ZG.mo (S:ZG z TI TO i1 i2 l1 l2 f bb a b k1 k2 xs ys h)(D:ZipApart z TI TO i1 i2 l1 l2)(e:IsPair h' TO x y)(k:Heap.ExtBut TO h h'):ZG z TI TO i1 i2 l1 l2 f bb x y k1 k2 xs ys h' :=
 ⟨k _ _ D.TOz.symm S.z,k _ _ D.TITO S.ti,e,S.n1.extBut k D.TOi1.symm,S.n2.extBut k D.TOi2.symm,S.q1.extBut k D.l1TO,S.q2.extBut k D.l2TO⟩
def ZG.push (S:ZG z TI TO i1 i2 l1 l2 f bb a b k1 k2 xs ys h)(o:Obj):ZG z TI TO i1 i2 l1 l2 f bb a b k1 k2 xs ys (h.push o) :=
 ⟨j8 _ S.z,j8 _ S.ti,j8 _ S.to,S.n1.at λ_ e=>j8 _ e,S.n2.at λ_ e=>j8 _ e,
  S.q1.extBut (b:=h.objs.size) (λ_ _ _ e=>j8 _ e) (S.q1.lt),S.q2.extBut (b:=h.objs.size) (λ_ _ _ e=>j8 _ e) (S.q2.lt)⟩
end
section
variable {prog:ae}{w:af}{A:Around}{E:ak->ah->Prop}{s:ah}
variable {z TI TO i1 i2 l1 l2:ai}{k1 k2:Nat}{xs ys:Array ak}{x y a b f:ak}{bb:Bool}
def Gr {Q:Bool->ah->Prop}(hz:qx s.heap z TI TO f bb)(hf:f=.none\/∃ T0:ai,f=rawInt T0/\s.heap.get? T0=none)(q:Q true s):wpAny (model prog w) A (Builtin.SmallTypes.ownedTupleIsFree (.ref z)) Q E s:=by
 rcases hf with rfl|⟨T0,rfl,hd⟩
 .exact fY (aK hz rfl (x:=.none) rfl (au q))
 .refine fY (aK hz rfl (x:=rawInt T0) rfl ?_)
  show wpAny _ _ (loadIfAlive T0>>=_) _ _ s
  refine fY (nH ?_)
  rw[hd]
  exact au q
def Hb {Q:Bool->ah->Prop}{T0:ai}{o:Obj}(hz:qx s.heap z TI TO (rawInt T0) bb)(hd:s.heap.get? T0=some o)(q:∀ g,qx g z TI TO (rawInt T0) true->Heap.SameBut z s.heap g->Q false { s with heap:=g}):wpAny (model prog w) A (Builtin.SmallTypes.ownedTupleIsFree (.ref z)) Q E s:=by
 refine fY (aK hz rfl (x:=rawInt T0) rfl ?_)
 show wpAny _ _ (loadIfAlive T0>>=_) _ _ s
 refine fY (nH ?_)
 rw[hd]
 show wpAny _ _ (field (.ref z) 1>>=_) _ _ s
 refine fY (aK hz rfl (x:=.bool bb) rfl ?_)
 cases bb with
 |true=>exact au (q s.heap hz ⟨rfl,λ_ _=>rfl⟩)
 |false=>exact fY (aY hz (by simp) λg e t=>au (q g e t))
def Fe {Q:ak->ah->Prop}(D:ZipApart z TI TO i1 i2 l1 l2)(S:ZG z TI TO i1 i2 l1 l2 f bb a b k1 k2 xs ys s.heap)(hf:f=.none\/∃ T0:ai,f=rawInt T0/\s.heap.get? T0=none)(hx:xs[k1]?=some x)(hy:ys[k2]?=some y)
 (hQ:∀ h',ZG z TI TO i1 i2 l1 l2 (rawInt s.heap.objs.size) false x y (k1+1) (k2+1) xs ys h'->IsPair h' s.heap.objs.size x y->h'.objs.size=s.heap.objs.size+1->ZK z TO i1 i2 s.heap h'->Q (.ref s.heap.objs.size) {s with heap:=h'}):
 wpAny (model prog w) A (Builtin.«zip.__next__» ⟨[.ref z],[]⟩) (λfin s'=>∃ v,fin=.done (.ret v)/\Q v s') E s:=by
 refine fY (au (fY (aK S.z rfl (x:=.bool false) rfl (fY (aK S.z rfl (x:=.ref TI) rfl (fY (bg S.ti rfl ?_)))))))
 refine fY (m:=Builtin.SmallTypes.ownedTupleIsFree (.ref z)) (Gr S.z hf ?_)
 refine fY (dJ (fY (aK S.z rfl (x:=.ref TO) rfl (fY (aY S.z (by simp) λg1 e1 t1=>?_)))))
 have S1:=S.mz D (f':=.ellipsis) (bb':=bb) e1 t1.extBut
 refine fY ?_
 rw[show(#[Value.ref i1,Value.ref i2]:Array ak).toList.zipIdx=[(.ref i1,0),(.ref i2,1)]from rfl,bD]
 refine fY (fY (cM (fY (iW S1.n1 S1.q1 hx λg2 e2 t2=>au ?_))))
 have S2:=S1.m1 D e2 t2.extBut
 refine fY (bg S2.to rfl (fY (cP S2.to λg3 e3 t3=>fY (cQ (au ?_)))))
 have S3:=S2.mo D (x:=x) (y:=b) e3 t3.extBut
 dsimp only
 rw[bD]
 refine fY (fY (cM (fY (iW S3.n2 S3.q2 hy λg4 e4 t4=>au ?_))))
 have S4:=S3.m2 D e4 t4.extBut
 refine fY (bg S4.to rfl (fY (cP S4.to λg5 e5 t5=>fY (cQ (au ?_)))))
 have S5:=S4.mo D (x:=x) (y:=y) e5 t5.extBut
 dsimp only
 rw[dP]
 have sz:g5.objs.size=s.heap.objs.size:=t5.1.trans (t4.1.trans (t3.1.trans (t2.1.trans t1.1)))
 refine au (fY (bg S5.to rfl (fY (e9 ?_))))
 have S6:=S5.push { cls:=.type "tuple",data:=.seq #[x,y]}
 refine fY (m:=Builtin.SmallTypes.ownedTupleHandOut (.ref z) (.ref g5.objs.size)) (fY (aY S6.z (by simp) λg7 e7 t7=>?_))
 have S7:=S6.mz D (f':=rawInt g5.objs.size) (bb':=bb) e7 t7.extBut
 refine aY S7.z (by simp) λg8 e8 t8=>?_
 have S8:=S7.mz D (f':=rawInt g5.objs.size) (bb':=false) e8 t8.extBut
 have Ra:g5.objs.size≠z:=bp (jf S5.z)
 have hT:IsPair g8 g5.objs.size x y:=t8.extBut _ _ Ra (t7.extBut _ _ Ra (aG _ rfl))
 have z8:g8.objs.size=s.heap.objs.size+1:=by rw[t8.1,t7.1,bj,sz]
 have kk:ZK z TO i1 i2 s.heap g8:=((((((n8 t1.extBut).trans (vm t2.extBut)).trans (Hk t3.extBut)).trans (BF t4.extBut)).trans (Hk t5.extBut)).trans (λd o _ _ _ _ e=>j8 _ e)).trans ((n8 t7.extBut).trans (n8 t8.extBut))
 rw[sz]at S8 hT
 refine au ⟨_,rfl,?_⟩
 show Q (.ref g5.objs.size) _
 rw[sz]
 exact hQ g8 S8 hT z8 kk
def MY {Q:ak->ah->Prop}{T0:ai}{o:Obj}(D:ZipApart z TI TO i1 i2 l1 l2)(S:ZG z TI TO i1 i2 l1 l2 (rawInt T0) bb a b k1 k2 xs ys s.heap)(hd:s.heap.get? T0=some o)(hx:xs[k1]?=some x)(hy:ys[k2]?=some y)
 (hQ:∀ h',ZG z TI TO i1 i2 l1 l2 (rawInt T0) true a b (k1+1) (k2+1) xs ys h'->IsPair h' s.heap.objs.size x y->h'.objs.size=s.heap.objs.size+1->ZK z TO i1 i2 s.heap h'->Q (.ref s.heap.objs.size) {s with heap:=h'}):
 wpAny (model prog w) A (Builtin.«zip.__next__» ⟨[.ref z],[]⟩) (λfin s'=>∃ v,fin=.done (.ret v)/\Q v s') E s:=by
 refine fY (au (fY (aK S.z rfl (x:=.bool false) rfl (fY (aK S.z rfl (x:=.ref TI) rfl (fY (bg S.ti rfl ?_)))))))
 refine fY (m:=Builtin.SmallTypes.ownedTupleIsFree (.ref z)) (Hb S.z hd λg1 e1 t1=>?_)
 have S1:=S.mz D (bb':=true) e1 t1.extBut
 show wpAny _ _ (forIn (#[Value.ref i1,Value.ref i2]:Array ak) (none,#[]) _>>=_) _ _ _
 rw[<- eR]
 refine fY ?_
 rw[show(#[Value.ref i1,Value.ref i2]:Array ak).toList=[.ref i1,.ref i2]from rfl,bD]
 refine fY (fY (bR (fY (iW (s:={s with heap:=g1}) S1.n1 S1.q1 hx λg2 e2 t2=>au (au ?_)))))
 have S2:=S1.m1 D e2 t2.extBut
 dsimp only
 rw[bD]
 refine fY (fY (bR (fY (iW (s:={s with heap:=g2}) S2.n2 S2.q2 hy λg3 e3 t3=>au (au ?_)))))
 have S3:=S2.m2 D e3 t3.extBut
 dsimp only
 rw[dP]
 refine au (fY (e9 (au ⟨_,rfl,?_⟩) (by show 2<=sizeLine;decide)))
 have sz:g3.objs.size=s.heap.objs.size:=t3.1.trans (t2.1.trans t1.1)
 have S4:=S3.push { cls:=.type "tuple",data:=.seq #[x,y]}
 have hT:IsPair (g3.push { cls:=.type "tuple",data:=.seq #[x,y]}) g3.objs.size x y:=aG _ rfl
 have z4:(g3.push { cls:=.type "tuple",data:=.seq #[x,y]}).objs.size=s.heap.objs.size+1:=by rw[bj,sz]
 have kk:ZK z TO i1 i2 s.heap (g3.push { cls:=.type "tuple",data:=.seq #[x,y]}):=(((n8 t1.extBut).trans (vm t2.extBut)).trans (BF t3.extBut)).trans λd o _ _ _ _ e=>j8 _ e
 show Q (.ref g3.objs.size) _
 rw[sz]at hT ⊢
 exact hQ _ S4 hT z4 kk
def ZZ (z TI TO i1 i2 l1 l2:ai)(k:Nat)(h:Heap):Prop:=∃ f bb a b,qx h z TI TO f bb/\(f=.none\/∃ T0:ai,f=rawInt T0)/\IsPair h TI (.ref i1) (.ref i2)/\IsPair h TO a b/\k9 false h i1 l1 k/\k9 false h i2 l2 k
def ZZ.keep {k:Nat}{h h':Heap}(Z:ZZ z TI TO i1 i2 l1 l2 k h)(kp:∀ b∈[z,TI,TO,i1,i2],∀ o,h.get? b=some o->h'.get? b=some o):ZZ z TI TO i1 i2 l1 l2 k h':=by
 obtain⟨f,bb,a,b,h1,h2,h3,h4,h5,h6⟩:=Z
 exact⟨f,bb,a,b,kp z (by simp) _ h1,h2,kp TI (by simp) _ h3,kp TO (by simp) _ h4,h5.at λo e=>kp i1 (by simp) o e,h6.at λo e=>kp i2 (by simp) o e⟩
def MX {k:Nat}{Q:ak->ah->Prop}(D:ZipApart z TI TO i1 i2 l1 l2)(Z:ZZ z TI TO i1 i2 l1 l2 k s.heap)(q1:lq false s.heap l1 xs)(q2:lq false s.heap l2 ys)(hx:xs[k]?=some x)(hy:ys[k]?=some y)
 (hQ:∀ h',ZZ z TI TO i1 i2 l1 l2 (k+1) h'->IsPair h' s.heap.objs.size x y->h'.objs.size=s.heap.objs.size+1->ZK z TO i1 i2 s.heap h'->Q (.ref s.heap.objs.size) {s with heap:=h'}):
 wpAny (model prog w) A (Builtin.SmallTypes.nextOf (.ref z)) Q E s:=by
 obtain⟨f,bb,a,b,h1,h2,h3,h4,h5,h6⟩:=Z
 have ty:s.TypeIs (.ref z) "zip":=⟨_,h1,rfl⟩
 unfold Builtin.SmallTypes.nextOf
 refine fY (bE (name:=Str.ofString "__next__") ty bX (cj bX ty cZ ?_ (cU _)))
 rcases h2 with rfl|⟨T0,rfl⟩
 .exact Fe D ⟨h1,h3,h4,h5,h6,q1,q2⟩ (.inl rfl) hx hy λh' S hT hz hk=>au (hQ h' ⟨_,_,_,_,S.z,.inr ⟨_,rfl⟩,S.ti,S.to,S.n1,S.n2⟩ hT hz hk)
 .cases hd:s.heap.get? T0 with
  |none=>exact Fe D ⟨h1,h3,h4,h5,h6,q1,q2⟩ (.inr ⟨T0,rfl,hd⟩) hx hy λh' S hT hz hk=>au (hQ h' ⟨_,_,_,_,S.z,.inr ⟨_,rfl⟩,S.ti,S.to,S.n1,S.n2⟩ hT hz hk)
  |some o=>exact MY D ⟨h1,h3,h4,h5,h6,q1,q2⟩ hd hx hy λh' S hT hz hk=>au (hQ h' ⟨_,_,_,_,S.z,.inr ⟨_,rfl⟩,S.ti,S.to,S.n1,S.n2⟩ hT hz hk)
def sC {Q:Fin->ah->Prop}(hh:A.handled=none)(D:ZipApart z TI TO i1 i2 l1 l2)(S:ZG z TI TO i1 i2 l1 l2 f bb a b k1 k2 xs ys s.heap)(hf:f=.none\/∃ T0:ai,f=rawInt T0/\s.heap.get? T0=none)(hx:xs[k1]?=none\/ys[k2]?=none)
 (hE:∀ h' e,ZK z TO i1 i2 s.heap h'->(∃ o,h'.get? e=some o/\o.cls=.type "StopIteration")->E (.ref e) {s with heap:=h'}):
 wpAny (model prog w) A (Builtin.«zip.__next__» ⟨[.ref z],[]⟩) Q E s:=by
 refine fY (au (fY (aK S.z rfl (x:=.bool false) rfl (fY (aK S.z rfl (x:=.ref TI) rfl (fY (bg S.ti rfl ?_)))))))
 refine fY (m:=Builtin.SmallTypes.ownedTupleIsFree (.ref z)) (Gr S.z hf ?_)
 refine fY (dJ (fY (aK S.z rfl (x:=.ref TO) rfl (fY (aY S.z (by simp) λg1 e1 t1=>?_)))))
 have S1:=S.mz D (f':=.ellipsis) (bb':=bb) e1 t1.extBut
 refine fY ?_
 rw[show(#[Value.ref i1,Value.ref i2]:Array ak).toList.zipIdx=[(.ref i1,0),(.ref i2,1)]from rfl,bD]
 cases ex:xs[k1]? with
 | none =>
  refine fY (fY (cM (fY (lh hh S1.n1 S1.q1 ex λg2 e t2 he=>?_))))
  obtain⟨oe,Eu,Ls⟩:=he
  have CD:qx g2 z TI TO .ellipsis bb:=t2 _ _ D.i1z.symm S1.z
  have Ti:e≠z:=λq=>by subst q;rw[CD]at Eu;cases Eu;simp at Ls
  exact aY CD (by simp) λg3 _ t3=>hE g3 e (((n8 t1.extBut).trans (vm t2)).trans (n8 t3.extBut)) ⟨oe,t3.extBut _ _ Ti Eu,Ls⟩
 | some x =>
  have hy:ys[k2]?=none:=by
   rcases hx with q|q
   .rw[ex]at q;cases q
   .exact q
  refine fY (fY (cM (fY (iW S1.n1 S1.q1 ex λg2 e2 t2=>au ?_))))
  have S2:=S1.m1 D e2 t2.extBut
  refine fY (bg S2.to rfl (fY (cP S2.to λg3 e3 t3=>fY (cQ (au ?_)))))
  have S3:=S2.mo D (x:=x) (y:=b) e3 t3.extBut
  dsimp only
  rw[bD]
  refine fY (fY (cM (fY (lh hh S3.n2 S3.q2 hy λg4 e t4 he=>?_))))
  obtain⟨oe,Eu,Ls⟩:=he
  have CD:qx g4 z TI TO .ellipsis bb:=t4 _ _ D.i2z.symm S3.z
  have Ti:e≠z:=λq=>by subst q;rw[CD]at Eu;cases Eu;simp at Ls
  exact aY CD (by simp) λg5 _ t5=>hE g5 e ((((((n8 t1.extBut).trans (vm t2.extBut)).trans (Hk t3.extBut)).trans (BF t4))).trans (n8 t5.extBut)) ⟨oe,t5.extBut _ _ Ti Eu,Ls⟩
def zD {Q:Fin->ah->Prop}{T0:ai}{o:Obj}(hh:A.handled=none)(D:ZipApart z TI TO i1 i2 l1 l2)(S:ZG z TI TO i1 i2 l1 l2 (rawInt T0) bb a b k1 k2 xs ys s.heap)(hd:s.heap.get? T0=some o)(hx:xs[k1]?=none\/ys[k2]?=none)
 (hE:∀ h' e,ZK z TO i1 i2 s.heap h'->(∃ o,h'.get? e=some o/\o.cls=.type "StopIteration")->E (.ref e) {s with heap:=h'}):
 wpAny (model prog w) A (Builtin.«zip.__next__» ⟨[.ref z],[]⟩) Q E s:=by
 refine fY (au (fY (aK S.z rfl (x:=.bool false) rfl (fY (aK S.z rfl (x:=.ref TI) rfl (fY (bg S.ti rfl ?_)))))))
 refine fY (m:=Builtin.SmallTypes.ownedTupleIsFree (.ref z)) (Hb S.z hd λg1 e1 t1=>?_)
 have S1:=S.mz D (bb':=true) e1 t1.extBut
 show wpAny _ _ (forIn (#[Value.ref i1,Value.ref i2]:Array ak) (none,#[]) _>>=_) _ _ _
 rw[<- eR]
 refine fY ?_
 rw[show(#[Value.ref i1,Value.ref i2]:Array ak).toList=[.ref i1,.ref i2]from rfl,bD]
 cases ex:xs[k1]? with
 |none=>exact fY (fY (bR (fY (lh (s:={s with heap:=g1}) hh S1.n1 S1.q1 ex λg2 e t2 he=>hE g2 e ((n8 t1.extBut).trans (vm t2)) he))))
 | some x =>
  have hy:ys[k2]?=none:=by
   rcases hx with q|q
   .rw[ex]at q;cases q
   .exact q
  refine fY (fY (bR (fY (iW (s:={s with heap:=g1}) S1.n1 S1.q1 ex λg2 e2 t2=>au (au ?_)))))
  have S2:=S1.m1 D e2 t2.extBut
  dsimp only
  rw[bD]
  exact fY (fY (bR (fY (lh (s:={s with heap:=g2}) hh S2.n2 S2.q2 hy λg3 e t3 he=>hE g3 e (((n8 t1.extBut).trans (vm t2.extBut)).trans (BF t3)) he))))
def Q9 {k:Nat}{Q:ak->ah->Prop}(hh:A.handled=none)(D:ZipApart z TI TO i1 i2 l1 l2)(Z:ZZ z TI TO i1 i2 l1 l2 k s.heap)(q1:lq false s.heap l1 xs)(q2:lq false s.heap l2 ys)(hx:xs[k]?=none\/ys[k]?=none)
 (hE:∀ h' e,ZK z TO i1 i2 s.heap h'->(∃ o,h'.get? e=some o/\o.cls=.type "StopIteration")->E (.ref e) {s with heap:=h'}):
 wpAny (model prog w) A (Builtin.SmallTypes.nextOf (.ref z)) Q E s:=by
 obtain⟨f,bb,a,b,h1,h2,h3,h4,h5,h6⟩:=Z
 have ty:s.TypeIs (.ref z) "zip":=⟨_,h1,rfl⟩
 unfold Builtin.SmallTypes.nextOf
 refine fY (bE (name:=Str.ofString "__next__") ty bX (cj bX ty cZ ?_ (cU _)))
 rcases h2 with rfl|⟨T0,rfl⟩
 .exact sC hh D ⟨h1,h3,h4,h5,h6,q1,q2⟩ (.inl rfl) hx hE
 .cases hd:s.heap.get? T0 with
  |none=>exact sC hh D ⟨h1,h3,h4,h5,h6,q1,q2⟩ (.inr ⟨T0,rfl,hd⟩) hx hE
  |some o=>exact zD hh D ⟨h1,h3,h4,h5,h6,q1,q2⟩ hd hx hE
def LP {e:ai}{i:Nat}{old:ak}{Q:ak->ah->Prop}(D:ZipApart z TI TO i1 i2 l1 l2)(he:IsEnum s.heap e z i old)(Z:ZZ z TI TO i1 i2 l1 l2 i s.heap)(ne:e∉[z,TI,TO,i1,i2])(q1:lq false s.heap l1 xs)(q2:lq false s.heap l2 ys)(hx:xs[i]?=some x)(hy:ys[i]?=some y)
 (hQ:∀ h1 h2 tk,IsPair h1 s.heap.objs.size x y->h1.objs.size=s.heap.objs.size+1->(∀ b o,b∉[z,TO,i1,i2]->s.heap.get? b=some o->h1.get? b=some o) ->
   IsEnumOut h2 e z ((i:Int)+1) (.ref s.heap.objs.size) (s.heap.objs.size+1)->ZZ z TI TO i1 i2 l1 l2 (i+1) h2->IsPair h2 (s.heap.objs.size+1) (.int i tk) (.ref s.heap.objs.size)->(∀ b o,b≠e->h1.get? b=some o->h2.get? b=some o)->Q (.ref (s.heap.objs.size+1)) {s with heap:=h2,toks:=tk+1}):
 wpAny (model prog w) A (Builtin.«enumerate.__next__» ⟨[.ref e],[]⟩) (λfin s'=>∃ v,fin=.done (.ret v)/\Q v s') E s:=by
 obtain⟨hp,g,d,tk,os⟩:=s
 show wpAny _ _ (field (.ref e) 2>>=_) _ _ _
 refine fY (aK he rfl (x:=.ref z) rfl ?_)
 have elt:e<hp.objs.size:=jf he
 refine fY (MX D Z q1 q2 hx hy λh₁ Z₁ hT₁ sz₁ hk₁=>?_)
 replace hT₁:IsPair h₁ hp.objs.size x y:=hT₁
 replace sz₁:h₁.objs.size=hp.objs.size+1:=sz₁
 simp only[aP,aH,bS,not_or]at ne
 obtain⟨n1,n2,n3,n4,n5⟩:=ne
 have he₁:IsEnum h₁ e z i old:=hk₁ e _ n1 n3 n4 n5 he
 show wpAny _ _ (field (.ref e) 3>>=_) _ _ ⟨h₁,g,d,tk,os⟩
 refine fY (aK he₁ rfl (x:=rawInt i) rfl ?_)
 show wpAny _ _ (field (.ref e) 4>>=_) _ _ ⟨h₁,g,d,tk,os⟩
 refine fY (aK he₁ rfl (x:=.none) rfl ?_)
 show wpAny _ _ (mkInt i>>=_) _ _ ⟨h₁,g,d,tk,os⟩
 refine fY (wpAny_mkInt ?_)
 show wpAny _ _ (setField (.ref e) 3 (rawInt ((i:Int)+1))>>=_) _ _ ⟨h₁,g,d,tk+1,os⟩
 refine fY (aY he₁ (by simp) λh₂ he₂ hs₂=>?_)
 replace hs₂:Heap.SameBut e h₁ h₂:=hs₂
 replace he₂:IsEnum h₂ e z ((i:Int)+1) old:=he₂
 show wpAny _ _ (setField (.ref e) 4 .none>>=_) _ _ ⟨h₂,g,d,tk+1,os⟩
 refine fY (aY he₂ (by simp) λh₃ he₃ hs₃=>?_)
 replace hs₃:Heap.SameBut e h₂ h₃:=hs₃
 replace he₃:IsEnum h₃ e z ((i:Int)+1) old:=he₃
 show wpAny _ _ (newTuple [.int i tk,.ref hp.objs.size]>>=_) _ _ ⟨h₃,g,d,tk+1,os⟩
 refine fY (e9 ?_)
 have he₄:IsEnum (h₃.push { cls:=.type "tuple",data:=.seq #[.int i tk,.ref hp.objs.size]}) e z ((i:Int)+1) old:=j8 _ he₃
 have hsz:h₃.objs.size=hp.objs.size+1:=by rw[hs₃.1,hs₂.1,sz₁]
 have ht₄:(h₃.push { cls:=.type "tuple",data:=.seq #[.int i tk,.ref hp.objs.size]}).get? (hp.objs.size+1)=some { cls:=.type "tuple",data:=.seq #[.int i tk,.ref hp.objs.size]}:=by rw[<- hsz];exact aG _ rfl
 have hk₄:∀ b o,b≠e->h₁.get? b=some o->(h₃.push { cls:=.type "tuple",data:=.seq #[.int i tk,.ref hp.objs.size]}).get? b=some o:=λb o hb eo=>j8 _ (hs₃.extBut b o hb (hs₂.extBut b o hb eo))
 generalize h₃.push { cls:=.type "tuple",data:=.seq #[.int i tk,.ref hp.objs.size]}=h₄ at he₄ ht₄ hk₄
 show wpAny _ _ (Builtin.SmallTypes.ownedTupleIsFree (.ref e)>>=_) _ _ ⟨h₄,g,d,tk+1,os⟩
 rw[hsz]
 refine fY ?_
 unfold Builtin.SmallTypes.ownedTupleIsFree
 refine fY (aK he₄ rfl (x:=.none) rfl (au ?_))
 simp only[if_true]
 refine fY (dJ ?_)
 refine fY (aK he₄ rfl (x:=old) rfl ?_)
 refine fY (aY he₄ (by simp) λh₅ he₅ hs₅=>?_)
 replace hs₅:Heap.SameBut e h₄ h₅:=hs₅
 replace he₅:IsEnum h₅ e z ((i:Int)+1) (.ref hp.objs.size):=he₅
 show wpAny _ _ (Builtin.SmallTypes.ownedTupleHandOut (.ref e) (.ref (hp.objs.size+1))>>=_) _ _ ⟨h₅,g,d,tk+1,os⟩
 refine fY ?_
 unfold Builtin.SmallTypes.ownedTupleHandOut
 refine fY (aY he₅ (by simp) λh₆ he₆ hs₆=>?_)
 replace hs₆:Heap.SameBut e h₅ h₆:=hs₆
 replace he₆:IsEnumOut h₆ e z ((i:Int)+1) (.ref hp.objs.size) (hp.objs.size+1):=he₆
 refine aY he₆ (by simp) λh₇ he₇ hs₇=>?_
 replace hs₇:Heap.SameBut e h₆ h₇:=hs₇
 replace he₇:IsEnumOut h₇ e z ((i:Int)+1) (.ref hp.objs.size) (hp.objs.size+1):=he₇
 have Y6:∀ b o,b≠e->h₄.get? b=some o->h₇.get? b=some o:=λb o hb eo=>hs₇.extBut b o hb (hs₆.extBut b o hb (hs₅.extBut b o hb eo))
 refine fY (cQ (au ⟨_,rfl,hQ h₁ h₇ tk hT₁ sz₁ (λb o hb eo=>hk₁ b o (λq=>hb (by simp[q])) (λq=>hb (by simp[q])) (λq=>hb (by simp[q])) (λq=>hb (by simp[q])) eo) he₇ ?_ ?_ λb o hb eo=>Y6 b o hb (hk₄ b o hb eo)⟩))
 .refine Z₁.keep λb hb o eo=>Y6 b o ?_ (hk₄ b o ?_ eo)<;>
  .intro q
   subst q
   simp only[aP,aH,bS]at hb
   rcases hb with q|q|q|q|q
   .exact n1 q
   .exact n2 q
   .exact n3 q
   .exact n4 q
   .exact n5 q
 .exact Y6 (hp.objs.size+1) _ (bp (bc elt)) ht₄
end
section
variable {prog:ae}{w:af}{A:Around}{E:ak->ah->Prop}{s:ah}
def xE (z TI TO:ai):
 Meets (Builtin.«enumerate.__new__» ⟨[.type "enumerate",.ref z],[]⟩) (λ_ R s=>IsZip s.heap z TI TO .none /\
  R (.ok (.ret (.ref s.heap.objs.size))) {s with heap:=s.heap.push { cls:=.type "enumerate",data:=.fields #[.none,.bool false,.ref z,rawInt 0,.none,.none]}}):=
 .of_wp λprog w A R s h=>by
  obtain⟨hp,g,d,tk,os⟩:=s
  obtain⟨hz,h⟩:=h
  have Zl:=sub_enumerate
  have XQ:IsZip (Shared.heap ⟨hp,g,d,tk,os⟩) z TI TO .none:=hz
  wp_walk using cK XQ
  refine wpAny_stack_any λst=>au ?_
  split
  .rename_i c _ _ _ _ _
   cases(c==Value.type "enumerate")
   .wp_walk using cK XQ
    exact⟨_,rfl,h⟩
   .wp_walk using cK XQ
    exact⟨_,rfl,h⟩
  .wp_walk using cK XQ
   exact⟨_,rfl,h⟩
def si {z TI TO:ai}{Q:ak->ah->Prop}(hz:IsZip s.heap z TI TO .none)
 (h:∀ h',IsEnum h' s.heap.objs.size z 0 .none->h'.objs.size=s.heap.objs.size+1->(∀ b o,s.heap.get? b=some o->h'.get? b=some o)->Q (.ref s.heap.objs.size) {s with heap:=h'}):
 wpAny (model prog w) A (call (.type "enumerate") [.ref z]) Q E s:=by
 refine callType_new F.called_enumerate (by decide) (F.typeCall_enumerate_1 _) (F.newCall_enumerate_1 _) (λobj=>F.args_object_init_2 obj _) F.entry_enumerate_new (xE z TI TO) ⟨hz,?_⟩
 have he:IsEnum (s.heap.push { cls:=.type "enumerate",data:=.fields #[.none,.bool false,.ref z,rawInt 0,.none,.none]}) s.heap.objs.size z 0 .none:=aG _ rfl
 exact⟨⟨_,he,rfl⟩,h _ he (by rw[bj]) λb o x=>j8 _ x⟩
end
def Xj (l1 l2:ai):It :=
 ⟨λi H=>∃ xs ys x y,H l1=some (.lst xs)/\H l2=some (.lst ys)/\xs[i]?=some x/\ys[i]?=some y,
  λi H v H'=>∃ T1 T2 x y,v=.ref T2/\H T1=none/\(upd H T1 (.tup [x,y])) T2=none/\H'=upd (upd H T1 (.tup [x,y])) T2 (.tup [.int i,.ref T1])/\(∀ xs,H l1=some (.lst xs)->xs[i]?=some x)/\(∀ ys,H l2=some (.lst ys)->ys[i]?=some y),
  λi H=>∃ xs ys,H l1=some (.lst xs)/\H l2=some (.lst ys)/\(xs.length<=i\/ys.length<=i)⟩
def mX.upd {X:Cx}{fI:ao (ai×Obj)}{H:Hp}{b T:ai}{o:HO}(f:mX X fI H b)(h:b≠T):mX X fI (upd H T o) b:=⟨by rw[gB h];exact f.1,f.2⟩
def DH {P:ae}{w:af}{K:aa}{elts:ao Expr}{kk:Nat}{tpos:Pos}{e z TI TO i1 i2 l1 l2:ai}(D:ZipApart z TI TO i1 i2 l1 l2)(ne:e∉[z,TI,TO,i1,i2]):
 Turn P w K (.Tuple elts kk tpos) (Xj l1 l2) [e,z,TI,TO,i1,i2] e (λi h=>(∃ old,IsEnum h e z i old)/\ZZ z TI TO i1 i2 l1 l2 i h) where
 mem:=by simp
 obj:=λi h st b hb=>by
  obtain⟨⟨old,he⟩,f,bb,a,b',h1,h2,h3,h4,h5,h6⟩:=st
  simp only[aP,aH,bS]at hb
  rcases hb with rfl|rfl|rfl|rfl|rfl|rfl
  .exact⟨_,he,λv q=>by cases q⟩
  .exact⟨_,h1,λv q=>by cases q⟩
  .exact⟨_,h3,λv q=>by cases q⟩
  .exact⟨_,h4,λv q=>by cases q⟩
  .exact h5.data
  .exact h6.data
 keep:=λi h h' st k=>by
  obtain⟨⟨old,he⟩,Z⟩:=st
  exact⟨⟨old,k e (by simp) _ he⟩,Z.keep λb hb o eo=>k b (nF _ hb) o eo⟩
 item:=by
  intro X hP hw hK hc i fI s σ H E I hf st hg
  subst hP hw hK
  obtain⟨⟨old,he⟩,Z⟩:=st
  obtain⟨xs,ys,x,y,q1,q2,ex,ey⟩:=hg
  obtain⟨_,us,n1,r1,_,p1⟩:=I.mH q1
  obtain⟨_,ws,n2,r2,_,p2⟩:=I.mH q2
  obtain⟨u,eu,ru⟩:=r1.get ex
  obtain⟨v,ev,rv⟩:=r2.get ey
  have s1:lq false s.heap l1 us.toArray:=⟨_,p1,rfl,n1,rfl⟩
  have s2:lq false s.heap l2 ws.toArray:=⟨_,p2,rfl,n2,rfl⟩
  have hT:s.TypeIs (.ref e) "enumerate":=⟨_,he,rfl⟩
  have KG:∀ b∈[e,z,TI,TO,i1,i2],b<s.heap.objs.size:=λb hb=>by
   obtain⟨f,bb,a,b',h1,h2,h3,h4,h5,h6⟩:=Z
   simp only[aP,aH,bS]at hb
   rcases hb with rfl|rfl|rfl|rfl|rfl|rfl
   .exact jf he
   .exact jf h1
   .exact jf h3
   .exact jf h4
   .obtain⟨o,q⟩:=h5.ex;exact jf q
   .obtain⟨o,q⟩:=h6.ex;exact jf q
  unfold pyNext
  refine fY (dw (bE (name:=Str.ofString "__next__") hT dG (cj dG hT F.entry_enumerate_next (LP D he Z ne s1 s2 (x:=u) (y:=v) (by simpa using eu) (by simpa using ev) λh1 h2 tk Wj Vc fr1 ho2 Z2 Tq fr2=>au ?_) (F.args_enumerate_next_1 _))))
  refine⟨_,rfl,wpAny_letOwnedTupleGo_enum ho2 λh3 he3 Ln=>?_⟩
  have I1:Inv X fI σ (upd H s.heap.objs.size (.tup [x,y])) { s with heap:=h1}:=I.BR (ch:=[z,TO,i1,i2]) (h'':=h1) (λb hb=>hf b (by
   simp only[aP,aH,bS]at hb ⊢
   rcases hb with q|q|q|q<;>simp[q])) fr1 Wj ru rv
  have elt:=KG e (by simp)
  have en:e≠s.heap.objs.size+1:=aD (bc elt)
  have hT3:IsPair h3 (s.heap.objs.size+1) (.int i tk) (.ref s.heap.objs.size):=Ln.extBut _ _ (bo en) Tq
  have I2:=I1.BR (ch:=[e]) (h'':=h3) (x:=.int i) (y:=.ref s.heap.objs.size) (u:=.int i tk) (v:=.ref s.heap.objs.size) (λb hb=>by
   rw[List.mem_singleton.mp hb]
   exact(hf e (by simp)).upd (aD elt)) (λb o hb eo=>Ln.extBut b o (λq=>hb (by simp[q])) (fr2 b o (λq=>hb (by simp[q])) eo)) (by show IsPair h3 h1.objs.size _ _;rw[Vc];exact hT3) ⟨tk,rfl⟩ rfl
  have hn1:H s.heap.objs.size=none:=I.iA.fresh (ar _)
  have Gm:(upd H s.heap.objs.size (.tup [x,y])) (s.heap.objs.size+1)=none:=by
   rw[gB (Nat.succ_ne_self _)]
   exact I.iA.fresh (eT _)
  have I3:=I2.tok (tk+1)
  have e1:(({s with heap:=h1}:ah).heap.objs.size)=s.heap.objs.size+1:=Vc
  rw[e1]at I3
  refine⟨.ref (s.heap.objs.size+1),_,I3,rfl,⟨_,_,x,y,rfl,hn1,Gm,rfl,λzs q=>by rw[q1]at q;cases q;exact ex,λzs q=>by rw[q2]at q;cases q;exact ey⟩,⟨⟨_,by simpa using he3⟩,Z2.keep λb hb o eo=>Ln.extBut b o (λq=>ne (q▸hb)) eo⟩,λb hb=>?_⟩
  have:=KG b hb
  rw[gB (aD (bc this)),gB (aD this)]
  exact(hf b hb).1
 done:=by
  intro X hP hw hK hc i fI s σ H E I hf st hg
  subst hP hw hK
  obtain⟨⟨old,he⟩,Z⟩:=st
  obtain⟨xs,ys,q1,q2,hx⟩:=hg
  obtain⟨_,us,n1,r1,ll1,p1⟩:=I.mH q1
  obtain⟨_,ws,n2,r2,ll2,p2⟩:=I.mH q2
  have s1:lq false s.heap l1 us.toArray:=⟨_,p1,rfl,n1,rfl⟩
  have s2:lq false s.heap l2 ws.toArray:=⟨_,p2,rfl,n2,rfl⟩
  have hT:s.TypeIs (.ref e) "enumerate":=⟨_,he,rfl⟩
  unfold pyNext
  refine fY (dw (bE (name:=Str.ofString "__next__") hT dG (cj dG hT F.entry_enumerate_next ?_ (F.args_enumerate_next_1 _))))
  show wpAny _ _ (field (.ref e) 2>>=_) _ _ _
  refine fY (aK he rfl (x:=.ref z) rfl ?_)
  refine fY (Q9 (I.ok.hd hc) D Z s1 s2 (by simp only[List.getElem?_toArray,List.getElem?_eq_none_iff];lia) λh' x hk Es=>?_)
  obtain⟨o,ho,AE⟩:=Es
  refine fY (fF (T:= "StopIteration") (b:=true) ⟨o,ho,AE⟩ isSubtype_stop ?_)
  refine au ⟨rfl,I.yG (ch:=[z,TO,i1,i2]) (λb hb=>hf b (by
   simp only[aP,aH,bS]at hb ⊢
   rcases hb with q|q|q|q<;>simp[q])) λb o hb eo=>hk b o (λq=>hb (by simp[q])) (λq=>hb (by simp[q])) (λq=>hb (by simp[q])) (λq=>hb (by simp[q])) eo⟩
 self:=λ_ _ _ _ _ st h=>let ⟨⟨_,e⟩,_⟩:=st;eZ e h
section
variable {X:Cx}{a b e:Expr}{es:ao Expr}{pos:Pos}
def SU (ta:TA):TI:=λσ H R=>ta σ H λvs H1=>match vs with
 |[.ref l1,.ref l2]=>∃ xs ys,H1 l1=some (.lst xs)/\H1 l2=some (.lst ys)/\R (Xj l1 l2) H1
 |_=>False
def Ki {elts:ao Expr}{kk:Nat}{tpos p2 rV:Pos}{ta:TA}{p:Pos}(hg:Gl X "enumerate")(hm:X.mg "enumerate"=none)(Th:Gl X "zip")(Tc:X.mg "zip"=none)(ha:PA X [a,b] ta)(hs:starEach [a,b] X.env=[(false,eval a X.env),(false,eval b X.env)]:=by rfl)(tE:starEach [b] X.env=[(false,eval b X.env)]:=by rfl)
 (Ln:starEach [.Call (.Name "zip" p2) [a,b] [] rV] X.env=[(false,eval (.Call (.Name "zip" p2) [a,b] [] rV) X.env)]:=by rfl):
 PI X (.Tuple elts kk tpos) (.Call (.Name "enumerate" p) [.Call (.Name "zip" p2) [a,b] [] rV] [] pos) (SU ta):=by
 intro fI s σ H R I h
 refine Call_ (mj I hg hm (show bootBuiltins "enumerate"=some (.type "enumerate") by decide +kernel) (bw ?_ Ln rfl))
 rw[Ln]
 show wpAny _ _ (spliced ((false,eval (.Call (.Name "zip" p2) [a,b] [] rV) X.env)::backTo pos [])) _ _ s
 refine Calls.spliced_cons ?_
 refine Call_ (mj I Th Tc boot_zip (bw (iJ (ha rV fI s σ H _ I h) λus s1 rB=>?_) (by rw[hs,tE]) (by rw[tE];rfl)))
 obtain⟨vs,H1,I1,r1,q1⟩:=rB
 try dsimp only at q1
 split at q1
 .rename_i l1 l2
  obtain⟨xs,ys,h1,h2,q⟩:=q1
  obtain⟨u1,u2,rfl,e1,e2⟩:=r1.two
  cases e1;cases e2
  obtain⟨_,i1,n1,v1,_,p1⟩:=I1.mH h1
  obtain⟨_,i2,n2,v2,_,p2⟩:=I1.mH h2
  have s1q:lq false s1.heap l1 i1.toArray:=⟨_,p1,rfl,n1,rfl⟩
  have s2q:lq false s1.heap l2 i2.toArray:=⟨_,p2,rfl,n2,rfl⟩
  have lt1:l1<s1.heap.objs.size:=jf p1
  have lt2:l2<s1.heap.objs.size:=jf p2
  refine sA s1q s2q λh' hz BC BB m1 m2 kp=>?_
  refine Calls.spliced_nil ?_
  refine si (s:={ s1 with heap:=h'}) hz λh'' he hsz QB=>eZ he ?_
  have Ra:s1.heap.objs.size+4<h'.objs.size:=jf hz
  have I2:Inv X fI σ H1 { s1 with heap:=h''}:=I1.jz (t':=s1.toks) λb o eo=>QB b o (kp b o eo)
  have Z0:ZZ (s1.heap.objs.size+4) (s1.heap.objs.size+2) (s1.heap.objs.size+3) s1.heap.objs.size (s1.heap.objs.size+1) l1 l2 0 h':=⟨_,_,_,_,hz,.inl rfl,BC,BB,m1,m2⟩
  have ne:h'.objs.size∉[s1.heap.objs.size+4,s1.heap.objs.size+2,s1.heap.objs.size+3,s1.heap.objs.size,s1.heap.objs.size+1]:=by
   simp only[aP,aH,bS]
   lia
  refine⟨h'.objs.size,_,_,_,H1,rfl,I2,DH (zipApart_new lt1 lt2) ne,⟨⟨_,he⟩,Z0.keep λb _ o eo=>QB b o eo⟩,λb hb=>?_,q⟩
  have BA:s1.heap.objs.size<=b:=by
   simp only[aP,aH,bS]at hb
   rcases hb with q|q|q|q|q|q
   .rw[q];exact dU (cq (aR _ 4) Ra)
   .rw[q];exact aR _ _
   .rw[q];exact aR _ _
   .rw[q];exact aR _ _
   .rw[q];exact ar _
   .rw[q];exact aR _ _
  exact I1.Ey BA (I1.iA.fresh BA)
 .exact q1.elim
def WR (w:DA):DI:=λρ μ K=>w ρ μ λds gr=>match ds with
 |[x,y]=>opt (lv gr x) λxs=>opt (lv gr y) λys=>K (nV (List.zipWith (λa b=>D.tup [a,b]) xs ys)) (λgc=>lc x xs gc/\lc y ys gc) gr
 |_=>False
def OG {elts:ao Expr}{kk:Nat}{tpos p2 rV:Pos}{w:DA}{p:Pos}(hg:Gl X "enumerate")(hm:X.mg "enumerate"=none)(Th:Gl X "zip")(Tc:X.mg "zip"=none)(ha:vB X [a,b] w)(hs:starEach [a,b] X.env=[(false,eval a X.env),(false,eval b X.env)]:=by rfl)(tE:starEach [b] X.env=[(false,eval b X.env)]:=by rfl)
 (Ln:starEach [.Call (.Name "zip" p2) [a,b] [] rV] X.env=[(false,eval (.Call (.Name "zip" p2) [a,b] [] rV) X.env)]:=by rfl):
 Hg X (.Tuple elts kk tpos) (.Call (.Name "enumerate" p) [.Call (.Name "zip" p2) [a,b] [] rV] [] pos) (WR w):=(Ki hg hm Th Tc ha hs tE Ln).imp λσ H Q hq=>by
 obtain⟨φ,ρ,μ,K,A,M,k,L⟩:=hq
 refine⟨φ,ρ,μ,_,A,M,k,λds gr gN vs H1 k1 f1 M1 i1=>?_⟩
 split at k1
 .rename_i x y
  obtain⟨xs,ex,k1⟩:=hX k1
  obtain⟨ys,ey,k1⟩:=hX k1
  obtain⟨v,r,rfl,h1,u,r',rfl,h2,h3⟩:=i1
  cases(show r'=[]from h3)
  obtain⟨p1,vx,rfl,S9,ax⟩:=jY M1 h1 ex
  obtain⟨p2,vy,rfl,SY,ay⟩:=jY M1 h2 ey
  refine⟨vx,vy,S9,SY,L _ _ gr gN _ H1 k1 f1 M1 λgG H' gc f M' c i=>?_⟩
  obtain⟨vx,hx,ax⟩:=qH M1 h1 ex f M' c.1
  obtain⟨vy,hy,ay⟩:=qH M1 h2 ey f M' c.2
  have lx:=ax.len
  have ly:=ay.len
  refine⟨λd hd=>?_,λhi=>⟨vx,vy,hx,hy,by rw[m4,bO]at hi;lia⟩⟩
  obtain⟨q,hq,rfl⟩:=ze hd
  rw[bV]at hq
  cases e1:xs[i]? with
  |none=>rw[e1]at hq;cases hq
  | some dx =>
   cases e2:ys[i]? with
   |none=>rw[e1,e2]at hq;cases hq
   | some dy =>
    rw[e1,e2]at hq
    cases hq
    obtain⟨v1,g1,j1⟩:=ax.get e1
    obtain⟨v2,g2,j2⟩:=ay.get e2
    refine⟨⟨vx,vy,v1,v2,hx,hy,g1,g2⟩,λz PH SW=>?_⟩
    obtain⟨T1,T2,x',y',rfl,Wj,Tq,rfl,q1,q2⟩:=SW
    have c1:=q1 vx hx
    have c2:=q2 vy hy
    rw[g1]at c1;cases c1
    rw[g2]at c2;cases c2
    have Z6:=Fr.new (φ:=gG) (o:=.tup [v1,v2]) Wj
    have M1':=M'.same (iI.upd (o:=.tup [v1,v2]) Wj)
    have fn2:=Fr.new (φ:=gG) (o:=.tup [.int i,.ref T1]) Tq
    have M2':=M1'.same (iI.upd (o:=.tup [.int i,.ref T1]) Tq)
    have d1:je gG (upd H' T1 (.tup [v1,v2])) (.tup [dx,dy]) (.ref T1):=⟨T1,_,rfl,M'.fresh Wj,gh,v1,_,rfl,j1.mono Z6,v2,_,rfl,j2.mono Z6,rfl⟩
    exact⟨Z6.trans fn2,M2',T2,_,rfl,M1'.fresh Tq,gh,.int i,_,rfl,rfl,.ref T1,_,rfl,d1.mono fn2,rfl⟩
 .exact k1.elim
end
def Qo:ao V->Hp->VK->Prop:=λvs H Q=>∃ i j k,vs=[.int i,.int j,.int k]/\Q (.int (min i (min j k))) H
def VP {X:Cx}(hc:X.gY=true):jB X (.builtin "min") Qo:=by
 intro fI s σ H xs us Q I r h
 obtain⟨i,j,k,rfl,h⟩:=h
 cases r with
 | cons r1 r2 =>
  obtain⟨u,v,rfl,⟨t2,rfl⟩,⟨t3,rfl⟩⟩:=gE.two r2
  obtain⟨t1,rfl⟩:=r1
  refine min_three_ints (I.ok.hd hc) λh' tk kp=>⟨_,H,I.jz kp,?_,h⟩
  by_cases h1:j<i
  .by_cases h2:k<j
   .rw[aB h1,aB h2,show min i (min j k)=k by lia];exact⟨_,rfl⟩
   .rw[aB h1,aC h2,show min i (min j k)=j by lia];exact⟨_,rfl⟩
  .by_cases h2:k<i
   .rw[aC h1,aB h2,show min i (min j k)=k by lia];exact⟨_,rfl⟩
   .rw[aC h1,aC h2,show min i (min j k)=i by lia];exact⟨_,rfl⟩
def QR:j5:=λds μ K=>match ds with|[.int i,.int j,.int k]=>K (.int (min i (min j k))) μ|_=>False
def Nu:mR Qo QR:=λφ H vs ds μ K Q M h k L=>by
 unfold QR at k
 split at k
 .obtain⟨v,r,rfl,h1,u,r',rfl,h2,w,r'',rfl,h3,h4⟩:=h
  cases(show r''=[]from h4);cases(show v=_ from h1);cases(show u=_ from h2);cases(show w=_ from h3);exact⟨_,_,_,rfl,L.val M k rfl⟩
 .exact k.elim
section
variable {X:Cx}{e:Expr}{pos:Pos}
def WV:De:=λ_ μ K=>K (.mr μ.length) (μ++[.jC [] []])
def TN:PD X (.Dict [] [] pos) WV:=Kr.imp λσ H Q ⟨φ,ρ,μ,K,A,M,k,L⟩=>λp hp=>by
 obtain⟨M',f⟩:=M.snoc (o:=.dK []) (m:=.jC [] []) hp ⟨[],[],gh,rfl,rfl,rfl⟩
 exact L _ _ _ _ _ k f M' ⟨p,by rw[pX (by rw[M.len];exact ar _),M.len,a6];rfl,rfl⟩
def WZ (w wo wi:De):Ds:=λN ρ μ=>w ρ μ λd gr=>wo ρ gr λo iE=>wi ρ iE λi rh=>match o with
 |.mr k=>∃ ks ds,rh[k]?=some (.jC ks ds)/\ks.length<sizeLine/\opt (yp i) λkk=>kk∉ks/\N.nx ρ (rh.set k (.jC (ks++[kk]) (ds++[d])))
 |_=>False
def RE {o i:Expr}{w wo wi:De}{pos':Pos}(hu:X.A.units+1<cLine)(he:PD X e w)(ho:PD X o wo)(hi:PD X i wi)(hs:swapsWith e (some (.Subscript o i pos')) pos.line X.env=pure false:=by rfl):
 yy X (.Assign [.Subscript o i pos'] e pos) (WZ w wo wi):=(Ae hu ho hi he hs).imp λE σ H hq=>by
 obtain⟨φ,ρ,μ,N,A,M,w,L⟩:=hq
 refine⟨φ,ρ,μ,_,A,M,w,λd gr gN v1 H1 k1 f1 M1 i1=>?_⟩
 refine⟨gN,ρ,gr,_,A.mono f1,M1,k1,λd2 iE kQ v2 H2 k2 f2 M2 i2=>?_⟩
 refine⟨kQ,ρ,iE,_,A.mono (f1.trans f2),M2,k2,λd3 rh BE v3 H3 k3 f3 M3 i3=>?_⟩
 cases d2 with
 | mr k =>
  obtain⟨ks,ds,em,hl,k3⟩:=k3
  obtain⟨kk,ek,hn,k3⟩:=hX k3
  obtain⟨p,hp,rfl⟩:=i2.mono f3
  obtain⟨p',e1,kvs,vs,hv,h1,h2,ha⟩:=M3.at_ k _ em
  rw[hp]at e1;cases e1
  cases qI ek i3
  have Zt:(kvs.any λkv=>decide (kv.1=kk))=false:=by
   rw[fj]
   intro kv Wa
   rw[bq]
   intro z
   exact hn (by rw[<- h1,<- z];exact List.mem_map_of_mem Wa)
  have ep:putK kvs kk v1=kvs++[(kk,v1)]:=by unfold putK;rw[Zt];rfl
  have f4:Fr BE H3 BE (upd H3 p (.dK (putK kvs kk v1))):=.put (mw hp)
  refine⟨p,_,rfl,Bo.k hv (by rw[<- h1,iu]at hl;exact hl),?_⟩
  have M4:=M3.put (k:=k) (p:=p) (o:=.dK (putK kvs kk v1)) (m:=.jC (ks++[kk]) (ds++[d])) hp ⟨putK kvs kk v1,vs++[v1],gh,by rw[ep,bh,h1];rfl,by rw[ep,bh,h2];rfl,
   (ha.mono f4).app ⟨v1,[],rfl,(i1.mono (f2.trans f3)).mono f4,rfl⟩⟩
  exact L.nx ρ _ BE σ _ k3 ((f1.trans (f2.trans f3)).trans f4) (A.mono ((f1.trans (f2.trans f3)).trans f4)) M4
 |_=>exact k3.elim
end
def lL (L:Nat)(i j:Nat):Int:=if j<=i then 0 else(L:Int) - 1
def nR (P:Nat->Nat->Int)(i j:Nat):ao Int:=(List.range (j - (i+1))).map λx=>P i (i+1+x)+P (i+1+x) j+1
def jR (L:Nat)(es own:ao Int)(P:Nat->Nat->Int)(i j:Nat):Int:=if es.getD j 0<=own.getD i 0 then 0 else(nR P i j).foldl min ((L:Int) - 1)
def gw (es:ao Int)(ts:ao Tk):Nat->Nat->Nat->Int
 |0=>lL es.length
 |a+1=>jR es.length es (jj es ts a) (gw es ts a)
def nh {P:Nat->Nat->Int}{i j:Nat}{v:Int}:v∈nR P i j↔∃ k,i<k/\k<j/\v=P i k+P k j+1:=by
 unfold nR
 rw[List.mem_map]
 constructor
 .rintro⟨x,hx,rfl⟩
  rw[cg]at hx
  exact⟨i+1+x,by lia,by lia,rfl⟩
 .rintro⟨k,h1,h2,rfl⟩
  exact⟨k - (i+1),List.mem_range.mpr (by lia),by rw[show i+1+(k - (i+1))=k by lia]⟩
def Ib {P P':Nat->Nat->Int}{L i j:Nat}(hi:i<L)(hj:j<L)(h:∀ a b,a<L->b<L->P a b=P' a b):nR P i j=nR P' i j:=by
 unfold nR
 apply bN
 intro x hx
 rw[cg]at hx
 rw[h i _ hi (by lia),h _ j (by lia) hj]
def Ht {P P':Nat->Nat->Int}{L:Nat}{es own:ao Int}{i j:Nat}(hi:i<L)(hj:j<L)(h:∀ a b,a<L->b<L->P a b=P' a b):jR L es own P i j=jR L es own P' i j:=by
 unfold jR;rw[Ib hi hj h]
def Hf (L:Nat)(T P:Nat->Nat->Int):Prop:=∀ i j,i<L->j<L->(j<=i->P i j=0)/\(i<j->(T i j=0/\P i j=(L:Int) - 1)\/(1<=T i j/\T i j<=((j - i:Nat):Int)/\P i j=T i j - 1))
def Hw {L:Nat}{es own:ao Int}{T P:Nat->Nat->Int}(hs:∀ i j,i<L->j<=i->es.getD j 0<=own.getD i 0)(h:Hf L T P):Hf L (j9 es own T) (jR L es own P):=by
 intro i j hi hj
 refine⟨λhji=>by unfold jR;rw[aB (hs i j hi hji)],λpW=>?_⟩
 unfold j9 jR
 rw[aC (show ¬ j<=i by lia)]
 by_cases q:es.getD j 0<=own.getD i 0
 .rw[aB q,aB q];right;lia
 rw[aC q,aC q]
 obtain⟨a1,a2,a3⟩:=kR (nR P i j) ((L:Int) - 1)
 generalize hm:(nR P i j).foldl min ((L:Int) - 1)=m at a1 a2 a3 ⊢
 clear hm
 have kk:∀ k,i<k->k<j->(0<T i k*T k j/\1<=T i k/\1<=T k j/\T i k+T k j<=((j - i:Nat):Int)/\P i k+P k j+1=T i k+T k j - 1)\/(¬ 0<T i k*T k j/\(L:Int) - 1<P i k+P k j+1):=λk h1 h2=>by
  have x1:=(h i k hi (by lia)).2 h1
  have x2:=(h k j (by lia) hj).2 h2
  rcases x1 with⟨y1,y2⟩|⟨y1,y2,y3⟩
  .right;refine⟨by rw[y1,Int.zero_mul];lia,?_⟩
   rcases x2 with⟨z1,z2⟩|⟨z1,z2,z3⟩<;> lia
  .rcases x2 with⟨z1,z2⟩ | ⟨z1,z2,z3⟩
   .right;exact⟨by rw[z1,Int.mul_zero];lia,by lia⟩
   .left;exact⟨Int.mul_pos (by lia) (by lia),y1,z1,by lia,by lia⟩
 by_cases hn:kE T i j=[]
 .left
  rw[hn]
  refine⟨rfl,?_⟩
  rcases a1 with e|e
  .exact e
  .exfalso
   obtain⟨k,h1,h2,e⟩:=nh.mp e
   rcases kk k h1 h2 with⟨y,_⟩|⟨_,y⟩
   .have:=kO.mpr ⟨k,h1,h2,y,rfl⟩
    rw[hn]at this;cases this
   .lia
 .right
  obtain⟨b1,b2⟩:=qG hn
  generalize xc (kE T i j)=t at b1 b2 ⊢
  obtain⟨k,h1,h2,h3,e⟩:=kO.mp b1
  rcases kk k h1 h2 with⟨_,y1,y2,y3,y4⟩|⟨y,_⟩
  .have:=a3 _ (nh.mpr ⟨k,h1,h2,rfl⟩)
   refine⟨by lia,by lia,?_⟩
   rcases a1 with e'|e'
   .lia
   .obtain⟨k',g1,g2,e'⟩:=nh.mp e'
    rcases kk k' g1 g2 with⟨w0,w1,w2,w3,w4⟩|⟨_,w⟩
    .have:=b2 _ (kO.mpr ⟨k',g1,g2,w0,rfl⟩)
     lia
    .lia
  .exact absurd h3 y
def BW {es:ao Int}{ts:ao Tk}(hs:∀ a i j,i<es.length->j<=i->es.getD j 0<=(jj es ts a).getD i 0):∀ a,Hf es.length (lE es ts a) (gw es ts a)
 |0=>λi j hi hj=>⟨λh=>by show lL _ i j=0;unfold lL;rw[aB h],λh=>.inl ⟨rfl,by show lL _ i j=_;unfold lL;rw[aC (by lia)]⟩⟩
 |a+1=>Hw (hs a) (BW hs a)
def Ky {es:ao Int}{ts:ao Tk}{a:Int}(h:∀ t∈ts,t.2≠a):jj es ts a=jj es ts (a - 1):=by
 unfold jj
 apply bN
 intro e _
 rw[lG,lG]
 congr 2
 apply List.filter_congr
 intro t ht
 have:=h t ht
 exact decide_eq_decide.mpr ⟨λq=>by lia,λq=>by lia⟩
def KD {es:ao Int}{ts:ao Tk}{a:Int}(h:∀ t∈ts,a<t.2):jj es ts a=es:=by
 unfold jj
 have:es.map (kn es ts a)=es.map id:=by
  apply bN
  intro e _
  rw[lG]
  have:(ts.filter λt=>decide (t.2<=a))=[]:=by
   rw[List.filter_eq_nil_iff]
   intro t ht
   have:=h t ht
   simp;lia
  rw[this];rfl
 rw[this,List.map_id]
def getD_some {xs:ao Int}{i:Nat}(h:i<xs.length):xs[i]?=some (xs.getD i 0):=by rw[aA,jk h];rfl
def Ff {es:ao Int}(hu:es.Pairwise (·<·)){i j:Nat}(hi:i<es.length)(h:j<=i):es.getD j 0<=es.getD i 0:=yF hu j i _ _ h (getD_some (by lia)) (getD_some hi)
def KC {es:ao Int}{ts:ao Tk}{a:Int}(hu:es.Pairwise (·<·))(i j:Nat)(hi:i<es.length)(h:j<=i):es.getD j 0<=(jj es ts a).getD i 0:=by
 have e:=nO (ts:=ts) (a:=a) (getD_some hi)
 rw[aA (l:=jj es ts a),e]
 have:=qF es ts a (es.getD i 0)
 have:=Ff hu hi h
 show _<=kn es ts a (es.getD i 0)
 lia
def My {es:ao Int}(hu:es.Pairwise (·<·)){i j:Nat}(hi:i<es.length)(hj:j<es.length):jR es.length es es (lL es.length) i j=lL es.length i j:=by
 unfold jR
 by_cases q:j<=i
 .rw[aB (Ff hu hi q)];unfold lL;rw[aB q]
 .have pW:i<j:=by lia
  have:=List.pairwise_iff_getElem.mp hu i j hi hj pW
  rw[aC (by
   have e1:=getD_some hi
   have e2:=getD_some hj
   rw[jk hi]at e1
   rw[jk hj]at e2
   rw[<- aM e1,<- aM e2];lia)]
  obtain⟨a1,a2,a3⟩:=kR (nR (lL es.length) i j) ((es.length:Int) - 1)
  have eb:lL es.length i j=(es.length:Int) - 1:=by unfold lL;rw[aC q]
  rw[eb]
  rcases a1 with e|e
  .exact e
  .exfalso
   obtain⟨k,h1,h2,e⟩:=nh.mp e
   have b1:lL es.length i k=(es.length:Int) - 1:=by unfold lL;rw[aC (by lia)]
   have b2:lL es.length k j=(es.length:Int) - 1:=by unfold lL;rw[aC (by lia)]
   lia
def JE {L:Nat}{T T':Nat->Nat->Int}(h:∀ i j,i<L->j<L->T i j=T' i j):jW L T=jW L T':=by
 unfold jW
 apply bN
 intro i hi
 rw[oC λj hj=>h i j (List.mem_range.mp hi) hj]
def xJ:∀ {xs ys:ao D} {i:Nat} {x y:D},ml xs ys=true->xs[i]?=some x->ys[i]?=some y->lQ x y=true
 |[],_,i,_,_,_,h1,_=>by simp at h1
 |_::_,[],i,_,_,_,_,h2=>by simp at h2
 | x::xs,y::ys,0,_,_,h,h1,h2=>by
  unfold ml at h;rw[bJ]at h
  simp at h1 h2;subst h1;subst h2;exact h.1
 | x::xs,y::ys,i+1,_,_,h,h1,h2=>by
  unfold ml at h;rw[bJ]at h
  exact xJ h.2 (by simpa using h1) (by simpa using h2)
def O2 {L:Nat}{S T:Nat->Nat->Int}(h:lQ (.lst (jW L S)) (.lst (jW L T))=true):∀ i j,i<L->j<L->S i j=T i j:=λi j hi hj=>by
 unfold lQ at h
 have h1:=xJ h (mD hi) (mD hi)
 unfold lQ at h1
 have h2:=xJ h1 (kJ hj) (kJ hj)
 unfold lQ at h2
 exact eq_of_beq h2
def LG {es:ao Int}{ts:ao Tk}{k:Nat}(hf:∀ i j,i<es.length->j<es.length->jR es.length es (jj es ts ((k:Int) - 1)) (gw es ts k) i j=gw es ts k i j)(hn:∀ t∈ts,t.2≠(k:Int))(i j:Nat)(hi:i<es.length)(hj:j<es.length):gw es ts (k+1) i j=gw es ts k i j:=by
 show jR es.length es (jj es ts k) (gw es ts k) i j=_
 rw[Ky hn];exact hf i j hi hj
def CL {es:ao Int}{ts:ao Tk}{k:Nat}(h:∀ i j,i<es.length->j<es.length->gw es ts (k+1) i j=gw es ts k i j)(i j:Nat)(hi:i<es.length)(hj:j<es.length):jR es.length es (jj es ts (((k+1:Nat):Int) - 1)) (gw es ts (k+1)) i j=gw es ts (k+1) i j:=by
 rw[show((k+1:Nat):Int) - 1=(k:Int) by lia,Ht (P':=gw es ts k) hi hj h];rfl
def Iv {n:Int}{cs:ao Int}{ts:ao Tk}(S:iC n cs ts)(i j:Nat)(hi:i<(fH n cs).length)(hj:j<(fH n cs).length):jR (fH n cs).length (fH n cs) (jj (fH n cs) ts (((0:Nat):Int) - 1)) (gw (fH n cs) ts 0) i j=gw (fH n cs) ts 0 i j:=by
 rw[KD λt ht=>by have:=(S.takes.ok t ht).2.2.1;lia]
 exact My (iD S.n1 S.jD) hi hj
def CZ {L i j:Nat}{f:Nat->Int}(hj:j<=L):cutD (iZ L f) (some ((i:Int)+1)) (some (j:Int))=(List.range (j - (i+1))).map λx=>D.int (f (i+1+x)):=by
 unfold cutD
 rw[ng,show HT.oB L 0 (some ((i:Int)+1))=min (i+1) L from HT.mU L 0 (i+1),HT.mU,cu hj]
 rcases Nat.lt_or_ge (i+1) j with q|q
 .rw[cu (aW (dU q) hj)]
  apply cC
  intro x
  rw[List.getElem?_take,oU]
  by_cases hx:x<j - (i+1)
  .rw[aB hx,c3,bB hx,kJ (by lia)];rfl
  .rw[aC hx,List.getElem?_eq_none_iff.mpr (by rw[u7];exact Nat.not_lt.mp hx)];rfl
 .rw[Nat.sub_eq_zero_of_le q,Nat.sub_eq_zero_of_le (Nat.le_min.mpr ⟨q,hj⟩)];rfl
def Jp {L:Nat}{P:Nat->Nat->Int}{i j:Nat}:List.zipWith (λa b:Int=>a+b+1) ((List.range (j - (i+1))).map λx=>P i (i+1+x)) ((List.range (j - (i+1))).map λx=>P (i+1+x) j)=nR P i j:=by
 unfold nR
 rw[dW]
 generalize List.range (j - (i+1))=xs
 induction xs with
 |nil=>rfl
 |cons x xs ih=>rw[bP,ih];rfl
def zc {ds:ao D}{L:Nat}(g:Nat->D)(hl:ds.length=L)(h:∀ i,i<L->ds[i]?=some (g i)):nV ds=(List.range L).map λi=>D.tup [.int (i:Nat),g i]:=by
 unfold nV
 apply cC
 intro i
 rw[bV,oU,hl]
 by_cases hi:i<L
 .rw[bB hi,h i hi];rfl
 .rw[List.getElem?_eq_none_iff.mpr (by rw[u7];lia)];rfl
def OV {es:ao Int}:nV (es.map D.int)=(List.range es.length).map λj=>D.tup [.int (j:Nat),.int (es.getD j 0)] :=
 zc _ (iu ..) λi hi=>by rw[oU,getD_some hi];rfl
def LQ {L:Nat}{P:Nat->Nat->Int}{own:ao Int}(hl:own.length=L):nV (List.zipWith (λa b=>D.tup [a,b]) (jW L P) (own.map D.int))=(List.range L).map λi=>D.tup [.int (i:Nat),.tup [.lst (iZ L (P i)),.int (own.getD i 0)]] :=
 zc (λi=>.tup [.lst (iZ L (P i)),.int (own.getD i 0)]) (by rw[bO,lD,iu];lia) λi hi=>by rw[bV,mD hi,oU,getD_some (by lia)];rfl
def Hr {L k:Nat}{T:Nat->Nat->Int}:((List.range (k+1)).map λi=>D.lst (iZ L (T i)))=((List.range k).map λi=>D.lst (iZ L (T i)))++[.lst (iZ L (T k))]:=by rw[c8,bh];rfl
def Of {n:Nat}(L k:Nat)(f:Nat->Nat->Int):uh n ((List.range k).map λi=>D.lst (iZ L (f i))):=xb λd hd=>by obtain⟨i,_,rfl⟩:=List.mem_map.mp hd;exact Gd L _
def Jq {ls rs:ao Int}:List.zipWith (λa b=>D.tup [a,b]) (ls.map D.int) (rs.map D.int)=(ls.zip rs).map λp=>D.tup [.int p.1,.int p.2]:=by
 rw[dW,List.zip,List.map_zipWith]
def Jm {ls rs:ao Int}:(ls.zip rs).map (λp=>D.int (p.1+p.2+1))=(List.zipWith (λa b=>a+b+1) ls rs).map D.int:=by
 rw[List.zip,List.map_zipWith,List.map_zipWith]
def Vz {i j k:Nat}{ρ:DE}{μ:MS}{K:Bool->MS->Prop}(ch:Bool)(now:Int)(Pu:ao Int)(h8:ρ[i]?=some (some (.bl ch)))(h10:ρ[j]?=some (some (.int now)))(h6:ρ[k]?=some (some (.lst (Pu.map D.int))))(h:∀ c,(c=false->ch=false/\now∉Pu)->K c μ):LW (pB (vz i)) (pB (wc (X9 false) (vz j) (vz k))) ρ μ K:=by
 unfold LW pB wc vz
 rw[h8,h10,h6]
 show if ch=true then K true μ else _
 by_cases q:ch=true
 .rw[aB q];exact h true λz=>by cases z
 .rw[aC q]
  refine⟨rfl,by rw[List.all_map];exact List.all_eq_true.mpr λx _=>rfl,?_⟩
  refine h _ λz=>⟨by cases ch with|true=>exact absurd rfl q|false=>rfl,λhm=>?_⟩
  have z2:((Pu.map D.int).any λd=>lQ d (.int now))=false:=by cases q2:((Pu.map D.int).any λd=>lQ d (.int now))with|true=>rw[q2]at z;exact absurd z (by decide)|false=>rfl
  rw[fj]at z2
  exact z2 _ (List.mem_map_of_mem hm) (by unfold lQ;exact beq_self_eq_true now)
def KU {n:Nat}{x y:D}{μ:MS}{K:DK}(e:x=y)(h:nA n x)(hs:(Ve x x).isSome=true)(k:K (.bl false) μ):T4 n true x y μ K:=by
 subst e
 refine⟨oz h,oz h,hs,?_⟩
 rw[AU x n (oz h)]
 exact k
def vV:j5:=λds μ K=>match ds with
 |[.lst b]=>b.length<=2000/\K (.int ((b.length:Int) - 1)) μ
 |_=>False
def AL:j5:=λds μ K=>match ds with
 |[.lst b]=>b.length<=2000/\K (.lst (jW b.length (lL b.length))) μ
 |_=>False
def tP:j5:=λds μ K=>match ds with
 |[.lst l,.lst r,.int m]=>∃ ls rs:ao Int,l=ls.map D.int/\r=rs.map D.int/\ls.length<=2000/\rs.length<=2000/\K (.int ((List.zipWith (λa b=>a+b+1) ls rs).foldl min m)) μ
 |_=>False
def tO:j5:=λds μ K=>match ds with
 |[.lst b,.lst c,.lst l]=>∃(es own:ao Int) (P:Nat->Nat->Int),b=es.map D.int/\c=own.map D.int/\own.length=es.length/\es.length<=2000/\l=jW es.length P/\K (.lst (jW es.length (jR es.length es own P))) μ
 |_=>False
def pH (es:ao Int)(ts:ao Tk)(k:Nat):ao D:=(List.range k).map λa=>D.lst (jW es.length (gw es ts (a+1)))
def nQ (k:Nat):ao Key:=(List.range k).map λa=>(Sum.inl ((a:Nat):Int):Key)
def tQ:j5:=λds μ K=>match ds with
 |[.int n,.lst x,.lst y,.int a]=>∃(cs:ao Int) (ts:ao Tk),x=cs.map D.int/\y=ts.map mM/\iC n cs ts/\0<=a/\a<=1000/\K (.jC (nQ (a.toNat+1)) (pH (fH n cs) ts (a.toNat+1))) μ
 |_=>False
def K9 (k:Nat):(Sum.inl ((k:Nat):Int):Key)∉nQ k:=λh=>by
 obtain⟨a,ha,e⟩:=List.mem_map.mp h
 rw[cg]at ha
 have:=Sum.inl.inj e
 lia
def Eo (k:Nat):nQ (k+1)=nQ k++[Sum.inl ((k:Nat):Int)]:=by unfold nQ;rw[c8,bh];rfl
def DL (es:ao Int)(ts:ao Tk)(k:Nat):pH es ts (k+1)=pH es ts k++[.lst (jW es.length (gw es ts (k+1)))]:=by unfold pH;rw[c8,bh];rfl
def GS:∀ {xs:ao Nat} {k:Nat} (g:Nat->D),k∈xs->uG ((xs.map λa=>(Sum.inl ((a:Nat):Int):Key)).zip (xs.map g)) (.inl (k:Int))=some (g k)
 | x::xs,k,g,h=>by
  rw[aw,aw,cL]
  unfold uG
  rw[cx]
  by_cases e:x=k
  .subst e;simp
  .have:¬ (Sum.inl ((x:Nat):Int):Key)=Sum.inl ((k:Nat):Int):=λz=>e (by have:=Sum.inl.inj z;lia)
   simp only[this,decide_false]
   exact GS g (by rcases List.mem_cons.mp h with q|q;exact absurd q.symm e;exact q)
structure Q6 (es:List Int)(F:Int->Int):Prop where
 mem:∀ e∈es,F e∈es
 ge:∀ e,e<=F e
 mono:∀ a∈es,∀ b∈es,a<=b->F a<=F b
def B8 {n:Int}{cs:ao Int}{ts:ao Tk}(S:iC n cs ts)(a:Int):Q6 (fH n cs) (kn (fH n cs) ts a):=by
 refine⟨λe he=>Cb he,λe=>qF _ _ _ _,λa' ha b hb Gp=>?_⟩
 obtain⟨i,hi,e1⟩:=aX ha
 obtain⟨j,hj,e2⟩:=aX hb
 have g1:(fH n cs)[i]?=some a':=by rw[jk hi,e1]
 have g2:(fH n cs)[j]?=some b:=by rw[jk hj,e2]
 exact HH S i j _ _ (wA (iD S.n1 S.jD) g1 g2 Gp) (nO g1) (nO g2)
def SR {es:ao Int}(hu:es.Pairwise (·<·)){x:Int}(hx:x∈es)(g:Int->Int):rowAt es (es.map g) x=g x:=by
 unfold rowAt
 rw[oU,qJ hx];rfl
def KS {es:ao Int}{ts:ao Tk}{a:Int}(hu:es.Pairwise (·<·)){g:Int->Int}(hg:∀ e∈es,g e∈es):lH es ts (es.map g) a=es.map λe=>max (kn es ts a e) (g (g e)):=by
 apply cC
 intro i
 by_cases hi:i<es.length
 .have he:es[i]?=some es[i]:=jk hi
  have hm:=bI hi
  rw[vI (nO he) (by rw[oU,he];rfl:(es.map g)[i]?=some (g es[i])),oU,he,SR hu (hg _ hm)]
  rfl
 .rw[List.getElem?_eq_none_iff.mpr (by rw[(An (⟨iu ..,λx hx=>by obtain⟨e,he,rfl⟩:=List.mem_map.mp hx;exact hg e he⟩:ue es (es.map g))).len];lia),List.getElem?_eq_none_iff.mpr (by rw[iu];lia)]
def Pb {l:ao Nat}{a b:Int}{c:Nat}(ha:0<=a)(hb:0<=b)(h:c∈oi l a b):∃ k:Nat,a<=k/\(k:Int)<b/\l[k]?=some c:=by
 obtain⟨i,rfl⟩:=cE ha
 obtain⟨j,rfl⟩:=cE hb
 rw[xO]at h
 obtain⟨t,ht,e⟩:=aX h
 have g:((l.drop i).take (j - i))[t]?=some c:=by rw[jk ht,e]
 have ht:t<j - i:=aL ht (List.length_take_le ..)
 rw[bT ht,c3]at g
 exact⟨i+t,Int.ofNat_le.mpr (aR _ _),by lia,g⟩
def VZ {k:Key}{u:ak}(h:xj k u=true):gD (kV k) u:=by
 rcases i7 h with⟨i,t,rfl,rfl⟩|⟨x,t,rfl,rfl⟩
 .exact⟨t,rfl⟩
 .exact⟨t,rfl⟩
def N1 {κ:Type}{kvs:ao (κ×V)}{vs:ao (κ×ak)}(h:KV kvs vs):∀ {i:Nat} {p:κ×V},kvs[i]?=some p->∃ v,vs[i]?=some (p.1,v):=by
 unfold KV at h
 induction h with
 |nil=>intro i p e;simp at e
 | @cons a b as bs r _ ih =>
  intro i p e
  cases i with
  | zero =>
   simp at e
   subst e
   refine⟨b.2,?_⟩
   rw[r.1];rfl
  |succ i=>exact ih (by simpa using e)
def La:Key->D
 |.inl i=>.int i
 |.inr z=>.str z
def Ox {φ:ao ai}{H:Hp}(k:Key):je φ H (La k) (kV k):=by cases k<;>rfl
def IA (μ:MS)(k:Nat):aq (ao Key×ao D):=match μ[k]? with|some (.jC ks ds)=>some (ks,ds)|some (.vw _ kvs ds)=>some (kvs.map (·.1),ds)|_=>none
def O1 {φ:ao ai}{H:Hp}{μ:MS}{k:Nat}{ks:ao Key}{ds:ao D}{v:V}(M:gC φ H μ)(i:je φ H (.mr k) v)(h:IA μ k=some (ks,ds)):∃ p kvs,φ[k]?=some p/\v=.ref p/\Rd H p (.dK kvs)/\kvs.map (·.1)=ks/\fZ φ H ds (kvs.map (·.2)):=by
 obtain⟨p,hp,rfl⟩:=i
 unfold IA at h
 split at h
 .rename_i e;cases h
  obtain⟨q,e1,kvs,vs,h1,h2,h3,h4⟩:=M.at_ k _ e
  rw[hp]at e1;cases e1
  subst h3
  exact⟨p,kvs,hp,rfl,.inl h1,h2,h4⟩
 .rename_i e;cases h
  obtain⟨q,e1,h1,h4⟩:=M.at_ k _ e
  rw[hp]at e1;cases e1
  exact⟨p,_,hp,rfl,.inr ⟨_,h1⟩,rfl,h4⟩
 .cases h
def CS {φ:ao ai}{H:Hp}{k:Key}{d:D}{v:V}(hd:je φ H d v){kd:ao (Key×D)}{kv:ao (Key×V)}(e:kv.map (·.1)=kd.map (·.1))(ha:fZ φ H (kd.map (·.2)) (kv.map (·.2))):(putK kv k v).map (·.1)=(dput kd k d).map (·.1)/\fZ φ H ((dput kd k d).map (·.2)) ((putK kv k v).map (·.2)):=by
 have ea:(kv.any λp=>decide (p.1=k))=kd.any λp=>decide (p.1=k):=by
  have:(kv.map (·.1)).any (λx=>decide (x=k))=(kd.map (·.1)).any λx=>decide (x=k):=by rw[e]
  rw[d7,d7]at this
  exact this
 unfold putK dput
 rw[ea]
 by_cases q:(kd.any λp=>decide (p.1=k))=true
 .rw[aB q,aB q]
  clear q ea
  induction kd generalizing kv with
  | nil =>
   cases kv with
   |nil=>exact⟨rfl,rfl⟩
   |cons _ _=>cases e
  | cons p kd ih =>
   cases kv with
   |nil=>cases e
   | cons p' kv =>
    simp only[aw,b9]at e
    obtain⟨v0,r,e2,h4,h5⟩:=ha
    simp only[aw,b9]at e2
    obtain⟨rfl,rfl⟩:=e2
    obtain⟨i1,i2⟩:=ih e.2 h5
    by_cases hk:p.1=k
    .have Dv:p'.1=k:=by rw[e.1,hk]
     simp only[aw,aB hk,aB Dv]
     exact⟨by rw[i1,e.1],_,_,rfl,hd,i2⟩
    .have Dv:¬ p'.1=k:=by rw[e.1];exact hk
     simp only[aw,aC hk,aC Dv]
     exact⟨by rw[i1,e.1],_,_,rfl,h4,i2⟩
 .rw[aC q,aC q,bh,bh,bh,bh]
  exact⟨by rw[e];rfl,ha.app ⟨v,[],rfl,hd,rfl⟩⟩
section
variable {X:Cx}{a b e:Expr}{pos:Pos}
def ixM (μ:MS)(j:Nat)(y:D):aq (aq D):=(IA μ j).bind λq=>(yp y).map λk=>uG (q.1.zip q.2) k
def dIxKM:sy:=λx y μ K=>match x with
 |.mr j=>∃ d,ixM μ j y=some (some d)/\K d μ
 |_=>False
def T6 (w wo wi:De):Ds:=λN ρ μ=>w ρ μ λd gr=>wo ρ gr λo iE=>wi ρ iE λi rh=>match o with
 |.mr j=>∃ kd XO:ao (Key×D),rh[j]?=some (.jC (kd.map (·.1)) (kd.map (·.2)))/\kd.length<sizeLine/\(yp i).map (λk=>dput kd k d)=some XO/\N.nx ρ (rh.set j (.jC (XO.map (·.1)) (XO.map (·.2))))
 |_=>False
def FC {o i:Expr}{w wo wi:De}{pos':Pos}(hu:X.A.units+1<cLine)(he:PD X e w)(ho:PD X o wo)(hi:PD X i wi)(hs:swapsWith e (some (.Subscript o i pos')) pos.line X.env=pure false:=by rfl):
 yy X (.Assign [.Subscript o i pos'] e pos) (T6 w wo wi):=(Ae hu ho hi he hs).imp λE σ H hq=>by
 obtain⟨φ,ρ,μ,N,A,M,w,L⟩:=hq
 refine⟨φ,ρ,μ,_,A,M,w,λd gr gN v1 H1 k1 f1 M1 i1=>?_⟩
 refine⟨gN,ρ,gr,_,A.mono f1,M1,k1,λd2 iE kQ v2 H2 k2 f2 M2 i2=>?_⟩
 refine⟨kQ,ρ,iE,_,A.mono (f1.trans f2),M2,k2,λd3 rh BE v3 H3 k3 f3 M3 i3=>?_⟩
 cases d2 with
 | mr j =>
  obtain⟨kd,XO,em,hl,ek',k3⟩:=k3
  obtain⟨k,ek,rfl⟩:=Option.map_eq_some_iff.mp ek'
  obtain⟨p,hp,rfl⟩:=i2.mono f3
  obtain⟨p',e1,kvs,vs,hv,h1,h2,ha⟩:=M3.at_ j _ em
  rw[hp]at e1;cases e1
  subst h2
  cases qI ek i3
  have f4:Fr BE H3 BE (upd H3 p (.dK (putK kvs k v1))):=.put (mw hp)
  obtain⟨g1,g2⟩:=CS (k:=k) ((i1.mono (f2.trans f3)).mono f4) h1 (ha.mono f4)
  refine⟨p,_,rfl,Bo.k hv (by have:=cA List.length h1;rw[iu,iu]at this;lia),?_⟩
  have M4:=M3.put (k:=j) (p:=p) (o:=.dK (putK kvs k v1)) (m:=.jC ((dput kd k d).map (·.1)) ((dput kd k d).map (·.2))) hp ⟨putK kvs k v1,_,gh,g1,rfl,g2⟩
  exact L.nx ρ _ BE σ _ k3 ((f1.trans (f2.trans f3)).trans f4) (A.mono ((f1.trans (f2.trans f3)).trans f4)) M4
 |_=>exact k3.elim
end
def MU (l1 l2:ao Nat)(p:Int):ao Nat:=l1.take p.toNat++l2.drop p.toNat
def Bi (cs:ao Int)(ts:ao Tk):Nat->ao Nat->Int->Prop
 |0,l,a=>(l,a)∈ts
 |r+1,l,a=>Bi cs ts r l a\/∃ l1 a1 l2 a2 p,Bi cs ts r l1 a1/\Bi cs ts r l2 a2/\p∈cs/\l=MU l1 l2 p/\a=max a1 a2+1
def Bi.up {cs:ao Int}{ts:ao Tk}{l:ao Nat}{a:Int}{r:Nat}(h:Bi cs ts r l a):∀ k,Bi cs ts (r+k) l a
 |0=>h
 |k+1=>.inl (Bi.up h k)
def Bi.le {cs:ao Int}{ts:ao Tk}{l:ao Nat}{a:Int}{r r':Nat}(h:Bi cs ts r l a)(hr:r<=r'):Bi cs ts r' l a:=by
 have:=h.up (r' - r);rwa [show r+(r' - r)=r' by lia]at this
def tw {l1 l2:ao Nat}{p:Int}{k:Nat}(h:p<=l1.length)(hk:(k:Int)<p):(MU l1 l2 p)[k]?=l1[k]?:=by
 unfold MU
 rw[vR (by rw[bH];lia),List.getElem?_take,aB (by lia)]
def qk {l1 l2:ao Nat}{p:Int}{k:Nat}(h0:0<=p)(h:p<=l1.length)(hk:p<=(k:Int)):(MU l1 l2 p)[k]?=l2[k]?:=by
 unfold MU
 rw[pX (by rw[bH];lia),bH,c3]
 congr 1;lia
def OC {l1 l2:ao Nat}{p:Int}(h0:0<=p)(h1:p<=l1.length)(h:l1.length=l2.length):(MU l1 l2 p).length=l1.length:=by
 unfold MU
 rw[oq,bH,bA];lia
def SH {l1 l2:ao Nat}{p:Int}(h1:OX l1)(h2:OX l2):OX (MU l1 l2 p):=λc hc=>by
 rcases List.mem_append.mp hc with q|q
 .exact h1 c (ba q)
 .exact h2 c (dM q)
def Bi.good {n:Int}{cs:ao Int}{ts:ao Tk}(S:iC n cs ts):∀ {r:Nat} {l:ao Nat} {a:Int},Bi cs ts r l a->(l.length:Int)=n/\OX l/\0<=a/\a<=60+r
 |0,l,a,h=>by have:=S.takes.ok (l,a) h;exact⟨this.1,this.2.1,this.2.2.1,by have:=this.2.2.2;simp at this ⊢;lia⟩
 | r+1,l,a,h=>by
  rcases h with h|⟨l1,a1,l2,a2,p,h1,h2,hp,rfl,rfl⟩
  .have:=Bi.good S h;exact⟨this.1,this.2.1,this.2.2.1,by lia⟩
  .have g1:=Bi.good S h1
   have g2:=Bi.good S h2
   have AB:=S.jD.Jb p hp
   exact⟨by rw[OC (by lia) (by lia) (by lia)];exact g1.1,SH g1.2.1 g2.2.1,by lia,by lia⟩
def PJ (l:ao Nat)(e x:Int):Prop:=∀ k:Nat,e<=k->(k:Int)<x->l[k]?=some 111
def GB {es:ao Int}{l:ao Nat}{e x:Int}(ho:OX l)(h0:0<=e)(he:e<=l.length)(hx:x<=jE es l e):PJ l e x:=λk h1 h2=>by
 have ct:=uK ho (e:=e.toNat) (by lia)
 have:jE es l e<=max e (sh l e.toNat:Int):=by
  unfold jE
  rcases lJ (es.filter λx=>decide (x<=(sh l e.toNat:Int))) e with q|q
  .rw[q];lia
  .have:=cn (List.mem_filter.mp q).2;lia
 have c1:=ct.1
 exact ct.2.2.1 k (by lia) (by lia)
def A3 {es:ao Int}{l:ao Nat}{e x:Int}(ho:OX l)(h0:0<=e)(hex:e<=x)(hx:x<=l.length)(hm:x∈es)(h:PJ l e x):x<=jE es l e:=by
 refine zq ho h0 hx hex hm λz=>?_
 obtain⟨k,k1,k2,k3⟩:=Pb h0 (by lia) z
 rw[h k k1 k2]at k3
 cases k3
def RF (es:ao Int)(ts:ao Tk):Nat->Int->Int
 |0=>kn es ts 0
 |a+1=>λe=>max (kn es ts ((a:Int)+1) e) (RF es ts a (RF es ts a e))
def mC {n:Int}{cs:ao Int}{ts:ao Tk}(S:iC n cs ts):∀ a,Q6 (fH n cs) (RF (fH n cs) ts a)
 |0=>B8 S 0
 | a+1=>by
  have h:=mC S a
  have g:=B8 S ((a:Int)+1)
  refine⟨λe he=>max_mem (g.mem e he) (h.mem _ (h.mem e he)),λe=>?_,λx hx y hy Ze=>?_⟩
  .have:=g.ge e
   show e<=max _ _
   lia
  .have g1:=g.mono x hx y hy Ze
   have g2:=h.mono _ (h.mem x hx) _ (h.mem y hy) (h.mono x hx y hy Ze)
   show max _ _<=max _ _
   lia
def FE {n:Int}{cs:ao Int}{ts:ao Tk}(S:iC n cs ts):∀ a,gO (fH n cs) ts a=(fH n cs).map (RF (fH n cs) ts a)
 |0=>rfl
 | a+1=>by
  show lH (fH n cs) ts (gO (fH n cs) ts a) _=_
  rw[FE S a,KS (iD S.n1 S.jD) (mC S a).mem]
  rfl
def Xd {n:Int}{cs:ao Int}{ts:ao Tk}(S:iC n cs ts)(a:Nat)(e:Int):RF (fH n cs) ts a e<=RF (fH n cs) ts (a+1) e:=by
 have:=(mC S a).ge (RF (fH n cs) ts a e)
 show _<=max _ _
 lia
def Ui {n:Int}{cs:ao Int}{ts:ao Tk}(a:Nat)(e:Int):kn (fH n cs) ts a e<=RF (fH n cs) ts a e:=by
 cases a with
 |zero=>exact bU _
 |succ a=>show kn (fH n cs) ts (((a+1:Nat):Int)) e<=max (kn (fH n cs) ts ((a:Int)+1) e) _;rw[show((a+1:Nat):Int)=(a:Int)+1 by lia];lia
def tm {n:Int}{cs:ao Int}{ts:ao Tk}(S:iC n cs ts):∀ {r:Nat} {l:ao Nat} {b:Int} {a:Nat},Bi cs ts r l b->b<=a->∀ e x,e∈fH n cs->x∈fH n cs->e<=x->PJ l e x->x<=RF (fH n cs) ts a e
 | 0,l,b,a,h,hb,e,x,he,hx,hex,hc=>by
  have ok:=S.takes.ok (l,b) h
  have UL:=jw S.n1 S.jD he
  have hx2:=jw S.n1 S.jD hx
  have g1:=A3 ok.2.1 UL.1 hex (by have:=ok.1;simp at this;lia) hx hc
  have g2:=sU (es:=fH n cs) (e:=e) h (show(l,b).2<=(a:Int)from hb)
  have g3:=Ui (n:=n) (cs:=cs) (ts:=ts) a e
  exact cD g1 (cD g2 g3)
 | r+1,l,b,a,h,hb,e,x,he,hx,hex,hc=>by
  rcases h with h|⟨l1,a1,l2,a2,p,h1,h2,hp,rfl,rfl⟩
  .exact tm S h hb e x he hx hex hc
  .have g1:=Bi.good S h1
   have g2:=Bi.good S h2
   have AB:=S.jD.Jb p hp
   cases a with
   |zero=>lia
   | succ a =>
    have hs:=mC S a
    have pm:p∈fH n cs:=by unfold fH;simp[hp]
    have up:=Xd S a e
    have i1:=tm S (a:=a) h1 (by lia)
    have i2:=tm S (a:=a) h2 (by lia)
    by_cases q1:x<=p
    .have:=i1 e x he hx hex λk k1 k2=>by rw[<- tw (l2:=l2) (p:=p) (by lia) (by lia)];exact hc k k1 k2
     lia
    .by_cases q2:p<=e
     .have:=i2 e x he hx hex λk k1 k2=>by rw[<- qk (l1:=l1) (p:=p) (by lia) (by lia) (by lia)];exact hc k k1 k2
      lia
     .have j1:=i1 e p he pm (by lia) λk k1 k2=>by rw[<- tw (l2:=l2) (p:=p) (by lia) (by lia)];exact hc k k1 (by lia)
      have j2:=i2 p x pm hx (by lia) λk k1 k2=>by rw[<- qk (l1:=l1) (p:=p) (by lia) (by lia) (by lia)];exact hc k (by lia) k2
      have j3:=hs.mono p pm _ (hs.mem e he) j1
      show x<=max _ _
      lia
def Pd {l:ao Nat}{n:Int}(hl:(l.length:Int)=n)(h:PJ l 0 n):l=List.replicate n.toNat 111:=by
 apply cC
 intro k
 by_cases q:k<l.length
 .rw[h k (by lia) (by lia),eV,aB (by lia)]
 .rw[List.getElem?_eq_none_iff.mpr (by lia),List.getElem?_eq_none_iff.mpr (by rw[aZ];lia)]
def Pq (n e x:Int)(h:x<=n)(h0:0<=e):PJ (List.replicate n.toNat 111) e x:=λk k1 k2=>by
 rw[eV,aB (by lia)]
def J3:R2:=λx y H Q=>∃ p q vs,x=.ref p/\y=.ref q/\H p=some (.lst vs)/\H q=some (.lst [])/\Q (.bl (!vs.isEmpty)) H
def VL {X:Cx}(hu:X.A.units+1<cLine):kU X (compareOp .NotEq) J3:=by
 intro fI s σ H x y u v Q I rx ry h
 obtain⟨p,q,vs,rfl,rfl,hp,hq,k⟩:=h
 cases rx
 cases ry
 obtain⟨gp,rv,pl,_⟩:=I.list (pF.of hp)
 obtain⟨xX,By,ql,_⟩:=I.list (pF.of hq)
 cases By
 have fin:EP X fI σ Q (.bool (!vs.isEmpty)) s:=⟨.bl _,H,I,rfl,k⟩
 cases rv with
 | nil =>
  have:=SeqAt.RcNeAt.lists (A:=X.A) (e:=λ_=>true) pl.isList ql.isList rfl (by lia) λj h1 h2=>absurd h1 (Nat.not_lt_zero _)
  exact this X.prog X.w X.xe _ fin
 | cons r rs =>
  exact SeqAt.RcNeAt.lists_lengths pl.isList ql.isList (by simp) (by lia) X.prog X.w X.xe _ fin
def L9:sy:=λx y μ K=>match y with
 |.lst []=>opt (lv μ x) λds=>K (.bl (!ds.isEmpty)) μ
 |_=>False
def JN:om J3 L9:=λφ H x y dx dy μ K Q M hx hy k L=>by
 unfold L9 at k
 split at k
 .obtain⟨ds,el,k⟩:=hX k
  obtain⟨p,vs,rfl,hp,ha⟩:=jY M hx el
  obtain⟨q,ws,rfl,_,hq,hb⟩:=hy
  cases(show ws=[]from hb)
  have e:vs.isEmpty=ds.isEmpty:=by
   have:=ha.len
   cases vs<;>cases ds<;>first|rfl|(simp at this)
  exact⟨p,q,vs,rfl,rfl,hp,hq,by rw[e];exact L.val M k rfl⟩
 .exact k.elim
def Kv {k i j:Nat}{S:Nat->Nat->Int}{g:MS}{v:Int}(RM:lj k (jX S i j) g)(hi:i<k)(hj:j<k)(hv:S i j=v):lj k (jX S i (j+1)) (g.set i (.lst ((iZ k (jX S i j i)).set j (.int v)))) :=
 (RM.put hi hj v).ext λa b _ _=>by
  clear RM
  unfold jX
  by_cases q:a=i/\b=j
  .rw[aB q,q.1,q.2,<- hv,aB (.inr ⟨rfl,bL _⟩)]
  .rw[aC q]
   by_cases h1:a<i\/(a=i/\b<j)
   .rw[aB h1,aB (h1.imp_right λz=>⟨z.1,bc z.2⟩)]
   .rw[aC h1,aC (by lia)]
def HE {k i j:Nat}{S:Nat->Nat->Int}{g:MS}(RM:lj k (jX S i j) g)(h0:S i j=0):lj k (jX S i (j+1)) g:=RM.ext λa b _ _=>by
 clear RM
 unfold jX
 by_cases h1:a<i\/(a=i/\b<j)
 .rw[aB h1,aB (h1.imp_right λz=>⟨z.1,bc z.2⟩)]
 .rw[aC h1]
  by_cases h2:a=i/\b=j
  .rw[aB (.inr ⟨h2.1,by rw[h2.2];exact bL _⟩),h2.1,h2.2,h0]
  .rw[aC (by lia)]
def HG {k i:Nat}{S:Nat->Nat->Int}{g:MS}(S0:∀ a b,b<=a->S a b=0)(RM:lj k (jX S i 0) g):lj k (jX S i (i+1)) g:=RM.ext λa b _ _=>by
 clear RM
 unfold jX
 by_cases h1:a<i
 .rw[aB (.inl h1),aB (.inl h1)]
 .rw[aC (by lia)]
  by_cases h2:a=i/\b<i+1
  .rw[aB (.inr h2),S0 a b (by lia)]
  .rw[aC (by lia)]
def HF {k i j:Nat}{S:Nat->Nat->Int}{g:MS}(hj:k<=j)(RM:lj k (jX S i j) g):lj k (jX S (i+1) 0) g:=RM.ext λa b _ hb=>by
 clear RM
 unfold jX
 by_cases h1:a<i\/(a=i/\b<j)
 .rw[aB h1,aB (by lia)]
 .rw[aC h1,aC (by lia)]
def Kw {k i:Nat}{S:Nat->Nat->Int}(hi:k<=i):jW k (jX S i 0)=jW k S:=by
 unfold jW
 refine bN λa ha=>?_
 rw[cg]at ha
 rw[oC λb _=>by unfold jX;rw[aB (.inl (aL ha hi))]]
def D2 {k:Nat}{S:Nat->Nat->Int}{g:MS}(hg:g.length=k)(Tf:∀ a,a<k->g[a]?=some (.lst (iZ k λ_=>0))):lj k (jX S 0 0) g:=⟨hg,λa ha=>by
 rw[Tf a ha]
 congr 2
 apply oC
 intro j _
 unfold jX
 rw[aC (by lia)]⟩
def Js (es:ao Int):es.map (λ_:Int=>D.int 0)=iZ es.length (λ_=>0):=by
 unfold iZ
 rw[List.map_const',List.map_const',u7]
def IG (i j:Nat):kE (λ_ _=>0) i j=[]:=by
 rw[List.eq_nil_iff_forall_not_mem]
 intro x hx
 obtain⟨k,_,_,h3,_⟩:=kO.mp hx
 simp at h3
def Ng {k:Nat}{T:Nat->Nat->Int}(h:0<k):(jW k T).isEmpty=false:=by
 cases q:jW k T with
 |nil=>have:=lD k T;rw[q]at this;exact absurd this (aD h)
 |cons a b=>rfl
def Uc (T:Nat->Nat->Int)(i j:Nat):(List.range (j - (i+1))).filterMap (λx=>(if 0<T i (i+1+x)*T (i+1+x) j then some (T i (i+1+x)+T (i+1+x) j)else none).map D.int)=(kE T i j).map D.int:=by
 unfold kE;rw[List.map_filterMap]
def AN (n:Int)(cs:ao Int):(fH n cs)[0]?=some 0:=rfl
def oF {es:ao Int}{ts:ao Tk}{a:Int}{i:Nat}{e:Int}(h:es[i]?=some e):(jj es ts a).getD i 0=kn es ts a e:=by rw[aA,nO h];rfl
def getD_at {es:ao Int}{i:Nat}{e:Int}(h:es[i]?=some e):es.getD i 0=e:=by rw[aA,h];rfl
def xF (n:Int)(cs:ao Int):(fH n cs)[cs.length+1]?=some n:=by
 have:=zg n cs
 rwa [gy]at this
def Ab:ao V->Hp->VK->Prop:=λvs H Q=>match vs with
 |[.ref p]=>∃ ns:ao Int,H p=some (.lst (ns.map V.int))/\ns.length<64/\∀ uA:ao Int,uA.Perm ns->uA.Pairwise (·<=·)->∀ q,H q=none->Q (.ref q) (upd H q (.lst (uA.map V.int)))
 |_=>False
def GF:j5:=λds μ K=>match ds with
 |[x]=>∃ ns:ao Int,lv μ x=some (ns.map D.int)/\ns.length<64/\∀ uA:ao Int,uA.Perm ns->uA.Pairwise (·<=·)->K (.lst (uA.map D.int)) μ
 |_=>False
def Hu:mR Ab GF:=λφ H vs ds μ K Q M h k L=>by
 unfold GF at k
 split at k
 .obtain⟨v,r,rfl,h1,h2⟩:=h;cases(show r=[]from h2)
  obtain⟨ns,el,hn,k⟩:=k
  obtain⟨p,vs,rfl,hp,ha⟩:=jY M h1 el
  refine⟨ns,by rw[hp,ha.ints],hn,λuA p1 p2 q hq=>?_⟩
  exact Mz L M (fZ.ofInts uA) (k uA p1 p2) hq
 .exact k.elim
def y8:∀ {ns:ao Int} {vs:ao ak},gE (ns.map V.int) vs->IntsAre vs ns
 |[],_,h=>by cases h;exact .nil
 | n::ns,_,h=>by
  cases h with
  | cons r h =>
   obtain⟨t,rfl⟩:=r
   exact .cons n t (y8 h)
def Nt {X:Cx}:jB X (.builtin "sorted") Ab:=by
 intro fI s σ H vs us Q I rv h
 unfold Ab at h
 split at h
 .rename_i p
  obtain⟨ns,hp,hn,q⟩:=h
  obtain⟨u,rfl,ru⟩:=rv.one
  cases ru
  obtain⟨z,gp,n,r,hl,e⟩:=I.mH hp
  have y7:s.heap.IsList p gp.toArray:=⟨_,e,rfl,n,rfl⟩
  refine sorted_ints y7 (y8 r) (by rw[<- hl,iu];exact hn) λout uA hI p1 p2=>?_
  obtain⟨e',UM⟩:=sortedAll_at s.heap gp out
  have hf:=I.iA.fresh (eT s.heap.objs.size)
  refine⟨.ref (s.heap.objs.size+1),_,I.laid (t':=s.toks) (λb o hb=>sortedAll_old hb) (eT _) (show jg X.prog X.w _ _ _ (.lst (uA.map V.int))from⟨?_,out.toList,e',yE hI,by simpa [seqObj]using UM⟩),rfl,q uA p1 p2 _ hf⟩
  rw[iu,p1.length_eq]
  exact dU (aL hn (by decide))
 .cases h
end L2
namespace L2
open PySem PySem.Spec PyProof.Rows PySem.SeqAt
end L2
namespace L2
open PySem PySem.Spec PyProof.Rows
def E9 (ts xW:ao Tk):Prop:=∀ t∈ts,∃ t'∈xW,t'.2=t.2/\∀ k:Nat,t.1[k]?=some 111->t'.1[k]?=some 111
def E9.refl (ts:ao Tk):E9 ts ts:=λt ht=>⟨t,ht,rfl,λ_ h=>h⟩
structure More (n:Int)(cs:List Int)(ts:List Tk)(q9:List Int)(xW:List Tk):Prop where
 S:iC n cs ts
 S':iC n q9 xW
 sub:∀ c∈cs,c∈q9
 good:E9 ts xW
def More.refl {n:Int}{cs:ao Int}{ts:ao Tk}(S:iC n cs ts):More n cs ts cs ts:=⟨S,S,λ_ h=>h,.refl ts⟩
def More.ends {n:Int}{cs q9:ao Int}{ts xW:ao Tk}(h:More n cs ts q9 xW){e:Int}(he:e∈fH n cs):e∈fH n q9:=by
 unfold fH at he ⊢
 rw[dZ]at he ⊢
 rcases List.mem_cons.mp he with q|q
 .exact List.mem_cons.mpr (.inl q)
 .rcases List.mem_append.mp q with q | q
  .exact nF _ (List.mem_append.mpr (.inl (h.sub e q)))
  .exact nF _ (List.mem_append.mpr (.inr q))
def More.own {n:Int}{cs q9:ao Int}{ts xW:ao Tk}(h:More n cs ts q9 xW){a a' e:Int}(ha:a<=a')(he:e∈fH n cs):kn (fH n cs) ts a e<=kn (fH n q9) xW a' e:=by
 rw[lG (fH n cs)]
 rcases lJ ((ts.filter λt=>decide (t.2<=a)).map λt=>jE (fH n cs) t.1 e) e with q|q
 .rw[q];exact qF _ _ _ _
 .obtain⟨t,ht,et⟩:=List.mem_map.mp q
  obtain⟨t1,t2⟩:=List.mem_filter.mp ht
  rw[<- et]
  obtain⟨t',m',e2,hc⟩:=h.good t t1
  have ok:=h.S.takes.ok t t1
  have ok':=h.S'.takes.ok t' m'
  have UL:=jw h.S.n1 h.S.jD he
  have fm:=xB (l:=t.1) he
  have f2:=(jw h.S.n1 h.S.jD fm).2
  have hl:=ok.1
  have oJ:=ok'.1
  have c:=GB (es:=fH n cs) ok.2.1 UL.1 (by lia) (bU _)
  exact cD (A3 ok'.2.1 UL.1 (GD _ _ _) (by lia) (h.ends fm) λk k1 k2=>hc k (c k k1 k2)) (sU m' (by rw[e2];exact cD (cn t2) ha))
def More.rf {n:Int}{cs q9:ao Int}{ts xW:ao Tk}(h:More n cs ts q9 xW):∀(a:Nat) {e:Int},e∈fH n cs->RF (fH n cs) ts a e<=RF (fH n q9) xW a e
 |0,e,he=>h.own (bU _) he
 | a+1,e,he=>by
  have g:=mC h.S a
  have g':=mC h.S' a
  have i1:=h.rf a he
  have i2:=h.rf a (g.mem e he)
  have i3:=g'.mono _ (h.ends (g.mem e he)) _ (g'.mem e (h.ends he)) i1
  have i4:=h.own (a:=(a:Int)+1) (bU _) he
  show max _ _<=max _ _
  lia
def Qm {n:Int}{cs:ao Int}{ts:ao Tk}(S:iC n cs ts)(a:Nat){i:Nat}{e:Int}(he:(fH n cs)[i]?=some e):(gO (fH n cs) ts a)[i]?=some (RF (fH n cs) ts a e):=by rw[FE S,oU,he];rfl
def More.least {n:Int}{cs q9:ao Int}{ts xW:ao Tk}(h:More n cs ts q9 xW){a:Nat}(hl:iH (fH n cs) ts n a):RF (fH n q9) xW a 0=n:=by
 have e:=hl.at_
 rw[Qm h.S a (AN n cs)]at e
 have e:=aM e
 have:=h.rf a (qQ n cs)
 have:=(jw h.S'.n1 h.S'.jD ((mC h.S' a).mem 0 (qQ n q9))).2
 lia
def least_le {n:Int}{cs:ao Int}{ts:ao Tk}(S:iC n cs ts){a b:Nat}(h:RF (fH n cs) ts a 0=n)(hl:iH (fH n cs) ts n b):b<=a:=by
 by_cases q:b<=a
 .exact q
 .exact absurd (by rw[Qm S a (AN n cs),h]) (hl.low a (by lia))
def Cr {x y:Int}(hx:0<=x)(hy:0<=y)(h:0<x*y):0<x/\0<y:=by
 refine⟨?_,?_⟩
 .rcases Int.lt_or_le 0 x with q | q
  .exact q
  .rw[show x=0 by lia,Int.zero_mul]at h;exact absurd h (by decide)
 .rcases Int.lt_or_le 0 y with q | q
  .exact q
  .rw[show y=0 by lia,Int.mul_zero]at h;exact absurd h (by decide)
def yL {es own:ao Int}{T:Nat->Nat->Int}{i j:Nat}{v:Int}(hT:∀ i j,0<=T i j)(pW:i<j)(hv:v∈kE T i j):0<j9 es own T i j/\j9 es own T i j<=v:=by
 have pos:∀ w∈kE T i j,2<=w:=λw hw=>by
  obtain⟨k,_,_,h3,rfl⟩:=kO.mp hw
  have:=Cr (hT i k) (hT k j) h3
  lia
 have v2:=pos v hv
 have m:=qG (ns:=kE T i j) λz=>by rw[z]at hv;cases hv
 have m1:=pos _ m.1
 have m2:=m.2 v hv
 unfold j9
 rw[aC (by lia)]
 by_cases q:es.getD j 0<=own.getD i 0
 .rw[aB q];lia
 .rw[aC q];lia
def More.tab {n:Int}{cs q9:ao Int}{ts xW:ao Tk}(h:More n cs ts q9 xW):∀(a a':Nat),a<=a'->∀(i j i' j':Nat) (x y:Int),(fH n cs)[i]?=some x->(fH n cs)[j]?=some y->(fH n q9)[i']?=some x->(fH n q9)[j']?=some y ->
 0<lE (fH n cs) ts a i j->0<lE (fH n q9) xW a' i' j'/\lE (fH n q9) xW a' i' j'<=lE (fH n cs) ts a i j
 |0,_,_,i,j,i',j',x,y,_,_,_,_,hp=>absurd hp (Int.lt_irrefl _)
 |a+1,0,ha,_,_,_,_,_,_,_,_,_,_,_=>absurd ha (by lia)
 | a+1,a'+1,ha,i,j,i',j',x,y,hi,hj,OJ,Dw,hp=>by
  have up:=iD h.S.n1 h.S.jD
  have Yo:=iD h.S'.n1 h.S'.jD
  by_cases pW:j<=i
  .exact absurd (show 0<j9 _ _ _ i j from hp) (by unfold j9;rw[aB pW];decide)
  have xy:=lB up hi hj (by lia)
  have Zz:i'<j':=by
   by_cases q:i'<j'
   .exact q
   .have:=yF Yo j' i' _ _ (by lia) Dw OJ;lia
  have bd:=wC (fH n cs) ts a
  have bd':=wC (fH n q9) xW a'
  by_cases q:y<=kn (fH n cs) ts a x
  .have q':=cD q (h.own (a':=(a':Int)) (by lia) (mw hi))
   have e':lE (fH n q9) xW (a'+1) i' j'=1:=by
    show j9 _ _ _ i' j'=1
    unfold j9
    rw[aC (by lia),aB (by rw[getD_at Dw,oF OJ];exact q')]
   rw[e']
   exact⟨by decide,hp⟩
  .have e:lE (fH n cs) ts (a+1) i j=xc (kE (lE (fH n cs) ts a) i j):=by
    show j9 _ _ _ i j=_
    unfold j9
    rw[aC pW,aC (by rw[getD_at hj,oF hi];exact q)]
   rw[e]at hp ⊢
   have m:=qG (ns:=kE (lE (fH n cs) ts a) i j) λz=>by rw[z]at hp;exact absurd hp (by decide)
   obtain⟨k,k1,k2,k3,ek⟩:=kO.mp m.1
   rw[ek]
   have kp:=Cr (bd i k).1 (bd k j).1 k3
   have hk:(fH n cs)[k]?=some ((fH n cs).getD k 0):=getD_some (dR k2 (kM hj).1)
   have mk:=h.ends (mw hk)
   have Dv:=qJ mk
   have r1:=h.tab a a' (by lia) i k i' _ _ _ hi hk OJ Dv kp.1
   have r2:=h.tab a a' (by lia) k j _ j' _ _ hk hj Dv Dw kp.2
   have w1:=lB up hi hk k1
   have w2:=lB up hk hj k2
   have c1:i'<(fH n q9).idxOf ((fH n cs).getD k 0):=by
    by_cases q:i'<(fH n q9).idxOf ((fH n cs).getD k 0)
    .exact q
    .have:=yF Yo _ i' _ _ (by lia) Dv OJ;lia
   have c2:(fH n q9).idxOf ((fH n cs).getD k 0)<j':=by
    by_cases q:(fH n q9).idxOf ((fH n cs).getD k 0)<j'
    .exact q
    .have:=yF Yo j' _ _ _ (by lia) Dw Dv;lia
   have st:=yL (es:=fH n q9) (own:=jj (fH n q9) xW a') (λi j=>(bd' i j).1) Zz (kO.mpr ⟨_,c1,c2,Int.mul_pos r1.1 r2.1,rfl⟩)
   exact⟨st.1,cD st.2 (Int.add_le_add r1.2 r2.2)⟩
def Hq {n:Int}{cs:ao Int}{ts:ao Tk}(S:iC n cs ts):∀(a i j:Nat) (x y:Int),(fH n cs)[i]?=some x->(fH n cs)[j]?=some y->i<j->y<=RF (fH n cs) ts a x->0<lE (fH n cs) ts (a+1) i j:=by
 have own:∀(a i j:Nat) (x y:Int),(fH n cs)[i]?=some x->(fH n cs)[j]?=some y->i<j->y<=kn (fH n cs) ts a x->0<lE (fH n cs) ts (a+1) i j:=λa i j x y hi hj pW hy=>by
  show 0<j9 _ _ _ i j
  unfold j9
  rw[aC (by lia),aB (by rw[getD_at hj,oF hi];exact hy)]
  decide
 intro a
 induction a with
 |zero=>exact own 0
 | succ a ih =>
  intro i j x y hi hj pW hy
  by_cases q:y<=kn (fH n cs) ts ((a+1:Nat):Int) x
  .exact own (a+1) i j x y hi hj pW q
  have hy:y<=max (kn (fH n cs) ts ((a:Int)+1) x) (RF (fH n cs) ts a (RF (fH n cs) ts a x)):=hy
  have Il:y<=RF (fH n cs) ts a (RF (fH n cs) ts a x):=by
   have:((a+1:Nat):Int)=(a:Int)+1:=by lia
   rw[this]at q;lia
  have up:=iD S.n1 S.jD
  have mm:=(mC S a).mem x (mw hi)
  have ge:=(mC S a).ge x
  obtain⟨k,hk,ek⟩:=aX mm
  have gk:(fH n cs)[k]?=some (RF (fH n cs) ts a x):=by rw[jk hk,ek]
  by_cases q1:y<=RF (fH n cs) ts a x
  .exact((More.refl S).tab (a+1) (a+2) (by lia) i j i j x y hi hj hi hj (ih i j x y hi hj pW q1)).1
  have kj:k<j:=by
   by_cases z:k<j
   .exact z
   .exact absurd (yF up j k _ _ (by lia) hj gk) q1
  have ik:=wA up hi gk ge
  by_cases z:i=k
  .subst z
   rw[hi]at gk
   have gk:=aM gk
   rw[<- gk]at Il q1
   rw[<- gk]at Il
   exact absurd Il q1
  have p1:=ih i k x _ hi gk (by lia) (bU _)
  have p2:=ih k j _ y gk hj kj Il
  exact(yL (es:=fH n cs) (own:=jj (fH n cs) ts ((a+1:Nat):Int)) (λi j=>(wC (fH n cs) ts (a+1) i j).1) pW (kO.mpr ⟨k,by lia,kj,Int.mul_pos p1 p2,rfl⟩)).1
def qz {n:Int}{cs:ao Int}{ts:ao Tk}(S:iC n cs ts){a:Nat}(hl:iH (fH n cs) ts n a):0<lE (fH n cs) ts (a+1) 0 (cs.length+1):=by
 refine Hq S a 0 (cs.length+1) 0 n (AN n cs) (xF n cs) (by lia) ?_
 rw[(More.refl S).least hl]
 exact bU _
def wM {n:Int}{cs:ao Int}{ts:ao Tk}(S:iC n cs ts)(a:Nat):Hf (fH n cs).length (lE (fH n cs) ts a) (gw (fH n cs) ts a):=BW (λa i j hi h=>KC (iD S.n1 S.jD) i j hi h) a
def yq (C:ai)(μ:MS)(k:Nat):aq (ao Str×ao D):=match μ[k]? with|some (.ins C' ns ds)=>if C'=C then some (ns,ds)else none|_=>none
def Ay {C:ai}{μ:MS}{k:Nat}{q:ao Str×ao D}(h:yq C μ k=some q):μ[k]?=some (.ins C q.1 q.2):=by
 unfold yq at h
 split at h
 .rename_i C' ns ds e
  by_cases z:C'=C
  .rw[aB z]at h;cases h;rw[e,z]
  .rw[aC z]at h;cases h
 .cases h
def pv {C:ai}{μ:MS}{k:Nat}{ns:ao Str}{ds:ao D}(h:μ[k]?=some (.ins C ns ds)):yq C μ k=some (ns,ds):=by unfold yq;rw[h];exact aB rfl
def kK (f:Str):ao Str->ao D->aq D
 |n::ns,d::ds=>if n=f then some d else kK f ns ds
 |_,_=>none
def putN (f:Str)(d:D):ao Str->ao D->ao Str×ao D
 |n::ns,e::ds=>if n=f then(n::ns,d::ds)else(n::(putN f d ns ds).1,e::(putN f d ns ds).2)
 |_,_=>([f],[d])
def xh {φ:ao ai}{H:Hp}{f:Str}{d:D}:∀ {fs:ao (Str×V)} {ds:ao D},fZ φ H ds (fs.map (·.2))->kK f (fs.map (·.1)) ds=some d->∃ v,fs.lookup f=some v/\je φ H d v
 |[],ds,h,e=>by cases ds<;>cases e
 | (n,x)::fs,ds,h,e=>by
  cases ds with
  |nil=>cases e
  | cons d0 ds =>
   obtain⟨v,r,e1,h1,h2⟩:=h
   simp only[aw,b9]at e1
   obtain⟨rfl,rfl⟩:=e1
   simp only[aw,kK]at e
   rw[dX]
   by_cases q:n=f
   .rw[aB q]at e;cases e
    subst q
    exact⟨x,by simp,h1⟩
   .rw[aC q]at e
    have:(f==n)=false:=beq_eq_false_iff_ne.mpr λz=>q z.symm
    simp only[this]
    exact xh h2 e
def xg {φ:ao ai}{H:Hp}{f:Str}:∀ {fs:ao (Str×V)} {ds:ao D},fZ φ H ds (fs.map (·.2))->kK f (fs.map (·.1)) ds=none->fs.lookup f=none
 |[],ds,h,e=>rfl
 | (n,x)::fs,ds,h,e=>by
  cases ds with
  |nil=>cases(show _=_ from h)
  | cons d0 ds =>
   obtain⟨v,r,e1,h1,h2⟩:=h
   simp only[aw,b9]at e1
   obtain⟨rfl,rfl⟩:=e1
   simp only[aw,kK]at e
   rw[dX]
   by_cases q:n=f
   .rw[aB q]at e;cases e
   .rw[aC q]at e
    have:(f==n)=false:=beq_eq_false_iff_ne.mpr λz=>q z.symm
    simp only[this]
    exact xg h2 e
def FI {φ:ao ai}{H:Hp}{f:Str}{d:D}{v:V}(hd:je φ H d v):∀ {fs:ao (Str×V)} {ds:ao D},fZ φ H ds (fs.map (·.2))->(oE f v fs).map (·.1)=(putN f d (fs.map (·.1)) ds).1/\fZ φ H (putN f d (fs.map (·.1)) ds).2 ((oE f v fs).map (·.2))
 |[],ds,h=>by cases ds<;>exact⟨rfl,v,[],rfl,hd,rfl⟩
 | (n,x)::fs,ds,h=>by
  cases ds with
  |nil=>cases(show _=_ from h)
  | cons d0 ds =>
   obtain⟨v',r,e1,h1,h2⟩:=h
   simp only[aw,b9]at e1
   obtain⟨rfl,rfl⟩:=e1
   simp only[oE,aw,putN]
   by_cases q:n=f
   .rw[aB q,aB q]
    exact⟨rfl,_,_,rfl,hd,h2⟩
   .rw[aC q,aC q]
    obtain⟨i1,i2⟩:=FI hd h2
    exact⟨by simp only[aw,i1],_,_,rfl,h1,i2⟩
section
variable {X:Cx}{a b e o:Expr}{es:ao Expr}{pos:Pos}{C:ai}
def WS (C:ai)(f:Str)(w:De):De:=λρ μ K=>w ρ μ λx gr=>match x with
 |.mr k=>∃ d,(yq C gr k).bind (λq=>kK f q.1 q.2)=some d/\K d gr
 |.obj C' ns ds=>C'=C/\∃ d,kK f ns ds=some d/\K d gr
 |_=>False
def nW {f:Str}{w:De}(c:E5 X.K C)(n:qw X.K C f)(h:PD X e w)(hb:attributeBase e f X.env (eval e X.env)=eval e X.env:=by rfl):PD X (.Attribute e f pos) (WS C f w):=(R1 h hb).imp λσ H Q hq=>by
 obtain⟨φ,ρ,μ,K,A,M,k,L⟩:=hq
 refine⟨φ,ρ,μ,_,A,M,k,λd1 gr gN v1 H1 k1 f1 M1 i1=>?_⟩
 cases d1 with
 | mr j =>
  obtain⟨d,e1,k1⟩:=k1
  obtain⟨q,e2,e3⟩:=Option.bind_eq_some_iff.mp e1
  obtain⟨p,hp,rfl⟩:=i1
  obtain⟨p',e4,dx,fs,h1,h2,h3⟩:=M1.at_ j _ (Ay e2)
  rw[hp]at e4;cases e4
  rw[<- h2]at e3
  obtain⟨v,l,iv⟩:=xh h3 e3
  exact⟨p,C,dx,fs,v,rfl,h1,c,n,l,L _ gr gN v H1 k1 f1 M1 iv⟩
 | obj C' ns ds =>
  obtain⟨rfl,d,e3,k1⟩:=k1
  obtain⟨p,dx,fs,vs,rfl,_,h1,h2,rfl,h3⟩:=i1
  rw[<- h2]at e3
  obtain⟨v,l,iv⟩:=xh h3 e3
  exact⟨p,_,dx,fs,v,rfl,h1,c,n,l,L _ gr gN v H1 k1 f1 M1 iv⟩
 |_=>exact k1.elim
def WD (C:ai)(f:Str)(w wo:De):Ds:=λN ρ μ=>w ρ μ λd gr=>wo ρ gr λx iE=>match x with
 |.mr k=>∃ q q':ao Str×ao D,yq C iE k=some q/\putN f d q.1 q.2=q'/\q.1.length<1000/\N.nx ρ (iE.set k (.ins C q'.1 q'.2))
 |_=>False
def BX {f:Str}{w wo:De}{pos':Pos}(c:E5 X.K C)(n:qw X.K C f)(he:PD X e w)(ho:PD X o wo)(hs:swapsWith e (some (.Attribute o f pos')) pos.line X.env=pure false:=by rfl):yy X (.Assign [.Attribute o f pos'] e pos) (WD C f w wo) :=
 (RQ ho he hs).imp λE σ H hq=>by
 obtain⟨φ,ρ,μ,N,A,M,k,L⟩:=hq
 refine⟨φ,ρ,μ,_,A,M,k,λd gr gN v1 H1 k1 f1 M1 i1=>?_⟩
 refine⟨gN,ρ,gr,_,A.mono f1,M1,k1,λd2 iE kQ v2 H2 k2 f2 M2 i2=>?_⟩
 cases d2 with
 | mr j =>
  obtain⟨q,_,e2,rfl,hl,k2⟩:=k2
  obtain⟨p,hp,rfl⟩:=i2
  obtain⟨p',e4,dx,fs,h1,h2,h3⟩:=M2.at_ j _ (Ay e2)
  rw[hp]at e4;cases e4
  have f4:Fr kQ H2 kQ (upd H2 p (.ins C dx (oE f v1 fs))):=.put (mw hp)
  obtain⟨g1,g2⟩:=FI (f:=f) ((i1.mono f2).mono f4) (h3.mono f4)
  rw[h2]at g1 g2
  refine⟨p,C,dx,fs,rfl,h1,c,n,by rw[<- h2,iu]at hl;exact hl,?_⟩
  exact L.nx ρ _ kQ σ _ k2 ((f1.trans f2).trans f4) (A.mono ((f1.trans f2).trans f4)) (M2.put hp ⟨dx,_,gh,g1,g2⟩)
 |_=>exact k2.elim
structure xV (P:ae)(w:af)(K:aa)(mg:Str->Option ak)(fJ:Heap)(C:ai)(m:Str)(k:Nat)(ps:List Str)(sp:Sp):Prop where
 ex:∃ f fd,gF P w K mg fJ kW k f fd ps sp/\Meth K C m f/\Binds K fd ps []
def FG (C:ai)(m:Str)(μ:MS):D->Prop
 |.mr k=>(yq C μ k).map (λq=>kK m q.1 q.2)=some none
 |.obj C' ns es=>C'=C/\kK m ns es=none
 |_=>False
def B3 {m:Str}{φ:ao ai}{H:Hp}{μ:MS}{d:D}{v:V}(M:gC φ H μ)(i:je φ H d v)(h:FG C m μ d):∃ p dx fs,v=.ref p/\H p=some (.ins C dx fs)/\fs.lookup m=none:=by
 cases d with
 | mr j =>
  obtain⟨q,e2,e3⟩:=Option.map_eq_some_iff.mp (show(yq C μ j).map (λq=>kK m q.1 q.2)=some none from h)
  obtain⟨p,hp,rfl⟩:=i
  obtain⟨p',e4,dx,fs,h1,h2,h3⟩:=M.at_ j _ (Ay e2)
  rw[hp]at e4;cases e4
  rw[<- h2]at e3
  exact⟨p,dx,fs,rfl,h1,xg h3 e3⟩
 | obj C' ns es =>
  obtain⟨rfl,e3⟩:=(show C'=C/\kK m ns es=none from h)
  obtain⟨p,dx,fs,vs0,rfl,_,h1,h2,rfl,h3⟩:=i
  rw[<- h2]at e3
  exact⟨p,dx,fs,rfl,h1,xg h3 e3⟩
 |_=>exact(show False from h).elim
def QY (C:ai)(m:Str)(f:j5)(wo:De)(w:DA):De:=λρ μ K=>wo ρ μ λx gr=>FG C m gr x/\w ρ gr λds iE=>f (x::ds) iE K
def Nj {m:Str}{f:j5}{wo:De}{w:DA}{σ:St}{H:Hp}{Q:VK}(h:tD (QY C m f wo w) σ H Q):JG C m (iG f) [] E0 (tD wo) (Ux w) σ H Q:=by
 obtain⟨φ,ρ,μ,K,A,M,k,L⟩:=h
 refine⟨φ,ρ,μ,_,A,M,k,λd1 gr gN v1 H1 k1 f1 M1 i1=>?_⟩
 obtain⟨p,dx,fs,rfl,h1,h2⟩:=B3 M1 i1 k1.1
 refine⟨p,dx,fs,rfl,h1,h2,gN,ρ,gr,_,A.mono f1,M1,k1.2,λds iE kQ vs H2 k2 f2 M2 i2=>?_⟩
 show iG f (.ref p::(vs++[])) H2 Q E0
 rw[cy]
 exact⟨kQ,d1::ds,iE,K,⟨_,vs,rfl,je.mono f2 i1,i2⟩,M2,k2,L.mono (f1.trans f2)⟩
def ja {m:Str}{f:j5}{wo:De}{w:DA}{mK:Pos}{pl:Sem Bool}{k:Nat}{ps:ao Str}(CM:xV X.prog X.w X.K X.mg X.fJ C m k ps (iG f))(c:E5 X.K C)(hr:jT k X.A)(ho:PD X o wo)(ha:vB X (e::es) w)
 (Im:starEach (e::es) X.env=(false,eval e X.env)::starEach es X.env:=by rfl) (pw:(backTo pos (starEach es X.env)).any (·.1)=false:=by rfl)
 (ht:eval (.Call (.Attribute o m mK) (e::es) [] pos) X.env=(do
   let ov <- eval o X.env
   standAt mK.atName
   let (f,first) <- holding [ov] (getMethod ov m pl)
   callWith pos f first (backTo pos (starEach (e::es) X.env)) (backToKw pos (keywordEach [] X.env))):=by rfl):
 PD X (.Call (.Attribute o m mK) (e::es) [] pos) (QY C m f wo w):=by
 obtain⟨f',fd,F,hm,hb⟩:=CM.ex
 exact(FO ho c hm F hr hb .nil Ku ha Im pw ht).imp λσ H Q hq=>Nj hq
structure Ur (P:ae)(w:af)(K:aa)(mg:Str->Option ak)(fJ:Heap)(x:Str)(C:ai)(k:Nat)(ps:List Str)(sp:Sp):Prop where
 ex:∃ f fd,gF P w K mg fJ kW k f fd ps sp/\Mk K C f/\mg x=some (.ref C)/\Binds K fd ps []
def QZ (C:ai)(f:j5)(w:DA):De:=λρ μ K=>w ρ μ λds gr=>f (.mr gr.length::ds) (gr++[.ins C [] []]) λd iE=>d=.iq/\K (.mr gr.length) iE
def Nk {f:j5}{w:DA}{σ:St}{H:Hp}{Q:VK}(h:tD (QZ C f w) σ H Q):Qb C (iG f) [] E0 (Ux w) σ H Q:=by
 obtain⟨φ,ρ,μ,K,A,M,k,L⟩:=h
 refine⟨φ,ρ,μ,_,A,M,k,λds gr gN vs H1 k1 f1 M1 i1 x dx hx hdx ne=>?_⟩
 have S1:iI H1 (upd H1 dx (.own x)):=iI.upd hdx
 have Es:upd H1 dx (.own x) x=none:=by rw[gB (bo ne)];exact hx
 have fa:Fr gN H1 gN (upd H1 dx (.own x)):=.same S1
 obtain⟨M2,f2⟩:=(M1.same S1).snoc (m:=.ins C [] []) (o:=.ins C dx []) Es ⟨dx,[],gh,rfl,rfl⟩
 have f3:=fa.trans f2
 have xl:je (gN++[x]) (upd (upd H1 dx (.own x)) x (.ins C dx [])) (.mr gr.length) (.ref x):=⟨x,by rw[pX (by rw[M1.len];exact ar _),M1.len,a6];rfl,rfl⟩
 show iG f (.ref x::(vs++[])) _ _ E0
 rw[cy]
 refine⟨gN++[x],.mr gr.length::ds,gr++[.ins C [] []],_,⟨_,vs,rfl,xl,i1.mono f3⟩,M2,k1,λd rh BE v H3 k3 f4 M3 i3=>?_⟩
 obtain⟨rfl,k3⟩:=k3
 exact⟨i3,L _ rh BE _ H3 k3 ((f1.trans f3).trans f4) M3 (xl.mono f4)⟩
def EJ {x:Str}{f:j5}{w:DA}{p:Pos}{k:Nat}{ps:ao Str}(CI:Ur X.prog X.w X.K X.mg X.fJ x C k ps (iG f))(hr:jT (k+1) X.A)(hg:Gl X x)(ha:vB X (e::es) w)
 (xo:(x==("__debug__" : Str))=false:=by decide) (he:starEach (e::es) X.env=(false,eval e X.env)::starEach es X.env:=by rfl) (pw:(backTo pos (starEach es X.env)).any (·.1)=false:=by rfl):
 PD X (.Call (.Name x p) (e::es) [] pos) (QZ C f w):=by
 obtain⟨f',fd,F,M,hm,hb⟩:=CI.ex
 exact(NY M F hr hg hm hb .nil Ku ha xo he pw).imp λσ H Q hq=>Nk hq
def gR {P:ae}{w:af}{K:aa}{mg:Str->aq ak}{fJ h:Heap}{x q:Str}{st:Stmt}{f:ai}{fd:ag}{k:Nat}{ps:ao Str}{sp:Sp}(G:K.In h)(N:h.Ns mainGlobals mg)(F:j4 K x q st f fd)(ok:gF P w K mg fJ kW k f fd ps sp)(hb:Binds K fd ps [])
 (a:W.nsIn K mainGlobals x=some (some (.ref f)):=by kernel_rfl):nB P w K mg fJ x k ps sp:=⟨f,fd,ok,W.mg_of G N a,F.kp,hb⟩
def tV {P:ae}{w:af}{K:aa}{mg:Str->aq ak}{fJ:Heap}{C:ai}{x q:Str}{st:Stmt}{f:ai}{fd:ag}{k:Nat}{ps:ao Str}{sp:Sp}(F:j4 K x q st f fd)(ok:gF P w K mg fJ kW k f fd ps sp)(hb:Binds K fd ps [])
 (a:W.findIn K (.ref C) x=some (some (.ref f)):=by kernel_rfl) (i:W.isFn K (.ref f)=true:=by kernel_rfl):xV P w K mg fJ C x k ps sp:=⟨f,fd,ok,⟨a,i,F.kp⟩,hb⟩
def Ph {P:ae}{w:af}{K:aa}{mg:Str->aq ak}{fJ h:Heap}{C:ai}{y q:Str}{st:Stmt}{f:ai}{fd:ag}{k:Nat}{ps:ao Str}{sp:Sp}(G:K.In h)(N:h.Ns mainGlobals mg)(F:j4 K "__init__" q st f fd)(ok:gF P w K mg fJ kW k f fd ps sp)(hb:Binds K fd ps [])
 (n:W.nsIn K mainGlobals y=some (some (.ref C)):=by kernel_rfl) (a:W.findIn K (.ref C) "__init__"=some (some (.ref f)):=by kernel_rfl) (i:W.isFn K (.ref f)=true:=by kernel_rfl) (m:W.makesIn K C=true:=by kernel_rfl) (p:W.keepIn K (.ref C)=true:=by kernel_rfl):Ur P w K mg fJ y C k ps sp:=⟨f,fd,ok,⟨m,a,i,p⟩,W.mg_of G N n,hb⟩
def Gf:ao D->aq (ao Key)
 |[]=>some []
 |d::ds=>(yp d).bind λk=>(Gf ds).map (k::·)
def SG:D->aq (ao Key)
 |.tup ds=>Gf ds
 |_=>none
def Cy {φ:ao ai}{H:Hp}:∀ {ds:ao D} {vs:ao V} {ks:ao Key},Gf ds=some ks->fZ φ H ds vs->vs=ks.map kV
 |[],_,ks,e,h=>by cases e;exact h
 | d::ds,_,ks,e,h=>by
  obtain⟨v,r,rfl,h1,h2⟩:=h
  unfold Gf at e
  obtain⟨k,e1,e2⟩:=Option.bind_eq_some_iff.mp e
  obtain⟨mv,e3,rfl⟩:=Option.map_eq_some_iff.mp e2
  rw[qI e1 h1,Cy e3 h2];rfl
def Gg {φ:ao ai}{H:Hp}{d:D}{v:V}{ks:ao Key}(e:SG d=some ks)(h:je φ H d v):∃ p,v=.ref p/\H p=some (.tup (ks.map kV)):=by
 cases d with
 |tup ds=>obtain⟨p,vs,rfl,_,hp,ha⟩:=h;exact⟨p,rfl,by rw[hp,Cy e ha]⟩
 |_=>cases e
def LU (μ:MS)(j:Nat):aq (ao (ao Key)×ao D):=match μ[j]? with|some (.lA ks ds)=>some (ks,ds)|_=>none
def OZ {μ:MS}{j:Nat}{q:ao (ao Key)×ao D}(h:LU μ j=some q):μ[j]?=some (.lA q.1 q.2):=by
 unfold LU at h
 split at h
 .rename_i e;cases h;exact e
 .cases h
def sE (ks:ao (ao Key))(ds:ao D)(k:ao Key):aq D:=match ks,ds with
 |k'::ks,d::ds=>if k'=k then some d else sE ks ds k
 |_,_=>none
def zG (ks:ao (ao Key))(ds:ao D)(k:ao Key)(d:D):ao (ao Key)×ao D:=if(ks.any λx=>decide (x=k))=true then(ks,(ks.zip ds).map λp=>if p.1=k then d else p.2)else(ks++[k],ds++[d])
def BQ {φ:ao ai}{H:Hp}(k:ao Key):∀ {kvs:ao (ao Key×V)} {ds:ao D},fZ φ H ds (kvs.map (·.2))->(sE (kvs.map (·.1)) ds k=none/\pR kvs k=none)\/∃ d v,sE (kvs.map (·.1)) ds k=some d/\pR kvs k=some v/\je φ H d v
 |[],ds,h=>.inl ⟨by cases ds<;>rfl,rfl⟩
 | p::kvs,ds,h=>by
  cases ds with
  |nil=>cases(show _=_ from h)
  | cons d0 ds =>
   obtain⟨v,r,e,h4,h5⟩:=h
   simp only[aw,b9]at e
   obtain⟨rfl,rfl⟩:=e
   simp only[aw,sE]
   by_cases hk:p.1=k
   .rw[aB hk];exact .inr ⟨_,_,rfl,pY hk,h4⟩
   .rw[aC hk,pZ hk];exact BQ k h5
def Jz {φ:ao ai}{H:Hp}{k:ao Key}{d:D}{v:V}(hd:je φ H d v){kvs:ao (ao Key×V)}{ds:ao D}(ha:fZ φ H ds (kvs.map (·.2))):
 (putK kvs k v).map (·.1)=(zG (kvs.map (·.1)) ds k d).1/\fZ φ H (zG (kvs.map (·.1)) ds k d).2 ((putK kvs k v).map (·.2)):=by
 have ea:(kvs.any λp=>decide (p.1=k))=(kvs.map (·.1)).any λx=>decide (x=k):=by rw[d7];rfl
 unfold putK zG
 rw[ea]
 by_cases q:((kvs.map (·.1)).any λx=>decide (x=k))=true
 .rw[aB q,aB q]
  clear q ea
  induction kvs generalizing ds with
  |nil=>cases(show ds=[] by cases ds with|nil=>rfl|cons _ _=>obtain⟨_,_,e,_⟩:=ha;cases e);exact⟨rfl,rfl⟩
  | cons p kvs ih =>
   cases ds with
   |nil=>cases(show _=_ from ha)
   | cons d0 ds =>
    obtain⟨v0,r,e2,h4,h5⟩:=ha
    simp only[aw,b9]at e2
    obtain⟨rfl,rfl⟩:=e2
    obtain⟨i1,i2⟩:=ih h5
    simp only[aw,cL]at i1 ⊢
    by_cases hk:p.1=k
    .rw[aB hk,aB hk];exact⟨by rw[i1],_,_,rfl,hd,i2⟩
    .rw[aC hk,aC hk];exact⟨by rw[i1],_,_,rfl,h4,i2⟩
 .rw[aC q,aC q,bh,bh]
  exact⟨rfl,ha.app ⟨v,[],rfl,hd,rfl⟩⟩
def WI:De:=λ_ μ K=>K (.mr μ.length) (μ++[.lA [] []])
def O6:PD X (.Dict [] [] pos) WI:=Kq.imp λσ H Q hq p hp=>by
 obtain⟨φ,ρ,μ,K,A,M,k,L⟩:=hq
 obtain⟨M',f'⟩:=M.snoc (m:=.lA [] []) (o:=.dT []) hp ⟨[],gh,rfl,rfl⟩
 exact L _ _ _ _ _ k f' M' ⟨p,by rw[pX (by rw[M.len];exact ar _),M.len,a6];rfl,rfl⟩
def UD (μ:MS)(j:Nat)(y:D):aq (aq D):=(LU μ j).bind λq=>(SG y).map λk=>sE q.1 q.2 k
def Lc {φ:ao ai}{H:Hp}{μ:MS}{j:Nat}{y:D}{o:aq D}{vx vy:V}(M:gC φ H μ)(ix:je φ H (.mr j) vx)(iy:je φ H y vy)(h:UD μ j y=some o):
 ∃ p kvs k b,vx=.ref p/\H p=some (.dT kvs)/\vy=.ref b/\H b=some (.tup (k.map kV))/\((o=none/\pR kvs k=none)\/∃ d v,o=some d/\pR kvs k=some v/\je φ H d v):=by
 obtain⟨q,e1,e2⟩:=Option.bind_eq_some_iff.mp h
 obtain⟨k,e3,rfl⟩:=Option.map_eq_some_iff.mp e2
 obtain⟨p,hp,rfl⟩:=ix
 obtain⟨p',e4,kvs,h1,h2,h3⟩:=M.at_ j _ (OZ e1)
 rw[hp]at e4;cases e4
 obtain⟨b,rfl,hb⟩:=Gg e3 iy
 refine⟨p,kvs,k,b,rfl,h1,rfl,hb,?_⟩
 rw[<- h2]
 exact BQ k h3
def WL:sy:=λx y μ K=>match x with
 |.mr j=>∃ d,UD μ j y=some (some d)/\K d μ
 |_=>False
def WC {wa wb:De}(hu:X.A.units+1<cLine)(ha:PD X a wa)(hb:PD X b wb)(hs:PF b):PD X (.Subscript a b pos) (wc WL wa wb):=(FP hu ha hb hs).imp λσ H Q hq=>by
 obtain⟨φ,ρ,μ,K,A,M,k,L⟩:=hq
 refine⟨φ,ρ,μ,_,A,M,k,λd1 gr gN v1 H1 k1 f1 M1 i1=>?_⟩
 refine⟨gN,ρ,gr,_,A.mono f1,M1,k1,λd2 iE kQ v2 H2 k2 f2 M2 i2=>?_⟩
 cases d1 with
 | mr j =>
  obtain⟨d,ex,k2⟩:=k2
  obtain⟨p,kvs,k,b,rfl,h1,rfl,hb,z⟩:=Lc M2 (i1.mono f2) i2 ex
  rcases z with⟨z,_⟩|⟨d',v,z,ev,iv⟩
  .cases z
  .cases z
   exact⟨p,v,rfl,by rw[<- ev];exact Bp.t h1 hb,L _ iE kQ _ H2 k2 (f1.trans f2) M2 iv⟩
 |_=>exact k2.elim
def G2:sy:=λx y μ K=>match y with
 |.mr j=>∃ o,UD μ j x=some o/\K (.bl (!o.isSome)) μ
 |_=>False
def Hs {wa wb:De}{σ:St}{H:Hp}{Q:VK}(h:tD (wc G2 wa wb) σ H Q):Fo (tD wa) (tD wb) σ H Q:=by
 obtain⟨φ,ρ,μ,K,A,M,k,L⟩:=h
 refine⟨φ,ρ,μ,_,A,M,k,λd1 gr gN v1 H1 k1 f1 M1 i1=>?_⟩
 refine⟨gN,ρ,gr,_,A.mono f1,M1,k1,λd2 iE kQ v2 H2 k2 f2 M2 i2=>?_⟩
 cases d2 with
 | mr j =>
  obtain⟨oo,ex,k2⟩:=k2
  obtain⟨p,kvs,k,b,rfl,h1,rfl,hb,z⟩:=Lc M2 i2 (i1.mono f2) ex
  refine⟨p,pR kvs k,rfl,Bp.t h1 hb,?_⟩
  have es:(pR kvs k).isSome=oo.isSome:=by
   rcases z with⟨g1,g2⟩|⟨d,v,g1,g2,_⟩
   .rw[g1,g2];rfl
   .rw[g1,g2];rfl
  rw[es]
  exact L _ iE kQ _ H2 k2 (f1.trans f2) M2 rfl
 |_=>exact k2.elim
def JF {wa wb:De}(hu:X.A.units+1<cLine)(ha:PD X a wa)(hb:PD X b wb)(hmk:behindInMarks .NotIn b=false):IQ X (.Compare a [.NotIn] [b] pos) (pB (wc G2 wa wb)):=(DZ (HD hu ha hb) hmk).imp λσ H Q hq=>by
 obtain⟨φ,ρ,μ,K,E,M,k,L⟩:=hq
 refine Hs ⟨φ,ρ,μ,_,E,M,k,λd gc gG v H' k' f M' i=>?_⟩
 cases d with
 |bl b=>cases(show v=_ from i);exact⟨b,rfl,L b gc gG H' k' f M'⟩
 |_=>exact k'.elim
def WX (w wo wi:De):Ds:=λN ρ μ=>w ρ μ λd gr=>wo ρ gr λo iE=>wi ρ iE λi rh=>match o with
 |.mr j=>∃ ks ds k,rh[j]?=some (.lA ks ds)/\ks.length<sizeLine/\SG i=some k/\N.nx ρ (rh.set j (.lA (zG ks ds k d).1 (zG ks ds k d).2))
 |_=>False
def RD {i:Expr}{w wo wi:De}{pos':Pos}(hu:X.A.units+1<cLine)(he:PD X e w)(ho:PD X o wo)(hi:PD X i wi)(hs:swapsWith e (some (.Subscript o i pos')) pos.line X.env=pure false:=by rfl):
 yy X (.Assign [.Subscript o i pos'] e pos) (WX w wo wi):=(Ae hu ho hi he hs).imp λE σ H hq=>by
 obtain⟨φ,ρ,μ,N,A,M,w,L⟩:=hq
 refine⟨φ,ρ,μ,_,A,M,w,λd gr gN v1 H1 k1 f1 M1 i1=>?_⟩
 refine⟨gN,ρ,gr,_,A.mono f1,M1,k1,λd2 iE kQ v2 H2 k2 f2 M2 i2=>?_⟩
 refine⟨kQ,ρ,iE,_,A.mono (f1.trans f2),M2,k2,λd3 rh BE v3 H3 k3 f3 M3 i3=>?_⟩
 cases d2 with
 | mr j =>
  obtain⟨ks,ds,k,em,hl,ek,k3⟩:=k3
  obtain⟨p,hp,rfl⟩:=i2.mono f3
  obtain⟨p',e1,kvs,hv,h1,ha⟩:=M3.at_ j _ em
  rw[hp]at e1;cases e1
  obtain⟨b,rfl,hb⟩:=Gg ek i3
  have f4:Fr BE H3 BE (upd H3 p (.dT (putK kvs k v1))):=.put (mw hp)
  obtain⟨g1,g2⟩:=Jz (k:=k) ((i1.mono (f2.trans f3)).mono f4) (ha.mono f4)
  rw[h1]at g1 g2
  refine⟨p,_,rfl,Bo.t hv hb (by have:=cA List.length h1;rw[iu]at this;lia),?_⟩
  exact L.nx ρ _ BE σ _ k3 ((f1.trans (f2.trans f3)).trans f4) (A.mono ((f1.trans (f2.trans f3)).trans f4)) (M3.put (k:=j) hp ⟨putK kvs k v1,gh,g1,g2⟩)
 |_=>exact k3.elim
end
def qh (es:ao Int)(ts:ao Tk)(a:Int)(i j:Nat):ao Nat:=(List.range ts.length).filter λx=>match ts[x]? with
 |some t=>decide (t.2<=a)&&decide (es.getD j 0<=jE es t.1 (es.getD i 0))
 |none=>false
def mV (T U:Nat->Nat->Int)(i j:Nat):ao Nat:=((List.range (j - (i+1))).map (i+1+·)).filter λk=>decide (U i k+U k j+1=T i j)
def iM (es:ao Int)(ts:ao Tk):Nat->Nat->Nat->Int
 |0,_,_=>0
 |a+1,i,j=>if gw es ts (a+1) i j=0 then((qh es ts a i j).length:Nat)else((mV (gw es ts (a+1)) (gw es ts a) i j).map λk=>iM es ts a i k*iM es ts a k j).sum
def jb {T U:Nat->Nat->Int}{i j k:Nat}:k∈mV T U i j↔i<k/\k<j/\U i k+U k j+1=T i j:=by
 unfold mV
 rw[List.mem_filter,List.mem_map,bq]
 constructor
 .rintro⟨⟨x,hx,rfl⟩,h⟩
  rw[cg]at hx
  exact⟨by lia,by lia,h⟩
 .rintro⟨h1,h2,h3⟩
  exact⟨⟨k - (i+1),List.mem_range.mpr (by lia),by lia⟩,h3⟩
def Oi (T U:Nat->Nat->Int)(i j:Nat):(mV T U i j).length<=j - (i+1):=by
 unfold mV
 refine aW (c5 _ _) ?_
 rw[iu,u7];exact ar _
def Gb (es:ao Int)(ts:ao Tk)(a:Int)(i j:Nat):(qh es ts a i j).length<=ts.length:=by
 unfold qh
 refine aW (c5 _ _) ?_
 rw[u7];exact ar _
def JL {f:Nat->Int}{B:Int}(hB:0<=B):∀ {l:ao Nat},(∀ x∈l,0<=f x/\f x<=B)->0<=(l.map f).sum/\(l.map f).sum<=(l.length:Int)*B
 |[],_=>by simp
 | x::l,h=>by
  have h1:=h x (by simp)
  have h2:=JL hB (l:=l) λy hy=>h y (by simp[hy])
  rw[aw,cw,aU]
  refine⟨by lia,?_⟩
  have e:(((l.length+1:Nat):Int))*B=(l.length:Int)*B+B:=by rw[Int.natCast_add,Int.add_mul];simp
  lia
def kN {es:ao Int}{ts:ao Tk}(hL:es.length<=100)(ht:ts.length<=100):∀(a i j:Nat),i<j->j<es.length->0<=iM es ts a i j/\iM es ts a i j<=128 ^ (2*(j - i) - 1)
 |0,i,j,_,_=>⟨by show(0:Int)<=0;lia,by show(0:Int)<=_;exact df (Int.pow_pos (by lia))⟩
 | a+1,i,j,pW,hj=>by
  have hp:∀ n:Nat,(0:Int)<128 ^ n:=λn=>Int.pow_pos (by lia)
  have e1:(128:Int) ^ (2*(j - i) - 1)=128 ^ (2*(j - i) - 2)*128:=by rw[<- Int.pow_succ,show(2*(j - i) - 2).succ=2*(j - i) - 1 by lia]
  have hq:=hp (2*(j - i) - 2)
  rw[e1]
  generalize hB:(128:Int) ^ (2*(j - i) - 2)=B at hq ⊢
  show 0<=(if gw es ts (a+1) i j=0 then(((qh es ts a i j).length:Nat):Int)else _)/\(if gw es ts (a+1) i j=0 then(((qh es ts a i j).length:Nat):Int)else _)<=_
  split
  .have:=Gb es ts a i j
   refine⟨by lia,?_⟩
   lia
  .have hm:=Oi (gw es ts (a+1)) (gw es ts a) i j
   have key:∀ k∈mV (gw es ts (a+1)) (gw es ts a) i j,0<=iM es ts a i k*iM es ts a k j/\iM es ts a i k*iM es ts a k j<=B:=λk hk=>by
    obtain⟨h1,h2,_⟩:=jb.mp hk
    have b1:=kN hL ht a i k h1 (by lia)
    have b2:=kN hL ht a k j h2 hj
    refine⟨dQ b1.1 b2.1,?_⟩
    have:=Int.mul_le_mul b1.2 b2.2 b2.1 (df (hp _))
    rw[<- Int.pow_add]at this
    rw[<- hB,show 2*(j - i) - 2=2*(k - i) - 1+(2*(j - k) - 1) by lia]
    exact this
   obtain⟨s1,s2⟩:=JL (df hq) key
   refine⟨s1,cD s2 ?_⟩
   rw[Int.mul_comm B]
   exact Int.mul_le_mul_of_nonneg_right (by lia) (df hq)
def wt {x:Int}{d:Nat}(h0:0<=x)(h:x<=128 ^ d)(hd:d<=2000):Builtin.Int.intBits x<=2 ^ 20:=by
 refine intBits_le_iff.mpr ?_
 have e:(128:Int) ^ d=((2 ^ (7*d):Nat):Int):=by rw[Nat.pow_mul];norm_cast
 have h1:x.natAbs<=2 ^ (7*d):=by lia
 refine cq h1 (Nat.pow_lt_pow_right (by lia) ?_)
 have:(2:Nat) ^ 20=1048576:=by decide
 lia
def AZ {es:ao Int}{ts:ao Tk}(hL:es.length<=100)(ht:ts.length<=100)(a i k j:Nat)(h1:i<k)(h2:k<j)(hj:j<es.length):IntMulOk (iM es ts a i k) (iM es ts a k j):=by
 have b1:=kN hL ht a i k h1 (by lia)
 have b2:=kN hL ht a k j h2 hj
 exact .of_bits (wt b1.1 b1.2 (by lia)) (wt b2.1 b2.2 (by lia))
section
variable {X:Cx}
def KY:kU X (binaryOp .Mult) (rI IntMulOk λi j=>.int (i*j)):=UB λ_ _ _ _ _ _ _ hc q=>mul_int q hc
end
def QX:sy:=λx y μ K=>match x,y with
 |.int i,.int j=>IntMulOk i j/\K (.int (i*j)) μ
 |_,_=>False
def sH:om (rI IntMulOk λi j=>.int (i*j)) QX:=λφ H x y dx dy μ K Q M hx hy k L=>by
 unfold QX at k
 split at k
 .cases(show x=_ from hx);cases(show y=_ from hy);exact⟨_,_,rfl,rfl,k.1,L.val M k.2 rfl⟩
 .exact k.elim
def rJ (a:Int)(i j:Nat):D:=.tup [.int a,.int i,.int j]
def stK (a i j:Nat):ao Key:=[.inl (a:Int),.inl (i:Int),.inl (j:Int)]
def Fs {a i j b k l:Nat}(h:stK a i j=stK b k l):a=b/\i=k/\j=l:=by
 unfold stK at h
 simp only[b9,Sum.inl.injEq,and_true]at h
 lia
def A9:ao Str:=["places","rows","tables","whole","counts"]
def Dk (es:ao Int)(ts:ao Tk)(A j:Nat):ao D:=[.lst (es.map D.int),.lst (ts.map (mE es)),.jC (nQ (A+1)) (pH es ts (A+1)),rJ A 0 (es.length - 1),.mr j]
inductive Memo (es:List Int)(ts:List Tk)(A:Nat):List (List Key)->List D->Prop
 |nil:Memo es ts A [] []
 |add {ks:List (List Key)} {ds:List D} (h:Memo es ts A ks ds) {a i j:Nat} (ha:a<=A) (hi:i<es.length) (hj:j<es.length) (hn:stK a i j∉ks):Memo es ts A (ks++[stK a i j]) (ds++[.int (iM es ts (a+1) i j)])
def Memo.len {es:ao Int}{ts:ao Tk}{A:Nat}{ks:ao (ao Key)}{ds:ao D}(h:Memo es ts A ks ds):ds.length=ks.length:=by
 induction h with
 |nil=>rfl
 |add h ha hi hj hn ih=>simp[ih]
def Jy {ks mv:ao (ao Key)}{ds xG:ao D}(k:ao Key)(hl:ds.length=ks.length):sE (ks++mv) (ds++xG) k=match sE ks ds k with | some d=>some d | none=>sE mv xG k:=by
 induction ks generalizing ds with
 | nil=>cases ds with
  |nil=>rfl
  |cons _ _=>cases hl
 | cons k0 ks ih =>
  cases ds with
  |nil=>cases hl
  | cons d ds =>
   simp only[dZ,sE]
   by_cases h:k0=k
   .rw[aB h,aB h]
   .rw[aC h,aC h];exact ih (by simpa using hl)
def Memo.get {es:ao Int}{ts:ao Tk}{A:Nat}{ks:ao (ao Key)}{ds:ao D}(h:Memo es ts A ks ds)(a i j:Nat):(stK a i j∉ks/\sE ks ds (stK a i j)=none)\/(stK a i j∈ks/\sE ks ds (stK a i j)=some (.int (iM es ts (a+1) i j))):=by
 induction h with
 |nil=>exact .inl ⟨by simp,rfl⟩
 | @add ks ds h b k l ha hi hj hn ih =>
  rw[Jy _ h.len]
  rcases ih with⟨h1,h2⟩|⟨h1,h2⟩
  .rw[h2]
   by_cases e:stK b k l=stK a i j
   .obtain⟨rfl,rfl,rfl⟩:=Fs e
    right
    exact⟨by simp,by simp[sE]⟩
   .left
    refine⟨λz=>?_,by simp only[sE];rw[aC e]⟩
    rcases List.mem_append.mp z with z|z
    .exact h1 z
    .exact e (List.mem_singleton.mp z).symm
  .rw[h2];right;exact⟨dN _ h1,rfl⟩
def stN (L a i j:Nat):Nat:=(a*L+i)*L+j
def Co:∀(N:Nat) (l:ao Nat),l.Nodup->(∀ x∈l,x<N)->l.length<=N
 | 0,l,_,h=>by
  cases l with
  |nil=>exact ar _
  |cons x l=>exact absurd (h x (by simp)) (Nat.not_lt_zero _)
 | N+1,l,nd,h=>by
  have h1:=Co N (l.filter λx=>decide (x≠N)) (nd.sublist dk) λx hx=>by
   rw[List.mem_filter,bq]at hx
   have:=h x hx.1;lia
  have h2:l.length<=(l.filter λx=>decide (x≠N)).length+1:=by
   clear h1 h
   induction l with
   |nil=>simp
   | cons x l ih =>
    rw[List.nodup_cons]at nd
    rw[dY]
    by_cases e:x=N
    .subst e
     have:l.filter (λy=>decide (y≠x))=l:=List.filter_eq_self.mpr λy hy=>by
      rw[bq];rintro rfl;exact nd.1 hy
     rw[aC (by simp),this,aU]
     lia
    .rw[aB (by simp[e]),aU,aU]
     have:=ih nd.2;lia
  lia
def Memo.codes {es:ao Int}{ts:ao Tk}{A:Nat}{ks:ao (ao Key)}{ds:ao D}(h:Memo es ts A ks ds):∃ cs:ao (Nat×Nat×Nat),cs.Nodup/\(∀ c∈cs,c.1<=A/\c.2.1<es.length/\c.2.2<es.length)/\ks=cs.map λc=>stK c.1 c.2.1 c.2.2:=by
 induction h with
 |nil=>exact⟨[],by simp,by simp,rfl⟩
 | @add ks ds h a i j ha hi hj hn ih =>
  obtain⟨cs,h1,h2,rfl⟩:=ih
  refine⟨cs++[(a,i,j)],?_,?_,by simp⟩
  .rw[fg]
   refine⟨h1,by simp,λx hx y hy=>?_⟩
   rw[List.mem_singleton.mp hy]
   rintro rfl
   exact hn (List.mem_map.mpr ⟨_,hx,rfl⟩)
  .intro c hc
   rcases List.mem_append.mp hc with hc|hc
   .exact h2 c hc
   .rw[List.mem_singleton.mp hc];exact⟨ha,hi,hj⟩
def Rr {L a i j A:Nat}(ha:a<=A)(hi:i<L)(hj:j<L):stN L a i j<(A+1)*L*L:=by
 unfold stN
 have h1:a*L+i<(A+1)*L:=by
  have:(a+1)*L<=(A+1)*L:=Nat.mul_le_mul_right L (by lia)
  rw[Nat.add_mul]at this;lia
 have h2:(a*L+i+1)*L<=(A+1)*L*L:=Nat.mul_le_mul_right L h1
 rw[Nat.add_mul]at h2;lia
def Fh {L x y x' y':Nat}(hy:y<L)(SW:y'<L)(h:x*L+y=x'*L+y'):x=x'/\y=y':=by
 have hL:0<L:=by lia
 have q:∀ u v:Nat,v<L->(u*L+v) / L=u:=λu v hv=>by rw[Nat.mul_comm,Nat.mul_add_div hL,Nat.div_eq_of_lt hv,Nat.add_zero]
 have e:x=x':=by rw[<- q x y hy,h,q x' y' SW]
 subst e
 exact⟨rfl,by lia⟩
def Nr {L a i j b k l:Nat}(hi:i<L)(hj:j<L)(hk:k<L)(hl:l<L)(h:stN L a i j=stN L b k l):a=b/\i=k/\j=l:=by
 obtain⟨h1,h2⟩:=Fh hj hl h
 obtain⟨h3,h4⟩:=Fh hi hk h1
 exact⟨h3,h4,h2⟩
def Memo.bd {es:ao Int}{ts:ao Tk}{A:Nat}{ks:ao (ao Key)}{ds:ao D}(h:Memo es ts A ks ds):ks.length<=(A+1)*es.length*es.length:=by
 obtain⟨cs,h1,h2,rfl⟩:=h.codes
 rw[iu]
 have:=Co ((A+1)*es.length*es.length) (cs.map λc=>stN es.length c.1 c.2.1 c.2.2) ?_ ?_
 .rwa [iu]at this
 .refine List.pairwise_map.mpr (List.Pairwise.imp_of_mem (λ{x y} hx hy ne e=>ne ?_) h1)
  obtain⟨x1,x2,x3⟩:=h2 _ hx
  obtain⟨y1,y2,y3⟩:=h2 _ hy
  obtain⟨e1,e2,e3⟩:=Nr x2 x3 y2 y3 e
  exact Prod.ext e1 (Prod.ext e2 e3)
 .intro x hx
  obtain⟨c,hc,rfl⟩:=List.mem_map.mp hx
  obtain⟨a1,a2,a3⟩:=h2 c hc
  exact Rr a1 a2 a3
structure Bm (C:ai)(μ:MS)(k:Nat)(es:List Int)(ts:List Tk)(A j a i b:Nat):Prop where
 at_:μ[k]?=some (.ins C A9 (Dk es ts A j))
 ha:a<=A
 Dx:i<b
 hb:b<es.length
 hl:es.length<=100
 ht:ts.length<=100
 hA:A<=100
 ok:gw es ts (a+1) i b<(es.length:Int) - 1
def tL {C:ai}{μ:MS}{k:Nat}{ns:ao Str}{ds:ao D}{f:Str}{d:D}(h:μ[k]?=some (.ins C ns ds))(e:kK f ns ds=some d):(yq C μ k).bind (λq=>kK f q.1 q.2)=some d:=by rw[pv h];exact e
def mG {C:ai}{μ:MS}{k:Nat}{ns:ao Str}{ds:ao D}{f:Str}(h:μ[k]?=some (.ins C ns ds))(e:kK f ns ds=none):(yq C μ k).map (λq=>kK f q.1 q.2)=some none:=by rw[pv h];exact cA some e
section
variable {es:ao Int}{ts:ao Tk}{A j:Nat}
def zw:kK "places" A9 (Dk es ts A j)=some (.lst (es.map D.int)):=by kernel_rfl
def Pl:kK "rows" A9 (Dk es ts A j)=some (.lst (ts.map (mE es))):=by kernel_rfl
def uN:kK "tables" A9 (Dk es ts A j)=some (.jC (nQ (A+1)) (pH es ts (A+1))):=by kernel_rfl
def ua:kK "whole" A9 (Dk es ts A j)=some (rJ A 0 (es.length - 1)):=by kernel_rfl
def uO:kK "counts" A9 (Dk es ts A j)=some (.mr j):=by kernel_rfl
def mJ {f:Str}(h:f∈([("is_take" : Str), "clean_takes","halves","counted","count_anew","numbered","rank"]:ao Str)):kK f A9 (Dk es ts A j)=none:=by
 simp only[aP,aH,bS]at h
 rcases h with rfl|rfl|rfl|rfl|rfl|rfl|rfl<;>kernel_rfl
def zI {a:Nat}(ha:a<=A):uG ((nQ (A+1)).zip (pH es ts (A+1))) (.inl (a:Int))=some (.lst (jW es.length (gw es ts (a+1)))) :=
 GS (xs:=List.range (A+1)) (k:=a) (λk=>D.lst (jW es.length (gw es ts (k+1)))) (List.mem_range.mpr (by lia))
def zJ {T:Nat->Nat->Int}{L i:Nat}(h:i<L):lO (jW L T) (i:Int)=some (.lst (iZ L (T i))):=jQ (mD h)
def z9 {f:Nat->Int}{L i:Nat}(h:i<L):lO (iZ L f) (i:Int)=some (.int (f i)):=jQ (kJ h)
end
def vX (C:ai):j5:=λds μ K=>match ds with
 |[.mr k,s]=>∃(es:ao Int) (ts:ao Tk) (A j a i b:Nat),Bm C μ k es ts A j a i b/\s=rJ a i b/\K (.bl (decide (gw es ts (a+1) i b=0))) μ
 |_=>False
def vZ (C:ai):j5:=λds μ K=>match ds with
 |[.mr k,s]=>∃(es:ao Int) (ts:ao Tk) (A j a i b:Nat),Bm C μ k es ts A j a i b/\s=rJ a i b/\K (.lst ((qh es ts a i b).map λx=>.int (x:Nat))) μ
 |_=>False
def Gn (es:ao Int)(a i b k:Nat):D:=.tup [.int (es.getD k 0),rJ ((a:Int) - 1) i k,rJ ((a:Int) - 1) k b]
def vY (C:ai):j5:=λds μ K=>match ds with
 |[.mr k,s]=>∃(es:ao Int) (ts:ao Tk) (A j a i b:Nat),Bm C μ k es ts A j a i b/\s=rJ a i b/\1<=a/\K (.lst ((mV (gw es ts (a+1)) (gw es ts a) i b).map (Gn es a i b))) μ
 |_=>False
structure Px (es:List Int)(ts:List Tk):Prop where
 nn:∀ a x y,x<es.length->y<es.length->0<=gw es ts a x y
 z:∀ x y,x<es.length->y<es.length->gw es ts 1 x y<(es.length:Int) - 1->gw es ts 1 x y=0
def uF (C:ai)(n:Nat):j5:=λds μ K=>match ds with
 | [.mr k,s]=>∃(es:ao Int) (ts:ao Tk) (A j a i b:Nat) (ks:ao (ao Key)) (dd:ao D),Bm C μ k es ts A j a i b/\s=rJ a i b/\a<n/\Px es ts/\k≠j/\μ[j]?=some (.lA ks dd)/\Memo es ts A ks dd /\
  ∀ mv lN,Memo es ts A mv lN->K (.int (iM es ts (a+1) i b)) (μ.set j (.lA mv lN))
 |_=>False
def Bm.put {C:ai}{μ:MS}{k:Nat}{es:ao Int}{ts:ao Tk}{A j a i b:Nat}{m:MO}(h:Bm C μ k es ts A j a i b)(hk:k≠j):Bm C (μ.set j m) k es ts A j a i b:=⟨by rw[aQ (bo hk)];exact h.at_,h.ha,h.Dx,h.hb,h.hl,h.ht,h.hA,h.ok⟩
def gF.never {P:ae}{w:af}{K:aa}{mg:Str->aq ak}{fJ:Heap}{CX:Hj}{k:Nat}{f:ai}{fd:ag}{ps:ao Str}{sp:Sp}(h:∀ vs H Q E,¬ sp vs H Q E):gF P w K mg fJ CX k f fd ps sp :=
 ⟨λvs H Q E q=>(h vs H Q E q).elim,λA fT s H args us vs Q E _ _ _ _ q=>(h vs H Q E q).elim⟩
def Iy {C:ai}(vs:ao V)(H:Hp)(Q:VK)(E:XK):¬ iG (uF C 0) vs H Q E:=λh=>by
 obtain⟨φ,ds,μ,K,_,_,h,_⟩:=h
 unfold uF at h
 split at h
 .obtain⟨es,ts,A,j,a,i,b,ks,dd,_,_,h,_⟩:=h;lia
 .exact h
def GI (C:ai):j5:=λds μ K=>match ds with
 | [.mr k,.int n,.lst x,.lst y]=>∃(cs:ao Int) (ts:ao Tk),x=cs.map D.int/\y=ts.map mM/\iC n cs ts/\cs.length<=60/\jG (fH n cs) ts=none/\μ[k]?=some (.ins C [] []) /\
  ∀ A:Nat,A<=66->iH (fH n cs) ts n A->K .iq (μ.set k (.ins C A9 (Dk (fH n cs) ts A μ.length))++[.lA [] []])
 |_=>False
def cntK (es:ao Int)(ts:ao Tk)(n:Int)(μ:MS)(K:DK):Prop:=match jG es ts with
 |some _=>K (.int 0) μ
 |none=>∀ a:Nat,a<=66->iH es ts n a->K (.int (iM es ts (a+1) 0 (es.length - 1))) μ
def pz:j5:=λds μ K=>match ds with
 |[.int n,.lst x,.lst y]=>∃(cs:ao Int) (ts:ao Tk),x=cs.map D.int/\y=ts.map mM/\iC n cs ts/\cs.length<=60/\cntK (fH n cs) ts n μ K
 |_=>False
def yH {n:Int}{cs:ao Int}{ts:ao Tk}(S:iC n cs ts)(x y:Nat)(hx:x<(fH n cs).length)(hy:y<(fH n cs).length)(h:gw (fH n cs) ts 1 x y<((fH n cs).length:Int) - 1):gw (fH n cs) ts 1 x y=0:=by
 have s0:=wM S 0
 have s1:=wM S 1 x y hx hy
 by_cases q:y<=x
 .exact s1.1 q
 .rcases s1.2 (by lia)with⟨_,e⟩ | ⟨g1,g2,g3⟩
  .lia
  .rw[g3]
   have:lE (fH n cs) ts 1 x y<=1:=by
    show j9 (fH n cs) (jj (fH n cs) ts (0:Nat)) (lE (fH n cs) ts 0) x y<=1
    unfold j9
    split
    .lia
    .split
     .lia
     .have:kE (lE (fH n cs) ts 0) x y=[]:=List.eq_nil_iff_forall_not_mem.mpr λv hv=>by
       obtain⟨k,_,_,z,_⟩:=kO.mp hv
       exact absurd z (by show ¬ (0:Int)<0*0;lia)
      rw[this];show(0:Int)<=1;lia
   lia
def Gv {α:Type}(p:α->Bool)(f:α->D):∀ xs:ao α,xs.filterMap (λx=>if p x=true then some (f x)else none)=(xs.filter p).map f
 |[]=>rfl
 | x::xs=>by
  rw[cH,dY]
  by_cases h:p x=true
  .rw[aB h,aB h];show _::_=_;rw[Gv p f xs];rfl
  .rw[aC h,aC h];exact Gv p f xs
def EH (ds:ao D):nV ds=(List.range ds.length).map λx=>D.tup [.int (x:Nat),ds.getD x .iq]:=by
 apply cC
 intro i
 rw[oU]
 by_cases h:i<ds.length
 .rw[bB h]
  unfold nV
  rw[bV,bB h,jk h]
  simp[aA,jk h]
 .rw[fB (by rw[m4];lia),fB (by rw[u7];lia)];rfl
def NH (i:Int)(n:Nat):lP i n=(List.range n).map λx=>D.int (i+(x:Nat)):=rfl
def JX {es:ao Int}{ts:ao Tk}{x:Nat}{t:Tk}(h:ts[x]?=some t):(ts.map (mE es)).getD x .iq=mE es t:=by rw[aA,oU,h];rfl
def wB {n:Int}{cs:ao Int}{ts:ao Tk}(S:iC n cs ts):Px (fH n cs) ts:=by
 refine⟨λa x y hx hy=>?_,λx y hx hy h=>yH S x y hx hy h⟩
 have s:=wM S a x y hx hy
 by_cases q:y<=x
 .rw[s.1 q];lia
 .rcases s.2 (by lia)with⟨_,e⟩|⟨_,_,e⟩<;> lia
def AF (es:ao Int)(a i b:Nat):Gn es (a+1) i b=λk=>D.tup [.int (es.getD k 0),rJ a i k,rJ a k b]:=by
 funext k
 unfold Gn
 rw[show((a+1:Nat):Int) - 1=(a:Int) by lia]
def sF {f:Nat->Int}{M:ao Nat}{z:Nat}(h:z<M.length):((M.take (z+1)).map f).sum=((M.take z).map f).sum+f M[z]:=by
 rw[List.take_succ,jk h,bh,List.sum_append]
 simp
def Ef (T U:Nat->Nat->Int)(i b:Nat):mV T U i b=((List.range (b - (i+1))).filter λx=>decide (U i (i+1+x)+U (i+1+x) b+1=T i b)).map (i+1+·):=by
 unfold mV
 rw[List.filter_map];rfl
def Memo.same {es:ao Int}{ts:ao Tk}{A:Nat}{ks:ao (ao Key)}{ds:ao D}(h:Memo es ts A ks ds)(a i b:Nat):∀ p∈ks.zip ds,p.1=stK a i b->p.2=.int (iM es ts (a+1) i b):=by
 induction h with
 |nil=>intro p hp;cases hp
 | @add ks ds h b' k' l' ha hi hj hn ih =>
  intro p hp e
  rw[List.zip_append h.len.symm]at hp
  rcases List.mem_append.mp hp with hp|hp
  .exact ih p hp e
  .simp only[cL,List.zip_nil_right,List.mem_singleton]at hp
   subst hp
   obtain⟨rfl,rfl,rfl⟩:=Fs e
   rfl
def Memo.put {es:ao Int}{ts:ao Tk}{A:Nat}{ks:ao (ao Key)}{ds:ao D}(h:Memo es ts A ks ds){a i b:Nat}(ha:a<=A)(hi:i<es.length)(hb:b<es.length):
 Memo es ts A (zG ks ds (stK a i b) (.int (iM es ts (a+1) i b))).1 (zG ks ds (stK a i b) (.int (iM es ts (a+1) i b))).2/\stK a i b∈(zG ks ds (stK a i b) (.int (iM es ts (a+1) i b))).1:=by
 have em:(ks.any λx=>decide (x=stK a i b))=true↔stK a i b∈ks:=by simp only[d9,bq];exact⟨λqW=>by obtain⟨x,h1,h2⟩:=qW;exact h2▸h1,λh=>⟨_,h,rfl⟩⟩
 unfold zG
 by_cases q:stK a i b∈ks
 .rw[aB (em.mpr q)]
  refine⟨?_,q⟩
  have e:(ks.zip ds).map (λp=>if p.1=stK a i b then D.int (iM es ts (a+1) i b)else p.2)=ds:=by
   have e1:(ks.zip ds).map (λp=>if p.1=stK a i b then D.int (iM es ts (a+1) i b)else p.2)=(ks.zip ds).map (·.2):=bN λp hp=>by
    by_cases z:p.1=stK a i b
    .rw[aB z,h.same a i b p hp z]
    .rw[aC z]
   rw[e1,List.map_snd_zip (by rw[h.len];exact ar _)]
  rw[e];exact h
 .rw[aC λz=>q (em.mp z)]
  exact⟨h.add ha hi hb q,by simp⟩
inductive EX (es:List Int)(ts:List Tk)(n:Int):D->Prop
 |no (h:jG es ts≠none):EX es ts n .iq
 |yes (a:Nat) (ha:a<=66) (hb:jG es ts=none) (h:iH es ts n a):EX es ts n (.int a)
def El {es:ao Int}{ts:ao Tk}{n:Int}{μ:MS}{K:DK}(h:∀ d,EX es ts n d->K d μ):rW es ts n μ K:=by
 unfold rW
 cases hb:jG es ts with
 |some p=>exact h _ (.no (by rw[hb];simp))
 |none=>exact λa ha la=>h _ (.yes a ha hb la)
inductive Up (es:List Int)(ts:List Tk)(n:Int):Int->Prop
 |no (h:jG es ts≠none):Up es ts n 0
 |yes (a:Nat) (ha:a<=66) (hb:jG es ts=none) (h:iH es ts n a):Up es ts n (iM es ts (a+1) 0 (es.length - 1))
def Mh {es:ao Int}{ts:ao Tk}{n:Int}{μ:MS}{K:DK}(h:∀ c,Up es ts n c->K (.int c) μ):cntK es ts n μ K:=by
 unfold cntK
 cases hb:jG es ts with
 |some p=>exact h _ (.no (by rw[hb];simp))
 |none=>exact λa ha la=>h _ (.yes a ha hb la)
abbrev At (g:Heap)(b:ai):Prop:=∃ u,g.get? b=some u
structure Kp (g:Heap)(l:List Env)(h h':Heap):Prop where
 other:∀ b o,h.get? b=some o->At g b->b∉AG l->h'.get? b=some o
 slot:∀ b o,h.get? b=some o->At g b->b∈AG l->∃ sl,h'.get? b=some { o with slots:=sl}
def Kp.trans {g:Heap}{l:ao Env}{h1 h2 h3:Heap}(a:Kp g l h1 h2)(b:Kp g l h2 h3):Kp g l h1 h3 :=
 ⟨λc o q lt hc=>b.other c o (a.other c o q lt hc) lt hc,λc o q lt hc=>by
  obtain⟨sl,e⟩:=a.slot c o q lt hc
  obtain⟨YK,e'⟩:=b.slot c _ e lt hc
  exact⟨YK,e'⟩⟩
def Kp.any {g:Heap}{l:ao Env}{h h':Heap}(a:Kp g l h h'){b:ai}{o:Obj}(q:h.get? b=some o)(lt:At g b):∃ sl,h'.get? b=some { o with slots:=sl}:=by
 by_cases hb:b∈AG l
 .exact a.slot b o q lt hb
 .exact⟨o.slots,a.other b o q lt hb⟩
def Kp.of {g:Heap}{l:ao Env}{h h':Heap}(k:∀ b o,h.get? b=some o->At g b->h'.get? b=some o):Kp g l h h':=⟨λb o q lt _=>k b o q lt,λb o q lt _=>⟨o.slots,k b o q lt⟩⟩
abbrev Gk (g h:Heap):Prop:=∀ b,At g b->At h b
def Kp.gk {g:Heap}{l:ao Env}{h h':Heap}(a:Kp g l h h')(k:Gk g h):Gk g h':=λb hb=>by
 obtain⟨o,e⟩:=k b hb
 obtain⟨sl,e'⟩:=a.any e hb
 exact⟨_,e'⟩
def Gk.fresh {g h:Heap}(k:Gk g h):g.get? h.objs.size=none:=by
 cases q:g.get? h.objs.size with
 |none=>rfl
 |some o=>obtain⟨o',e⟩:=k _ ⟨o,q⟩;exact absurd (jf e) (cv _)
def He {g:Heap}{b c:ai}(h:At g b)(hc:g.get? c=none):c≠b:=λz=>by obtain⟨u,e⟩:=h;rw[<- z,hc]at e;cases e
def EZ (g:Heap)(e:ai)(cls fl:ak)(h:Heap):Prop:=∃(oe:Obj) (vs:Array ak) (T:ai) (oT:Obj) (ts:Array ak),(h.get? e=some oe/\(oe.cls=cls/\oe.dict=none)/\oe.data=.fields vs/\vs[1]?=some (.ref T)/\vs[2]?=some .none)/\(g.get? T=none/\T≠e/\h.get? T=some oT/\oT.data=.fields ts/\ts[3]?=some fl)/\g.get? e=none
section
variable {M:Model}{A:Around}{E:ak->ah->Prop}{s:ah}
def zf {fJ:Heap}{env:Env}{fT:ao Env}{L e:ai}{oe:Obj}{vs:Array ak}{head:ak}{OM:Bool}{g:Heap}{Q:Unit->ah->Prop}
 (OK:A.frames=some (env::fT)) (hl:s.heap.FunFrames fJ (env::fT)) (hf:env.frame=some L) (he:s.heap.get? e=some oe) (ZI:oe.dict=none) (hd:oe.data=.fields vs) (h1:1<vs.size) (h2:vs[2]?=some .none) (hn:g.get? e=none) (hs:Gk g s.heap)
 (h:∀ h',EZ g e oe.cls (rawInt L) h'->Kp g (env::fT) s.heap h'->Q () {s with heap:=h'}):
 wpAny M A (do let a <- frameOf env;let pl <- entryPlaceOf L OM;let b <- EntryCells.newEntry head a .none (rawInt L) .none pl;setField (.ref e) 1 b) Q E s:=by
 have ZD:e∉(env::fT).filterMap (·.frame):=λhm=>by
  obtain⟨_,o,ho,hnf⟩:=hl.mem hm
  rw[he]at ho;injection ho with ho;subst ho;exact hnf vs hd
 refine fY (wpAny_frameOf_fun OK hl hf λm x=>?_)
 refine fY (wpAny_entryPlaceOf λpl pw=>?_)
 unfold EntryCells.newEntry newFields
 refine fY (dc ?_ (pw.sizeOk5 _ _ _ _ _))
 obtain⟨rec,SX⟩:∃ rec:Obj,rec={ cls:=.type "traceback",dict:=none,data:=.fields ([head,.ref L,.none,rawInt L,.none]++(if pl.isEmpty then List.replicate 6 Value.none else pl)).toArray}:=⟨_,rfl⟩
 rw[<- SX]
 have e1:m.get? e=some oe:=(x.2.1 e ZD).trans he
 have e2:=j8 rec e1
 have hT:(m.push rec).get? m.objs.size=some rec:=aG m (by rw[SX];rfl)
 have Tp:m.objs.size≠e:=bp (jf e1)
 have Wg:=eM hd (·.setIfInBounds 1 (Value.ref m.objs.size))
 have e3:=bG (Obj.mapFields (·.setIfInBounds 1 (Value.ref m.objs.size))) e2 (fA Wg)
 refine dm e2 hd h1 (h _ ⟨_,_,m.objs.size,rec,_,⟨e3,⟨Obj.cls_mapFields _ _,by show(Obj.mapFields _ oe).dict=none;unfold Obj.mapFields;split<;>exact ZI⟩,Wg,by simp[h1],by rw[Array.getElem?_setIfInBounds_ne (by decide)];exact h2⟩,⟨by rw[x.1];exact hs.fresh,Tp,?_,by rw[SX],?_⟩,hn⟩ ⟨λb o q lt hb=>?_,λb o q lt hb=>?_⟩)
 .rw[aT _ _ (bo Tp)];exact hT
 .first|(simp;done)|(rcases pw with rfl|⟨_,_,_,_,_,_,_,rfl⟩<;> simp)
 .rw[aT _ _ (He lt hn)]
  exact j8 _ ((x.2.1 b hb).trans q)
 .obtain⟨sl,q'⟩:=x.2.2 b o q
  exact⟨sl,by rw[aT _ _ (He lt hn)];exact j8 _ q'⟩
def D9 {fJ:Heap}{env:Env}{fT:ao Env}{L e:ai}{oe:Obj}{vs:Array ak}{g:Heap}{Q:Unit->ah->Prop}
 (OK:A.frames=some (env::fT)) (hl:s.heap.FunFrames fJ (env::fT)) (hf:env.frame=some L) (he:s.heap.get? e=some oe) (ZI:oe.dict=none) (hd:oe.data=.fields vs) (h1:vs[1]?=some .none) (h2:vs[2]?=some .none) (hn:g.get? e=none) (hs:Gk g s.heap)
 (h:∀ h',EZ g e oe.cls (rawInt L) h'->Kp g (env::fT) s.heap h'->Q () {s with heap:=h'}):wpAny M A (noteFrame (.ref e) env) Q E s:=by
 unfold noteFrame
 simp only[hf]
 refine fY (aK he hd h1 ?_)
 rw[aC (by decide)]
 exact zf OK hl hf he ZI hd (Array.getElem?_eq_some_iff.mp h1).1 h2 hn hs h
def HP {fJ:Heap}{env:Env}{fT:ao Env}{L e:ai}{cls:ak}{g:Heap}{Q:Unit->ah->Prop}
 (OK:A.frames=some (env::fT)) (hl:s.heap.FunFrames fJ (env::fT)) (hf:env.frame=some L) (hs:Gk g s.heap) (x:EZ g e cls .none s.heap)
 (h:∀ h',EZ g e cls (rawInt L) h'->Kp g (env::fT) s.heap h'->Q () {s with heap:=h'}):wpAny M A (noteFrame (.ref e) env) Q E s:=by
 obtain⟨oe,vs,T,oT,ts,⟨he,hc,hd,h1,h2⟩,⟨hn,Tp,hT,Tj,h3⟩,Jc⟩:=x
 unfold noteFrame
 simp only[hf]
 refine fY (aK he hd h1 ?_)
 rw[aB (show(Value.ref T != Value.none)=true from by simp)]
 refine fY (aK hT Tj h3 ?_)
 rw[aC (show ¬ ((Value.none==rawInt L)=true)from by simp[rawInt])]
 refine fY (dm hT Tj (Array.getElem?_eq_some_iff.mp h3).1 ?_)
 have other:∀ b,b≠T->(s.heap.update T (Obj.mapFields (·.setIfInBounds 3 Value.none))).get? b=s.heap.get? b:=λb hb=>aT _ _ (bo hb)
 have ff:(s.heap.update T (Obj.mapFields (·.setIfInBounds 3 Value.none))).FunFrames fJ (env::fT):=hl.of_keeps λb o q nf=>⟨o,(other b λz=>by rw[z,hT]at q;cases q;exact nf _ Tj).trans q,rfl⟩
 have k0:Kp g (env::fT) s.heap (s.heap.update T (Obj.mapFields (·.setIfInBounds 3 Value.none))):=Kp.of λb o q lt=>(other b (bo (He lt hn))).trans q
 exact zf (g:=g) OK ff hf ((other e (bo Tp)).trans he) hc.2 hd (Array.getElem?_eq_some_iff.mp h1).1 h2 Jc (k0.gk hs) λh' a k=>h h' (hc.1▸a) (k0.trans k)
def va {l:ao Env}{e:ai}{cls fl:ak}{g:Heap}{Q:Unit->ah->Prop}(x:EZ g e cls fl s.heap)
 (h:∀ h',EZ g e cls .none h'->Kp g l s.heap h'->(∀ b o,s.heap.get? b=some o->(∀ vs,o.data≠.fields vs)->h'.get? b=some o)->Q () {s with heap:=h'}):wpAny M A (setFlight (.ref e) none) Q E s:=by
 obtain⟨oe,vs,T,oT,ts,⟨he,hc,hd,h1,h2⟩,⟨hn,Tp,hT,Tj,h3⟩,Jc⟩:=x
 unfold setFlight
 refine fY (aK he hd h1 ?_)
 rw[aB (show(Value.ref T != Value.none)=true from by simp)]
 have h3s:=(Array.getElem?_eq_some_iff.mp h3).1
 have Wg:=eM Tj (·.setIfInBounds 3 ((none:aq ai).elim Value.none λf=>rawInt f))
 have other:∀ b,b≠T->(s.heap.update T (Obj.mapFields (·.setIfInBounds 3 ((none:aq ai).elim Value.none λf=>rawInt f)))).get? b=s.heap.get? b:=λb hb=>aT _ _ (bo hb)
 refine dm hT Tj h3s (h _ ⟨oe,vs,T,_,_,⟨(other e (bo Tp)).trans he,hc,hd,h1,h2⟩,⟨hn,Tp,bG _ hT (fA Wg),Wg,by simp[h3s]⟩,Jc⟩ (Kp.of λb o q lt=>(other b (bo (He lt hn))).trans q) λb o q nf=>(other b λz=>by rw[z,hT]at q;cases q;exact nf _ Tj).trans q)
end
def xZ (P:ae)(w:af):Hj:=λfT H s E ev s'=>∃(e:ai) (cls:ak) (H':Hp) (g:Heap),ev=.ref e/\s'.os=s.os/\AllBare s'.gens/\Un (AG fT) [] H H' s.heap s'.heap/\pQ P w H' s'.heap/\(Gk s.heap g/\(∀ b,H' b≠none->At g b)/\Gk g s'.heap)/\EZ g e cls .none s'.heap/\E cls none H'
def at_of {P:ae}{w:af}{H:Hp}{h:Heap}{a:ai}{o:HO}(x:pQ P w H h)(e:H a=some o):At h a:=by
 have x:=x a o e
 cases o with
 |lst xs=>obtain⟨_,_,_,_,e⟩:=x;exact⟨_,e⟩
 |tup xs=>obtain⟨_,_,_,_,e,_⟩:=x;exact⟨_,e⟩
 |dK kvs=>obtain⟨_,_,_,_,o,_,_,e,_⟩:=x;exact⟨_,e⟩
 |dT kvs=>obtain⟨_,_,_,_,o,_,_,e,_⟩:=x;exact⟨_,e⟩
 |set S n=>obtain⟨o,_,_,_,e,_⟩:=x;exact⟨_,e⟩
 |ins C dx fs=>obtain⟨_,_,_,e,_⟩:=x;exact⟨_,e⟩
 |own y=>obtain⟨_,e⟩:=x;exact⟨_,e⟩
 |xd fs=>obtain⟨_,⟨_,_,_,e,_⟩,_⟩:=x;exact⟨_,e⟩
 |XG lo hi=>obtain⟨_,_,_,e⟩:=x;exact⟨_,e⟩
 |BD ob u=>obtain⟨e,_⟩:=x;exact⟨_,e⟩
 |PY ps=>exact⟨_,(show h.get? a=some _ from x)⟩
 |met f y=>exact⟨_,(show h.get? a=some _ from x)⟩
 |ext φ=>obtain⟨_,⟨_,e⟩,_⟩:=x;exact⟨_,e⟩
def Lp {P:ae}{w:af}{g h h':Heap}{l:ao Env}{H:Hp}(x:pQ P w H h)(hb:∀ b,H b≠none->At g b/\b∉AG l)(k:Kp g l h h'):pQ P w H h':=λa o e =>
 (x a o e).zM (λb u BA q=>by
   have hn:H b≠none:=by rcases BA with rfl|z<;>intro y<;>simp_all
   exact k.other b u q (hb b hn).1 (hb b hn).2) (λ_ q=>q) λ_ _ q=>q
section
variable {X:Cx}{fI:ao (ai×Obj)}{σ:St}{H H':Hp}{s:ah}{g h1 h2:Heap}
def Inv.exit (I:Inv X fI σ H s)(hx:X.ex=[])(u:Un (AG X.stack) [] H H' s.heap h1)(hg:Gk s.heap g)(k:Kp g X.stack h1 h2):Un X.fs [] X.H₀ H' X.s₀.heap h2:=by
 have nx:∀ b,b∉X.ex:=λb z=>by rw[hx]at z;cases z
 have nn:∀ b:ai,b∉([]:ao ai):=λb z=>by cases z
 have atg:∀ b o,X.s₀.heap.get? b=some o->At g b:=λb o e=>by
  obtain⟨o',e'⟩:=I.fJ.there b o e (nx b)
  exact hg b ⟨o',e'⟩
 refine⟨λb o e n hb _=>?_,λb o e n hb _=>?_,λb o e n _=>?_,λb o e _=>?_,λb xs e=>u.x9 b xs (I.fJ.x9 b xs e),λb o xs e=>u.xw b o xs (I.fJ.xw b o xs e),λb ps e=>?_⟩
 .have e1:=I.fJ.keep b o e n hb (nx b)
  have n1:=I.fJ.free b o e n (nx b)
  have hs:b∉AG X.stack:=λz=>by
   rcases List.mem_cons.mp (I.wG b z)with y|y
   .exact absurd y (aD (aL (jf e) I.ok.above))
   .exact hb y
  exact k.other b o (u.keep b o e1 n1 hs (nn b)) (atg b o e) hs
 .obtain⟨sl,e1⟩:=I.fJ.slot b o e n hb (nx b)
  have n1:=I.fJ.free b o e n (nx b)
  obtain⟨sl2,e2⟩:=u.any e1 n1 (nn b)
  obtain⟨sl3,e3⟩:=k.any e2 (atg b o e)
  exact⟨sl3,e3⟩
 .obtain⟨o',e1⟩:=I.fJ.there b o e (nx b)
  exact u.free b o' e1 (I.fJ.free b o e n (nx b)) (nn b)
 .obtain⟨o',e1⟩:=I.fJ.there b o e (nx b)
  obtain⟨o2,e2⟩:=u.there b o' e1 (nn b)
  obtain⟨sl,e3⟩:=k.any e2 (atg b o e)
  exact⟨_,e3⟩
 .obtain⟨m1,e1⟩:=I.fJ.ya b ps e
  obtain⟨m2,e2⟩:=u.ya b _ e1
  exact⟨m1++m2,by rw[e2,Array.append_assoc]⟩
end
section
variable {P:ae}{w:af}{K:aa}{mg:Str->aq ak}{fJ:Heap}{N:ao Str}{qual:Str}{scope:Scope}{f:ai}{cd:ak}{A:Around}{fT:ao Env}{s₀ s:ah}{H₀ H:Hp}{E:XK}{fI:ao (ai×Obj)}{σ:St}
def Wn:Passes (xZ P w) (qZ (xZ P w) P w K mg fJ N qual scope f cd A fT s₀ H₀ E) E:=λfI σ H s ev s' I c=>by
 obtain⟨e,cls,H',g,rfl,os,bare,un,iA,⟨g1,g2,g3⟩,ex,hE⟩:=c
 have I2:=I.Mm (s':=s') (ch:=[]) os un iA bare (λb z=>absurd z (by simp))
 have OK:(qZ (xZ P w) P w K mg fJ N qual scope f cd A fT s₀ H₀ E).A.frames=some (envOfC qual scope s₀.heap.objs.size f cd::fT):=I.ok.frames
 show wpAny _ _ (leaving _ (.ref e)) _ _ s'
 unfold leaving
 refine fY (HP OK I2.stack rfl g3 ex λh1 x1 k1=>?_)
 refine va (l:=envOfC qual scope s₀.heap.objs.size f cd::fT) x1 λh2 x2 k2 _=>?_
 have k:=k1.trans k2
 exact⟨e,cls,H',g,rfl,os.trans I.os,bare,I.exit rfl un g1 k,Lp iA (λb hb=>⟨g2 b hb,λz=>hb (I2.sG b z)⟩) k,⟨λb hb=>by
  obtain⟨o,e0⟩:=hb
  obtain⟨o',e1⟩:=I.fJ.there b o e0 (by simp[qZ])
  exact g1 b ⟨o',e1⟩,g2,k.gk g3⟩,x2,hE⟩
def raises {h':Heap}{e:ai}{cls:ak}{vs:ao ak}(I:Inv (qZ (xZ P w) P w K mg fJ N qual scope f cd A fT s₀ H₀ E) fI σ H s)(x:Heap.MadeExcOf s.heap h' e cls vs)(hE:E cls none H):(qZ (xZ P w) P w K mg fJ N qual scope f cd A fT s₀ H₀ E).xe (.ref e) { s with heap:=h'}:=by
 have OK:(qZ (xZ P w) P w K mg fJ N qual scope f cd A fT s₀ H₀ E).A.frames=some (envOfC qual scope s₀.heap.objs.size f cd::fT):=I.ok.frames
 obtain⟨t,he,htn,ht⟩:=x.there
 have ff:h'.FunFrames fJ (envOfC qual scope s₀.heap.objs.size f cd::fT):=(show s.heap.FunFrames fJ _ from I.stack).of_keeps λb o q _=>⟨o,x.keeps b o q,rfl⟩
 have gk:Gk s.heap h':=λb rY=>by obtain⟨o,q⟩:=rY;exact⟨o,x.keeps b o q⟩
 show wpAny _ _ (leaving _ (.ref e)) _ _ _
 unfold leaving
 refine fY (D9 (s:={s with heap:=h'}) (g:=s.heap) OK ff rfl he rfl rfl rfl rfl x.new gk λh1 x1 k1=>?_)
 refine va (l:=envOfC qual scope s₀.heap.objs.size f cd::fT) x1 λh2 x2 k2 _=>?_
 have k:=k1.trans k2
 have un:Un (AG (envOfC qual scope s₀.heap.objs.size f cd::fT)) [] H H s.heap h':=Un.jz x.keeps
 have iA:pQ P w H h':=(show pQ P w H s.heap from I.iA).jz x.keeps
 refine⟨e,cls,H,s.heap,rfl,I.os,I.bare,I.exit rfl un (λb hb=>hb) k,Lp iA (λb hb=>⟨?_,λz=>hb (I.sG b z)⟩) k,⟨λb hb=>?_,λb hb=>?_,k.gk gk⟩,x2,hE⟩
 .cases q:H b with
  |none=>exact absurd q hb
  |some o=>exact at_of (show pQ P w H s.heap from I.iA) q
 .obtain⟨o,e0⟩:=hb
  obtain⟨o',e1⟩:=I.fJ.there b o e0 (by simp[qZ])
  exact⟨o',e1⟩
 .cases q:H b with
  |none=>exact absurd q hb
  |some o=>exact at_of (show pQ P w H s.heap from I.iA) q
end
abbrev DX:=ak->MS->Prop
def uR (φ:ao ai)(H:Hp)(Kx:DX)(E:XK):Prop:=∀ c gc gG H',Kx c gc->Fr φ H gG H'->gC gG H' gc->E c none H'
def uR.mono {φ gN:ao ai}{H H1:Hp}{Kx:DX}{E:XK}(h:uR φ H Kx E)(f:Fr φ H gN H1):uR gN H1 Kx E:=λc gc gG H' k g M=>h c gc gG H' k (f.trans g) M
abbrev rg:=ao D->MS->DK->DX->Prop
def zN (f:rg):Sp:=λvs H Q E=>∃ φ ds μ K Kx,fZ φ H ds vs/\gC φ H μ/\f ds μ K Kx/\wu φ H K Q/\uR φ H Kx E
structure IS (P:ae)(w:af)(K:aa)(mg:Str->Option ak)(fJ:Heap)(x:Str)(k:Nat)(ps:List Str)(sp:Sp):Prop where
 ex:∃ f fd,gF P w K mg fJ (xZ P w) k f fd ps sp/\mg x=some (.ref f)/\W.keepIn K (.ref f)=true/\Binds K fd ps []
structure Rz (X:Cx)(jh:List ai)(H0:Hp)(Kx:DX):Prop where
 ex:∃ E:XK,uR jh H0 Kx E/\Passes (xZ X.prog X.w) X E
structure Rm (X:Cx)(jh:List ai)(H0:Hp)(Kx:DX):Prop where
 ex:∃ E:XK,uR jh H0 Kx E/\Passes (xZ X.prog X.w) X E/\∀(fI:List (ai×Obj)) (σ:St) (H:Hp) (s:ah) (h':Heap) (e:ai) (cls:ak) (vs:List ak),Inv X fI σ H s->Heap.MadeExcOf s.heap h' e cls vs->E cls none H->X.xe (.ref e) {s with heap:=h'}
def Rm.z {X:Cx}{jh:ao ai}{H0:Hp}{Kx:DX}(h:Rm X jh H0 Kx):Rz X jh H0 Kx:=let ⟨E,a,b,_⟩:=h.ex;⟨E,a,b⟩
def gC.Te {φ jh:ao ai}{H H0:Hp}{μ:MS}(M:gC φ H μ)(e:μ[0]?=some (.gx jh H0)):Fr jh H0 φ H:=let ⟨_,_,h⟩:=M.at_ 0 _ e;h.1
def yz.nt {φ:ao ai}{H:Hp}{m:MO}{p:ai}(h:yz φ H m p)(zs:ao V):H p≠some (.tup zs):=λe=>by
 cases m with
 |box=>obtain⟨q,ns,i,r,z,h1,_⟩:=h;rw[e]at h1;cases h1
 |lst ds=>obtain⟨vs,h1,_⟩:=h;rw[e]at h1;cases h1
 |jC ks ds=>obtain⟨kvs,vs,h1,_⟩:=h;rw[e]at h1;cases h1
 |vw o kvs ds=>have h1:=h.1;rw[e]at h1;cases h1
 |ins C ns ds=>obtain⟨dx,fs,h1,_⟩:=h;rw[e]at h1;cases h1
 |lA ks ds=>obtain⟨kvs,h1,_⟩:=h;rw[e]at h1;cases h1
 |gx jh H0=>exact h.2.2.2 zs e
 |exc c=>rw[show _=_ from h]at e;cases e
def gC.ghost {φ:ao ai}{H:Hp}{μ:MS}{m:MO}(M:gC φ H μ)(e:μ[0]?=some m):gC φ H (μ.set 0 (.gx φ H)):=by
 have h0:0<μ.length:=(kM e).1
 refine⟨M.nd,by rw[bW];exact M.len,λk n en=>?_⟩
 by_cases hk:k=0
 .subst hk
  rw[aN h0]at en
  cases en
  obtain⟨p,e1,e2⟩:=M.at_ 0 m e
  exact⟨p,e1,.refl _ _,rfl,e2.ex,e2.nt⟩
 .rw[aQ (bo hk)]at en
  exact M.at_ k n en
def gC.back {φ gG:ao ai}{H H':Hp}{μ gc:MS}{m:MO}(M:gC φ H μ)(e:μ[0]?=some m)(M':gC gG H' gc)(e':gc[0]?=some (.gx φ H)):gC gG H' (gc.set 0 m):=by
 have h0:0<gc.length:=(kM e').1
 refine⟨M'.nd,by rw[bW];exact M'.len,λk n en=>?_⟩
 by_cases hk:k=0
 .subst hk
  rw[aN h0]at en
  cases en
  obtain⟨p',e1,f,hp,_⟩:=M'.at_ 0 _ e'
  obtain⟨p,e2,im⟩:=M.at_ 0 m e
  have:=f.get e2
  rw[e1]at this
  cases this
  exact⟨p',e1,im.mono f λo q=>hp.trans q⟩
 .rw[aQ (bo hk)]at en
  exact M'.at_ k n en
def gK (jh:ao ai)(H0:Hp)(m:MO)(K:DK):DK:=λd gc=>gc[0]?=some (.gx jh H0)/\K d (gc.set 0 m)
def gX (jh:ao ai)(H0:Hp)(m:MO)(K:DX):DX:=λc gc=>gc[0]?=some (.gx jh H0)/\K c (gc.set 0 m)
def wu.ghost {φ:ao ai}{H:Hp}{μ:MS}{m:MO}{K:DK}{Q:VK}(L:wu φ H K Q)(M:gC φ H μ)(e:μ[0]?=some m):wu φ H (gK φ H m K) Q:=λd gc gG v H' ⟨e',k⟩ f M' i=>L d _ gG v H' k f (M.back e M' e') i
def uR.ghost {φ:ao ai}{H:Hp}{μ:MS}{m:MO}{K:DX}{Q:XK}(L:uR φ H K Q)(M:gC φ H μ)(e:μ[0]?=some m):uR φ H (gX φ H m K) Q:=λc gc gG H' ⟨e',k⟩ f M'=>L c _ gG H' k f (M.back e M' e')
section
variable {X:Cx}{e:Expr}{es:ao Expr}{pos:Pos}{jh:ao ai}{H0:Hp}{Kx:DX}
def T5 (jh:ao ai)(H0:Hp)(Kx:DX)(f:rg)(w:DA):De:=λρ μ K=>w ρ μ λds gr=>gr[0]?=some (.gx jh H0)/\f ds gr K Kx
def O8 {f:rg}{w:DA}{x:Str}{p:Pos}{k:Nat}{ps:ao Str}(Z:Rz X jh H0 Kx)(C:IS X.prog X.w X.K X.mg X.fJ x k ps (zN f))(hr:jT k X.A)(hg:Gl X x)(ha:vB X (e::es) w)
 (xo:(x==("__debug__" : Str))=false:=by decide) (he:starEach (e::es) X.env=(false,eval e X.env)::starEach es X.env:=by rfl) (pw:(backTo pos (starEach es X.env)).any (·.1)=false:=by rfl):
 PD X (.Call (.Name x p) (e::es) [] pos) (T5 jh H0 Kx f w):=by
 obtain⟨E,LX,hp⟩:=Z.ex
 obtain⟨f',fd,F,hm,hk,hb⟩:=C.ex
 exact(Af F hr hg hm hk hb .nil hp ha xo he pw).imp λσ H Q ⟨φ,ρ,μ,K,Ee,M,w,L⟩ =>
  ⟨φ,ρ,μ,_,Ee,M,w,λds gr gN vs H1 k1 f1 M1 i1=>by show zN f (vs++[]) H1 Q E;rw[cy];exact⟨gN,ds,gr,K,Kx,i1,M1,k1.2,L.mono f1,LX.mono (M1.Te k1.1)⟩⟩
def TY (jh:ao ai)(H0:Hp)(Kx:DX)(C:ai)(w:DA):Ds:=λ_ ρ μ=>w ρ μ λds gr=>ds.length<=sizeLine/\gr[0]?=some (.gx jh H0)/\Kx (.ref C) gr
def qD {w:DA}{x:Str}{C:ai}{bm A9:ao ak}{B Bn newId nid SQ inN:String}{np lR:Pos}(Z:Rm X jh H0 Kx)(hc:X.gY=true)(O:OwnCls x C bm newId X.mg X.fJ)(Fn:ExcBaseFacts Bn newId inN A9)(hBn:bm.contains (.type Bn)=true)
 (FB:ExcBaseFacts B nid SQ bm) (hg:Gl X x) (ha:vB X (e::es) w) (hd:(x==("__debug__" : Str))=false:=by decide)
 (he:starEach (e::es) X.env=(false,eval e X.env)::starEach es X.env:=by rfl) (pw:(backTo lR (starEach es X.env)).any (·.1)=false:=by rfl):
 yy X (.Raise (some (.Call (.Name x np) (e::es) [] lR)) none pos) (TY jh H0 Kx C w):=λfI s σ H D I hq=>by
 obtain⟨φ,ρ,μ,N,A,M,k,L⟩:=hq
 obtain⟨E,LX,hp,mk⟩:=Z.ex
 obtain⟨tl,Na,nm,q,bs,hdct,sn,sub,ab,col,dd,k0,k1,k2,k3,k5,mN,hC,hN,XT,T⟩:=O.obj
 refine wpAny_Raise_call_subU (C:=C) (nm:=nm) (q:=q) (N:=Na) (bs:=bs) (bm:=tl) (hdct:=hdct) (sn:=sn) (sub:=sub) (ab:=ab) (col:=col) (dd:=dd) (k0:=k0) (k1:=k1) (k2:=k2) (k3:=k3) (k5:=k5)
  Fn hBn FB (mN:=mN) (T.hasType FB.hasBase) (I.ok.hd hc) (by rw[he];show(false||(backTo lR (starEach es X.env)).any (·.1))=false;rw[pw];rfl) XT (Aw I hg O.bound ⟨rfl,?_⟩ hd)
 have h:=ha lR fI s σ H (λvs H1=>vs.length<=sizeLine/\E (.ref C) none H1) I ⟨φ,ρ,μ,_,A,M,k,λds gr gN vs H1 k1 f1 M1 i1=>⟨by rw[i1.len];exact k1.1,LX (.ref C) gr gN H1 k1.2.2 (M1.Te k1.2.1) M1⟩⟩
 rw[he]at h ⊢
 refine Calls.evalArgs_plain (cc h (λus s2 qV=>by obtain⟨vs,H1,I1,r1,q1⟩:=qV;exact⟨rfl,by rw[<- r1.length];exact q1.1,I1.bk _ _ hC,hN.keeps I1.bk,T.keeps I1.bk,λh' e' mx=>mk fI σ H1 s2 h' e' _ _ I1 mx q1.2⟩) λ_ _ y=>y)
end
def FX (n:Nat)(K:DX):DX:=λc gc=>K c gc\/((∀(j:Nat) (m:MO),j<n->gc[j]?=some m->Aq n m)/\K c (gc.take n))
def uR.fx {φ:ao ai}{H:Hp}{μ:MS}{K:DX}{E:XK}(M:gC φ H μ)(L:uR φ H K E):uR φ H (FX μ.length K) E:=λc gc gG H' k f M'=>by
 rcases k with k|⟨hm,k⟩
 .exact L c gc gG H' k f M'
 .have GP:gG.take μ.length=φ:=by
   obtain⟨⟨ψ,rfl,_⟩,_,_⟩:=f
   rw[<- M.len,cf]
  have f0:Fr φ H (gG.take μ.length) H':=by
   rw[GP]
   exact⟨⟨[],by simp,λ_ h=>nomatch h⟩,f.keep,f.X7⟩
  exact L c _ _ H' k f0 (M'.kF hm)
section
variable {P:ae}{w:af}{K:aa}{mg:Str->aq ak}{fJ:Heap}
def j4.XH {x qual:Str}{st:Stmt}{f:ai}{fd:ag}{N ps:ao Str}{k:Nat}{fs:rg}(F:j4 K x qual st f fd)(S:gm N ps (fP st))(len:∀ ds μ Kd Kx,fs ds μ Kd Kx->ds.length=ps.length/\∃ m,μ[0]?=some m)
 (xp:∀(jl:ak) (A:Around) (fT:ao Env) (s:ah) (H:Hp) (E:XK),jT k (A.deeper (envOfC qual (fP st) s.heap.objs.size f jl))->∀(jh:ao ai) (Kb:DX),Rm (qZ (xZ P w) P w K mg fJ N qual (fP st) f jl A fT s H E) jh H Kb ->
   ∃ W,Jh (qZ (xZ P w) P w K mg fJ N qual (fP st) f jl A fT s H E) (jP st) W/\∀ ds μ m Kd Kx,(∀(j:Nat) (m':MO),(μ.set 0 (.gx jh H))[j]?=some m'->Aq (μ.set 0 (.gx jh H)).length m')->uh (μ.set 0 (.gx jh H)).length ds->μ[0]?=some m->fs ds μ Kd Kx->Kb=FX (μ.set 0 (.gx jh H)).length (gX jh H m Kx) ->
    W (J0 (μ.set 0 (.gx jh H)).length (gK jh H m Kd)) (um N ds) (μ.set 0 (.gx jh H))):gF P w K mg fJ (xZ P w) (k+1) f fd ps (zN fs):=by
 obtain⟨oc,od,kV,doc,pm,an,jl,ct,N3,rfl,lk,Ew⟩:=F.ex
 refine QN lk Ew S (λvs H Q E h=>?_) λA fT s H vs Q E hr MV=>?_
 .obtain⟨φ,ds,μ,Kd,Kx,ha,M,hf,L,LX⟩:=h
  rw[ha.len];exact(len ds μ Kd Kx hf).1
 .obtain⟨φ,ds,μ,Kd,Kx,ha,M,hf,L,LX⟩:=MV
  obtain⟨_,m,em⟩:=len ds μ Kd Kx hf
  have Mg:=M.ghost em
  have Lg:=(L.ghost M em).fz Mg
  obtain⟨W,hW,q⟩:=xp jl A fT s H E hr φ (FX (μ.set 0 (.gx φ H)).length (gX φ H m Kx)) ⟨E,(LX.ghost M em).fx Mg,Wn,λfI σ H' s' h' e cls vs I x hE=>raises I x hE⟩
  refine⟨_,hW,φ,um N ds,μ.set 0 (.gx φ H),J0 (μ.set 0 (.gx φ H)).length (gK φ H m Kd),.start ha,Mg,q ds μ m Kd Kx Mg.bound (by rw[<- Mg.len];exact ha.bound) em hf rfl,⟨λj7 gc gG ji H' k' f' A' M'=>?_,Lg,λ_ _ _ _ _ k' _ _ _=>k'.elim,λ_ _ _ _ _ k' _ _ _=>k'.elim⟩⟩
  exact Lg .iq gc gG .iq H' k' f' M' rfl
end
abbrev hC (jh:ao ai)(H0:Hp)(k:Nat):MS->Prop:=λμ=>μ[0]?=some (.gx jh H0)/\∃ c,μ[k]?=some (.exc c)
abbrev Rc:ao ak:=[.type "ValueError",.type "Exception",.type "BaseException",.type "object"]
def Ub {K:aa}{C:ai}{bmB:ao ak}{newId:String}(q:W.excIn K C bmB newId=true):∃(bm:ao ak) (ns:ai) (nm qn:Str) (bs:ao ak) (hd:Bool) (sn:ao Str) (sub:ao ak) (ab:Bool) (col:aq Bool) (dd:aq ai) (k0 k1 k2 k3 k5:aq ak),
 K.lookup C=some (excClassObj nm qn C ns bs bm hd sn sub ab col dd k0 k1 k2 k3 k5 newId)/\W.nsOkIn K ns=true/\W.nsIn K ns "__init__"=some none/\W.tailIn K bmB bm=true:=by
 unfold W.excIn at q
 split at q
 .rename_i dd cd sl ho
  split at q
  .rename_i C' bm k0 k1 k2 k3 n k5 hm hs
   simp only[bJ,beq_iff_eq,Bool.not_eq_true']at q
   obtain⟨⟨⟨⟨⟨rfl,rfl⟩,Wf⟩,ht⟩,iA⟩,XT⟩:=q
   obtain⟨nm,bs,mro,ns,qn,hd,sn,sub,ab,col,del⟩:=cd
   dsimp only at hm Wf iA XT
   subst hm Wf
   have hsl:sl=#[k0,k1,k2,k3,some (.builtin n),k5]:=by
    obtain⟨l⟩:=sl
    simp only at hs
    rw[hs]
   subst hsl
   exact⟨bm,ns,nm,qn,bs,hd,sn,sub,ab,col,dd,k0,k1,k2,k3,k5,ho,iA,XT,ht⟩
  .cases q
 .cases q
def Kz {K:aa}{h:Heap}{mg:Str->aq ak}{x:Str}{C:ai}(X:K.In h)(G:h.Ns mainGlobals mg)(e:W.nsIn K mainGlobals x=some (some (.ref C)))(q:W.excIn K C Rc "ValueError.__new__"=true):OwnCls x C Rc "ValueError.__new__" mg h:=by
 obtain⟨bm,ns,nm,qn,bs,hd,sn,sub,ab,col,dd,k0,k1,k2,k3,k5,h1,h2,h3,h4⟩:=Ub q
 exact⟨W.mg_of X G e,bm,ns,nm,qn,bs,hd,sn,sub,ab,col,dd,k0,k1,k2,k3,k5,_,X _ _ h1,.of_isNs (W.isNs_of_in X h2),W.nsMap_none_of_in X h2 h3,W.tail_of_in X h4⟩
def A4 {P:ae}{w:af}{K:aa}{mg:Str->aq ak}{fJ h:Heap}{x q:Str}{st:Stmt}{f:ai}{fd:ag}{k:Nat}{ps:ao Str}{sp:Sp}(G:K.In h)(N:h.Ns mainGlobals mg)(F:j4 K x q st f fd)(ok:gF P w K mg fJ (xZ P w) k f fd ps sp)(hb:Binds K fd ps [])
 (a:W.nsIn K mainGlobals x=some (some (.ref f)):=by kernel_rfl):IS P w K mg fJ x k ps sp:=⟨f,fd,ok,W.mg_of G N a,F.kp,hb⟩
def oK {μ:MS}{m n:MO}(em:μ[0]?=some m):(μ.set 0 n)[0]?=some n:=aN (kM em).1
def vQ {μ:MS}{m n:MO}(em:μ[0]?=some m):(μ.set 0 n).set 0 m=μ:=by
 cases μ with
 |nil=>cases em
 |cons a r=>cases em;rfl
def tI {μ:MS}{m:MO}{n:Nat}{jh:ao ai}{H:Hp}{c:ak}{Kb Kx:DX}(hK:Kb=FX n (gX jh H m Kx))(em:μ[0]?=some m)(k:Kx c μ):(μ.set 0 (.gx jh H))[0]?=some (.gx jh H)/\Kb c (μ.set 0 (.gx jh H)):=⟨oK em,by rw[hK];exact .inl ⟨oK em,by rw[vQ em];exact k⟩⟩
def CJ {μ:MS}{m:MO}{jh:ao ai}{H:Hp}{d:D}{K:DK}(em:μ[0]?=some m)(k:K d μ):gK jh H m K d (μ.set 0 (.gx jh H)):=⟨oK em,by rw[vQ em];exact k⟩
def Ql (n e a b:Int):Prop:=e<a/\a<b/\b<=n
instance (n e a b:Int):Decidable (Ql n e a b):=by unfold Ql;infer_instance
section
variable {X:Cx}{a b e o:Expr}{es:ao Expr}{pos:Pos}
def Tx {φ:ao ai}{H:Hp}{ks:ao Key}{ds:ao D}{v:V}(i:je φ H (.rC ks ds) v):∃ p o kvs,v=.ref p/\H p=some (.BD o (.dK kvs))/\kvs.map (·.1)=ks/\fZ φ H ds (kvs.map (·.2)):=by
 obtain⟨p,o,kvs,vs,rfl,_,h1,h2,rfl,h3⟩:=i
 exact⟨p,o,kvs,rfl,h1,h2,h3⟩
def ixF (ks:ao Key)(ds:ao D)(y:D):aq (aq D):=(yp y).map λk=>uG (ks.zip ds) k
def dIxF:sy:=λx y μ K=>match x with
 |.rC ks ds=>∃ d,ixF ks ds y=some (some d)/\K d μ
 |.mr j=>∃ d,ixM μ j y=some (some d)/\K d μ
 |_=>False
def X8 (μ:MS):D->aq (ao Key×ao D)
 |.rC ks ds=>some (ks,ds)
 |.mr j=>IA μ j
 |_=>none
def TK {φ:ao ai}{H:Hp}{μ:MS}{d:D}{v:V}{q:ao Key×ao D}(M:gC φ H μ)(i:je φ H d v)(h:X8 μ d=some q):∃ p kvs,v=.ref p/\Rd H p (.dK kvs)/\kvs.map (·.1)=q.1/\fZ φ H q.2 (kvs.map (·.2)):=by
 cases d with
 | rC ks ds =>
  cases h
  obtain⟨p,o,kvs,rfl,rd,e1,ha⟩:=Tx i
  exact⟨p,kvs,rfl,.inr ⟨o,rd⟩,e1,ha⟩
 | mr j =>
  obtain⟨p,kvs,hp,rfl,rd,e1,ha⟩:=O1 M i (ks:=q.1) (ds:=q.2) h
  exact⟨p,kvs,rfl,rd,e1,ha⟩
 |_=>cases h
def Z9:j5:=λds μ K=>match ds with
 |[x]=>opt (X8 μ x) λq=>K (.mr μ.length) (μ++[.jC q.1 q.2])
 |_=>False
def Qq:ao V->Hp->VK->Prop:=λvs H Q=>match vs with
 |[.ref a]=>∃ kvs,Rd H a (.dK kvs)/\Q (.int kvs.length) H
 |_=>False
def Y2:jB X (.builtin "len") Qq:=by
 intro fI s σ H xs us Q I r h
 unfold Qq at h
 split at h
 .obtain⟨kvs,rd,q⟩:=h
  obtain⟨u,rfl,ru⟩:=r.one
  cases ru
  exact WB I rd λt s' I'=>⟨.int _,H,I',⟨t,rfl⟩,q⟩
 .cases h
def DU:ao V->Hp->VK->Prop:=λvs H Q=>match vs with
 |[.ref a]=>∃ kvs,Rd H a (.dK kvs)/\∀ p,H p=none->Q (.ref p) (upd H p (.lst (kvs.map λkv=>kV kv.1)))
 |_=>False
def _root_.L2.gE.yU:∀ {xs:ao V} {us:ao ak},xs.length=us.length->(∀(i:Nat) (x:V) (u:ak),xs[i]?=some x->us[i]?=some u->gD x u)->gE xs us
 | [],us,hl,_=>by cases us with
  |nil=>exact .nil
  |cons v r=>simp at hl
 | d::ds,us,hl,h=>by cases us with
  |nil=>simp at hl
  |cons v r=>exact .cons (h 0 d v rfl rfl) (gE.yU (by simpa using hl) λi a b e1 e2=>h (i+1) a b (by simpa using e1) (by simpa using e2))
def Ic {kvs:ao (Key×V)}{vs:ao (Key×ak)}{acc:Array ak}(kv:KV kvs vs)(h:ItemsOf (λi v=>∃ k x,vs[i]?=some (k,x)/\(ju X.prog X.w).is k v=true) acc vs.length):gE (kvs.map λkv=>kV kv.1) acc.toList:=by
 refine gE.yU (by rw[iu,kv.length,<- h.1];exact(Array.length_toList (xs:=acc)).symm) λi x u e1 e2=>?_
 rw[oU]at e1
 cases q:kvs[i]? with
 |none=>rw[q]at e1;cases e1
 | some p =>
  rw[q]at e1;cases e1
  obtain⟨v,hv⟩:=N1 kv q
  obtain⟨k,x,e3,e4⟩:=h.2 i u (by rw[<- Array.getElem?_toList];exact e2)
  rw[hv]at e3;cases e3
  exact VZ e4
def VS (gY:X.gY=true):jB X (.type "list") DU:=by
 intro fI s σ H xs us Q I r h
 unfold DU at h
 split at h
 .rename_i a
  obtain⟨kvs,rd,q⟩:=h
  obtain⟨u,rfl,ru⟩:=r.one
  cases ru
  obtain⟨z,hd,vs,rel,dd⟩:=zi I.iA rd
  obtain⟨ep,da⟩:=dd.dictAt
  refine W.kdl_call (W.kdl_dict (knd:=ju X.prog X.w) (kvs:=vs) (ep:=ep) hd) (I.ok.hd gY) da (by rw[<- rel.length];exact z) λh' tk acc' c' kp hl it=>?_
  have I2:Inv X fI σ (upd H s.heap.objs.size (.lst (kvs.map λkv=>kV kv.1))) {s with heap:=h',toks:=tk}:=I.laid (a:=s.heap.objs.size) (o:=.lst _) (t':=tk) kp (ar _) ⟨by rw[iu];exact z,acc'.toList,c',Ic (X:=X) rel it,hl⟩
  exact⟨.ref s.heap.objs.size,_,I2,rfl,q _ (I.iA.fresh (ar _))⟩
 .cases h
def LJ (m:Bool):j5:=λds μ K=>match ds with
 |[x]=>opt (X8 μ x) λq=>nL m (q.1.map La) μ K
 |_=>False
def Cz {φ:ao ai}{H:Hp}:∀(kvs:ao (Key×V)),fZ φ H ((kvs.map (·.1)).map La) (kvs.map λkv=>kV kv.1)
 |[]=>rfl
 |p::kvs=>⟨_,_,rfl,Ox _,Cz kvs⟩
def JO {m:Bool}:mR DU (LJ m):=λφ H vs ds μ K Q M h k L=>by
 unfold LJ at k
 split at k
 .obtain⟨v,r,rfl,h1,h2⟩:=h;cases(show r=[]from h2)
  obtain⟨q,em,k⟩:=hX k
  obtain⟨p,kvs,rfl,rd,e1,ha⟩:=TK M h1 em
  refine⟨kvs,rd,λp' AB=>?_⟩
  rw[<- e1]at k
  exact IP L M (Cz kvs) k AB
 .exact k.elim
end
structure Hi (P:ae)(w:af)(K:aa)(mg:Str->Option ak)(fJ:Heap)(C:ai)(m:Str)(k:Nat)(ps:List Str)(sp:Sp):Prop where
 ex:∃ f fd,gF P w K mg fJ (xZ P w) k f fd ps sp/\Meth K C m f/\Binds K fd ps []
def cX (f:rg):j5:=λds μ K=>f ds μ K λ_ _=>False
def Vx {X:Cx}:Passes (xZ X.prog X.w) X (λ_ _ _=>False):=λfI σ H s e s' I c=>by
 obtain⟨_,_,_,_,_,_,_,_,_,_,_,z⟩:=c
 exact z.elim
section
variable {X:Cx}{a b e o:Expr}{es:ao Expr}{pos:Pos}{C:ai}{jh:ao ai}{H0:Hp}{Kx:DX}
def CV {f:rg}{w:DA}{x:Str}{p:Pos}{k:Nat}{ps:ao Str}(C:IS X.prog X.w X.K X.mg X.fJ x k ps (zN f))(hr:jT k X.A)(hg:Gl X x)(ha:vB X (e::es) w)
 (xo:(x==("__debug__" : Str))=false:=by decide) (he:starEach (e::es) X.env=(false,eval e X.env)::starEach es X.env:=by rfl) (pw:(backTo pos (starEach es X.env)).any (·.1)=false:=by rfl):
 PD X (.Call (.Name x p) (e::es) [] pos) (ve (cX f) w):=by
 obtain⟨f',fd,F,hm,hk,hb⟩:=C.ex
 exact(Af F hr hg hm hk hb .nil Vx ha xo he pw).imp λσ H Q ⟨φ,ρ,μ,K,Ee,M,w,L⟩ =>
  ⟨φ,ρ,μ,_,Ee,M,w,λds gr gN vs H1 k1 f1 M1 i1=>by show zN f (vs++[]) H1 Q _;rw[cy];exact⟨gN,ds,gr,K,_,i1,M1,k1,L.mono f1,λ_ _ _ _ z _ _=>z.elim⟩⟩
def JH {m:Str}{f:rg}{wo:De}{w:DA}{σ:St}{H:Hp}{Q:VK}{E:XK}{ok:MS->Prop}{Kx:DX}(hE:∀ φ μ H,gC φ H μ->ok μ->uR φ H Kx E)(h:tD (λρ μ K=>wo ρ μ λx gr=>FG C m gr x/\w ρ gr λds iE=>ok iE/\f (x::ds) iE K Kx) σ H Q):JG C m (zN f) [] E (tD wo) (Ux w) σ H Q:=by
 obtain⟨φ,ρ,μ,K,A,M,k,L⟩:=h
 refine⟨φ,ρ,μ,_,A,M,k,λd1 gr gN v1 H1 k1 f1 M1 i1=>?_⟩
 obtain⟨p,dx,fs,rfl,h1,h2⟩:=B3 M1 i1 k1.1
 refine⟨p,dx,fs,rfl,h1,h2,gN,ρ,gr,_,A.mono f1,M1,k1.2,λds iE kQ vs H2 k2 f2 M2 i2=>?_⟩
 show zN f (.ref p::(vs++[])) H2 Q E
 rw[cy]
 exact⟨kQ,d1::ds,iE,K,Kx,⟨_,vs,rfl,je.mono f2 i1,i2⟩,M2,k2.2,L.mono (f1.trans f2),hE kQ iE H2 M2 k2.1⟩
def TZ (jh:ao ai)(H0:Hp)(Kx:DX)(C:ai)(m:Str)(f:rg)(wo:De)(w:DA):De:=λρ μ K=>wo ρ μ λx gr=>FG C m gr x/\w ρ gr λds iE=>iE[0]?=some (.gx jh H0)/\f (x::ds) iE K Kx
def AY {m:Str}{f:rg}{wo:De}{w:DA}{mK:Pos}{pl:Sem Bool}{k:Nat}{ps:ao Str}(Z:Rz X jh H0 Kx)(CM:Hi X.prog X.w X.K X.mg X.fJ C m k ps (zN f))(c:E5 X.K C)(hr:jT k X.A)(ho:PD X o wo)(ha:vB X (e::es) w)
 (Im:starEach (e::es) X.env=(false,eval e X.env)::starEach es X.env:=by rfl) (pw:(backTo pos (starEach es X.env)).any (·.1)=false:=by rfl)
 (ht:eval (.Call (.Attribute o m mK) (e::es) [] pos) X.env=(do
   let ov <- eval o X.env
   standAt mK.atName
   let (f,first) <- holding [ov] (getMethod ov m pl)
   callWith pos f first (backTo pos (starEach (e::es) X.env)) (backToKw pos (keywordEach [] X.env))):=by rfl):
 PD X (.Call (.Attribute o m mK) (e::es) [] pos) (TZ jh H0 Kx C m f wo w):=by
 obtain⟨E,LX,hp⟩:=Z.ex
 obtain⟨f',fd,F,hm,hb⟩:=CM.ex
 exact(FO ho c hm F hr hb .nil hp ha Im pw ht).imp λσ H Q hq=>JH (ok:=λμ=>μ[0]?=some (MO.gx jh H0)) (λφ μ H M e=>LX.mono (M.Te e)) hq
end
def Mj {P:ae}{w:af}{K:aa}{mg:Str->aq ak}{fJ:Heap}{C:ai}{x q:Str}{st:Stmt}{f:ai}{fd:ag}{k:Nat}{ps:ao Str}{sp:Sp}(F:j4 K x q st f fd)(ok:gF P w K mg fJ (xZ P w) k f fd ps sp)(hb:Binds K fd ps [])
 (a:W.findIn K (.ref C) x=some (some (.ref f)):=by kernel_rfl) (i:W.isFn K (.ref f)=true:=by kernel_rfl):Hi P w K mg fJ C x k ps sp:=⟨f,fd,ok,⟨a,i,F.kp⟩,hb⟩
inductive Pt where
 |fst (b:List Nat) (a:Int)
 |jn (l r:Str) (p:Int)
structure RS where
 n:Int
 jz:List (Str×Pt)
 YL:List (Int×Unit)
inductive Dd where
 |put (nm b:Str) (a:Int)|join (nm l r:Str) (p:Int)|found (nm:Str) (bar:Int) (sg:Str)|aged (nm:Str) (a:Int)|drop (nm:Str)|free (p:Int)|YL (p:Int)
section
variable {α β:Type}[DecidableEq α]
def W7 (l:ao (α×β))(k:α):aq β:=(l.find? λp=>decide (p.1=k)).map (·.2)
end
section
variable {α β:Type}[DecidableEq α]{κ:α->Key}(hi:∀ a b,κ a=κ b->a=b)(f:β->D)
include hi
end
def evF {γ:Type}(gf:Str->ao Nat->Int->γ)(gj:γ->γ->Int->γ)(z:γ)(jz:ao (Str×Pt)):Nat->Str->γ
 |0,_=>z
 | f+1,nm=>match W7 jz nm with
  |some (.fst b a)=>gf nm b a
  |some (.jn l r p)=>gj (evF gf gj z jz f l) (evF gf gj z jz f r) p
  |none=>z
section
variable {γ:Type}{gf:Str->ao Nat->Int->γ}{gj:γ->γ->Int->γ}{z:γ}{jz:ao (Str×Pt)}
def ev (gf:Str->ao Nat->Int->γ)(gj:γ->γ->Int->γ)(z:γ)(jz:ao (Str×Pt))(nm:Str):γ:=evF gf gj z jz jz.length nm
end
def AO {μ:MS}{x:MO}:(μ++[x])[μ.length]?=some x:=by rw[pX (ar _),a6];rfl
section
variable {α β:Type}[DecidableEq α]{κ:α->Key}(hi:∀ a b,κ a=κ b->a=b)(f:β->D)
include hi
end
open PySem PySem.Spec PyProof.Rows PyProof
def TV (c:Dt)(ρ:DE)(μ:MS)(b:Bool):Prop:=∀ K:Bool->MS->Prop,K b μ->c ρ μ K
section
variable {a c:Dt}{t u:Ds}{N:DN}{ρ:DE}{μ:MS}{x y b:Bool}{e:De}
def TV.Bx (h:∀ K:DK,K (.bl b) μ->e ρ μ K):TV (pB e) ρ μ b:=λK k=>h _ k
def TV.and (h1:TV a ρ μ x)(h2:x=true->TV c ρ μ y):TV (GV a c) ρ μ (x&&y):=λK k=>h1 _ (by
 cases x with
 |true=>rw[aB rfl];exact h2 rfl K k
 |false=>rw[aC (by decide)];exact k)
def TV.or (h1:TV a ρ μ x)(h2:x=false->TV c ρ μ y):TV (LW a c) ρ μ (x||y):=λK k=>h1 _ (by
 cases x with
 |true=>rw[aB rfl];exact k
 |false=>rw[aC (by decide)];exact h2 rfl K k)
def TV.not (h1:TV a ρ μ x):TV (QW a) ρ μ (!x):=λK k=>h1 _ k
def nq (b:Bool)(h:TV c ρ μ b)(ht:b=true->t N ρ μ)(hu:b=false->u N ρ μ):T3 c t u N ρ μ:=h _ (by
 cases b with
 |true=>rw[aB rfl];exact ht rfl
 |false=>rw[aC (by decide)];exact hu rfl)
end
def mQ {N:DN}{ρ:DE}{μ:MS}(h:N.nx ρ μ):dNx N ρ μ:=h
section
variable {α β:Type}[DecidableEq α]{κ:α->Key}(hi:∀ a b,κ a=κ b->a=b){f:β->D}{μ:MS}{j:Nat}{l:ao (α×β)}
include hi
end
def O0 {μ:MS}{j:Nat}{ks:ao Key}{ds:ao D}(h:μ[j]?=some (.jC ks ds)):IA μ j=some (ks,ds):=by unfold IA;rw[h]
end L2
namespace L2
open PySem PySem.W PyProof.Rows
end L2
namespace L2
open PySem PySem.Spec PyProof.Rows PyProof PySem.W
end L2
namespace L2
open PySem PySem.Spec PyProof.Rows PyProof
section
variable {jz:ao (Str×Pt)}{z:Str}{b b':ao Nat}{a:Int}(h:W7 jz z=some (.fst b a))
include h
end
def zs {n:Nat}(h:Nat.ble n 100=true:=by rfl):n<=sizeLine:=aW (Nat.le_of_ble_eq_true h) (sz (by decide))
section
variable {X:Cx}{a b e e1 e2 e3:Expr}{wa wb w w1 w2 w3:De}{pos p:Pos}
def a1 (h:PD X e w)(s:starEach [e] X.env=(false,eval e X.env)::starEach [] X.env:=by rfl):vB X [e] (tU w ID):=gz h kq s
def a2 (h:PD X e w)(h1:PD X e1 w1)(s:starEach [e,e1] X.env=(false,eval e X.env)::starEach [e1] X.env:=by rfl)(s1:starEach [e1] X.env=(false,eval e1 X.env)::starEach [] X.env:=by rfl):vB X [e,e1] (tU w (tU w1 ID)):=gz h (a1 h1 s1) s
def a3 (h:PD X e w)(h1:PD X e1 w1)(h2:PD X e2 w2)(s:starEach [e,e1,e2] X.env=(false,eval e X.env)::starEach [e1,e2] X.env:=by rfl)(s1:starEach [e1,e2] X.env=(false,eval e1 X.env)::starEach [e2] X.env:=by rfl)(s2:starEach [e2] X.env=(false,eval e2 X.env)::starEach [] X.env:=by rfl):vB X [e,e1,e2] (tU w (tU w1 (tU w2 ID))):=gz h (a2 h1 h2 s1 s2) s
def jo (ha:PD X a wa)(hb:PD X b wb)(hs:Bf b:=by exact λ_ _=>rfl):PD X (.Subscript a b pos) (wc WN wa wb):=d_ix Ld Vg ha hb hs
def ot (ha:PD X a wa)(hb:PD X b wb):PD X (.BinOp a .Add b pos) (wc (T7 false) wa wb):=pU MA Rx ha hb
def G3 (ha:PD X a wa)(hb:PD X b wb):PD X (.BinOp a .Sub b pos) (wc (vA λi j=>.int (i - j)) wa wb):=pU YI Rw ha hb
def Vs (ha:PD X a wa)(hb:PD X b wb):PT X (.Compare a [.Lt] [b] pos) (yc (pB (wc (vA λi j=>.bl (decide (i<j))) wa wb))):=kS XM rK ha hb (iS _)
def MQ (ha:PD X a wa)(hb:PD X b wb):PT X (.Compare a [.LtE] [b] pos) (yc (pB (wc (vA λi j=>.bl (decide (i<=j))) wa wb))):=kS leC rK ha hb (iS _)
def RN (ha:PD X a wa)(hb:PD X b wb):PT X (.Compare a [.Gt] [b] pos) (yc (pB (wc (vA λi j=>.bl (decide (j<i))) wa wb))):=kS ZY rK ha hb (iS _)
def YT (ha:PD X a wa)(hb:PD X b wb):PT X (.Compare a [.GtE] [b] pos) (yc (pB (wc (vA λi j=>.bl (decide (j<=i))) wa wb))):=kS geC rK ha hb (iS _)
def Kc (ha:PD X a wa)(hb:PD X b wb):PT X (.Compare a [.Eq] [b] pos) (yc (pB (wc (Md false) wa wb))):=kS X5 wK ha hb (iS _)
def Vr (ha:PD X a wa)(hb:PD X b wb):PT X (.Compare a [.NotEq] [b] pos) (yc (pB (wc (Md true) wa wb))):=kS Cq wK ha hb (iS _)
def CW (T:lM X.mg)(h:PD X e w)(hg:Gl X "len":=by rfl)(he:starEach [e] X.env=(false,eval e X.env)::starEach [] X.env:=by rfl)(pw:(backTo pos (starEach [] X.env)).any (·.1)=false:=by rfl):PD X (.Call (.Name "len" p) [e] [] pos) (ve OS (tU w ID)):=nj Ot Rv hg T.len PySem.boot_len (a1 h he) (by decide) (by decide) he pw
section
variable {es:ao Expr}{x:Str}{k k0:Nat}{ps:ao Str}{f:j5}{fx:rg}{u:DA}
def qC (C:nB X.prog X.w X.K X.mg X.fJ x k ps (iG f))(hr:jT k0 X.A)(ha:vB X (e::es) u)(hk:k<=k0:=by first | decide | exact ar _ | lia)(hg:Gl X x:=by rfl)(xo:(x==("__debug__" : Str))=false:=by decide)(he:starEach (e::es) X.env=(false,eval e X.env)::starEach es X.env:=by rfl)(pw:(backTo pos (starEach es X.env)).any (·.1)=false:=by rfl):
 PD X (.Call (.Name x p) (e::es) [] pos) (ve f u):=TU C (hr.mono hk) hg ha xo he pw
end
def qS (i:Nat){x:Str}{pos':Pos}(hN:X.N.Nodup)(he:PD X e w)(hi:X.N[i]?=some x:=by rfl)(hx:Loc X.env.scope x:=by first | exact Or.inl rfl | exact Or.inr rfl)(hf:X.fn x=true\/X.env.scope.names.lookup x=some .local:=by first | exact .inl rfl | exact .inr rfl | assumption)
 (Lm:swapsWith e (some (.Name x pos')) pos.line X.env=pure false:=by rfl):yy X (.Assign [.Name x pos'] e pos) (L8 i w):=Vi hN hi hx he hf Lm
def qN (i:Nat){x:Str}(hN:X.N.Nodup)(hi:X.N[i]?=some x:=by rfl)(hx:Loc X.env.scope x:=by first|exact Or.inl rfl|exact Or.inr rfl)(hf:X.fn x=true\/X.env.scope.names.lookup x=some .local:=by first|exact .inl rfl|exact .inr rfl|assumption):PG X (.Name x pos) (tJ i):=vG hN hi hx hf
def qT (i:Nat){x:Str}(hN:X.N.Nodup)(hi:X.N[i]?=some x:=by rfl)(hx:Loc X.env.scope x:=by first|exact Or.inl rfl|exact Or.inr rfl)(hf:X.fn x=true\/X.env.scope.names.lookup x=some .local:=by first|exact .inl rfl|exact .inr rfl|assumption):Tg X (.Name x pos) (tJ i) (AS i) [i]:=⟨vG hN hi hx hf,f9 i,fL i⟩
def sq {N0 ps N:ao Str}{js:ao (aq Nat)}{sc Uz:Scope}(S:gm N0 ps Uz)(h:wj N0 Uz N js sc=true)(hN:X.N=N0:=by rfl)(hs:X.env.scope=Uz:=by rfl):kr X N js sc:=EM h hN hs
section
variable {tg iter elt:Expr}{ifs:ao Expr}{sc:Scope}{N:ao Str}{js:ao (aq Nat)}{g:TG}{y:DG}{S:ao Nat}{t:Dt}{wi:DI}
def YO (i:Nat)(m:Bool){pos' wI:Pos}{x:Str}(hN:X.N.Nodup)(hc:kr X N js sc)(so:MC g y S)(mo:pP g)(hi:Hg X tg iter wi)(hg:∀ fp s H,N.Nodup->PG (ou X N sc fp s H) tg g)
 (ht:∀ fp s H,Bh (ou X N sc fp s H) ifs t) (he:∀ fp s H,PD (ou X N sc fp s H) elt w) (ho:rl S js=true:=by rfl) (gY:X.gY=true:=by rfl) (Es:X.N[i]?=some x:=by rfl) (hx:Loc X.env.scope x:=by first|exact Or.inl rfl|exact Or.inr rfl) (Lm:swapsWith (.ListComp elt [⟨tg,iter,ifs,0⟩] sc pos) (some (.Name x pos')) wI.line X.env=pure true:=by rfl)
 (hs:∀ x,foldedSetIterable iter X.env x=pure x:=by intro _;rfl) (hf:X.fn x=true\/X.env.scope.names.lookup x=some .local:=by first|exact .inl rfl|exact .inr rfl|assumption):
 yy X (.Assign [.Name x pos'] (.ListComp elt [⟨tg,iter,ifs,0⟩] sc pos) wI) (L8 i (xN m wi js y t w)):=Hy m hc gY so mo ho hN Es hx hi (λfp s H=>hg fp s H hc.nd) ht he Lm hs hf
def Je (m:Bool)(hc:kr X N js sc)(so:MC g y S)(mo:pP g)(hi:Hg X tg iter wi)(hg:∀ fp s H,N.Nodup->PG (ou X N sc fp s H) tg g)(ht:∀ fp s H,Bh (ou X N sc fp s H) ifs t)(he:∀ fp s H,PD (ou X N sc fp s H) elt w)(ho:rl S js=true:=by rfl)(gY:X.gY=true:=by rfl)
 (hs:∀ x,foldedSetIterable iter X.env x=pure x:=by intro _;rfl):PD X (.ListComp elt [⟨tg,iter,ifs,0⟩] sc pos) (xN m wi js y t w):=TR m hc gY so mo ho hi (λfp s H=>hg fp s H hc.nd) ht he hs
def XF (i:Nat)(m:Bool){pos' wI:Pos}{x:Str}(hN:X.N.Nodup)(hc:kr X N js sc)(hi:Hg X tg iter wi)(hg:∀ fp s H,N.Nodup->PG (ou X N sc fp s H) tg (tJ 0))
 (ht:∀ fp s H,Bh (ou X N sc fp s H) ifs t) (he:∀ fp s H,PD (ou X N sc fp s H) elt w) (ho:rl [0] js=true:=by rfl) (gY:X.gY=true:=by rfl) (Es:X.N[i]?=some x:=by rfl) (hx:Loc X.env.scope x:=by first|exact Or.inl rfl|exact Or.inr rfl) (Lm:swapsWith (.ListComp elt [⟨tg,iter,ifs,0⟩] sc pos) (some (.Name x pos')) wI.line X.env=pure true:=by rfl)
 (hs:∀ x,foldedSetIterable iter X.env x=pure x:=by intro _;rfl) (hf:X.fn x=true\/X.env.scope.names.lookup x=some .local:=by first|exact .inl rfl|exact .inr rfl|assumption):
 yy X (.Assign [.Name x pos'] (.ListComp elt [⟨tg,iter,ifs,0⟩] sc pos) wI) (L8 i (xN m wi js (AS 0) t w)):=YO i m hN hc (f9 0) (fL 0) hi hg ht he ho gY Es hx Lm hs hf
def CY (m:Bool)(hc:kr X N js sc)(hi:Hg X tg iter wi)(hg:∀ fp s H,N.Nodup->PG (ou X N sc fp s H) tg (tJ 0))(ht:∀ fp s H,Bh (ou X N sc fp s H) ifs t)(he:∀ fp s H,PD (ou X N sc fp s H) elt w)(ho:rl [0] js=true:=by rfl)(gY:X.gY=true:=by rfl)
 (hs:∀ x,foldedSetIterable iter X.env x=pure x:=by intro _;rfl):PD X (.ListComp elt [⟨tg,iter,ifs,0⟩] sc pos) (xN m wi js (AS 0) t w):=Je m hc (f9 0) (fL 0) hi hg ht he ho gY hs
end
end
end L2
namespace L2
open PySem PySem.Spec PyProof.Rows PyProof PySem.W
abbrev pA (s:Stmt):ao Str:=(kz s).args.map (·.arg)
def i8 {N P:ao Str}{sc:Scope}(h1:sc.kind=.function:=by rfl)(h2:sc.isCoroutine=false:=by rfl)(h3:sc.isGenerator=false:=by rfl)(h4:N.Nodup:=by decide +kernel)(h5:N.take P.length=P:=by rfl)
 (h6:∀ x∈P,sc.names.lookup x=some .local\/sc.names.lookup x=some .cell:=by decide +kernel) (h7:∀ y∈sc.names,y.2≠.free:=by decide +kernel):gm N P sc:=⟨h1,h2,h3,h4,h5,h6,h7⟩
def kf (f c:ai)(x q:Str)(s:Stmt)(pm:ak)(t l a r1 r2:Nat)(v1 v2:ak)(r3 t2:Nat):ao (ai×Obj):=[ko f (X1 x q s pm c),ko c (coQ x q t l a r1 r2 v1 v2 r3 t2)]
def oR (f c:ai)(x:Str)(s:Stmt)(pm:ak)(t l a r1 r2:Nat)(v1 v2:ak)(r3 t2:Nat):ao (ai×Obj):=kf f c x x s pm t l a r1 r2 v1 v2 r3 t2
def kx (P:Params)(a n h:ai)(x:Str)(sl:aq ak)(t u:Nat)(m:ak)(i l:Nat)(st:ai)(sub:ao ak:=[])(bs:ao ak:=[.ref h])(mro:ao ak:=[.ref a,.ref h,.type "ValueError",.type "Exception",.type "BaseException",.type "object"]):ao (ai×Obj) :=
 [ko a ⟨.type "type",none,.cls ⟨x,bs,mro,n,x,true,[],sub,false,none,false⟩,#[sl,none,some (.str x t),some (.str x u),some (.builtin "ValueError.__new__"),some (.bool true)]⟩,
  ko n ⟨.type "dict",none,.dict #[v8 P "__module__" i m,v8 P "__firstlineno__" (i+4) (.int l (i+3)),v8 P "__static_attributes__" (i+5) (.ref st),v8 P "__doc__" (i+6) .none] 2,#[]⟩]
section
variable {K:Frag}{x q:Str}{s:Stmt}{f:ai}{fd:ag}{ps:ao Str}(F:j4 K x q s f fd)
include F
def MW (hl:ps.length=1:=by rfl)(h:∀(kV doc pm:ak) (an:aq ai) (jl ct a:ak),bindArgs (fnOf x q (kz s) (jP s) (fP s) .none kV doc pm an jl ct) ⟨[a],[]⟩=pure (ps.zip [a]):=by intros;rfl):Binds K fd ps []:=F.binds λk d p n c t=>by rw[hl];exact Q5 λa=>h k d p n c t a
def Ba (hl:ps.length=2:=by rfl)(h:∀(kV doc pm:ak) (an:aq ai) (jl ct a b:ak),bindArgs (fnOf x q (kz s) (jP s) (fP s) .none kV doc pm an jl ct) ⟨[a,b],[]⟩=pure (ps.zip [a,b]):=by intros;rfl):Binds K fd ps []:=F.binds λk d p n c t=>by rw[hl];exact Jg λa=>Q5 λb=>h k d p n c t a b
def Dz (hl:ps.length=3:=by rfl)(h:∀(kV doc pm:ak) (an:aq ai) (jl ct a b e:ak),bindArgs (fnOf x q (kz s) (jP s) (fP s) .none kV doc pm an jl ct) ⟨[a,b,e],[]⟩=pure (ps.zip [a,b,e]):=by intros;rfl):Binds K fd ps []:=F.binds λk d p n c t=>by rw[hl];exact Jg λa=>Jg λb=>Q5 λe=>h k d p n c t a b e
def Ug (hl:ps.length=4:=by rfl)(h:∀(kV doc pm:ak) (an:aq ai) (jl ct a b e g:ak),bindArgs (fnOf x q (kz s) (jP s) (fP s) .none kV doc pm an jl ct) ⟨[a,b,e,g],[]⟩=pure (ps.zip [a,b,e,g]):=by intros;rfl):Binds K fd ps []:=F.binds λk d p n c t=>by rw[hl];exact Jg λa=>Jg λb=>Jg λe=>Q5 λg=>h k d p n c t a b e g
end
end L2
namespace L2
open PySem PySem.Spec PyProof.Rows PyProof
def w0 (n:Nat):Bool:=n==0
def w1 (n:Nat):Bool:=n==1
def O9 {c:Dt}{t u:Ds}{N:DN}{ρ:DE}{μ:MS}(B:Bool->MS->Prop)(h:∀ K:Bool->MS->Prop,(∀ b gc,B b gc->K b gc)->c ρ μ K)(ht:∀ gc,B true gc->t N ρ gc)(hu:∀ gc,B false gc->u N ρ gc):T3 c t u N ρ μ:=h _ λb gc hb=>by
 cases b with
 |true=>rw[aB rfl];exact ht gc hb
 |false=>rw[aC (by decide)];exact hu gc hb
open PySem PySem.Spec PyProof.Rows
def jV.vo (cs:ao Int)(ts:ao Tk):jV->aq Tk
 |.num n=>if 0<=n then ts[n.toNat]? else none
 | .lC p l r=>match l.vo cs ts,r.vo cs ts with
  |some a,some b=>if p∈cs then some (qj a b p)else none
  |_,_=>none
def jV.yC {cs:ao Int}{ts:ao Tk}:∀ {t:jV} {v:Tk},t.vo cs ts=some v->t.ok cs ts.length/\t.val ts=v
 | .num n,v,h=>by
  have h:(if 0<=n then ts[n.toNat]? else none)=some v:=h
  split at h
  .have:=(kM h).1
   exact⟨⟨by lia,by lia⟩,by show(ts[n.toNat]?).getD ([],0)=v;rw[h];rfl⟩
  .cases h
 | .lC p l r,v,h=>by
  have h:(match l.vo cs ts,r.vo cs ts with|some a,some b=>if p∈cs then some (qj a b p)else none|_,_=>none)=some v:=h
  cases el:l.vo cs ts with
  |none=>rw[el]at h;cases h
  | some a =>
   cases er:r.vo cs ts with
   |none=>rw[el,er]at h;cases h
   | some b =>
    rw[el,er]at h
    have h:(if p∈cs then some (qj a b p)else none)=some v:=h
    split at h
    .rename_i hp
     cases h
     obtain⟨l1,l2⟩:=yC el
     obtain⟨r1,r2⟩:=yC er
     exact⟨⟨hp,l1,r1⟩,by show qj (l.val ts) (r.val ts) p=_;rw[l2,r2]⟩
    .cases h
def jV.KI {cs:ao Int}{ts:ao Tk}:∀ {t:jV},t.ok cs ts.length->t.vo cs ts=some (t.val ts)
 | .num n,h=>by
  obtain⟨h0,h1⟩:0<=n/\n<ts.length:=h
  show(if 0<=n then ts[n.toNat]? else none)=some ((ts[n.toNat]?).getD ([],0))
  rw[aB h0,jk (by lia)];rfl
 | .lC p l r,h=>by
  show(match l.vo cs ts,r.vo cs ts with|some a,some b=>if p∈cs then some (qj a b p)else none|_,_=>none)=_
  rw[KI h.2.1,KI h.2.2]
  exact aB h.1
def X3 (cB:ai):rg:=λds μ K Kx=>match ds with
 |[.lst y,.int p]=>(∃ m,μ[0]?=some m)/\∃ cs:ao Int,y=cs.map D.int/\(p∈cs->K (.int p) μ)/\(¬ p∈cs->Kx (.ref cB) μ)
 |_=>False
def Z7 (cB:ai):rg:=λds μ K Kx=>match ds with
 |[.int n,.lst x,.lst y,d]=>(∃ m,μ[0]?=some m)/\∃(cs:ao Int) (ts:ao Tk) (t:jV),x=cs.map D.int/\y=ts.map mM/\d=rp t/\t.cnt<=1000/\(∀ p∈cs,0<=p)/\n<=1000/\(∀ t∈ts,Be n t)/\(match t.vo cs ts with|some v=>K (mM v) μ|none=>Kx (.ref cB) μ)
 |_=>False
def U0 (o:aq Tk):D:=match o with
 |some v=>mM v
 |none=>.iq
def uE (n:Nat):j5:=λds μ K=>match ds with
 |[.lst c,.lst y,d]=>∃(cs:ao Int) (ts:ao Tk) (t:jV) (z:Int),c=cs.map D.int/\y=ts.map mM/\d=rp t/\t.dep<=n/\(∀ p∈cs,0<=p)/\z<=1000/\(∀ t∈ts,Be z t)/\K (U0 (t.vo cs ts)) μ
 |_=>False
def uX (f:Nat->Int):ao Nat->Int->aq (Nat×Int)
 |[],_=>none
 |k::M,r=>if r<f k then some (k,r)else uX f M (r - f k)
def wq (es:ao Int)(ts:ao Tk):Nat->Nat->Nat->Int->jV
 |0,_,_,_=>.num 0
 | a+1,i,j,r=>if gw es ts (a+1) i j=0 then .num ((qh es ts a i j).getD r.toNat 0:Nat)else
  match uX (λk=>iM es ts a i k*iM es ts a k j) (mV (gw es ts (a+1)) (gw es ts a) i j) r with
  |some (k,q)=>.lC (es.getD k 0) (wq es ts a i k (q / iM es ts a k j)) (wq es ts a k j (q%iM es ts a k j))
  |none=>.num 0
def yA (es:ao Int)(ts:ao Tk):Nat->Nat->Nat->jV->Prop
 |0,_,_,_=>False
 | a+1,i,j,t=>if gw es ts (a+1) i j=0 then ∃ x∈qh es ts a i j,t=.num (x:Nat)else
  ∃ k∈mV (gw es ts (a+1)) (gw es ts a) i j,∃ l r,t=.lC (es.getD k 0) l r/\yA es ts a i k l/\yA es ts a k j r
def mq (es:ao Int)(f:Nat->Int)(p:Int):ao Nat->aq (Nat×Int)
 |[]=>none
 |k::M=>if es.getD k 0=p then some (k,0)else(mq es f p M).map λq=>(q.1,f k+q.2)
def Vk (l:ao Nat):jV->aq Int
 |.num n=>(l.findIdx? λx:Nat=>decide ((x:Int)=n)).map λi=>((i:Nat):Int)
 |.lC _ _ _=>none
def yO (es:ao Int)(ts:ao Tk):Nat->Nat->Nat->jV->aq Int
 |0,_,_,_=>none
 | a+1,i,j,t=>if gw es ts (a+1) i j=0 then Vk (qh es ts a i j) t else
  match t with
  |.num _=>none
  | .lC p l r=>match mq es (λk=>iM es ts a i k*iM es ts a k j) p (mV (gw es ts (a+1)) (gw es ts a) i j)with
   |none=>none
   | some (k,h)=>match yO es ts a i k l,yO es ts a k j r with
    |some x,some y=>some (h+x*iM es ts a k j+y)
    |_,_=>none
def qE {f:Nat->Int}:∀ {M:ao Nat} {r:Int},0<=r->r<(M.map f).sum->∃ z k,M[z]?=some k/\uX f M r=some (k,r - ((M.take z).map f).sum)/\0<=r - ((M.take z).map f).sum/\r - ((M.take z).map f).sum<f k
 |[],r,h0,h=>by simp at h;lia
 | k::M,r,h0,h=>by
  by_cases q:r<f k
  .exact⟨0,k,rfl,by unfold uX;rw[aB q];simp,by simpa using h0,by simpa using q⟩
  .rw[aw,cw]at h
   obtain⟨z,k',h1,h2,h3,h4⟩:=qE (f:=f) (M:=M) (r:=r - f k) (by lia) (by lia)
   refine⟨z+1,k',h1,?_,?_,?_⟩
   .unfold uX;rw[aC q,h2,cV,aw,cw];congr 2;lia
   .rw[cV,aw,cw];lia
   .rw[cV,aw,cw];lia
def su {es:ao Int}{f:Nat->Int}{p:Int}:∀ {M:ao Nat} {k:Nat} {h:Int},mq es f p M=some (k,h)->∃ z,M[z]?=some k/\es.getD k 0=p/\h=((M.take z).map f).sum
 |[],k,h,e=>by cases e
 | k'::M,k,h,e=>by
  unfold mq at e
  by_cases q:es.getD k' 0=p
  .rw[aB q]at e;cases e;exact⟨0,rfl,q,rfl⟩
  .rw[aC q]at e
   cases e2:mq es f p M with
   |none=>rw[e2]at e;cases e
   | some x =>
    rw[e2]at e
    obtain⟨k2,h2⟩:=x
    cases e
    obtain⟨z,h1,h3,h4⟩:=su e2
    exact⟨z+1,h1,h3,by rw[cV,aw,cw,h4]⟩
def uc {es:ao Int}{f:Nat->Int}:∀ {M:ao Nat} {z k:Nat},(∀ x∈M,∀ y∈M,es.getD x 0=es.getD y 0->x=y)->M.Nodup->M[z]?=some k->mq es f (es.getD k 0) M=some (k,((M.take z).map f).sum)
 |[],z,k,_,_,h=>by cases h
 |k'::M,0,k,hi,nd,h=>by cases h;unfold mq;rw[aB rfl];rfl
 | k'::M,z+1,k,hi,nd,h=>by
  have hk:k∈M:=mw (show M[z]?=some k from h)
  obtain⟨n1,n2⟩:=List.nodup_cons.mp nd
  unfold mq
  rw[aC λe=>n1 (by rw[hi k' aF k (nF _ hk) e];exact hk),uc (z:=z) (λx hx y hy=>hi x (nF _ hx) y (nF _ hy)) n2 h,cV,aw,cw]
  rfl
def sR {f:Nat->Int}:∀ {M:ao Nat} {z k:Nat} {q:Int},(∀ x∈M,0<=f x)->M[z]?=some k->0<=q->q<f k->uX f M (((M.take z).map f).sum+q)=some (k,q)/\((M.take z).map f).sum+q<(M.map f).sum/\0<=((M.take z).map f).sum
 |[],z,k,q,_,h,_,_=>by cases h
 | k'::M,0,k,q,hn,h,h0,h1=>by
  cases h
  have:=(zL (f:=f) (l:=M) λx hx=>hn x (nF _ hx))
  refine⟨?_,?_,?_⟩
  .unfold uX;rw[List.take_zero,fh,List.sum_nil,de,aB h1]
  .rw[List.take_zero,fh,List.sum_nil,aw,cw];lia
  .rw[List.take_zero,fh,List.sum_nil];exact bU _
 | k'::M,z+1,k,q,hn,h,h0,h1=>by
  obtain⟨g1,g2,g3⟩:=sR (M:=M) (z:=z) (λx hx=>hn x (nF _ hx)) h h0 h1
  have:=hn k' aF
  rw[cV,aw,cw,aw,cw]
  refine⟨?_,by lia,by lia⟩
  unfold uX
  rw[aC (by lia),show f k'+(List.map f (M.take z)).sum+q - f k'=(List.map f (M.take z)).sum+q by lia]
  exact g1
where zL {f:Nat->Int}:∀ {l:ao Nat},(∀ x∈l,0<=f x)->0<=(l.map f).sum
 |[],_=>bU _
 | x::l,h=>by
  have:=h x aF
  have:=zL (l:=l) λy hy=>h y (nF _ hy)
  rw[aw,cw];lia
def Ed (T U:Nat->Nat->Int)(i j:Nat):(mV T U i j).Nodup:=by
 unfold mV
 exact dF dk (List.pairwise_map.mpr (fk (λ{a b} (q:a<b)=>by lia) dq))
def So (es:ao Int)(ts:ao Tk)(a:Int)(i j:Nat):(qh es ts a i j).Nodup:=by
 unfold qh
 exact dF dk List.nodup_range
section
variable {es:ao Int}{ts:ao Tk}(hu:es.Pairwise (·<·))(hL:es.length<=100)(ht:ts.length<=100)
def EE (hu:es.Pairwise (·<·)){x y:Nat}(hx:x<es.length)(hy:y<es.length)(e:es.getD x 0=es.getD y 0):x=y:=by
 rcases dH x y with q|q|q
 .have:=lB hu (getD_some hx) (getD_some hy) q;lia
 .exact q
 .have:=lB hu (getD_some hy) (getD_some hx) q;lia
include hu hL ht
def Aa:∀(a i j:Nat) (r:Int),i<j->j<es.length->0<=r->r<iM es ts a i j->yO es ts a i j (wq es ts a i j r)=some r
 |0,i,j,r,_,_,h0,h=>by have:r<0:=h;lia
 | a+1,i,j,r,pW,hj,h0,h=>by
  unfold iM at h
  unfold yO wq
  by_cases q:gw es ts (a+1) i j=0
  .rw[aB q]at h
   rw[aB q,aB q]
   have hr:r.toNat<(qh es ts a i j).length:=by lia
   show((qh es ts a i j).findIdx? _).map _=_
   have e:(qh es ts a i j).findIdx? (λx:Nat=>decide ((x:Int)=(((qh es ts a i j).getD r.toNat 0:Nat):Int)))=some r.toNat:=by
    rw[eX]
    refine⟨hr,aI (by rw[aA,jk hr];rfl),λk hk=>?_⟩
    rw[bq]
    intro e
    rw[aA,jk hr]at e
    have e:(qh es ts a i j)[k]=(qh es ts a i j)[r.toNat]:=Int.ofNat_inj.mp (by simpa using e)
    exact absurd ((List.getElem_inj (So es ts a i j)).mp e) (by lia)
   rw[e]
   show some ((r.toNat:Nat):Int)=some r
   rw[cI h0]
  .rw[aC q]at h
   rw[aC q,aC q]
   obtain⟨z,k,e1,e2,e3,e4⟩:=qE (f:=λk=>iM es ts a i k*iM es ts a k j) h0 h
   obtain⟨k1,k2,k3⟩:=jb.mp (mw e1)
   generalize hq:r - ((List.take z (mV (gw es ts (a+1)) (gw es ts a) i j)).map λk=>iM es ts a i k*iM es ts a k j).sum=v at e2 e3 e4
   rw[e2]
   dsimp only
   rw[uc (z:=z) (λx hx y hy e=>EE hu (by have:=jb.mp hx;lia) (by have:=jb.mp hy;lia) e) (Ed _ _ i j) e1]
   dsimp only
   have b1:=kN hL ht a i k k1 (by lia)
   have b2:=kN hL ht a k j k2 hj
   have pos:0<iM es ts a k j:=by
    rcases eO b2.1 with q|q
    .exact q
    .rw[<- q,Int.mul_zero]at e4;lia
   have d1:0<=v / iM es ts a k j:=Int.ediv_nonneg e3 b2.1
   have d2:v / iM es ts a k j<iM es ts a i k:=fE pos e4
   have m1:=dt v (show iM es ts a k j≠0 by lia)
   have m2:=dr v pos
   rw[Aa a i k _ k1 (by lia) d1 d2,Aa a k j _ k2 hj m1 m2]
   dsimp only
   congr 1
   have:=fC v (iM es ts a k j)
   rw[Int.mul_comm]at this
   lia
end
section
variable {es:ao Int}{ts:ao Tk}(hL:es.length<=100)(ht:ts.length<=100)
include hL ht
def EN:∀(a i j:Nat) (t:jV) (r:Int),i<j->j<es.length->yO es ts a i j t=some r->0<=r/\r<iM es ts a i j/\wq es ts a i j r=t
 |0,i,j,t,r,_,_,h=>by cases h
 | a+1,i,j,t,r,pW,hj,h=>by
  unfold yO at h
  unfold iM wq
  by_cases q:gw es ts (a+1) i j=0
  .rw[aB q]at h
   rw[aB q,aB q]
   cases t with
   |lC _ _ _=>cases h
   | num n =>
    have h:((qh es ts a i j).findIdx? λx:Nat=>decide ((x:Int)=n)).map (λi=>((i:Nat):Int))=some r:=h
    cases e:(qh es ts a i j).findIdx? λx:Nat=>decide ((x:Int)=n)with
    |none=>rw[e]at h;cases h
    | some z =>
     rw[e]at h
     cases h
     rw[eX]at e
     obtain⟨e1,e2,_⟩:=e
     refine⟨by lia,by lia,?_⟩
     rw[xq,aA,jk e1]
     rw[bq]at e2
     show jV.num _=_
     rw[<- e2];rfl
  .rw[aC q]at h
   rw[aC q,aC q]
   cases t with
   |num _=>cases h
   | lC p l r' =>
    dsimp only at h
    cases ea:mq es (λk=>iM es ts a i k*iM es ts a k j) p (mV (gw es ts (a+1)) (gw es ts a) i j)with
    |none=>rw[ea]at h;cases h
    | some x =>
     obtain⟨k,hd⟩:=x
     rw[ea]at h
     dsimp only at h
     obtain⟨z,e1,e2,e3⟩:=su ea
     obtain⟨k1,k2,k3⟩:=jb.mp (mw e1)
     cases el:yO es ts a i k l with
     |none=>rw[el]at h;cases h
     | some x =>
      cases er:yO es ts a k j r' with
      |none=>rw[el,er]at h;cases h
      | some y =>
       rw[el,er]at h
       cases h
       obtain⟨x0,x1,x2⟩:=EN a i k l x k1 (by lia) el
       obtain⟨y0,y1,y2⟩:=EN a k j r' y k2 hj er
       have xy0:0<=x*iM es ts a k j+y:=by have:=dQ x0 (show 0<=iM es ts a k j by lia);lia
       have xy1:x*iM es ts a k j+y<iM es ts a i k*iM es ts a k j:=by
        have h1:(x+1)*iM es ts a k j<=iM es ts a i k*iM es ts a k j:=Int.mul_le_mul_of_nonneg_right (by lia) (by lia)
        rw[Int.add_mul,Int.one_mul]at h1
        lia
       obtain⟨g1,g2,g3⟩:=sR (f:=λk=>iM es ts a i k*iM es ts a k j) (λm hm=>by
        obtain⟨m1,m2,_⟩:=jb.mp hm
        exact dQ (kN hL ht a i m m1 (by lia)).1 (kN hL ht a m j m2 hj).1) e1 xy0 xy1
       rw[e3,Int.add_assoc]
       refine⟨by lia,g2,?_⟩
       rw[g1]
       dsimp only
       have cp:0<iM es ts a k j:=by lia
       rw[show(x*iM es ts a k j+y) / iM es ts a k j=x by rw[Int.add_comm,Int.add_mul_ediv_right _ _ (by lia),Int.ediv_eq_zero_of_lt y0 y1,de],show(x*iM es ts a k j+y)%iM es ts a k j=y by rw[Int.add_comm,Int.add_mul_emod_self_right,Int.emod_eq_of_lt y0 y1],x2,y2,e2]
end
section
variable {es:ao Int}{ts:ao Tk}(hu:es.Pairwise (·<·))
include hu
def sN:∀(a i j:Nat) (t:jV),i<j->j<es.length->((yO es ts a i j t).isSome=true↔yA es ts a i j t)
 |0,i,j,t,_,_=>⟨λh=>(by cases h),λh=>h.elim⟩
 | a+1,i,j,t,pW,hj=>by
  unfold yO yA
  by_cases q:gw es ts (a+1) i j=0
  .rw[aB q,aB q]
   cases t with
   |lC _ _ _=>exact⟨λh=>(by cases h),λ⟨x,_,e⟩=>by cases e⟩
   | num n =>
    show(((qh es ts a i j).findIdx? λx:Nat=>decide ((x:Int)=n)).map (λi=>((i:Nat):Int))).isSome=true↔_
    rw[fc,List.findIdx?_isSome,d9]
    constructor
    .rintro⟨x,hx,e⟩
     exact⟨x,hx,by rw[cn e]⟩
    .rintro⟨x,hx,e⟩
     cases e
     exact⟨x,hx,aI rfl⟩
  .rw[aC q,aC q]
   cases t with
   |num _=>exact⟨λh=>(by cases h),λ⟨x,_,_,_,e,_⟩=>by cases e⟩
   | lC p l r =>
    dsimp only
    constructor
    .intro h
     cases ea:mq es (λk=>iM es ts a i k*iM es ts a k j) p (mV (gw es ts (a+1)) (gw es ts a) i j)with
     |none=>rw[ea]at h;cases h
     | some x =>
      obtain⟨k,hd⟩:=x
      rw[ea]at h
      dsimp only at h
      obtain⟨z,e1,e2,e3⟩:=su ea
      have km:=mw e1
      obtain⟨k1,k2,k3⟩:=jb.mp km
      refine⟨k,km,l,r,by rw[e2],(sN a i k l k1 (by lia)).mp ?_,(sN a k j r k2 hj).mp ?_⟩
      .cases el:yO es ts a i k l with
       |none=>rw[el]at h;cases h
       |some x=>rfl
      .cases er:yO es ts a k j r with
       |none=>rw[er]at h;cases el:yO es ts a i k l<;>(rw[el]at h;cases h)
       |some x=>rfl
    .rintro⟨k,km,l',r',e,bl,br⟩
     cases e
     obtain⟨k1,k2,k3⟩:=jb.mp km
     obtain⟨z,hz,ez⟩:=aX km
     have e1:(mV (gw es ts (a+1)) (gw es ts a) i j)[z]?=some k:=by rw[jk hz,ez]
     rw[uc (z:=z) (λx hx y hy e=>EE hu (by have:=jb.mp hx;lia) (by have:=jb.mp hy;lia) e) (Ed _ _ i j) e1]
     dsimp only
     obtain⟨x,hx⟩:=Option.isSome_iff_exists.mp ((sN a i k l k1 (by lia)).mpr bl)
     obtain⟨y,hy⟩:=Option.isSome_iff_exists.mp ((sN a k j r k2 hj).mpr br)
     rw[hx,hy];rfl
end
def Ao {es:ao Int}{ts:ao Tk}{a:Int}{i j x:Nat}:x∈qh es ts a i j↔∃ t,ts[x]?=some t/\t.2<=a/\es.getD j 0<=jE es t.1 (es.getD i 0):=by
 unfold qh
 rw[List.mem_filter,cg]
 constructor
 .rintro⟨h1,h2⟩
  rw[jk h1]at h2 ⊢
  dsimp only at h2
  rw[bJ,bq,bq]at h2
  exact⟨_,rfl,h2⟩
 .rintro⟨t,e,h1,h2⟩
  refine⟨(kM e).1,?_⟩
  rw[e]
  dsimp only
  rw[aI h1,aI h2];rfl
def OY {n:Int}{cs:ao Int}{k:Nat}(h0:0<k)(h1:k<cs.length+1):(fH n cs).getD k 0∈cs:=by
 obtain⟨k,rfl⟩:∃ x,k=x+1:=⟨k - 1,by lia⟩
 have e:(fH n cs)[k+1]?=some cs[k]:=by
  unfold fH
  rw[dZ,eW,vR (by lia),jk]
 rw[aA,e]
 exact bI _
def Pa {n:Int}{cs:ao Int}{p:Int}(h:p∈cs):∃ k,k<(fH n cs).length/\(fH n cs).getD k 0=p:=by
 have:p∈fH n cs:=by unfold fH;simp[h]
 obtain⟨k,hk,e⟩:=aX this
 exact⟨k,hk,by rw[aA,jk hk,e];rfl⟩
def PU {es:ao Int}(hu:es.Pairwise (·<·)){x y:Nat}(hx:x<es.length)(hy:y<es.length)(h:es.getD x 0<es.getD y 0):x<y:=by
 rcases dH x y with q|q|q
 .exact q
 .subst q;lia
 .have:=lB hu (getD_some hy) (getD_some hx) q;lia
def JC {n:Int}{cs:ao Int}{ts:ao Tk}{a i j:Nat}(hi:i<(fH n cs).length)(h:(fH n cs).getD j 0<=kn (fH n cs) ts a ((fH n cs).getD i 0)):gw (fH n cs) ts (a+1) i j=0:=by
 show jR _ _ _ _ i j=0
 unfold jR
 rw[aB]
 rw[oF (getD_some hi)];exact h
def Ar {cs:ao Int}{ts:ao Tk}:∀ {t:jV},t.ok cs ts.length->Bi cs ts t.dep (t.val ts).1 (t.val ts).2
 | .num x,ok=>by
  obtain⟨t,e⟩:∃ t,ts[x.toNat]?=some t:=⟨_,jk (by have:=ok.1;have:=ok.2;lia)⟩
  rw[jV.zE e]
  exact mw e
 |.lC p l r,ok=>.inr ⟨_,_,_,_,p,(Ar ok.2.1).le (Nat.le_max_left _ _),(Ar ok.2.2).le (Nat.le_max_right _ _),ok.1,rfl,rfl⟩
section
variable {n:Int}{cs:ao Int}{ts:ao Tk}(S:iC n cs ts)
include S
def JD {a i j k:Nat}(h1:i<k)(h2:k<j)(hj:j<(fH n cs).length):gw (fH n cs) ts (a+1) i j<=gw (fH n cs) ts a i k+gw (fH n cs) ts a k j+1:=by
 have tb:=wB S
 have n1:=tb.nn a i k (by lia) (by lia)
 have n2:=tb.nn a k j (by lia) hj
 show jR _ _ _ _ i j<=_
 unfold jR
 split
 .lia
 .exact(kR _ _).2.2 _ (nh.mpr ⟨k,h1,h2,rfl⟩)
def uk:∀ t∈ts,Be n t:=λt h=>⟨(S.takes.ok t h).1,(S.takes.ok t h).2.2.1⟩
def uP:∀(a i j:Nat) (t:jV),i<j->j<(fH n cs).length->yA (fH n cs) ts a i j t->t.ok cs ts.length/\(t.cnt:Int)=gw (fH n cs) ts a i j+1/\(t.val ts).2+1<=a/\PJ (t.val ts).1 ((fH n cs).getD i 0) ((fH n cs).getD j 0)
 |0,i,j,t,_,_,h=>h.elim
 | a+1,i,j,t,pW,hj,h=>by
  unfold yA at h
  have oS:=gy n cs
  by_cases q:gw (fH n cs) ts (a+1) i j=0
  .rw[aB q]at h
   obtain⟨x,hx,rfl⟩:=h
   obtain⟨t,e,h1,h2⟩:=Ao.mp hx
   have hxl:=(kM e).1
   have ok:=S.takes.ok t (mw e)
   have ev:(jV.num (x:Nat)).val ts=t:=jV.zE (by rw[xq];exact e)
   have ei:=jw S.n1 S.jD (mw (getD_some (show i<(fH n cs).length by lia)))
   refine⟨⟨by lia,by lia⟩,by rw[q];rfl,by rw[ev];lia,?_⟩
   rw[ev]
   exact GB ok.2.1 ei.1 (by have:=ok.1;lia) h2
  .rw[aC q]at h
   obtain⟨k,hk,l,r,rfl,bl,br⟩:=h
   obtain⟨k1,k2,k3⟩:=jb.mp hk
   obtain⟨l1,l2,l3,l4⟩:=uP a i k l k1 (by lia) bl
   obtain⟨r1,r2,r3,r4⟩:=uP a k j r k2 hj br
   have hc:=OY (n:=n) (cs:=cs) (k:=k) (by lia) (by lia)
   have hp:=S.jD.Jb _ hc
   have vl:=(jV.oW (uk S) l1).1
   refine⟨⟨hc,l1,r1⟩,?_,?_,?_⟩
   .show((l.cnt+r.cnt:Nat):Int)=_
    lia
   .show max (l.val ts).2 (r.val ts).2+1+1<=_
    lia
   .intro x x1 x2
    show(MU (l.val ts).1 (r.val ts).1 _)[x]?=_
    by_cases z:(x:Int)<(fH n cs).getD k 0
    .rw[tw (by lia) z];exact l4 x x1 z
    .rw[qk (by lia) (by lia) (by lia)];exact r4 x (by lia) x2
def nr:∀(t:jV) (a i j:Nat),i<j->j<(fH n cs).length->t.ok cs ts.length->(t.val ts).2<=a->PJ (t.val ts).1 ((fH n cs).getD i 0) ((fH n cs).getD j 0)->gw (fH n cs) ts (a+1) i j+1<=t.cnt/\((t.cnt:Int)=gw (fH n cs) ts (a+1) i j+1->yA (fH n cs) ts (a+1) i j t)
 | .num x,a,i,j,pW,hj,ok,ha,hc=>by
  obtain⟨x,rfl⟩:∃ y:Nat,x=y:=⟨x.toNat,by have:=ok.1;lia⟩
  have hx:x<ts.length:=by have:=ok.2;lia
  obtain⟨t,e⟩:∃ t,ts[x]?=some t:=⟨_,jk hx⟩
  have ev:(jV.num (x:Nat)).val ts=t:=jV.zE (by rw[xq];exact e)
  rw[ev]at ha hc
  have tk:=S.takes.ok t (mw e)
  have hu:=iD S.n1 S.jD
  have gi:=getD_some (show i<(fH n cs).length by lia)
  have gj:=getD_some hj
  have ei:=jw S.n1 S.jD (mw gi)
  have ej:=jw S.n1 S.jD (mw gj)
  have lt:=lB hu gi gj pW
  have US:=A3 (es:=fH n cs) tk.2.1 ei.1 (by lia) (by have:=tk.1;lia) (mw gj) hc
  have t0:=JC (n:=n) (cs:=cs) (ts:=ts) (a:=a) (i:=i) (j:=j) (by lia) (cD US (sU (mw e) ha))
  refine⟨by rw[t0];show(0:Int)+1<=((1:Nat):Int);decide,λ_=>?_⟩
  unfold yA
  rw[aB t0]
  exact⟨x,Ao.mpr ⟨t,e,ha,US⟩,rfl⟩
 | .lC p l r,a,i,j,pW,hj,ok,ha,hc=>by
  obtain⟨pc,ol,or⟩:=ok
  have hp:=S.jD.Jb p pc
  have hu:=iD S.n1 S.jD
  have vl:=jV.oW (uk S) ol
  have vr:=jV.oW (uk S) or
  have hl1:=vl.1
  have ha:max (l.val ts).2 (r.val ts).2+1<=(a:Int):=ha
  have hc:PJ (MU (l.val ts).1 (r.val ts).1 p) ((fH n cs).getD i 0) ((fH n cs).getD j 0):=hc
  have cp:=l.A1
  have cr:=r.A1
  have ec:(((jV.lC p l r).cnt:Nat):Int)=(l.cnt:Int)+r.cnt:=by show((l.cnt+r.cnt:Nat):Int)=_;lia
  rw[ec]
  by_cases q1:(fH n cs).getD j 0<=p
  .have:=(nr l a i j pW hj ol (by lia) λk k1 k2=>by rw[<- tw (l2:=(r.val ts).1) (p:=p) (by lia) (by lia)];exact hc k k1 k2).1
   exact⟨by lia,λe=>by lia⟩
  by_cases q2:p<=(fH n cs).getD i 0
  .have:=(nr r a i j pW hj or (by lia) λk k1 k2=>by rw[<- qk (l1:=(l.val ts).1) (p:=p) (by lia) (by lia) (by lia)];exact hc k k1 k2).1
   exact⟨by lia,λe=>by lia⟩
  obtain⟨k,hk,ek⟩:=Pa (n:=n) pc
  have k1:i<k:=PU hu (by lia) hk (by lia)
  have k2:k<j:=PU hu hk hj (by lia)
  have v0:=vl.2
  have v1:=vr.2
  obtain⟨a,rfl⟩:∃ x,a=x+1:=⟨a - 1,by lia⟩
  have il:=nr l a i k k1 hk ol (by lia) λx x1 x2=>by rw[<- tw (l2:=(r.val ts).1) (p:=p) (by lia) (by lia)];exact hc x x1 (by lia)
  have ir:=nr r a k j k2 hj or (by lia) λx x1 x2=>by rw[<- qk (l1:=(l.val ts).1) (p:=p) (by lia) (by lia) (by lia)];exact hc x (by lia) x2
  have tj:=JD S (a:=a+1) k1 k2 hj
  refine⟨by lia,λe=>?_⟩
  have tb:=wB S
  have n1:=tb.nn (a+1) i k (by lia) (by lia)
  have n2:=tb.nn (a+1) k j (by lia) hj
  unfold yA
  rw[aC (by lia)]
  exact⟨k,jb.mpr ⟨k1,k2,by lia⟩,l,r,by rw[ek],il.2 (by lia),ir.2 (by lia)⟩
def IF {t:jV}{A:Nat}(hl:iH (fH n cs) ts n A)(ok:t.ok cs ts.length)(hc:PJ (t.val ts).1 0 n):(A:Int)<=(t.val ts).2:=by
 have v:=jV.oW (uk S) ok
 have v2:=v.2
 have n1:=S.n1
 have nm:n∈fH n cs:=by unfold fH;simp
 have h:=tm S (a:=(t.val ts).2.toNat) (Ar ok) (by lia) 0 n (qQ n cs) nm (by lia) hc
 have h2:=jw S.n1 S.jD ((mC S (t.val ts).2.toNat).mem 0 (qQ n cs))
 have:=least_le S (a:=(t.val ts).2.toNat) (by lia) hl
 lia
def Mv {t:jV}{A:Nat}(hl:iH (fH n cs) ts n A):yA (fH n cs) ts (A+1) 0 (cs.length+1) t↔(t.ok cs ts.length/\t.val ts=(List.replicate n.toNat 111,(A:Int))/\(t.cnt:Int)=gw (fH n cs) ts (A+1) 0 (cs.length+1)+1):=by
 have oS:=gy n cs
 have g0:(fH n cs).getD 0 0=0:=by rw[aA,AN];rfl
 have gn:(fH n cs).getD (cs.length+1) 0=n:=by rw[aA,xF];rfl
 constructor
 .intro h
  obtain⟨h1,h2,h3,h4⟩:=uP S _ _ _ _ (by lia) (by lia) h
  rw[g0,gn]at h4
  have:=IF S hl h1 h4
  have v:=jV.oW (uk S) h1
  exact⟨h1,Prod.ext (Pd v.1 h4) (by show(t.val ts).2=(A:Int);lia),h2⟩
 .rintro⟨h1,h2,h3⟩
  refine(nr S t A 0 (cs.length+1) (by lia) (by lia) h1 (by rw[h2];exact bU _) ?_).2 h3
  rw[g0,gn,h2]
  exact Pq n 0 n (bU _) (bU _)
end
def UP:jV->jV->Prop
 |.num a,.num b=>a<b
 |.lC p l r,.lC p' l' r'=>p<p'\/(p=p'/\(UP l l'\/(l=l'/\UP r r')))
 |_,_=>False
def Ly:∀ {t u:jV},UP t u->t≠u
 |.num a,.num b,h,e=>by cases e;exact absurd h (Int.lt_irrefl _)
 |.num _,.lC _ _ _,h,e=>by cases e
 |.lC _ _ _,.num _,h,e=>by cases e
 | .lC p l r,.lC p' l' r',h,e=>by
  cases e
  rcases h with h|⟨_,h|⟨_,h⟩⟩
  .exact absurd h (Int.lt_irrefl _)
  .exact Ly h rfl
  .exact Ly h rfl
def mid_up (T U:Nat->Nat->Int)(i j:Nat):(mV T U i j).Pairwise (·<·):=by
 unfold mV
 exact dF dk (List.pairwise_map.mpr (fk (λ{a b} (q:a<b)=>by lia) dq))
def Sn (es:ao Int)(ts:ao Tk)(a:Int)(i j:Nat):(qh es ts a i j).Pairwise (·<·):=by
 unfold qh
 exact dF dk dq
def Rq {f:Nat->Int}{M:ao Nat}(hn:∀ x∈M,0<=f x){z z' k:Nat}(hz:M[z]?=some k)(h:z<z'):((M.take z).map f).sum+f k<=((M.take z').map f).sum:=by
 obtain⟨hl,rfl⟩:=kM hz
 have e:M.take z'=M.take (z+1)++(M.take z').drop (z+1):=by
  rw[show M.take (z+1)=(M.take z').take (z+1) by rw[List.take_take,cu (by lia)],List.take_append_drop]
 rw[e,bh,List.sum_append,sF hl]
 have:=sR.zL (f:=f) (l:=(M.take z').drop (z+1)) λx hx=>hn x (ba (dM hx))
 lia
section
variable {es:ao Int}{ts:ao Tk}(hu:es.Pairwise (·<·))(hL:es.length<=100)(ht:ts.length<=100)
include hu hL ht
def EO:∀(a i j:Nat) (r r':Int),i<j->j<es.length->0<=r->r<r'->r'<iM es ts a i j->UP (wq es ts a i j r) (wq es ts a i j r')
 |0,i,j,r,r',_,_,h0,_,h=>by have:r'<0:=h;lia
 | a+1,i,j,r,r',pW,hj,h0,mP,h=>by
  unfold iM at h
  unfold wq
  by_cases q:gw es ts (a+1) i j=0
  .rw[aB q]at h
   rw[aB q,aB q]
   have g1:r.toNat<(qh es ts a i j).length:=by lia
   have g2:r'.toNat<(qh es ts a i j).length:=by lia
   show(((qh es ts a i j).getD r.toNat 0:Nat):Int)<(((qh es ts a i j).getD r'.toNat 0:Nat):Int)
   rw[aA,aA,jk g1,jk g2]
   have:=List.pairwise_iff_getElem.mp (Sn es ts a i j) r.toNat r'.toNat g1 g2 (by lia)
   exact Int.ofNat_lt.mpr this
  .rw[aC q]at h
   rw[aC q,aC q]
   obtain⟨M,hM⟩:∃ M,M=mV (gw es ts (a+1)) (gw es ts a) i j:=⟨_,rfl⟩
   obtain⟨f,hf⟩:∃ f:Nat->Int,f=λk=>iM es ts a i k*iM es ts a k j:=⟨_,rfl⟩
   rw[<- hf,<- hM]at h ⊢
   have mm:∀ x∈M,i<x/\x<j:=λx hx=>by have:=jb.mp (hM▸hx);lia
   have nn:∀ x∈M,0<=f x:=λx hx=>by
    have:=mm x hx
    rw[hf]
    exact dQ (kN hL ht a i x this.1 (by lia)).1 (kN hL ht a x j this.2 hj).1
   obtain⟨z,k,e1,e2,e3,e4⟩:=qE (f:=f) (M:=M) h0 (by lia)
   obtain⟨z',k',d1,d2,d3,d4⟩:=qE (f:=f) (M:=M) (r:=r') (by lia) h
   rw[e2,d2]
   dsimp only
   have km:=mm k (mw e1)
   have km':=mm k' (mw d1)
   rcases dH z z' with w|w|w
   .have u:=hM▸mid_up (gw es ts (a+1)) (gw es ts a) i j
    obtain⟨y1,y2⟩:=kM e1
    obtain⟨y3,y4⟩:=kM d1
    have lt:=List.pairwise_iff_getElem.mp u z z' y1 y3 w
    rw[y2,y4]at lt
    exact .inl (lB hu (getD_some (by lia)) (getD_some (by lia)) lt)
   .subst w
    rw[e1]at d1
    cases d1
    refine .inr ⟨rfl,?_⟩
    generalize hv:r - ((M.take z).map f).sum=v at e3 e4
    generalize CF:r' - ((M.take z).map f).sum=v' at d3 d4
    have vlt:v<v':=by lia
    rw[hf]at e4 d4
    dsimp only at e4 d4
    have b1:=kN hL ht a i k km.1 (by lia)
    have b2:=kN hL ht a k j km.2 hj
    have pos:0<iM es ts a k j:=by
     rcases eO b2.1 with q|q
     .exact q
     .rw[<- q,Int.mul_zero]at e4;lia
    have x1:0<=v / iM es ts a k j:=Int.ediv_nonneg e3 b2.1
    have x2:v' / iM es ts a k j<iM es ts a i k:=fE pos d4
    have m1:=dt v (show iM es ts a k j≠0 by lia)
    have m2:=dr v' pos
    have x3:v / iM es ts a k j<=v' / iM es ts a k j:=Int.ediv_le_ediv pos (by lia)
    rcases eO x3 with y|y
    .exact .inl (EO a i k _ _ km.1 (by lia) x1 y x2)
    .refine .inr ⟨by rw[y],EO a k j _ _ km.2 hj m1 ?_ m2⟩
     have g1:=fC v (iM es ts a k j)
     have g2:=fC v' (iM es ts a k j)
     rw[y]at g1
     lia
   .exfalso
    have:=Rq nn d1 w
    lia
end
def vc (C:ai)(n:Nat):j5:=λds μ K=>match ds with
 | [.mr k,s,.int r]=>∃(es:ao Int) (ts:ao Tk) (A j a i b:Nat) (ks:ao (ao Key)) (dd:ao D),Bm C μ k es ts A j a i b/\s=rJ a i b/\a<n/\Px es ts/\k≠j/\μ[j]?=some (.lA ks dd)/\Memo es ts A ks dd/\0<=r/\r<iM es ts (a+1) i b /\
  ∀ mv lN,Memo es ts A mv lN->K (rp (wq es ts (a+1) i b r)) (μ.set j (.lA mv lN))
 |_=>False
def EC {C:ai}(vs:ao V)(H:Hp)(Q:VK)(E:XK):¬ iG (vc C 0) vs H Q E:=λh=>by
 obtain⟨φ,ds,μ,K,_,_,h,_⟩:=h
 unfold vc at h
 split at h
 .obtain⟨es,ts,A,j,a,i,b,ks,dd,_,_,h,_⟩:=h;lia
 .exact h
def OF {X:Cx}:Uk X .Sub (V2 λi j=>i - j):=by
 intro fI s σ H x y v u Q I r1 r2 h
 unfold V2 at h
 split at h
 .exact SN fI s σ H _ _ v u Q I r1 r2 ⟨_,_,rfl,rfl,h⟩
 .cases h
def zC (_ j:Int):Prop:=0<j/\∃ d:Nat,d<=1000/\j<=128 ^ d
def YY {i j:Int}(h:zC i j):Builtin.divisionGoesByPylong i j=false:=by
 obtain⟨h0,d,hd,h⟩:=h
 have e:(128:Int) ^ d=((2 ^ (7*d):Nat):Int):=by rw[Nat.pow_mul];norm_cast
 have h1:j.natAbs<2 ^ (7*d+1):=by rw[Nat.pow_succ];lia
 have h2:j.natAbs.log2<7*d+1:=(Nat.log2_lt (by lia)).mpr h1
 unfold Builtin.divisionGoesByPylong
 dsimp only
 rw[Bool.and_eq_false_iff]
 left
 rw[decide_eq_false_iff_not]
 split<;>lia
section
variable {X:Cx}
def Cc:kU X (binaryOp .FloorDiv) (rI zC λi j=>.int (i / j)):=UB λi j _ _ _ _ _ hc q=>by
 have h1:(0:Int)<j:=hc.1
 exact floordiv_int (by lia) (by rw[Int.fdiv_eq_ediv_of_nonneg i (by lia)];exact q) (.inl (YY hc))
def TC:kU X (binaryOp .FloorDiv) (RK zC λi j=>.int (i / j)):=Cc.i2
end
def Q1:sy:=λx y μ K=>match x,y with
 |.int i,.int j=>zC i j/\K (.int (i / j)) μ
 |_,_=>False
def Nw:om (rI zC λi j=>.int (i / j)) Q1:=λφ H x y dx dy μ K Q M hx hy k L=>by
 unfold Q1 at k
 split at k
 .cases(show x=_ from hx);cases(show y=_ from hy);exact⟨_,_,rfl,rfl,k.1,L.val M k.2 rfl⟩
 .exact k.elim
def T9 {es:ao Int}{ts:ao Tk}(hL:es.length<=100)(ht:ts.length<=100){a i j:Nat}(h1:i<j)(hj:j<es.length){v:Int}(h:0<iM es ts a i j):zC v (iM es ts a i j):=⟨h,_,by lia,(kN hL ht a i j h1 hj).2⟩
def Ft:Sp:=λvs H Q _=>∃ b n q,vs=[.ref b,.int n]/\PN H b q/\0<n/\(∃ d:Nat,d<=1000/\n<=128 ^ d)/\∀ v H',0<=v->v<n->PN H' b q->OB b H H'->Q (.int v) H'
def xC:j5:=λds μ K=>match ds with
 |[.mr k,.int n]=>μ[k]?=some .box/\0<n/\(∃ d:Nat,d<=1000/\n<=128 ^ d)/\∀ v,0<=v->v<n->K (.int v) μ
 |_=>False
def Ho {vs:ao V}{H:Hp}{Q:VK}{E:XK}(h:iG xC vs H Q E):Ft vs H Q E:=by
 obtain⟨φ,ds,μ,K,ha,M,k,L⟩:=h
 unfold xC at k
 split at k
 .rename_i kk n
  obtain⟨v,r,rfl,h1,u,r',rfl,h2,h3⟩:=ha
  cases(show r'=[]from h3);cases(show u=_ from h2)
  obtain⟨b,hb,rfl⟩:=h1
  obtain⟨em,hn,Gm,k⟩:=k
  obtain⟨b',e1,q,ns,i,r,z,g1,g2,g3,g4,g5,g6⟩:=M.at_ kk _ em
  rw[hb]at e1;cases e1
  have bin:b∈φ:=mw hb
  have qb:q≠b:=λe=>g3 (by rw[e];exact bin)
  refine⟨b,n,q,rfl,⟨ns,i,r,z,g1,g2,qb,g4,g5,g6⟩,hn,Gm,λv H' v0 v1 B' ob=>?_⟩
  obtain⟨uA,i',r',z',b1,b2,b3,b4,b5,b6⟩:=B'
  have f:Fr φ H φ H':=⟨⟨[],by simp,λ_ h=>nomatch h⟩,λc o hc e=>(ob c (λe'=>hc (by rw[e'];exact bin))).trans e,λc e=>by
   by_cases hc:c=b
   .rw[hc,b1]at e;cases e
   .rw[<- ob c hc];exact e⟩
  refine L _ μ φ _ H' (k v v0 v1) f ⟨M.nd,M.len,λj m ej=>?_⟩ rfl
  by_cases hj:j=kk
  .subst hj
   rw[em]at ej;cases ej
   exact⟨b,hb,q,uA,i',r',z',b1,b2,g3,b4,b5,b6⟩
  .obtain⟨p,e1,e2⟩:=M.at_ j m ej
   refine⟨p,e1,e2.mono f λo eo=>?_⟩
   have pb:p≠b:=λe=>by
    subst e
    obtain⟨i1,r1⟩:=kM hb
    obtain⟨i2,r2⟩:=kM e1
    rcases Nat.lt_or_gt_of_ne hj with z|z
    .exact List.pairwise_iff_getElem.mp M.nd j kk i2 i1 z (r2.trans r1.symm)
    .exact List.pairwise_iff_getElem.mp M.nd kk j i1 i2 z (r1.trans r2.symm)
   rw[ob p pb];exact eo
 .exact k.elim
def JA {vs:ao V}{H:Hp}{Q:VK}{E:XK}(h:iG y9 vs H Q E):iG xC vs H Q E:=by
 obtain⟨φ,ds,μ,K,ha,M,k,L⟩:=h
 refine⟨φ,ds,μ,K,ha,M,?_,L⟩
 unfold y9 at k
 split at k
 .exact⟨k.1,k.2.1,⟨5,by decide,by have:=k.2.2.1;lia⟩,k.2.2.2⟩
 .exact k.elim
structure BmG (C:ai)(ν g:MS)(es:List Int)(ts:List Tk)(a:Nat):Prop where
 e0:∀ ks dd,(g.set (ν.length+1) (.lA ks dd))[ν.length]?=some (.ins C A9 (Dk es ts a (ν.length+1)))
 e1:∀ ks dd,(g.set (ν.length+1) (.lA ks dd))[ν.length+1]?=some (.lA ks dd)
 ol:∀ ks dd j m',j<ν.length->(g.set (ν.length+1) (.lA ks dd))[j]?=some m'->Aq ν.length m'
 tk:∀ ks dd,(g.set (ν.length+1) (.lA ks dd)).take ν.length=ν
 z0:∀ ks dd m,ν[0]?=some m->(g.set (ν.length+1) (.lA ks dd))[0]?=some m
 nw:g=g.set (ν.length+1) (.lA [] [])
def bmG {C:ai}{ν g:MS}{es:ao Int}{ts:ao Tk}{a:Nat}(hm:∀(j:Nat) (m':MO),ν[j]?=some m'->Aq ν.length m')(hg:g=(ν++[MO.ins C [] []]).set ν.length (.ins C A9 (Dk es ts a (ν++[MO.ins C [] []]).length))++[.lA [] []]):BmG C ν g es ts a:=by
 have eg:g=ν++[.ins C A9 (Dk es ts a (ν.length+1)),.lA [] []]:=by
  rw[hg,dD _ _ (ar _),a6,cG,oq];rfl
 have gl:ν.length+1<g.length:=by rw[eg,oq];show _<_+2;lia
 refine⟨λks dd=>?_,λks dd=>aN gl,λks dd j m' hj e=>?_,λks dd=>?_,λks dd m hz=>?_,?_⟩
 .rw[aQ (by lia),eg,pX (ar _),a6];rfl
 .rw[aQ (by lia),eg,vR hj]at e
  exact hm j m' e
 .rw[List.take_set_of_le (by lia),eg,cf]
 .have:=(kM hz).1
  rw[aQ (by lia),eg,vR this];exact hz
 .exact(ka (by rw[eg,pX (by lia),show ν.length+1 - ν.length=1 by lia];rfl)).symm
def oM (cB:ai):rg:=λds μ K Kx=>match ds with
 |[.lst y,x]=>(∃ m,μ[0]?=some m)/\∃(l:ao Nat) (t:jV),y=l.map (λx=>.int (x:Nat))/\l.length<=1000/\x=rp t/\(match Vk l t with|some r=>K (.int r) μ|none=>Kx (.ref cB) μ)
 |_=>False
def yr {cB:ai}{ds:ao D}{μ:MS}{K:DK}{Kx:DX}(h:oM cB ds μ K Kx):ds.length=2/\∃ m,μ[0]?=some m:=by
 unfold oM at h
 split at h
 .exact⟨rfl,h.1⟩
 .cases h
def tM (C cB:ai)(n:Nat):rg:=λds μ K Kx=>match ds with
 | [.mr k,s,x]=>(∃ m,μ[0]?=some m)/\∃(es:ao Int) (ts:ao Tk) (A j a i b:Nat) (ks:ao (ao Key)) (dd:ao D) (t:jV),Bm C μ k es ts A j a i b/\s=rJ a i b/\x=rp t/\a<n/\Px es ts/\es.Pairwise (·<·)/\k≠j/\k≠0/\j≠0/\μ[j]?=some (.lA ks dd)/\Memo es ts A ks dd /\
  (match yO es ts (a+1) i b t with
   |some r=>∀ mv lN,Memo es ts A mv lN->K (.int r) (μ.set j (.lA mv lN))
   |none=>∀ mv lN,Memo es ts A mv lN->Kx (.ref cB) (μ.set j (.lA mv lN)))
 |_=>False
def Iw {C cB:ai}{n:Nat}{ds:ao D}{μ:MS}{K:DK}{Kx:DX}(h:tM C cB n ds μ K Kx):ds.length=3/\∃ m,μ[0]?=some m:=by
 unfold tM at h
 split at h
 .exact⟨rfl,h.1⟩
 .cases h
def EB {C cB:ai}(vs:ao V)(H:Hp)(Q:VK)(E:XK):¬ zN (tM C cB 0) vs H Q E:=λh=>by
 obtain⟨φ,ds,μ,K,Kx,_,_,h,_⟩:=h
 unfold tM at h
 split at h
 .obtain⟨_,es,ts,A,j,a,i,b,ks,dd,t,_,_,_,h,_⟩:=h;lia
 .exact h
def gF.Sm {P:ae}{w:af}{K:aa}{mg:Str->aq ak}{fJ:Heap}{k:Nat}{f:ai}{fd:ag}{ps:ao Str}{sp:Sp}(h:∀ vs H Q E,¬ sp vs H Q E):gF P w K mg fJ (xZ P w) k f fd ps sp :=
 ⟨λvs H Q E q=>(h vs H Q E q).elim,λA fT s H args us vs Q E _ _ _ _ q=>(h vs H Q E q).elim⟩
def Mw (es:ao Int)(ts:ao Tk)(n:Int)(r:Int)(μ:MS)(K:DK)(X:Prop):Prop:=match jG es ts with
 |some _=>X
 |none=>∀ a:Nat,a<=66->iH es ts n a->if 0<=r/\r<iM es ts (a+1) 0 (es.length - 1)then K (rp (wq es ts (a+1) 0 (es.length - 1) r)) μ else X
def tS (cN:ai):rg:=λds μ K Kx=>match ds with
 |[.int n,.lst x,.lst y,.int r]=>(∃ m,μ[0]?=some m)/\∃(cs:ao Int) (ts:ao Tk),x=cs.map D.int/\y=ts.map mM/\iC n cs ts/\cs.length<=60/\Mw (fH n cs) ts n r μ K (Kx (.ref cN) μ)
 |_=>False
def CO {cN:ai}{ds:ao D}{μ:MS}{K:DK}{Kx:DX}(h:tS cN ds μ K Kx):ds.length=4/\∃ m,μ[0]?=some m:=by
 unfold tS at h
 split at h
 .exact⟨rfl,h.1⟩
 .cases h
def Sj (es:ao Int)(ts:ao Tk)(n:Int)(t:jV)(μ:MS)(K:DK)(X:Prop):Prop:=match jG es ts with
 |some _=>X
 |none=>∀ a:Nat,a<=66->iH es ts n a->match yO es ts (a+1) 0 (es.length - 1) t with|some r=>K (.int r) μ|none=>X
def xD (cB:ai):rg:=λds μ K Kx=>match ds with
 |[.int n,.lst x,.lst y,d]=>(∃ m,μ[0]?=some m)/\∃(cs:ao Int) (ts:ao Tk) (t:jV),x=cs.map D.int/\y=ts.map mM/\d=rp t/\iC n cs ts/\cs.length<=60/\Sj (fH n cs) ts n t μ K (Kx (.ref cB) μ)
 |_=>False
def ED {cB:ai}{ds:ao D}{μ:MS}{K:DK}{Kx:DX}(h:xD cB ds μ K Kx):ds.length=4/\∃ m,μ[0]?=some m:=by
 unfold xD at h
 split at h
 .exact⟨rfl,h.1⟩
 .cases h
def Za:V->Bool
 |.int _=>true
 |_=>false
def V1:D->Bool
 |.int _=>true
 |_=>false
def Gi:∀ {xs:ao V} {us:ao ak},gE xs us->xs.all Za=true->∀ u∈us,∃ i t,u=.int i t
 |_,_,.nil,_=>λu hu=>by cases hu
 | y::xs,u::us,.cons r t,f=>λu' hu=>by
  rw[cO,bJ]at f
  rcases List.mem_cons.mp hu with rfl|hu
  .cases y with
   |int i=>obtain⟨t,rfl⟩:=r;exact⟨_,_,rfl⟩
   |_=>cases f.1
  .exact Gi t f.2 u' hu
def RI (K:aa):R2:=λx y H Q=>∃ p xs q zs,y=.ref p/\pF K H p xs/\xs.all Za=true/\x=.ref q/\EU K H q zs/\Q (.bl true) H
def Sk {X:Cx}(hu:X.A.units+1<cLine):kU X (compareOp .NotIn) (RI X.K):=by
 intro fI s σ H x y v u Q I rx ry h
 obtain⟨p,xs,q,zs,rfl,hq,fs,rfl,ht,k⟩:=h
 cases ry;cases rx
 obtain⟨gp,r,pl,hz⟩:=I.list hq
 obtain⟨CC,r2,pl2,CD⟩:=I.tuple ht
 refine SeqAt.notIn_listAt (λ_=>false) pl.isList (λw hw=>?_) ⟨.bl _,H,I,rfl,?_⟩
 .obtain⟨i,t,rfl⟩:=Gi r fs w (by simpa using hw)
  exact SeqAt.EqAt.int_tuple _ _ pl2 hu
 .have:gp.toArray.any (λ_=>false)=false:=by simp
  rw[this];exact k
def niM {X:Cx}(hu:X.A.units+1<cLine):kU X (compareOp .NotIn) (λx y H Q=>B5 true x y H Q\/RI X.K x y H Q):=KQ.or (Sk hu)
def WH:sy:=λx y μ K=>match x with
 |.tup _=>opt (lv μ y) λds=>ds.all V1=true/\K (.bl true) μ
 |x=>X9 true x y μ K
def Gj {φ:ao ai}{H:Hp}:∀ {ds:ao D} {vs:ao V},fZ φ H ds vs->ds.all V1=true->vs.all Za=true
 |[],vs,h,_=>by cases(show vs=[]from h);rfl
 | d::ds,vs,h,f=>by
  obtain⟨v,r,rfl,h1,h2⟩:=h
  rw[cO,bJ]at f
  cases d with
  |int i=>cases(show v=_ from h1);rw[cO,Gj h2 f.2];rfl
  |_=>cases f.1
def Ru {K:aa}:om (λx y H Q=>B5 true x y H Q\/RI K x y H Q) WH:=λφ H x y dx dy μ K Q M hx hy k L=>by
 unfold WH at k
 split at k
 .obtain⟨ds,el,f1,k⟩:=hX k
  obtain⟨p,vs,rfl,hp,ha⟩:=jY M hy el
  obtain⟨q,zs,rfl,_,hq,_⟩:=hx
  exact .inr ⟨p,vs,q,zs,rfl,pF.of hp,Gj ha f1,rfl,EU.of hq,L.val M k rfl⟩
 .exact .inl (Fv φ H x y _ dy μ K Q M hx hy k L)
def xT {es:ao Int}{f:Nat->Int}{p:Int}:∀ {M:ao Nat},(∀ x∈M,es.getD x 0≠p)->mq es f p M=none
 |[],_=>rfl
 | k::M,h=>by
  unfold mq
  rw[aC (h k aF),xT λx hx=>h x (nF _ hx)]
  rfl
def Bm.NB {C:ai}{μ:MS}{k i0:Nat}{es:ao Int}{ts:ao Tk}{A j a i b:Nat}{m:MO}(h:Bm C μ k es ts A j a i b)(hk:k≠i0):Bm C (μ.set i0 m) k es ts A j a i b:=⟨by rw[aQ (bo hk)];exact h.at_,h.ha,h.Dx,h.hb,h.hl,h.ht,h.hA,h.ok⟩
def RG {l:ao Nat}{n:Int}:((l.map λx=>D.int (x:Nat)).any λd=>lQ d (rp (.num n)))=(Vk l (.num n)).isSome:=by
 show _=((l.findIdx? λx:Nat=>decide ((x:Int)=n)).map (λi=>((i:Nat):Int))).isSome
 rw[fc,List.findIdx?_isSome,d7]
 congr 1
def dOrO (a b:sy):sy:=λx y μ K=>a x y μ K\/b x y μ K
def Vf {r1 r2:R2}{d1 d2:sy}(h1:om r1 d1)(h2:om r2 d2):om (λx y H Q=>r1 x y H Q\/r2 x y H Q) (dOrO d1 d2):=λφ H x y dx dy μ K Q M hx hy k L=>by
 rcases k with k|k
 .exact .inl (h1 φ H x y dx dy μ K Q M hx hy k L)
 .exact .inr (h2 φ H x y dx dy μ K Q M hx hy k L)
def EK:ao (De×De)->DE->MS->(ao (D×D)->MS->Prop)->Prop
 |[],_,μ,K=>K [] μ
 |(a,b)::r,ρ,μ,K=>a ρ μ λx gr=>b ρ gr λy iE=>EK r ρ iE λps rh=>K ((x,y)::ps) rh
def Uj (φ:ao ai)(H:Hp):ao (D×D)->ao (V×V)->Prop
 |[],vs=>vs=[]
 |p::ps,vs=>∃ v r,vs=v::r/\je φ H p.1 v.1/\je φ H p.2 v.2/\Uj φ H ps r
abbrev tdP (ws:ao (De×De)):ao (TE×TE):=ws.map λw=>(tD w.1,tD w.2)
def yI:∀(ws:ao (De×De)) {σ:St} {H:Hp} {φ:ao ai} {ρ:DE} {μ:MS} {KP:ao (D×D)->MS->Prop} {QP:ao (V×V)->Hp->Prop},kP φ H ρ σ->gC φ H μ->EK ws ρ μ KP->(∀ ps gc gG vs H',KP ps gc->Fr φ H gG H'->gC gG H' gc->Uj gG H' ps vs->QP vs H')->zK (tdP ws) σ H QP
 |[],σ,H,φ,ρ,μ,KP,QP,A,M,k,L=>L [] μ φ [] H k (Fr.refl φ H) M rfl
 | (a,b)::ws,σ,H,φ,ρ,μ,KP,QP,A,M,k,L=>by
  refine⟨φ,ρ,μ,_,A,M,k,λx gr gN v1 H1 k1 f1 M1 i1=>?_⟩
  refine⟨gN,ρ,gr,_,A.mono f1,M1,k1,λy iE kQ v2 H2 k2 f2 M2 i2=>?_⟩
  refine yI ws (A.mono (f1.trans f2)) M2 k2 λps gc gG vs H' k' f' M' i'=>?_
  exact L _ gc gG _ H' k' ((f1.trans f2).trans f') M' ⟨(v1,v2),vs,rfl,(i1.mono f2).mono f',i2.mono f',i'⟩
def xf (kd:ao (Key×D)):ao (Key×D):=kd.foldl (λacc q=>dput acc q.1 q.2) []
def WU (ws:ao (De×De)):De:=λρ μ K=>EK ws ρ (μ++[.jC [] []]) λps iE=>iE[μ.length]?=some (.jC [] [])/\∃ kd:ao (Key×D),kd.length<=15/\ps.map (λp=>(yp p.1,p.2))=kd.map (λq=>(some q.1,q.2))/\K (.mr μ.length) (iE.set μ.length (.jC ((xf kd).map (·.1)) ((xf kd).map (·.2))))
def FN {φ:ao ai}{H:Hp}:∀ {ps:ao (D×D)} {vs:ao (V×V)} {kd:ao (Key×D)},Uj φ H ps vs->ps.map (λp=>(yp p.1,p.2))=kd.map (λq=>(some q.1,q.2))->∃ kvs:ao (Key×V),vs=kvs.map (λkv=>(kV kv.1,kv.2))/\kvs.length=kd.length/\kvs.map (·.1)=kd.map (·.1)/\fZ φ H (kd.map (·.2)) (kvs.map (·.2))
 | [],vs,kd,h,e=>by
  cases(show vs=[]from h)
  cases kd with
  |nil=>exact⟨[],rfl,rfl,rfl,rfl⟩
  |cons q kd=>cases e
 | p::ps,vs,kd,h,e=>by
  obtain⟨v,r,rfl,h1,h2,h3⟩:=h
  cases kd with
  |nil=>cases e
  | cons q kd =>
   rw[aw,aw]at e
   injection e with e1 e2
   injection e1 with e3 e4
   obtain⟨kvs,rfl,g2,g3,g4⟩:=FN h3 e2
   refine⟨(q.1,v.2)::kvs,?_,by rw[aU,aU,g2],by rw[aw,aw,g3],⟨v.2,_,rfl,by show je φ H q.2 v.2;rw[<- e4];exact h2,g4⟩⟩
   rw[aw]
   congr 1
   exact Prod.ext (qI e3 h1) rfl
def yX {φ:ao ai}{H:Hp}:∀ {kd:ao (Key×D)} {kvs:ao (Key×V)} {ad:ao (Key×D)} {av:ao (Key×V)},kvs.map (·.1)=kd.map (·.1)->fZ φ H (kd.map (·.2)) (kvs.map (·.2))->av.map (·.1)=ad.map (·.1)->fZ φ H (ad.map (·.2)) (av.map (·.2))->(mO av kvs).map (·.1)=(kd.foldl (λacc q=>dput acc q.1 q.2) ad).map (·.1)/\fZ φ H ((kd.foldl (λacc q=>dput acc q.1 q.2) ad).map (·.2)) ((mO av kvs).map (·.2))
 | [],kvs,ad,av,h1,h2,h3,h4=>by
  cases kvs with
  |nil=>exact⟨h3,h4⟩
  |cons q kd=>cases h1
 | q::kd,kvs,ad,av,h1,h2,h3,h4=>by
  cases kvs with
  |nil=>cases h1
  | cons v kvs =>
   rw[aw,aw]at h1
   injection h1 with h5 h6
   obtain⟨x,r,e,i1,i2⟩:=h2
   rw[aw]at e
   cases e
   obtain⟨g1,g2⟩:=CS (k:=q.1) i1 h3 h4
   show(mO (putK av v.1 v.2) kvs).map (·.1)=_/\fZ φ H _ ((mO (putK av v.1 v.2) kvs).map (·.2))
   rw[show v.1=q.1 from h5,cJ]
   exact yX (kd:=kd) h6 i2 g1 g2
def Yd (X:Cx)(pos:Pos)(keys:ao (aq Expr))(values:ao Expr)(ws:ao (De×De)):Prop:=Xe X pos keys values (tdP ws)
def NR {X:Cx}{pos:Pos}:Yd X pos [] [] []:=NQ
def qa {X:Cx}{pos:Pos}{k v:Expr}{ks:ao (aq Expr)}{vs:ao Expr}{a b:De}{ws:ao (De×De)}(hk:PD X k a)(hv:PD X v b)(hr:Yd X pos ks vs ws):Yd X pos (some k::ks) (v::vs) ((a,b)::ws):=Kg hk hv hr
def TQ {X:Cx}{pos:Pos}{keys:ao (aq Expr)}{values:ao Expr}{ws:ao (De×De)}(h:Yd X pos keys values ws)(Lv:keys.all (·.isSome)=true:=by rfl)(hl:keys.length=values.length:=by rfl)(h0:keys≠[]:=by simp)
 (ZX:keys.length<=15:=by decide):PD X (.Dict keys values pos) (WU ws):=(NZ h Lv hl h0 ZX).imp λσ H Q hq p hp=>by
 obtain⟨φ,ρ,μ,K,A,M,k,L⟩:=hq
 obtain⟨M',f⟩:=M.snoc (o:=.dK []) (m:=.jC [] []) hp ⟨[],[],gh,rfl,rfl,rfl⟩
 refine yI ws (A.mono f) M' k λps iE kQ vs H2 k2 f2 M2 i2=>?_
 obtain⟨em,kd,k15,ek,k2⟩:=k2
 have i1:je (φ++[p]) (upd H p (.dK [])) (.mr μ.length) (.ref p):=⟨p,by rw[pX (by rw[M.len];exact ar _),M.len,a6];rfl,rfl⟩
 obtain⟨p',AB,e'⟩:=i1.mono f2
 cases e'
 obtain⟨p'',e1,Y4,vs0,hv,h1,h2,ha⟩:=M2.at_ μ.length _ em
 rw[AB]at e1;cases e1
 have z0:Y4=[]:=List.map_eq_nil_iff.mp h1
 subst z0
 obtain⟨kvs,rfl,g2,g3,g4⟩:=FN i2 ek
 refine⟨hv,kvs,rfl,by lia,?_⟩
 have f4:Fr kQ H2 kQ (upd H2 p (.dK (mO [] kvs))):=.put (mw AB)
 obtain⟨m1,m2⟩:=yX (ad:=[]) (av:=[]) g3 (g4.mono f4) rfl rfl
 have M4:=M2.put (k:=μ.length) (p:=p) (o:=.dK (mO [] kvs)) (m:=.jC ((xf kd).map (·.1)) ((xf kd).map (·.2))) AB ⟨mO [] kvs,_,gh,m1,rfl,m2⟩
 exact L _ _ kQ _ _ k2 ((f.trans f2).trans f4) M4 ((i1.mono f2).mono f4)
def vT:j5:=λds μ K=>match ds with
 |[d]=>∃ t:jV,d=rp t/\K (.bl (!Qz t)) μ
 |_=>False
def zb (n:Nat):j5:=λds μ K=>match ds with
 |[d]=>∃ t:jV,d=rp t/\t.dep<=n/\K (.bl true) μ
 |_=>False
def za (n:Nat):j5:=λds μ K=>match ds with
 |[x,y]=>∃ t u:jV,x=rp t/\y=rp u/\t.dep<=n/\n<=63/\u.dep<=n/\UP t u/\K (.bl true) μ
 |_=>False
def AI:j5:=λds μ K=>match ds with
 |[.mr k,.int m]=>μ[k]?=some .box/\0<=m/\(∃ d:Nat,d<=1000/\m<=128 ^ d)/\∀ ns:ao Int,ns.length<=12->ns.Pairwise (·<·)->(∀ x∈ns,0<=x/\x<m)->K (.lst (ns.map D.int)) μ
 |_=>False
def yM:∀(t:jV) {n:Nat},t.dep<=n->nA n (rp t)
 |.num _,n,_=>ur
 | .lC p l r,n,h=>by
  have h:max l.dep r.dep+1<=n:=h
  obtain⟨n,rfl⟩:∃ n',n=n'+1:=⟨n - 1,by lia⟩
  refine JQ (by simp only[aU,List.length_nil];lia) λd hd=>?_
  simp only[aP,aH,bS]at hd
  rcases hd with rfl|rfl|rfl
  .exact ur
  .exact yM l (by lia)
  .exact yM r (by lia)
def AV:∀(t u:jV),lQ (rp t) (rp u)=true↔t=u
 |.num a,.num b=>by unfold rp lQ;rw[beq_iff_eq];exact⟨λh=>by rw[h],λh=>by cases h;rfl⟩
 |.num a,.lC p l r=>⟨λh=>(by unfold rp lQ at h;cases h),λh=>(by cases h)⟩
 |.lC p l r,.num a=>⟨λh=>(by unfold rp lQ at h;cases h),λh=>(by cases h)⟩
 | .lC p l r,.lC p' l' r'=>by
  have a:=AV l l'
  have b:=AV r r'
  unfold rp lQ ml ml ml ml
  simp only[bJ,Bool.and_true]
  rw[a,b]
  have c:lQ (D.int p) (D.int p')=true↔p=p':=by unfold lQ;exact beq_iff_eq
  rw[c]
  constructor
  .rintro⟨h1,h2,h3⟩;rw[h1,h2,h3]
  .intro h;cases h;exact⟨rfl,rfl,rfl⟩
def jV.AW:∀ t:jV,t.dep+1<=t.cnt
 |.num _=>ar _
 | .lC _ l r=>by
  have:=l.AW
  have:=r.AW
  show max l.dep r.dep+1+1<=l.cnt+r.cnt
  lia
def vn (ns:ao Int)(k:Int):ao Int:=if k∈ns then ns else ns++[k]
def kT (ns:ao Int):ao (Key×D):=ns.map λx=>((Sum.inl x:Key),D.bl true)
def AR (ns:ao Int)(k:Int):dput (kT ns) (.inl k) (.bl true)=kT (vn ns k):=by
 have e:((kT ns).any λkv=>decide (kv.1=Sum.inl k))=true↔k∈ns:=by
  unfold kT
  rw[d7,d9]
  constructor
  .rintro⟨x,hx,h⟩
   have h:(Sum.inl x:Key)=Sum.inl k:=cn h
   rw[<- Sum.inl.inj h];exact hx
  .intro h;exact⟨k,h,aI rfl⟩
 unfold dput vn
 by_cases q:k∈ns
 .rw[aB (e.mpr q),aB q]
  unfold kT
  rw[a8]
  refine bN λx _=>?_
  show(if(Sum.inl x:Key)=Sum.inl k then((Sum.inl x:Key),D.bl true)else _)=_
  split<;>rfl
 .rw[aC λz=>q (e.mp z),aC q]
  unfold kT
  rw[bh];rfl
def K1 (xs:ao Int):xf (kT xs)=kT (xs.foldl vn []):=by
 have key:∀(xs ns:ao Int),(kT xs).foldl (λacc q=>dput acc q.1 q.2) (kT ns)=kT (xs.foldl vn ns):=by
  intro xs
  induction xs with
  |nil=>intro ns;rfl
  |cons x xs ih=>intro ns;show(kT xs).foldl _ (dput (kT ns) (.inl x) (.bl true))=_;rw[AR,ih];rfl
 exact key xs []
structure EW (m:Int)(q:Nat)(ns:List Int):Prop where
 nd:ns.Nodup
 le:ns.length<=q
 Jb:∀ x∈ns,0<=x/\x<m
def EW.put {m:Int}{q:Nat}{ns:ao Int}(h:EW m q ns){v:Int}(v0:0<=v)(v1:v<m):EW m (q+1) (vn ns v):=by
 unfold vn
 by_cases z:v∈ns
 .rw[aB z];exact⟨h.nd,by have:=h.le;lia,h.Jb⟩
 .rw[aC z]
  refine⟨List.nodup_append.mpr ⟨h.nd,by simp,λx hx y hy=>?_⟩,by rw[oq,bF];have:=h.le;lia,λx hx=>?_⟩
  .rw[List.mem_singleton.mp hy];exact λe=>z (e▸hx)
  .rcases List.mem_append.mp hx with q | q
   .exact h.Jb x q
   .rw[List.mem_singleton.mp q];exact⟨v0,v1⟩
def EW.sort {m:Int}{q:Nat}{ns uA:ao Int}(h:EW m q ns)(p:uA.Perm ns)(hs:uA.Pairwise (·<=·)):uA.length<=q/\uA.Pairwise (·<·)/\∀ x∈uA,0<=x/\x<m:=by
 refine⟨by rw[p.length_eq];exact h.le,?_,λx hx=>h.Jb x (p.mem_iff.mp hx)⟩
 have nd:uA.Nodup:=p.nodup_iff.mpr h.nd
 exact(hs.and nd).imp λ{a b} ⟨h1,h2⟩=>by have:a≠b:=h2;lia
def Fq {f:Nat->Int}:∀ {l:ao Nat} {x:Nat},(∀ y∈l,0<=f y)->x∈l->0<f x->0<(l.map f).sum
 |[],x,_,h,_=>by cases h
 | y::l,x,hn,h,hx=>by
  have h0:=hn y aF
  have h1:=sR.zL (f:=f) (l:=l) λz hz=>hn z (nF _ hz)
  rw[aw,cw]
  rcases List.mem_cons.mp h with rfl|h
  .lia
  .have:=Fq (f:=f) (l:=l) (x:=x) (λz hz=>hn z (nF _ hz)) h hx;lia
section
variable {n:Int}{cs:ao Int}{ts:ao Tk}(S:iC n cs ts)
include S
def G5 (a i j:Nat)(pW:i<j)(hj:j<(fH n cs).length)(h0:gw (fH n cs) ts (a+1) i j=0):0<iM (fH n cs) ts (a+1) i j:=by
 have oS:=gy n cs
 have tb:=wB S
 have hu:=iD S.n1 S.jD
 unfold iM
 rw[aB h0]
 have e:gw (fH n cs) ts (a+1) i j=jR (fH n cs).length (fH n cs) (jj (fH n cs) ts (a:Int)) (gw (fH n cs) ts a) i j:=rfl
 unfold jR at e
 split at e
 .rename_i q
  have lt:=lB hu (getD_some (show i<(fH n cs).length by lia)) (getD_some hj) pW
  rw[oF (getD_some (show i<(fH n cs).length by lia)),lG]at q
  rcases lJ ((ts.filter λt=>decide (t.2<=(a:Int))).map λt=>jE (fH n cs) t.1 ((fH n cs).getD i 0)) ((fH n cs).getD i 0)with z|z
  .lia
  .obtain⟨t,ht,et⟩:=List.mem_map.mp z
   obtain⟨t1,t2⟩:=List.mem_filter.mp ht
   obtain⟨x,hx,ex⟩:=aX t1
   have:x∈qh (fH n cs) ts a i j:=Ao.mpr ⟨t,by rw[jk hx,ex],cn t2,by rw[et];exact q⟩
   have:=List.length_pos_of_mem this
   lia
 .exfalso
  rcases(kR (nR (gw (fH n cs) ts a) i j) (((fH n cs).length:Int) - 1)).1 with z|z
  .lia
  .obtain⟨k,k1,k2,k3⟩:=nh.mp z
   have n1:=tb.nn a i k (by lia) (by lia)
   have n2:=tb.nn a k j (by lia) hj
   lia
def T8 (AE:cs.length<=60):∀(a i j:Nat),i<j->j<(fH n cs).length->gw (fH n cs) ts (a+1) i j<((fH n cs).length:Int) - 1->0<iM (fH n cs) ts (a+1) i j:=by
 intro a
 have oS:=gy n cs
 have ft:=S.takes.mZ
 have tb:=wB S
 have hu:=iD S.n1 S.jD
 induction a with
 | zero =>
  intro i j pW hj h
  have h0:=yH S i j (by lia) hj h
  exact G5 S 0 i j pW hj h0
 | succ a ih =>
  intro i j pW hj h
  by_cases q:gw (fH n cs) ts (a+1+1) i j=0
  .exact G5 S (a+1) i j pW hj q
  .unfold iM
   rw[aC q]
   have e:gw (fH n cs) ts (a+1+1) i j=jR (fH n cs).length (fH n cs) (jj (fH n cs) ts ((a+1:Nat):Int)) (gw (fH n cs) ts (a+1)) i j:=rfl
   unfold jR at e
   split at e
   .exact absurd e q
   .rcases(kR (nR (gw (fH n cs) ts (a+1)) i j) (((fH n cs).length:Int) - 1)).1 with z | z
    .lia
    .obtain⟨k,k1,k2,k3⟩:=nh.mp z
     have n1:=tb.nn (a+1) i k (by lia) (by lia)
     have n2:=tb.nn (a+1) k j (by lia) hj
     refine Fq (x:=k) (λy hy=>?_) (jb.mpr ⟨k1,k2,by lia⟩) (Int.mul_pos (ih i k k1 (by lia) (by lia)) (ih k j k2 hj (by lia)))
     obtain⟨y1,y2,_⟩:=jb.mp hy
     exact dQ (kN (by lia) (by lia) (a+1) i y y1 (by lia)).1 (kN (by lia) (by lia) (a+1) y j y2 hj).1
def Fi {A:Nat}(la:iH (fH n cs) ts n A):gw (fH n cs) ts (A+1) 0 (cs.length+1)=lE (fH n cs) ts (A+1) 0 (cs.length+1) - 1/\gw (fH n cs) ts (A+1) 0 (cs.length+1)<((fH n cs).length:Int) - 1:=by
 have oS:=gy n cs
 have tl:=qz S la
 rcases(wM S (A+1) 0 (cs.length+1) (by lia) (by lia)).2 (by lia)with⟨z,_⟩|⟨z1,z2,z3⟩
 .lia
 .exact⟨z3,by lia⟩
def Dl {A:Nat}(AE:cs.length<=60)(la:iH (fH n cs) ts n A){r:Int}(r0:0<=r)(r1:r<iM (fH n cs) ts (A+1) 0 (cs.length+1)):(wq (fH n cs) ts (A+1) 0 (cs.length+1) r).ok cs ts.length/\(wq (fH n cs) ts (A+1) 0 (cs.length+1) r).val ts=(List.replicate n.toNat 111,(A:Int))/\((wq (fH n cs) ts (A+1) 0 (cs.length+1) r).cnt:Int)=lE (fH n cs) ts (A+1) 0 (cs.length+1)/\(wq (fH n cs) ts (A+1) 0 (cs.length+1) r).dep<=cs.length:=by
 have oS:=gy n cs
 have ft:=S.takes.mZ
 have rk:=Aa (iD S.n1 S.jD) (by lia) (by lia) (A+1) 0 (cs.length+1) r (by lia) (by lia) r0 r1
 have b:=(Mv S la).mp ((sN (iD S.n1 S.jD) (A+1) 0 (cs.length+1) _ (by lia) (by lia)).mp (by rw[rk];rfl))
 obtain⟨t1,t2⟩:=Fi S la
 have d:=(wq (fH n cs) ts (A+1) 0 (cs.length+1) r).AW
 exact⟨b.1,b.2.1,by lia,by have:=b.2.2;lia⟩
end
end L2
namespace Pf
open PySem L2 PyProof.Rows
def top (i:Nat):Stmt:=PySem.Challenge.pw_hissroom_k18_best_makes_by_number.main.body.getD i (.Pass ⟨0,0,0,0⟩)
def met (i j:Nat):Stmt:=(Pc (top i)).getD j (.Pass ⟨0,0,0,0⟩)
abbrev wV:Stmt:=top 28
abbrev oa:Stmt:=top 29
abbrev rS:Stmt:=top 30
abbrev rR:Stmt:=top 31
abbrev lW:Stmt:=top 32
abbrev o9:Stmt:=top 33
abbrev s_same:Stmt:=top 45
abbrev rQ:Stmt:=top 1
abbrev m6:Stmt:=top 2
abbrev m9:Stmt:=top 4
abbrev k8:Stmt:=top 3
abbrev jI:Stmt:=top 12
abbrev ki:Stmt:=top 13
abbrev jK:Stmt:=top 14
abbrev k7:Stmt:=top 11
abbrev ke:Stmt:=top 10
abbrev lY:Stmt:=top 17
abbrev jt:Stmt:=top 18
abbrev iV:Stmt:=top 20
abbrev jr:Stmt:=top 19
abbrev jM:Stmt:=top 16
abbrev hU:Stmt:=met 25 1
abbrev gH:Stmt:=met 25 2
abbrev ib:Stmt:=met 25 3
abbrev gL:Stmt:=met 25 5
abbrev hV:Stmt:=met 25 4
abbrev gW:Stmt:=met 25 0
abbrev jN:Stmt:=top 22
abbrev gU:Stmt:=met 25 6
abbrev lZ:Stmt:=top 23
abbrev kb:Stmt:=top 26
abbrev iL:Stmt:=met 25 7
abbrev kc:Stmt:=top 24
abbrev wU:Stmt:=top 36
abbrev wQ:Stmt:=top 37
abbrev rM:Stmt:=top 38
abbrev m8:Stmt:=top 39
abbrev ph:Stmt:=top 40
abbrev rN:Stmt:=top 34
abbrev kh:Stmt:=top 41
abbrev wR:Stmt:=top 42
abbrev o8:Stmt:=top 43
abbrev rO:Stmt:=top 35
abbrev rP:Stmt:=top 44
abbrev pf:Stmt:=top 47
abbrev jL:Stmt:=top 46
abbrev lX:Stmt:=top 48
abbrev nK:Stmt:=top 49
structure ip (K:aa)(C:ai):Prop where
 cl:E5 K C
 sY:W.findIn K (.ref C) "places"=some none
 KW:W.findIn K (.ref C) "rows"=some none
 sX:W.findIn K (.ref C) "tables"=some none
 sW:W.findIn K (.ref C) "whole"=some none
 sZ:W.findIn K (.ref C) "counts"=some none
def RC:gm ["_law_script"] (pA wV) (fP wV):=i8
def sI:gm ["_law_box_here","_law_many","_law_rest","_law_cell","_law_one","_law_two"] (pA oa) (fP oa):=i8
def o4:gm ["_law_box_here","_law_size","_law_kind","_law_first","_law_behind"] (pA rS) (fP rS):=i8
def vF:gm ["_law_box_here","_law_size","_law_kind"] (pA rR) (fP rR):=i8
def lV:gm ["_law_box_here","_law_size","_law_cuts_here","_law_texts","_law_border","_law_k","_law_at","_law_old","_law_clean"] (pA lW) (fP lW):=i8
def jS:gm ["_law_box_here","_law_most","_law_size","_law_cuts_here","_law_many","_law_texts","_law_kind","_law_low","_law_ages"] (pA o9) (fP o9):=i8
def NC:gm ["_law_found","_law_due"] (pA s_same) (fP s_same):=i8
def NF:gm ["size","cuts"] (pA rQ) (fP rQ):=i8
def yN:gm ["size","cuts","places"] (pA m6) (fP m6):=i8
def qB:gm ["size","cuts","takes","first","behind"] (pA m9) (fP m9):=i8
def nJ:gm ["size","cuts","text","end","spoilt","clean_to"] (pA k8) (fP k8):=i8
def oZ:gm ["size","cuts","takes","places"] (pA jI) (fP jI):=i8
def ky:gm ["places","rows","age","told","take_age","row"] (pA ki) (fP ki):=i8
def kH:gm ["places","rows","before","age","where","clean"] (pA jK) (fP jK):=i8
def uV:gm ["takes"] (pA k7) (fP k7):=i8
def jJ:gm ["size","cuts","takes","places","rows","age","told"] (pA ke) (fP ke):=i8
def DQ:gm ["places"] (pA lY) (fP lY):=i8
def n9:gm ["places","none"] (pA jt) (fP jt):=i8
def oA:gm ["lefts","rights","none"] (pA iV) (fP iV):=i8
def iN:gm ["places","clean","before","columns","none","told","first","row","far"] (pA jr) (fP jr):=i8
def gZ:gm ["size","cuts","takes","age","places","rows","ages","table","changing","told","now","before"] (pA jM) (fP jM):=i8
def jq:gm ["self","stretch","age","first","behind"] (pA hU) (fP hU):=i8
def gP:gm ["self","stretch","age","first","behind","end"] (pA gH) (fP gH):=i8
def hJ:gm ["self","stretch","age","first","behind","many","before"] (pA ib) (fP ib):=i8
def gT:gm ["self","stretch","many","place","left","right"] (pA gL) (fP gL):=i8
def p9:gm ["self","stretch"] (pA hV) (fP hV):=i8
def lS:gm ["self","size","cuts","takes","least"] (pA gW) (fP gW):=i8
def rj:gm ["size","cuts","takes","best"] (pA jN) (fP jN):=i8
def gQ:gm ["self","stretch","number","rest","place","left","right","many"] (pA gU) (fP gU):=i8
def wO:gm ["size","cuts","takes","number","best"] (pA lZ) (fP lZ):=i8
def zX:gm ["numbers","make"] (pA kb) (fP kb):=i8
def iU:gm ["self","stretch","make","ahead","place","left","right"] (pA iL) (fP iL):=i8
def sJ:gm ["size","cuts","takes","make","best"] (pA kc) (fP kc):=i8
def z6:gm ["_law_border","_law_text","_law_end","_law_at"] (pA wU) (fP wU):=i8
def zY:gm ["_law_border","_law_takes","_law_age","_law_row","_law_end"] (pA wQ) (fP wQ):=i8
def o3:gm ["_law_border","_law_takes","_law_many","_law_rows_here","_law_age","_law_row","_law_last"] (pA rM) (fP rM):=i8
def qA:gm ["_law_border","_law_takes","_law_k","_law_part"] (pA m8) (fP m8):=i8
def sL:gm ["_law_border","_law_takes","_law_rows_here"] (pA ph) (fP ph):=i8
def Fy:gm ["_law_takes"] (pA rN) (fP rN):=i8
def jH:gm ["_law_border","_law_own_here","_law_last","_law_table","_law_i","_law_j","_law_some"] (pA kh) (fP kh):=i8
def z5:gm ["_law_border","_law_takes","_law_age","_law_table","_law_old"] (pA wR) (fP wR):=i8
def JR:gm ["_law_found"] (pA o8) (fP o8):=i8
def zZ:gm ["_law_cuts_here","_law_takes","_law_make","_law_left","_law_right"] (pA rO) (fP rO):=i8
def ND:gm ["_law_make"] (pA rP) (fP rP):=i8
def JS:gm ["_law_make"] (pA pf) (fP pf):=i8
def ye:gm ["_law_one","_law_other"] (pA jL) (fP jL):=i8
def rL:gm ["_law_box_here","_law_many","_law_some"] (pA lX) (fP lX):=i8
def kZ:gm ["_law_script","_law_box_here","_law_size","_law_cuts_here","_law_takes","_law_given","_law_many","_law_age","_law_few_here","_law_last","_law_number","_law_make"] (pA nK) (fP nK):=i8
def fM:ai:=212
def mn:ai:=73
def jF:ai:=61
def Ud:ai:=48
section
variable (P:ae)(w:af)(K:aa)(mg:Str->aq ak)(fJ:Heap)
abbrev Q4:Prop:=nB P w K mg fJ "_law_box" 1 (pA wV) (zP K)
abbrev uL:Prop:=nB P w K mg fJ "_law_take" 1 (pA oa) (iG y9)
abbrev Mu:Prop:=nB P w K mg fJ "_law_bars" 2 (pA rS) (iG GN)
abbrev Mt:Prop:=nB P w K mg fJ "_law_cuts" 2 (pA rR) (iG GL)
abbrev zr:Prop:=nB P w K mg fJ "_law_patched" 2 (pA lW) (iG tN)
abbrev G7:Prop:=nB P w K mg fJ "_law_shelf" 3 (pA o9) (iG AH)
abbrev Dh:Prop:=nB P w K mg fJ "_law_take" 1 (pA oa) (iG xC)
abbrev Mn:Prop:=nB P w K mg fJ "_law_same" 6 (pA s_same) (iG LI)
abbrev sm:Prop:=nB P w K mg fJ "ends" 1 (pA rQ) (iG GK)
abbrev Di:Prop:=nB P w K mg fJ "pieces" 2 (pA m6) (iG vU)
abbrev qv:Prop:=nB P w K mg fJ "bar_of" 3 (pA m9) (iG AM)
abbrev xS:Prop:=nB P w K mg fJ "farthest" 2 (pA k8) (iG qM)
abbrev nX:Prop:=nB P w K mg fJ "take_rows" 3 (pA jI) (iG qL)
abbrev qu:Prop:=nB P w K mg fJ "clean_row" 1 (pA ki) (iG qP)
abbrev tX:Prop:=nB P w K mg fJ "next_reach" 2 (pA jK) (iG AJ)
abbrev sk:Prop:=nB P w K mg fJ "youngest" 1 (pA k7) (iG qK)
abbrev vg:Prop:=nB P w K mg fJ "least_age" 4 (pA ke) (iG AK)
abbrev uM:Prop:=nB P w K mg fJ "no_make" 1 (pA lY) (iG vV)
abbrev t9:Prop:=nB P w K mg fJ "bare_table" 2 (pA jt) (iG AL)
abbrev pL:Prop:=nB P w K mg fJ "fewest_joined" 1 (pA iV) (iG tP)
abbrev tW:Prop:=nB P w K mg fJ "next_table" 2 (pA jr) (iG tO)
abbrev tZ:Prop:=nB P w K mg fJ "few_tables" 4 (pA jM) (iG tQ)
abbrev hZ:Prop:=xV P w K mg fJ fM "is_take" 1 (pA hU) (iG (vX fM))
abbrev gJ:Prop:=xV P w K mg fJ fM "clean_takes" 1 (pA gH) (iG (vZ fM))
abbrev ij:Prop:=xV P w K mg fJ fM "halves" 1 (pA ib) (iG (vY fM))
abbrev A8:Prop:=xV P w K mg fJ fM "count_anew" 143 (pA gL) (iG (uF fM 71))
abbrev h9:Prop:=xV P w K mg fJ fM "counted" 144 (pA hV) (iG (uF fM 71))
abbrev jx:Prop:=Ur P w K mg fJ "BestMakes" fM 5 (pA gW) (iG (GI fM))
abbrev t6:Prop:=nB P w K mg fJ "count_best" 145 (pA jN) (iG pz)
abbrev mI:Prop:=xV P w K mg fJ fM "numbered" 216 (pA gU) (iG (vc fM 71))
abbrev zu:Prop:=IS P w K mg fJ "best_of" 217 (pA lZ) (zN (tS mn))
abbrev qt:Prop:=IS P w K mg fJ "take_rank" 1 (pA kb) (zN (oM jF))
abbrev oO:Prop:=Hi P w K mg fJ fM "rank" 216 (pA iL) (zN (tM fM jF 71))
abbrev vf:Prop:=IS P w K mg fJ "number_of" 217 (pA kc) (zN (xD jF))
abbrev Q3:Prop:=nB P w K mg fJ "_law_far" 1 (pA wU) (iG OT)
abbrev Mp:Prop:=nB P w K mg fJ "_law_own" 2 (pA wQ) (iG OR)
abbrev Mo:Prop:=nB P w K mg fJ "_law_rows" 3 (pA rM) (iG GG)
abbrev Dj:Prop:=nB P w K mg fJ "_law_barred" 1 (pA m8) (iG v7)
abbrev G9:Prop:=nB P w K mg fJ "_law_least" 4 (pA ph) (iG vW)
abbrev Mq:Prop:=nB P w K mg fJ "_law_near" 1 (pA rN) (iG GH)
abbrev xR:Prop:=nB P w K mg fJ "_law_few_next" 1 (pA kh) (iG tR)
abbrev Q2:Prop:=nB P w K mg fJ "_law_few" 3 (pA wR) (iG GJ)
abbrev wm:Prop:=nB P w K mg fJ "_law_whole" 1 (pA o8) (iG vT)
abbrev Mr:Prop:=nB P w K mg fJ "_law_made" 64 (pA rO) (iG (uE 63))
abbrev Ms:Prop:=nB P w K mg fJ "_law_form" 65 (pA rP) (iG (zb 63))
abbrev G8:Prop:=nB P w K mg fJ "_law_parts" 64 (pA pf) (iG (qO 63))
abbrev tY:Prop:=nB P w K mg fJ "_law_goes_first" 64 (pA jL) (iG (za 63))
abbrev zt:Prop:=nB P w K mg fJ "_law_numbers" 2 (pA lX) (iG AI)
end
section
variable {P:ae}{w:af}{K:aa}{mg:Str->aq ak}{fJ:Heap}{f:ai}{fd:ag}
def Si (F:j4 K "_law_box" "_law_box" wV f fd)(T:lM mg)  : gF P w K mg fJ kW 1 f fd (pA wV) (zP K):=by
 refine F.ok RC (λvs H Q E h=>?_) (λjl A fT s H vs Q E hr h=>?_)
 .unfold zP at h;split at h
  .rfl
  .cases h
 .unfold zP at h;split at h
  .rename_i a
   obtain⟨ns,hs,k⟩:=h
   refine⟨_,(lF (og (Kn (gv (yQ Cv (by rfl) T.list bY (gv (lT 0) iR)) (gv ic (gv ic (gv ic iR))))))),?_⟩
   refine⟨_,hs,λl hl=>?_⟩
   refine⟨(zs),λb hb=>?_⟩
   have Zx:l≠b:=gM (o:=.lst (ns.map V.int)) gh hb
   have ZT:H b=none:=by rw[gB Zx.symm]at hb;exact hb
   refine k b l _ ⟨ns,0,0,1,gh,by rw[gB Zx];exact gh,Zx,by decide,by decide,by decide⟩ ZT hl λc o e=>?_
   rw[gB (gM e ZT),gB (gM e hl)]
   exact e
  .cases h
def Oa (F:j4 K "_law_cuts" "_law_cuts" rR f fd)(T:lM mg)(jm:uL P w K mg fJ):gF P w K mg fJ kW 2 f fd (pA rR) (iG GL):=by
 refine F.oQ vF (λds μ Kd h=>by unfold GL at h;split at h <;> first | rfl | exact h.elim) (λjl A fT s H E hr=>⟨_,(fO (qS 2 vF.nd (qC jm hr (a2 (dv 0) fR)))
  (fO (jd (Kc (dv 2) fR)
  (fW (gA (kD false kq)))
  hG)
  (fO (jd (Kc (dv 2) fR)
  (fW (gA (CY false (sq (N:=["_law_place"]) (js:=[none]) vF (by decide +kernel)) (oI rfl T.range (a2 fR (dv 1))) (λ_ _ _ nd=>(qN 0 nd)) (λ_ _ _=>iK) (λ_ _ _=>(dv 0)))))
  hG)
  (fW (gA (CY false (sq (N:=["_law_place","_law_box_here"]) (js:=[none,some 0]) vF (by decide +kernel)) (oI rfl T.range (a2 fR (dv 1))) (λ_ _ _ nd=>(qN 0 nd)) (λ_ _ _=>(p5 (RN (qC jm hr (a2 (dv 1) fR)) fR))) (λ_ _ _=>(dv 0)))))))),λds μ Kd hm hl h=>?_⟩)
 unfold GL at h
 split at h
 .rename_i k n
  obtain⟨hb,h1,h2,kk⟩:=h
  refine⟨hb,by decide,by decide,λv v0 v1=>?_⟩
  refine pI (λhv=>?_) (λhv=>?_)
  .exact⟨bC _,.keep (kk [] (bC _) ⟨(λ_ q=>nomatch q),.nil⟩)⟩
  refine pI (λhv1=>?_) (λhv1=>?_)
  .refine⟨⟨by decide,by decide,by lia,by lia⟩,sz (by rw[iw];lia),?_⟩
   refine iF trivial (λd=>some d) (λd hd K' k'=>k') ?_
   rw[List.filterMap_some,sM]
   obtain⟨c1,c2⟩:=BZ h1 (List.Sublist.refl _)
   exact .keep (kk _ c1 c2)
  .refine⟨⟨by decide,by decide,by lia,by lia⟩,sz (by rw[iw];lia),?_⟩
   refine uJ trivial (λd hd K' k1 k2=>?_) λzs hz=>?_
   .refine⟨hb,by decide,by decide,λv v0 v1=>?_⟩
    exact kL (λ_=>k1) (λ_=>k2)
   .rw[sM]at hz
    obtain⟨bs,hs,rfl⟩:=Nn hz
    obtain⟨c1,c2⟩:=BZ h1 hs
    exact .keep (kk _ c1 c2)
 .cases h
def uQ {μ:MS}{n:Nat}{it:D->MS->(aq D->MS->Prop)->Prop}{K:DK}(hn:n<=1000)(hit:∀(d:D) (K':aq D->MS->Prop),(∀ c:Nat,(c=111\/c=120)->K' (some (.str ⟨#[c]⟩)) μ)->it d μ K')(k:∀ l:ao Nat,l.length=n->OX l->K (.str (txt l)) μ):
 rE it (λ_=>True) (lP 0 n) μ λys iE=>nL false ys iE λx rh=>LK (.str (Str.ofString "")) [x] rh K:=by
 refine qR (λc:Nat=>D.str ⟨#[c]⟩) (λc=>c=111\/c=120) trivial (λd hd K' k'=>hit d K' k') λl hl ho=>?_
 rw[iw]at hl
 refine⟨rfl,l.map (λc=>⟨#[c]⟩),by unfold lv;rw[a8];rfl,by rw[yJ];lia,?_⟩
 rw[xA]
 exact k l hl λc hc=>ho c hc
def Ob (F:j4 K "_law_bars" "_law_bars" rS f fd)(T:lM mg)(jm:uL P w K mg fJ):gF P w K mg fJ kW 2 f fd (pA rS) (iG GN):=by
 refine F.oQ o4 (λds μ Kd h=>by unfold GN at h;split at h <;> first | rfl | exact h.elim) (λjl A fT s H E hr=>⟨_,(fO (qS 2 o4.nd (qC jm hr (a2 (dv 0) fR)))
  (fO (jd (Kc (dv 2) fR)
  (fW (gA (AX dn fw fv Lb zR kC (a1 (CY false (sq (N:=["_law_k","_law_box_here"]) (js:=[none,some 0]) o4 (by decide +kernel)) (iX rfl T.range (a1 (dv 1))) (λ_ _ _ nd=>(qN 0 nd)) (λ_ _ _=>iK) (λ_ _ _=>(jo kC (qC jm hr (a2 (dv 1) fR)))))))))
  hG)
  (fO (jd (Kc (dv 2) fR)
  (fW (gA (AX dn fw fv Lb zR kC (a1 (CY false (sq (N:=["_law_k","_law_box_here"]) (js:=[none,some 0]) o4 (by decide +kernel)) (iX rfl T.range (a1 (dv 1))) (λ_ _ _ nd=>(qN 0 nd)) (λ_ _ _=>iK) (λ_ _ _=>(jo kC (qC jm hr (a2 (dv 1) fR)))))))))
  hG)
  (fO (jd (Kc (dv 2) fR)
  (fO (qS 3 o4.nd (qC jm hr (a2 (dv 0) (dv 1))))
  (fO (qS 4 o4.nd (ot (ot (dv 3) fR) (qC jm hr (a2 (dv 0) (G3 (dv 1) (dv 3))))))
  (fW (gA (ot (ot (pU mulC p7 kC (dv 3)) (pU mulC p7 kC (G3 (dv 4) (dv 3)))) (pU mulC p7 kC (G3 (dv 1) (dv 4))))))))
  hG)
  (fO (jd (Kc (dv 2) fR)
  (fW (gA (AX dn fw fv Lb zR kC (a1 (CY false (sq (N:=["_law_k","_law_box_here"]) (js:=[none,some 0]) o4 (by decide +kernel)) (iX rfl T.range (a1 (dv 1))) (λ_ _ _ nd=>(qN 0 nd)) (λ_ _ _=>iK) (λ_ _ _=>(jo kC (qC jm hr (a2 (dv 1) fR)))))))))
  hG)
  (fW (gA (pU mulC p7 (jo kC (qC jm hr (a2 (dv 0) fR))) (dv 1))))))))),λds μ Kd hm hl h=>?_⟩)
 unfold GN at h
 split at h
 .rename_i k n
  obtain⟨hb,h1,h2,kk⟩:=h
  refine⟨hb,by decide,by decide,λv v0 v1=>?_⟩
  refine pI (λhv=>?_) (λhv=>?_)
  .refine⟨rfl,by lia,by lia,sz (by rw[iw];lia),?_⟩
   refine uQ (n:=n.toNat) (by lia) (λd K' k'=>?_) λl hl ho=>.keep (kk l hl ho)
   refine⟨hb,by decide,by decide,λv v0 v1=>⟨by decide,?_⟩⟩
   obtain⟨c,e,hc⟩:=Bb (l:=(Str.ofString "ox").cps.toList) v0 v1
   exact fS e (k' c ((OX.of (l:=(Str.ofString "ox").cps.toList) (by decide +kernel)) c hc))
  refine pI (λhv=>?_) (λhv=>?_)
  .refine⟨rfl,by lia,by lia,sz (by rw[iw];lia),?_⟩
   refine uQ (n:=n.toNat) (by lia) (λd K' k'=>?_) λl hl ho=>.keep (kk l hl ho)
   refine⟨hb,by decide,by decide,λv v0 v1=>⟨by decide,?_⟩⟩
   obtain⟨c,e,hc⟩:=Bb (l:=(Str.ofString "ooooox").cps.toList) v0 v1
   exact fS e (k' c ((OX.of (l:=(Str.ofString "ooooox").cps.toList) (by decide +kernel)) c hc))
  refine pI (λhv=>?_) (λhv=>?_)
  .refine⟨hb,by lia,by lia,λp p0 p1=>⟨hb,by lia,by lia,λg g0 g1=>?_⟩⟩
   refine⟨120,rfl,by lia,by lia,111,rfl,by lia,by lia,?_,120,rfl,by lia,by lia,?_,?_⟩
   .rw[HX,HX,aZ,aZ];exact sz (by lia)
   .rw[pE,HX,HX,oq,aZ,aZ,aZ];exact sz (by lia)
   rw[pE,pE]
   refine .keep (kk _ ?_ (((OX.rep (.inr rfl)).app (OX.rep (.inl rfl))).app (OX.rep (.inr rfl))))
   rw[oq,oq,aZ,aZ,aZ];lia
  refine pI (λhv=>?_) (λhv=>?_)
  .refine⟨rfl,by lia,by lia,sz (by rw[iw];lia),?_⟩
   refine uQ (n:=n.toNat) (by lia) (λd K' k'=>?_) λl hl ho=>.keep (kk l hl ho)
   refine⟨hb,by decide,by decide,λv v0 v1=>⟨by decide,?_⟩⟩
   obtain⟨c,e,hc⟩:=Bb (l:=(Str.ofString "xxxo").cps.toList) v0 v1
   exact fS e (k' c ((OX.of (l:=(Str.ofString "xxxo").cps.toList) (by decide +kernel)) c hc))
  refine⟨hb,by decide,by decide,λp p0 p1=>⟨by decide,?_⟩⟩
  obtain⟨c,e,hc⟩:=Bb (l:=(Str.ofString "ox").cps.toList) p0 p1
  exact fS e ⟨c,rfl,by lia,by lia,.keep (kk _ (aZ ..) (OX.rep ((OX.of (l:=(Str.ofString "ox").cps.toList) (by decide +kernel)) c hc)))⟩
 .cases h
def D5 (F:j4 K "_law_patched" "_law_patched" lW f fd)(T:lM mg)(jm:uL P w K mg fJ):gF P w K mg fJ kW 2 f fd (pA lW) (iG tN):=by
 refine F.oQ lV (λds μ Kd h=>by unfold tN at h;split at h <;> first | rfl | exact h.elim) (λjl A fT s H E hr=>⟨_,(fO (qS 4 lV.nd (ot (ot (kD false (a1 fR)) (dv 2)) (kD false (a1 (dv 1)))))
  (fO (m7 bM rfl (iX rfl T.range (a1 (G3 (CW T (dv 4)) fR))) (qT 5 lV.nd)
  (fO (qS 6 lV.nd (qC jm hr (a2 (dv 0) (CW T (dv 3)))))
  (fO (qS 7 lV.nd (jo (dv 3) (dv 6)))
  (fO (qS 8 lV.nd (pU mulC p7 kC (G3 (jo (dv 4) (ot (dv 5) fR)) (jo (dv 4) (dv 5)))))
  (fW (DS (ot (ot (mW false (dv 7) KN (l8 (jo (dv 4) (dv 5)))) (dv 8)) (mW false (dv 7) (l8 (jo (dv 4) (ot (dv 5) fR))) KN)) (dv 3) (dv 6)))))))
  (fW (gA (dv 3))))),λds μ Kd hm hl h=>?_⟩)
 unfold tN at h
 split at h
 .rename_i k n cs0 t
  obtain⟨hb,hkt,h1,h2,cs,ls,rfl,AE,hc,ht,Jc,hll,hg,kk⟩:=h
  have lt:t<μ.length:=(kM ht).1
  refine⟨zs,?_⟩
  refine⟨by rw[iu];exact sz (by show 1+cs.length<=_;lia),?_⟩
  refine⟨zs,?_⟩
  refine⟨by rw[oq,iu];exact sz (by show 1+cs.length+1<=_;lia),?_⟩
  rw[qo n cs]
  obtain⟨es,he⟩:∃ es,es=fH n cs:=⟨_,rfl⟩
  rw[<- he]
  have Zh:es.Pairwise (·<·):=by rw[he];exact iD h1 hc
  have xl:∀ x∈es,0<=x/\x<=n:=λx hx=>jw h1 hc (by rw[<- he];exact hx)
  have oS:es.length=cs.length+2:=by rw[he,gy]
  have vq:((es.map D.int).length:Int)=(es.length:Nat):=by rw[iu]
  refine⟨by rw[vq];lia,by rw[vq];lia,?_⟩
  refine iY (λds ρ gc=>(∀ d∈ds,∃ j:Nat,j+1<es.length/\d=.int j)/\∃ vp a b c d,ρ=[some (.mr k),some (.int n),some (.lst (cs.map D.int)),some (.mr t),some (.lst (es.map D.int)),a,b,c,d]/\gc=μ.set t (.lst (vp.map Jx))/\vp.length=ls.length/\Good n vp) ⟨λd hd=>?_,ls,none,none,none,none,rfl,?_,rfl,hg⟩ ?_ ?_
  .obtain⟨j,hj,rfl⟩:=wX hd
   rw[vq]at hj
   exact⟨j,by lia,by rw[de]⟩
  .exact(ka ht).symm
  .rintro d xG ρ gc ⟨hd,vp,a,b,c,e,rfl,rfl,oJ,QI⟩
   refine⟨trivial,λnx qY=>?_⟩
   obtain⟨j,hj,rfl⟩:=hd d aF
   have hbx:(μ.set t (.lst (vp.map Jx)))[k]?=some .box:=by rw[aQ (bo hkt)];exact hb
   have lls:0<vp.length:=by rw[oJ];exact List.length_pos_iff.mpr Jc
   refine fS (Au lt) ⟨hbx,by rw[iu];lia,by rw[iu];lia,λv v0 v1=>?_⟩
   rw[iu]at v1
   obtain⟨l,sx⟩:∃ l,vp[v.toNat]?=some l:=⟨vp[v.toNat]'(by lia),jk _⟩
   obtain⟨hll2,Zq⟩:=QI l (mw sx)
   have ev:lO (vp.map Jx) v=some (Jx l):=by have:=j0 (g:=Jx) sx;rwa [cI v0]at this
   refine fS (Au lt) (fS ev ?_)
   obtain⟨x,hx⟩:∃ x,es[j]?=some x:=⟨es[j]'(by lia),jk _⟩
   obtain⟨y,hy⟩:∃ y,es[j+1]?=some y:=⟨es[j+1]'(by lia),jk _⟩
   have Ze:=lB Zh hx hy (bL _)
   have hx2:=xl x (mw hx)
   have Il:=xl y (mw hy)
   have e1:lO (es.map D.int) (j:Int)=some (.int x):=j0 hx
   have e2:lO (es.map D.int) ((j:Int)+1)=some (.int y):=j0 (i:=j+1) hy
   refine fS e2 (fS e1 ⟨111,rfl,by lia,by lia,?_⟩)
   have lz:(txt l).length<=sizeLine:=by rw[ku];exact sz (by lia)
   refine fS e1 ⟨lz,?_⟩
   have c1:=we l none (some x)
   have c2:=we l (some y) none
   refine⟨?_,?_⟩
   .show(txt (lp l none (some x))).length+(txt (List.replicate (y - x).toNat 111)).length<=sizeLine
    rw[ku,ku,aZ];exact sz (by lia)
   refine fS e2 ⟨lz,?_,?_⟩
   .show(txt (lp l none (some x))++txt (List.replicate (y - x).toNat 111)).length+(txt (lp l (some y) none)).length<=sizeLine
    rw[pE,HX,ku,oq,aZ];exact sz (by lia)
   have ei:CB (vp.map Jx).length v=some v.toNat:=by
    unfold CB;rw[aB v0,aB (by rw[iu];lia)]
   refine fS (Au lt) (fS ei (qY _ _ ⟨λd Jd=>hd d (nF _ Jd),vp.set v.toNat (l.take x.toNat++List.replicate (y - x).toNat 111++l.drop y.toNat),_,_,_,_,rfl,?_,by rw[bW];exact oJ,λl' hl3=>?_⟩))
   .rw[bZ,List.map_set]
    congr 3
    show D.str (txt (lp l none (some x))++txt (List.replicate (y - x).toNat 111)++txt (lp l (some y) none))=_
    rw[pE,pE,G4 hx2.1,zm Il.1]
    rfl
   .rcases List.mem_or_eq_of_mem_set hl3 with q | q
    .exact QI l' q
    .rw[q]
     refine⟨?_,((show OX (l.take x.toNat)from λc hc=>Zq c (ba hc)).app (OX.rep (.inl rfl))).app (show OX (l.drop y.toNat)from λc hc=>Zq c (dM hc))⟩
     rw[oq,oq,bH,aZ,bA]
     lia
  .rintro ρ gc ⟨_,vp,a,b,c,e,rfl,rfl,oJ,QI⟩
   exact⟨trivial,.keep (kk vp oJ QI)⟩
 .cases h
def KJ (F:j4 K "_law_shelf" "_law_shelf" o9 f fd)(T:lM mg)(jm:uL P w K mg fJ)(Uv:Mu P w K mg fJ)(Uu:Mt P w K mg fJ)(IT:zr P w K mg fJ):gF P w K mg fJ kW 3 f fd (pA o9) (iG AH):=by
 refine F.oQ jS (λds μ Kd h=>by unfold AH at h;split at h <;> first | rfl | exact h.elim) (λjl A fT s H E hr=>⟨_,(fO (qS 2 jS.nd (ot fR (qC jm hr (a2 (dv 0) (dv 1)))))
  (fO (qS 3 jS.nd (qC Uu hr (a2 (dv 0) (dv 2))))
  (fO (qS 4 jS.nd (qC jm hr (a2 (dv 0) fR)))
  (vh (jd (Kc (qC jm hr (a2 (dv 0) fR)) fR)
  (fW (qS 4 jS.nd fR))
  hG)
  (fO (XF 5 true jS.nd (sq (N:=["_law_k","_law_box_here","_law_size"]) (js:=[none,some 0,some 2]) jS (by decide +kernel)) (iX rfl T.range (a1 (dv 4))) (λ_ _ _ nd=>(qN 0 nd)) (λ_ _ _=>iK) (λ_ _ _=>(qC Uv hr (a2 (dv 1) (dv 2)))))
  (vh (jd (PW.pt (BS (RN (dv 4) fR) (wD (RN (qC jm hr (a2 (dv 0) fR)) fR))))
  (fW (qS 5 jS.nd (qC IT hr (gz (dv 0) (gz (dv 2) (gz (dv 3) (gz (dv 5) kq)))))))
  hG)
  (fO (qS 6 jS.nd (qC jm hr (a2 (dv 0) fR)))
  (fO (qS 7 jS.nd (qC jm hr (a2 (dv 0) fR)))
  (fO (XF 8 false jS.nd (sq (N:=["_law_k","_law_low","_law_box_here","_law_kind"]) (js:=[none,some 7,some 0,some 6]) jS (by decide +kernel)) (iX rfl T.range (a1 (dv 4))) (λ_ _ _ nd=>(qN 0 nd)) (λ_ _ _=>iK) (λ_ _ _=>(ot (dv 1) (qC jm hr (a2 (dv 2) (jo (kD false (gz fR (gz fR (gz fR (gz fR kq))))) (dv 3)))))))
  (fW (gA (pK (a3 (dv 2) (dv 3) (zj false rfl (by rfl) T.list (by rfl) T.zip (a2 (dv 5) (dv 8)))))))))))))))),λds μ Kd hm hl h=>?_⟩)
 unfold AH at h
 split at h
 .rename_i k m
  obtain⟨hb,h1,h2,kk⟩:=h
  refine⟨hb,by lia,by lia,λv v0 v1=>?_⟩
  refine⟨hb,by lia,by lia,λcs AE hc=>?_⟩
  refine⟨hb,by decide,by decide,λw w0 w1=>?_⟩
  refine⟨λj7 gc=>∃ many:Int,0<=many/\many<=20/\j7=[some (.mr k),some (.int m),some (.int (1+v)),some (.lst (cs.map D.int)),some (.int many),none,none,none,none]/\gc=μ,?_,?_⟩
  .refine⟨hb,by decide,by decide,λu u0 u1=>?_⟩
   exact pI (λ_=>⟨20,by decide,by decide,rfl,rfl⟩) (λ_=>⟨w,w0,by lia,rfl,rfl⟩)
  rintro j7 gc ⟨many,m0,m1,rfl,rfl⟩
  refine⟨by lia,by lia,sz (by rw[iw];lia),?_⟩
  refine qR Jx (λl=>(l.length:Int)=1+v/\OX l) trivial (λd hd K' k'=>⟨hb,by lia,by lia,λl hl ho=>k' l ⟨by lia,ho⟩⟩) λls UJ hg=>?_
  rw[iw]at UJ
  have kl:k<gc.length:=(kM hb).1
  have To:∀ x:MO,(gc++[x])[k]?=some .box:=λx=>by rw[vR kl];exact hb
  refine⟨λUY Jj=>∃ vp:ao (ao Nat),vp.length=many.toNat/\Good (1+v) vp/\UY=[some (.mr k),some (.int m),some (.int (1+v)),some (.lst (cs.map D.int)),some (.int many),some (.mr gc.length),none,none,none]/\Jj=gc++[.lst (vp.map Jx)],?_,?_⟩
  .refine kL (λhp=>?_) (λhp=>⟨ls,UJ,hg,rfl,rfl⟩)
   refine⟨To _,by decide,by decide,λu u0 u1=>?_⟩
   refine kL (λ_=>?_) (λ_=>⟨ls,UJ,hg,rfl,rfl⟩)
   refine⟨To _,aD kl,by lia,by lia,cs,ls,rfl,by lia,hc,mh jZ,?_,by lia,hg,λvp oJ QI=>⟨vp,oJ.trans UJ,QI,rfl,mT⟩⟩
   intro e
   rw[e]at UJ
   simp at UJ
   lia
  rintro UY Jj ⟨vp,oJ,QI,rfl,rfl⟩
  refine⟨To _,by decide,by decide,λkd k0 k1=>⟨To _,by decide,by decide,λlw l0 l1=>?_⟩⟩
  refine⟨by lia,by lia,sz (by rw[iw];lia),?_⟩
  obtain⟨mm,em,mm1,HU⟩:=W8 k0 k1
  refine qR D.int (λa=>0<=a/\a<=60) trivial (λd hd K' k'=>⟨zs,fS em ⟨To _,by lia,by lia,λa a0 a1=>k' (lw+a) ⟨by lia,by lia⟩⟩⟩) λas has hag=>?_
  rw[iw]at has
  refine fS jZ ⟨zs,?_⟩
  rw[Jl]
  refine .drop ⟨True.intro,tf cs,Sr _,True.intro⟩ (Sb (n:=0) hm) ?_
  rw[JB]
  refine kk (1+v) cs (vp.zip as) (by lia) (by lia) AE hc ⟨by rw[List.length_zip];lia,λt ht=>?_⟩
  have z1:=QI t.1 (eL ht).1
  have z2:=hag t.2 (eL ht).2
  exact⟨z1.1,z1.2,z2.1,z2.2⟩
 .cases h
def N9 (F:j4 K "ends" "ends" rQ f fd)(T:lM mg)  : gF P w K mg fJ kW 1 f fd (pA rQ) (iG GK):=by
 refine F.oQ NF (λds μ Kd h=>by unfold GK at h;split at h<;>first|rfl|exact h.elim) (λjl A fT s H E hr=>⟨_,(fW (gA (ot (ot (kD false (a1 fR)) (L5 Cv (vE (m:=false)) (by rfl) T.list bY (a1 (dv 1)))) (kD false (a1 (dv 0)))))),λds μ Kd hm hl h=>?_⟩)
 unfold GK at h
 split at h
 .rename_i n x
  obtain⟨cs,ex,hc,kk⟩:=h
  refine⟨zs,fS ex ⟨by rw[iu];exact sz (by show 1+cs.length<=_;lia),zs,by rw[oq,iu];exact sz (by show 1+cs.length+1<=_;lia),?_⟩⟩
  rw[qo]
  exact .keep kk
 .cases h
def NP (es:ao Int):List.zipWith (λa b=>D.tup [a,b]) (es.map D.int) (L2.cutD (es.map D.int) (some 1) none)=(Bz es).map Vu:=by
 have e:L2.cutD (es.map D.int) (some 1) none=es.tail.map D.int:=by
  unfold L2.cutD
  rw[show(1:Int)=((1:Nat):Int)from rfl,HT.mU,HT.wW,iu]
  cases es with
  |nil=>rfl
  |cons a es=>rw[aU,cu (by lia)];simp[bQ]
 rw[e]
 unfold Bz
 have key:∀(xs ys:ao Int),List.zipWith (λa b=>D.tup [a,b]) (xs.map D.int) (ys.map D.int)=(xs.zip ys).map Vu:=by
  intro xs
  induction xs with
  |nil=>intro ys;simp
  | cons x xs ih =>
   intro ys
   cases ys with
   |nil=>simp
   |cons y ys=>rw[aw,aw,bP,ih,cL,aw];rfl
 exact key es es.tail
def HK (F:j4 K "pieces" "pieces" m6 f fd)(T:lM mg)(nv:sm P w K mg fJ):gF P w K mg fJ kW 2 f fd (pA m6) (iG vU):=by
 refine F.oQ yN (λds μ Kd h=>by unfold vU at h;split at h <;> first | rfl | exact h.elim) (λjl A fT s H E hr=>⟨_,(fO (qS 2 yN.nd (qC nv hr (a2 (dv 0) (dv 1))))
  (fW (gA (zj false rfl (by rfl) T.list (by rfl) T.zip (a2 (dv 2) (mW false (dv 2) (l8 fR) KN)))))),λds μ Kd hm hl h=>?_⟩)
 unfold vU at h
 split at h
 .rename_i n x
  obtain⟨cs,ex,hc,kk⟩:=h
  refine⟨cs,ex,hc,?_⟩
  show Fz _ _ (.lst (List.zipWith (λa b=>D.tup [a,b]) ((fH n cs).map D.int) (L2.cutD ((fH n cs).map D.int) (some 1) none))) μ
  rw[NP]
  exact .keep kk
 .cases h
def HM (F:j4 K "bar_of" "bar_of" m9 f fd)(T:lM mg)(MH:Di P w K mg fJ):gF P w K mg fJ kW 3 f fd (pA m9) (iG AM):=by
 refine F.oQ qB (λds μ Kd h=>by unfold AM at h;split at h <;> first | rfl | exact h.elim) (λjl A fT s H E hr=>⟨_,(fO (m7 bM rfl (jA (qC MH hr (a2 (dv 0) (dv 1)))) ⟨(g9 (n:=2) rfl (fQ (qN 3 qB.nd) (fQ (qN 4 qB.nd) gI))),(iO (gb (f9 3) (fL 3) (gb (f9 4) (fL 4) iP fU) (fN (fL 4) fU))),(iB (fN (fL 3) (fN (fL 4) fU)))⟩
  (fW (jd (jc (nj (W5 rfl) JP (by rfl) T.all PyProof.Rows.boot_all (a1 (Je false (sq (N:=["text","age","first","behind"]) (js:=[none,none,some 3,some 4]) qB (by decide +kernel)) (iO (gb (f9 0) (fL 0) (gb (f9 1) (fL 1) iP fU) (fN (fL 1) fU))) (iB (fN (fL 0) (fN (fL 1) fU))) (jA (dv 2)) (λ_ _ _ nd=>(g9 (n:=2) rfl (fQ (qN 0 nd) (fQ (qN 1 nd) gI)))) (λ_ _ _=>iK) (λ_ _ _=>(vd inC Fv kC (mW false (dv 0) (l8 (dv 2)) (l8 (dv 3))) (by with_unfolding_all rfl)))))))
  (fW (gA (pK (a2 (dv 3) (dv 4)))))
  hG)))
  (fW (gA xM))),λds μ Kd hm hl h=>?_⟩)
 unfold AM at h
 split at h
 .rename_i n x y
  obtain⟨cs,ts,ex,ey,hc,ht,hn,kk⟩:=h
  refine⟨cs,ex,hc,?_⟩
  refine iY (λds ρ gc=>∃(ps:ao (Int×Int)) (a b:aq D),ds=ps.map Vu/\jG (fH n cs) ts=ps.find? (bad ts)/\ρ=[some (.int n),some x,some y,a,b]/\gc=μ) ⟨_,none,none,rfl,rfl,rfl,rfl⟩ ?_ ?_
  .rintro d xG ρ gc ⟨ps,a,b,e,hf,rfl,rfl⟩
   refine⟨trivial,λnx qY=>?_⟩
   cases ps with
   |nil=>cases e
   | cons p ps =>
    cases e
    refine⟨rfl,?_⟩
    refine fS ey ⟨by rw[iu];exact sz (by have:=ht.mZ;lia),?_⟩
    refine iF (tp ey) (λd=>match d with|.tup [.str z,_]=>some (.bl (decide (120∈lp z.cps.toList (some p.1) (some p.2))))|_=>none) (λd hd K' k'=>?_) ?_
    .obtain⟨t,vO,rfl⟩:=List.mem_map.mp hd
     have hz:=ht.ok t vO
     refine⟨rfl,?_⟩
     refine⟨by rw[ku];exact sz (by lia),120,rfl,?_⟩
     rw[UR]
     exact k'
    .refine⟨ts.map λt=>decide (120∈oi t.1 p.1 p.2),?_,?_⟩
     .show some _=_
      rw[List.filterMap_map,a8]
      congr 1
      rw[<- dE]
      rfl
     .have eb:(ts.map λt=>decide (120∈oi t.1 p.1 p.2)).all id=bad ts p:=by unfold bad;rw[List.all_map];rfl
      rw[cx,<- eb]at hf
      refine OE (b:=(ts.map λt=>decide (120∈oi t.1 p.1 p.2)).all id) (λhb=>?_) (λhb=>?_)
      .refine⟨zs,.keep ?_⟩
       rw[hb]at hf
       rw[hf]at kk
       exact kk
      .rw[hb]at hf
       exact qY _ _ ⟨ps,_,_,rfl,hf,rfl,rfl⟩
  .rintro ρ gc ⟨ps,a,b,e,hf,rfl,rfl⟩
   cases ps with
   | nil =>
    rw[hf]at kk
    exact⟨trivial,.keep kk⟩
   |cons p ps=>cases e
 .cases h
def Ce (n:Nat){f:ai}{fd:ag}(F:j4 K "_law_same" "_law_same" s_same f fd)(T:lM mg)(E6:nB P w K mg fJ "_law_same" n ["_law_found","_law_due"] (spS n)):gF P w K mg fJ kW (n+1) f fd ["_law_found","_law_due"] (uo n):=by
 refine F.ok NC (λvs H Q E h=>?_) (λjl A fT s H vs Q E hr h=>?_)
 .unfold uo at h;split at h
  .rfl
  .cases h
 .unfold uo at h;split at h
  .rename_i x y
   obtain⟨d,hd,hw,hx,hy,k⟩:=h
   refine⟨_,(iQ (uW (PW.pt (pw_or (sP (iz rX (by rfl) T.isinstance aO (gv (lT 1) (gv (jO (v:=.ty "bool") rfl T.bool cW rfl) iR)))) (pw_or1 (sP (iz rX (by rfl) T.isinstance aO (gv (lT 0) (gv (jO (v:=.ty "bool") rfl T.bool cW rfl) iR)))))))
   (lF (og (vH (iz rX (by rfl) T.isinstance aO (gv (lT 1) (gv (jO (v:=.ty "bool") rfl T.bool cW rfl) iR))) (vH (iz rX (by rfl) T.isinstance aO (gv (lT 0) (gv (jO (v:=.ty "bool") rfl T.bool cW rfl) iR))) (D1 (sT eqN (lT 0) (lT 1) (iS _)))))))
   nN)
   (iQ (uW (PW.pt (pw_or (sP (iz rX (by rfl) T.isinstance aO (gv (lT 1) (gv (jO (v:=.ty "list") rfl T.list bY rfl) iR)))) (pw_or1 (sP (iz rX (by rfl) T.isinstance aO (gv (lT 1) (gv (jO (v:=.ty "tuple") rfl T.tuple cS rfl) iR)))))))
   (iQ (uW (PW.pt (pw_or (nM Cq (iz rX (by rfl) T.isinstance aO (gv (lT 1) (gv (jO (v:=.ty "list") rfl T.list bY rfl) iR))) (iz rX (by rfl) T.isinstance aO (gv (lT 0) (gv (jO (v:=.ty "list") rfl T.list bY rfl) iR))) (iS _)) (pw_or1 (nM Cq (iz rX (by rfl) T.isinstance aO (gv (lT 1) (gv (jO (v:=.ty "tuple") rfl T.tuple cS rfl) iR))) (iz rX (by rfl) T.isinstance aO (gv (lT 0) (gv (jO (v:=.ty "tuple") rfl T.tuple cS rfl) iR))) (iS _)))))
   (lF (og Kt))
   nN)
   (lF (og (vH (sT X5 (iz Ot (by rfl) T.len PySem.boot_len (gv (lT 0) iR)) (iz Ot (by rfl) T.len PySem.boot_len (gv (lT 1) iR)) (iS _)) (D1 (iz (W5 rfl) (by rfl) T.all PyProof.Rows.boot_all (gv (FQ (EM (XN:=["_law_found","_law_due"]) (xsc:=(fP s_same)) (N:=["_law_one","_law_other"]) (js:=[none,none]) (by decide +kernel)) rfl (RV rfl T.zip (gv (lT 0) (gv (lT 1) iR))) (λ_ _ _=>(g9 (n:=2) rfl (fQ (vG (i:=0) (show List.Nodup (["_law_one","_law_other"]:ao Str) by decide +kernel) rfl (by first|exact Or.inl rfl|exact Or.inr rfl)) (fQ (vG (i:=1) (show List.Nodup (["_law_one","_law_other"]:ao Str) by decide +kernel) rfl (by first|exact Or.inl rfl|exact Or.inr rfl)) gI)))) (λ_ _ _=>FJ) (λ_ _ _=>(w5 E6 (hr.mono (by first|decide|exact ar _|lia)) rfl (gv (lT 0) (gv (lT 1) iR))))) iR)))))))
   nN)
   (iQ (uW (PW.pt (pw_or (nM Cq (iz rX (by rfl) T.isinstance aO (gv (lT 1) (gv (jO (v:=.ty "str") rfl T.str PyProof.Rows.boot_str rfl) iR))) (iz rX (by rfl) T.isinstance aO (gv (lT 0) (gv (jO (v:=.ty "str") rfl T.str PyProof.Rows.boot_str rfl) iR))) (iS _)) (pw_or1 (nM Cq (iz rX (by rfl) T.isinstance aO (gv (lT 1) (gv (jO (v:=.ty "int") rfl T.int b7 rfl) iR))) (iz rX (by rfl) T.isinstance aO (gv (lT 0) (gv (jO (v:=.ty "int") rfl T.int b7 rfl) iR))) (iS _)))))
   (lF (og Kt))
   nN)
   (lF (og (sT eqN (lT 0) (lT 1) (iS _))))))),?_⟩
   cases d with
   | bl b =>
    obtain rfl:x=.bl b:=hx
    obtain rfl:y=.bl b:=hy
    refine⟨_,true,kG.bl b,jv K _,_,true,kG.bl b,jv K _,_,true,kG.bl b,jv K _,?_⟩
    show Q (.bl (decide (b=b))) H
    rw[aI rfl]
    exact k H (iI.refl H)
   | int i =>
    obtain rfl:x=.int i:=hx
    obtain rfl:y=.int i:=hy
    refine⟨_,false,.int i,rfl,_,false,.int i,rfl,_,false,.int i,rfl,_,false,.int i,rfl,_,false,.int i,rfl,_,false,.int i,rfl,_,true,.int i,jv K _,_,true,.int i,jv K _,?_⟩
    show Q (.bl (decide (i=i))) H
    rw[aI rfl]
    exact k H (iI.refl H)
   | str z =>
    obtain rfl:x=.str z:=hx
    obtain rfl:y=.str z:=hy
    refine⟨_,false,.str z,rfl,_,false,.str z,rfl,_,false,.str z,rfl,_,false,.str z,rfl,_,true,.str z,jv K _,_,true,.str z,jv K _,_,false,.str z,rfl,_,false,.str z,rfl,?_⟩
    show Q (.bl (decide (z=z))) H
    rw[aI rfl]
    exact k H (iI.refl H)
   | iq =>
    obtain rfl:x=.iq:=hx
    obtain rfl:y=.iq:=hy
    refine⟨_,false,.iq,rfl,_,false,.iq,rfl,_,false,.iq,rfl,_,false,.iq,rfl,_,false,.iq,rfl,_,false,.iq,rfl,_,false,.iq,rfl,_,false,.iq,rfl,?_⟩
    exact k H (iI.refl H)
   | lst ds =>
    obtain⟨p,vs,rfl,hp,qp⟩:=hx
    obtain⟨q,ws,rfl,hq,qq⟩:=hy
    obtain⟨m,rfl⟩:∃ m,n=m+1:=⟨n - 1,by unfold dep at hd;lia⟩
    have Jd:yt ds<=m:=by unfold dep at hd;lia
    have hw1:ds.length<sizeLine:=by unfold MM at hw;lia
    have Zg:x8 ds<sizeLine:=by unfold MM at hw;lia
    have len:vs.length=ws.length:=by rw[qp.len,qq.len]
    refine⟨_,false,kG.lst hq,rfl,_,false,kG.lst hp,rfl,_,true,kG.lst hq,jv K _,_,true,kG.lst hq,jv K _,_,true,kG.lst hp,jv K _,_,false,kG.lst hq,rfl,_,false,kG.lst hp,rfl,?_⟩
    refine⟨_,.inl hp,_,.inl hq,?_⟩
    refine pI (λ_=>?_) (λh=>(h (by rw[len])).elim)
    refine⟨false,_,_,hp,hq,?_⟩
    refine G6 len (λi ys H'=>ys=List.replicate i (V.bl true)/\iI H H') ⟨rfl,iI.refl H⟩ (λi ys H' h=>⟨h.2 _ _ hp,h.2 _ _ hq⟩) ?_ ?_
    .rintro i x' y' ys H' T' hi ex ey ⟨rfl,S⟩ hT
     refine⟨_,gh,rfl,Ext.Vy,?_⟩
     obtain⟨d1,e1,i1⟩:=qp.get ex
     obtain⟨d2,e2,i2⟩:=qq.get ey
     rw[e1]at e2;cases e2
     have S2:iI H (upd H' T' (.tup [x',y'])):=S.trans (iI.upd hT)
     refine⟨d1,aW (xK e1) Jd,cq (wz e1) Zg,i1.mono S2 _ _,i2.mono S2 _ _,λH3 S3=>?_⟩
     exact cnx hi (by rw[aZ];have:=qp.len;lia) ⟨by rw[List.replicate_succ'],S2.trans S3⟩
    .rintro ys H' ⟨rfl,S⟩ D hD
     refine⟨List.replicate vs.length true,by rw[gh,List.map_replicate],?_⟩
     have e:(List.replicate vs.length true).all id=true:=by rw[cY];intro b hb;rw[(List.mem_replicate.mp hb).2];rfl
     show Q (.bl ((List.replicate vs.length true).all id)) (upd H' D (.lst (List.replicate vs.length (V.bl true))))
     rw[e]
     exact k _ (S.trans (iI.upd hD))
   | tup ds =>
    obtain⟨p,vs,rfl,hp,qp⟩:=hx
    obtain⟨q,ws,rfl,hq,qq⟩:=hy
    obtain⟨m,rfl⟩:∃ m,n=m+1:=⟨n - 1,by unfold dep at hd;lia⟩
    have Jd:yt ds<=m:=by unfold dep at hd;lia
    have hw1:ds.length<sizeLine:=by unfold MM at hw;lia
    have Zg:x8 ds<sizeLine:=by unfold MM at hw;lia
    have len:vs.length=ws.length:=by rw[qp.len,qq.len]
    refine⟨_,false,kG.tup hq,rfl,_,false,kG.tup hp,rfl,_,false,kG.tup hq,rfl,_,true,kG.tup hq,jv K _,_,false,kG.tup hq,rfl,_,false,kG.tup hp,rfl,_,true,kG.tup hq,jv K _,_,true,kG.tup hp,jv K _,?_⟩
    refine⟨_,.inr hp,_,.inr hq,?_⟩
    refine pI (λ_=>?_) (λh=>(h (by rw[len])).elim)
    refine⟨true,_,_,hp,hq,?_⟩
    refine G6 len (λi ys H'=>ys=List.replicate i (V.bl true)/\iI H H') ⟨rfl,iI.refl H⟩ (λi ys H' h=>⟨h.2 _ _ hp,h.2 _ _ hq⟩) ?_ ?_
    .rintro i x' y' ys H' T' hi ex ey ⟨rfl,S⟩ hT
     refine⟨_,gh,rfl,Ext.Vy,?_⟩
     obtain⟨d1,e1,i1⟩:=qp.get ex
     obtain⟨d2,e2,i2⟩:=qq.get ey
     rw[e1]at e2;cases e2
     have S2:iI H (upd H' T' (.tup [x',y'])):=S.trans (iI.upd hT)
     refine⟨d1,aW (xK e1) Jd,cq (wz e1) Zg,i1.mono S2 _ _,i2.mono S2 _ _,λH3 S3=>?_⟩
     exact cnx hi (by rw[aZ];have:=qp.len;lia) ⟨by rw[List.replicate_succ'],S2.trans S3⟩
    .rintro ys H' ⟨rfl,S⟩ D hD
     refine⟨List.replicate vs.length true,by rw[gh,List.map_replicate],?_⟩
     have e:(List.replicate vs.length true).all id=true:=by rw[cY];intro b hb;rw[(List.mem_replicate.mp hb).2];rfl
     show Q (.bl ((List.replicate vs.length true).all id)) (upd H' D (.lst (List.replicate vs.length (V.bl true))))
     rw[e]
     exact k _ (S.trans (iI.upd hD))
  .cases h
def FT {f:ai}{fd:ag}(F:j4 K "_law_same" "_law_same" s_same f fd)(T:lM mg)(hm:mg "_law_same"=some (.ref f))(hk:W.keepIn K (.ref f)=true)(hb:Binds K fd ["_law_found","_law_due"] []):∀ n,gF P w K mg fJ kW (n+1) f fd ["_law_found","_law_due"] (uo n)
 |0=>Ce 0 F T ⟨f,fd,⟨λ_ _ _ _ h=>h.elim,λ_ _ _ _ _ _ _ _ _ _ _ _ _ h=>h.elim⟩,hm,hk,hb⟩
 |n+1=>Ce (n+1) F T ⟨f,fd,FT F T hm hk hb n,hm,hk,hb⟩
def HL (F:j4 K "_law_barred" "_law_barred" m8 f fd)(T:lM mg)  : gF P w K mg fJ kW 1 f fd (pA m8) (iG v7):=by
 refine F.oQ qA (λds μ Kd h=>by unfold v7 at h;split at h <;> first | rfl | exact h.elim) (λjl A fT s H E hr=>⟨_,(fO (m7 bM rfl (iX rfl T.range (a1 (G3 (CW T (dv 0)) fR))) (qT 2 qA.nd)
  (fO (qS 3 qA.nd (pU mulC p7 kC (G3 (jo (dv 0) (ot (dv 2) fR)) (jo (dv 0) (dv 2)))))
  (fW (jd (uU (jc (nj (anyC rfl) JP (by rfl) T.any PyProof.Rows.boot_any (a1 (Je false (sq (N:=["_law_text","_law_old","_law_border","_law_k","_law_part"]) (js:=[none,none,some 0,some 2,some 3]) qA (by decide +kernel)) (iO (gb (f9 0) (fL 0) (gb (f9 1) (fL 1) iP fU) (fN (fL 1) fU))) (iB (fN (fL 0) (fN (fL 1) fU))) (jA (dv 1)) (λ_ _ _ nd=>(g9 (n:=2) rfl (fQ (qN 0 nd) (fQ (qN 1 nd) gI)))) (λ_ _ _=>iK) (λ_ _ _=>(vd X5 wK (mW false (dv 0) (l8 (jo (dv 2) (dv 3))) (l8 (jo (dv 2) (ot (dv 3) fR)))) (dv 4) (iS _))))))))
  (fW (gA (pK (a2 (jo (dv 0) (dv 2)) (jo (dv 0) (ot (dv 2) fR))))))
  hG))))
  (fW (gA xM))),λds μ Kd hm hl h=>?_⟩)
 unfold v7 at h
 split at h
 .rename_i bd y
  obtain⟨n,cs,ts,rfl,ey,hc,h1,h2,hcu,ht,kk⟩:=h
  obtain⟨es,he⟩:∃ es,es=fH n cs:=⟨_,rfl⟩
  rw[<- he]at kk ⊢
  have Zh:es.Pairwise (·<·):=by rw[he];exact iD h1 hcu
  have xl:∀ x∈es,0<=x/\x<=n:=λx hx=>jw h1 hcu (by rw[<- he];exact hx)
  have oS:es.length=cs.length+2:=by rw[he,gy]
  have vq:((es.map D.int).length:Int)=(es.length:Nat):=by rw[iu]
  refine⟨by rw[vq];lia,by rw[vq];lia,?_⟩
  have hm1:(((es.map D.int).length:Int) - 1).toNat=(Bz es).length:=by unfold Bz;rw[vq,List.length_zip,List.length_tail];lia
  rw[hm1]
  refine iY (λds ρ gc=>∃(i:Nat) (a b:aq D),ds=(lP 0 (Bz es).length).drop i/\jG es ts=((Bz es).drop i).find? (bad ts)/\ρ=[some (.lst (es.map D.int)),some y,a,b]/\gc=μ) ⟨0,none,none,rfl,rfl,rfl,rfl⟩ ?_ ?_
  .rintro d xG ρ gc ⟨i,a,b,e,hf,rfl,rfl⟩
   refine⟨trivial,λnx qY=>?_⟩
   have hi:i<(Bz es).length:=by
    by_cases q:i<(Bz es).length
    .exact q
    .rw[bz (by rw[iw];lia)]at e;cases e
   rw[bu (by rw[iw];exact hi)]at e
   cases e
   have ed:(lP 0 (Bz es).length)[i]'(by rw[iw];exact hi)=.int i:=by unfold lP;simp
   rw[ed]
   have hlz:(Bz es).length=es.length - 1:=by unfold Bz;rw[List.length_zip,List.length_tail];lia
   obtain⟨u,hu⟩:∃ u,es[i]?=some u:=⟨es[i]'(by lia),jk _⟩
   obtain⟨v,hv⟩:∃ v,es[i+1]?=some v:=⟨es[i+1]'(by lia),jk _⟩
   have hp:(Bz es)[i]=(u,v):=by
    have q:=FK (es:=es) (i:=i)
    rw[hu,hv,jk hi]at q
    exact aM q
   have huv:=lB Zh hu hv (bL _)
   have Zi:=xl u (mw hu)
   have Ll:=xl v (mw hv)
   have e1:lO (es.map D.int) (i:Int)=some (.int u):=j0 hu
   have e2:lO (es.map D.int) ((i:Int)+1)=some (.int v):=j0 (i:=i+1) hv
   refine fS e2 (fS e1 ⟨111,rfl,by lia,by lia,?_⟩)
   refine fS ey ⟨by rw[iu];exact sz (by have:=ht.mZ;lia),?_⟩
   refine kA (tp ey) mM (λt=>.bl (!decide (120∈oi t.1 u v))) (λt vO K' k'=>?_) ?_
   .have hz:=ht.ok t vO
    refine⟨rfl,?_⟩
    refine fS e1 (fS e2 ⟨by rw[ku];exact sz (by lia),?_⟩)
    show K' (some (.bl (false != decide (txt (oi t.1 u v)=txt (List.replicate (v - u).toNat 111))))) gc
    rw[UR,IE hz.2.1 Zi.1 (by lia) (by lia)]
    exact k'
   .refine⟨ts.map λt=>!decide (120∈oi t.1 u v),by show some _=_;rw[a8];rfl,?_⟩
    .have eb:(!(ts.map λt=>!decide (120∈oi t.1 u v)).any id)=bad ts (u,v):=by
      unfold bad
      rw[d7,List.not_any_eq_all_not]
      congr 1
      funext t
      simp
     rw[bu hi,cx,hp,<- eb]at hf
     refine OE (b:=!(ts.map λt=>!decide (120∈oi t.1 u v)).any id) (λhb=>?_) (λhb=>?_)
     .refine fS e1 (fS e2 ⟨zs,.keep ?_⟩)
      rw[hb]at hf
      rw[hf]at kk
      exact kk
     .rw[hb]at hf
      exact qY _ _ ⟨i+1,_,_,rfl,hf,rfl,rfl⟩
  .rintro ρ gc ⟨i,a,b,e,hf,rfl,rfl⟩
   refine⟨trivial,.keep ?_⟩
   have hi:(Bz es).length<=i:=by
    have:=cA List.length e
    rw[bA,iw]at this
    simp at this
    lia
   rw[bz hi]at hf
   rw[hf]at kk
   exact kk
 .cases h
def Ck (F:j4 K "farthest" "farthest" k8 f fd)(T:lM mg)(nv:sm P w K mg fJ):gF P w K mg fJ kW 2 f fd (pA k8) (iG qM):=by
 refine F.oQ nJ (λds μ Kd h=>by unfold qM at h;split at h <;> first | rfl | exact h.elim) (λjl A fT s H E hr=>⟨_,(fO (qS 4 nJ.nd (AX dn PySem.F.slot_str_find PySem.F.type_str_find Wo Nv (dv 2) (a2 kC (dv 3))))
  (fO (qS 5 nJ.nd (O5 (Vs (dv 4) fR) (dv 0) (dv 4)))
  (fW (gA (nj (Oj rfl) vD (by rfl) T.max ck (a1 (ot (kD false (a1 (dv 3))) (CY false (sq (N:=["place","clean_to"]) (js:=[none,some 5]) nJ (by decide +kernel)) (jA (qC nv hr (a2 (dv 0) (dv 1)))) (λ_ _ _ nd=>(qN 0 nd)) (λ_ _ _=>(p5 (MQ (dv 0) (dv 1)))) (λ_ _ _=>(dv 0)))))))))),λds μ Kd hm hl h=>?_⟩)
 unfold qM at h
 split at h
 .rename_i n x z e
  obtain⟨cs,ex,hc,hn,Gm,ho,h0,h1,Td,kk⟩:=h
  have len:(z.cps.toList.length:Int)=n:=by rw[<- hn];simp[Str.length]
  refine⟨rfl,120,rfl,h0,by lia,λr hr=>?_⟩
  obtain⟨q1,q2⟩:=hr.cl ho (by lia)
  have oS:(fH n cs).length=cs.length+2:=gy n cs
  refine kL (λZn=>?_) (λZn=>?_)
  all_goals
   refine⟨zs,cs,ex,hc,by rw[iu];exact sz (by lia),?_⟩
  .have ct:=q1 Zn
   refine iF trivial (rA λi=>decide (i<=n)) (λd hd K' k'=>?_) ?_
   .obtain⟨i,hi,rfl⟩:=List.mem_map.mp hd
    refine kL (λg=>?_) (λg=>?_)
    .exact vK (aI g) k'
    .exact tq (by simp[g]) k'
   .rw[tK]
    have fl:=c5 (λi=>decide (i<=n)) (fH n cs)
    refine⟨by rw[iu];exact sz (by show 1+_<=_;lia),?_⟩
    refine⟨e::(fH n cs).filter λi=>decide (i<=n),rfl,by simp,λm a b=>.keep ?_⟩
    rw[EA ho h0 (by lia) Td (m:=m) ⟨_,ct,?_,?_,?_⟩]
    .exact kk
    .rcases List.mem_cons.mp a with q | q
     .rw[q];exact Td
     .exact(List.mem_filter.mp q).1
    .rcases List.mem_cons.mp a with q | q
     .lia
     .have:=cn (List.mem_filter.mp q).2;lia
    .exact λy hy Il=>b y (nF _ (List.mem_filter.mpr ⟨hy,aI (by lia)⟩))
  .obtain⟨ct,hrt⟩:=q2 Zn
   refine iF trivial (rA λi=>decide (i<=r)) (λd hd K' k'=>?_) ?_
   .obtain⟨i,hi,rfl⟩:=List.mem_map.mp hd
    refine kL (λg=>?_) (λg=>?_)
    .exact vK (aI g) k'
    .exact tq (by simp[g]) k'
   .rw[tK]
    have fl:=c5 (λi=>decide (i<=r)) (fH n cs)
    refine⟨by rw[iu];exact sz (by show 1+_<=_;lia),?_⟩
    refine⟨e::(fH n cs).filter λi=>decide (i<=r),rfl,by simp,λm a b=>.keep ?_⟩
    rw[EA ho h0 (by lia) Td (m:=m) ⟨_,ct,?_,?_,?_⟩]
    .exact kk
    .rcases List.mem_cons.mp a with q | q
     .rw[q];exact Td
     .exact(List.mem_filter.mp q).1
    .rcases List.mem_cons.mp a with q | q
     .have:=ct.1;lia
     .have:=cn (List.mem_filter.mp q).2;lia
    .exact λy hy Il=>b y (nF _ (List.mem_filter.mpr ⟨hy,aI (by lia)⟩))
 .cases h
def Ai (F:j4 K "take_rows" "take_rows" jI f fd)(T:lM mg)(nv:sm P w K mg fJ)(E8:xS P w K mg fJ):gF P w K mg fJ kW 3 f fd (pA jI) (iG qL):=by
 refine F.oQ oZ (λds μ Kd h=>by unfold qL at h;split at h <;> first | rfl | exact h.elim) (λjl A fT s H E hr=>⟨_,(fO (qS 3 oZ.nd (qC nv hr (a2 (dv 0) (dv 1))))
  (fW (gA (Je false (sq (N:=["text","age","places","size","cuts"]) (js:=[none,none,some 3,some 0,some 1]) oZ (by decide +kernel)) (iO (gb (f9 0) (fL 0) (gb (f9 1) (fL 1) iP fU) (fN (fL 1) fU))) (iB (fN (fL 0) (fN (fL 1) fU))) (jA (dv 2)) (λ_ _ _ nd=>(g9 (n:=2) rfl (fQ (qN 0 nd) (fQ (qN 1 nd) gI)))) (λ_ _ _=>iK) (λ_ _ _=>(pK (a2 (dv 1) (CY false (wg (xsc:=(fP jI)) (N:=["end","size","cuts","text"]) (js:=[none,some 3,some 4,some 0]) rfl (by decide +kernel)) (jA (dv 2)) (λ_ _ _ nd=>(qN 0 nd)) (λ_ _ _=>iK) (λ_ _ _=>(qC E8 hr (gz (dv 1) (gz (dv 2) (gz (dv 3) (gz (dv 0) kq)))))))))))))),λds μ Kd hm hl h=>?_⟩)
 unfold qL at h
 split at h
 .rename_i n x y
  obtain⟨cs,ts,ex,ey,S,kk⟩:=h
  have oS:(fH n cs).length=cs.length+2:=gy n cs
  have mZ:=S.mZ
  have ft:=S.takes.mZ
  refine⟨cs,ex,S.mZ,?_⟩
  refine fS ey ⟨by rw[iu];exact sz (by lia),?_⟩
  refine iF (tp ey) (K2 (mE (fH n cs))) (λd hd K' k'=>?_) ?_
  .obtain⟨t,ht,rfl⟩:=List.mem_map.mp hd
   have hz:=S.takes.ok t ht
   refine⟨rfl,by rw[iu];exact sz (by lia),?_⟩
   refine iF trivial (Om λe=>.int (jE (fH n cs) t.1 e)) (λd hd K'' Y7=>?_) ?_
   .obtain⟨e,he,rfl⟩:=List.mem_map.mp hd
    have xl:=jw S.n1 S.jD he
    exact⟨cs,ex,S.mZ,by rw[ku];exact hz.1,S.n2,by rw[sD];exact hz.2.1,xl.1,xl.2,he,by rw[sD];exact Y7⟩
   .refine⟨zs,?_⟩
    rw[Gu,show(fH n cs).map (λe=>D.int (jE (fH n cs) t.1 e))=(yf (fH n cs) t).map D.int by unfold yf;rw[a8];rfl]
    exact k'
  .refine .keep ?_
   rw[vS]
   exact kk
 .cases h
def Am (F:j4 K "clean_row" "clean_row" ki f fd)(T:lM mg)  : gF P w K mg fJ kW 1 f fd (pA ki) (iG qP):=by
 refine F.oQ ky (λds μ Kd h=>by unfold qP at h;split at h <;> first | rfl | exact h.elim) (λjl A fT s H E hr=>⟨_,(fO (qS 3 ky.nd (L5 Cv (vE (m:=false)) (by rfl) T.list bY (a1 (dv 0))))
  (fO (m7 bM rfl (jA (dv 1)) ⟨(g9 (n:=2) rfl (fQ (qN 4 ky.nd) (fQ (qN 5 ky.nd) gI))),(iO (gb (f9 4) (fL 4) (gb (f9 5) (fL 5) iP fU) (fN (fL 5) fU))),(iB (fN (fL 4) (fN (fL 5) fU)))⟩
  (fW (jd (MQ (dv 4) (dv 2))
  (fW (YO 3 false ky.nd (sq (N:=["far","other"]) (js:=[none,none]) ky (by decide +kernel)) (iO (gb (f9 0) (fL 0) (gb (f9 1) (fL 1) iP fU) (fN (fL 1) fU))) (iB (fN (fL 0) (fN (fL 1) fU))) (Lj rfl T.zip (a2 (dv 3) (dv 5))) (λ_ _ _ nd=>(g9 (n:=2) rfl (fQ (qN 0 nd) (fQ (qN 1 nd) gI)))) (λ_ _ _=>iK) (λ_ _ _=>(nj (Ol rfl) zQ (by rfl) T.max ck (a2 (dv 0) (dv 1))))))
  hG)))
  (fW (gA (dv 3))))),λds μ Kd hm hl h=>?_⟩)
 unfold qP at h
 split at h
 .rename_i x r a
  obtain⟨es,ts,ex,rfl,oS,XS,kk⟩:=h
  refine fS ex ?_
  refine iY (λds ρ gc=>∃(us:ao Tk) (tl:ao Int) (u v:aq D),ds=us.map (mE es)/\us.foldl (sf es a) tl=jj es ts a/\tl.length<=2000/\ρ=[some x,some (.lst (ts.map (mE es))),some (.int a),some (.lst (tl.map D.int)),u,v]/\gc=μ) ⟨ts,es,none,none,rfl,Mi es ts a,oS,rfl,rfl⟩ ?_ ?_
  .rintro d xG ρ gc ⟨us,tl,u,v,e,hf,oJ,rfl,rfl⟩
   refine⟨trivial,λnx qY=>?_⟩
   cases us with
   |nil=>cases e
   | cons t us =>
    cases e
    refine⟨rfl,?_⟩
    rw[cJ]at hf
    refine kL (λg=>?_) (λg=>?_)
    .unfold sf at hf
     rw[aB g]at hf
     have lr:(yf es t).length=es.length:=by unfold yf;rw[iu]
     refine⟨by rw[bO,iu,iu];exact sz (by lia),?_⟩
     refine iF ⟨trivial,trivial⟩ (HV λa b=>.int (max a b)) (λd hd K' k'=>?_) ?_
     .obtain⟨p,hp,q,hq,rfl⟩:=Fc hd
      exact⟨rfl,k'⟩
     .rw[Gs,<- DB D.int max]
      exact qY _ _ ⟨us,List.zipWith max tl (yf es t),_,_,rfl,hf,by rw[bO];lia,rfl,rfl⟩
    .unfold sf at hf
     rw[aC g]at hf
     exact qY _ _ ⟨us,tl,_,_,rfl,hf,oJ,rfl,rfl⟩
  .rintro ρ gc ⟨us,tl,u,v,e,hf,oJ,rfl,rfl⟩
   cases us with
   | nil =>
    refine⟨trivial,.keep ?_⟩
    rw[show jj es ts a=tl from hf.symm]at kk
    exact kk
   |cons t us=>cases e
 .cases h
def yh (F:j4 K "next_reach" "next_reach" jK f fd)(T:lM mg)(qy:qu P w K mg fJ):gF P w K mg fJ kW 2 f fd (pA jK) (iG AJ):=by
 refine F.oQ kH (λds μ Kd h=>by unfold AJ at h;split at h <;> first | rfl | exact h.elim) (λjl A fT s H E hr=>⟨_,(fO (qS 4 kH.nd (O7 (sq (N:=["at","end"]) (js:=[none,none]) kH (by decide +kernel)) rfl (iO (gb (f9 0) (fL 0) (gb (f9 1) (fL 1) iP fU) (fN (fL 1) fU))) (iB (fN (fL 0) (fN (fL 1) fU))) rfl (Az rfl T.enumerate (a1 (dv 0))) (λ_ _ _=>(g9 (n:=2) rfl (fQ (qN 0 (show List.Nodup (["at","end"]:ao Str) by decide +kernel)) (fQ (qN 1 (show List.Nodup (["at","end"]:ao Str) by decide +kernel)) gI)))) (λ_ _ _=>iK) (λ_ _ _=>(dv 1)) (λ_ _ _=>(dv 0))))
  (fO (qS 5 kH.nd (qC qy hr (a3 (dv 0) (dv 1) (dv 3))))
  (fW (gA (Je true (sq (N:=["far","middle","before","where"]) (js:=[none,none,some 2,some 4]) kH (by decide +kernel)) (iO (gb (f9 0) (fL 0) (gb (f9 1) (fL 1) iP fU) (fN (fL 1) fU))) (iB (fN (fL 0) (fN (fL 1) fU))) (Lj rfl T.zip (a2 (dv 5) (dv 2))) (λ_ _ _ nd=>(g9 (n:=2) rfl (fQ (qN 0 nd) (fQ (qN 1 nd) gI)))) (λ_ _ _=>iK) (λ_ _ _=>(nj (Ol rfl) zQ (by rfl) T.max ck (a2 (dv 0) (jo (dv 2) (GZ (qm hr) (dv 3) (dv 1) (λ_ _=>rfl))))))))))),λds μ Kd hm hl h=>?_⟩)
 unfold AJ at h
 split at h
 .rename_i x r y a
  obtain⟨es,ts,bf,ex,rfl,oS,XS,nd,ey,ok,kk⟩:=h
  have lb:=ok.len
  refine fS ex ⟨by rw[m4,iu];exact sz (by lia),?_⟩
  rw[LR]
  refine BM (λm=>tp (As ex)) (λi e gc K' k'=>⟨rfl,k'⟩) es 0 [] nd (λ_ h=>nomatch h) ?_
  refine⟨es,ts,ex,rfl,oS,XS,?_⟩
  refine fS ey ⟨by rw[bO,iu,iu];exact sz (by lia),?_⟩
  refine iF ⟨trivial,tp ey⟩ (HV λf m=>.int (max f (rowAt es bf m))) (λd hd K' k'=>?_) ?_
  .obtain⟨f,hf,m,hmm,rfl⟩:=Fc hd
   refine⟨rfl,?_⟩
   have hme:=ok.mem m hmm
   have e1:uG (((rF 0 es).map (·.1)).zip ((rF 0 es).map (·.2))) (kI m)=some (.int (es.idxOf m:Nat)):=by
    rw[zip_parts,yB hme,Nat.zero_add]
   have e2:lO (bf.map D.int) ((es.idxOf m:Nat):Int)=some (.int (rowAt es bf m)):=j0 (rT ok hme)
   exact fS e1 (Ma ey e2 k')
  .rw[Gs,show List.zipWith (λf m=>D.int (max f (rowAt es bf m))) (jj es ts a) bf=(lH es ts bf a).map D.int from(DB D.int (λf m=>max f (rowAt es bf m)) _ _).symm]
   exact .keep kk
 .cases h
def Cd (F:j4 K "youngest" "youngest" k7 f fd)(T:lM mg)  : gF P w K mg fJ kW 1 f fd (pA k7) (iG qK):=by
 refine F.oQ uV (λds μ Kd h=>by unfold qK at h;split at h<;>first|rfl|exact h.elim) (λjl A fT s H E hr=>⟨_,(fW (gA (TM rfl (by rfl) T.min (Je false (sq (N:=["text","age"]) (js:=[none,none]) uV (by decide +kernel)) (iO (gb (f9 0) (fL 0) (gb (f9 1) (fL 1) iP fU) (fN (fL 1) fU))) (iB (fN (fL 0) (fN (fL 1) fU))) (jA (dv 0)) (λ_ _ _ nd=>(g9 (n:=2) rfl (fQ (qN 0 nd) (fQ (qN 1 nd) gI)))) (λ_ _ _=>iK) (λ_ _ _=>(dv 1))) fR))),λds μ Kd hm hl h=>?_⟩)
 unfold qK at h
 split at h
 .rename_i y
  obtain⟨ts,ey,XS,kk⟩:=h
  refine fS ey ⟨by rw[iu];exact sz (by lia),?_⟩
  refine iF (tp ey) (K2 λt=>.int t.2) (λd hd K' k'=>?_) ?_
  .obtain⟨t,ht,rfl⟩:=List.mem_map.mp hd
   exact⟨rfl,k'⟩
  .rw[vS]
   refine⟨ts.map (·.2),by unfold lv;rw[a8];rfl,?_⟩
   split
   .rename_i e
    refine .keep ?_
    have:kX ts=0:=by unfold kX;rw[e]
    rw[this]at kk
    exact kk
   .exact λm a b=>.keep (by rw[Jt a b];exact kk)
 .cases h
def Sh (F:j4 K "_law_far" "_law_far" wU f fd)(T:lM mg)  : gF P w K mg fJ kW 1 f fd (pA wU) (iG OT):=by
 refine F.oQ z6 (λds μ Kd h=>by unfold OT at h;split at h <;> first | rfl | exact h.elim) (λjl A fT s H E hr=>⟨_,(fO (qS 3 z6.nd (dv 2))
  (fO (FA bM (PW.pt (BS (Vs (dv 3) (CW T (dv 1))) (wD (Kc (jo (dv 1) (dv 3)) kC))))
  (fW (BY (i:=3) z6.nd rfl lo fR tx wJ)))
  (fW (gA (nj (Oj rfl) vD (by rfl) T.max ck (a1 (CY false (sq (N:=["_law_one","_law_end","_law_at"]) (js:=[none,some 2,some 3]) z6 (by decide +kernel)) (jA (dv 0)) (λ_ _ _ nd=>(qN 0 nd)) (λ_ _ _=>(p5 (PW.pt (BS (MQ (dv 1) (dv 0)) (wD (MQ (dv 0) (dv 2))))))) (λ_ _ _=>(dv 0))))))))),λds μ Kd hm hl h=>?_⟩)
 unfold OT at h
 split at h
 .rename_i b z e
  obtain⟨es,rfl,oS,hz,ho,h0,h1,he,kk⟩:=h
  have len:z.cps.toList.length=z.length:=by simp[Str.length]
  have ct:=uK ho (e:=e.toNat) (by lia)
  refine⟨λm ρ gc=>∃ at_:Nat,m=sh z.cps.toList e.toNat - at_/\e.toNat<=at_/\at_<=sh z.cps.toList e.toNat/\ρ=[some (.lst (es.map D.int)),some (.str z),some (.int e),some (.int (at_:Int))]/\gc=μ,⟨_,e.toNat,rfl,ar _,ct.1,by rw[cI h0];rfl,rfl⟩,?_⟩
  rintro m ρ gc ⟨at_,rfl,g1,g2,rfl,rfl⟩
  have test:∀ K:Bool->MS->Prop,K (decide (at_<sh z.cps.toList e.toNat)) gc->GV (pB (wc (vA λi j=>D.bl (decide (i<j))) (vz 3) (ve OS (tU (vz 1) ID))))
   (pB (wc (Md false) (wc WN (vz 1) (vz 3)) (dC (D.str (Str.ofString "o")))))
   [some (D.lst (List.map D.int es)),some (D.str z),some (D.int e),some (D.int ↑at_)] gc K:=by
   intro K k
   refine⟨sz (by lia),kL (c:=(at_:Int)<(z.length:Nat)) (λmP=>?_) (λmP=>?_)⟩
   .have hat:at_<z.cps.toList.length:=by lia
    have ga:z.cps.toList[at_]?=some (z.cps.toList[at_]):=jk hat
    have ea:lO z.cps.toList (at_:Int)=some (z.cps.toList[at_]):=jQ ga
    refine⟨sz (by lia),fS ea ?_⟩
    by_cases q:at_<sh z.cps.toList e.toNat
    .have:=ct.2.2.1 at_ g1 q
     rw[ga]at this
     rw[aM this]
     rw[aI q]at k
     exact k
    .have eat:sh z.cps.toList e.toNat=at_:=by lia
     have:=ct.2.2.2
     rw[eat,ga]at this
     rcases this with z'|z'
     .lia
     .rw[aM z']
      rw[aV q]at k
      exact k
   .rw[aV (by have:=ct.2.1;lia)]at k
    exact k
  refine test _ ?_
  refine kL (λmP=>?_) (λmP=>?_)
  .exact⟨_,by lia,at_+1,rfl,by lia,by lia,rfl,rfl⟩
  .refine⟨by rw[iu];exact sz (by lia),?_⟩
   refine iF trivial (rA λi=>decide (e<=i)&&decide (i<=(at_:Int))) (λd hd K' k'=>?_) ?_
   .obtain⟨i,hi,rfl⟩:=List.mem_map.mp hd
    refine kL (c:=e<=i) (λp1=>?_) (λp1=>?_)
    .refine kL (c:=i<=(at_:Int)) (λp2=>?_) (λp2=>?_)
     .exact vK (by simp[p1,p2]) k'
     .exact tq (by simp[p2]) k'
    .exact tq (by simp[p1]) k'
   .rw[tK]
    have X6:e∈es.filter λi=>decide (e<=i)&&decide (i<=(at_:Int)):=List.mem_filter.mpr ⟨he,by simp;lia⟩
    refine⟨_,rfl,(λq=>by rw[q]at X6;cases X6),λm a b=>.keep ?_⟩
    have eat:sh z.cps.toList e.toNat=at_:=by lia
    rw[eat]at ct
    obtain⟨a1,a2⟩:=List.mem_filter.mp a
    simp only[bJ,bq]at a2
    rw[EA ho h0 (by lia) he (m:=m) ⟨_,ct,a1,a2.2,λy hy Il=>?_⟩]
    .exact kk
    .by_cases q:e<=y
     .exact b y (List.mem_filter.mpr ⟨hy,by simp;lia⟩)
     .lia
 .cases h
def Sd (F:j4 K "_law_own" "_law_own" wQ f fd)(T:lM mg)(Xu:Q3 P w K mg fJ):gF P w K mg fJ kW 2 f fd (pA wQ) (iG OR):=by
 refine F.oQ zY (λds μ Kd h=>by unfold OR at h;split at h <;> first | rfl | exact h.elim) (λjl A fT s H E hr=>⟨_,(fO (qS 3 zY.nd (kD true kq))
  (fO (m7 bM rfl (jA (dv 0)) (qT 4 zY.nd)
  (fW (DR (AX cR eI eG Bd uq (dv 3) (a1 (nj (Oj rfl) vD (by rfl) T.max ck (a1 (ot (kD false (a1 (dv 4))) (Je false (sq (N:=["_law_text","_law_old","_law_border","_law_end","_law_age"]) (js:=[none,none,some 0,some 4,some 2]) zY (by decide +kernel)) (iO (gb (f9 0) (fL 0) (gb (f9 1) (fL 1) iP fU) (fN (fL 1) fU))) (iB (fN (fL 0) (fN (fL 1) fU))) (jA (dv 1)) (λ_ _ _ nd=>(g9 (n:=2) rfl (fQ (qN 0 nd) (fQ (qN 1 nd) gI)))) (λ_ _ _=>(p5 (MQ (dv 1) (dv 4)))) (λ_ _ _=>(qC Xu hr (a3 (dv 2) (dv 0) (dv 3)))))))))))))
  (fW (gA (dv 3))))),λds μ Kd hm hl h=>?_⟩)
 unfold OR at h
 split at h
 .rename_i b y a
  obtain⟨n,cs,ts,rfl,ey,S,kk⟩:=h
  have mZ:=S.mZ
  have ft:=S.takes.mZ
  have oS:(fH n cs).length=cs.length+2:=gy n cs
  have xl:∀ x∈fH n cs,0<=x/\x<=n:=λx hx=>jw S.n1 S.jD hx
  obtain⟨es,he⟩:∃ es,es=fH n cs:=⟨_,rfl⟩
  rw[<- he]at kk oS xl ⊢
  refine⟨zs,?_⟩
  refine iY (λds ρ gc=>∃(i:Nat) (v:aq D),ds=(es.drop i).map D.int/\ρ=[some (.lst (es.map D.int)),some y,some (.int a),some (.mr μ.length),v]/\gc=μ++[.lst (((es.take i).map (kn es ts a)).map D.int)]) ⟨0,none,rfl,rfl,rfl⟩ ?_ ?_
  .rintro d xG ρ gc ⟨i,v,e,rfl,rfl⟩
   refine⟨trivial,λnx qY=>?_⟩
   have hi:i<es.length:=by
    by_cases q:i<es.length
    .exact q
    .rw[bz (by lia)]at e;cases e
   rw[bu hi]at e
   cases e
   have V8:es[i]∈es:=bI hi
   have h2:=xl _ V8
   refine⟨Ej jZ,zs,?_⟩
   refine fS (As ey) ⟨by rw[iu];exact sz (by lia),?_⟩
   refine iF (tp (As ey)) (CA (λt=>decide (t.2<=a)) λt=>.int (jE es t.1 es[i])) (λd hd K' k'=>?_) ?_
   .obtain⟨t,ht,rfl⟩:=List.mem_map.mp hd
    have hz:=S.takes.ok t ht
    refine⟨rfl,kL (λq=>?_) (λq=>Oz (by simp[q]) k')⟩
    have n2:=S.n2
    exact⟨es,rfl,by lia,by rw[ku];lia,by rw[sD];exact hz.2.1,h2.1,by rw[ku];lia,V8,by rw[sD];exact Oy (by simp[q]) k'⟩
   .rw[xx]
    have fl:=c5 (λt:Tk=>decide (t.2<=a)) ts
    refine⟨by rw[iu];exact sz (by show 1+_<=_;lia),?_⟩
    refine⟨es[i]::(ts.filter λt=>decide (t.2<=a)).map λt=>jE es t.1 es[i],(by show some (D.int es[i]::_)=_;rw[aw,a8];rfl),by simp,λm p1 p2=>?_⟩
    have em:m=kn es ts a es[i]:=by rw[lG];exact OO p1 p2
    refine fS jZ ⟨Uy (by rw[iu,iu,bH];lia),?_⟩
    refine qY _ _ ⟨i+1,_,rfl,rfl,?_⟩
    have et:es.take (i+1)=es.take i++[es[i]]:=by rw[List.take_succ,jk hi];rfl
    rw[mT,et,em,bh,bh];rfl
  .rintro ρ gc ⟨i,v,e,rfl,rfl⟩
   refine⟨trivial,?_⟩
   have hi:es.length<=i:=by
    have:=cA List.length e
    rw[iu,bA]at this
    simp at this
    lia
   rw[bQ hi]
   refine Fz.lst (ar _) (mh jZ) (tf _) (pq hm) ?_
   rw[cf]
   exact kk
 .cases h
def N7 (F:j4 K "_law_rows" "_law_rows" rM f fd)(T:lM mg)(MI:Mp P w K mg fJ):gF P w K mg fJ kW 3 f fd (pA rM) (iG GG):=by
 refine F.oQ o3 (λds μ Kd h=>by unfold GG at h;split at h <;> first | rfl | exact h.elim) (λjl A fT s H E hr=>⟨_,(fO (qS 3 o3.nd (kD true kq))
  (fO (m7 bM rfl (iX rfl T.range (a1 (dv 2))) (qT 4 o3.nd)
  (fO (qS 5 o3.nd (qC MI hr (a3 (dv 0) (dv 1) (dv 4))))
  (vh (jd (RN (dv 4) fR)
  (fO (qS 6 o3.nd (jo (dv 3) (L7 fR)))
  (fW (qS 5 o3.nd (CY false (sq (N:=["_law_k","_law_row","_law_last","_law_border"]) (js:=[none,some 5,some 6,some 0]) o3 (by decide +kernel)) (iX rfl T.range (a1 (CW T (dv 0)))) (λ_ _ _ nd=>(qN 0 nd)) (λ_ _ _=>iK) (λ_ _ _=>(nj (Ol rfl) zQ (by rfl) T.max ck (a2 (jo (dv 1) (dv 0)) (jo (dv 2) (AX cR eS PySem.F.type_list_index Li BV (dv 3) (a1 (jo (dv 2) (dv 0))))))))))))
  hG)
  (fW (DR (AX cR eI eG Bd uq (dv 3) (a1 (dv 5))))))))
  (fW (gA (dv 3))))),λds μ Kd hm hl h=>?_⟩)
 unfold GG at h
 split at h
 .rename_i b y m
  obtain⟨n,cs,ts,rfl,ey,S,hm0,hm1,kk⟩:=h
  have mZ:=S.mZ
  have ft:=S.takes.mZ
  have oS:(fH n cs).length=cs.length+2:=gy n cs
  have nd:=GR S.n1 S.jD
  obtain⟨es,he⟩:∃ es,es=fH n cs:=⟨_,rfl⟩
  refine⟨zs,?_⟩
  refine⟨by lia,by lia,?_⟩
  rw[<- he]at kk oS nd ⊢
  refine iY (λds ρ gc=>∃(i k:Nat) (u v w:aq D),ds=lP i k/\i+k=m.toNat/\ρ=[some (.lst (es.map D.int)),some y,some (.int m),some (.mr μ.length),u,v,w]/\gc=μ++[.lst ((List.range i).map λa=>.lst ((gO es ts a).map D.int))]) ⟨0,m.toNat,none,none,none,rfl,by lia,rfl,rfl⟩ ?_ ?_
  .rintro d xG ρ gc ⟨i,k,u,v,w',e,hik,rfl,rfl⟩
   refine⟨trivial,λnx qY=>?_⟩
   cases k with
   |zero=>cases e
   | succ k =>
    rw[jU]at e
    cases e
    refine⟨n,cs,ts,by rw[he],As ey,S,?_⟩
    rw[<- he]
    refine⟨λj7 gc=>∃ w':aq D,j7=[some (.lst (es.map D.int)),some y,some (.int m),some (.mr μ.length),some (.int i),some (.lst ((gO es ts i).map D.int)),w']/\gc=μ++[.lst ((List.range i).map λa=>.lst ((gO es ts a).map D.int))],?_,?_⟩
    .refine kL (c:=(0:Int)<i) (λq=>?_) (λq=>?_)
     .obtain⟨j,rfl⟩:∃ j,i=j+1:=⟨i - 1,by lia⟩
      have el:lO ((List.range (j+1)).map λa=>D.lst ((gO es ts a).map D.int)) (-1)=some (.lst ((gO es ts j).map D.int)):=by
       rw[c8,bh]
       exact ER _ _
      refine Ma (show lv _ (.mr μ.length)=_ from jZ) el ?_
      have NG:=pj es ts j
      have ook:=xa es ts ((j+1:Nat):Int)
      have nok:=An (ts:=ts) (a:=((j+1:Nat):Int)) NG
      have vq:((es.map D.int).length:Int)=(es.length:Nat):=by rw[iu]
      refine⟨by rw[vq];lia,by rw[vq];lia,sz (by rw[iw,vq];lia),?_⟩
      rw[vq,xq,show es.length=(lH es ts (gO es ts j) ((j+1:Nat):Int)).length from nok.len.symm]
      refine iF trivial (Om λk=>.int (((lH es ts (gO es ts j) ((j+1:Nat):Int))[k.toNat]?).getD 0)) (λd hd K' k'=>?_) ?_
      .obtain⟨c,hc,rfl⟩:=wX hd
       rw[de]at k' ⊢
       have lc':=nok.len
       have lo:=ook.len
       have lr:=NG.len
       obtain⟨f,hf⟩:∃ f,(jj es ts ((j+1:Nat):Int))[c]?=some f:=⟨_,jk (by lia)⟩
       obtain⟨p,hp⟩:∃ p,(gO es ts j)[c]?=some p:=⟨_,jk (by lia)⟩
       have Zp:=NG.mem p (mw hp)
       refine fS (j0 hf) ⟨rfl,fS (j0 hp) ⟨es,es.idxOf p,rfl,qJ Zp,Ii nd Zp,fS (j0 (rT NG Zp)) ?_⟩⟩
       have k2:K' (some (.int (((lH es ts (gO es ts j) ((j+1:Nat):Int))[((c:Nat):Int).toNat]?).getD 0))) _:=k'
       rw[xq,vI hf hp]at k2
       exact k2
      .rw[OP D.int _ _ λi x e=>by show D.int (((lH es ts (gO es ts j) ((j+1:Nat):Int))[((i:Nat):Int).toNat]?).getD 0)=_;rw[xq,e];rfl]
       exact⟨_,rfl,rfl⟩
     .obtain rfl:i=0:=by lia
      exact⟨_,rfl,rfl⟩
    .rintro j7 gc ⟨w',rfl,rfl⟩
     refine⟨Ej jZ,fS jZ ⟨Uy (by rw[iu,u7];lia),?_⟩⟩
     refine qY _ _ ⟨i+1,k,_,_,_,rfl,by lia,rfl,?_⟩
     rw[mT,c8,bh];rfl
  .rintro ρ gc ⟨i,k,u,v,w',e,hik,rfl,rfl⟩
   cases k with
   |succ k=>rw[jU]at e;cases e
   | zero =>
    refine⟨trivial,?_⟩
    rw[show i=m.toNat by lia]
    refine Fz.lst (ar _) (mh jZ) (vJ λd hd=>?_) (pq hm) ?_
    .obtain⟨a,_,rfl⟩:=List.mem_map.mp hd
     exact tf _
    .rw[cf]
     exact kk
 .cases h
def Al (F:j4 K "least_age" "least_age" ke f fd)(T:lM mg)(ny:qv P w K mg fJ)(nv:sm P w K mg fJ)(mL:nX P w K mg fJ)(sv:sk P w K mg fJ)(uf:tX P w K mg fJ):gF P w K mg fJ kW 4 f fd (pA ke) (iG AK):=by
 refine F.oQ jJ (λds μ Kd h=>by unfold AK at h;split at h <;> first | rfl | exact h.elim) (λjl A fT s H E hr=>⟨_,(fO (jd (rG (qC ny hr (a3 (dv 0) (dv 1) (dv 2))))
  (fW (gA xM))
  hG)
  (fO (qS 3 jJ.nd (qC nv hr (a2 (dv 0) (dv 1))))
  (fO (qS 4 jJ.nd (qC mL hr (a3 (dv 0) (dv 1) (dv 2))))
  (fO (qS 5 jJ.nd (qC sv hr (a1 (dv 2))))
  (fO (qS 6 jJ.nd (qC uf hr (gz (dv 3) (gz (dv 4) (gz (dv 3) (gz (dv 5) kq))))))
  (fO (FA bM (Vr (jo (dv 6) fR) (dv 0))
  (fO (BY (i:=5) jJ.nd rfl lo fR tx wJ)
  (fW (qS 6 jJ.nd (qC uf hr (gz (dv 3) (gz (dv 4) (gz (dv 6) (gz (dv 5) kq)))))))))
  (fW (gA (dv 5))))))))),λds μ Kd hm hl h=>?_⟩)
 unfold AK at h
 split at h
 .rename_i n x y
  obtain⟨cs,ts,ex,ey,S,AE,kk⟩:=h
  have mZ:=S.mZ
  have ft:=S.takes.mZ
  have n2:=S.n2
  have nd:=GR S.n1 S.jD
  have oS:(fH n cs).length=cs.length+2:=gy n cs
  refine⟨cs,ts,ex,ey,by lia,S.takes,by lia,?_⟩
  unfold rW at kk
  cases hb:jG (fH n cs) ts with
  | some p =>
   rw[hb]at kk
   exact .keep kk
  | none =>
   rw[hb]at kk
   obtain⟨a,ha,la⟩:=Ek S AE hb
   have ly:=Cw S la
   have kk:=kk a ha la
   refine⟨cs,ex,S.mZ,?_⟩
   refine⟨cs,ts,ex,ey,S,?_⟩
   refine⟨ts,ey,by lia,?_⟩
   have yn:=BJ S.takes
   have yl:=BK (ts:=ts)
   obtain⟨y0,hy0⟩:∃ y0:Nat,kX ts=(y0:Int):=⟨(kX ts).toNat,by lia⟩
   rw[hy0]at yn yl ly ⊢
   obtain⟨es,he⟩:∃ es,es=fH n cs:=⟨_,rfl⟩
   rw[<- he]at nd oS la ⊢
   refine⟨es,ts,es,rfl,rfl,by lia,by lia,nd,rfl,OW es,?_⟩
   have e0:lH es ts es (y0:Int)=gO es ts y0:=by
    have:=Mx es ts y0
    rwa [IL (b:=y0) yl]at this
   rw[e0]
   refine⟨λm ρ gc=>∃(b j:Nat) (g:MS),m=a - b/\b<=a/\ρ=[some (.int n),some x,some y,some (.lst (es.map D.int)),some (.lst (ts.map (mE es))),some (.int b),some (.mr j)]/\gc=μ++g/\yY gc j=some ((gO es ts b).map D.int),⟨_,y0,_,[.lst ((gO es ts y0).map D.int)],rfl,by lia,rfl,rfl,jZ⟩,?_⟩
   rintro m ρ gc ⟨b,j,g,rfl,hba,rfl,rfl,el⟩
   have NG:=pj es ts b
   obtain⟨z,hz⟩:∃ z,(gO es ts b)[0]?=some z:=⟨_,jk (by rw[NG.len];lia)⟩
   refine fS (show lv _ (.mr j)=_ from el) (fS (show lO _ (0:Int)=_ from j0 (i:=0) hz) ?_)
   refine Le (λq=>?_) (λq=>?_)
   .have mP:b<a:=by
     rcases Nat.lt_or_ge b a with z'|z'
     .exact z'
     .have e:b=a:=by lia
      rw[e,la.at_]at hz
      exact absurd (aM hz).symm q
    refine⟨es,ts,gO es ts b,rfl,rfl,by lia,by lia,nd,el,NG,?_⟩
    exact⟨_,by lia,b+1,_,g++[.lst ((gO es ts (b+1)).map D.int)],rfl,by lia,rfl,by rw[cG];rfl,jZ⟩
   .have e:b=a:=by
     rcases Nat.lt_or_ge b a with z'|z'
     .rw[q]at hz
      exact absurd hz (la.low b z')
     .lia
    refine Fz.drop True.intro (pq hm) ?_
    rw[cf,e]
    exact kk
 .cases h
def CN {es:ao Int}{ts:ao Tk}{n:Int}{a N:Nat}(la:iH es ts n a)(h:a<N):((List.range N).filter λb=>decide ((gO es ts b)[0]?=some n))[0]?=some a:=by
 have key:∀ N,a<N->∃ r,(List.range N).filter (λb=>decide ((gO es ts b)[0]?=some n))=a::r:=by
  intro N
  induction N with
  |zero=>intro h;lia
  | succ N ih =>
   intro h
   rw[c8,List.filter_append]
   by_cases q:a<N
   .obtain⟨r,e⟩:=ih q
    exact⟨_,by rw[e];rfl⟩
   .have e:N=a:=by lia
    subst e
    refine⟨[],?_⟩
    rw[List.filter_eq_nil_iff.mpr λb hb=>by have:=la.low b (List.mem_range.mp hb);simp[this]]
    simp[la.at_]
 obtain⟨r,e⟩:=key N h
 rw[e];rfl
def KL (F:j4 K "_law_least" "_law_least" ph f fd)(T:lM mg)(MJ:Dj P w K mg fJ)(Us:Mo P w K mg fJ):gF P w K mg fJ kW 4 f fd (pA ph) (iG vW):=by
 refine F.oQ sL (λds μ Kd h=>by unfold vW at h;split at h <;> first | rfl | exact h.elim) (λjl A fT s H E hr=>⟨_,(fO (jd (rG (qC MJ hr (a2 (dv 0) (dv 1))))
  (fW (gA xM))
  hG)
  (fO (qS 2 sL.nd (qC Us hr (a3 (dv 0) (dv 1) (ot (nj (Oj rfl) vD (by rfl) T.max ck (a1 (Je false (sq (N:=["_law_text","_law_old"]) (js:=[none,none]) sL (by decide +kernel)) (iO (gb (f9 0) (fL 0) (gb (f9 1) (fL 1) iP fU) (fN (fL 1) fU))) (iB (fN (fL 0) (fN (fL 1) fU))) (jA (dv 1)) (λ_ _ _ nd=>(g9 (n:=2) rfl (fQ (qN 0 nd) (fQ (qN 1 nd) gI)))) (λ_ _ _=>iK) (λ_ _ _=>(dv 1))))) fR))))
  (fW (gA (jo (CY false (sq (N:=["_law_age","_law_rows_here","_law_border"]) (js:=[none,some 2,some 0]) sL (by decide +kernel)) (iX rfl T.range (a1 (CW T (dv 2)))) (λ_ _ _ nd=>(qN 0 nd)) (λ_ _ _=>(p5 (Kc (jo (jo (dv 1) (dv 0)) fR) (jo (dv 2) (L7 fR))))) (λ_ _ _=>(dv 0))) fR))))),λds μ Kd hm hl h=>?_⟩)
 unfold vW at h
 split at h
 .rename_i b y
  obtain⟨n,cs,ts,rfl,ey,S,AE,kk⟩:=h
  have mZ:=S.mZ
  have ft:=S.takes.mZ
  have n2:=S.n2
  have oS:(fH n cs).length=cs.length+2:=gy n cs
  refine⟨n,cs,ts,rfl,ey,by lia,S.n1,by lia,S.jD,S.takes,?_⟩
  unfold rW at kk
  cases hb:jG (fH n cs) ts with
  | some p =>
   rw[hb]at kk
   exact .keep kk
  | none =>
   rw[hb]at kk
   have Uw:=IM S hb
   refine fS ey ⟨by rw[iu];exact sz (by lia),?_⟩
   refine iF (tp ey) (K2 λt=>.int t.2) (λd hd K' k'=>?_) ?_
   .obtain⟨t,ht,rfl⟩:=List.mem_map.mp hd
    exact⟨rfl,k'⟩
   .rw[vS]
    refine⟨ts.map (·.2),by unfold lv;rw[a8];rfl,by simpa using Uw,λm h1 h2=>?_⟩
    obtain⟨t,ht,rfl⟩:=List.mem_map.mp h1
    have tok:=S.takes.ok t ht
    obtain⟨a,ha,la⟩:=xi S AE hb (a:=t.2.toNat) λu hu=>by have:=h2 u.2 (List.mem_map.mpr ⟨u,hu,rfl⟩);lia
    have kk:=kk a (by lia) la
    refine⟨n,cs,ts,rfl,ey,S,by lia,by lia,?_⟩
    obtain⟨es,he⟩:∃ es,es=fH n cs:=⟨_,rfl⟩
    have el:lO ((fH n cs).map D.int) (-1)=some (.int n):=by
     rw[<- qo]
     exact Dn _ _
    rw[<- he]at la oS el ⊢
    have e8:(t.2+8).toNat=((t.2+8).toNat:Nat):=rfl
    obtain⟨N,hN⟩:∃ N:Nat,(t.2+8).toNat=N:=⟨_,rfl⟩
    rw[hN]
    have Oq:(((List.range N).map λa=>D.lst ((gO es ts a).map D.int)).length:Int)=(N:Int):=by rw[iu,u7]
    refine⟨by rw[Oq];lia,by rw[Oq];lia,sz (by rw[iw,Oq];lia),?_⟩
    rw[Oq,xq]
    refine iF trivial (rA λb=>decide ((gO es ts b.toNat)[0]?=some n)) (λd hd K' k'=>?_) ?_
    .obtain⟨b,hbN,rfl⟩:=wX hd
     rw[de]at k' ⊢
     have NG:=pj es ts b
     obtain⟨z,hz⟩:∃ z,(gO es ts b)[0]?=some z:=⟨_,jk (by rw[NG.len];lia)⟩
     have er:lO ((List.range N).map λa=>D.lst ((gO es ts a).map D.int)) (b:Int)=some (.lst ((gO es ts b).map D.int)):=j0 (bB hbN)
     refine fS er (fS (show lO _ (0:Int)=_ from j0 (i:=0) hz) (fS el ?_))
     refine pI (λq=>vK ?_ k') (λq=>tq ?_ k')
     .rw[xq,hz,q];simp
     .rw[xq,hz];simp[q]
    .rw[sM,tK]
     have ef:(List.filter (λb:Int=>decide ((gO es ts b.toNat)[0]?=some n)) ((List.range N).map λi=>(0:Int)+(i:Nat)))=((List.range N).filter λb=>decide ((gO es ts b)[0]?=some n)).map λi=>((i:Nat):Int):=by
      rw[List.filter_map]
      have:(λb:Int=>decide ((gO es ts b.toNat)[0]?=some n)) ∘ (λi:Nat=>(0:Int)+(i:Int))=λb=>decide ((gO es ts b)[0]?=some n):=by
       funext i
       show decide ((gO es ts ((0:Int)+(i:Int)).toNat)[0]?=some n)=_
       rw[de,xq]
      rw[this]
      exact bN λi _=>de _
     rw[ef,a8]
     have fl:=CN la (N:=N) (by lia)
     refine fS (show lO _ (0:Int)=_ from j0 (i:=0) fl) (.keep kk)
 .cases h
def N8 (F:j4 K "_law_near" "_law_near" rN f fd)(T:lM mg)  : gF P w K mg fJ kW 1 f fd (pA rN) (iG GH):=by
 refine F.oQ Fy (λds μ Kd h=>by unfold GH at h;split at h<;>first|rfl|exact h.elim) (λjl A fT s H E hr=>⟨_,(fW (gA (Je false (sq (N:=["_law_text","_law_old"]) (js:=[none,none]) Fy (by decide +kernel)) (iO (gb (f9 0) (fL 0) (gb (f9 1) (fL 1) iP fU) (fN (fL 1) fU))) (iB (fN (fL 0) (fN (fL 1) fU))) (jA (dv 0)) (λ_ _ _ nd=>(g9 (n:=2) rfl (fQ (qN 0 nd) (fQ (qN 1 nd) gI)))) (λ_ _ _=>iK) (λ_ _ _=>(pK (a2 (dv 0) (pU Ap Qj (dv 1) fR))))))),λds μ Kd hm hl h=>?_⟩)
 unfold GH at h
 split at h
 .rename_i y
  obtain⟨ts,ey,XS,kk⟩:=h
  refine fS ey ⟨by rw[iu];exact sz (by lia),?_⟩
  refine iF (tp ey) (K2 λt=>mM (Ga t)) (λd hd K' k'=>?_) ?_
  .obtain⟨t,ht,rfl⟩:=List.mem_map.mp hd
   exact⟨rfl,(by show(0:Int)<9;decide),zs,k'⟩
  .rw[vS]
   rw[a8]at kk
   exact .keep kk
 .cases h
def Sg (F:j4 K "_law_few" "_law_few" wR f fd)(T:lM mg)(MI:Mp P w K mg fJ)(E7:xR P w K mg fJ):gF P w K mg fJ kW 3 f fd (pA wR) (iG GJ):=by
 refine F.oQ z5 (λds μ Kd h=>by unfold GJ at h;split at h <;> first | rfl | exact h.elim) (λjl A fT s H E hr=>⟨_,(fO (qS 3 z5.nd (kD false kq))
  (fO (m7 bM rfl (iX rfl T.range (a1 (ot (dv 2) fR))) (qT 4 z5.nd)
  (fW (qS 3 z5.nd (qC E7 hr (a3 (dv 0) (qC MI hr (a3 (dv 0) (dv 1) (dv 4))) (dv 3))))))
  (fW (gA (jo (jo (dv 3) fR) (L7 fR)))))),λds μ Kd hm hl h=>?_⟩)
 unfold GJ at h
 split at h
 .rename_i b y a
  obtain⟨n,cs,ts,rfl,ey,S,ha0,ZU,kk⟩:=h
  have oS:(fH n cs).length=cs.length+2:=gy n cs
  have OL:=S.mZ
  refine⟨zs,by lia,by lia,?_⟩
  refine iY (λds ρ gc=>∃(k c:Nat) (l:ao D) (v:aq D),ds=lP (k:Int) c/\(k:Int)+c=a+1/\((l=[]/\k=0)\/(1<=k/\l=jW (fH n cs).length (lE (fH n cs) ts k)))/\ρ=[some (.lst ((fH n cs).map D.int)),some y,some (.int a),some (.lst l),v]/\gc=μ) ⟨0,(a+1).toNat,[],none,rfl,by lia,.inl ⟨rfl,rfl⟩,rfl,rfl⟩ ?_ ?_
  .rintro d xG ρ gc ⟨k,c,l,v,e,Wc,sx,rfl,rfl⟩
   refine⟨trivial,λnx qY=>?_⟩
   cases c with
   |zero=>cases e
   | succ c =>
    rw[jU]at e
    cases e
    refine⟨n,cs,ts,rfl,ey,S,?_⟩
    refine⟨fH n cs,jj (fH n cs) ts k,lE (fH n cs) ts k,rfl,rfl,(xa _ _ _).len,λe=>by rw[e]at oS;simp at oS,by lia,?_,wC _ _ k,?_⟩
    .rcases sx with⟨rfl,rfl⟩ | ⟨_,rfl⟩
     .exact .inl ⟨rfl,rfl⟩
     .exact .inr rfl
    .exact qY _ _ ⟨k+1,c,_,_,rfl,by lia,.inr ⟨by lia,rfl⟩,rfl,rfl⟩
  .rintro ρ gc ⟨k,c,l,v,e,Wc,sx,rfl,rfl⟩
   cases c with
   |succ c=>rw[jU]at e;cases e
   | zero =>
    have hk:k=a.toNat+1:=by lia
    rcases sx with⟨rfl,h0⟩|⟨_,rfl⟩
    .lia
    .rw[hk]
     rw[<- hk]at kk
     have a1:lO (jW (fH n cs).length (lE (fH n cs) ts (a.toNat+1))) 0=some (.lst (iZ (fH n cs).length (lE (fH n cs) ts (a.toNat+1) 0))):=jQ (j:=0) (mD (by lia))
     have a2:lO (iZ (fH n cs).length (lE (fH n cs) ts (a.toNat+1) 0)) (-1)=some (.int (lE (fH n cs) ts (a.toNat+1) 0 (cs.length+1))):=Po (by rw[ng,oS];exact kJ (by lia))
     refine⟨trivial,fS a1 (fS a2 (.keep ?_))⟩
     rw[hk]at kk
     exact kk
 .cases h
def Cj (F:j4 K "_law_few_next" "_law_few_next" kh f fd)(T:lM mg)  : gF P w K mg fJ kW 1 f fd (pA kh) (iG tR):=by
 refine F.oQ jH (λds μ Kd h=>by unfold tR at h;split at h <;> first | rfl | exact h.elim) (λjl A fT s H E hr=>⟨_,(fO (XF 3 false jH.nd (sq (N:=["_law_end","_law_border"]) (js:=[none,some 0]) jH (by decide +kernel)) (jA (dv 0)) (λ_ _ _ nd=>(qN 0 nd)) (λ_ _ _=>iK) (λ_ _ _=>(CY true (wg (xsc:=(fP kh)) (N:=["_law_end"]) (js:=[none]) rfl (by decide +kernel)) (jA (dv 1)) (λ_ _ _ nd=>(qN 0 nd)) (λ_ _ _=>iK) (λ_ _ _=>fR))))
  (fO (m7 bM rfl (iX rfl T.range (a1 (CW T (dv 0)))) (qT 4 jH.nd)
  (fW (m7 bM rfl (oI rfl T.range (a2 (ot (dv 4) fR) (CW T (dv 0)))) (qT 5 jH.nd)
  (fO (qS 6 jH.nd (kD false kq))
  (vh (jd (kS (VL (qm hr)) JN (dv 2) (kD false kq) (iS _))
  (fW (XF 6 false jH.nd (sq (N:=["_law_k","_law_last","_law_i","_law_j"]) (js:=[none,some 2,some 4,some 5]) jH (by decide +kernel)) (oI rfl T.range (a2 (ot (dv 4) fR) (dv 5))) (λ_ _ _ nd=>(qN 0 nd)) (λ_ _ _=>(p5 (RN (pU mulC p7 (jo (jo (dv 1) (dv 2)) (dv 0)) (jo (jo (dv 1) (dv 0)) (dv 3))) fR))) (λ_ _ _=>(ot (jo (jo (dv 1) (dv 2)) (dv 0)) (jo (jo (dv 1) (dv 0)) (dv 3))))))
  hG)
  (fW (jd (MQ (jo (dv 0) (dv 5)) (jo (dv 1) (dv 4)))
  (fW (DS fR (jo (dv 3) (dv 4)) (dv 5)))
  (fW (jd (RN (CW T (dv 6)) fR)
  (fW (DS (nj (VO rfl) Fu (by rfl) T.min dA (a1 (dv 6))) (jo (dv 3) (dv 4)) (dv 5)))
  hG)))))))))
  (fW (gA (dv 3))))),λds μ Kd hm hl h=>?_⟩)
 unfold tR at h
 split at h
 .rename_i b o l
  obtain⟨es,own,T,rfl,rfl,QF,Jc,oS,QG,hT,kk⟩:=h
  obtain⟨L,hL⟩:∃ L,L=es.length:=⟨_,rfl⟩
  rw[<- hL]at QF oS QG kk
  obtain⟨S,hS⟩:∃ S,S=j9 es own T:=⟨_,rfl⟩
  rw[<- hS]at kk
  have S0:∀ a b,b<=a->S a b=0:=λa b Gp=>by rw[hS];unfold j9;rw[aB Gp]
  refine⟨sz (by rw[iu];lia),?_⟩
  refine zo (λds ys gc=>∃ k:Nat,k<=L/\ds=(es.drop k).map D.int/\ys=(List.range k).map (λi=>D.mr (μ.length+i))/\∃ g:MS,gc=μ++g/\g.length=k/\∀ a,a<k->g[a]?=some (.lst (iZ L λ_=>0))) (ys:=[]) ⟨0,by lia,rfl,rfl,[],by simp,rfl,λa ha=>by lia⟩ ?_ (λys gc _=>trivial) ?_
  .rintro d xG ys gc ⟨k,hk,e,rfl,g,rfl,hg,Tf⟩
   refine⟨trivial,λK' hK'=>?_⟩
   have hk2:k<es.length:=by
    by_cases q:k<es.length
    .exact q
    .rw[bz (by lia)]at e;cases e
   rw[bu hk2]at e
   cases e
   refine⟨sz (by rw[iu];lia),?_⟩
   refine kA trivial D.int (λ_:Int=>D.int 0) (λx hx K'' Y7=>Y7) ?_
   refine hK' _ _ ⟨k+1,by lia,rfl,?_,g++[.lst (iZ L λ_=>0)],?_,by rw[oq,hg];rfl,λa ha=>?_⟩
   .rw[c8,bh]
    show _++[D.mr (μ++g).length]=_
    rw[oq,hg];rfl
   .rw[Js,<- hL,cG]
   .rcases Nat.lt_or_ge a k with z | z
    .rw[vR (by lia)];exact Tf a z
    .have:a=k:=by lia
     subst this
     rw[pX (by lia),hg,a6];rfl
  rintro zs gc ⟨k,hk,e,rfl,g,rfl,hg,Tf⟩
  have XW:k=L:=by
   have:=cA List.length e
   rw[iu,bA]at this
   simp at this
   lia
  subst XW
  have R0:lj k (jX S 0 0) g:=D2 hg Tf
  refine⟨by rw[iu];lia,by rw[iu];lia,?_⟩
  rw[iu,xq,<- hL]
  have esj:∀ j,j<k->lO (es.map D.int) (j:Int)=some (.int (es.getD j 0)):=λj hj=>by
   have:es[j]?=some (es.getD j 0):=by rw[aA,jk (by lia)];rfl
   exact oP this
  have owj:∀ j,j<k->lO (own.map D.int) (j:Int)=some (.int (own.getD j 0)):=λj hj=>by
   have:own[j]?=some (own.getD j 0):=by rw[aA,jk (by lia)];rfl
   exact oP this
  refine iY (λds ρ gc=>∃(i c:Nat) (g:MS) (u v w:aq D),ds=lP (i:Int) c/\i+c=k/\gc=μ++g/\lj k (jX S i 0) g/\ρ=[some (.lst (es.map D.int)),some (.lst (own.map D.int)),some (.lst l),some (.lst ((List.range k).map λi=>D.mr (μ.length+i))),u,v,w]) ⟨0,k,g,none,none,none,rfl,by lia,rfl,R0,rfl⟩ ?_ ?_
  .clear R0 hg Tf hk e
   clear g
   rintro d xG ρ gc ⟨i,c,g,u,v,w,e,hic,rfl,RM,rfl⟩
   refine⟨trivial,λnx qY=>?_⟩
   cases c with
   |zero=>cases e
   | succ c =>
    rw[jU]at e
    cases e
    refine⟨⟨by lia,by lia,by rw[iu];lia,by rw[iu];lia⟩,?_⟩
    rw[iu,<- hL]
    have ek:((k:Int) - ((i:Int)+1)).toNat=k - (i+1):=by lia
    rw[ek]
    refine iY (λds ρ gc=>∃(j c:Nat) (g:MS) (v w:aq D),ds=lP (j:Int) c/\i<j/\j+c=k/\gc=μ++g/\lj k (jX S i j) g/\ρ=[some (.lst (es.map D.int)),some (.lst (own.map D.int)),some (.lst l),some (.lst ((List.range k).map λi=>D.mr (μ.length+i))),some (.int (i:Int)),v,w]) ⟨i+1,k - (i+1),g,v,w,rfl,by lia,by lia,rfl,HG S0 RM,rfl⟩ ?_ ?_
    .clear RM qY
     clear g
     rintro d ds'' ρ gc ⟨j,c',g,v',w',e,pW,hjc,rfl,RM,rfl⟩
     refine⟨trivial,λnx qY=>?_⟩
     cases c' with
     |zero=>cases e
     | succ c' =>
      rw[jU]at e
      cases e
      have hi:i<k:=by lia
      have hj:j<k:=by lia
      have ami:lO ((List.range k).map λi=>D.mr (μ.length+i)) (i:Int)=some (D.mr (μ.length+i)):=oP (g:=λi=>D.mr (μ.length+i)) (bB hi)
      have lvi:yY (μ++g) (μ.length+i)=some (iZ k (jX S i j i)):=K4 (RM.2 i hi)
      have ixj:CB (iZ k (jX S i j i)).length (j:Int)=some j:=by
       unfold CB;rw[ng,aB (by lia),aB (by lia),xq]
      have fin:∀ v:Int,S i j=v->lj k (jX S i (j+1)) (g.set i (.lst ((iZ k (jX S i j i)).set j (.int v)))):=λv hv=>Kv RM hi hj hv
      have Sij:S i j=if es.getD j 0<=own.getD i 0 then 1 else xc (kE T i j):=by rw[hS];unfold j9;rw[aC (by lia)]
      refine⟨zs,?_⟩
      refine⟨λj7 Jj=>j7=[some (.lst (es.map D.int)),some (.lst (own.map D.int)),some (.lst l),some (.lst ((List.range k).map λi=>D.mr (μ.length+i))),some (.int (i:Int)),some (.int (j:Int)),some (.lst ((kE T i j).map D.int))]/\Jj=μ++g,?_,?_⟩
      .refine⟨zs,?_⟩
       rcases QG with⟨rfl,rfl⟩|rfl
       .exact⟨by rw[IG];rfl,rfl⟩
       .refine OE (b:=!(jW k T).isEmpty) (λ_=>?_) (λz=>by rw[Ng (by lia)]at z;cases z)
        refine⟨⟨by lia,by lia,by lia,by lia⟩,?_⟩
        have ej:((j:Int) - ((i:Int)+1)).toNat=j - (i+1):=by lia
        rw[ej]
        refine⟨sz (by unfold lP;rw[iu,u7];lia),?_⟩
        refine m5 trivial (λx:Nat=>D.int ((i:Int)+1+(x:Nat))) (λx=>(if 0<T i (i+1+x)*T (i+1+x) j then some (T i (i+1+x)+T (i+1+x) j)else none).map D.int) (λx hx K' k'=>?_) ?_
        .rw[cg]at hx
         have a1:lO (jW k T) (i:Int)=some (.lst (iZ k (T i))):=jQ (mD hi)
         have ex:(i:Int)+1+(x:Nat)=((i+1+x:Nat):Int):=by lia
         have a2:lO (iZ k (T i)) ((i:Int)+1+(x:Nat))=some (.int (T i (i+1+x))):=by rw[ex];exact jQ (kJ (by lia))
         have a3:lO (jW k T) ((i:Int)+1+(x:Nat))=some (.lst (iZ k (T (i+1+x)))):=by rw[ex];exact jQ (mD (by lia))
         have a4:lO (iZ k (T (i+1+x))) (j:Int)=some (.int (T (i+1+x) j)):=jQ (kJ hj)
         have cm:IW (T i (i+1+x)) (T (i+1+x) j):=.inl (by have:=hT i (i+1+x);lia)
         refine fS a1 (fS a2 (fS a3 (fS a4 ⟨cm,?_⟩)))
         refine kL (c:=0<T i (i+1+x)*T (i+1+x) j) (λq=>?_) (λq=>?_)
         .rw[aB q]at k'
          exact fS a1 (fS a2 (fS a3 (fS a4 k')))
         .rw[aC q]at k';exact k'
        .refine⟨?_,rfl⟩
         rw[Uc];rfl
      rintro j7 Jj ⟨rfl,rfl⟩
      refine fS (esj j hj) (fS (owj i hi) ?_)
      refine kL (c:=es.getD j 0<=own.getD i 0) (λq=>?_) (λq=>?_)
      .refine fS ami (fS lvi (fS ixj ?_))
       rw[zW]
       exact qY _ _ ⟨j+1,c',_,_,_,rfl,by lia,by lia,rfl,fin 1 (by rw[Sij,aB q]),rfl⟩
      .refine kL (c:=(0:Int)<((kE T i j).map D.int).length) (λz=>?_) (λz=>?_)
       .have ZM:kE T i j≠[]:=λe=>by rw[e]at z;simp at z
        refine⟨kE T i j,rfl,ZM,λm h1 h2=>?_⟩
        refine fS ami (fS lvi (fS ixj ?_))
        rw[zW]
        exact qY _ _ ⟨j+1,c',_,_,_,rfl,by lia,by lia,rfl,fin m (by rw[Sij,aC q,K0 h1 h2]),rfl⟩
       .have ZM:kE T i j=[]:=by
         cases e:kE T i j with
         |nil=>rfl
         |cons a b=>rw[e]at z;exact absurd (by simp) z
        refine qY _ _ ⟨j+1,c',g,_,_,rfl,by lia,by lia,rfl,HE RM (by rw[Sij,aC q,ZM];rfl),rfl⟩
    .clear RM
     clear g
     rintro ρ gc ⟨j,c',g,v',w',e,pW,hjc,rfl,RM,rfl⟩
     cases c' with
     |succ c'=>rw[jU]at e;cases e
     | zero =>
      refine⟨trivial,qY _ _ ⟨i+1,c,g,_,_,_,rfl,by lia,rfl,HF (by lia) RM,rfl⟩⟩
  .clear R0 hg Tf hk e
   clear g
   rintro ρ gc ⟨i,c,g,u,v,w,e,hic,rfl,RM,rfl⟩
   cases c with
   |succ c=>rw[jU]at e;cases e
   | zero =>
    refine⟨trivial,.deep (ON rfl RM) (pq hm) ?_⟩
    rw[cf]
    rw[Kw (by lia)]
    exact kk
 .cases h
def D7 (F:j4 K "no_make" "no_make" lY f fd)(T:lM mg)  : gF P w K mg fJ kW 1 f fd (pA lY) (iG vV):=by
 refine F.oQ DQ (λds μ Kd h=>by unfold vV at h;split at h<;>first|rfl|exact h.elim) (λjl A fT s H E hr=>⟨_,(fW (gA (G3 (CW T (dv 0)) fR))),λds μ Kd hm hl h=>?_⟩)
 unfold vV at h
 split at h
 .rename_i b
  obtain⟨hl,kk⟩:=h
  exact .keep kk
 .cases h
def yo (F:j4 K "bare_table" "bare_table" jt f fd)(T:lM mg)(uS:uM P w K mg fJ):gF P w K mg fJ kW 2 f fd (pA jt) (iG AL):=by
 refine F.oQ n9 (λds μ Kd h=>by unfold AL at h;split at h <;> first | rfl | exact h.elim) (λjl A fT s H E hr=>⟨_,(fO (qS 1 n9.nd (qC uS hr (a1 (dv 0))))
  (fW (gA (CY false (sq (N:=["first","places","none"]) (js:=[none,some 0,some 1]) n9 (by decide +kernel)) (iX rfl T.range (a1 (CW T (dv 0)))) (λ_ _ _ nd=>(qN 0 nd)) (λ_ _ _=>iK) (λ_ _ _=>(CY false (wg (xsc:=(fP jt)) (N:=["behind","first","none"]) (js:=[none,some 0,some 2]) rfl (by decide +kernel)) (iX rfl T.range (a1 (CW T (dv 1)))) (λ_ _ _ nd=>(qN 0 nd)) (λ_ _ _=>iK) (λ_ _ _=>(O5 (MQ (dv 0) (dv 1)) fR (dv 2))))))))),λds μ Kd hm hl h=>?_⟩)
 unfold AL at h
 split at h
 .rename_i b
  obtain⟨hl,kk⟩:=h
  refine⟨hl,?_⟩
  refine⟨by lia,by lia,?_⟩
  rw[xq]
  refine⟨sz (by rw[iw];lia),?_⟩
  refine kA trivial (λi:Nat=>D.int (0+(i:Nat))) (λi=>D.lst (iZ b.length (lL b.length i))) (λi hi K' k'=>?_) (.keep kk)
  refine⟨by lia,by lia,?_⟩
  rw[xq]
  refine⟨sz (by rw[iw];lia),?_⟩
  refine kA trivial (λj:Nat=>D.int (0+(j:Nat))) (λj=>D.int (lL b.length i j)) (λj hj K' k'=>?_) k'
  unfold lL at k'
  refine kL (c:=(0+(j:Nat):Int)<=0+(i:Nat)) (λq=>?_) (λq=>?_)
  .rw[aB (by lia)]at k';exact k'
  .rw[aC (by lia)]at k';exact k'
 .cases h
def uz (F:j4 K "fewest_joined" "fewest_joined" iV f fd)(T:lM mg)  : gF P w K mg fJ kW 1 f fd (pA iV) (iG tP):=by
 refine F.oQ oA (λds μ Kd h=>by unfold tP at h;split at h<;>first|rfl|exact h.elim) (λjl A fT s H E hr=>⟨_,(fW (gA (nj (VO rfl) Fu (by rfl) T.min dA (a1 (ot (kD false (a1 (dv 2))) (Je false (sq (N:=["left","right"]) (js:=[none,none]) oA (by decide +kernel)) (iO (gb (f9 0) (fL 0) (gb (f9 1) (fL 1) iP fU) (fN (fL 1) fU))) (iB (fN (fL 0) (fN (fL 1) fU))) (Lj rfl T.zip (a2 (dv 0) (dv 1))) (λ_ _ _ nd=>(g9 (n:=2) rfl (fQ (qN 0 nd) (fQ (qN 1 nd) gI)))) (λ_ _ _=>iK) (λ_ _ _=>(ot (ot (dv 0) (dv 1)) fR)))))))),λds μ Kd hm hl h=>?_⟩)
 unfold tP at h
 split at h
 .rename_i l r m
  obtain⟨ls,rs,rfl,rfl,h1,h2,kk⟩:=h
  refine⟨zs,?_⟩
  refine⟨by rw[bO,iu,iu];exact sz (by lia),?_⟩
  rw[Jq]
  refine kA ⟨trivial,trivial⟩ (λp:Int×Int=>D.tup [.int p.1,.int p.2]) (λp=>D.int (p.1+p.2+1)) (λp hp K' k'=>⟨rfl,k'⟩) ?_
  rw[Jm]
  refine⟨by rw[iu,bO];exact sz (by show 1+_<=_;lia),?_⟩
  obtain⟨b1,b2,b3⟩:=kR (List.zipWith (λa b=>a+b+1) ls rs) m
  refine⟨m::List.zipWith (λa b=>a+b+1) ls rs,rfl,by simp,λv hv Ll=>.keep ?_⟩
  have e:v=(List.zipWith (λa b=>a+b+1) ls rs).foldl min m:=by
   have g1:=Ll m aF
   rcases b1 with q|q
   .rcases List.mem_cons.mp hv with z | z
    .lia
    .have:=b3 v z;lia
   .have:=Ll _ (nF _ q)
    rcases List.mem_cons.mp hv with z|z
    .lia
    .have:=b3 v z;lia
  rw[e];exact kk
 .cases h
def yg (F:j4 K "next_table" "next_table" jr f fd)(T:lM mg)(uS:uM P w K mg fJ)(vC:pL P w K mg fJ):gF P w K mg fJ kW 2 f fd (pA jr) (iG tO):=by
 refine F.oQ iN (λds μ Kd h=>by unfold tO at h;split at h <;> first | rfl | exact h.elim) (λjl A fT s H E hr=>⟨_,(fO (qS 3 iN.nd (CY false (sq (N:=["at","before"]) (js:=[none,some 2]) iN (by decide +kernel)) (iX rfl T.range (a1 (CW T (dv 2)))) (λ_ _ _ nd=>(qN 0 nd)) (λ_ _ _=>iK) (λ_ _ _=>(CY false (wg (xsc:=(fP jr)) (N:=["row","at"]) (js:=[none,some 0]) rfl (by decide +kernel)) (jA (dv 1)) (λ_ _ _ nd=>(qN 0 nd)) (λ_ _ _=>iK) (λ_ _ _=>(jo (dv 0) (dv 1)))))))
  (fO (qS 4 iN.nd (qC uS hr (a1 (dv 0))))
  (fO (qS 5 iN.nd (kD true kq))
  (fO (m7 bM rfl (OG rfl T.enumerate rfl T.zip (a2 (dv 2) (dv 1))) ⟨(g9 (n:=2) rfl (fQ (qN 6 iN.nd) (fQ (g9 (n:=2) rfl (fQ (qN 7 iN.nd) (fQ (qN 8 iN.nd) gI))) gI))),(iO (gb (f9 6) (fL 6) (gb (iO (gb (f9 7) (fL 7) (gb (f9 8) (fL 8) iP fU) (fN (fL 8) fU))) (iB (fN (fL 7) (fN (fL 8) fU))) iP fU) (fN (iB (fN (fL 7) (fN (fL 8) fU))) fU))),(iB (fN (fL 6) (fN (iB (fN (fL 7) (fN (fL 8) fU))) fU)))⟩
  (fW (DR (AX cR eI eG Bd uq (dv 5) (a1 (Je false (sq (N:=["behind","end","far","row","first","columns","none"]) (js:=[none,none,some 8,some 7,some 6,some 3,some 4]) iN (by decide +kernel)) (iO (gb (f9 0) (fL 0) (gb (f9 1) (fL 1) iP fU) (fN (fL 1) fU))) (iB (fN (fL 0) (fN (fL 1) fU))) (Az rfl T.enumerate (a1 (dv 0))) (λ_ _ _ nd=>(g9 (n:=2) rfl (fQ (qN 0 nd) (fQ (qN 1 nd) gI)))) (λ_ _ _=>iK) (λ_ _ _=>(O5 (MQ (dv 1) (dv 2)) fR (qC vC hr (a3 (mW false (dv 3) (l8 (ot (dv 4) fR)) (l8 (dv 0))) (mW false (jo (dv 5) (dv 0)) (l8 (ot (dv 4) fR)) (l8 (dv 0))) (dv 6)))))))))))
  (fW (gA (dv 5))))))),λds μ Kd hm hl h=>?_⟩)
 unfold tO at h
 split at h
 .rename_i b c l
  obtain⟨es,own,P,rfl,rfl,QF,oS,rfl,kk⟩:=h
  obtain⟨L,hL⟩:∃ L,L=es.length:=⟨_,rfl⟩
  rw[<- hL]at QF oS kk ⊢
  refine⟨by rw[lD];lia,by rw[lD];lia,?_⟩
  rw[lD,xq]
  refine⟨sz (by rw[iw];lia),?_⟩
  refine kA trivial (λj:Nat=>D.int (0+(j:Nat))) (λj=>D.lst (iZ L λi=>P i j)) (λj hj K' k'=>?_) ?_
  .rw[cg]at hj
   refine⟨sz (by rw[lD];lia),?_⟩
   refine kA trivial (λi:Nat=>D.lst (iZ L (P i))) (λi=>D.int (P i j)) (λi hi K' k'=>?_) k'
   have a1:lO (iZ L (P i)) (0+(j:Nat):Int)=some (.int (P i j)):=by rw[de];exact jQ (kJ hj)
   exact fS a1 k'
  refine⟨by rw[iu];lia,?_⟩
  rw[iu,<- hL]
  refine⟨zs,?_⟩
  obtain⟨Q,hQ⟩:∃ Q,Q=jR L es own P:=⟨_,rfl⟩
  rw[<- hQ]at kk
  refine iY (λds ρ gc=>∃(k:Nat) (u v w:aq D),k<=L/\ds=((List.range L).drop k).map (λi=>D.tup [.int (i:Nat),.tup [.lst (iZ L (P i)),.int (own.getD i 0)]])/\ρ=[some (.lst (es.map D.int)),some (.lst (own.map D.int)),some (.lst (jW L P)),some (.lst ((List.range L).map λj=>D.lst (iZ L λi=>P i j))),some (.int ((L:Int) - 1)),some (.mr μ.length),u,v,w]/\gc=μ++[.lst ((List.range k).map λi=>D.lst (iZ L (Q i)))]) ⟨0,none,none,none,by lia,LQ QF,rfl,rfl⟩ ?_ ?_
  .rintro d xG ρ gc ⟨k,u,v,w,hk,e,rfl,rfl⟩
   refine⟨⟨trivial,trivial⟩,λnx qY=>?_⟩
   have hi:k<(List.range L).length:=by
    by_cases q:k<(List.range L).length
    .exact q
    .rw[bz (by lia)]at e;cases e
   have XW:k<L:=by rwa [u7]at hi
   rw[bu hi,List.getElem_range]at e
   cases e
   refine⟨rfl,rfl,?_⟩
   refine⟨Ej jZ,?_⟩
   refine⟨by rw[m4,iu];exact sz (by lia),?_⟩
   rw[OV,<- hL]
   refine kA trivial (λj:Nat=>D.tup [.int (j:Nat),.int (es.getD j 0)]) (λj=>D.int (Q k j)) (λj hj K' k'=>?_) ?_
   .rw[cg]at hj
    refine⟨rfl,?_⟩
    have eQ:Q k j=if es.getD j 0<=own.getD k 0 then 0 else(nR P k j).foldl min ((L:Int) - 1):=by rw[hQ];rfl
    refine kL (c:=es.getD j 0<=own.getD k 0) (λq=>?_) (λq=>?_)
    .rw[aB q]at eQ;rw[eQ]at k';exact k'
    .rw[aC q]at eQ;rw[eQ]at k'
     have ac:lO ((List.range L).map λj=>D.lst (iZ L λi=>P i j)) (j:Int)=some (.lst (iZ L λi=>P i j)):=oP (g:=λj=>D.lst (iZ L λi=>P i j)) (bB hj)
     refine fS ac ?_
     refine⟨(List.range (j - (k+1))).map λx=>P k (k+1+x),(List.range (j - (k+1))).map λx=>P (k+1+x) j,?_,?_,?_,?_,?_⟩
     .rw[CZ (by lia),a8];rfl
     .rw[CZ (by lia),a8];rfl
     .rw[iu,u7];lia
     .rw[iu,u7];lia
     .rw[Jp (L:=L)];exact k'
   .refine fS jZ ⟨Uy (by rw[iu,u7];lia),?_⟩
    refine qY _ _ ⟨k+1,_,_,_,by lia,rfl,rfl,?_⟩
    rw[mT,Hr];rfl
  .rintro ρ gc ⟨k,u,v,w,hk,e,rfl,rfl⟩
   refine⟨⟨trivial,trivial⟩,?_⟩
   have XW:k=L:=by
    have:=cA List.length e
    rw[iu,bA,u7]at this
    simp at this
    lia
   subst XW
   refine Fz.lst (ar _) (mh jZ) (Of _ _ _) (pq hm) ?_
   rw[cf]
   exact kk
 .cases h
def yi (F:j4 K "few_tables" "few_tables" jM f fd)(T:lM mg)(nv:sm P w K mg fJ)(mL:nX P w K mg fJ)(Bw:t9 P w K mg fJ)(sv:sk P w K mg fJ)(Bq:tW P w K mg fJ)(qy:qu P w K mg fJ):gF P w K mg fJ kW 4 f fd (pA jM) (iG tQ):=by
 refine F.oQ gZ (λds μ Kd h=>by unfold tQ at h;split at h <;> first | rfl | exact h.elim) (λjl A fT s H E hr=>⟨_,(fO (qS 4 gZ.nd (qC nv hr (a2 (dv 0) (dv 1))))
  (fO (qS 5 gZ.nd (qC mL hr (a3 (dv 0) (dv 1) (dv 2))))
  (fO (YO 6 false gZ.nd (sq (N:=["text","old"]) (js:=[none,none]) gZ (by decide +kernel)) (iO (gb (f9 0) (fL 0) (gb (f9 1) (fL 1) iP fU) (fN (fL 1) fU))) (iB (fN (fL 0) (fN (fL 1) fU))) (jA (dv 2)) (λ_ _ _ nd=>(g9 (n:=2) rfl (fQ (qN 0 nd) (fQ (qN 1 nd) gI)))) (λ_ _ _=>iK) (λ_ _ _=>(dv 1)))
  (fO (qS 7 gZ.nd (qC Bw hr (a1 (dv 4))))
  (fO (qS 8 gZ.nd r8)
  (fO (qS 9 gZ.nd TN)
  (fO (m7 bM rfl (oI rfl T.range (a2 (nj (VP rfl) Nu (by rfl) T.min dA (a3 (qC sv hr (a1 (dv 2))) fR (dv 3))) (ot (dv 3) fR))) (qT 10 gZ.nd)
  (vh (jd (PW.pt (yb (jc (dv 8)) (uT (kS inC Fv (dv 10) (dv 6) (by with_unfolding_all rfl)))))
  (fO (qS 11 gZ.nd (dv 7))
  (fO (qS 7 gZ.nd (qC Bq hr (a3 (dv 4) (qC qy hr (a3 (dv 4) (dv 5) (dv 10))) (dv 11))))
  (fW (qS 8 gZ.nd (vd (Eb (n:=4) (BO hr (by decide))) zS (dv 7) (dv 11) (iS _))))))
  hG)
  (fW (RE (qm hr) (dv 7) (dv 9) (dv 10)))))
  (fW (gA (dv 9)))))))))),λds μ Kd hm hl h=>?_⟩)
 unfold tQ at h
 split at h
 .rename_i n x y a
  obtain⟨cs,ts,rfl,rfl,S,a0,a1,kk⟩:=h
  have mZ:=S.mZ
  have ft:=S.takes.mZ
  have oS:(fH n cs).length=cs.length+2:=gy n cs
  refine⟨cs,rfl,mZ,cs,ts,rfl,rfl,S,?_⟩
  refine⟨sz (by rw[iu];lia),?_⟩
  refine kA trivial mM (λt=>D.int t.2) (λt ht K' k'=>⟨rfl,k'⟩) ?_
  have Wu:ts.map (λt=>D.int t.2)=(ts.map (·.2)).map D.int:=by rw[a8];rfl
  rw[Wu]
  refine⟨by rw[iu];lia,?_⟩
  rw[iu]
  have fs:=Iv S
  obtain⟨es,he⟩:∃ es,es=fH n cs:=⟨_,rfl⟩
  rw[<- he]at kk oS fs ⊢
  refine⟨ts,rfl,by lia,?_⟩
  have yn:=BJ S.takes
  have ym:min (kX ts) (min 0 a)=0:=by lia
  refine⟨⟨by lia,by lia,by lia,by lia⟩,?_⟩
  rw[ym]
  refine iY (λds ρ gc=>∃(k c:Nat) (ch:Bool) (u v:aq D),ds=lP (k:Int) c/\(k:Int)+c=a+1/\(ch=false->∀ i j,i<es.length->j<es.length->jR es.length es (jj es ts ((k:Int) - 1)) (gw es ts k) i j=gw es ts k i j)/\ρ=[some (.int n),some (.lst (cs.map D.int)),some (.lst (ts.map mM)),some (.int a),some (.lst (es.map D.int)),some (.lst (ts.map (mE es))),some (.lst ((ts.map (·.2)).map D.int)),some (.lst (jW es.length (gw es ts k))),some (.bl ch),some (.mr μ.length),u,v]/\gc=μ++[.jC (nQ k) (pH es ts k)]) ⟨0,(a+1).toNat,false,none,none,by rw[Int.sub_zero];rfl,by lia,λ_=>fs,rfl,rfl⟩ ?_ ?_
  .rintro d xG ρ gc ⟨k,c,ch,u,v,e,Wc,Iq,rfl,rfl⟩
   refine⟨trivial,λnx qY=>?_⟩
   cases c with
   |zero=>cases e
   | succ c =>
    rw[jU]at e
    cases e
    refine⟨λj7 gc=>∃(Yb:Bool) (v':aq D),(Yb=false->∀ i j,i<es.length->j<es.length->jR es.length es (jj es ts (((k+1:Nat):Int) - 1)) (gw es ts (k+1)) i j=gw es ts (k+1) i j)/\j7=[some (.int n),some (.lst (cs.map D.int)),some (.lst (ts.map mM)),some (.int a),some (.lst (es.map D.int)),some (.lst (ts.map (mE es))),some (.lst ((ts.map (·.2)).map D.int)),some (.lst (jW es.length (gw es ts (k+1)))),some (.bl Yb),some (.mr μ.length),some (.int (k:Int)),v']/\gc=μ++[.jC (nQ k) (pH es ts k)],?_,?_⟩
    .refine Vz (i:=8) (j:=10) (k:=6) ch (k:Int) (ts.map (·.2)) rfl rfl rfl λb hb=>?_
     refine OE (b:=b) (λhbT=>?_) (λhbF=>?_)
     .refine⟨es,ts,rfl,rfl,by lia,by lia,?_⟩
      refine⟨es,jj es ts k,gw es ts k,rfl,rfl,(xa _ _ _).len,by lia,rfl,?_⟩
      refine⟨oz (Fx _ _ (by lia)),oz (Fx _ _ (by lia)),rfl,?_⟩
      refine⟨_,_,λhf=>CL (O2 ?_),rfl,rfl⟩
      exact(show ∀ b:Bool,(true != b)=false->b=true by decide) _ hf
     .obtain⟨h1,h2⟩:=hb hbF
      have fx:=LG (Iq h1) λt ht et=>h2 (by rw[<- et];exact List.mem_map_of_mem ht)
      rw[JE fx]
      refine⟨ch,_,λ_=>CL fx,rfl,rfl⟩
    .rintro j7 gc ⟨Yb,v',ZP,rfl,rfl⟩
     refine⟨_,_,(by rw[pX (ar _),a6];rfl),Uy (by unfold nQ;rw[iu,u7];lia),K9 k,?_⟩
     refine qY _ _ ⟨k+1,c,Yb,_,_,rfl,by lia,ZP,rfl,?_⟩
     rw[mT,Eo,DL]
  .rintro ρ gc ⟨k,c,ch,u,v,e,Wc,Iq,rfl,rfl⟩
   refine⟨trivial,?_⟩
   cases c with
   |succ c=>rw[jU]at e;cases e
   | zero =>
    have hk:k=a.toNat+1:=by lia
    subst hk
    refine Fz.jC (ar _) (by rw[pX (ar _),a6];rfl) (xb λd hd=>by obtain⟨i,_,rfl⟩:=List.mem_map.mp hd;exact Og _ _) (pq hm) ?_
    rw[cf]
    exact kk
 .cases h
def qe (F:j4 K "is_take" "BestMakes.is_take" hU f fd)(T:lM mg)(fK:ip K fM):gF P w K mg fJ kW 1 f fd (pA hU) (iG (vX fM)):=by
 refine F.oQ jq (λds μ Kd h=>by unfold vX at h;split at h <;> first | rfl | exact h.elim) (λjl A fT s H E hr=>⟨_,(fO (FD (dv 1) ⟨(g9 (n:=3) rfl (fQ (qN 2 jq.nd) (fQ (qN 3 jq.nd) (fQ (qN 4 jq.nd) gI)))),(iO (gb (f9 2) (fL 2) (gb (f9 3) (fL 3) (gb (f9 4) (fL 4) iP fU) (fN (fL 4) fU)) (fN (fL 3) (fN (fL 4) fU)))),(iB (fN (fL 2) (fN (fL 3) (fN (fL 4) fU))))⟩)
  (fW (gA (vd X5 wK (jo (jo (GZ (qm hr) (nW fK.cl fK.sX (dv 0)) (dv 2) (λ_ _=>rfl)) (dv 3)) (dv 4)) fR (iS _))))),λds μ Kd hm hl h=>?_⟩)
 unfold vX at h
 split at h
 .rename_i k s
  obtain⟨es,ts,A,j,a,i,b,B,rfl,kk⟩:=h
  have Dx:=B.Dx
  have hb:=B.hb
  refine⟨rfl,_,tL B.at_ uN,?_⟩
  refine fS (zI B.ha) ?_
  refine fS (zJ (by lia)) ?_
  refine fS (z9 hb) (.keep ?_)
  generalize decide (gw es ts (a+1) i b=0)=c at kk ⊢
  cases c<;>exact kk
 .cases h
def oh (F:j4 K "clean_takes" "BestMakes.clean_takes" gH f fd)(T:lM mg)(fK:ip K fM):gF P w K mg fJ kW 1 f fd (pA gH) (iG (vZ fM)):=by
 refine F.oQ gP (λds μ Kd h=>by unfold vZ at h;split at h <;> first | rfl | exact h.elim) (λjl A fT s H E hr=>⟨_,(fO (FD (dv 1) ⟨(g9 (n:=3) rfl (fQ (qN 2 gP.nd) (fQ (qN 3 gP.nd) (fQ (qN 4 gP.nd) gI)))),(iO (gb (f9 2) (fL 2) (gb (f9 3) (fL 3) (gb (f9 4) (fL 4) iP fU) (fN (fL 4) fU)) (fN (fL 3) (fN (fL 4) fU)))),(iB (fN (fL 2) (fN (fL 3) (fN (fL 4) fU))))⟩)
  (fO (qS 5 gP.nd (jo (nW fK.cl fK.sY (dv 0)) (dv 4)))
  (fW (gA (Je false (sq (N:=["number","old","row","age","first","end"]) (js:=[none,none,none,some 2,some 3,some 5]) gP (by decide +kernel)) (iO (gb (f9 0) (fL 0) (gb (iO (gb (f9 1) (fL 1) (gb (f9 2) (fL 2) iP fU) (fN (fL 2) fU))) (iB (fN (fL 1) (fN (fL 2) fU))) iP fU) (fN (iB (fN (fL 1) (fN (fL 2) fU))) fU))) (iB (fN (fL 0) (fN (iB (fN (fL 1) (fN (fL 2) fU))) fU))) (Az rfl T.enumerate (a1 (nW fK.cl fK.KW (dv 0)))) (λ_ _ _ nd=>(g9 (n:=2) rfl (fQ (qN 0 nd) (fQ (g9 (n:=2) rfl (fQ (qN 1 nd) (fQ (qN 2 nd) gI))) gI)))) (λ_ _ _=>(p5 (PW.pt (BS (MQ (dv 1) (dv 3)) (wD (YT (jo (dv 2) (dv 4)) (dv 5))))))) (λ_ _ _=>(dv 0))))))),λds μ Kd hm hl h=>?_⟩)
 unfold vZ at h
 split at h
 .rename_i k s
  obtain⟨es,ts,A,j,a,i,b,B,rfl,kk⟩:=h
  have Dx:=B.Dx
  have hb:=B.hb
  have oJ:=B.hl
  have vO:=B.ht
  have eb:(es.map D.int)[b]?=some (.int (es.getD b 0)):=by rw[oU,getD_some hb];rfl
  refine⟨rfl,_,tL B.at_ zw,fS (jQ eb) ?_⟩
  refine⟨_,tL B.at_ Pl,?_⟩
  refine⟨by rw[m4,iu];exact sz (by lia),?_⟩
  rw[EH,iu]
  refine m5 trivial _ (λx=>if(match ts[x]? with|some t=>decide (t.2<=(a:Int))&&decide (es.getD b 0<=jE es t.1 (es.getD i 0))|none=>false)=true then some (D.int (x:Nat))else none) (λx hx K' k'=>?_) ?_
  .rw[cg]at hx
   obtain⟨t,et⟩:∃ t,ts[x]?=some t:=⟨_,jk hx⟩
   rw[JX et]
   rw[et]at k'
   dsimp only at k'
   refine⟨rfl,rfl,?_⟩
   refine kL (c:=t.2<=(a:Int)) (λq=>?_) (λq=>?_)
   .have er:((yf es t).map D.int)[i]?=some (.int (jE es t.1 (es.getD i 0))):=by
     unfold yf
     rw[oU,oU,getD_some (by lia)];rfl
    refine fS (jQ er) ?_
    refine kL (c:=es.getD b 0<=jE es t.1 (es.getD i 0)) (λq2=>?_) (λq2=>?_)
    .rw[aB (by rw[aI q,aI q2];rfl)]at k';exact k'
    .rw[aC (by rw[aV q2,fo];exact aJ)]at k';exact k'
   .rw[aC (by rw[aV q];exact aJ)]at k';exact k'
  .rw[Gv]
   exact .keep kk
 .cases h
def qU (F:j4 K "halves" "BestMakes.halves" ib f fd)(T:lM mg)(fK:ip K fM):gF P w K mg fJ kW 1 f fd (pA ib) (iG (vY fM)):=by
 refine F.oQ hJ (λds μ Kd h=>by unfold vY at h;split at h <;> first | rfl | exact h.elim) (λjl A fT s H E hr=>⟨_,(fO (FD (dv 1) ⟨(g9 (n:=3) rfl (fQ (qN 2 hJ.nd) (fQ (qN 3 hJ.nd) (fQ (qN 4 hJ.nd) gI)))),(iO (gb (f9 2) (fL 2) (gb (f9 3) (fL 3) (gb (f9 4) (fL 4) iP fU) (fN (fL 4) fU)) (fN (fL 3) (fN (fL 4) fU)))),(iB (fN (fL 2) (fN (fL 3) (fN (fL 4) fU))))⟩)
  (fO (qS 5 hJ.nd (jo (jo (GZ (qm hr) (nW fK.cl fK.sX (dv 0)) (dv 2) (λ_ _=>rfl)) (dv 3)) (dv 4)))
  (fO (qS 6 hJ.nd (GZ (qm hr) (nW fK.cl fK.sX (dv 0)) (G3 (dv 2) fR) (λ_ _=>rfl)))
  (fW (gA (CY false (sq (N:=["middle","self","age","first","behind","before","many"]) (js:=[none,some 0,some 2,some 3,some 4,some 6,some 5]) hJ (by decide +kernel)) (oI rfl T.range (a2 (ot (dv 3) fR) (dv 4))) (λ_ _ _ nd=>(qN 0 nd)) (λ_ _ _=>(p5 (Kc (ot (ot (jo (jo (dv 5) (dv 3)) (dv 0)) (jo (jo (dv 5) (dv 0)) (dv 4))) fR) (dv 6)))) (λ_ _ _=>(pK (a3 (jo (nW fK.cl fK.sY (dv 1)) (dv 0)) (pK (a3 (G3 (dv 2) fR) (dv 3) (dv 0))) (pK (a3 (G3 (dv 2) fR) (dv 0) (dv 4)))))))))))),λds μ Kd hm hl h=>?_⟩)
 unfold vY at h
 split at h
 .rename_i k s
  obtain⟨es,ts,A,j,a,i,b,B,rfl,h1,kk⟩:=h
  have Dx:=B.Dx
  have hb:=B.hb
  have ha:=B.ha
  have oJ:=B.hl
  obtain⟨a',rfl⟩:∃ a',a=a'+1:=⟨a - 1,by lia⟩
  refine⟨rfl,_,tL B.at_ uN,fS (zI ha) (fS (zJ (by lia)) (fS (z9 hb) ?_))⟩
  have ek:uG ((nQ (A+1)).zip (pH es ts (A+1))) (.inl (((a'+1:Nat):Int) - 1))=some (.lst (jW es.length (gw es ts (a'+1)))):=by
   rw[show((a'+1:Nat):Int) - 1=(a':Int) by lia];exact zI (by lia)
  refine⟨_,tL B.at_ uN,fS ek ?_⟩
  refine⟨⟨by lia,by lia,by lia,by lia⟩,?_⟩
  refine⟨by unfold lP;rw[iu,u7];exact sz (by lia),?_⟩
  rw[NH]
  refine m5 trivial _ (λx=>if decide (gw es ts (a'+1) i (i+1+x)+gw es ts (a'+1) (i+1+x) b+1=gw es ts (a'+1+1) i b)=true then some (Gn es (a'+1) i b (i+1+x))else none) (λx hx K' k'=>?_) ?_
  .rw[cg]at hx
   have hx1:i+1+x<b:=by lia
   rw[show(i:Int)+1+(x:Nat)=((i+1+x:Nat):Int) by lia]
   generalize i+1+x=m at hx1 k' ⊢
   refine fS (zJ (by lia)) (fS (z9 (by lia)) (fS (zJ (by lia)) (fS (z9 hb) ?_)))
   refine pI (λq=>?_) (λq=>?_)
   .rw[aB (aI q)]at k'
    have ep:(es.map D.int)[m]?=some (.int (es.getD m 0)):=by rw[oU,getD_some (by lia)];rfl
    refine⟨_,tL B.at_ zw,fS (jQ ep) ⟨zs,zs,zs,?_⟩⟩
    exact k'
   .rw[aC (by rw[aV q];exact aJ)]at k';exact k'
  .rw[Gv]
   rw[Ef,a8]at kk
   rw[show((b:Int) - ((i:Int)+1)).toNat=b - (i+1) by lia]
   exact .keep kk
 .cases h
def pT (F:j4 K "__init__" "BestMakes.__init__" gW f fd)(T:lM mg)(fK:ip K fM)(nv:sm P w K mg fJ)(mL:nX P w K mg fJ)(Dr:vg P w K mg fJ)(Bu:tZ P w K mg fJ):gF P w K mg fJ kW 5 f fd (pA gW) (iG (GI fM)):=by
 refine F.oQ lS (λds μ Kd h=>by unfold GI at h;split at h <;> first | rfl | exact h.elim) (λjl A fT s H E hr=>⟨_,(fO (BX fK.cl fK.sY (qC nv hr (a2 (dv 1) (dv 2))) (dv 0))
  (fO (BX fK.cl fK.KW (qC mL hr (a3 (dv 1) (dv 2) (dv 3))) (dv 0))
  (fO (qS 4 lS.nd (qC Dr hr (a3 (dv 1) (dv 2) (dv 3))))
  (fO (BX fK.cl fK.sX (qC Bu hr (gz (dv 1) (gz (dv 2) (gz (dv 3) (gz (dv 4) kq))))) (dv 0))
  (fO (BX fK.cl fK.sW (pK (a3 (dv 4) fR (G3 (CW T (nW fK.cl fK.sY (dv 0))) fR))) (dv 0))
  (fW (BX fK.cl fK.sZ O6 (dv 0)))))))),λds μ Kd hm hl h=>?_⟩)
 unfold GI at h
 split at h
 .rename_i k n x y
  obtain⟨cs,ts,rfl,rfl,S,AE,hb,hk,kk⟩:=h
  have mZ:=S.mZ
  have XU:k<μ.length:=(kM hk).1
  have at_:∀ {m:MO},(μ.set k m)[k]?=some m:=aN XU
  have oS:(fH n cs).length=cs.length+2:=gy n cs
  obtain⟨es,he⟩:∃ es,es=fH n cs:=⟨_,rfl⟩
  refine⟨cs,rfl,mZ,_,(["places"],[.lst (es.map D.int)]),pv hk,by rw[<- he];kernel_rfl,by decide,?_⟩
  refine⟨cs,ts,rfl,rfl,S,_,(["places","rows"],[.lst (es.map D.int),.lst (ts.map (mE es))]),pv at_,by rw[<- he];kernel_rfl,by show 1<1000;decide,?_⟩
  rw[bZ]
  refine⟨cs,ts,rfl,rfl,S,AE,?_⟩
  unfold rW
  rw[hb]
  intro a ha la
  refine⟨cs,ts,rfl,rfl,S,by lia,by lia,_,(["places","rows","tables"],[.lst (es.map D.int),.lst (ts.map (mE es)),.jC (nQ (a+1)) (pH es ts (a+1))]),pv at_,by rw[<- he];kernel_rfl,by show 2<1000;decide,?_⟩
  rw[bZ]
  refine⟨_,tL at_ (d:=.lst (es.map D.int)) (by kernel_rfl),fS rfl ⟨zs,?_⟩⟩
  have el:((es.map D.int).length:Int) - 1=((es.length - 1:Nat):Int):=by rw[iu,he];lia
  refine⟨_,(["places","rows","tables","whole"],[.lst (es.map D.int),.lst (ts.map (mE es)),.jC (nQ (a+1)) (pH es ts (a+1)),rJ a 0 (es.length - 1)]),pv at_,by show putN "whole" (.tup [.int a,.int 0,.int (((es.map D.int).length:Int) - 1)]) _ _=_;rw[el];kernel_rfl,by show 3<1000;decide,?_⟩
  rw[bZ]
  have at2:∀ {m m':MO},(μ.set k m++[m'])[k]?=some m:=λ{m m'}=>by rw[vR (by rw[bW];exact XU)];exact at_
  refine⟨_,(A9,Dk es ts a μ.length),pv at2,by rw[bW];kernel_rfl,by show 4<1000;decide,.keep ?_⟩
  have kk:=kk a ha (he▸la)
  rw[List.set_append_left _ _ (by rw[bW];exact XU),bZ,he]
  exact kk
 .cases h
def oG {f:ai}{fd:ag}(F:j4 K "count_anew" "BestMakes.count_anew" gL f fd)(T:lM mg)(fK:ip K fM){l n:Nat}(hl:1<=l)(gq:hZ P w K mg fJ)(fX:gJ P w K mg fJ)(gu:ij P w K mg fJ)(fV:xV P w K mg fJ fM "counted" l ["self","stretch"] (iG (uF fM n))):gF P w K mg fJ kW (l+1) f fd ["self","stretch"] (iG (uF fM (n+1))):=by
 refine F.oQ gT (λds μ Kd h=>by unfold uF at h;split at h <;> first | rfl | exact h.elim) (λjl A fT s H E hr=>⟨_,(fO (jd (jc (ja gq fK.cl hr.le (dv 0) (a1 (dv 1))))
  (fW (gA (CW T (ja fX fK.cl hr.le (dv 0) (a1 (dv 1))))))
  hG)
  (fO (qS 2 gT.nd fR)
  (fO (m7 bM rfl (jA (ja gu fK.cl hr.le (dv 0) (a1 (dv 1)))) ⟨(g9 (n:=3) rfl (fQ (qN 3 gT.nd) (fQ (qN 4 gT.nd) (fQ (qN 5 gT.nd) gI)))),(iO (gb (f9 3) (fL 3) (gb (f9 4) (fL 4) (gb (f9 5) (fL 5) iP fU) (fN (fL 5) fU)) (fN (fL 4) (fN (fL 5) fU)))),(iB (fN (fL 3) (fN (fL 4) (fN (fL 5) fU))))⟩
  (fW (BY (i:=2) gT.nd rfl lo (pU KY sH (ja fV fK.cl hr.le (dv 0) (a1 (dv 4))) (ja fV fK.cl hr.le (dv 0) (a1 (dv 5)))) tx wJ)))
  (fW (gA (dv 2)))))),λds μ Kd hm hl h=>?_⟩)
 unfold uF at h
 split at h
 .rename_i k s
  obtain⟨es,ts,A,j,a,i,b,ks,dd,B,rfl,XY,h1,vP,hj,mm,kk⟩:=h
  have Dx:=B.Dx
  have hb:=B.hb
  have ha:=B.ha
  have oJ:=B.hl
  have vO:=B.ht
  have hA:=B.hA
  have iA:=B.ok
  refine⟨mG B.at_ (mJ (by simp)),es,ts,A,j,a,i,b,B,rfl,?_⟩
  refine kL (c:=gw es ts (a+1) i b=0) (λq=>?_) (λq=>?_)
  .refine⟨mG B.at_ (mJ (by simp)),es,ts,A,j,a,i,b,B,rfl,fS rfl (.keep ?_)⟩
   have kk:=kk ks dd mm
   rw[ka hj]at kk
   unfold iM at kk
   rw[aB q]at kk
   rw[iu]
   exact kk
  .have ZU:a≠0:=λz=>by subst z;exact q (h1.z i b (by lia) hb iA)
   obtain⟨a',rfl⟩:∃ a',a=a'+1:=⟨a - 1,by lia⟩
   refine⟨mG B.at_ (mJ (by simp)),es,ts,A,j,a'+1,i,b,B,rfl,by lia,?_⟩
   rw[AF]
   obtain⟨M,hM⟩:∃ M,M=mV (gw es ts (a'+1+1)) (gw es ts (a'+1)) i b:=⟨_,rfl⟩
   rw[<- hM]
   obtain⟨g,hg⟩:∃ g:Nat->Int,g=λx=>iM es ts (a'+1) i x*iM es ts (a'+1) x b:=⟨_,rfl⟩
   have QE:∀ x∈M,i<x/\x<b/\gw es ts (a'+1) i x+gw es ts (a'+1) x b+1=gw es ts (a'+1+1) i b:=λx hx=>jb.mp (hM▸hx)
   refine fS rfl ?_
   refine iY (λds ρ gc=>∃(z:Nat) (mv:ao (ao Key)) (lN:ao D) (u v w:aq D),ds=(M.drop z).map (λk=>D.tup [.int (es.getD k 0),rJ a' i k,rJ a' k b])/\Memo es ts A mv lN/\ρ=[some (.mr k),some (rJ ((a'+1:Nat):Int) i b),some (.int ((M.take z).map g).sum),u,v,w]/\gc=μ.set j (.lA mv lN)) ⟨0,ks,dd,none,none,none,rfl,mm,rfl,(ka hj).symm⟩ ?_ ?_
   .rintro d xG ρ gc ⟨z,mv,lN,u,v,w,e,KZ,rfl,rfl⟩
    refine⟨trivial,λnx qY=>?_⟩
    have hz:z<M.length:=by
     by_cases y:z<M.length
     .exact y
     .rw[bz (by lia)]at e;cases e
    rw[bu hz,aw,b9]at e
    obtain⟨rfl,rfl⟩:=e
    obtain⟨x1,x2,x3⟩:=QE _ (bI hz)
    have OU:=sF (f:=g) hz
    generalize M[z]=x at x1 x2 x3 OU ⊢
    have n1:=h1.nn (a'+1) i x (by lia) (by lia)
    have n2:=h1.nn (a'+1) x b (by lia) hb
    have Dw:j<μ.length:=(kM hj).1
    have B':=B.put (m:=.lA mv lN) vP
    have Bl:Bm fM (μ.set j (.lA mv lN)) k es ts A j a' i x:=⟨B'.at_,by lia,x1,by lia,oJ,vO,hA,by lia⟩
    refine⟨rfl,mG B'.at_ (mJ (by simp)),es,ts,A,j,a',i,x,mv,lN,Bl,rfl,by lia,h1,vP,aN Dw,KZ,λDu Dy HU=>?_⟩
    rw[bZ]
    have B2:=B.put (m:=.lA Du Dy) vP
    have Br:Bm fM (μ.set j (.lA Du Dy)) k es ts A j a' x b:=⟨B2.at_,by lia,x2,hb,oJ,vO,hA,by lia⟩
    refine⟨mG B2.at_ (mJ (by simp)),es,ts,A,j,a',x,b,Du,Dy,Br,rfl,by lia,h1,vP,aN Dw,HU,λOw O3 Qy=>?_⟩
    rw[bZ]
    refine⟨AZ oJ vO (a'+1) i x b x1 x2 hb,?_⟩
    refine qY _ _ ⟨z+1,Ow,O3,some (.int (es.getD x 0)),some (rJ a' i x),some (rJ a' x b),rfl,Qy,?_,rfl⟩
    rw[OU,hg]
    rfl
   .rintro ρ gc ⟨z,mv,lN,u,v,w,e,KZ,rfl,rfl⟩
    refine⟨trivial,?_⟩
    have hz:M.length<=z:=by
     have:=cA List.length e
     rw[iu,bA]at this
     simp at this
     lia
    rw[bQ hz]
    have kk:=kk mv lN KZ
    unfold iM at kk
    rw[aC q,<- hM]at kk
    rw[hg]
    exact .keep kk
 .cases h
def mF {f:ai}{fd:ag}(F:j4 K "counted" "BestMakes.counted" hV f fd)(T:lM mg)(fK:ip K fM){l n:Nat}(pG:xV P w K mg fJ fM "count_anew" l ["self","stretch"] (iG (uF fM n))):gF P w K mg fJ kW (l+1) f fd ["self","stretch"] (iG (uF fM n)):=by
 refine F.oQ p9 (λds μ Kd h=>by unfold uF at h;split at h <;> first | rfl | exact h.elim) (λjl A fT s H E hr=>⟨_,(vh (jd (JF (qm hr) (dv 1) (nW fK.cl fK.sZ (dv 0)) (by with_unfolding_all rfl))
  (fW (RD (qm hr) (ja pG fK.cl hr.le (dv 0) (a1 (dv 1))) (nW fK.cl fK.sZ (dv 0)) (dv 1)))
  hG)
  (fW (gA (WC (qm hr) (nW fK.cl fK.sZ (dv 0)) (dv 1) (λ_ _=>rfl))))),λds μ Kd hm hl h=>?_⟩)
 unfold uF at h
 split at h
 .rename_i k s
  obtain⟨es,ts,A,j,a,i,b,ks,dd,B,rfl,XY,h1,vP,hj,mm,kk⟩:=h
  have ha:=B.ha
  have Dx:=B.Dx
  have hb:=B.hb
  have oJ:=B.hl
  have hA:=B.hA
  have Dw:j<μ.length:=(kM hj).1
  have bd:∀ {mv:ao (ao Key)} {lN:ao D},Memo es ts A mv lN->mv.length<sizeLine:=λm=>by
   have h2:=m.bd
   have h3:(A+1)*es.length*es.length<=101*100*100:=Nat.mul_le_mul (Nat.mul_le_mul (by lia) oJ) oJ
   exact cq (aW h2 h3) (by decide)
  have fin:∀ {mv:ao (ao Key)} {lN:ao D},Memo es ts A mv lN->stK a i b∈mv->WE (wc WL (WS fM "counts" (vz 0)) (vz 1)) (J0 μ.length Kd) [some (.mr k),some (rJ a i b)] (μ.set j (.lA mv lN)):=λ{mv lN} m xl=>by
   have B':=B.put (m:=.lA mv lN) vP
   rcases m.get a i b with⟨z,_⟩|⟨_,z⟩
   .exact absurd xl z
   .refine⟨_,tL B'.at_ uO,_,?_,.keep (kk mv lN m)⟩
    unfold UD LU
    rw[aN Dw]
    exact cA some z
  refine⟨λj7 gc=>∃ mv lN,Memo es ts A mv lN/\stK a i b∈mv/\j7=[some (.mr k),some (rJ a i b)]/\gc=μ.set j (.lA mv lN),?_,?_⟩
  .have ei:UD μ j (rJ a i b)=some (sE ks dd (stK a i b)):=by
    unfold UD LU
    rw[hj];rfl
   refine⟨_,tL B.at_ uO,_,ei,?_⟩
   rcases mm.get a i b with⟨z1,z2⟩|⟨z1,z2⟩
   .rw[z2]
    refine Y8 ?_
    refine⟨mG B.at_ (mJ (by simp)),es,ts,A,j,a,i,b,ks,dd,B,rfl,XY,h1,vP,hj,mm,λDu Dy HU=>?_⟩
    have B2:=B.put (m:=.lA Du Dy) vP
    refine⟨_,tL B2.at_ uO,Du,Dy,stK a i b,aN Dw,bd HU,rfl,?_⟩
    rw[bZ]
    obtain⟨m1,m2⟩:=HU.put (i:=i) ha (by lia) hb
    exact⟨_,_,m1,m2,rfl,rfl⟩
   .rw[z2]
    refine Y9 ?_
    exact⟨ks,dd,mm,z1,rfl,(ka hj).symm⟩
  .rintro j7 gc ⟨mv,lN,m,xl,rfl,rfl⟩
   exact fin m xl
 .cases h
def yT {f1 f2:ai}{GA X2:ag}(F1:j4 K "counted" "BestMakes.counted" hV f1 GA)(F2:j4 K "count_anew" "BestMakes.count_anew" gL f2 X2)(T:lM mg)(fK:ip K fM)(m1:Meth K fM "counted" f1)(m2:Meth K fM "count_anew" f2)(b1:Binds K GA ["self","stretch"] [])(b2:Binds K X2 ["self","stretch"] [])(gq:hZ P w K mg fJ)(fX:gJ P w K mg fJ)(gu:ij P w K mg fJ):∀ n,gF P w K mg fJ kW (2*n+2) f1 GA ["self","stretch"] (iG (uF fM n))
 |0=>mF F1 T fK (l:=1) ⟨f2,X2,.never Iy,m2,b2⟩
 |n+1=>mF F1 T fK (l:=2*n+3) ⟨f2,X2,oG F2 T fK (by lia) gq fX gu ⟨f1,GA,yT F1 F2 T fK m1 m2 b1 b2 gq fX gu n,m1,b1⟩,m2,b2⟩
def yj (F:j4 K "count_best" "count_best" jN f fd)(T:lM mg)(fK:ip K fM)(ny:qv P w K mg fJ)(iT:jx P w K mg fJ)(fV:h9 P w K mg fJ):gF P w K mg fJ kW 145 f fd (pA jN) (iG pz):=by
 refine F.oQ rj (λds μ Kd h=>by unfold pz at h;split at h <;> first | rfl | exact h.elim) (λjl A fT s H E hr=>⟨_,(fO (jd (rG (qC ny hr (a3 (dv 0) (dv 1) (dv 2))))
  (fW (gA fR))
  hG)
  (fO (qS 3 rj.nd (EJ iT hr.le rfl (a3 (dv 0) (dv 1) (dv 2))))
  (fW (gA (ja fV fK.cl hr.le (dv 3) (a1 (nW fK.cl fK.sW (dv 3)))))))),λds μ Kd hm hl h=>?_⟩)
 unfold pz at h
 split at h
 .rename_i n x y
  obtain⟨cs,ts,rfl,rfl,S,AE,kk⟩:=h
  have mZ:=S.mZ
  have oS:(fH n cs).length=cs.length+2:=gy n cs
  have ft:=S.takes.mZ
  refine⟨cs,ts,rfl,rfl,mZ,S.takes,S.n2,?_⟩
  unfold cntK at kk
  cases hb:jG (fH n cs) ts with
  | some p =>
   rw[hb]at kk
   exact .keep kk
  | none =>
   rw[hb]at kk
   dsimp only at kk
   refine⟨cs,ts,rfl,rfl,S,AE,hb,by rw[pX (ar _),a6];rfl,λa ha la=>⟨rfl,?_⟩⟩
   have kk:=kk a ha la
   obtain⟨es,he⟩:∃ es,es=fH n cs:=⟨_,rfl⟩
   have tl:=qz S la
   have sd:=(wM S (a+1) 0 (cs.length+1) (by lia) (by lia)).2 (by lia)
   have tb:=wB S
   rw[<- he]at tl sd tb kk oS ⊢
   obtain⟨g,hg⟩:∃ g,g=(μ++[MO.ins fM [] []]).set μ.length (.ins fM A9 (Dk es ts a (μ++[MO.ins fM [] []]).length))++[.lA [] []]:=⟨_,rfl⟩
   rw[<- hg]
   have eg:g=μ++[.ins fM A9 (Dk es ts a (μ.length+1)),.lA [] []]:=by
    rw[hg,dD _ _ (ar _),a6,cG,oq];rfl
   have e0:g[μ.length]?=some (.ins fM A9 (Dk es ts a (μ.length+1))):=by rw[eg,pX (ar _),a6];rfl
   have e1:g[μ.length+1]?=some (.lA [] []):=by rw[eg,pX (by lia),show μ.length+1 - μ.length=1 by lia];rfl
   have B:Bm fM g μ.length es ts a (μ.length+1) a 0 (es.length - 1):=⟨e0,ar _,by lia,by lia,by lia,by lia,by lia,by rw[show es.length - 1=cs.length+1 by lia];lia⟩
   refine⟨mG e0 (mJ (by simp)),_,tL e0 ua,es,ts,a,μ.length+1,a,0,es.length - 1,[],[],B,rfl,by lia,tb,by lia,e1,.nil,λmv lN m=>?_⟩
   refine .drop True.intro ?_ ?_
   .intro j m' hj e
    rw[aQ (by lia),eg,vR hj]at e
    exact hm j m' e
   .rw[List.take_set_of_le (by lia),eg,cf]
    exact kk
 .cases h
def pS {f:ai}{fd:ag}(F:j4 K "numbered" "BestMakes.numbered" gU f fd)(T:lM mg)(fK:ip K fM){l n:Nat}(hl:144<=l)(hn:n<=70)(gq:hZ P w K mg fJ)(fX:gJ P w K mg fJ)(gu:ij P w K mg fJ)(fV:h9 P w K mg fJ)(jy:xV P w K mg fJ fM "numbered" l ["self","stretch","number"] (iG (vc fM n))):gF P w K mg fJ kW (l+1) f fd ["self","stretch","number"] (iG (vc fM (n+1))):=by
 refine F.oQ gQ (λds μ Kd h=>by unfold vc at h;split at h <;> first | rfl | exact h.elim) (λjl A fT s H E hr=>⟨_,(fO (jd (jc (ja gq fK.cl hr.le (dv 0) (a1 (dv 1))))
  (fW (gA (jo (ja fX fK.cl hr.le (dv 0) (a1 (dv 1))) (dv 2))))
  hG)
  (fO (qS 3 gQ.nd (dv 2))
  (fW (m7 bM rfl (jA (ja gu fK.cl hr.le (dv 0) (a1 (dv 1)))) ⟨(g9 (n:=3) rfl (fQ (qN 4 gQ.nd) (fQ (qN 5 gQ.nd) (fQ (qN 6 gQ.nd) gI)))),(iO (gb (f9 4) (fL 4) (gb (f9 5) (fL 5) (gb (f9 6) (fL 6) iP fU) (fN (fL 6) fU)) (fN (fL 5) (fN (fL 6) fU)))),(iB (fN (fL 4) (fN (fL 5) (fN (fL 6) fU))))⟩
  (fO (qS 7 gQ.nd (ja fV fK.cl hr.le (dv 0) (a1 (dv 6))))
  (fO (jd (Vs (dv 3) (pU KY sH (ja fV fK.cl hr.le (dv 0) (a1 (dv 5))) (dv 7)))
  (fW (gA (pK (a3 (dv 4) (ja jy fK.cl hr.le (dv 0) (a2 (dv 5) (pU Cc Nw (dv 3) (dv 7)))) (ja jy fK.cl hr.le (dv 0) (a2 (dv 6) (pU Ap Qj (dv 3) (dv 7))))))))
  hG)
  (fW (BY (i:=3) gQ.nd rfl lo (pU KY sH (ja fV fK.cl hr.le (dv 0) (a1 (dv 5))) (dv 7)) OF wJ)))))))),λds μ Kd hm hl h=>?_⟩)
 unfold vc at h
 split at h
 .rename_i k s r
  obtain⟨es,ts,A,j,a,i,b,ks,dd,B,rfl,XY,h1,vP,hj,mm,r0,r1,kk⟩:=h
  have Dx:=B.Dx
  have hb:=B.hb
  have ha:=B.ha
  have oJ:=B.hl
  have vO:=B.ht
  have hA:=B.hA
  have iA:=B.ok
  refine⟨mG B.at_ (mJ (by simp)),es,ts,A,j,a,i,b,B,rfl,?_⟩
  refine kL (c:=gw es ts (a+1) i b=0) (λq=>?_) (λq=>?_)
  .refine⟨mG B.at_ (mJ (by simp)),es,ts,A,j,a,i,b,B,rfl,?_⟩
   have kk:=kk ks dd mm
   rw[ka hj]at kk
   unfold iM at r1
   rw[aB q]at r1
   unfold wq at kk
   rw[aB q]at kk
   have e1:(qh es ts a i b)[r.toNat]?=some ((qh es ts a i b).getD r.toNat 0):=by rw[aA,jk (by lia)];rfl
   have e2:lO ((qh es ts a i b).map λx=>D.int (x:Nat)) r=some (.int ((qh es ts a i b).getD r.toNat 0:Nat)):=by
    have:=oP (g:=λx:Nat=>D.int (x:Nat)) e1
    rwa [cI r0]at this
   exact fS e2 (.keep kk)
  .have ZU:a≠0:=λz=>by subst z;exact q (h1.z i b (by lia) hb iA)
   obtain⟨a',rfl⟩:∃ a',a=a'+1:=⟨a - 1,by lia⟩
   refine⟨mG B.at_ (mJ (by simp)),es,ts,A,j,a'+1,i,b,B,rfl,by lia,?_⟩
   rw[AF]
   obtain⟨M,hM⟩:∃ M,M=mV (gw es ts (a'+1+1)) (gw es ts (a'+1)) i b:=⟨_,rfl⟩
   rw[<- hM]
   obtain⟨g,hg⟩:∃ g:Nat->Int,g=λx=>iM es ts (a'+1) i x*iM es ts (a'+1) x b:=⟨_,rfl⟩
   have QE:∀ x∈M,i<x/\x<b/\gw es ts (a'+1) i x+gw es ts (a'+1) x b+1=gw es ts (a'+1+1) i b:=λx hx=>jb.mp (hM▸hx)
   have gnn:∀ x∈M,0<=g x:=λx hx=>by
    have:=QE x hx
    rw[hg]
    exact dQ (kN oJ vO (a'+1) i x this.1 (by lia)).1 (kN oJ vO (a'+1) x b this.2.1 hb).1
   unfold iM at r1
   rw[aC q,<- hM,<- hg]at r1
   unfold wq at kk
   rw[aC q,<- hM,<- hg]at kk
   refine fS rfl ?_
   refine iY (λds ρ gc=>∃(z:Nat) (mv:ao (ao Key)) (lN:ao D) (u v w m:aq D),ds=(M.drop z).map (λk=>D.tup [.int (es.getD k 0),rJ a' i k,rJ a' k b])/\Memo es ts A mv lN/\0<=r - ((M.take z).map g).sum/\ρ=[some (.mr k),some (rJ ((a'+1:Nat):Int) i b),some (.int r),some (.int (r - ((M.take z).map g).sum)),u,v,w,m]/\gc=μ.set j (.lA mv lN)) ⟨0,ks,dd,none,none,none,none,rfl,mm,by simpa using r0,by simp;rfl,(ka hj).symm⟩ ?_ ?_
   .rintro d xG ρ gc ⟨z,mv,lN,u,v,w,m,e,KZ,rn,rfl,rfl⟩
    refine⟨trivial,λnx qY=>?_⟩
    have hz:z<M.length:=by
     by_cases y:z<M.length
     .exact y
     .rw[bz (by lia)]at e;cases e
    rw[bu hz,aw,b9]at e
    obtain⟨rfl,rfl⟩:=e
    obtain⟨x1,x2,x3⟩:=QE _ (bI hz)
    have OU:=sF (f:=g) hz
    have ez:M[z]?=some M[z]:=jk hz
    generalize M[z]=x at x1 x2 x3 OU ez ⊢
    have n1:=h1.nn (a'+1) i x (by lia) (by lia)
    have n2:=h1.nn (a'+1) x b (by lia) hb
    have Dw:j<μ.length:=(kM hj).1
    have Bl:∀ {ks:ao (ao Key)} {dd:ao D},Bm fM (μ.set j (.lA ks dd)) k es ts A j a' i x:=λ{ks dd}=>⟨(B.put (m:=.lA ks dd) vP).at_,by lia,x1,by lia,oJ,vO,hA,by lia⟩
    have Br:∀ {ks:ao (ao Key)} {dd:ao D},Bm fM (μ.set j (.lA ks dd)) k es ts A j a' x b:=λ{ks dd}=>⟨(B.put (m:=.lA ks dd) vP).at_,by lia,x2,hb,oJ,vO,hA,by lia⟩
    have at_:∀ {m:MO},(μ.set j m)[j]?=some m:=aN Dw
    have c2:=kN oJ vO (a'+1) x b x2 hb
    refine⟨rfl,mG Br.at_ (mJ (by simp)),es,ts,A,j,a',x,b,mv,lN,Br,rfl,by lia,h1,vP,at_,KZ,λDu Dy HU=>?_⟩
    rw[bZ]
    refine⟨mG Bl.at_ (mJ (by simp)),es,ts,A,j,a',i,x,Du,Dy,Bl,rfl,by lia,h1,vP,at_,HU,λOw O3 Qy=>?_⟩
    rw[bZ]
    refine⟨AZ oJ vO (a'+1) i x b x1 x2 hb,?_⟩
    obtain⟨v,hv⟩:∃ v,v=r - ((M.take z).map g).sum:=⟨_,rfl⟩
    rw[<- hv]at rn ⊢
    have gx:g x=iM es ts (a'+1) i x*iM es ts (a'+1) x b:=by rw[hg]
    refine kL (c:=v<iM es ts (a'+1) i x*iM es ts (a'+1) x b) (λq2=>?_) (λq2=>?_)
    .have pos:0<iM es ts (a'+1) x b:=by
      rcases eO c2.1 with y|y
      .exact y
      .rw[<- y,Int.mul_zero]at q2;lia
     have d1:0<=v / iM es ts (a'+1) x b:=Int.ediv_nonneg rn c2.1
     have d2:v / iM es ts (a'+1) x b<iM es ts (a'+1) i x:=fE pos q2
     have m1:=dt v (show iM es ts (a'+1) x b≠0 by lia)
     have m2:=dr v pos
     have pk:=(sR (f:=g) gnn ez rn (by rw[gx];exact q2)).1
     rw[show((M.take z).map g).sum+v=r by lia]at pk
     rw[pk]at kk
     dsimp only at kk
     refine⟨mG Bl.at_ (mJ (by simp)),T9 oJ vO x2 hb pos,es,ts,A,j,a',i,x,Ow,O3,Bl,rfl,by lia,h1,vP,at_,Qy,d1,d2,λSx TJ Ss=>?_⟩
     rw[bZ]
     refine⟨mG Br.at_ (mJ (by simp)),pos,es,ts,A,j,a',x,b,Sx,TJ,Br,rfl,by lia,h1,vP,at_,Ss,m1,m2,λks5 dd5 mm5=>?_⟩
     rw[bZ]
     exact⟨zs,.keep (kk ks5 dd5 mm5)⟩
    .refine mQ ?_
     refine⟨mG Bl.at_ (mJ (by simp)),es,ts,A,j,a',i,x,Ow,O3,Bl,rfl,by lia,h1,vP,at_,Qy,λSx TJ Ss=>?_⟩
     rw[bZ]
     refine⟨AZ oJ vO (a'+1) i x b x1 x2 hb,?_⟩
     refine qY _ _ ⟨z+1,Sx,TJ,some (.int (es.getD x 0)),some (rJ a' i x),some (rJ a' x b),some (.int (iM es ts (a'+1) x b)),rfl,Ss,by rw[OU,gx];lia,?_,rfl⟩
     rw[OU,gx,show r - (((M.take z).map g).sum+iM es ts (a'+1) i x*iM es ts (a'+1) x b)=v - iM es ts (a'+1) i x*iM es ts (a'+1) x b by lia]
     rfl
   .rintro ρ gc ⟨z,mv,lN,u,v,w,m,e,KZ,rn,rfl,rfl⟩
    exfalso
    have hz:M.length<=z:=by
     have:=cA List.length e
     rw[iu,bA]at this
     simp at this
     lia
    rw[bQ hz]at rn
    lia
 .cases h
def FV {f1:ai}{GA:ag}(F1:j4 K "numbered" "BestMakes.numbered" gU f1 GA)(T:lM mg)(fK:ip K fM)(m1:Meth K fM "numbered" f1)(b1:Binds K GA ["self","stretch","number"] [])(gq:hZ P w K mg fJ)(fX:gJ P w K mg fJ)(gu:ij P w K mg fJ)(fV:h9 P w K mg fJ)   : ∀ n,n<=71->gF P w K mg fJ kW (n+145) f1 GA ["self","stretch","number"] (iG (vc fM n))
 |0,_=>.never EC
 |n+1,h=>pS F1 T fK (l:=n+145) (by lia) (by lia) gq fX gu fV ⟨f1,GA,FV F1 T fK m1 b1 gq fX gu fV n (by lia),m1,b1⟩
def Aj (F:j4 K "take_rank" "take_rank" kb f fd)(T:lM mg)(i9:OwnCls "BadMake" jF Rc "ValueError.__new__" mg fJ):gF P w K mg fJ (xZ P w) 1 f fd (pA kb) (zN (oM jF)):=by
 refine F.XH zX (λds μ Kd Kx h=>yr h) (λjl A fT s H E hr jh Kb Z=>⟨_,(fO (jd (kS (niM (BO (n:=1) hr (by decide))) Ru (dv 1) (dv 0) (by with_unfolding_all rfl))
  (fW (qD Z rfl i9 a9 (by decide) a9 rfl (a1 kC)))
  hG)
  (fW (gA (AX cR eS PySem.F.type_list_index Li BV (dv 0) (a1 (dv 1)))))),λds μ m Kd Kx hm hl em h hK=>?_⟩)
 unfold oM at h
 split at h
 .rename_i y x
  obtain⟨_,l,t,rfl,ll,rfl,kk⟩:=h
  cases t with
  |lC p u v=>exact⟨List.all_eq_true.mpr λd hd=>by obtain⟨x,_,rfl⟩:=List.mem_map.mp hd;rfl,zs,tI hK em kk⟩
  | num n =>
   refine⟨rfl,List.all_eq_true.mpr λd hd=>by obtain⟨x,_,rfl⟩:=List.mem_map.mp hd;rfl,?_⟩
   rw[RG]
   cases e:Vk l (.num n)with
   |none=>rw[e]at kk;exact⟨zs,tI hK em kk⟩
   | some r =>
    rw[e]at kk
    have e:(l.findIdx? λx:Nat=>decide ((x:Int)=n)).map (λi=>((i:Nat):Int))=some r:=e
    cases e2:l.findIdx? λx:Nat=>decide ((x:Int)=n)with
    |none=>rw[e2]at e;cases e
    | some z =>
     rw[e2]at e
     cases e
     obtain⟨e3,e4,e5⟩:=List.findIdx?_eq_some_iff_getElem.mp e2
     rw[bq]at e4
     refine⟨(by first|trivial|rfl),l.map λx:Nat=>(x:Int),z,by rw[a8];rfl,by rw[oU,jk e3];exact cA some e4,λm hm e6=>?_,.keep (CJ em kk)⟩
     have:=e5 m hm
     rw[bq]at this
     rw[oU,jk (by lia)]at e6
     exact this (aM e6)
 .cases h
def sV {f:ai}{fd:ag}(F:j4 K "rank" "BestMakes.rank" iL f fd)(T:lM mg)(fK:ip K fM)(i9:OwnCls "BadMake" jF Rc "ValueError.__new__" mg fJ){l n:Nat}(hl:144<=l)(hn:n<=70)(gq:hZ P w K mg fJ)(fX:gJ P w K mg fJ)(gu:ij P w K mg fJ)(fV:h9 P w K mg fJ)(n0:qt P w K mg fJ)(kB:Hi P w K mg fJ fM "rank" l ["self","stretch","make"] (zN (tM fM jF n))):gF P w K mg fJ (xZ P w) (l+1) f fd ["self","stretch","make"] (zN (tM fM jF (n+1))):=by
 refine F.XH iU (λds μ Kd Kx h=>Iw h) (λjl A fT s H E hr jh Kb Z=>⟨_,(fO (jd (jc (ja gq fK.cl hr.le (dv 0) (a1 (dv 1))))
  (fW (gA (O8 Z.z n0 hr.le rfl (a2 (ja fX fK.cl hr.le (dv 0) (a1 (dv 1))) (dv 2)))))
  hG)
  (fO (jd (uU (jc (rD (T:= "tuple") (by simp) (by rfl) T.isinstance (by rfl) T.tuple cS (dv 2))))
  (fW (qD Z rfl i9 a9 (by decide) a9 rfl (a1 kC)))
  hG)
  (fO (qS 3 iU.nd fR)
  (fO (m7 PassesOwn.leaving rfl (jA (ja gu fK.cl hr.le (dv 0) (a1 (dv 1)))) ⟨(g9 (n:=3) rfl (fQ (qN 4 iU.nd) (fQ (qN 5 iU.nd) (fQ (qN 6 iU.nd) gI)))),(iO (gb (f9 4) (fL 4) (gb (f9 5) (fL 5) (gb (f9 6) (fL 6) iP fU) (fN (fL 6) fU)) (fN (fL 5) (fN (fL 6) fU)))),(iB (fN (fL 4) (fN (fL 5) (fN (fL 6) fU))))⟩
  (fO (jd (Kc (dv 4) (jo (dv 2) fR))
  (fW (gA (ot (ot (dv 3) (pU KY sH (AY Z.z kB fK.cl hr.le (dv 0) (a2 (dv 5) (jo (dv 2) fR))) (ja fV fK.cl hr.le (dv 0) (a1 (dv 6))))) (AY Z.z kB fK.cl hr.le (dv 0) (a2 (dv 6) (jo (dv 2) fR))))))
  hG)
  (fW (BY (i:=3) iU.nd rfl lo (pU KY sH (ja fV fK.cl hr.le (dv 0) (a1 (dv 5))) (ja fV fK.cl hr.le (dv 0) (a1 (dv 6)))) tx wJ))))
  (fW (qD Z rfl i9 a9 (by decide) a9 rfl (a1 kC))))))),λds μ m Kd Kx hm hl em h hK=>?_⟩)
 unfold tM at h
 split at h
 .rename_i k s x
  obtain⟨_,es,ts,A,j,a,i,b,ks,dd,t,B0,rfl,rfl,XY,h1,hu,vP,Wd,QH,hj,mm,kk⟩:=h
  have B:Bm fM (μ.set 0 (.gx jh H)) k es ts A j a i b:=B0.NB Wd
  have Dx:=B.Dx
  have hb:=B.hb
  have ha:=B.ha
  have oJ:=B.hl
  have vO:=B.ht
  have hA:=B.hA
  have iA:=B.ok
  have Dw:j<μ.length:=(kM hj).1
  have QV:∀ {X:MO},(μ.set j X)[0]?=some m:=by intro X;rw[aQ QH];exact em
  have sw:∀ {X:MO},(μ.set 0 (.gx jh H)).set j X=(μ.set j X).set 0 (.gx jh H):=by intro X;exact List.set_comm _ _ (bo QH)
  have aj:∀ {X:MO},((μ.set j X).set 0 (.gx jh H))[j]?=some X:=by intro X;rw[aQ (bo QH),aN Dw]
  have sj:∀ {X Y:MO},((μ.set j X).set 0 (.gx jh H)).set j Y=(μ.set j Y).set 0 (.gx jh H):=by intro X Y;exact(List.set_comm _ _ (bo QH)).trans (by rw[bZ])
  have e0:μ.set 0 (.gx jh H)=(μ.set j (.lA ks dd)).set 0 (.gx jh H):=by rw[ka hj]
  refine⟨mG B.at_ (mJ (by simp)),es,ts,A,j,a,i,b,B,rfl,?_⟩
  refine kL (c:=gw es ts (a+1) i b=0) (λq=>?_) (λq=>?_)
  .refine⟨mG B.at_ (mJ (by simp)),es,ts,A,j,a,i,b,B,rfl,oK em,⟨_,oK em⟩,qh es ts a i b,t,rfl,by have:=Gb es ts a i b;lia,rfl,?_⟩
   unfold yO at kk
   rw[aB q]at kk
   cases e:Vk (qh es ts a i b) t with
   | none =>
    rw[e]at kk
    have kk:=kk ks dd mm
    rw[ka hj]at kk
    exact(tI hK em kk).2
   | some r =>
    rw[e]at kk
    have kk:=kk ks dd mm
    rw[ka hj]at kk
    exact .keep (CJ em kk)
  .have ZU:a≠0:=λz=>by subst z;exact q (h1.z i b (by lia) hb iA)
   obtain⟨a',rfl⟩:∃ a',a=a'+1:=⟨a - 1,by lia⟩
   unfold yO at kk
   rw[aC q]at kk
   refine fS (BP t _) ?_
   cases t with
   | num v =>
    have kk:=kk ks dd mm
    rw[ka hj]at kk
    exact⟨zs,tI hK em kk⟩
   | lC p u v =>
    dsimp only at kk
    refine⟨mG B.at_ (mJ (by simp)),es,ts,A,j,a'+1,i,b,B,rfl,by lia,?_⟩
    rw[AF]
    obtain⟨M,hM⟩:∃ M,M=mV (gw es ts (a'+1+1)) (gw es ts (a'+1)) i b:=⟨_,rfl⟩
    rw[<- hM]at kk ⊢
    obtain⟨g,hg⟩:∃ g:Nat->Int,g=λx=>iM es ts (a'+1) i x*iM es ts (a'+1) x b:=⟨_,rfl⟩
    rw[<- hg]at kk
    have QE:∀ x∈M,i<x/\x<b/\gw es ts (a'+1) i x+gw es ts (a'+1) x b+1=gw es ts (a'+1+1) i b:=λx hx=>jb.mp (hM▸hx)
    rw[e0]
    refine fS rfl ?_
    refine iY (λds ρ gc=>∃(z:Nat) (mv:ao (ao Key)) (lN:ao D) (v4 v5 v6:aq D),ds=(M.drop z).map (λk=>D.tup [.int (es.getD k 0),rJ a' i k,rJ a' k b])/\Memo es ts A mv lN/\(∀ x∈M.take z,es.getD x 0≠p)/\ρ=[some (.mr k),some (rJ ((a'+1:Nat):Int) i b),some (rp (.lC p u v)),some (.int ((M.take z).map g).sum),v4,v5,v6]/\gc=(μ.set j (.lA mv lN)).set 0 (.gx jh H)) ⟨0,ks,dd,none,none,none,rfl,mm,λx hx=>(nomatch hx),rfl,rfl⟩ ?_ ?_
    .rintro d xG ρ gc ⟨z,mv,lN,v4,v5,v6,e,KZ,UI,rfl,rfl⟩
     refine⟨trivial,λnx qY=>?_⟩
     have hz:z<M.length:=by
      by_cases y:z<M.length
      .exact y
      .rw[bz (by lia)]at e;cases e
     rw[bu hz,aw,b9]at e
     obtain⟨rfl,rfl⟩:=e
     obtain⟨x1,x2,x3⟩:=QE _ (bI hz)
     have OU:=sF (f:=g) hz
     have ez:M[z]?=some M[z]:=jk hz
     have et:M.take (z+1)=M.take z++[M[z]]:=List.take_succ_eq_append_getElem hz
     generalize M[z]=x at x1 x2 x3 OU ez et ⊢
     have n1:=h1.nn (a'+1) i x (by lia) (by lia)
     have n2:=h1.nn (a'+1) x b (by lia) hb
     have Bl:∀ {ks:ao (ao Key)} {dd:ao D},Bm fM ((μ.set j (.lA ks dd)).set 0 (.gx jh H)) k es ts A j a' i x:=λ{ks dd}=>⟨((B0.put (m:=.lA ks dd) vP).NB Wd).at_,by lia,x1,by lia,oJ,vO,hA,by lia⟩
     have Br:∀ {ks:ao (ao Key)} {dd:ao D},Bm fM ((μ.set j (.lA ks dd)).set 0 (.gx jh H)) k es ts A j a' x b:=λ{ks dd}=>⟨((B0.put (m:=.lA ks dd) vP).NB Wd).at_,by lia,x2,hb,oJ,vO,hA,by lia⟩
     have c1:=kN oJ vO (a'+1) i x x1 (by lia)
     have c2:=kN oJ vO (a'+1) x b x2 hb
     refine⟨rfl,?_⟩
     refine pI (λq2=>?_) (λq2=>?_)
     .rw[show mq es g p M=some (x,((M.take z).map g).sum) by rw[<- q2];exact uc (λx hx y hy e=>EE hu (by have:=QE x hx;lia) (by have:=QE y hy;lia) e) (by rw[hM];exact Ed _ _ i b) ez]at kk
      dsimp only at kk
      refine⟨mG Bl.at_ (mJ (by simp)),oK QV,⟨_,oK QV⟩,es,ts,A,j,a',i,x,mv,lN,u,Bl,rfl,rfl,by lia,h1,hu,vP,Wd,QH,aj,KZ,?_⟩
      cases el:yO es ts (a'+1) i x u with
      | none =>
       rw[el]at kk
       intro Du Dy HU
       rw[sj]
       exact(tI hK QV (kk Du Dy HU)).2
      | some r1 =>
       rw[el]at kk
       intro Du Dy HU
       rw[sj]
       obtain⟨y1,y2,_⟩:=EN oJ vO (a'+1) i x u r1 x1 (by lia) el
       refine⟨mG Br.at_ (mJ (by simp)),es,ts,A,j,a',x,b,Du,Dy,Br,rfl,by lia,h1,vP,aj,HU,λOw O3 Qy=>?_⟩
       rw[sj]
       refine⟨.of_bits (wt y1 (cD (df y2) c1.2) (by lia)) (wt c2.1 c2.2 (by lia)),?_⟩
       refine⟨mG Br.at_ (mJ (by simp)),oK QV,⟨_,oK QV⟩,es,ts,A,j,a',x,b,Ow,O3,v,Br,rfl,rfl,by lia,h1,hu,vP,Wd,QH,aj,Qy,?_⟩
       cases er:yO es ts (a'+1) x b v with
       | none =>
        rw[er]at kk
        intro Sx TJ Ss
        rw[sj]
        exact(tI hK QV (kk Sx TJ Ss)).2
       | some r2 =>
        rw[er]at kk
        intro Sx TJ Ss
        rw[sj]
        exact .keep (CJ QV (kk Sx TJ Ss))
     .refine mQ ?_
      refine⟨mG Bl.at_ (mJ (by simp)),es,ts,A,j,a',i,x,mv,lN,Bl,rfl,by lia,h1,vP,aj,KZ,λDu Dy HU=>?_⟩
      rw[sj]
      refine⟨mG Br.at_ (mJ (by simp)),es,ts,A,j,a',x,b,Du,Dy,Br,rfl,by lia,h1,vP,aj,HU,λOw O3 Qy=>?_⟩
      rw[sj]
      refine⟨AZ oJ vO (a'+1) i x b x1 x2 hb,?_⟩
      refine qY _ _ ⟨z+1,Ow,O3,some (.int (es.getD x 0)),some (rJ a' i x),some (rJ a' x b),rfl,Qy,λy hy=>?_,?_,rfl⟩
      .rw[et]at hy
       rcases List.mem_append.mp hy with hy|hy
       .exact UI y hy
       .rw[List.mem_singleton.mp hy];exact q2
      .rw[OU,hg]
       rfl
    .rintro ρ gc ⟨z,mv,lN,v4,v5,v6,e,KZ,UI,rfl,rfl⟩
     refine⟨trivial,zs,?_⟩
     have hz:M.length<=z:=by
      have:=cA List.length e
      rw[iu,bA]at this
      simp at this
      lia
     rw[bQ hz]at UI
     rw[xT UI]at kk
     exact tI hK QV (kk mv lN KZ)
 .cases h
def FU {f1:ai}{GA:ag}(F1:j4 K "rank" "BestMakes.rank" iL f1 GA)(T:lM mg)(fK:ip K fM)(i9:OwnCls "BadMake" jF Rc "ValueError.__new__" mg fJ)(m1:Meth K fM "rank" f1)(b1:Binds K GA ["self","stretch","make"] [])(gq:hZ P w K mg fJ)(fX:gJ P w K mg fJ)(gu:ij P w K mg fJ)(fV:h9 P w K mg fJ)(n0:qt P w K mg fJ):∀ n,n<=71->gF P w K mg fJ (xZ P w) (n+145) f1 GA ["self","stretch","make"] (zN (tM fM jF n))
 |0,_=>.Sm EB
 |n+1,h=>sV F1 T fK i9 (l:=n+145) (by lia) (by lia) gq fX gu fV n0 ⟨f1,GA,FU F1 T fK i9 m1 b1 gq fX gu fV n0 n (by lia),m1,b1⟩
def D8 (F:j4 K "best_of" "best_of" lZ f fd)(T:lM mg)(fK:ip K fM)(nY:OwnCls "BadNumber" mn Rc "ValueError.__new__" mg fJ)(ny:qv P w K mg fJ)(iT:jx P w K mg fJ)(fV:h9 P w K mg fJ)(jy:mI P w K mg fJ):gF P w K mg fJ (xZ P w) 217 f fd (pA lZ) (zN (tS mn)):=by
 refine F.XH wO (λds μ Kd Kx h=>CO h) (λjl A fT s H E hr jh Kb Z=>⟨_,(fO (jd (rG (qC ny hr (a3 (dv 0) (dv 1) (dv 2))))
  (fW (qD Z rfl nY a9 (by decide) a9 rfl (a1 kC)))
  hG)
  (fO (qS 4 wO.nd (EJ iT hr.le rfl (a3 (dv 0) (dv 1) (dv 2))))
  (fO (jd (PW.pt (yb (Vs (dv 3) fR) (uT (YT (dv 3) (ja fV fK.cl hr.le (dv 4) (a1 (nW fK.cl fK.sW (dv 4))))))))
  (fW (qD Z rfl nY a9 (by decide) a9 rfl (a1 kC)))
  hG)
  (fW (gA (ja jy fK.cl hr.le (dv 4) (a2 (nW fK.cl fK.sW (dv 4)) (dv 3)))))))),λds μ m Kd Kx hm hl em h hK=>?_⟩)
 unfold tS at h
 split at h
 .rename_i n x y r
  obtain⟨_,cs,ts,rfl,rfl,S,AE,kk⟩:=h
  have mZ:=S.mZ
  have oS:(fH n cs).length=cs.length+2:=gy n cs
  have ft:=S.takes.mZ
  obtain⟨ν,Ik⟩:∃ ν,ν=μ.set 0 (.gx jh H):=⟨_,rfl⟩
  have g0:ν[0]?=some (.gx jh H):=by rw[Ik];exact oK em
  have l0:0<ν.length:=(kM g0).1
  rw[<- Ik]at hm ⊢
  refine⟨cs,ts,rfl,rfl,mZ,S.takes,S.n2,?_⟩
  unfold Mw at kk
  cases hb:jG (fH n cs) ts with
  | some p =>
   rw[hb]at kk
   exact⟨zs,by rw[Ik];exact tI hK em kk⟩
  | none =>
   rw[hb]at kk
   dsimp only at kk
   refine⟨cs,ts,rfl,rfl,S,AE,hb,by rw[pX (ar _),a6];rfl,λa ha la=>⟨rfl,?_⟩⟩
   have kk:=kk a ha la
   obtain⟨es,he⟩:∃ es,es=fH n cs:=⟨_,rfl⟩
   have tl:=qz S la
   have sd:=(wM S (a+1) 0 (cs.length+1) (by lia) (by lia)).2 (by lia)
   have tb:=wB S
   rw[<- he]at tl sd tb kk oS ⊢
   obtain⟨g,hg⟩:∃ g,g=(ν++[MO.ins fM [] []]).set ν.length (.ins fM A9 (Dk es ts a (ν++[MO.ins fM [] []]).length))++[.lA [] []]:=⟨_,rfl⟩
   rw[<- hg]
   have G:=bmG hm hg
   have B:∀ {ks:ao (ao Key)} {dd:ao D},Bm fM (g.set (ν.length+1) (.lA ks dd)) ν.length es ts a (ν.length+1) a 0 (es.length - 1):=λ{ks dd}=>⟨G.e0 ks dd,ar _,by lia,by lia,by lia,by lia,by lia,by rw[show es.length - 1=cs.length+1 by lia];lia⟩
   have bad:∀ {ks:ao (ao Key)} {dd:ao D},Kx (.ref mn) μ->Kb (.ref mn) (g.set (ν.length+1) (.lA ks dd)):=λ{ks dd} kx=>by
    rw[hK,<- Ik]
    refine .inr ⟨G.ol ks dd,?_⟩
    rw[G.tk,Ik]
    exact⟨oK em,by rw[vQ em];exact kx⟩
   rw[G.nw]
   refine kL (c:=r<0) (λq=>?_) (λq=>?_)
   .rw[aC (by lia)]at kk
    exact⟨zs,G.z0 _ _ _ g0,bad kk⟩
   refine⟨mG B.at_ (mJ (by simp)),_,tL B.at_ ua,es,ts,a,ν.length+1,a,0,es.length - 1,[],[],B,rfl,by lia,tb,by lia,G.e1 _ _,.nil,λDu Dy m2=>?_⟩
   rw[bZ]
   refine kL (c:=iM es ts (a+1) 0 (es.length - 1)<=r) (λq2=>?_) (λq2=>?_)
   .rw[aC (by lia)]at kk
    exact⟨zs,G.z0 _ _ _ g0,bad kk⟩
   rw[aB (by lia)]at kk
   refine⟨mG B.at_ (mJ (by simp)),_,tL B.at_ ua,es,ts,a,ν.length+1,a,0,es.length - 1,Du,Dy,B,rfl,by lia,tb,by lia,G.e1 _ _,m2,by lia,by lia,λOw O3 m3=>?_⟩
   rw[bZ]
   refine .drop (Ec _) (G.ol _ _) ?_
   rw[G.tk,Ik]
   exact CJ em kk
 .cases h
def Ak (F:j4 K "number_of" "number_of" kc f fd)(T:lM mg)(fK:ip K fM)(i9:OwnCls "BadMake" jF Rc "ValueError.__new__" mg fJ)(ny:qv P w K mg fJ)(iT:jx P w K mg fJ)(kB:oO P w K mg fJ):gF P w K mg fJ (xZ P w) 217 f fd (pA kc) (zN (xD jF)):=by
 refine F.XH sJ (λds μ Kd Kx h=>ED h) (λjl A fT s H E hr jh Kb Z=>⟨_,(fO (jd (rG (qC ny hr (a3 (dv 0) (dv 1) (dv 2))))
  (fW (qD Z rfl i9 a9 (by decide) a9 rfl (a1 kC)))
  hG)
  (fO (qS 4 sJ.nd (EJ iT hr.le rfl (a3 (dv 0) (dv 1) (dv 2))))
  (fW (gA (AY Z.z kB fK.cl hr.le (dv 4) (a2 (nW fK.cl fK.sW (dv 4)) (dv 3))))))),λds μ m Kd Kx hm hl em h hK=>?_⟩)
 unfold xD at h
 split at h
 .rename_i n x y d
  obtain⟨_,cs,ts,t,rfl,rfl,rfl,S,AE,kk⟩:=h
  have mZ:=S.mZ
  have oS:(fH n cs).length=cs.length+2:=gy n cs
  have ft:=S.takes.mZ
  obtain⟨ν,Ik⟩:∃ ν,ν=μ.set 0 (.gx jh H):=⟨_,rfl⟩
  have g0:ν[0]?=some (.gx jh H):=by rw[Ik];exact oK em
  have l0:0<ν.length:=(kM g0).1
  rw[<- Ik]at hm ⊢
  refine⟨cs,ts,rfl,rfl,mZ,S.takes,S.n2,?_⟩
  unfold Sj at kk
  cases hb:jG (fH n cs) ts with
  | some p =>
   rw[hb]at kk
   exact⟨zs,by rw[Ik];exact tI hK em kk⟩
  | none =>
   rw[hb]at kk
   dsimp only at kk
   refine⟨cs,ts,rfl,rfl,S,AE,hb,by rw[pX (ar _),a6];rfl,λa ha la=>⟨rfl,?_⟩⟩
   have kk:=kk a ha la
   obtain⟨es,he⟩:∃ es,es=fH n cs:=⟨_,rfl⟩
   have tl:=qz S la
   have sd:=(wM S (a+1) 0 (cs.length+1) (by lia) (by lia)).2 (by lia)
   have tb:=wB S
   have hu:=iD S.n1 S.jD
   rw[<- he]at tl sd tb kk oS hu ⊢
   obtain⟨g,hg⟩:∃ g,g=(ν++[MO.ins fM [] []]).set ν.length (.ins fM A9 (Dk es ts a (ν++[MO.ins fM [] []]).length))++[.lA [] []]:=⟨_,rfl⟩
   rw[<- hg]
   have G:=bmG hm hg
   have gg:=G.z0 [] [] _ g0
   have e0:=G.e0 [] []
   have B:Bm fM (g.set (ν.length+1) (.lA [] [])) ν.length es ts a (ν.length+1) a 0 (es.length - 1):=⟨e0,ar _,by lia,by lia,by lia,by lia,by lia,by rw[show es.length - 1=cs.length+1 by lia];lia⟩
   rw[G.nw]
   refine⟨mG e0 (mJ (by simp)),_,tL e0 ua,gg,⟨_,gg⟩,es,ts,a,ν.length+1,a,0,es.length - 1,[],[],t,B,rfl,rfl,by lia,tb,hu,by lia,by lia,by lia,G.e1 [] [],.nil,?_⟩
   cases er:yO es ts (a+1) 0 (es.length - 1) t with
   | none =>
    rw[er]at kk
    intro ks dd mm
    rw[bZ,hK,<- Ik]
    refine .inr ⟨G.ol ks dd,?_⟩
    rw[G.tk,Ik]
    exact⟨oK em,by rw[vQ em];exact kk⟩
   | some r =>
    rw[er]at kk
    intro ks dd mm
    rw[bZ]
    refine .drop trivial (G.ol ks dd) ?_
    rw[G.tk,Ik]
    exact CJ em kk
 .cases h
def yR (F:j4 K "_law_take" "_law_take" oa f fd)(T:lM mg)  : gF P w K mg fJ kW 1 f fd (pA oa) (iG xC):=by
 refine gF.imp (sp:=Ft) ?_ λvs H Q E h=>Ho h
 refine F.ok sI (λvs H Q E h=>?_) (λjl A fT s H vs Q E hr h=>?_)
 .obtain⟨b,n,q,rfl,_⟩:=h;rfl
 .obtain⟨b,n,q,rfl,⟨ns,i,r,z,hb,hq,XJ,hi,hz,CD⟩,hn,Gm,k⟩:=h
  refine⟨_,(iQ (uW (nM ZY (qc Ld (lT 0) ic (λ_ _=>rfl)) ic (iS _))
   (iQ (uw (i:=2) sI.nd rfl (by first|exact Or.inl rfl|exact Or.inr rfl) (qc Ld (lT 0) ic (λ_ _=>rfl)))
   (iQ (ux (lg TC (lT 2) (lT 1)) (wZ (lT 0) ic setC))
   (lF (og (lg Ap (lT 2) (lT 1))))))
   nN)
   (iQ (ux (lg Ap (lg MA (lg mulC (qc Ld (lT 0) ic (λ_ _=>rfl)) ic) ic) ic) (wZ (lT 0) ic setC))
   (NM (uW (nM XM (qc Ld (lT 0) ic (λ_ _=>rfl)) (iz Ot (by rfl) T.len PySem.boot_len (gv (qc Ld (lT 0) ic (λ_ _=>rfl)) iR)) (iS _))
   (iQ (uw (i:=3) sI.nd rfl (by first|exact Or.inl rfl|exact Or.inr rfl) (qc Ld (qc Ld (lT 0) ic (λ_ _=>rfl)) (qc Ld (lT 0) ic (λ_ _=>rfl)) (λ_ _=>rfl)))
   (iQ (NO (lT 0) ic Z1 ic tx setC)
   (iQ (uW (nM geC (lT 3) (lg powC ic ic) (iS _))
   (iQ (ux (lg TC (lT 3) (lT 1)) (wZ (lT 0) ic setC))
   (lF (og (lg Ap (lT 3) (lT 1)))))
   nN)
   (lF (ux (lg Ap (lg MA (qc Ld (lT 0) ic (λ_ _=>rfl)) (lg mulC (lT 3) ic)) ic) (wZ (lT 0) ic setC))))))
   nN)
   (iQ (uw (i:=4) sI.nd rfl (by first|exact Or.inl rfl|exact Or.inr rfl) (qc Ld (lT 0) ic (λ_ _=>rfl)))
   (iQ (uw (i:=5) sI.nd rfl (by first|exact Or.inl rfl|exact Or.inr rfl) (lg Ap (lg MA (lg mulC (lT 4) (lT 4)) (lg TC (lT 4) ic)) ic))
   (lF (og (lg Ap (lg Ap (lg MA (lg mulC (lT 5) ic) (lT 4)) ic) (lT 1))))))))),?_⟩
  have fin:∀(v:Int) (H':Hp) (i' r' z':Int),OB b H H'->H' b=some (.lst [.ref q,.int i',.int r',.int z'])->0<=i'->0<=z'->z'<2147483647->Q (.int (v%n)) H':=λv H' i' r' z' ob BA h1 h2 h3 =>
   k _ _ (dt _ (by lia)) (dr _ hn) ⟨ns,i',r',z',BA,(ob q XJ).trans hq,XJ,h1,h2,h3⟩ ob
  have md:∀ x:Int,0<=x%2147483647/\x%2147483647<2147483647:=λx=>⟨dt _ (by decide),dr _ (by decide)⟩
  refine⟨_,.inl hb,?_⟩
  refine kL (λh1=>?_) (λh1=>?_)
  .refine⟨_,.inl hb,⟨hn,Gm⟩,_,hb,hn,?_⟩
   exact fin _ _ _ _ _ OB.refl.upd gh hi hz CD
  .refine⟨_,.inl hb,.inr ⟨by decide,by decide⟩,pM,_,hb,?_⟩
   have ob1:∀ o,OB b H (upd H b o):=λo=>OB.refl.upd
   refine⟨λji H'=>∃(c:aq V) (i' r' z':Int),ji=[some (.ref b),some (.int n),none,c,none,none]/\OB b H H'/\H' b=some (.lst [.ref q,.int i',.int r',.int z'])/\0<=i'/\0<=z'/\z'<2147483647,?_,?_⟩
   .refine⟨_,.inl gh,_,.inl gh,_,.inl ((ob1 _ q XJ).trans hq),?_⟩
    refine kL (λh2=>?_) (λh2=>?_)
    .have h2':i<(ns.length:Int):=by simpa using h2
     obtain⟨c,hc⟩:∃ c,ns[i.toNat]?=some c:=⟨ns[i.toNat]'(by lia),jk _⟩
     have e:lO (ns.map V.int) i=some (.int c):=by
      have q:=jQ (xs:=ns.map V.int) (j:=i.toNat) (v:=.int c) (by rw[oU,hc];rfl)
      rwa [cI hi]at q
     refine⟨_,.inl gh,_,.inl gh,_,.inl ((ob1 _ q XJ).trans hq),fS e ?_⟩
     refine⟨_,gh,by decide,_,gh,?_⟩
     refine⟨⟨by decide,by decide,by decide⟩,?_⟩
     refine kL (λh3=>?_) (λh3=>?_)
     .refine⟨⟨hn,Gm⟩,_,gh,hn,?_⟩
      exact fin _ _ (i+1) _ _ OB.refl.upd.upd.upd gh (by lia) (md _).1 (md _).2
     .refine⟨_,.inl gh,.inr ⟨by decide,by decide⟩,pM,_,gh,?_⟩
      exact⟨_,i+1,_,_,rfl,OB.refl.upd.upd.upd,gh,by lia,(md _).1,(md _).2⟩
    .exact⟨_,i,_,_,rfl,OB.refl.upd,gh,hi,(md _).1,(md _).2⟩
   .rintro ji H' ⟨c,i',r',z',rfl,ob,BA,h1,h2,h3⟩
    refine⟨_,.inl BA,.inl ⟨by lia,by lia⟩,⟨by decide,by decide⟩,pN,.inr ⟨by decide,by decide⟩,pM,hn,?_⟩
    exact fin _ _ i' _ _ ob BA h1 h2 h3
def N6 (F:j4 K "_law_take" "_law_take" oa f fd)(T:lM mg)  : gF P w K mg fJ kW 1 f fd (pA oa) (iG y9):=by
 exact(yR F T).imp λvs H Q E h=>JA h
def Cg (n:Nat){f:ai}{fd:ag}(F:j4 K "_law_made" "_law_made" rO f fd)(T:lM mg)(Bs:nB P w K mg fJ "_law_made" n ["_law_cuts_here","_law_takes","_law_make"] (iG (OQ uE n))):gF P w K mg fJ kW (n+1) f fd ["_law_cuts_here","_law_takes","_law_make"] (iG (uE n)):=by
 refine F.oQ zZ (λds μ Kd h=>by unfold uE at h;split at h <;> first | rfl | exact h.elim) (λjl A fT s H E hr=>⟨_,(fO (jd (jc (rD (T := "int") (by simp) (by rfl) T.isinstance (by rfl) T.int b7 (dv 2)))
  (fO (jd (PW.pt (yb (Vs (dv 2) fR) (uT (YT (dv 2) (CW T (dv 1))))))
  (fW (gA xM))
  hG)
  (fW (gA (jo (dv 1) (dv 2)))))
  hG)
  (fO (qS 3 zZ.nd (qC Bs hr (a3 (dv 0) (dv 1) (jo (dv 2) fR))))
  (fO (qS 4 zZ.nd (qC Bs hr (a3 (dv 0) (dv 1) (jo (dv 2) fR))))
  (fO (jd (PW.pt (yb (kS KQ Fv (jo (dv 2) fR) (dv 0) (by with_unfolding_all rfl)) (yb (P0 (dv 3)) (uT (P0 (dv 4))))))
  (fW (gA xM))
  hG)
  (fW (gA (pK (a2 (ot (mW false (jo (dv 3) fR) KN (l8 (jo (dv 2) fR))) (mW false (jo (dv 4) fR) (l8 (jo (dv 2) fR)) KN)) (ot (nj (Ol rfl) zQ (by rfl) T.max ck (a2 (jo (dv 3) fR) (jo (dv 4) fR))) fR))))))))),λds μ Kd hm hl h=>?_⟩)
 unfold uE at h
 split at h
 .rename_i c y d
  obtain⟨cs,ts,t,z,rfl,rfl,rfl,hd,ZL,hz,XR,kk⟩:=h
  refine fS (BP t _) ?_
  cases t with
  | num k =>
   have kk:Kd (U0 (if 0<=k then ts[k.toNat]? else none)) μ:=kk
   refine kL (c:=k<0) (λq=>?_) (λq0=>?_)
   .rw[aC (by lia)]at kk;exact .keep kk
   rw[aB (by lia)]at kk
   refine kL (c:=((ts.map mM).length:Int)<=k) (λq=>?_) (λq=>?_)
   .rw[iu]at q
    rw[fB (by lia)]at kk;exact .keep kk
   .rw[iu]at q
    have hx:ts[k.toNat]?=some ts[k.toNat]:=jk (by lia)
    have a1:lO (ts.map mM) k=some (mM ts[k.toNat]):=by have:=oP (g:=mM) hx;rwa [cI (by lia)]at this
    rw[hx]at kk
    exact fS a1 (.keep kk)
  | lC p l r =>
   have Jd:max l.dep r.dep+1<=n:=hd
   obtain⟨n,rfl⟩:∃ n',n=n'+1:=⟨n - 1,by lia⟩
   refine⟨cs,ts,l,z,rfl,rfl,rfl,by lia,ZL,hz,XR,?_⟩
   refine⟨cs,ts,r,z,rfl,rfl,rfl,by lia,ZL,hz,XR,?_⟩
   have kk:Kd (U0 (match l.vo cs ts,r.vo cs ts with|some a,some b=>if p∈cs then some (qj a b p)else none|_,_=>none)) μ:=kk
   dsimp only
   refine nq ((true != decide (p∈cs))||((l.vo cs ts).isNone||(r.vo cs ts).isNone)) ?_ (λq=>?_) (λq=>?_)
   .refine .or (.Bx λK k=>⟨rfl,LD cs,by rw[Pp];exact k⟩) λ_=>.or (.Bx λK k=>?_) λ_=>.Bx λK k=>?_
    .cases e:l.vo cs ts with
     |none=>rw[e]at k;exact k
     |some v=>rw[e]at k;exact k
    .cases e:r.vo cs ts with
     |none=>rw[e]at k;exact k
     |some v=>rw[e]at k;exact k
   .refine .keep (d:=.iq) ?_
    cases el:l.vo cs ts with
    |none=>rw[el]at kk;exact kk
    | some a =>
     cases er:r.vo cs ts with
     |none=>rw[el,er]at kk;exact kk
     | some b =>
      rw[el,er]at kk q
      have kk:Kd (U0 (if p∈cs then some (qj a b p)else none)) μ:=kk
      rw[aC (λhp=>by rw[aI hp]at q;cases q)]at kk
      exact kk
   .cases el:l.vo cs ts with
    |none=>rw[el]at q;simp at q
    | some a =>
     cases er:r.vo cs ts with
     |none=>rw[el,er]at q;simp at q
     | some b =>
      rw[el,er]at kk q
      have hp:p∈cs:=by
       by_cases hp:p∈cs
       .exact hp
       .rw[aV hp]at q;cases q
      have kk:Kd (U0 (if p∈cs then some (qj a b p)else none)) μ:=kk
      rw[aB hp]at kk
      have vl:=(jV.yC el).2▸jV.oW XR (jV.yC el).1
      have vr:=(jV.yC er).2▸jV.oW XR (jV.yC er).1
      have wl:=vl.1
      have wr:=vr.1
      have p0:=ZL p hp
      have lz1:(txt a.1).length<=sizeLine:=by rw[ku];exact sz (by lia)
      have lz2:(txt b.1).length<=sizeLine:=by rw[ku];exact sz (by lia)
      have c1:=we a.1 none (some p)
      have c2:=we b.1 (some p) none
      refine⟨lz1,lz2,?_,zs,.keep ?_⟩
      .show(txt (lp a.1 none (some p))).length+(txt (lp b.1 (some p) none)).length<=sizeLine
       rw[ku,ku];exact sz (by lia)
      .show Kd (.tup [.str (txt (lp a.1 none (some p))++txt (lp b.1 (some p) none)),.int (max a.2 b.2+1)]) μ
       rw[pE,G4 p0,zm p0]
       exact kk
 .cases h
def FW {f:ai}{fd:ag}(F:j4 K "_law_made" "_law_made" rO f fd)(T:lM mg)(hm:mg "_law_made"=some (.ref f))(hk:W.keepIn K (.ref f)=true)(hb:Binds K fd ["_law_cuts_here","_law_takes","_law_make"] []):∀ n,gF P w K mg fJ kW (n+1) f fd ["_law_cuts_here","_law_takes","_law_make"] (iG (uE n))
 |0=>Cg 0 F T ⟨f,fd,⟨λ_ _ _ _ qX=>by obtain⟨_,_,_,_,_,_,h,_⟩:=qX;exact h.elim,λ_ _ _ _ _ _ _ _ _ _ _ _ _ qW=>by obtain⟨_,_,_,_,_,_,h,_⟩:=qW;exact h.elim⟩,hm,hk,hb⟩
 |n+1=>Cg (n+1) F T ⟨f,fd,FW F T hm hk hb n,hm,hk,hb⟩
def yS (n:Nat){f:ai}{fd:ag}(F:j4 K "_law_parts" "_law_parts" pf f fd)(T:lM mg)(wx:nB P w K mg fJ "_law_parts" n ["_law_make"] (iG (OQ qO n))):gF P w K mg fJ kW (n+1) f fd ["_law_make"] (iG (qO n)):=by
 refine F.oQ JS (λds μ Kd h=>by unfold qO at h;split at h<;>first|rfl|exact h.elim) (λjl A fT s H E hr=>⟨_,(fW (gA (O5 (jc (rD (T:= "int") (by simp) (by rfl) T.isinstance (by rfl) T.int b7 (dv 0))) fR (ot (qC wx hr (a1 (jo (dv 0) fR))) (qC wx hr (a1 (jo (dv 0) fR))))))),λds μ Kd hm hl h=>?_⟩)
 unfold qO at h
 split at h
 .rename_i d
  obtain⟨t,rfl,hd,kk⟩:=h
  refine fS (BP t _) ?_
  cases t with
  |num _=>exact .keep kk
  | lC p l r =>
   have Jd:max l.dep r.dep+1<=n:=hd
   obtain⟨n,rfl⟩:∃ n',n=n'+1:=⟨n - 1,by lia⟩
   refine⟨l,rfl,by lia,r,rfl,by lia,.keep ?_⟩
   have kk':Kd (.int ((l.cnt+r.cnt:Nat):Int)) μ:=kk
   rw[show((l.cnt+r.cnt:Nat):Int)=(l.cnt:Int)+(r.cnt:Int) by lia]at kk'
   exact kk'
 .cases h
def Cf {f:ai}{fd:ag}(F:j4 K "_law_parts" "_law_parts" pf f fd)(T:lM mg)(hm:mg "_law_parts"=some (.ref f))(hk:W.keepIn K (.ref f)=true)(hb:Binds K fd ["_law_make"] []):∀ n,gF P w K mg fJ kW (n+1) f fd ["_law_make"] (iG (qO n))
 |0=>yS 0 F T ⟨f,fd,⟨λ_ _ _ _ rY=>by obtain⟨_,_,_,_,_,_,h,_⟩:=rY;exact h.elim,λ_ _ _ _ _ _ _ _ _ _ _ _ _ qV=>by obtain⟨_,_,_,_,_,_,h,_⟩:=qV;exact h.elim⟩,hm,hk,hb⟩
 |n+1=>yS (n+1) F T ⟨f,fd,Cf F T hm hk hb n,hm,hk,hb⟩
def KH (F:j4 K "_law_whole" "_law_whole" o8 f fd)(T:lM mg)  : gF P w K mg fJ kW 1 f fd (pA o8) (iG vT):=by
 refine F.oQ JR (λds μ Kd h=>by unfold vT at h;split at h<;>first|rfl|exact h.elim) (λjl A fT s H E hr=>⟨_,(fW (gA (G1 (rD (T:= "int") (by simp) (by rfl) T.isinstance (by rfl) T.int b7 (dv 0)) (L6 (WA (rD (T:= "bool") (by simp) (by rfl) T.isinstance (by rfl) T.bool cW (dv 0))))))),λds μ Kd hm hl h=>?_⟩)
 unfold vT at h
 split at h
 .rename_i d
  obtain⟨t,rfl,kk⟩:=h
  refine fS (BP t _) ?_
  cases t with
  |num _=>exact .keep kk
  |lC _ _ _=>exact .keep kk
 .cases h
def Ci (n:Nat){f:ai}{fd:ag}(F:j4 K "_law_form" "_law_form" rP f fd)(T:lM mg)(nZ:wm P w K mg fJ)(Bt:nB P w K mg fJ "_law_form" (n+1) ["_law_make"] (iG (OQ zb n))):gF P w K mg fJ kW (n+2) f fd ["_law_make"] (iG (zb n)):=by
 refine F.oQ ND (λds μ Kd h=>by unfold zb at h;split at h <;> first | rfl | exact h.elim) (λjl A fT s H E hr=>⟨_,(fO (jd (jc (qC nZ hr (a1 (dv 0))))
  (fW (gA r8))
  hG)
  (fO (jd (PW.pt (yb (uU (jc (rD (T:= "tuple") (by simp) (by rfl) T.isinstance (by rfl) T.tuple cS (dv 0)))) (yb (Vr (CW T (dv 0)) fR) (uT (uU (jc (qC nZ hr (a1 (jo (dv 0) fR)))))))))
  (fW (gA r8))
  hG)
  (fW (gA (G1 (qC Bt hr (a1 (jo (dv 0) fR))) (L6 (qC Bt hr (a1 (jo (dv 0) fR))))))))),λds μ Kd hm hl h=>?_⟩)
 unfold zb at h
 split at h
 .rename_i d
  obtain⟨t,rfl,hd,kk⟩:=h
  cases t with
  |num v=>exact⟨.num v,rfl,.keep kk⟩
  | lC p l r =>
   have Jd:max l.dep r.dep+1<=n:=hd
   obtain⟨n,rfl⟩:∃ n',n=n'+1:=⟨n - 1,by lia⟩
   refine⟨.lC p l r,rfl,?_⟩
   refine⟨.num p,rfl,?_⟩
   exact⟨l,rfl,by lia,r,rfl,by lia,.keep kk⟩
 .cases h
def FY {f:ai}{fd:ag}(F:j4 K "_law_form" "_law_form" rP f fd)(T:lM mg)(hm:mg "_law_form"=some (.ref f))(hk:W.keepIn K (.ref f)=true)(hb:Binds K fd ["_law_make"] [])(nZ:wm P w K mg fJ):∀ n,gF P w K mg fJ kW (n+2) f fd ["_law_make"] (iG (zb n))
 |0=>Ci 0 F T nZ ⟨f,fd,⟨λ_ _ _ _ tF=>by obtain⟨_,_,_,_,_,_,h,_⟩:=tF;exact h.elim,λ_ _ _ _ _ _ _ _ _ _ _ _ _ rB=>by obtain⟨_,_,_,_,_,_,h,_⟩:=rB;exact h.elim⟩,hm,hk,hb⟩
 |n+1=>Ci (n+1) F T nZ ⟨f,fd,FY F T hm hk hb nZ n,hm,hk,hb⟩
def qd (n:Nat){f:ai}{fd:ag}(F:j4 K "_law_goes_first" "_law_goes_first" jL f fd)(T:lM mg)(mY:nB P w K mg fJ "_law_goes_first" n ["_law_one","_law_other"] (iG (OQ za n))):gF P w K mg fJ kW (n+1) f fd ["_law_one","_law_other"] (iG (za n)):=by
 refine F.oQ ye (λds μ Kd h=>by unfold za at h;split at h <;> first | rfl | exact h.elim) (λjl A fT s H E hr=>⟨_,(fO (jd (PW.pt (yb (jc (rD (T := "int") (by simp) (by rfl) T.isinstance (by rfl) T.int b7 (dv 0))) (uT (jc (rD (T := "int") (by simp) (by rfl) T.isinstance (by rfl) T.int b7 (dv 1))))))
  (fW (gA (G1 (rD (T:= "int") (by simp) (by rfl) T.isinstance (by rfl) T.int b7 (dv 0)) (G1 (rD (T:= "int") (by simp) (by rfl) T.isinstance (by rfl) T.int b7 (dv 1)) (L6 (vd XM rK (dv 0) (dv 1) (iS _)))))))
  hG)
  (fO (jd (Vr (jo (dv 0) fR) (jo (dv 1) fR))
  (fW (gA (vd XM rK (jo (dv 0) fR) (jo (dv 1) fR) (iS _))))
  hG)
  (fO (jd (kS (Cq.or (Eb (n:=63) (BO hr (by decide)))) (Vf wK zS) (jo (dv 0) fR) (jo (dv 1) fR) (iS _))
  (fW (gA (qC mY hr (a2 (jo (dv 0) fR) (jo (dv 1) fR)))))
  hG)
  (fW (gA (qC mY hr (a2 (jo (dv 0) fR) (jo (dv 1) fR)))))))),λds μ Kd hm hl h=>?_⟩)
 unfold za at h
 split at h
 .rename_i x y
  obtain⟨t,u,rfl,rfl,h1,h63,h2,hg,kk⟩:=h
  refine fS (BP t _) ?_
  cases t with
  | num a =>
   cases u with
   |lC _ _ _=>exact hg.elim
   | num b =>
    have hg:a<b:=hg
    refine .keep ?_
    show Kd (.bl (decide (a<b))) μ
    rw[aI hg]
    exact kk
  | lC p l r =>
   cases u with
   |num _=>exact hg.elim
   | lC p' l' r' =>
    have h1:max l.dep r.dep+1<=n:=h1
    have h2:max l'.dep r'.dep+1<=n:=h2
    obtain⟨n,rfl⟩:∃ n',n=n'+1:=⟨n - 1,by lia⟩
    rcases hg with hg|⟨rfl,hg⟩
    .refine Le (λq=>?_) (λq=>absurd q (by lia))
     refine .keep ?_
     show Kd (.bl (decide (p<p'))) μ
     rw[aI hg]
     exact kk
    .refine Le (λq=>absurd rfl q) (λq=>mQ ?_)
     dsimp only
     rcases hg with hg|⟨rfl,hg⟩
     .refine nq true (.Bx λK k=>?_) (λ_=>⟨l,l',rfl,rfl,by lia,by lia,by lia,hg,.keep kk⟩) (λq=>by cases q)
      cases l with
      | num a =>
       cases l' with
       |lC _ _ _=>exact hg.elim
       | num b =>
        have hg:a<b:=hg
        refine .inl ?_
        show K (.bl (true != decide (a=b))) μ
        rw[aV (by lia)]
        exact k
      | lC a b c =>
       cases l' with
       |num _=>exact hg.elim
       | lC a' b' c' =>
        refine .inr ⟨oz (yM (.lC a b c) (by lia)),oz (yM (.lC a' b' c') (by lia)),rfl,?_⟩
        rw[show lQ (rp (.lC a b c)) (rp (.lC a' b' c'))=false from Bool.eq_false_iff.mpr λe=>Ly hg ((AV _ _).mp e)]
        exact k
     .refine nq false (.Bx λK k=>?_) (λq=>by cases q) (λ_=>mQ ⟨r,r',rfl,rfl,by lia,by lia,by lia,hg,.keep kk⟩)
      cases l with
      | num a =>
       refine .inl ?_
       show K (.bl (true != decide (a=a))) μ
       rw[aI rfl]
       exact k
      | lC a b c =>
       refine .inr ⟨oz (yM (.lC a b c) (by lia)),oz (yM (.lC a b c) (by lia)),rfl,?_⟩
       rw[(AV (.lC a b c) _).mpr rfl]
       exact k
 .cases h
def rm {f:ai}{fd:ag}(F:j4 K "_law_goes_first" "_law_goes_first" jL f fd)(T:lM mg)(hm:mg "_law_goes_first"=some (.ref f))(hk:W.keepIn K (.ref f)=true)(hb:Binds K fd ["_law_one","_law_other"] []):∀ n,gF P w K mg fJ kW (n+1) f fd ["_law_one","_law_other"] (iG (za n))
 |0=>qd 0 F T ⟨f,fd,⟨λ_ _ _ _ rZ=>by obtain⟨_,_,_,_,_,_,h,_⟩:=rZ;exact h.elim,λ_ _ _ _ _ _ _ _ _ _ _ _ _ qX=>by obtain⟨_,_,_,_,_,_,h,_⟩:=qX;exact h.elim⟩,hm,hk,hb⟩
 |n+1=>qd (n+1) F T ⟨f,fd,rm F T hm hk hb n,hm,hk,hb⟩
def D6 (F:j4 K "_law_numbers" "_law_numbers" lX f fd)(T:lM mg)(Dp:Dh P w K mg fJ):gF P w K mg fJ kW 2 f fd (pA lX) (iG AI):=by
 refine F.oQ rL (λds μ Kd h=>by unfold AI at h;split at h <;> first | rfl | exact h.elim) (λjl A fT s H E hr=>⟨_,(fO (jd (MQ (dv 1) fR)
  (fW (gA (CY false (sq (N:=["_law_k"]) (js:=[none]) rL (by decide +kernel)) (iX rfl T.range (a1 (dv 1))) (λ_ _ _ nd=>(qN 0 nd)) (λ_ _ _=>iK) (λ_ _ _=>(dv 0)))))
  hG)
  (fO (qS 2 rL.nd (TQ (qa fR r8 (qa fR r8 (qa fR r8 (qa (G3 (dv 1) fR) r8 (qa (G3 (dv 1) fR) r8 NR)))))))
  (fO (FC (qm hr) r8 (dv 2) (qC Dp hr (a2 (dv 0) (dv 1))))
  (fO (FC (qm hr) r8 (dv 2) (qC Dp hr (a2 (dv 0) (dv 1))))
  (fW (gA (nj Nt Hu (by rfl) T.sorted PyProof.Rows.boot_sorted (a1 (L5 (VS rfl) (JO (m:=false)) (by rfl) T.list bY (a1 (dv 2))))))))))),λds μ Kd hm hl h=>?_⟩)
 unfold AI at h
 split at h
 .rename_i k m
  obtain⟨hb,m0,⟨d,hd,hd2⟩,kk⟩:=h
  refine nq (decide (m<=12)) (.Bx λK k=>k) (λq=>?_) (λq=>?_)
  .have q:=cn q
   refine⟨by lia,by lia,by rw[iw];exact sz (by lia),?_⟩
   rw[sM]
   refine m5 trivial D.int (λx=>some (D.int x)) (λx _ K' k'=>k') ?_
   rw[show(λx=>some (D.int x))=some ∘ D.int from rfl,dE]
   refine .keep (kk _ (by rw[iu,u7];lia) (JZ 0 _) λx hx=>?_)
   obtain⟨i,hi,rfl⟩:=List.mem_map.mp hx
   have:=List.mem_range.mp hi
   lia
  .have q:=of_decide_eq_false q
   have kl:k<μ.length:=(kM hb).1
   refine mQ ?_
   refine⟨AO,kT [0,1,2,m - 2,m - 1],by show 5<=15;decide,rfl,?_⟩
   rw[K1,mT]
   have o5:EW m 5 ([0,1,2,m - 2,m - 1].foldl vn []):=(((((⟨.nil,ar _,λx hx=>nomatch hx⟩:EW m 0 []).put (by lia) (by lia)).put (by lia) (by lia)).put (by lia) (by lia)).put (by lia) (by lia)).put (by lia) (by lia)
   generalize [0,1,2,m - 2,m - 1].foldl vn []=ns at o5
   have bx:∀ {x:MO},(μ++[x])[k]?=some .box:=by intro x;rw[vR kl];exact hb
   have l5:=o5.le
   dsimp only
   refine⟨bx,by lia,⟨d,hd,hd2⟩,λv v0 v1=>⟨kT ns,kT (vn ns v),AO,Uy (by unfold kT;rw[iu];lia),by show some (dput _ _ _)=_;rw[AR],?_⟩⟩
   rw[mT]
   have o6:=o5.put v0 v1
   generalize vn ns v=ns at o6
   have l6:=o6.le
   dsimp only
   refine⟨bx,by lia,⟨d,hd,hd2⟩,λv v0 v1=>⟨kT ns,kT (vn ns v),AO,Uy (by unfold kT;rw[iu];lia),by show some (dput _ _ _)=_;rw[AR],?_⟩⟩
   rw[mT]
   have o7:=o6.put v0 v1
   generalize vn ns v=ns at o7
   have l7:=o7.le
   dsimp only
   have ek:((kT ns).map (·.1)).map La=ns.map D.int:=by unfold kT;rw[a8,a8];rfl
   have ed:X8 (μ++[MO.jC ((kT ns).map (·.1)) ((kT ns).map (·.2))]) (.mr μ.length)=some ((kT ns).map (·.1),(kT ns).map (·.2)):=O0 AO
   refine fS ed ?_
   refine nLf ⟨ns,by show some (((kT ns).map (·.1)).map La)=_;rw[ek],by lia,λuA p1 p2=>?_⟩
   obtain⟨a1,a2,a3⟩:=o7.sort p1 p2
   refine .drop (tf uA) (pq hm) ?_
   rw[cf]
   exact kk uA (by lia) a2 a3
 .cases h
def Se (F:j4 K "law" "law" nK f fd)(T:lM mg)(Xv:Q4 P w K mg fJ)(jm:uL P w K mg fJ)(PL:G7 P w K mg fJ)(Ut:Mq P w K mg fJ)(Bv:t6 P w K mg fJ)(PM:G9 P w K mg fJ)(nZ:wm P w K mg fJ)(Xs:Q2 P w K mg fJ)(IU:zt P w K mg fJ)(IV:zu P w K mg fJ)(Bt:Ms P w K mg fJ)(wx:G8 P w K mg fJ)(Bs:Mr P w K mg fJ)(mY:tY P w K mg fJ)(E6:Mn P w K mg fJ)(Dq:vf P w K mg fJ):gF P w K mg fJ kW 220 f fd (pA nK) (Qi K):=by
 refine F.ok kZ (λvs H Q E h=>?_) (λjl A fT s H vs Q E hr h=>?_)
 .obtain⟨a,ns,rfl,_⟩:=h;rfl
 .obtain⟨a,ns,rfl,hs,hl,k⟩:=h
  refine⟨_,iQ (uw (i:=1) kZ.nd rfl (by first | exact Or.inl rfl | exact Or.inr rfl) (w5 Xv (hr.mono (by first | decide | exact ar _ | lia)) rfl (gv (lT 0) iR))) (fO (FD (qC PL hr (a2 (dv 1) (jo (kD false (gz fR (gz fR (gz fR (gz fR (gz fR (gz fR (gz fR (gz fR kq))))))))) (qC jm hr (a2 (dv 1) fR))))) ⟨(g9 (n:=3) rfl (fQ (qN 2 kZ.nd) (fQ (qN 3 kZ.nd) (fQ (qN 4 kZ.nd) gI)))),(iO (gb (f9 2) (fL 2) (gb (f9 3) (fL 3) (gb (f9 4) (fL 4) iP fU) (fN (fL 4) fU)) (fN (fL 3) (fN (fL 4) fU)))),(iB (fN (fL 2) (fN (fL 3) (fN (fL 4) fU))))⟩)
   (vh (jd (RN (dv 2) fR)
   (fW (qS 4 kZ.nd (qC Ut hr (a1 (dv 4)))))
   hG)
   (fO (qS 5 kZ.nd (kD false (a2 (L5 Cv (vE (m:=false)) (by rfl) T.list bY (a1 (dv 3))) (L5 Cv (vE (m:=false)) (by rfl) T.list bY (a1 (dv 4))))))
   (fO (qS 6 kZ.nd (qC Bv hr (a3 (dv 2) (jo (dv 5) fR) (jo (dv 5) fR))))
   (fO (qS 7 kZ.nd (qC PM hr (a2 (ot (ot (kD false (a1 fR)) (dv 3)) (kD false (a1 (dv 2)))) (dv 4))))
   (fO (jd (PW.pt (yb (uU (jc (qC nZ hr (a1 (dv 6))))) (uT (Vr (vd ZY rK (dv 6) fR (iS _)) (TL (dv 7))))))
   (fW (gA r8))
   hG)
   (fO (qS 8 kZ.nd fR)
   (vh (jd (rG (dv 7))
   (fW (qS 8 kZ.nd (qC Xs hr (a3 (ot (ot (kD false (a1 fR)) (dv 3)) (kD false (a1 (dv 2)))) (dv 4) (dv 7)))))
   hG)
   (fO (qS 9 kZ.nd xM)
   (fO (m7 bM rfl (jA (qC IU hr (a2 (dv 1) (dv 6)))) (qT 10 kZ.nd)
   (fO (qS 11 kZ.nd (CV IV hr.le rfl (gz (dv 2) (gz (jo (dv 5) fR) (gz (jo (dv 5) fR) (gz (dv 10) kq))))))
   (fO (jd (PW.pt (yb (uU (jc (qC Bt hr (a1 (dv 11))))) (uT (Vr (qC wx hr (a1 (dv 11))) (dv 8)))))
   (fW (gA r8))
   hG)
   (fO (jd (kS (Eb (n:=3) (BO hr (by decide))) zS (qC Bs hr (a3 (dv 3) (dv 4) (dv 11))) (pK (a2 (pU mulC p7 kC (dv 2)) (dv 7))) (iS _))
   (fW (gA r8))
   hG)
   (fO (jd (PW.pt (BS (rG (dv 9)) (wD (uU (jc (qC mY hr (a2 (dv 9) (dv 11))))))))
   (fW (gA r8))
   hG)
   (fO (jd (uU (jc (qC E6 hr (a2 (CV Dq hr.le rfl (gz (dv 2) (gz (jo (dv 5) fR) (gz (jo (dv 5) fR) (gz (dv 11) kq))))) (dv 10)))))
   (fW (gA r8))
   hG)
   (fW (qS 9 kZ.nd (dv 11)))))))))
   (fW (gA (vd (TB (n:=5) (BO hr (by decide))) zS (dv 5) (kD false (a2 (dv 3) (dv 4))) (iS _)))))))))))))),?_⟩
  refine⟨ns,hs,λb q H0 B0 ZT rB S0=>?_⟩
  refine Sv (m:=10) B0 ?_ k
  refine⟨zs,rfl,by decide,by decide,λv v0 v1=>?_⟩
  obtain⟨mm,em,hmm⟩:∃ mm,lO [D.int 10,D.int 10,D.int 10,D.int 10,D.int 10,D.int 10,D.int 10,D.int 24] v=some (.int mm)/\(mm=10\/mm=24):=by
   obtain rfl|rfl|rfl|rfl|rfl|rfl|rfl|rfl:v=0\/v=1\/v=2\/v=3\/v=4\/v=5\/v=6\/v=7:=by lia
   all_goals first|exact⟨10,rfl,.inl rfl⟩|exact⟨24,rfl,.inr rfl⟩
  refine fS em ⟨rfl,by lia,by lia,λn cs Yr h1 h2 AE hc Zk=>?_⟩
  refine⟨rfl,?_⟩
  have lts:=Zk.mZ
  refine⟨λj7 gc=>∃ ts:ao Tk,ud n ts/\j7=[none,some (.mr 0),some (.int n),some (.lst (cs.map D.int)),some (.lst (ts.map mM)),none,none,none,none,none,none,none]/\gc=[.box],?_,?_⟩
  .refine kL (c:=10<n) (λ_=>?_) (λ_=>⟨Yr,Zk,rfl,rfl⟩)
   exact⟨Yr,rfl,by lia,Yr.map Ga,Od Zk,rfl,rfl⟩
  rintro j7 gc ⟨ts,ht,rfl,rfl⟩
  have S:iC n cs ts:=⟨h1,by lia,by lia,hc,ht⟩
  have ft:=ht.mZ
  have oS:(fH n cs).length=cs.length+2:=gy n cs
  refine⟨zs,?_⟩
  have sml:nA 5 (.lst [.lst (cs.map D.int),.lst (ts.map mM)]):=wL (by simp) λd hd=>by
   simp only[aP,aH,bS]at hd
   rcases hd with rfl|rfl
   .exact Ny (by lia)
   .exact Ry (by lia)
  refine⟨cs,ts,rfl,rfl,S,by lia,Mh λc ZQ=>?_⟩
  refine⟨zs,by rw[iu];exact sz (by show 1+cs.length<=_;lia),zs,by rw[oq,iu];exact sz (by show 1+cs.length+1<=_;lia),?_⟩
  rw[qo]
  refine⟨n,cs,ts,rfl,rfl,S,by lia,El λd8 h8=>?_⟩
  dsimp only
  cases h8 with
  | no hb =>
   obtain rfl:c=0:=by
    cases ZQ with
    |no _=>rfl
    |yes a _ To _=>exact absurd To hb
   refine nq (!true||false) (.or (.not (.Bx λK k=>⟨.num 0,rfl,k⟩)) λ_=>.Bx λK k=>k) (λq=>by cases q) (λ_=>mQ ?_)
   refine⟨λj7 gc=>j7=[none,some (.mr 0),some (.int n),some (.lst (cs.map D.int)),some (.lst (ts.map mM)),some (.lst [.lst (cs.map D.int),.lst (ts.map mM)]),some (.int 0),some .iq,some (.int 0),none,none,none]/\gc=[.box],nq false (.Bx λK k=>k) (λq=>by cases q) (λ_=>mQ ⟨rfl,rfl⟩),?_⟩
   rintro j7 gc ⟨rfl,rfl⟩
   refine⟨rfl,by lia,⟨0,by decide,by decide⟩,λns _ _ xl=>?_⟩
   obtain rfl:ns=[]:=by
    cases ns with
    |nil=>rfl
    |cons x r=>have:=xl x aF;lia
   exact⟨trivial,zs,CQ rfl sml rfl rfl⟩
  | yes a ha hb la =>
   have el:(fH n cs).length - 1=cs.length+1:=by lia
   obtain⟨tf1,tf2⟩:=Fi S la
   obtain rfl:c=iM (fH n cs) ts (a+1) 0 (cs.length+1):=by
    cases ZQ with
    |no h=>exact absurd hb h
    |yes a' _ _ VW=>rw[la.uniq VW,el]
   have cp:=T8 S (by lia) a 0 (cs.length+1) (by lia) (by lia) tf2
   have cb:=(kN (es:=fH n cs) (ts:=ts) (by lia) (by lia) (a+1) 0 (cs.length+1) (by lia) (by lia)).2
   generalize hC:iM (fH n cs) ts (a+1) 0 (cs.length+1)=C at cp cb ZQ
   generalize hF:lE (fH n cs) ts (a+1) 0 (cs.length+1)=Fw at tf1
   refine nq (!true||(true != decide (decide (0<C)=true))) (.or (.not (.Bx λK k=>⟨.num C,rfl,k⟩)) λ_=>.Bx λK k=>k) (λq=>by rw[aI cp]at q;cases q) (λ_=>mQ ?_)
   refine⟨λj7 gc=>j7=[none,some (.mr 0),some (.int n),some (.lst (cs.map D.int)),some (.lst (ts.map mM)),some (.lst [.lst (cs.map D.int),.lst (ts.map mM)]),some (.int C),some (.int a),some (.int Fw),none,none,none]/\gc=[.box],nq true (.Bx λK k=>k) (λ_=>?_) (λq=>by cases q),?_⟩
   .refine⟨zs,by rw[iu];exact sz (by show 1+cs.length<=_;lia),zs,by rw[oq,iu];exact sz (by show 1+cs.length+1<=_;lia),?_⟩
    rw[qo]
    refine⟨n,cs,ts,rfl,rfl,S,by lia,by lia,?_,rfl⟩
    rw[xq,hF]
    rfl
   rintro j7 gc ⟨rfl,rfl⟩
   refine⟨rfl,by lia,⟨_,by lia,cb⟩,λns nl nu xl=>?_⟩
   refine iY (λds ρ gc=>∃(xs ys:ao Int) (l9:D) (v10 v11:aq D),ns=xs++ys/\ds=ys.map D.int/\((xs=[]/\l9=.iq)\/∃ zs z,xs=zs++[z]/\l9=rp (wq (fH n cs) ts (a+1) 0 (cs.length+1) z))/\ρ=[none,some (.mr 0),some (.int n),some (.lst (cs.map D.int)),some (.lst (ts.map mM)),some (.lst [.lst (cs.map D.int),.lst (ts.map mM)]),some (.int C),some (.int a),some (.int Fw),some l9,v10,v11]/\gc=[.box]) ⟨[],ns,.iq,none,none,rfl,rfl,.inl ⟨rfl,rfl⟩,rfl,rfl⟩ ?_ ?_
   .rintro d' xG ρ gc ⟨xs,ys,l9,v10,v11,e1,e2,hl9,rfl,rfl⟩
    refine⟨trivial,λnx qY=>?_⟩
    cases ys with
    |nil=>cases e2
    | cons x ys =>
     cases e2
     obtain⟨x0,x1⟩:=xl x (by rw[e1];simp)
     rw[<- hC]at x1
     obtain⟨t1,t2,t3,t4⟩:=Dl S (by lia) la x0 x1
     have rk:=Aa (iD S.n1 S.jD) (by lia) (by lia) (a+1) 0 (cs.length+1) x (by lia) (by lia) x0 x1
     rw[hF]at t3
     refine⟨⟨_,rfl⟩,cs,ts,rfl,rfl,S,by lia,?_⟩
     unfold Mw
     rw[hb]
     intro a' _ VW
     obtain rfl:=la.uniq VW
     rw[el,aB ⟨x0,x1⟩]
     have gfo:∀ zs z,xs=zs++[z]->UP (wq (fH n cs) ts (a+1) 0 (cs.length+1) z) (wq (fH n cs) ts (a+1) 0 (cs.length+1) x)/\(wq (fH n cs) ts (a+1) 0 (cs.length+1) z).dep<=cs.length:=λzs z ez=>by
      rw[e1,ez]at nu
      obtain⟨z0,z1⟩:=xl z (by rw[e1,ez];simp)
      rw[<- hC]at z1
      refine⟨EO (iD S.n1 S.jD) (by lia) (by lia) (a+1) 0 (cs.length+1) z x (by lia) (by lia) z0 ?_ x1,(Dl S (by lia) la z0 z1).2.2.2⟩
      exact(List.pairwise_append.mp nu).2.2 z (by simp) x aF
     generalize ht:wq (fH n cs) ts (a+1) 0 (cs.length+1) x=t at t1 t2 t3 t4 rk gfo
     dsimp only
     refine nq (!true||(true != decide (Fw=Fw))) (.or (.not (.Bx λK k=>⟨t,rfl,by lia,k⟩)) λ_=>.Bx λK k=>⟨t,rfl,by lia,by rw[t3];exact k⟩) (λq=>by rw[aI rfl]at q;cases q) (λ_=>mQ ?_)
     dsimp only
     refine nq false (.Bx λK k=>?_) (λq=>by cases q) (λ_=>mQ ?_)
     .refine⟨cs,ts,t,n,rfl,rfl,rfl,by lia,λp hp=>by have:=hc.Jb p hp;lia,by lia,uk S,?_⟩
      rw[jV.KI t1,t2]
      exact⟨111,rfl,by lia,by lia,zs,KU rfl (Qk _) rfl k⟩
     dsimp only
     have fin:∀ K:DE->MS->Prop,(∀ ρ μ,nx ρ μ->K ρ μ)->K [none,some (.mr 0),some (.int n),some (.lst (cs.map D.int)),some (.lst (ts.map mM)),some (.lst [.lst (cs.map D.int),.lst (ts.map mM)]),some (.int C),some (.int a),some (.int Fw),some (rp t),some (.int x),some (rp t)] [.box]:=λK hk=>hk _ _ (qY _ _ ⟨xs++[x],ys,_,_,_,by rw[e1];simp,rfl,.inr ⟨xs,x,rfl,by rw[ht]⟩,rfl,rfl⟩)
     refine O9 (λb iE=>b=false/\iE=[.box]) (λK k=>?_) (λiE h=>by cases h.1) (λiE h=>?_)
     .rcases hl9 with⟨_,rfl⟩ | ⟨zs,z,ez,rfl⟩
      .exact k _ _ ⟨rfl,rfl⟩
      .obtain⟨g1,g2⟩:=gfo zs z ez
       generalize wq (fH n cs) ts (a+1) 0 (cs.length+1) z=u at g1 g2
       exact(TV.and (x:=true) (y:=!true) (.Bx λK k=>by cases u<;>exact k) λ_=>.not (.Bx λK k=>⟨u,t,rfl,rfl,by lia,by lia,by lia,g1,k⟩)) K (k _ _ ⟨rfl,rfl⟩)
     rw[h.2]
     refine mQ ?_
     dsimp only
     refine nq (!true) (.not (.Bx λK k=>?_)) (λq=>by cases q) (λ_=>mQ (fin _ λ_ _ h=>h))
     refine⟨⟨_,rfl⟩,cs,ts,t,rfl,rfl,rfl,S,by lia,?_⟩
     unfold Sj
     rw[hb]
     intro a' _ VW
     obtain rfl:=la.uniq VW
     rw[el,rk]
     exact⟨.int x,rfl,rfl,ur,k⟩
   .rintro ρ gc ⟨xs,ys,l9,v10,v11,e1,e2,hl9,rfl,rfl⟩
    exact⟨trivial,zs,CQ rfl sml rfl rfl⟩
end
def kM0:ak:=(.str "hissroom.errors" 218)
def nE:ak:=(.str "law_hissroom_k18_best_makes_by_number" 490)
def QD:ak:=(.str "hissroom.ends" 187)
def MT:ak:=(.str "hissroom.reach" 270)
def MR:ak:=(.str "hissroom.tables" 309)
def vL:ak:=(.str "hissroom.few" 342)
def kk (P:Params):aa:=List.flatten [[ko 3 (VQ P "law_hissroom_k18_best_makes_by_number" 490 [me "ends" 196 (.ref 21),me "pieces" 205 (.ref 28),me "farthest" 211 (.ref 33),me "bar_of" 217 (.ref 38),me "HissError" 237 (.ref 48),me "BadMake" 253 (.ref 61),me "BadNumber" 269 (.ref 73),me "least_age" 284 (.ref 82),me "youngest" 290 (.ref 87),me "take_rows" 296 (.ref 92),me "clean_row" 302 (.ref 97),me "next_reach" 308 (.ref 102),me "few_tables" 316 (.ref 107),me "no_make" 323 (.ref 114),me "bare_table" 329 (.ref 119),me "next_table" 335 (.ref 124),me "fewest_joined" 341 (.ref 129),me "count_best" 353 (.ref 136),me "best_of" 364 (.ref 143),me "number_of" 375 (.ref 150),me "BestMakes" 481 (.ref 212),me "take_rank" 489 (.ref 223),me "_law_box" 498 (.ref 230),me "_law_take" 510 (.ref 237),me "_law_bars" 516 (.ref 242),me "_law_cuts" 522 (.ref 247),me "_law_patched" 537 (.ref 254),me "_law_shelf" 543 (.ref 259),me "_law_near" 549 (.ref 264),me "_law_made" 560 (.ref 271),me "_law_far" 566 (.ref 276),me "_law_own" 572 (.ref 281),me "_law_rows" 578 (.ref 286),me "_law_barred" 584 (.ref 291),me "_law_least" 590 (.ref 296),me "_law_few_next" 596 (.ref 301),me "_law_few" 607 (.ref 308),me "_law_whole" 614 (.ref 315),me "_law_form" 621 (.ref 322),me "_law_same" 627 (.ref 327),me "_law_goes_first" 635 (.ref 334),me "_law_parts" 642 (.ref 341),me "_law_numbers" 648 (.ref 346),me "law" 666 (.ref 353)])],[ko 212 ⟨.type "type",none,(.cls ⟨"BestMakes",[.type "object"],[.ref 212,.type "object"],211, "BestMakes",true,[],[],false,none,false⟩),#[none,none,(some (.str "BestMakes" 376)),(some (.str "BestMakes" 384)),(some (.builtin "object.__new__")),(some (.bool true))]⟩,ko 211 ⟨.type "dict",none,(.dict #[v8 P "__module__" 383 (.str "hissroom.few" 342),v8 P "__firstlineno__" 387 (.int 97 386),v8 P "__init__" 398 (.ref 164),v8 P "is_take" 409 (.ref 171),v8 P "clean_takes" 415 (.ref 176),v8 P "halves" 421 (.ref 181),v8 P "counted" 429 (.ref 188),v8 P "count_anew" 441 (.ref 195),v8 P "numbered" 455 (.ref 202),v8 P "rank" 468 (.ref 209),v8 P "__static_attributes__" 474 (.ref 210),v8 P "__dict__" 476 (.ref 213),v8 P "__weakref__" 478 (.ref 214),v8 P "__doc__" 479 (.none)] 4),#[]⟩],kx P 73 72 48 "BadNumber" (some (.ref 64)) 254 262 kM0 261 21 71,kx P 61 60 48 "BadMake" (some (.ref 52)) 238 246 kM0 245 19 59,[ko 48 ⟨.type "type",none,(.cls ⟨"HissError",[.type "ValueError"],[.ref 48,.type "ValueError",.type "Exception",.type "BaseException",.type "object"],47, "HissError",true,[],[.ref 61,.ref 73],false,none,false⟩),#[(some (.ref 39)),none,(some (.str "HissError" 220)),(some (.str "HissError" 228)),(some (.builtin "ValueError.__new__")),(some (.bool true))]⟩,ko 47 ⟨.type "dict",none,(.dict #[v8 P "__module__" 227 (.str "hissroom.errors" 218),v8 P "__firstlineno__" 231 (.int 17 230),v8 P "__static_attributes__" 232 (.ref 46),v8 P "__weakref__" 234 (.ref 49),v8 P "__doc__" 235 (.none)] 3),#[]⟩],oR 230 229 "_law_box" wV nE 492 161 1 224 225 (.ref 226) (.ref 227) 228 496,oR 237 236 "_law_take" oa nE 499 163 2 231 232 (.ref 233) (.ref 234) 235 508,oR 242 241 "_law_bars" rS nE 511 179 2 238 239 .none .none 240 514,oR 247 246 "_law_cuts" rR nE 517 192 2 243 244 .none .none 245 520,oR 254 253 "_law_patched" lW nE 523 199 4 248 249 (.ref 250) (.ref 251) 252 535,oR 259 258 "_law_shelf" o9 nE 538 207 2 255 256 .none .none 257 541,oR 327 326 "_law_same" s_same nE 622 287 2 323 324 .none .none 325 625,oR 21 20 "ends" rQ QD 189 2 2 15 16 (.ref 17) (.ref 18) 19 194,oR 28 27 "pieces" m6 QD 197 4 2 22 23 (.ref 24) (.ref 25) 26 203,oR 38 37 "bar_of" m9 QD 212 11 3 34 35 .none .none 36 215,oR 33 32 "farthest" k8 QD 206 7 4 29 30 .none .none 31 209,oR 92 91 "take_rows" jI MT 291 37 3 88 89 .none .none 90 294,oR 97 96 "clean_row" ki MT 297 40 3 93 94 .none .none 95 300,oR 102 101 "next_reach" jK MT 303 46 4 98 99 .none .none 100 306,oR 87 86 "youngest" k7 MT 285 35 1 83 84 .none .none 85 288,oR 82 81 "least_age" ke MT 272 24 3 76 77 (.ref 78) (.ref 79) 80 282,oR 114 113 "no_make" lY MR 317 65 1 108 109 (.ref 110) (.ref 111) 112 321,oR 119 118 "bare_table" jt MR 324 67 1 115 116 .none .none 117 327,oR 129 128 "fewest_joined" iV MR 336 77 3 125 126 .none .none 127 339,oR 124 123 "next_table" jr MR 330 70 3 120 121 .none .none 122 333,oR 107 106 "few_tables" jM MR 311 51 4 103 104 .none .none 105 314,kf 171 170 "is_take" "BestMakes.is_take" hU vL 399 107 2 165 166 (.ref 167) (.ref 168) 169 407,kf 176 175 "clean_takes" "BestMakes.clean_takes" gH vL 410 111 2 172 173 .none .none 174 413,kf 181 180 "halves" "BestMakes.halves" ib vL 416 116 2 177 178 .none .none 179 419,kf 195 194 "count_anew" "BestMakes.count_anew" gL vL 430 127 2 189 190 (.ref 191) (.ref 192) 193 439,kf 188 187 "counted" "BestMakes.counted" hV vL 422 122 2 182 183 (.ref 184) (.ref 185) 186 427,kf 164 163 "__init__" "BestMakes.__init__" gW vL 388 99 4 158 159 (.ref 160) (.ref 161) 162 396,oR 136 135 "count_best" jN vL 344 80 3 130 131 (.ref 132) (.ref 133) 134 351,kf 202 201 "numbered" "BestMakes.numbered" gU vL 442 135 3 196 197 (.ref 198) (.ref 199) 200 453,oR 143 142 "best_of" lZ vL 354 85 4 137 138 (.ref 139) (.ref 140) 141 362,oR 223 222 "take_rank" kb vL 482 156 2 217 218 (.ref 219) (.ref 220) 221 487,kf 209 208 "rank" "BestMakes.rank" iL vL 456 145 3 203 204 (.ref 205) (.ref 206) 207 466,oR 150 149 "number_of" kc vL 365 92 4 144 145 (.ref 146) (.ref 147) 148 373,oR 276 275 "_law_far" wU nE 561 232 3 272 273 .none .none 274 564,oR 281 280 "_law_own" wQ nE 567 237 3 277 278 .none .none 279 570,oR 286 285 "_law_rows" rM nE 573 242 3 282 283 .none .none 284 576,oR 291 290 "_law_barred" m8 nE 579 251 2 287 288 .none .none 289 582,oR 296 295 "_law_least" ph nE 585 257 2 292 293 .none .none 294 588,oR 264 263 "_law_near" rN nE 544 220 1 260 261 .none .none 262 547,oR 301 300 "_law_few_next" kh nE 591 262 3 297 298 .none .none 299 594,oR 308 307 "_law_few" wR nE 597 274 3 302 303 (.ref 304) (.ref 305) 306 605,oR 315 314 "_law_whole" o8 nE 608 279 1 309 310 (.ref 311) (.ref 312) 313 612,oR 271 270 "_law_made" rO nE 550 222 3 265 266 (.ref 267) (.ref 268) 269 558,oR 322 321 "_law_form" rP nE 615 281 1 316 317 (.ref 318) (.ref 319) 320 619,oR 341 340 "_law_parts" pf nE 636 305 1 335 336 (.ref 337) (.ref 338) 339 640,oR 334 333 "_law_goes_first" jL nE 628 297 2 328 329 (.ref 330) (.ref 331) 332 633,oR 346 345 "_law_numbers" lX nE 643 307 2 342 343 .none .none 344 646,oR 353 352 "law" nK nE 649 314 1 347 348 (.ref 349) (.ref 350) 351 664]
def hk:W.Hook:=W.kHook kk [3,212,211,73,72,61,60,48,47,230,229,237,236,242,241,247,246,254,253,259,258,327,326,21,20,28,27,38,37,33,32,92,91,97,96,102,101,87,86,82,81,114,113,119,118,129,128,124,123,107,106,171,170,176,175,181,180,195,194,188,187,164,163,136,135,202,201,143,142,223,222,209,208,150,149,276,275,281,280,286,285,291,290,296,295,264,263,301,300,308,307,315,314,271,270,322,321,341,340,334,333,346,345,353,352] (λ_=>by kernel_rfl)
def lw:W.OpenLaw:=PySem.Challenge.rw_hissroom_k18_best_makes_by_number
def qq:ae:={ lw.prog with main:={ lw.prog.main with body:=[nK]}}
def ll:ao Str:=[sS "ends",sS "pieces",sS "farthest",sS "bar_of",sS "HissError",sS "BadMake",sS "BadNumber",sS "least_age",sS "youngest",sS "take_rows",sS "clean_row",sS "next_reach",sS "few_tables",sS "no_make",sS "bare_table",sS "next_table",sS "fewest_joined",sS "count_best",sS "best_of",sS "number_of",sS "BestMakes",sS "take_rank",sS "_law_box",sS "_law_take",sS "_law_bars",sS "_law_cuts",sS "_law_patched",sS "_law_shelf",sS "_law_near",sS "_law_made",sS "_law_far",sS "_law_own",sS "_law_rows",sS "_law_barred",sS "_law_least",sS "_law_few_next",sS "_law_few",sS "_law_whole",sS "_law_form",sS "_law_same",sS "_law_goes_first",sS "_law_parts",sS "_law_numbers"]
def xt (s:ah):Bool:=W.xlAt qq [] s&&W.recOk (W.RowW.records lw.row.toRowW) s
def left:W.LeftO lw.prog qq ll xt hk.obs hk.val 2292:=Ou (M:=2292) (by kernel_rfl) rfl (λs=>by kernel_rfl) rfl (λw os=>by kernel_rfl)
def YM:lw.wellSaid=true:=(congrFun W.Fast.te9446332074065402090 lw).trans (by kernel_rfl)
def dd:DefRec:=⟨"law",kz nK,jP nK,fP nK,TH nK⟩
def holds (F:W.WalkO qq ll (W.XL qq []) hk.says lw.row.toRowW dd [] (λf vs=>PySem.call f vs)):lw.Holds:=W.holds_law YM λk1=>W.holds_open (q:=qq) (loose:=ll) (Xt:=xt) (XP:=W.XL qq []) (d:=dd) (kwd:=[]) left hk.of hk.keeps (λs e=>W.xl_of s (Bool.and_eq_true_iff.mp e).1) W.XL.keeps (by kernel_rfl) (by kernel_rfl) rfl (λs e=>W.recFacts_of (Bool.and_eq_true_iff.mp e).2) rfl k1 (by kernel_rfl) ⟨rfl,rfl,rfl,rfl,rfl,by kernel_rfl⟩ ⟨[.list []],by kernel_rfl,by kernel_rfl⟩ F
abbrev lx (f:ae->af->aa->(Str->aq ak)->Heap->Prop)(w:af)(mg:Str->aq ak)(fJ:Heap):Prop:=f lw.prog w (kk w.params) mg fJ
def fq (w:af)(x q:Str)(s:Stmt)(f:ai)(pm:ak)(c:ai)(l:(kk w.params).lookup f=some (X1 x q s pm c):=by kernel_rfl)(c':W.codeIn (kk w.params) (.ref c) q=true:=by kernel_rfl)(k:W.keepIn (kk w.params) (.ref f)=true:=by kernel_rfl):=LA l c' k
def oV (w:af)(x:Str)(s:Stmt)(f:ai)(pm:ak)(c:ai)(l:(kk w.params).lookup f=some (X1 x x s pm c):=by kernel_rfl)(c':W.codeIn (kk w.params) (.ref c) x=true:=by kernel_rfl)(k:W.keepIn (kk w.params) (.ref f)=true:=by kernel_rfl):=LA l c' k
set_option maxHeartbeats 40000000 in
def fin:W.WalkO qq ll (W.XL qq []) hk.says lw.row.toRowW dd [] (λf vs=>PySem.call f vs):=by
 refine L2.Nb (l:=lw) (d:=dd) (n:=63) (k:=220) (x:= "_law_script") (K:=kk) (CX:=λ_=>kW) (sp:=λw=>Qi (kk w.params)) rfl (by decide) rfl ⟨rfl,by decide,by decide⟩ (λw h Y=>W.kIn_of Y) (λw mg fa h X G hfa=>?_) (λ_ _ a ns hl _ hS=>⟨a,ns,rfl,hS,hl,λ_=>rfl⟩) λ_ _ _ _ _ z=>z
 have e:=hfa.symm.trans (W.mg_of X G (show W.nsIn (kk w.params) mainGlobals "law"=sr 353 by kernel_rfl))
 cases e
 have T:lM mg:=⟨b8 X G (by kernel_rfl),b8 X G (by kernel_rfl),b8 X G (by kernel_rfl),b8 X G (by kernel_rfl),b8 X G (by kernel_rfl),b8 X G (by kernel_rfl),b8 X G (by kernel_rfl),b8 X G (by kernel_rfl),b8 X G (by kernel_rfl),b8 X G (by kernel_rfl),b8 X G (by kernel_rfl),b8 X G (by kernel_rfl),b8 X G (by kernel_rfl),b8 X G (by kernel_rfl),b8 X G (by kernel_rfl),b8 X G (by kernel_rfl),b8 X G (by kernel_rfl)⟩
 have fK:ip (kk w.params) fM:=⟨⟨by kernel_rfl,by kernel_rfl,by kernel_rfl,by kernel_rfl⟩,by kernel_rfl,by kernel_rfl,by kernel_rfl,by kernel_rfl,by kernel_rfl⟩
 have F0:=oV w "_law_box" wV 230 nE 229
 have F1:=oV w "_law_take" oa 237 nE 236
 have F2:=oV w "_law_bars" rS 242 nE 241
 have F3:=oV w "_law_cuts" rR 247 nE 246
 have F4:=oV w "_law_patched" lW 254 nE 253
 have F5:=oV w "_law_shelf" o9 259 nE 258
 have F6:=oV w "_law_same" s_same 327 nE 326
 have F7:=oV w "ends" rQ 21 QD 20
 have F8:=oV w "pieces" m6 28 QD 27
 have F9:=oV w "bar_of" m9 38 QD 37
 have F10:=oV w "farthest" k8 33 QD 32
 have F11:=oV w "take_rows" jI 92 MT 91
 have F12:=oV w "clean_row" ki 97 MT 96
 have F13:=oV w "next_reach" jK 102 MT 101
 have F14:=oV w "youngest" k7 87 MT 86
 have F15:=oV w "least_age" ke 82 MT 81
 have F16:=oV w "no_make" lY 114 MR 113
 have F17:=oV w "bare_table" jt 119 MR 118
 have F18:=oV w "fewest_joined" iV 129 MR 128
 have F19:=oV w "next_table" jr 124 MR 123
 have F20:=oV w "few_tables" jM 107 MR 106
 have F21:=fq w "is_take" "BestMakes.is_take" hU 171 vL 170
 have F22:=fq w "clean_takes" "BestMakes.clean_takes" gH 176 vL 175
 have F23:=fq w "halves" "BestMakes.halves" ib 181 vL 180
 have F24:=fq w "count_anew" "BestMakes.count_anew" gL 195 vL 194
 have Yj:=fq w "counted" "BestMakes.counted" hV 188 vL 187
 have F26:=fq w "__init__" "BestMakes.__init__" gW 164 vL 163
 have F27:=oV w "count_best" jN 136 vL 135
 have Yi:=fq w "numbered" "BestMakes.numbered" gU 202 vL 201
 have F29:=oV w "best_of" lZ 143 vL 142
 have F30:=oV w "take_rank" kb 223 vL 222
 have Yh:=fq w "rank" "BestMakes.rank" iL 209 vL 208
 have F32:=oV w "number_of" kc 150 vL 149
 have F33:=oV w "_law_far" wU 276 nE 275
 have F34:=oV w "_law_own" wQ 281 nE 280
 have F35:=oV w "_law_rows" rM 286 nE 285
 have F36:=oV w "_law_barred" m8 291 nE 290
 have F37:=oV w "_law_least" ph 296 nE 295
 have F38:=oV w "_law_near" rN 264 nE 263
 have F39:=oV w "_law_few_next" kh 301 nE 300
 have F40:=oV w "_law_few" wR 308 nE 307
 have F41:=oV w "_law_whole" o8 315 nE 314
 have Xq:=oV w "_law_made" rO 271 nE 270
 have Xp:=oV w "_law_form" rP 322 nE 321
 have Xo:=oV w "_law_parts" pf 341 nE 340
 have Xn:=oV w "_law_goes_first" jL 334 nE 333
 have F46:=oV w "_law_numbers" lX 346 nE 345
 have F47:=oV w "law" nK 353 nE 352
 refine⟨W.fnOf "law" "law" (kz nK) (jP nK) (fP nK) .none .none .none nE none (.ref 352) .none,λs v=>.of_eq rfl,λfJ X0 G0=>?_⟩
 have nY:=Kz (x:= "BadNumber") (C:=mn) (h:=fJ) X0 G0 (by kernel_rfl) (by kernel_rfl)
 have i9:=Kz (x:= "BadMake") (C:=jF) (h:=fJ) X0 G0 (by kernel_rfl) (by kernel_rfl)
 have C0:lx Q4 w mg fJ:=gR X G F0 (Si F0 T ) (MW F0)
 have C1:lx uL w mg fJ:=gR X G F1 (N6 F1 T ) (Ba F1)
 have C2:lx Mu w mg fJ:=gR X G F2 (Ob F2 T  C1) (Ba F2)
 have C3:lx Mt w mg fJ:=gR X G F3 (Oa F3 T  C1) (Ba F3)
 have C4:lx zr w mg fJ:=gR X G F4 (D5 F4 T  C1) (Ug F4)
 have C5:lx G7 w mg fJ:=gR X G F5 (KJ F5 T  C1 C2 C3 C4) (Ba F5)
 have C6:lx Dh w mg fJ:=gR X G F1 (yR F1 T ) (Ba F1)
 have C7:lx Mn w mg fJ:=gR X G F6 ((FT F6 T  (W.mg_of X G (by kernel_rfl)) F6.kp (Ba F6)  5).imp λvs H Q E h=>JT h) (Ba F6)
 have C8:lx sm w mg fJ:=gR X G F7 (N9 F7 T ) (Ba F7)
 have C9:lx Di w mg fJ:=gR X G F8 (HK F8 T  C8) (Ba F8)
 have Yl:lx qv w mg fJ:=gR X G F9 (HM F9 T  C9) (Dz F9)
 have C11:lx xS w mg fJ:=gR X G F10 (Ck F10 T  C8) (Ug F10)
 have C12:lx nX w mg fJ:=gR X G F11 (Ai F11 T  C8 C11) (Dz F11)
 have C13:lx qu w mg fJ:=gR X G F12 (Am F12 T ) (Dz F12)
 have C14:lx tX w mg fJ:=gR X G F13 (yh F13 T  C13) (Ug F13)
 have C15:lx sk w mg fJ:=gR X G F14 (Cd F14 T ) (MW F14)
 have C16:lx vg w mg fJ:=gR X G F15 (Al F15 T  Yl C8 C12 C15 C14) (Dz F15)
 have C17:lx uM w mg fJ:=gR X G F16 (D7 F16 T ) (MW F16)
 have C18:lx t9 w mg fJ:=gR X G F17 (yo F17 T  C17) (MW F17)
 have C19:lx pL w mg fJ:=gR X G F18 (uz F18 T ) (Dz F18)
 have C20:lx tW w mg fJ:=gR X G F19 (yg F19 T  C17 C19) (Dz F19)
 have C21:lx tZ w mg fJ:=gR X G F20 (yi F20 T  C8 C12 C18 C15 C20 C13) (Ug F20)
 have C22:lx hZ w mg fJ:=tV F21 (qe F21 T fK) (Ba F21)
 have C23:lx gJ w mg fJ:=tV F22 (oh F22 T fK) (Ba F22)
 have C24:lx ij w mg fJ:=tV F23 (qU F23 T fK) (Ba F23)
 have Yk:lx h9 w mg fJ:=tV Yj (yT Yj F24 T fK ⟨by kernel_rfl,by kernel_rfl,by kernel_rfl⟩ ⟨by kernel_rfl,by kernel_rfl,by kernel_rfl⟩ (Yj.binds λ_ _ _ _ _ _=>Jg λ_=>Q5 λ_=>rfl) (F24.binds λ_ _ _ _ _ _=>Jg λ_=>Q5 λ_=>rfl) C22 C23 C24 71) (Ba Yj)
 have C27:lx jx w mg fJ:=Ph X G F26 (pT F26 T fK C8 C12 C16 C21) (Ug F26)
 have C28:lx t6 w mg fJ:=gR X G F27 (yj F27 T fK Yl C27 Yk) (Dz F27)
 have C29:lx mI w mg fJ:=tV Yi (FV Yi T fK ⟨by kernel_rfl,by kernel_rfl,by kernel_rfl⟩ (Yi.binds λ_ _ _ _ _ _=>Jg λ_=>Jg λ_=>Q5 λ_=>rfl) C22 C23 C24 Yk 71 (by decide)) (Dz Yi)
 have C30:lx zu w mg fJ:=A4 X G F29 (D8 F29 T fK nY Yl C27 Yk C29) (Ug F29)
 have C31:lx qt w mg fJ:=A4 X G F30 (Aj F30 T i9) (Ba F30)
 have C32:lx oO w mg fJ:=Mj Yh (FU Yh T fK i9 ⟨by kernel_rfl,by kernel_rfl,by kernel_rfl⟩ (Yh.binds λ_ _ _ _ _ _=>Jg λ_=>Jg λ_=>Q5 λ_=>rfl) C22 C23 C24 Yk C31 71 (by decide)) (Dz Yh)
 have C33:lx vf w mg fJ:=A4 X G F32 (Ak F32 T fK i9 Yl C27 C32) (Ug F32)
 have C34:lx Q3 w mg fJ:=gR X G F33 (Sh F33 T ) (Dz F33)
 have C35:lx Mp w mg fJ:=gR X G F34 (Sd F34 T  C34) (Dz F34)
 have C36:lx Mo w mg fJ:=gR X G F35 (N7 F35 T  C35) (Dz F35)
 have C37:lx Dj w mg fJ:=gR X G F36 (HL F36 T ) (Ba F36)
 have C38:lx G9 w mg fJ:=gR X G F37 (KL F37 T  C37 C36) (Ba F37)
 have C39:lx Mq w mg fJ:=gR X G F38 (N8 F38 T ) (MW F38)
 have C40:lx xR w mg fJ:=gR X G F39 (Cj F39 T ) (Dz F39)
 have C41:lx Q2 w mg fJ:=gR X G F40 (Sg F40 T  C35 C40) (Dz F40)
 have C42:lx wm w mg fJ:=gR X G F41 (KH F41 T ) (MW F41)
 have C43:lx Mr w mg fJ:=gR X G Xq (FW Xq T  (W.mg_of X G (by kernel_rfl)) Xq.kp (Dz Xq)  63) (Dz Xq)
 have C44:lx Ms w mg fJ:=gR X G Xp (FY Xp T  (W.mg_of X G (by kernel_rfl)) Xp.kp (MW Xp) C42 63) (MW Xp)
 have C45:lx G8 w mg fJ:=gR X G Xo (Cf Xo T  (W.mg_of X G (by kernel_rfl)) Xo.kp (MW Xo)  63) (MW Xo)
 have C46:lx tY w mg fJ:=gR X G Xn (rm Xn T  (W.mg_of X G (by kernel_rfl)) Xn.kp (Ba Xn)  63) (Ba Xn)
 have C47:lx zt w mg fJ:=gR X G F46 (D6 F46 T  C6) (Ba F46)
 exact Se F47 T  C0 C1 C5 C39 C28 C38 C42 C41 C47 C30 C44 C45 C43 C46 C7 C33
end Pf
theorem PySem.Challenge.cw_hissroom_k18_best_makes_by_number_holds : PySem.Challenge.rw_hissroom_k18_best_makes_by_number.Holds :=
 Pf.holds Pf.fin