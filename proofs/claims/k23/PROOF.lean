import PyProof.Rows.All
import Wide.All
import OpenK.AllK
import Wide.FinOn
import Lean
import PyProof.EqAt
import PyProof.EqKinds
import PyProof.TupleCall
import PyProof.NeKinds
import PyProof.ListRange
import PyProof.MaxThree
import PyProof.DictWalks
import PyProof.Rows.SortWalk
import PyProof.Rows.TopTwo
import PyProof.RangeIter
import PyProof.ExcArgsOwn
import PyProof.ExcBaseAll.ValueError
import PyProof.ExcAttrAll.ValueError
import KE.KIsAll
import OpenK.KOwn
import PyProof.StrBlock
import PyProof.DictItems
import PyProof.DictItemsLoops
import PyProof.DictValues
import PySem.Challenge.RW_hissroom_k23_whole_answer_shown
set_option Elab.async false
set_option linter.all false
set_option maxRecDepth 100000
set_option genSizeOf false
set_option maxHeartbeats 4000000
theorem iM {α:Type _}{l:List α}{i:Nat}(h:i<l.length):l[i]?=some l[i]:=List.getElem?_eq_getElem h
theorem ka {α:Type _}{l:List α}{i:Nat}{a:α}(h:l[i]?=some a):∃ h:i<l.length,l[i]=a:=List.getElem?_eq_some_iff.mp h
theorem ia {α β:Type _}{as:List α}(f:α->β):(as.map f).length=as.length:=List.length_map f
theorem kA {α:Type _}{l:List α}{i:Nat}{a:α}(e:l[i]?=some a):a∈l:=List.mem_of_getElem? e
theorem l5 {α:Type _}{as bs:List α}:(as++bs).length=as.length+bs.length:=List.length_append
theorem t6 {α:Type _}{l₁ l₂:List α}{i:Nat}(h:i<l₁.length):(l₁++l₂)[i]?=l₁[i]?:=List.getElem?_append_left h
theorem rF {α:Type _}{l₁ l₂:List α}{i:Nat}(h:l₁.length<=i):(l₁++l₂)[i]?=l₂[i - l₁.length]?:=List.getElem?_append_right h
theorem nE {α:Type _}{a:α}(b:α){l:List α}(h:a∈l):a∈b::l:=List.mem_cons_of_mem b h
theorem pW {n:Nat}:(List.range n).length=n:=List.length_range
theorem yh (n:Nat):(n:Int).toNat=n:=Int.toNat_natCast n
theorem j6 {h:PySem.Heap}{a:PySem.Addr}{u:PySem.Obj}(v:PySem.Obj)(e:h.get? a=some u):(h.push v).get? a=some u:=PySem.Heap.get?_push_of_some v e
theorem f9 {α β:Type}{M:PySem.Model}{A:PySem.Around}{E:PySem.Value->PySem.Shared->Prop}{s:PySem.Shared}{m:PySem.Sem α}{f:α->PySem.Sem β}{Q:β->PySem.Shared->Prop}(h:PySem.wpAny M A m (λa s=>PySem.wpAny M A (f a) Q E s) E s):PySem.wpAny M A (m>>=f) Q E s:=PySem.wpAny_bind h
theorem jk {h:PySem.Heap}{a:PySem.Addr}{o:PySem.Obj}(e:h.get? a=some o):a<h.objs.size:=PySem.Heap.lt_size e
theorem nF {α β:Type _}{f:α->β}{l:List α}{i:Nat}:(l.map f)[i]?=(l[i]?).map f:=List.getElem?_map ..
abbrev aa:=PySem.W.Frag
abbrev ah:=PySem.Program
abbrev ai:=PySem.World
abbrev aj:=PySem.FuncData
abbrev ak:=PySem.Shared
abbrev ao:=PySem.Addr
abbrev ar:=PySem.Value
abbrev au:=List.{0}
abbrev av:=Option.{0}
abbrev aw:=@Nat.le_refl
abbrev aA:=@PySem.wpAny_pure
abbrev aB:=@List.map_cons
abbrev aC:=@List.getD_eq_getElem?_getD
abbrev aD:=@List.size_toArray
abbrev aE:=@Nat.ne_of_lt
abbrev aF:=@if_pos
abbrev aG:=@if_neg
abbrev aH:=@List.mem_cons_self
abbrev aI:=@PySem.Heap.get?_push_size
abbrev aJ:=@decide_eq_true
abbrev aK:=@Option.some.inj
abbrev aL:=@List.not_mem_nil
abbrev aM:=@List.getElem_of_mem
abbrev aN:=@Bool.false_ne_true
abbrev aO:=@PySem.wpAny_field
abbrev aP:=@Nat.lt_of_lt_of_le
abbrev aQ:=@PyProof.Rows.boot_isinstance
abbrev aR:=@List.mem_cons
abbrev aS:=@decide_eq_false
abbrev aT:=@Nat.le_add_right
abbrev aU:=@List.mem_append_right
abbrev aV:=@Nat.le_trans
abbrev aW:=@List.getElem?_set_self
abbrev aX:=@PySem.Heap.get?_update_other
abbrev aY:=@PySem.wpAny_setField_rec
abbrev aZ:=@List.length_replicate
abbrev a6:=@PyProof.Rows.callWith_type1
abbrev a8:=@Nat.sub_self
abbrev a9:=@List.length_cons
abbrev ba:=@List.getElem?_range
abbrev bc:=@PySem.wpAny_seqItems
abbrev bg:=@PySem.PassesOwn.never
abbrev bh:=@Nat.zero_le
abbrev bj:=@List.mem_of_mem_take
abbrev bo:=@List.getElem?_set_ne
abbrev bp:=@List.append_assoc
abbrev bq:=@Int.le_refl
abbrev bu:=@PySem.Heap.size_push
abbrev bw:=@Nat.ne_of_gt
abbrev bx:=@Nat.lt_succ_of_lt
abbrev bz:=@List.length_take
abbrev bA:=@List.map_map
abbrev bB:=@Int.le_trans
abbrev bC:=@PyProof.Rows.boot_list
abbrev bD:=@Ne.symm
abbrev bE:=@List.zipWith_cons_cons
abbrev bF:=@Nat.lt_succ_self
abbrev bG:=@List.length_zipWith
abbrev bH:=@List.forIn_cons
abbrev bI:=@PySem.wpAny_callSpecial?_slot
abbrev bJ:=@List.length_singleton
abbrev bL:=@PySem.Heap.get?_update_self
abbrev bM:=@List.getElem?_take_of_lt
abbrev bN:=@decide_eq_true_eq
abbrev bO:=@List.length_drop
abbrev bP:=@PySem.wpAny_holding
abbrev bQ:=@or_false
abbrev bR:=@List.getElem_mem
abbrev bS:=@List.map_append
abbrev bT:=@List.getElem?_zipWith
abbrev bU:=@List.drop_eq_getElem_cons
abbrev bV:=@PySem.F.slot_zip_next
abbrev bW:=@Bool.and_eq_true
abbrev bX:=@List.drop_of_length_le
abbrev bY:=@PySem.W.mg_none_of
abbrev bZ:=@List.append_nil
abbrev b7:=@PySem.wpAny_mono
abbrev b8:=@Nat.lt_irrefl
abbrev b9:=@List.take_of_length_le
abbrev cb:=@Nat.min_eq_left
abbrev cf:=@List.mem_range
abbrev cg:=@List.length_set
abbrev cj:=@List.find?_cons
abbrev ck:=@PySem.wpAny_call_entry
abbrev cm:=@List.map_congr_left
abbrev cn:=@of_decide_eq_true
abbrev cq:=@List.set_set
abbrev cv:=@PySem.F.plainAttrs_list
abbrev cw:=@Nat.lt_of_le_of_lt
abbrev cx:=@List.sum_cons
abbrev cy:=@PySem.F.plain_min_loop
abbrev cz:=@Nat.lt_or_ge
abbrev cA:=@Int.toNat_of_nonneg
abbrev cC:=@PySem.wpAny_truthy_bool
abbrev cD:=@PyProof.Rows.boot_int
abbrev cE:=@List.cons.injEq
abbrev cF:=@List.filter_cons
abbrev cG:=@Int.eq_ofNat_of_zero_le
abbrev cH:=@congrArg
abbrev cI:=@PyProof.Rows.boot_bool
abbrev cJ:=@List.ext_getElem?
abbrev cK:=@List.idxOf_cons
abbrev cL:=@PyProof.Rows.boot_max
abbrev cM:=@List.set_append_right
abbrev cO:=@PySem.wpAny_pyIter_zip
abbrev cP:=@PySem.wpAny_Call_Name_kw
abbrev cQ:=@List.zip_cons_cons
abbrev cU:=@List.getElem?_drop
abbrev cV:=@PySem.wpAny_onRaise
abbrev cW:=@PySem.wpAny_updateSeq_pair
abbrev cY:=@PySem.wpAny_letGo
abbrev cZ:=@List.take_left
abbrev c0:=@PyProof.Rows.boot_tuple
abbrev c3:=@List.getElem?_replicate
abbrev c4:=@PySem.F.args_zip_next_1
abbrev c5:=@List.foldl_cons
abbrev c6:=@List.take_succ_cons
abbrev c7:=@List.filterMap_cons
abbrev c8:=@List.any_cons
abbrev c9:=@List.all_eq_true
abbrev da:=@PySem.F.entry_zip_next
abbrev dc:=@PySem.F.excBase_ValueError
abbrev de:=@PySem.F.slot_tuple_iterator_next
abbrev df:=@PySem.wpAny_updateSeq
abbrev dg:=@PySem.wpAny_passesOwn
abbrev dh:=@beq_false_of_ne
abbrev dj:=@PySem.wpAny_pyIter_list
abbrev dk:=@PySem.wpAny_newObj_type
abbrev dm:=@PySem.Around.under_plainId
abbrev dn:=@PySem.mem_of_lookup
abbrev dq:=@PySem.wpAny_setField
abbrev dr:=@Nat.le_succ
abbrev dt:=@PySem.F.plainAttrs_str
abbrev du:=@Nat.lt_trans
abbrev dw:=@Int.le_of_lt
abbrev dz:=@Bool.eq_iff_iff
abbrev dA:=@PySem.wpAny_attempt
abbrev dD:=@PySem.W.kia_one
abbrev dE:=@List.all_cons
abbrev dF:=@PyProof.Rows.boot_min
abbrev dG:=@List.length_filter_le
abbrev dH:=@PySem.F.slot_enumerate_next
abbrev dJ:=@PySem.wpAny_rule
abbrev dM:=@List.mem_append_left
abbrev dN:=@List.forIn_nil
abbrev dP:=@List.zipWith_map
abbrev dQ:=@List.lookup_cons
abbrev dR:=@List.cons_append
abbrev dU:=@List.filter_sublist
abbrev dW:=@PySem.Heap.SameBut.update
abbrev dX:=@PySem.F.plain_extend_loop
abbrev dY:=@PySem.wpAny_standAt
abbrev dZ:=@PySem.wpAny_comprehension_free
abbrev d4:=@PySem.plainId_quiet
abbrev d7:=@PySem.F.type_list_append
abbrev d8:=@PySem.F.slot_list_append
abbrev d9:=@List.eq_of_mem_replicate
abbrev eh:=@PySem.pushCells_keeps
abbrev eA:=@PySem.codeAny_builtin
abbrev eB:=@List.range_succ
abbrev eE:=@List.of_mem_zip
abbrev eF:=@Int.emod_nonneg
abbrev eG:=@PySem.Obj.data_mapFields
abbrev eI:=@List.lookup_append
abbrev eJ:=@Int.emod_lt_of_pos
abbrev eK:=@PySem.Calls.spliced_cons
abbrev eL:=@Bool.false_eq_true
abbrev eM:=@Array.forIn_toList
abbrev eO:=@PySem.F.type_list_clear
abbrev eP:=@PySem.F.slot_list_clear
abbrev eR:=@List.getElem?_cons_succ
abbrev eS:=@PySem.wpAny_tryCatch
abbrev eT:=@PySem.wpAny_pyIter_enum
abbrev eV:=@PySem.wpAny_newTuple
abbrev eW:=@PySem.F.entry_min_loop
abbrev eX:=@Nat.zero_add
abbrev eY:=@Nat.lt_trichotomy
abbrev eZ:=@Nat.le_of_lt
abbrev e9:=@List.range_succ_eq_map
abbrev fb:=@List.nodup_append
abbrev fc:=@List.any_eq_false
abbrev fh:=@PySem.Calls.spliced_nil
abbrev fj:=@Bool.and_false
abbrev fk:=@PySem.F.type_str_join
abbrev fo:=@PySem.F.slot_str_join
abbrev fv:=@PySem.Obj.isFreed_of_fields
abbrev fw:=@List.getElem?_eq_none
abbrev fA:=@List.filterMap_eq_map
abbrev fB:=@PySem.wpAny_isInstance
abbrev fC:=@Nat.min_eq_right
abbrev fE:=@List.any_eq_true
abbrev fF:=@List.mem_of_mem_drop
abbrev fG:=@PySem.wpAny_execs_nil
abbrev fH:=@List.mem_filter
namespace L2
open PySem PySem.Spec PyProof.Rows
abbrev Key:=Sum Int Str
def yR:Key->ar->Bool
 |.inl k,v=>Value.isInt k v
 |.inr x,v=>Value.isStrOf x v
def YV (w:ai):Key->Int
 |.inl k=>hashInt k
 |.inr x=>hashStr w x
def jw:∀ {k:Key} {v:ar},yR k v=true->(∃ i t,k=Sum.inl i/\v=Value.int i t)\/(∃ x t,k=Sum.inr x/\v=Value.str x t)
 | .inl i,v,h=>by
  obtain⟨t,e⟩:=Value.isInt_shape (k:=i) (v:=v) h
  exact .inl ⟨i,t,rfl,e⟩
 | .inr x,v,h=>by
  obtain⟨t,e⟩:=Value.isStrOf_shape (x:=x) (v:=v) h
  exact .inr ⟨x,t,rfl,e⟩
def HQ (i:Int)(t:Tok):yR (.inl i) (.int i t)=true:=by simp[yR,Value.isInt]
def HP (x:Str)(t:Tok):yR (.inr x) (.str x t)=true:=by simp[yR,Value.isStrOf]
def Sm (a b:Int):decide ((Sum.inl a:Key)=Sum.inl b)=(a==b):=by
 by_cases e:a=b
 .subst e;simp
 .have h:¬ (Sum.inl a:Key)=Sum.inl b:=λq=>e (Sum.inl.inj q)
  rw[aS h]
  exact(beq_eq_false_iff_ne.mpr e).symm
def Sj (a b:Str):decide ((Sum.inr a:Key)=Sum.inr b)=decide (a=b):=by
 by_cases e:a=b
 .subst e;simp
 .have h:¬ (Sum.inr a:Key)=Sum.inr b:=λq=>e (Sum.inr.inj q)
  rw[aS h,aS e]
def Sl (a:Int)(b:Str):decide ((Sum.inl a:Key)=Sum.inr b)=false:=aS (λq=>nomatch q)
def Sk (a:Str)(b:Int):decide ((Sum.inr a:Key)=Sum.inl b)=false:=aS (λq=>nomatch q)
def kn (prog:ah)(w:ai):PySem.KeyKind prog w Key where
 is:=yR
 hash:=YV w
 inj:=λv a b ha hb=>by
  rcases jw ha with⟨i,t,rfl,rfl⟩|⟨x,t,rfl,rfl⟩
  .rcases jw hb with⟨j,u,rfl,e⟩ | ⟨y,u,rfl,e⟩
   .injection e with e1 _;rw[e1]
   .exact nomatch e
  .rcases jw hb with⟨j,u,rfl,e⟩ | ⟨y,u,rfl,e⟩
   .exact nomatch e
   .injection e with e1 _;rw[e1]
 byValue:=λk v h=>by
  rcases jw h with⟨i,t,rfl,rfl⟩|⟨x,t,rfl,rfl⟩<;> rfl
 pyHash:=λhv h=>by
  rcases jw hv with⟨i,t,rfl,rfl⟩|⟨x,t,rfl,rfl⟩
  .exact wpAny_pyHash_int h
  .exact wpAny_pyHash_str h
 eqBool:=λhu hv h=>by
  rcases jw hu with⟨i,t,rfl,rfl⟩|⟨x,t,rfl,rfl⟩
  .rcases jw hv with⟨j,u,rfl,rfl⟩ | ⟨y,u,rfl,rfl⟩
   .rw[Sm]at h;exact wpAny_eqBool_int h
   .rw[Sl]at h;exact SeqAt.EqAt.int_str i t y u _ _ _ _ h
  .rcases jw hv with⟨j,u,rfl,rfl⟩ | ⟨y,u,rfl,rfl⟩
   .rw[Sk]at h;exact SeqAt.EqAt.str_int x t j u _ _ _ _ h
   .rw[Sj]at h;exact wpAny_eqBool_str h
 «strs»:=λk x t v h=>by
  rcases jw h with⟨i,u,rfl,e⟩|⟨y,u,rfl,e⟩
  .exact nomatch e
  .injection e with e1 _
   subst e1
   cases v<;>rfl
def Cf (prog:ah)(w:ai)(i:Int)(t:Tok):(kn prog w).is (.inl i) (.int i t)=true:=HQ i t
def Ce (prog:ah)(w:ai)(x:Str)(t:Tok):(kn prog w).is (.inr x) (.str x t)=true:=HP x t
inductive V where
 |ic|bl (b:Bool)|int (i:Int)|str (x:Str)|Iy (b:Array UInt8)|QG (b:UInt64)|ref (a:ao)|ty (n:String)
 deriving DecidableEq
def gH:V->ar->Prop
 |.ic,u=>u=Value.none
 |.bl b,u=>u=Value.bool b
 |.int i,u=>∃ t,u=Value.int i t
 |.str x,u=>∃ t,u=Value.str x t
 |.Iy b,u=>∃ t,u=Value.bytes b t
 |.QG b,u=>∃ t,u=Value.float b t
 |.ref a,u=>u=Value.ref a
 |.ty n,u=>u=Value.type n
abbrev gD:au V->au ar->Prop:=Paired gH
def gD.length {xs:au V}{us:au ar}(r:gD xs us):xs.length=us.length:=Paired.length r
def gD.get:∀ {xs:au V} {us:au ar} {i:Nat} {x:V},gD xs us->xs[i]?=some x->∃ u,us[i]?=some u/\gH x u
 |_,_,_,_,.nil,e=>by simp at e
 |_,_,0,_,.cons r _,e=>by simp at e;subst e;exact⟨_,rfl,r⟩
 | _,_,i+1,x,.cons _ t,e=>by
  obtain⟨u,h1,h2⟩:=gD.get (i:=i) (x:=x) t (by simpa using e)
  exact⟨u,by simpa using h1,h2⟩
def gD.set {x:V}{u:ar}(r:gH x u):∀ {xs:au V} {us:au ar} (i:Nat),gD xs us->gD (xs.set i x) (us.set i u)
 |_,_,_,.nil=>.nil
 |_,_,0,.cons _ t=>.cons r t
 |_,_,i+1,.cons q t=>.cons q (gD.set r i t)
def gD.append {xs ys:au V}{us ws:au ar}(h:gD xs us)(s:gD ys ws):gD (xs++ys) (us++ws):=by
 induction h with
 |nil=>exact s
 |cons r t ih=>exact .cons r ih
def gD.take:∀ {xs:au V} {us:au ar} (n:Nat),gD xs us->gD (xs.take n) (us.take n)
 |_,_,0,_=>.nil
 |_,_,_+1,.nil=>.nil
 |_,_,n+1,.cons r t=>.cons r (gD.take n t)
def gD.drop:∀ {xs:au V} {us:au ar} (n:Nat),gD xs us->gD (xs.drop n) (us.drop n)
 |_,_,0,r=>r
 |_,_,_+1,.nil=>.nil
 |_,_,n+1,.cons _ t=>gD.drop n t
def gD.none_of:∀ {xs:au V} {us:au ar} {i:Nat},gD xs us->xs[i]?=none->us[i]?=none:=λ{xs us i} r e=>by
 have h1:=r.length
 have h2:xs.length<=i:=List.getElem?_eq_none_iff.mp e
 exact List.getElem?_eq_none_iff.mpr (by lia)
def rq:av V->av ar->Prop
 |some v,some u=>gH v u
 |none,none=>True
 |_,_=>False
def KV {κ:Type}:au (κ×V)->au (κ×ar)->Prop:=Paired λ(p:κ×V) (q:κ×ar)=>p.1=q.1/\gH p.2 q.2
def kV:Key->V
 |.inl i=>.int i
 |.inr x=>.str x
inductive HO where
 |lst (xs:List V)
 |tup (xs:List V)
 |dK (fX:List (Key×V))|dT (fX:List (List Key×V))
 |set (S:Int->Bool) (n:Nat)
 |ins (C dx:ao) (fs:List (Str×V))
 |own (x:ao)
 |xd (fs:List (Str×V))
 |met (f x:ao)
 |Xr (lo hi:Int)
 |Cv (o:Obj) (u:HO)
 |PJ (ps:Array ar)
 |ext (φ:Heap->Prop)
abbrev Hp:=ao->av HO
def upd (H:Hp)(a:ao)(o:HO):Hp:=λb=>if b=a then some o else H b
def gp {H:Hp}{a:ao}{o:HO}:upd H a o a=some o:=by unfold upd;rw[aF rfl]
def gB {H:Hp}{a b:ao}{o:HO}(h:b≠a):upd H a o b=H b:=by unfold upd;rw[aG h]
def Vt {H:Hp}{a b:ao}{o u:HO}(h:H a=some o)(h':H b=some u)(d:o≠u):a≠b:=by
 intro e;subst e;rw[h]at h';exact d (aK h')
def gP {H:Hp}{a b:ao}{o:HO}(h:H a=some o)(h':H b=none):a≠b:=by
 intro e;subst e;rw[h]at h';cases h'
section
variable (P:ah)(w:ai)
def jx (H:Hp)(h:Heap)(a:ao):HO->Prop
 |.lst xs=>xs.length<=sizeLine/\∃(gu:au ar) (n:Nat),gD xs gu/\h.get? a=some { cls:=.type "list",data:=.seq gu.toArray n}
 |.tup xs=>xs.length<=sizeLine/\∃ gu:au ar,gD xs gu/\IsTup h a gu.toArray
 |.dK fX=>fX.length<=sizeLine/\(a==sysModules)=false/\∃ vs,KV fX vs/\h.DictOf (kn P w) a vs
 | .dT fX=>fX.length<=sizeLine/\(a==sysModules)=false/\∃ xs:au (au Key×ao×ar),
  Paired (λ(p:au Key×V) (q:au Key×ao×ar)=>p.1=q.1/\H q.2.1=some (.tup (p.1.map kV))/\gH p.2 q.2.2) fX xs /\
  ∃ o es ep,h.get? a=some o/\o.ExactDict/\o.data=.dict es ep/\es.toList=xs.map (entryOfKey (tupleKind (kn P w)))/\(xs.map (·.1)).Nodup
 |.set S n=>h.SetOf (intKind P w) a S n
 | .ins C dx fs=>H dx=some (.own a)/\fs.length<=1000/\dx≠a/\h.get? a=some (W.instObj C dx) /\
  ∃ mA,h.Ns1 dx mA/\(∀ f,rq (fs.lookup f) (mA f))/\PySem.Within mA (fs.map (·.1))
 |.own _=>∃ o,h.get? a=some o
 |.xd fs=>∃ mA,h.Ns1 a mA/\∀ f,rq (fs.lookup f) (mA f)
 |.Xr lo hi=>∃ t u v,h.get? a=some { cls:=.type "range",data:=.fields #[.int lo t,.int hi u,.int 1 v]}
 |.Cv o u=>h.get? a=some o/\jx H h a u
 |.PJ ps=>h.get? a=some { cls:=.none,data:=.fields ps}
 |.met f x=>h.get? a=some (W.methodObj (.ref f) (.ref x))
 |.ext φ=>φ h/\(∃ o,h.get? a=some o)/\∀ h1 h2:Heap,φ h1->(∀ o,h1.get? a=some o->h2.get? a=some o)->φ h2
def pQ (H:Hp)(h:Heap):Prop:=∀ a o,H a=some o->jx P w H h a o
end
section
variable {P:ah}{w:ai}{H H':Hp}{h h':Heap}{a:ao}{o:HO}
def jx.lt (x:jx P w H h a o):a<h.objs.size:=by
 cases o with
 |lst xs=>obtain⟨_,_,_,_,e⟩:=x;exact jk e
 |tup xs=>obtain⟨_,_,_,p⟩:=x;exact p.lt
 |dK fX=>obtain⟨_,_,_,_,o,_,_,e,_⟩:=x;exact jk e
 |dT fX=>obtain⟨_,_,_,_,o,_,_,e,_⟩:=x;exact jk e
 |set S n=>obtain⟨o,_,_,_,e,_⟩:=x;exact jk e
 |ins C dx fs=>obtain⟨_,_,_,e,_⟩:=x;exact jk e
 |own y=>obtain⟨_,e⟩:=x;exact jk e
 |xd fs=>obtain⟨_,⟨_,_,_,e,_⟩,_⟩:=x;exact jk e
 |Xr lo hi=>obtain⟨_,_,_,e⟩:=x;exact jk e
 |Cv ob u=>obtain⟨e,_⟩:=x;exact jk e
 |PJ ps=>exact jk (show h.get? a=some _ from x)
 |met f y=>exact jk (show h.get? a=some _ from x)
 |ext φ=>obtain⟨_,⟨_,e⟩,_⟩:=x;exact jk e
def Paired.D8 {α β:Type}{F G:α->β->Prop}{l₁:au α}{l₂:au β}(h:Paired F l₁ l₂)(f:∀ a b,F a b->G a b):Paired G l₁ l₂:=by
 induction h with
 |nil=>exact .nil
 |cons r t ih=>exact .cons (f _ _ r) ih
def jx.zL (x:jx P w H h a o)(k:∀ b u,(b=a\/H b=some (.own a))->h.get? b=some u->h'.get? b=some u)
 (ho:∀ b,H b=some (.own a)->H' b=some (.own a)) (ht:∀ b xs,H b=some (.tup xs)->H' b=some (.tup xs)):jx P w H' h' a o:=by
 induction o with
 |lst xs=>obtain⟨z,gu,n,r,e⟩:=x;exact⟨z,gu,n,r,k _ _ (.inl rfl) e⟩
 |tup xs=>obtain⟨z,gu,r,ob,e,c⟩:=x;exact⟨z,gu,r,ob,k _ _ (.inl rfl) e,c⟩
 |dK fX=>obtain⟨z,y,vs,r,ob,es,ep,e,c⟩:=x;exact⟨z,y,vs,r,ob,es,ep,k _ _ (.inl rfl) e,c⟩
 | dT fX =>
  obtain⟨z,y,xs,r,ob,es,ep,e,c⟩:=x
  exact⟨z,y,xs,Paired.D8 r λp q z=>⟨z.1,ht _ _ z.2.1,z.2.2⟩,ob,es,ep,k _ _ (.inl rfl) e,c⟩
 |set S n=>obtain⟨ob,es,ep,t,e,c⟩:=x;exact⟨ob,es,ep,t,k _ _ (.inl rfl) e,c⟩
 | ins C dx fs =>
  obtain⟨d,z,ne,e,mA,⟨od,es,ep,e2,c⟩,r⟩:=x
  exact⟨ho _ d,z,ne,k _ _ (.inl rfl) e,mA,⟨od,es,ep,k _ _ (.inr d) e2,c⟩,r⟩
 |own y=>obtain⟨ob,e⟩:=x;exact⟨ob,k _ _ (.inl rfl) e⟩
 |xd fs=>obtain⟨mA,⟨od,es,ep,e,c⟩,r⟩:=x;exact⟨mA,⟨od,es,ep,k _ _ (.inl rfl) e,c⟩,r⟩
 |Xr lo hi=>obtain⟨t,u,v,e⟩:=x;exact⟨t,u,v,k _ _ (.inl rfl) e⟩
 |Cv ob u ih=>obtain⟨e,q⟩:=x;exact⟨k _ _ (.inl rfl) e,ih q⟩
 | PJ ps =>
  have e:h.get? a=some { cls:=.none,data:=.fields ps}:=x
  show h'.get? a=some { cls:=.none,data:=.fields ps}
  exact k a _ (.inl rfl) e
 | met f y =>
  have e:h.get? a=some (W.methodObj (.ref f) (.ref y)):=x
  show h'.get? a=some (W.methodObj (.ref f) (.ref y))
  exact k a _ (.inl rfl) e
 |ext φ=>obtain⟨p,⟨o,e⟩,st⟩:=x;exact⟨st _ _ p λo q=>k _ _ (.inl rfl) q,⟨o,k _ _ (.inl rfl) e⟩,st⟩
def pQ.lt (x:pQ P w H h)(e:H a=some o):a<h.objs.size:=(x a o e).lt
def pQ.fresh (x:pQ P w H h)(e:h.objs.size<=a):H a=none:=by
 cases q:H a with
 |none=>rfl
 |some u=>exact absurd (aP (x.lt q) e) (b8 _)
def pQ.iW (x:pQ P w H h)(k:∀ b u,h.get? b=some u->h'.get? b=some u):pQ P w H h':=λa o e =>
 (x a o e).zL (λb u _ q=>k b u q) (λ_ q=>q) λ_ _ q=>q
def pQ.laid (x:pQ P w H h)(k:∀ b u,h.get? b=some u->h'.get? b=some u)(hp:h.objs.size<=a)(new:jx P w (upd H a o) h' a o):pQ P w (upd H a o) h':=λb u e=>by
 have hn:=x.fresh hp
 by_cases hb:b=a
 .subst hb;rw[gp]at e;cases e;exact new
 .rw[gB hb]at e
  exact(x b u e).zL (λc v _ q=>k c v q) (λc q=>by rw[gB (gP q hn)];exact q) λc xs q=>by rw[gB (gP q hn)];exact q
end
def Rd (H:Hp)(a:ao)(u:HO):Prop:=H a=some u\/∃ o,H a=some (.Cv o u)
def Rd.ok {P:ah}{w:ai}{H:Hp}{h:Heap}{a:ao}{u:HO}(r:Rd H a u)(x:pQ P w H h):jx P w H h a u:=by
 rcases r with r|⟨o,r⟩
 .exact x a u r
 .obtain⟨_,q⟩:=x a _ r
  exact q
def W2:av HO->Prop
 |some (.lst _)=>True
 |some (.dK _)=>True
 |some (.dT _)=>True
 |some (.set _ _)=>True
 |some (.ins _ _ _)=>True
 |some (.ext _)=>True
 |_=>False
section
variable {P:ah}{w:ai}{H:Hp}{h h':Heap}{x e:ao}{o':HO}
def pQ.write (ok:pQ P w H h)(mu:W2 (H x))(he:e=x\/H e=some (.own x))(k:∀ b u,b≠e->h.get? b=some u->h'.get? b=some u)(Uv:∃ u,h'.get? e=some u)
 (new:jx P w (upd H x o') h' x o'):pQ P w (upd H x o') h':=λb u q=>by
 have Vp:∀ c y,H c=some (.own y)->c≠x:=λc y r z=>by subst z;rw[r]at mu;exact mu
 have YF:∀ c xs,H c=some (.tup xs)->c≠x:=λc xs r z=>by subst z;rw[r]at mu;exact mu
 by_cases hb:b=x
 .subst hb;rw[gp]at q;cases q;exact new
 .rw[gB hb]at q
  by_cases S9:b=e
  .have q':H b=some (.own x):=by
    rcases he with z|z
    .exact absurd (S9.trans z) hb
    .rw[S9];exact z
   rw[q]at q';cases q'
   obtain⟨v,hv⟩:=Uv
   exact⟨v,by rw[S9];exact hv⟩
  .refine(ok b u q).zL (λc v hc r=>k c v ?_ r) (λc r=>by rw[gB (Vp c b r)];exact r) λc xs r=>by rw[gB (YF c xs r)];exact r
   rcases hc with rfl|hc
   .exact S9
   .rintro rfl
    rcases he with z|z
    .exact Vp c b hc z
    .rw[hc]at z;cases z;exact hb rfl
end
structure Un (fs ex:List ao)(H H':Hp)(h h':Heap):Prop where
 keep:∀ b o,h.get? b=some o->H b=none->b∉fs->b∉ex->h'.get? b=some o
 slot:∀ b o,h.get? b=some o->H b=none->b∈fs->b∉ex->∃ sl,h'.get? b=some { o with slots:=sl}
 free:∀ b o,h.get? b=some o->H b=none->b∉ex->H' b=none
 there:∀ b o,h.get? b=some o->b∉ex->∃ o',h'.get? b=some o'
 ub:∀ b xs,H b=some (.tup xs)->H' b=some (.tup xs)
 tx:∀ b o u,H b=some (.Cv o u)->H' b=some (.Cv o u)
 ug:∀ b ps,H b=some (.PJ ps)->∃ more,H' b=some (.PJ (ps++more))
section
variable {fs fs' ex ex':au ao}{H H1 H2:Hp}{h h1 h2 h':Heap}{a x e:ao}{o:HO}
def Un.any (u:Un fs ex H H1 h h1){b:ao}{ob:Obj}(q:h.get? b=some ob)(n:H b=none)(hx:b∉ex):∃ sl,h1.get? b=some { ob with slots:=sl}:=by
 by_cases hb:b∈fs
 .exact u.slot b ob q n hb hx
 .exact⟨ob.slots,u.keep b ob q n hb hx⟩
def Un.trans (a:Un fs ex H H1 h h1)(b:Un fs ex H1 H2 h1 h2):Un fs ex H H2 h h2 where
 keep:=λc ob q n hc hx=>b.keep c ob (a.keep c ob q n hc hx) (a.free c ob q n hx) hc hx
 slot:=λc ob q n hc hx=>by
  obtain⟨sl,e1⟩:=a.slot c ob q n hc hx
  obtain⟨U1,e2⟩:=b.slot c _ e1 (a.free c ob q n hx) hc hx
  exact⟨U1,e2⟩
 free:=λc ob q n hx=>by
  obtain⟨o',e1⟩:=a.there c ob q hx
  exact b.free c o' e1 (a.free c ob q n hx) hx
 there:=λc ob q hx=>by
  obtain⟨o',e1⟩:=a.there c ob q hx
  exact b.there c o' e1 hx
 ub:=λc xs q=>b.ub c xs (a.ub c xs q)
 tx:=λc ob xs q=>b.tx c ob xs (a.tx c ob xs q)
 ug:=λc ps q=>by
  obtain⟨m1,e1⟩:=a.ug c ps q
  obtain⟨m2,e2⟩:=b.ug c _ e1
  exact⟨m1++m2,by rw[e2,Array.append_assoc]⟩
def Un.iW (k:∀ b u,h.get? b=some u->h'.get? b=some u):Un fs ex H H h h' :=
 ⟨λb ob q _ _ _=>k b ob q,λb ob q _ _ _=>⟨ob.slots,k b ob q⟩,λ_ _ _ n _=>n,λb ob q _=>⟨ob,k b ob q⟩,λ_ _ q=>q,λ_ _ _ q=>q,λ_ ps q=>⟨#[],by rw[q];simp⟩⟩
def Un.refl:Un fs ex H H h h:=Un.iW λ_ _ q=>q
def Un.laid (k:∀ b u,h.get? b=some u->h'.get? b=some u)(hp:h.objs.size<=a)(hn:H a=none):Un fs ex H (upd H a o) h h' where
 keep:=λb u q _ _ _=>k b u q
 slot:=λb u q _ _ _=>⟨u.slots,k b u q⟩
 free:=λb u q n _=>by rw[gB (aE (aP (jk q) hp))];exact n
 there:=λb u q _=>⟨u,k b u q⟩
 ub:=λb xs q=>by rw[gB (gP q hn)];exact q
 tx:=λb u xs q=>by rw[gB (gP q hn)];exact q
 ug:=λb ps q=>⟨#[],by rw[gB (gP q hn),q];simp⟩
def Un.write (mu:W2 (H x))(he:e=x\/H e=some (.own x))(k:∀ b u,b≠e->h.get? b=some u->h'.get? b=some u)(Uv:∃ u,h'.get? e=some u):Un fs ex H (upd H x o) h h':=by
 have hx:∀ b,H b=none->b≠x:=λb n z=>by subst z;rw[n]at mu;exact mu
 have hb:∀ b,H b=none->b≠e:=λb n z=>by
  subst z
  rcases he with r|r
  .exact hx b n r
  .rw[n]at r;cases r
 have hm:∀ b u,H b=some u->¬ W2 (some u)->b≠x:=λb u q nm z=>by subst z;rw[q]at mu;exact nm mu
 refine⟨λb u q n _ _=>k b u (hb b n) q,λb u q n _ _=>⟨u.slots,k b u (hb b n) q⟩,λb u q n _=>by rw[gB (hx b n)];exact n,λb u q _=>?_,
  λb xs q=>by rw[gB (hm b _ q λz=>z)];exact q,λb u xs q=>by rw[gB (hm b _ q λz=>z)];exact q,λb ps q=>⟨#[],by rw[gB (hm b _ q λz=>z),q];simp⟩⟩
 by_cases S9:b=e
 .subst S9;exact Uv
 .exact⟨u,k b u S9 q⟩
end
def Xi (h:Heap)(H:Hp):au ao:=(List.range h.objs.size).filter λa=>(H a).isSome
def Au (h:Heap)(H:Hp):Heap:=W.hideAll h (Xi h H)
def Ie (h:Heap)(H:Hp):(Au h H).objs.size=h.objs.size:=W.hideAll_size _ _
def Ln {h:Heap}{H:Hp}{b:ao}{o:Obj}(e:h.get? b=some o)(n:H b=none):(Au h H).get? b=some o :=
 W.hideAll_get _ e λhm=>by
  have q:(H b).isSome=true:=(List.mem_filter.mp hm).2
  rw[n]at q;simp at q
def Od {h:Heap}{H:Hp}{b:ao}{o:Obj}(e:(Au h H).get? b=some o):h.get? b=some o/\H b=none:=by
 have e':h.get? b=some o:=W.of_hideAll (Xi h H) e
 refine⟨e',?_⟩
 cases q:H b with
 |none=>rfl
 | some x =>
  have hm:b∈Xi h H:=List.mem_filter.mpr ⟨List.mem_range.mpr (jk e'),by simp[q]⟩
  have z:(Au h H).get? b=none:=W.hideAll_none (Xi h H) hm
  rw[z]at e;cases e
def Pe (g h:Heap)(L:ao):au (ao×Obj):=(List.range h.objs.size).filterMap λa=>if a=L\/(g.get? a).isSome=true then none else(h.get? a).map λo=>(a,o)
def rest (g h:Heap)(L d:ao):au (ao×Obj):=(Pe g h L).filter λp=>decide (p.1≠d)
structure Mod (K:aa)(mg:Str->Option ar)(fK:Heap):Prop where
 Qt:K.In fK
 glob:fK.Ns mainGlobals mg
 blt:∃ mb,fK.Ns builtinsNs mb/\∀ x:Str,x ≠ "__name__"->mb x=bootBuiltins x
 nolimit:fK.NoLimit
structure Cx where
 prog:ah
 w:ai
 K:aa
 mg:Str->Option ar
 fK:Heap
 A:Around
 N:List Str
 s₀:ak
 H₀:Hp
 env:Env
 fV:List Env
 stack:List Env
 ex:List ao
 fn:Str->Bool
 gY:Bool
 pn:List (ao×Obj)
 xe:ar->ak->Prop
def Ax (l:au Env):au ao:=l.filterMap (·.frame)
abbrev Cx.fs (X:Cx):au ao:=Ax X.fV
def WU (sc:Scope)(x:Str):Prop:=sc.names.lookup x=some .local\/sc.names.lookup x=some .cell\/sc.names.lookup x=some .free
def Loc (sc:Scope)(x:Str):Prop:=sc.names.lookup x=some .local\/sc.names.lookup x=some .cell
def Look (env:Env)(h:Heap)(m:Str->av ar)(x:Str)(u:ar):Prop :=
 (env.kindOf x=some .local/\m x=some u)\/((env.kindOf x=some .cell\/env.kindOf x=some .free)/\∃ c,env.cells.lookup x=some c/\h.IsCell c (some u))
structure Cx.Ok (X:Cx):Prop where
 mod:Mod X.K X.mg X.fK
 kind:X.env.scope.kind=.function
 glob:X.env.globals=mainGlobals
 blt:X.env.builtins=builtinsNs
 above:X.s₀.heap.objs.size<=X.env.locals
 inj:∀ x y c,X.env.cells.lookup x=some c->X.env.cells.lookup y=some c->x=y
 has:∀ x,(X.env.kindOf x=some .cell\/X.env.kindOf x=some .free)->∃ c,X.env.cells.lookup x=some c
 WN:∀ x c,X.fn x=true->X.env.cells.lookup x=some c->X.s₀.heap.objs.size<=c
 hd:X.gY=true->X.A.handled=none
 frames:X.A.frames=some X.stack
 Xp:X.stack=X.fV\/(X.stack=X.env::X.fV/\X.env.frame=some X.env.locals)
 UB:∀ b∈X.ex,b≠X.env.locals/\∀ x c,X.env.cells.lookup x=some c->c≠b
 bs:∀ b o,X.fK.get? b=some o->X.s₀.heap.get? b=some o/\X.H₀ b=none
 Iz:X.fK.objs.size<=X.s₀.heap.objs.size
 HI:∀ b o,X.fK.get? b=some o->b∉X.ex
 Im:∀ b∈X.ex,b∉X.fs
 tu:X.s₀.heap.FunFrames X.fK X.fV
 QD:∀ b∈X.fs,X.H₀ b=none
structure Inv (X:Cx)(fJ:List (ao×Obj))(σ:List (Option V))(H:Hp)(s:ak):Prop where
 ok:X.Ok
 os:s.os=X.s₀.os
 bare:AllBare s.gens
 fK:Un X.fs X.ex X.H₀ H X.s₀.heap s.heap
 loc:∃ m,s.heap.Ns X.env.locals m/\∀(i:Nat) (x:Str) (v:V),X.N[i]?=some x->σ[i]?=some (some v)->WU X.env.scope x->∃ u,gH v u/\Look X.env s.heap m x u
 cell:∀ x c,X.env.cells.lookup x=some c->∃ v,s.heap.IsCell c v
 free:H X.env.locals=none
 pG:∀ x c,X.env.cells.lookup x=some c->H c=none
 pin:∀ p∈X.pn++fJ,s.heap.get? p.1=some p.2/\H p.1=none/\p.1≠X.env.locals/\p.1∉X.fs/\∀ v,p.2.data≠.cell v
 iF:pQ X.prog X.w H s.heap
 len:σ.length=X.N.length
section
variable {X:Cx}{fJ:au (ao×Obj)}{σ:au (av V)}{H H':Hp}{s:ak}{h':Heap}
def Cx.Ok.YI (ok:X.Ok){b:ao}{o:Obj}(e:X.fK.get? b=some o):b∉X.fs:=λhb=>by
 have:=(ok.tu.mem hb).1
 rw[e]at this;cases this
def Inv.bs (I:Inv X fJ σ H s):∀ b o,X.fK.get? b=some o->s.heap.get? b=some o/\H b=none:=λb o e =>
 ⟨I.fK.keep b o (I.ok.bs b o e).1 (I.ok.bs b o e).2 (I.ok.YI e) (I.ok.HI b o e),I.fK.free b o (I.ok.bs b o e).1 (I.ok.bs b o e).2 (I.ok.HI b o e)⟩
def Inv.bk (I:Inv X fJ σ H s):∀ b o,X.fK.get? b=some o->s.heap.get? b=some o:=λb o e=>(I.bs b o e).1
def Inv.mod (I:Inv X fJ σ H s):Mod X.K X.mg X.fK:=I.ok.mod
def Inv.vN (I:Inv X fJ σ H s):X.K.In s.heap:=I.ok.mod.Qt.keeps I.bk
def Inv.fr (I:Inv X fJ σ H s):∃ m,Fr X.fK X.env.locals s.heap m :=
 let ⟨m,hn,_⟩:=I.loc
 ⟨m,hn,I.bk,aV I.ok.Iz I.ok.above⟩
def Inv.lt (I:Inv X fJ σ H s):X.env.locals<s.heap.objs.size:=let ⟨_,hn,_⟩:=I.loc;hn.lt
def Inv.sz (I:Inv X fJ σ H s):X.s₀.heap.objs.size<=s.heap.objs.size:=aV I.ok.above (eZ I.lt)
def Inv.YH (I:Inv X fJ σ H s){a:ao}(h:s.heap.objs.size<=a):a∉X.fs:=λhb=>by
 obtain⟨_,o,ho,_⟩:=I.ok.tu.mem hb
 exact absurd (aP (jk ho) (aV I.sz h)) (b8 _)
def Inv.TJ (I:Inv X fJ σ H s):∀ x c,X.env.cells.lookup x=some c->c≠X.env.locals:=λx c e z=>by
 obtain⟨v,o,ho,hd⟩:=I.cell x c e
 obtain⟨m,⟨o',es,ep,SS,IU,_⟩,_⟩:=I.loc
 rw[z,SS]at ho;cases ho;rw[IU]at hd;cases hd
def Inv.tu (I:Inv X fJ σ H s):s.heap.FunFrames X.fK X.fV:=by
 have all:∀(l:au Env),(∀ b∈Ax l,b∈X.fs)->X.s₀.heap.FunFrames X.fK l->s.heap.FunFrames X.fK l:=by
  intro l
  induction l with
  |nil=>intro _ _;trivial
  | cons env r ih =>
   intro hs hl
   obtain⟨hk,⟨L,o,hf,hn,ho,hd⟩,hr⟩:=hl
   have hL:L∈X.fs:=hs L (by unfold Ax;rw[c7,hf];exact aH)
   obtain⟨sl,e⟩:=I.fK.slot L o ho (I.ok.QD L hL) hL λz=>I.ok.Im L z hL
   exact⟨hk,⟨L,_,hf,hn,e,hd⟩,ih (λb hb=>hs b (by unfold Ax;rw[c7,hf];exact nE _ hb)) hr⟩
 exact all X.fV (λ_ hb=>hb) I.ok.tu
def Inv.stack (I:Inv X fJ σ H s):s.heap.FunFrames X.fK X.stack:=by
 rcases I.ok.Xp with e|⟨e,hf⟩
 .rw[e];exact I.tu
 .rw[e]
  obtain⟨m,hn,_⟩:=I.loc
  refine .cons (by rw[I.ok.kind];decide) hf hn ?_ I.tu
  exact Heap.get?_none_of_le (aV I.ok.Iz I.ok.above)
def Inv.wF (I:Inv X fJ σ H s):∀ b∈Ax X.stack,b∈X.env.locals::X.fs:=λb hb=>by
 rcases I.ok.Xp with e|⟨e,hf⟩
 .rw[e]at hb;exact nE _ hb
 .rw[e]at hb
  unfold Ax at hb
  rw[c7,hf]at hb
  exact hb
def Inv.sE (I:Inv X fJ σ H s):∀ b∈Ax X.stack,H b=none:=λb hb=>by
 rcases List.mem_cons.mp (I.wF b hb)with e|hb
 .rw[e];exact I.free
 .obtain⟨_,o,ho,_⟩:=I.ok.tu.mem hb
  exact I.fK.free b o ho (I.ok.QD b hb) λz=>I.ok.Im b z hb
def Inv.step {g':Array GenState}{t':Nat}{d':Drawn}{ch:au ao}(I:Inv X fJ σ H s)
 (FU:∀ b∈ch,(b∈X.ex\/X.s₀.heap.objs.size<=b)/\b≠X.env.locals/\(∀ x c,X.env.cells.lookup x=some c->c≠b)/\∀ p∈X.pn++fJ,p.1≠b)
 (keep:∀ b o,b≠X.env.locals->b∉X.fs->b∉ch->s.heap.get? b=some o->H b=none->h'.get? b=some o)
 (slot:∀ b o,b≠X.env.locals->b∈X.fs->b∉ch->s.heap.get? b=some o->H b=none->∃ sl,h'.get? b=some { o with slots:=sl}) (free:∀ b o,b∉ch->s.heap.get? b=some o->H b=none->H' b=none)
 (there:∀ b o,b∉ch->s.heap.get? b=some o->∃ o',h'.get? b=some o')
 (ub:∀ b xs,H b=some (.tup xs)->H' b=some (.tup xs)) (tx:∀ b o u,H b=some (.Cv o u)->H' b=some (.Cv o u)) (ug:∀ b ps,H b=some (.PJ ps)->∃ more,H' b=some (.PJ (ps++more)))
 (ns:∀ m,s.heap.Ns X.env.locals m->h'.Ns X.env.locals m) (iF:pQ X.prog X.w H' h') (hg:AllBare g'):
 Inv X fJ σ H' {s with heap:=h',gens:=g',drawn:=d',toks:=t'}:=by
 have neL:∀ b o,X.s₀.heap.get? b=some o->b≠X.env.locals:=λb o e=>aE (aP (jk e) I.ok.above)
 have Dj:∀ b o,X.s₀.heap.get? b=some o->b∉X.ex->b∉ch:=λb o e hx hb=>by
  rcases(FU b hb).1 with z|z
  .exact hx z
  .exact absurd (aP (jk e) z) (b8 _)
 have cellK:∀ x c,X.env.cells.lookup x=some c->∀ v,s.heap.IsCell c v->h'.IsCell c v:=λx c e v ⟨o,ho,hd⟩=>by
  have Vu:c∉ch:=λz=>(FU c z).2.2.1 x c e rfl
  by_cases hc:c∈X.fs
  .obtain⟨sl,q⟩:=slot c o (I.TJ x c e) hc Vu ho (I.pG x c e)
   exact⟨_,q,hd⟩
  .exact⟨o,keep c o (I.TJ x c e) hc Vu ho (I.pG x c e),hd⟩
 refine⟨I.ok,I.os,hg,⟨λb o e n hb hx=>?_,λb o e n hb hx=>?_,λb o e n hx=>?_,λb o e hx=>?_,λb xs e=>ub b xs (I.fK.ub b xs e),λb o xs e=>tx b o xs (I.fK.tx b o xs e),λb ps e=>?_⟩,?_,λx c e=>?_,?_,λx c e=>?_,λp hp=>?_,iF,I.len⟩
 .exact keep b o (neL b o e) hb (Dj b o e hx) (I.fK.keep b o e n hb hx) (I.fK.free b o e n hx)
 .obtain⟨sl,e1⟩:=I.fK.slot b o e n hb hx
  obtain⟨U1,e2⟩:=slot b _ (neL b o e) hb (Dj b o e hx) e1 (I.fK.free b o e n hx)
  exact⟨U1,e2⟩
 .obtain⟨o',e1⟩:=I.fK.there b o e hx
  exact free b o' (Dj b o e hx) e1 (I.fK.free b o e n hx)
 .obtain⟨o',e1⟩:=I.fK.there b o e hx
  exact there b o' (Dj b o e hx) e1
 .obtain⟨m1,e1⟩:=I.fK.ug b ps e
  obtain⟨m2,e2⟩:=ug b _ e1
  exact⟨m1++m2,by rw[e2,Array.append_assoc]⟩
 .obtain⟨m,hn,hl⟩:=I.loc
  refine⟨m,ns m hn,λi x v e1 e2 e3=>?_⟩
  obtain⟨u,r,l⟩:=hl i x v e1 e2 e3
  refine⟨u,r,?_⟩
  rcases l with l|⟨k,c,e,z⟩
  .exact .inl l
  .exact .inr ⟨k,c,e,cellK x c e _ z⟩
 .obtain⟨v,z⟩:=I.cell x c e
  exact⟨v,cellK x c e v z⟩
 .obtain⟨m,⟨o,_,_,ho,_⟩,_⟩:=I.loc
  exact free _ o (λz=>(FU _ z).2.1 rfl) ho I.free
 .obtain⟨v,o,ho,hd⟩:=I.cell x c e
  exact free c o (λz=>(FU c z).2.2.1 x c e rfl) ho (I.pG x c e)
 .obtain⟨e,n,ne,nf,d⟩:=I.pin p hp
  have Vu:p.1∉ch:=λz=>(FU p.1 z).2.2.2 p hp rfl
  exact⟨keep p.1 p.2 ne nf Vu e n,free p.1 p.2 Vu e n,ne,nf,d⟩
def Inv.un {t':Nat}(I:Inv X fJ σ H s)(u:Un X.fs [] H H' s.heap h')(iF:pQ X.prog X.w H' h'):Inv X fJ σ H' { s with heap:=h',toks:=t'}:=by
 obtain⟨m,⟨o,es,ep,ho,r⟩,_⟩:=id I.loc
 obtain⟨sl,hL⟩:=u.any ho I.free (by simp)
 exact I.step (g':=s.gens) (d':=s.drawn) (ch:=[]) (λ_ z=>nomatch z) (λb o _ hb _ e n=>u.keep b o e n hb (by simp)) (λb o _ hb _ e n=>u.slot b o e n hb (by simp)) (λb o _ e n=>u.free b o e n (by simp)) (λb o _ e=>u.there b o e (by simp)) u.ub u.tx u.ug (λm' hm=>by
  obtain⟨o',QN,Z9,SS,r'⟩:=hm
  rw[ho]at SS;cases SS
  exact⟨_,QN,Z9,hL,r'⟩) iF I.bare
def Inv.call {g':Array GenState}{t':Nat}{d':Drawn}{ch:au ao}(I:Inv X fJ σ H s)(u:Un (Ax X.stack) ch H H' s.heap h')(iF:pQ X.prog X.w H' h')(hg:AllBare g')
 (FU:∀ b∈ch,(b∈X.ex\/X.s₀.heap.objs.size<=b)/\b≠X.env.locals/\(∀ x c,X.env.cells.lookup x=some c->c≠b)/\∀ p∈X.pn++fJ,p.1≠b):
 Inv X fJ σ H' {s with heap:=h',gens:=g',drawn:=d',toks:=t'}:=by
 obtain⟨m,⟨o,es,ep,ho,r⟩,_⟩:=id I.loc
 obtain⟨sl,hL⟩:=u.any ho I.free λz=>(FU _ z).2.1 rfl
 exact I.step (ch:=ch) FU (λb o hL hb hc e n=>u.keep b o e n (λz=>(List.mem_cons.mp (I.wF b z)).elim hL hb) hc) (λb o _ _ hc e n=>u.any e n hc) (λb o hc e n=>u.free b o e n hc) (λb o hc e=>u.there b o e hc) u.ub u.tx u.ug (λm' hm=>by
  obtain⟨o',QN,Z9,SS,r'⟩:=hm
  rw[ho]at SS;cases SS
  exact⟨_,QN,Z9,hL,r'⟩) iF hg
def Inv.turned {t':Nat}{it:ao}(I:Inv X fJ σ H s)(k:∀ b o,b≠it->s.heap.get? b=some o->h'.get? b=some o)(hn:H it=none)(hL:it≠X.env.locals)
 (h1:it∈X.ex\/X.s₀.heap.objs.size<=it) (h2:∀ x c,X.env.cells.lookup x=some c->c≠it) (h3:∀ p∈X.pn++fJ,p.1≠it):Inv X fJ σ H {s with heap:=h',toks:=t'}:=by
 have nit:∀ b u,H b=some u->b≠it:=λb u e z=>by rw[z,hn]at e;cases e
 refine I.step (g':=s.gens) (d':=s.drawn) (ch:=[it]) (λb hb=>?_) (λb o _ _ hc e _=>k b o (λz=>hc (by simp[z])) e) (λb o _ _ hc e _=>⟨o.slots,k b o (λz=>hc (by simp[z])) e⟩) (λ_ _ _ _ n=>n)
  (λb o hc e=>⟨o,k b o (λz=>hc (by simp[z])) e⟩) (λ_ _ e=>e) (λ_ _ _ e=>e) (λb ps e=>⟨#[],by rw[e];simp⟩) (λm hm=>?_) (λb u e=>?_) I.bare
 .have e:b=it:=by simpa using hb
  subst e
  exact⟨h1,hL,h2,h3⟩
 .obtain⟨o,es,ep,ho,r⟩:=hm
  exact⟨o,es,ep,k _ o (bD hL) ho,r⟩
 .refine(I.iF b u e).zL (λc v hc q=>k c v ?_ q) (λ_ q=>q) λ_ _ q=>q
  rcases hc with z|z
  .rw[z];exact nit b u e
  .exact nit c _ z
def Inv.tok (I:Inv X fJ σ H s)(t:Nat):Inv X fJ σ H {s with toks:=t}:=I.un (h':=s.heap) (t':=t) Un.refl I.iF
def Inv.iW {t':Nat}(I:Inv X fJ σ H s)(k:∀ b u,s.heap.get? b=some u->h'.get? b=some u):Inv X fJ σ H {s with heap:=h',toks:=t'}:=I.un (Un.iW k) (I.iF.iW k)
def Inv.laid {a:ao}{o:HO}{t':Nat}(I:Inv X fJ σ H s)(k:∀ b u,s.heap.get? b=some u->h'.get? b=some u)(hp:s.heap.objs.size<=a)(new:jx X.prog X.w (upd H a o) h' a o):
 Inv X fJ σ (upd H a o) {s with heap:=h',toks:=t'}:=I.un (Un.laid k hp (I.iF.fresh hp)) (I.iF.laid k hp new)
def Inv.write {x e:ao}{o:HO}{t':Nat}(I:Inv X fJ σ H s)(mu:W2 (H x))(he:e=x\/H e=some (.own x))(k:∀ b u,b≠e->s.heap.get? b=some u->h'.get? b=some u)(Uv:∃ u,h'.get? e=some u)
 (new:jx X.prog X.w (upd H x o) h' x o):Inv X fJ σ (upd H x o) {s with heap:=h',toks:=t'}:=I.un (Un.write mu he k Uv) (I.iF.write mu he k Uv new)
def Inv.weak {jo:au (av V)}(I:Inv X fJ σ H s)(hl:jo.length=σ.length)(w:∀(i:Nat) v,jo[i]?=some (some v)->σ[i]?=some (some v)):Inv X fJ jo H s :=
 ⟨I.ok,I.os,I.bare,I.fK,let ⟨m,hn,oJ⟩:=I.loc;⟨m,hn,λi x v e1 e2 e3=>oJ i x v e1 (w i v e2) e3⟩,I.cell,I.free,I.pG,I.pin,I.iF,hl.trans I.len⟩
def Inv.sM {pins':au (ao×Obj)}(I:Inv X fJ σ H s)(h:∀ p∈pins',s.heap.get? p.1=some p.2/\H p.1=none/\p.1≠X.env.locals/\p.1∉X.fs/\∀ v,p.2.data≠.cell v):Inv X pins' σ H s :=
 ⟨I.ok,I.os,I.bare,I.fK,I.loc,I.cell,I.free,I.pG,λp hp=>(List.mem_append.mp hp).elim (λz=>I.pin p (dM _ z)) (h p),I.iF,I.len⟩
def Cb {N:au Str}(hN:N.Nodup){i j:Nat}{x:Str}(a:N[i]?=some x)(b:N[j]?=some x):i=j:=by
 obtain⟨h1,e1⟩:=ka a
 obtain⟨h2,e2⟩:=ka b
 exact(List.getElem_inj hN).mp (e1.trans e2.symm)
def yF {M:Model}{A:Around}{E:ar->ak->Prop}{i:Nat}{x:Str}{v:V}{u:ar}{Q:Unit->ak->Prop}(I:Inv X fJ σ H s)(hN:X.N.Nodup)(hi:X.N[i]?=some x)(hx:Loc X.env.scope x)(r:gH v u)
 (h:∀ s',Inv X fJ (σ.set i (some v)) H s'->(∃ a,Heap.SameBut a s.heap s'.heap/\(a=X.env.locals\/X.env.cells.lookup x=some a))->Q () s') (hf:X.fn x=true\/X.env.scope.names.lookup x=some .local:=by first|exact .inl rfl|exact .inr rfl|assumption):wpAny M A (storeName X.env x u) Q E s:=by
 obtain⟨m,hn,hl⟩:=id I.loc
 have ZI:(X.env.scope.kind==.class||(X.env.scope.kind==.module&&X.env.locals != X.env.globals))=false:=by rw[I.ok.kind];rfl
 have VR:i<σ.length:=by rw[I.len];exact(ka hi).1
 have TJ:=I.TJ
 have tracked:∀ {a:ao} {h':Heap},(∃ o,s.heap.get? a=some o/\H a=none)->Heap.SameBut a s.heap h'->pQ X.prog X.w H h':=λ{a h'} ha hs b ob e=>by
  obtain⟨_,_,Qy⟩:=ha
  refine(I.iF b ob e).zL (λc w' hc q=>(hs.2 c ?_).trans q) (λ_ q=>q) λ_ _ q=>q
  rintro rfl
  rcases hc with rfl|hc
  .rw[Qy]at e;cases e
  .rw[Qy]at hc;cases hc
 rcases hx with hk|hk
 .refine wpAny_storeName_local hk hn (λh' Zj hs=>?_) ZI
  obtain⟨oL,_,_,hoL,_⟩:=id hn
  refine h _ ⟨I.ok,I.os,I.bare,⟨λb o e n hb hx=>?_,λb o e n hb hx=>?_,I.fK.free,λb o e hx=>?_,I.fK.ub,I.fK.tx,I.fK.ug⟩,⟨_,Zj,λj y v' e1 e2 e3=>?_⟩,λy c e=>?_,I.free,I.pG,λp hp=>?_,tracked ⟨oL,hoL,I.free⟩ hs,by simpa using I.len⟩ ⟨_,hs,.inl rfl⟩
  .exact(hs.2 b (aE (aP (jk e) I.ok.above))).trans (I.fK.keep b o e n hb hx)
  .obtain⟨sl,e1⟩:=I.fK.slot b o e n hb hx
   exact⟨sl,(hs.2 b (aE (aP (jk e) I.ok.above))).trans e1⟩
  .obtain⟨o',e1⟩:=I.fK.there b o e hx
   exact⟨o',(hs.2 b (aE (aP (jk e) I.ok.above))).trans e1⟩
  .by_cases hj:j=i
   .subst hj
    rw[hi]at e1;cases e1
    rw[aW VR]at e2
    cases e2
    exact⟨u,r,.inl ⟨hk,by simp⟩⟩
   .rw[bo (bD hj)]at e2
    obtain⟨u',r',q⟩:=hl j y v' e1 e2 e3
    refine⟨u',r',?_⟩
    rcases q with⟨k,e⟩|⟨k,c,e,z⟩
    .refine .inl ⟨k,?_⟩
     have:y≠x:=λe=>hj (Cb hN e1 (e▸hi))
     simp[this,e]
    .exact .inr ⟨k,c,e,z.sameBut hs (TJ y c e)⟩
  .obtain⟨w',z⟩:=I.cell y c e
   exact⟨w',z.sameBut hs (TJ y c e)⟩
  .obtain⟨e,n,ne,nf,d⟩:=I.pin p hp
   exact⟨(hs.2 p.1 ne).trans e,n,ne,nf,d⟩
 .have Zw:X.fn x=true:=by
   rcases hf with z|z
   .exact z
   .rw[z]at hk;cases hk
  obtain⟨c,hc⟩:=I.ok.has x (.inl hk)
  obtain⟨w',z⟩:=I.cell x c hc
  refine wpAny_storeName_cell I.ok.kind hk hc z (λh' tf hs=>?_)
  obtain⟨oc,hoc,Zi⟩:=id z
  refine h {s with heap:=h'} ⟨I.ok,I.os,I.bare,⟨λb o e n hb hx=>?_,λb o e n hb hx=>?_,I.fK.free,λb o e hx=>?_,I.fK.ub,I.fK.tx,I.fK.ug⟩,⟨m,hn.sameBut hs (bD (TJ x c hc)),λj y v' e1 e2 e3=>?_⟩,λy c' e=>?_,I.free,I.pG,λp hp=>?_,tracked ⟨oc,hoc,I.pG x c hc⟩ hs,by simpa using I.len⟩ ⟨c,hs,.inr hc⟩
  .exact(hs.2 b (aE (aP (jk e) (I.ok.WN x c Zw hc)))).trans (I.fK.keep b o e n hb hx)
  .obtain⟨sl,e1⟩:=I.fK.slot b o e n hb hx
   exact⟨sl,(hs.2 b (aE (aP (jk e) (I.ok.WN x c Zw hc)))).trans e1⟩
  .obtain⟨o',e1⟩:=I.fK.there b o e hx
   exact⟨o',(hs.2 b (aE (aP (jk e) (I.ok.WN x c Zw hc)))).trans e1⟩
  .by_cases hj:j=i
   .subst hj
    rw[hi]at e1;cases e1
    rw[aW VR]at e2
    cases e2
    exact⟨u,r,.inr ⟨.inl hk,c,hc,tf⟩⟩
   .rw[bo (bD hj)]at e2
    obtain⟨u',r',q⟩:=hl j y v' e1 e2 e3
    refine⟨u',r',?_⟩
    rcases q with q|⟨k,c',e,z'⟩
    .exact .inl q
    .refine .inr ⟨k,c',e,z'.sameBut hs ?_⟩
     rintro rfl
     exact hj (Cb hN e1 (I.ok.inj _ _ _ e hc▸hi))
  .by_cases Uw:c'=c
   .subst Uw;exact⟨_,tf⟩
   .obtain⟨w2,z2⟩:=I.cell y c' e
    exact⟨w2,z2.sameBut hs Uw⟩
  .obtain⟨e,n,ne,nf,d⟩:=I.pin p hp
   refine⟨(hs.2 p.1 ?_).trans e,n,ne,nf,d⟩
   intro q
   rw[q,hoc]at e
   have q':oc=p.2:=aK e
   exact d w' (by rw[<- q'];exact Zi)
def wD {M:Model}{A:Around}{E:ar->ak->Prop}{i:Nat}{x:Str}{v:V}{u:ar}{Q:Unit->ak->Prop}(I:Inv X fJ σ H s)(hN:X.N.Nodup)(hi:X.N[i]?=some x)(hx:Loc X.env.scope x)(r:gH v u)
 (h:∀ s',Inv X fJ (σ.set i (some v)) H s'->Q () s') (hf:X.fn x=true\/X.env.scope.names.lookup x=some .local:=by first|exact .inl rfl|exact .inr rfl|assumption):wpAny M A (storeName X.env x u) Q E s:=
 yF I hN hi hx r (λs' I' _=>h s' I') hf
def Inv.Mc {s':ak}{ch:au ao}(I:Inv X fJ σ H s)(ho:s'.os=s.os)(u:Un (Ax X.stack) ch H H' s.heap s'.heap)(iF:pQ X.prog X.w H' s'.heap)(hg:AllBare s'.gens)
 (FU:∀ b∈ch,(b∈X.ex\/X.s₀.heap.objs.size<=b)/\b≠X.env.locals/\(∀ x c,X.env.cells.lookup x=some c->c≠b)/\∀ p∈X.pn++fJ,p.1≠b):Inv X fJ σ H' s':=by
 obtain⟨h',g',d',t',o'⟩:=s'
 have e:o'=s.os:=ho
 subst e
 exact I.call (g':=g') (t':=t') (d':=d') u iF hg FU
end
abbrev XK:=ar->av ao->Hp->Prop
abbrev St:=au (av V)
abbrev VK:=V->Hp->Prop
abbrev TE:=St->Hp->VK->Prop
abbrev TT:=St->Hp->(Bool->Hp->Prop)->Prop
abbrev TA:=St->Hp->(au V->Hp->Prop)->Prop
structure Ends where
 nx:St->Hp->Prop
 rt:VK
 bk:St->Hp->Prop:=λ_ _=>False
 ct:St->Hp->Prop:=λ_ _=>False
abbrev TS:=Ends->St->Hp->Prop
def EP (X:Cx)(fJ:au (ao×Obj))(σ:St)(Q:VK)(u:ar)(s':ak):Prop:=∃ v H',Inv X fJ σ H' s'/\gH v u/\Q v H'
def TP (X:Cx)(fJ:au (ao×Obj))(σ:St)(Q:Bool->Hp->Prop)(b:Bool)(s':ak):Prop:=∃ H',Inv X fJ σ H' s'/\Q b H'
def AP (X:Cx)(fJ:au (ao×Obj))(σ:St)(Q:au V->Hp->Prop)(us:au ar)(s':ak):Prop:=∃ vs H',Inv X fJ σ H' s'/\gD vs us/\Q vs H'
def SP (X:Cx)(fJ:au (ao×Obj))(D:Ends)(f:Flow)(s':ak):Prop :=
 match f with
 |.next=>∃ jo H',Inv X fJ jo H' s'/\D.nx jo H'
 |.brk=>∃ jo H',Inv X fJ jo H' s'/\D.bk jo H'
 |.cont=>∃ jo H',Inv X fJ jo H' s'/\D.ct jo H'
 |.ret u=>∃ v jo H',Inv X fJ jo H' s'/\gH v u/\D.rt v H'
def PE (X:Cx)(e:Expr)(t:TE):Prop :=
 ∀(fJ:au (ao×Obj)) (s:ak) (σ:St) (H:Hp) (Q:VK),Inv X fJ σ H s->t σ H Q->wpAny (model X.prog X.w) X.A (eval e X.env) (EP X fJ σ Q) X.xe s
def PT (X:Cx)(e:Expr)(t:TT):Prop :=
 ∀(fJ:au (ao×Obj)) (s:ak) (σ:St) (H:Hp) (Q:Bool->Hp->Prop),Inv X fJ σ H s->t σ H Q->wpAny (model X.prog X.w) X.A (isTrue e X.env (eval e X.env)) (TP X fJ σ Q) X.xe s
def PW (X:Cx)(e:Expr)(t:TT):Prop :=
 ∀(whole:Sem ar) (fJ:au (ao×Obj)) (s:ak) (σ:St) (H:Hp) (Q:Bool->Hp->Prop),Inv X fJ σ H s->t σ H Q->wpAny (model X.prog X.w) X.A (isTrue e X.env whole) (TP X fJ σ Q) X.xe s
def PW.pt {X:Cx}{e:Expr}{t:TT}(h:PW X e t):PT X e t:=h _
def PA (X:Cx)(es:au Expr)(t:TA):Prop :=
 ∀(pos:Pos) (fJ:au (ao×Obj)) (s:ak) (σ:St) (H:Hp) (Q:au V->Hp->Prop),Inv X fJ σ H s->t σ H Q->wpAny (model X.prog X.w) X.A (spliced (backTo pos (starEach es X.env))) (AP X fJ σ Q) X.xe s
def PS (X:Cx)(st:Stmt)(t:TS):Prop :=
 ∀(fJ:au (ao×Obj)) (s:ak) (σ:St) (H:Hp) (D:Ends),Inv X fJ σ H s->t D σ H->wpAny (model X.prog X.w) X.A (exec st X.env) (SP X fJ D) X.xe s
def A5 (X:Cx)(st:au Stmt)(t:TS):Prop :=
 ∀(fJ:au (ao×Obj)) (s:ak) (σ:St) (H:Hp) (D:Ends),Inv X fJ σ H s->t D σ H->wpAny (model X.prog X.w) X.A (execs st X.env) (SP X fJ D) X.xe s
def iN {α:Type}{t:Sem α}{Q Q':α->ak->Prop}{M:Model}{A:Around}{E:ar->ak->Prop}{s:ak}(h:wpAny M A t Q E s)(hQ:∀ a s,Q a s->Q' a s):wpAny M A t Q' E s:=b7 h hQ λ_ _ x=>x
section
variable {X:Cx}
def bin {a b:Expr}{ta tb:TE}(ha:PE X a ta)(hb:PE X b tb){fJ:au (ao×Obj)}{s:ak}{σ:St}{H:Hp}{R:V->V->Hp->Prop}(I:Inv X fJ σ H s)(h:ta σ H λx H1=>tb σ H1 λy H2=>R x y H2)
 {α:Type} {Q:α->ak->Prop} {f:ar->ar->Sem α}
 (hf:∀ v u s2 x y H2,Inv X fJ σ H2 s2->gH x v->gH y u->R x y H2->wpAny (model X.prog X.w) X.A (f v u) Q X.xe s2):
 wpAny (model X.prog X.w) X.A (eval a X.env) (λv s₁=>wpAny (model X.prog X.w) X.A (eval b X.env) (λu s₂=>wpAny (model X.prog X.w) X.A (f v u) Q X.xe s₂) X.xe s₁) X.xe s:=by
 refine iN (ha fJ s σ H _ I h) λv s1 r6=>?_
 obtain⟨x,H1,I1,r1,q1⟩:=r6
 refine iN (hb fJ s1 σ H1 _ I1 q1) λu s2 q9=>?_
 obtain⟨y,H2,I2,r2,q2⟩:=q9
 exact hf v u s2 x y H2 I2 r1 r2 q2
def Yc (i:Nat):TE:=λσ H Q=>∃ v,σ[i]?=some (some v)/\Q v H
def tC (v:V):TE:=λ_ H Q=>Q v H
def Kg {i:Nat}{x:Str}{pos:Pos}(hN:X.N[i]?=some x)(hv:WU X.env.scope x)(hd:(x==("__debug__" : Str))=false:=by decide)(En:(x==("__classdict__" : Str))=false:=by decide):PE X (.Name x pos) (Yc i):=by
 intro fJ s σ H Q I h
 obtain⟨v,e,h⟩:=h
 obtain⟨m,hn,hl⟩:=I.loc
 obtain⟨u,r,l⟩:=hl i x v hN e hv
 have fin:EP X fJ σ Q u s:=⟨v,H,I,r,h⟩
 rcases l with⟨hk,hm⟩|⟨hk,c,hc,u7⟩
 .exact wpAny_Name (wpAny_loadName_local I.ok.kind hk hn hm fin) hd
 .rcases hk with hk | hk
  .exact wpAny_Name (wpAny_loadName_cell I.ok.kind hk hc u7 fin) hd
  .exact wpAny_Name (wpAny_loadName_free I.ok.kind hk hc u7 fin En) hd
def iu {i j pos}:PE X (.Constant (.int i) j pos) (tC (.int i)):=λ_ _ _ H _ I h=>wpAny_Constant_int ⟨.int i,H,I.tok _,⟨_,rfl⟩,h⟩
def Kn {b j pos}:PE X (.Constant (.bool b) j pos) (tC (.bl b)):=λ_ _ _ H _ I h=>Constant_bool ⟨.bl b,H,I,rfl,h⟩
def RP {j pos}:PE X (.Constant .none j pos) (tC .ic):=λ_ _ _ H _ I h=>Constant_none ⟨.ic,H,I,rfl,h⟩
def RN {x j pos}:PE X (.Constant (.str x) j pos) (tC (.str x)):=λ_ _ _ H _ I h=>Calls.Constant_str ⟨.str x,H,I.tok _,⟨_,rfl⟩,h⟩
def Gl (X:Cx)(x:Str):Prop:=X.env.kindOf x=some .globalImplicit
def Am {E:ar->ak->Prop}{fJ:au (ao×Obj)}{s:ak}{σ:St}{H:Hp}{x:Str}{u:ar}{pos:Pos}{Q:ar->ak->Prop}(I:Inv X fJ σ H s)(hg:Gl X x)(hm:X.mg x=some u)(h:Q u s)
 (hd:(x==("__debug__" : Str))=false:=by decide):wpAny (model X.prog X.w) X.A (eval (.Name x pos) X.env) Q E s:=
 Calls.Name_function_global I.ok.kind hg (Calls.loadGlobal_global (by rw[I.ok.glob];exact I.mod.glob.keeps I.bk) hm h) hd
def kW {E:ar->ak->Prop}{fJ:au (ao×Obj)}{s:ak}{σ:St}{H:Hp}{x:Str}{u:ar}{pos:Pos}{Q:ar->ak->Prop}(I:Inv X fJ σ H s)(hg:Gl X x)(hm:X.mg x=none)(hv:bootBuiltins x=some u)(h:Q u s)
 (hn:x ≠ "__name__":=by decide) (hd:(x==("__debug__" : Str))=false:=by decide):wpAny (model X.prog X.w) X.A (eval (.Name x pos) X.env) Q E s:=by
 obtain⟨mb,h1,h2⟩:=I.mod.blt
 exact Calls.Name_function_global I.ok.kind hg (Calls.loadGlobal_builtin (by rw[I.ok.glob];exact I.mod.glob.keeps I.bk) hm (by rw[I.ok.blt];exact h1.keeps I.bk) ((h2 x hn).trans hv) h) hd
def jM {x:Str}{v:V}{u:ar}{pos:Pos}(hg:Gl X x)(hm:X.mg x=none)(hv:bootBuiltins x=some u)(r:gH v u)(hn:x ≠ "__name__":=by decide)(hd:(x==("__debug__" : Str))=false:=by decide):PE X (.Name x pos) (tC v) :=
 λ_ _ _ H _ I h=>kW I hg hm hv ⟨v,H,I,r,h⟩ hn hd
variable {a b:Expr}{ta tb:TE}{pos:Pos}
def PC (X:Cx)(op:CmpOp)(a b:Expr)(t:TE):Prop :=
 ∀(fJ:au (ao×Obj)) (s:ak) (σ:St) (H:Hp) (Q:VK),Inv X fJ σ H s->t σ H Q ->
  wpAny (model X.prog X.w) X.A (eval a X.env) (λv s₁=>wpAny (model X.prog X.w) X.A (eval b X.env) (λu s₂=>wpAny (model X.prog X.w) X.A (compareOp op v u) (EP X fJ σ Q) X.xe s₂) X.xe s₁) X.xe s
def KL (b:Expr){op:CmpOp}(h:op≠.In)(h2:op≠.NotIn):behindInMarks op b=false:=by
 have e1:(op==CmpOp.In)=false:=by cases op<;>first|rfl|exact absurd rfl h
 have e2:(op==CmpOp.NotIn)=false:=by cases op<;>first|rfl|exact absurd rfl h2
 cases b<;>simp[behindInMarks,e1,e2]
def UQ (ta:TE):TE:=λσ H Q=>ta σ H λx H1=>Q (.bl (decide (x=.ic))) H1
def PM (ta:TE):TE:=λσ H Q=>ta σ H λx H1=>Q (.bl (!decide (x=.ic))) H1
def gH.Ca {x:V}{v:ar}(r:gH x v):(v==Value.none)=decide (x=.ic):=by
 cases x with
 |ic=>cases r;rfl
 |bl _=>cases r;rfl
 |int _=>obtain⟨t,rfl⟩:=r;rfl
 |str _=>obtain⟨t,rfl⟩:=r;rfl
 |Iy _=>obtain⟨t,rfl⟩:=r;rfl
 |QG _=>obtain⟨t,rfl⟩:=r;rfl
 |ref _=>cases r;rfl
 |ty _=>cases r;rfl
def RT {j pos'}(ha:PE X a ta):PC X .Is a (.Constant .none j pos') (UQ ta):=by
 intro fJ s σ H Q I h
 refine iN (ha fJ s σ H _ I h) λv s1 qo=>?_
 obtain⟨x,H1,I1,r1,q1⟩:=qo
 exact Constant_none (is_none_gen ⟨.bl _,H1,I1,by rw[r1.Ca];rfl,q1⟩)
def NZ {j pos'}(ha:PE X a ta):PC X .IsNot a (.Constant .none j pos') (PM ta):=by
 intro fJ s σ H Q I h
 refine iN (ha fJ s σ H _ I h) λv s1 qm=>?_
 obtain⟨x,H1,I1,r1,q1⟩:=qm
 exact Constant_none (isnot_none_gen ⟨.bl _,H1,I1,by rw[r1.Ca];rfl,q1⟩)
def tB (t:TE):TT:=λσ H Q=>t σ H λx H1=>∃ c,x=.bl c/\Q c H1
def DT {op:CmpOp}{t:TE}(h:PC X op a b t)(h1:behindInMarks op b=false:=by first | exact KL _ (by decide) (by decide) | rfl):PT X (.Compare a [op] [b] pos) (tB t):=by
 intro fJ s σ H Q I hw
 refine wpAny_isTrue_Compare1 (iN (h fJ s σ H _ I hw) λv s1 h1=>iN h1 λu s2 h2=>iN h2 λc s3 rZ=>?_) h1
 obtain⟨x,H1,I1,r1,q1⟩:=rZ
 obtain⟨d,rfl,q⟩:=q1
 cases r1
 exact cC ⟨H1,I1,q⟩
variable {tA Xn:TT}{rest:au Expr}
def UU (t u:TT):TT:=λσ H Q=>t σ H λc H1=>if c=true then u σ H1 Q else Q false H1
def tOr (t u:TT):TT:=λσ H Q=>t σ H λc H1=>if c=true then Q true H1 else u σ H1 Q
def Yh (t:TT):TT:=λσ H Q=>t σ H λc H1=>Q (!c) H1
def pw_and1 (ha:PT X a tA):PW X (.BoolOp .And [a] pos) tA:=by
 intro wh fJ s σ H Q I h
 refine isTrue_and (iN (ha fJ s σ H Q I h) λc s1 e=>?_)
 cases c with
 |true=>exact isTrue_and_nil e
 |false=>exact e
def pw_or1 (ha:PT X a tA):PW X (.BoolOp .Or [a] pos) tA:=by
 intro wh fJ s σ H Q I h
 refine isTrue_or (iN (ha fJ s σ H Q I h) λc s1 e=>?_)
 cases c with
 |false=>exact isTrue_or_nil e
 |true=>exact e
def pw_and (ha:PT X a tA)(hb:PW X (.BoolOp .And (b::rest) pos) Xn):PW X (.BoolOp .And (a::b::rest) pos) (UU tA Xn):=by
 intro wh fJ s σ H Q I h
 refine isTrue_and (iN (ha fJ s σ H _ I h) λc s1 tY=>?_)
 obtain⟨H1,I1,q1⟩:=tY
 cases c with
 |true=>exact hb wh fJ s1 σ H1 Q I1 q1
 |false=>exact⟨H1,I1,q1⟩
def pw_or (ha:PT X a tA)(hb:PW X (.BoolOp .Or (b::rest) pos) Xn):PW X (.BoolOp .Or (a::b::rest) pos) (tOr tA Xn):=by
 intro wh fJ s σ H Q I h
 refine isTrue_or (iN (ha fJ s σ H _ I h) λc s1 uE=>?_)
 obtain⟨H1,I1,q1⟩:=uE
 cases c with
 |true=>exact⟨H1,I1,q1⟩
 |false=>exact hb wh fJ s1 σ H1 Q I1 q1
def RD (ha:PT X a tA):PT X (.UnaryOp .Not a pos) (Yh tA):=by
 intro fJ s σ H Q I h
 exact isTrue_not (ha fJ s σ H (λc H1=>Q (!c) H1) I h)
def DW {op}{t:TE}(h:PE X a t):PE X (.BoolOp op [a] pos) t:=λfJ s σ H Q I hw=>BoolOp_one (h fJ s σ H Q I hw)
def tIf (t:TT)(ta tb:TE):TE:=λσ H Q=>t σ H λc H1=>if c=true then ta σ H1 Q else tb σ H1 Q
def Kj {c:Expr}(hc:PT X c tA)(ha:PE X a ta)(hb:PE X b tb):PE X (.IfExp c a b pos) (tIf tA ta tb):=by
 intro fJ s σ H Q I h
 refine wpAny_IfExp (iN (hc fJ s σ H _ I h) λd s1 r6=>?_)
 obtain⟨H1,I1,q1⟩:=r6
 cases d with
 |true=>exact ha fJ s1 σ H1 Q I1 q1
 |false=>exact hb fJ s1 σ H1 Q I1 q1
end
def qz (K:aa)(H:Hp)(a:ao)(xs:au V):Prop :=
 Rd H a (.lst xs) \/
  ∃(o:Obj) (gu:Array ar) (n:Nat),K.lookup a=some o/\o.cls=.type "list"/\o.dict=none/\o.data=.seq gu n/\gu.size<=sizeLine/\gD xs gu.toList
def IH (K:aa)(H:Hp)(a:ao)(xs:au V):Prop :=
 Rd H a (.tup xs) \/
  ∃(o:Obj) (gu:Array ar) (n:Nat),K.lookup a=some o/\o.cls=.type "tuple"/\o.data=.seq gu n/\gu.size<=sizeLine/\gD xs gu.toList
def absV:ar->av V
 |.none=>some .ic
 |.bool b=>some (.bl b)
 |.int i _=>some (.int i)
 |.str x _=>some (.str x)
 |.bytes b _=>some (.Iy b)
 |.float b _=>some (.QG b)
 |.ref a=>some (.ref a)
 |.type n=>some (.ty n)
 |_=>none
def gH.abs {x:V}{u:ar}(r:gH x u):absV u=some x:=by
 cases x with
 |ic=>cases r;rfl
 |bl _=>cases r;rfl
 |int _=>obtain⟨t,rfl⟩:=r;rfl
 |str _=>obtain⟨t,rfl⟩:=r;rfl
 |Iy _=>obtain⟨t,rfl⟩:=r;rfl
 |QG _=>obtain⟨t,rfl⟩:=r;rfl
 |ref _=>cases r;rfl
 |ty _=>cases r;rfl
def gH.inj {x y:V}{u:ar}(r:gH x u)(q:gH y u):x=y:=aK (r.abs.symm.trans q.abs)
def gD.inj {xs ys:au V}{us:au ar}(h:gD xs us)(g:gD ys us):xs=ys:=by
 induction h generalizing ys with
 |nil=>cases g;rfl
 | cons r t ih =>
  cases g with
  |cons r' t'=>rw[r.inj r',ih t']
section
variable {X:Cx}{fJ:au (ao×Obj)}{σ:St}{H:Hp}{s:ak}{a:ao}{xs ys:au V}
def qz.of {K:aa}(h:H a=some (.lst xs)):qz K H a xs:=.inl (.inl h)
def IH.of {K:aa}(h:H a=some (.tup xs)):IH K H a xs:=.inl (.inl h)
def Inv.list (I:Inv X fJ σ H s)(h:qz X.K H a xs):∃ gu:au ar,gD xs gu/\PlainL s.heap a gu.toArray/\xs.length<=sizeLine:=by
 rcases h with h|⟨o,gu,n,hk,hc,hd,hs,hz,r⟩
 .obtain⟨z,gu,n,r,e⟩:=h.ok I.iF
  exact⟨gu,r,⟨_,n,e,rfl,rfl,rfl⟩,z⟩
 .refine⟨gu.toList,r,⟨o,n,I.vN a o hk,hc,hd,by simpa using hs⟩,?_⟩
  have e:=r.length
  simp only[Array.length_toList]at e
  lia
def Inv.tuple (I:Inv X fJ σ H s)(h:IH X.K H a xs):∃ gu:au ar,gD xs gu/\IsTup s.heap a gu.toArray/\xs.length<=sizeLine:=by
 rcases h with h|⟨o,gu,n,hk,hc,hs,hz,r⟩
 .obtain⟨z,gu,r,p⟩:=h.ok I.iF
  exact⟨gu,r,p,z⟩
 .refine⟨gu.toList,r,⟨o,I.vN a o hk,hc,n,by simpa using hs⟩,?_⟩
  have e:=r.length
  simp only[Array.length_toList]at e
  lia
def Inv.K1 (I:Inv X fJ σ H s)(h:qz X.K H a xs)(h':qz X.K H a ys):xs=ys:=by
 obtain⟨gu,r,⟨o,n,e,_,_,d⟩,_⟩:=I.list h
 obtain⟨its',r',⟨o',n',e',_,_,d'⟩,_⟩:=I.list h'
 rw[e]at e';cases e'
 rw[d]at d'
 injection d' with d1 _
 have:gu=its':=by simpa using cH Array.toList d1
 subst this
 exact r.inj r'
end
abbrev Cx.xV (X:Cx)(E:ar->ak->Prop):Cx:={ X with xe:=E}
abbrev Cx.Vo (X:Cx):Cx:=X.xV λ_ _=>False
def Cx.Ok.xV {X:Cx}(ok:X.Ok)(E:ar->ak->Prop):(X.xV E).Ok :=
 ⟨ok.mod,ok.kind,ok.glob,ok.blt,ok.above,ok.inj,ok.has,ok.WN,ok.hd,ok.frames,ok.Xp,ok.UB,ok.bs,ok.Iz,ok.HI,ok.Im,ok.tu,ok.QD⟩
def Cx.Ok.pZ {X:Cx}{E:ar->ak->Prop}(ok:(X.xV E).Ok):X.Ok :=
 ⟨ok.mod,ok.kind,ok.glob,ok.blt,ok.above,ok.inj,ok.has,ok.WN,ok.hd,ok.frames,ok.Xp,ok.UB,ok.bs,ok.Iz,ok.HI,ok.Im,ok.tu,ok.QD⟩
section
variable {X:Cx}{fJ:au (ao×Obj)}{σ:St}{H:Hp}{s:ak}{E:ar->ak->Prop}
def Inv.xV (I:Inv X fJ σ H s)(E:ar->ak->Prop):Inv (X.xV E) fJ σ H s:=⟨I.ok.xV E,I.os,I.bare,I.fK,I.loc,I.cell,I.free,I.pG,I.pin,I.iF,I.len⟩
def Inv.pZ (I:Inv (X.xV E) fJ σ H s):Inv X fJ σ H s:=⟨I.ok.pZ,I.os,I.bare,I.fK,I.loc,I.cell,I.free,I.pG,I.pin,I.iF,I.len⟩
def SP.pZ {D:Ends}{f:Flow}{s':ak}(h:SP (X.xV E) fJ D f s'):SP X fJ D f s':=by
 cases f with
 |next=>obtain⟨jo,H',I,q⟩:=h;exact⟨jo,H',I.pZ,q⟩
 |brk=>obtain⟨jo,H',I,q⟩:=h;exact⟨jo,H',I.pZ,q⟩
 |cont=>obtain⟨jo,H',I,q⟩:=h;exact⟨jo,H',I.pZ,q⟩
 |ret u=>obtain⟨v,jo,H',I,r,q⟩:=h;exact⟨v,jo,H',I.pZ,r,q⟩
def A5.Vo {st:au Stmt}{t:TS}(h:A5 X.Vo st t):A5 X st t:=λfJ s σ H D I hw =>
 b7 (h fJ s σ H D (I.xV _) hw) (λ_ _ q=>q.pZ) λ_ _ z=>False.elim z
end
section
variable {X:Cx}{st:Stmt}{rest:au Stmt}{t u:TS}{e:Expr}{te:TE}{pos:Pos}
def UP:TS:=λD σ H=>D.nx σ H
def Ye (t u:TS):TS:=λD σ H=>t { D with nx:=u D} σ H
def nQ:A5 X [] UP:=λ_ _ σ H _ I h=>fG ⟨σ,H,I,h⟩
def iU (h1:PS X st t)(h2:A5 X rest u):A5 X (st::rest) (Ye t u):=by
 intro fJ s σ H D I h
 refine wpAny_execs_cons (iN (h1 fJ s σ H { D with nx:=u D} I h) λf s1 q=>?_)
 cases f with
 | next =>
  obtain⟨jo,H',I',q⟩:=q
  exact h2 fJ s1 jo H' D I' q
 |ret v=>exact q
 |brk=>exact q
 |cont=>exact q
def lG (h1:PS X st t):A5 X [st] t:=by
 intro fJ s σ H D I h
 refine wpAny_execs_cons (iN (h1 fJ s σ H D I h) λf s1 q=>?_)
 cases f with
 |next=>exact fG q
 |ret v=>exact q
 |brk=>exact q
 |cont=>exact q
def Inv.quiet {fJ:au (ao×Obj)}{σ:St}{H:Hp}{s:ak}(I:Inv X fJ σ H s):interactive X.env=false:=by simp[interactive,I.ok.kind]
def UR (te:TE):TS:=λD σ H=>te σ H λ_ H1=>D.nx σ H1
def NO (he:PE X e te)(hs:swapsWith e none pos.line X.env=pure false:=by rfl):PS X (.Expr e pos) (UR te):=by
 intro fJ s σ H D I h
 exact wpAny_Expr_any (iN (he fJ s σ H _ I h) λv s1 q9=>by obtain⟨x,H1,I1,r1,q1⟩:=q9;exact⟨σ,H1,I1,q1⟩) I.quiet hs
def Yg (te:TE):TS:=λD σ H=>te σ H D.rt
def oi (he:PE X e te):PS X (.Return (some e) pos) (Yg te):=by
 intro fJ s σ H D I h
 exact wpAny_Return_some (iN (he fJ s σ H _ I h) λv s1 qo=>by obtain⟨x,H1,I1,r1,q1⟩:=qo;exact⟨x,σ,H1,I1,r1,q1⟩)
def Yj (c:TT)(t u:TS):TS:=λD σ H=>c σ H λb H1=>if b=true then t D σ H1 else u D σ H1
def uX {c:Expr}{a b:au Stmt}{tc:TT}(hc:PT X c tc)(ha:A5 X a t)(hb:A5 X b u):PS X (.If c a b pos) (Yj tc t u):=by
 intro fJ s σ H D I h
 refine wpAny_If (iN (hc fJ s σ H _ I h) λd s1 qm=>?_)
 obtain⟨H1,I1,q1⟩:=qm
 cases d with
 |true=>exact ha fJ s1 σ H1 D I1 q1
 |false=>exact hb fJ s1 σ H1 D I1 q1
end
abbrev TG:=V->St->Hp->(St->Hp->Prop)->Prop
abbrev zw:=au V->St->Hp->(St->Hp->Prop)->Prop
def PG (X:Cx)(target:Expr)(t:TG):Prop :=
 ∀(fJ:au (ao×Obj)) (s:ak) (σ:St) (H:Hp) (v:V) (u:ar) (Q:St->Hp->Prop),Inv X fJ σ H s->gH v u->t v σ H Q ->
  wpAny (model X.prog X.w) X.A (assign target X.env u) (λ_ s'=>∃ jo H',Inv X fJ jo H' s'/\Q jo H') X.xe s
def Mx (X:Cx)(ts:au Expr)(t:zw):Prop :=
 ∀(fJ:au (ao×Obj)) (s:ak) (σ:St) (H:Hp) (vs:au V) (us:au ar) (Q:St->Hp->Prop),Inv X fJ σ H s->gD vs us->t vs σ H Q ->
  wpAny (model X.prog X.w) X.A (assignInOrder ((assignEach ts X.env).map (·.2)) us) (λ_ s'=>∃ jo H',Inv X fJ jo H' s'/\Q jo H') X.xe s
abbrev EJ:=V->V->V->Hp->(Hp->Prop)->Prop
def Pm (X:Cx)(t:EJ):Prop :=
 ∀(fJ:au (ao×Obj)) (s:ak) (σ:St) (H:Hp) (o i v:V) (ov iv u:ar) (Q:Hp->Prop),Inv X fJ σ H s->gH o ov->gH i iv->gH v u->t o i v H Q ->
  wpAny (model X.prog X.w) X.A (setItem ov iv u) (λ_ s'=>∃ H',Inv X fJ σ H' s'/\Q H') X.xe s
abbrev Pk:=V->V->Hp->VK->Prop
def TX (X:Cx)(op:Operator)(t:Pk):Prop :=
 ∀(fJ:au (ao×Obj)) (s:ak) (σ:St) (H:Hp) (x y:V) (v u:ar) (Q:VK),Inv X fJ σ H s->gH x v->gH y u->t x y H Q ->
  wpAny (model X.prog X.w) X.A (inplaceOp op v u) (EP X fJ σ Q) X.xe s
section
variable {X:Cx}{pos:Pos}
def tq (i:Nat):TG:=λv σ H Q=>Q (σ.set i (some v)) H
def vJ {i:Nat}{x:Str}(hN:X.N.Nodup)(hi:X.N[i]?=some x)(hx:Loc X.env.scope x)(hf:X.fn x=true\/X.env.scope.names.lookup x=some .local:=by first | exact .inl rfl | exact .inr rfl | assumption):PG X (.Name x pos) (tq i):=by
 intro fJ s σ H v u Q I r h
 exact wpAny_assign_Name (wD I hN hi hx r (λs' I'=>⟨_,H,I',h⟩) hf)
def ZY:zw:=λvs σ H Q=>vs=[]/\Q σ H
def V4 (t:TG)(u:zw):zw:=λvs σ H Q=>∃ v r,vs=v::r/\t v σ H λjo H'=>u r jo H' Q
def NV:Mx X [] ZY:=by
 intro fJ s σ H vs us Q I r h
 obtain⟨e,h⟩:=h
 subst e
 cases r
 exact assignInOrder_nil ⟨σ,H,I,h⟩
def Ke {e:Expr}{es:au Expr}{t:TG}{u:zw}(h1:PG X e t)(h2:Mx X es u)
 (hs:(assignEach (e::es) X.env).map (·.2)=assign e X.env::(assignEach es X.env).map (·.2):=by rfl):Mx X (e::es) (V4 t u):=by
 intro fJ s σ H vs us Q I r h
 obtain⟨v,vr,e1,h⟩:=h
 subst e1
 cases r with
 | cons r rr =>
  rw[hs]
  refine assignInOrder_cons (iN (h1 fJ s σ H _ _ _ I r h) λ_ s1 rZ=>?_)
  obtain⟨Pw,H1,I1,q1⟩:=rZ
  exact h2 fJ s1 Pw H1 _ _ Q I1 rr q1
def ZW (K:aa)(n:Nat)(t:zw):TG:=λv σ H Q=>∃ a xs,v=.ref a/\IH K H a xs/\xs.length=n/\t xs σ H Q
def RL {es:au Expr}{k:Nat}{t:zw}{n:Nat}(hc:X.gY=true)(h:Mx X es t)
 (hn:(assignEach es X.env).length=n:=by rfl) (Li:(assignEach es X.env).findIdx? (·.1)=none:=by rfl):PG X (.Tuple es k pos) (ZW X.K n t):=by
 intro fJ s σ H v u Q I r hw
 obtain⟨a,xs,e1,hq,hl,hw⟩:=hw
 subst e1
 cases r
 obtain⟨gu,rv,ht,hz⟩:=I.tuple hq
 refine assign_Tuple_tuple (I.ok.hd hc) ht (by simp[hn,<- hl,rv.length]) Li λh' hx=>?_
 have I1:Inv X fJ σ H {s with heap:=h'}:=I.iW (t':=s.toks) λb o e=>hx b o (aE (jk e)) e
 exact h fJ _ σ H xs _ Q I1 (by simpa using rv) hw
def ZX (to ti:TE)(t:EJ):TG:=λv σ H Q=>to σ H λo H1=>ti σ H1 λi H2=>t o i v H2 λH3=>Q σ H3
def wV {o i:Expr}{to ti:TE}{t:EJ}(ho:PE X o to)(hi:PE X i ti)(hs:Pm X t)
 (ha:∀ v,assign (.Subscript o i pos) X.env v=(do
   let ov <- holding [v] (eval o X.env)
   let iv <- holding [v,ov] (eval i X.env)
   standAt pos
   holding [v,ov,iv] (setItem ov iv v)
   release [v,ov,iv] []):=by intro _;rfl):PG X (.Subscript o i pos) (ZX to ti t):=by
 intro fJ s σ H v u Q I r h
 rw[ha]
 refine f9 (bP (iN (ho fJ s σ H _ I h) λov s1 tY=>?_))
 obtain⟨x,H1,I1,r1,q1⟩:=tY
 refine f9 (bP (iN (hi fJ s1 σ H1 _ I1 q1) λiv s2 uE=>?_))
 obtain⟨y,H2,I2,r2,q2⟩:=uE
 refine f9 (dY (f9 (bP (iN (hs fJ s2 σ H2 x y v ov iv u _ I2 r1 r2 r q2) λ_ s3 r6=>?_))))
 obtain⟨H3,I3,q3⟩:=r6
 exact wpAny_release ⟨σ,H3,I3,q3⟩
def Ri (te:TE)(g:TG):TS:=λD σ H=>te σ H λx H1=>g x σ H1 D.nx
def ux {tg e:Expr}{te:TE}{g:TG}(he:PE X e te)(hg:PG X tg g)(hs:swapsWithSole [tg] e pos.line X.env=pure false:=by rfl)(hw:swappedStores [tg] e X.env=pure none:=by rfl)
 (h1:(assignEach [tg] X.env).map (·.2)=[assign tg X.env]:=by rfl):PS X (.Assign [tg] e pos) (Ri te g):=by
 intro fJ s σ H D I h
 refine wpAny_Assign_stores (iN (he fJ s σ H _ I h) λv s1 q9=>?_) hs hw
 obtain⟨x,H1,I1,r1,q1⟩:=q9
 rw[h1]
 exact iN (hg fJ s1 σ H1 x v _ I1 r1 q1) λ_ s2 q=>q
def uw {i:Nat}{x:Str}{e:Expr}{te:TE}{pos':Pos}(hN:X.N.Nodup)(hi:X.N[i]?=some x)(hx:Loc X.env.scope x)(he:PE X e te)(hs:swapsWith e (some (.Name x pos')) pos.line X.env=pure false:=by rfl)(hf:X.fn x=true\/X.env.scope.names.lookup x=some .local:=by first | exact .inl rfl | exact .inr rfl | assumption):
 PS X (.Assign [.Name x pos'] e pos) (Ri te (tq i)):=by
 intro fJ s σ H D I h
 refine wpAny_Assign_Name (iN (he fJ s σ H _ I h) λv s1 qo=>?_) hs
 obtain⟨y,H1,I1,r1,q1⟩:=qo
 exact wD I1 hN hi hx r1 (λs2 I2=>⟨_,H1,I2,q1⟩) hf
def Yr (i:Nat)(te:TE)(ti:Pk):TS:=λD σ H=>∃ x,σ[i]?=some (some x)/\te σ H λy H1=>ti x y H1 λz H2=>D.nx (σ.set i (some z)) H2
def RH {i:Nat}{x:Str}{e:Expr}{te:TE}{op:Operator}{ti:Pk}{pos':Pos}(hN:X.N.Nodup)(hi:X.N[i]?=some x)(hx:Loc X.env.scope x)(he:PE X e te)(ho:TX X op ti)(hf:X.fn x=true\/X.env.scope.names.lookup x=some .local:=by first | exact .inl rfl | exact .inr rfl | assumption):
 PS X (.AugAssign (.Name x pos') op e pos) (Yr i te ti):=by
 intro fJ s σ H D I h
 obtain⟨v,e1,h⟩:=h
 obtain⟨m,hn,hl⟩:=I.loc
 have vis:WU X.env.scope x:=by rcases hx with k|k;exact .inl k;exact .inr (.inl k)
 obtain⟨u,r,l⟩:=hl i x v hi e1 vis
 refine wpAny_AugAssign_Name ?_
 have go:wpAny (model X.prog X.w) X.A (eval e X.env) (λw s₂=>wpAny (model X.prog X.w) X.A (inplaceOp op u w) (λr s₃=>wpAny (model X.prog X.w) X.A (storeName X.env x r) (λ_=>SP X fJ D .next) X.xe s₃) X.xe s₂) X.xe s:=by
  refine iN (he fJ s σ H _ I h) λw s1 qm=>?_
  obtain⟨y,H1,I1,r1,q1⟩:=qm
  refine iN (ho fJ s1 σ H1 v y u w _ I1 r r1 q1) λz s2 rZ=>?_
  obtain⟨zv,H2,I2,r2,q2⟩:=rZ
  exact wD I2 hN hi hx r2 (λs3 I3=>⟨_,H2,I3,q2⟩) hf
 rcases l with⟨hk,hm⟩|⟨hk,c,hc,u7⟩
 .exact wpAny_loadName_local I.ok.kind hk hn hm go
 .rcases hk with hk | hk
  .exact wpAny_loadName_cell I.ok.kind hk hc u7 go
  .rcases hx with k | k
   .have:X.env.scope.names.lookup x=some .free:=hk
    rw[k]at this;cases this
   .have:X.env.scope.names.lookup x=some .free:=hk
    rw[k]at this;cases this
def UT (to ti te:TE)(Nc:V->V->Hp->VK->Prop)(Xl:Pk)(Nb:EJ):TS:=λD σ H=>to σ H λo H1=>ti σ H1 λi H2=>Nc o i H2 λx H3=>te σ H3 λy H4=>Xl x y H4 λz H5=>Nb o i z H5 λH6=>D.nx σ H6
def W0 (X:Cx)(t:V->V->Hp->VK->Prop):Prop :=
 ∀(fJ:au (ao×Obj)) (s:ak) (σ:St) (H:Hp) (o i:V) (ov iv:ar) (Q:VK),Inv X fJ σ H s->gH o ov->gH i iv->t o i H Q ->
  wpAny (model X.prog X.w) X.A (getItem ov iv) (EP X fJ σ Q) X.xe s
def NP {o i e:Expr}{to ti te:TE}{Nc:V->V->Hp->VK->Prop}{Xl:Pk}{Nb:EJ}{op:Operator}{tpos:Pos}(ho:PE X o to)(hi:PE X i ti)(hg:W0 X Nc)(he:PE X e te)(hp:TX X op Xl)(hs:Pm X Nb)
 (ha:∀ ov iv new,augStore i ov iv new=(do holding [new,ov,iv] (setItem ov iv new);release [new,ov,iv] [];pure .next):=by intros;rfl):PS X (.AugAssign (.Subscript o i tpos) op e pos) (UT to ti te Nc Xl Nb):=by
 intro fJ s σ H D I h
 refine wpAny_AugAssign_SubscriptAny (iN (ho fJ s σ H _ I h) λov s1 tY=>?_) ha
 obtain⟨x1,H1,I1,r1,q1⟩:=tY
 refine iN (hi fJ s1 σ H1 _ I1 q1) λiv s2 uE=>?_
 obtain⟨x2,H2,I2,r2,q2⟩:=uE
 refine iN (hg fJ s2 σ H2 x1 x2 ov iv _ I2 r1 r2 q2) λold s3 r6=>?_
 obtain⟨x3,H3,I3,r3,q3⟩:=r6
 refine iN (he fJ s3 σ H3 _ I3 q3) λv s4 q9=>?_
 obtain⟨x4,H4,I4,r4,q4⟩:=q9
 refine iN (hp fJ s4 σ H4 x3 x4 old v _ I4 r3 r4 q4) λnew s5 qo=>?_
 obtain⟨x5,H5,I5,r5,q5⟩:=qo
 exact iN (hs fJ s5 σ H5 x1 x2 x5 ov iv new _ I5 r1 r2 r5 q5) λ_ s6 qm=>by obtain⟨H6,I6,q6⟩:=qm;exact⟨σ,H6,I6,q6⟩
def ipI (f:Int->Int->Int):Pk:=λx y H Q=>∃ i j,x=.int i/\y=.int j/\Q (.int (f i j)) H
def Sy:TX X .Add (ipI λi j=>i+j):=by
 intro fJ s σ H x y v u Q I r1 r2 h
 obtain⟨i,j,e1,e2,q⟩:=h
 subst e1;subst e2
 obtain⟨t,rfl⟩:=r1
 obtain⟨t',rfl⟩:=r2
 exact iadd_int ⟨.int _,H,I.tok _,⟨_,rfl⟩,q⟩
def Sx:TX X .Sub (ipI λi j=>i - j):=by
 intro fJ s σ H x y v u Q I r1 r2 h
 obtain⟨i,j,e1,e2,q⟩:=h
 subst e1;subst e2
 obtain⟨t,rfl⟩:=r1
 obtain⟨t',rfl⟩:=r2
 exact isub_int ⟨.int _,H,I.tok _,⟨_,rfl⟩,q⟩
end
section
variable {X:Cx}{pos:Pos}
def Rb (c:TT)(tb:TS):TS:=λD σ H=>∃ W:Nat->St->Hp->Prop,(∃ m,W m σ H)/\∀ m σ H,W m σ H ->
 c σ H λb H1=>if b=true then ∃ N:St->Hp->Prop,(∀ jo H',N jo H'->∃ m',m'<m/\W m' jo H')/\tb { D with nx:=N,ct:=N,bk:=D.nx} σ H1 else D.nx σ H1
def J8 {c:Expr}{body:au Stmt}{tc:TT}{tb:TS}(hp:PassesOwn (model X.prog X.w) X.A X.env X.xe)(hc:PT X c tc)(hb:A5 X body tb):PS X (.While c body [] pos) (Rb tc tb):=by
 intro fJ s σ H D I h
 obtain⟨W,⟨m0,w0⟩,turn⟩:=h
 refine wpAny_While (codeAny_whileLoop (λn s'=>∃ jo H',Inv X fJ jo H' s'/\W n jo H') ?_ m0 ⟨σ,H,I,w0⟩)
 rintro n s1 ⟨Pw,H1,I1,w1⟩
 refine dg hp (iN (hc fJ s1 Pw H1 _ I1 (turn n Pw H1 w1)) λb s2 rZ=>?_)
 obtain⟨H2,I2,q2⟩:=rZ
 cases b with
 | true =>
  obtain⟨N,hN,q2⟩:=q2
  rw[aF rfl]
  refine dg hp (iN (hb fJ s2 Pw H2 _ I2 q2) λf s3 q3=>?_)
  cases f with
  | next =>
   obtain⟨EX,H3,I3,n3⟩:=q3
   obtain⟨m',hm,w3⟩:=hN EX H3 n3
   exact⟨m',hm,EX,H3,I3,w3⟩
  | cont =>
   obtain⟨EX,H3,I3,n3⟩:=q3
   obtain⟨m',hm,w3⟩:=hN EX H3 n3
   exact⟨m',hm,EX,H3,I3,w3⟩
  |brk=>exact q3
  |ret v=>exact q3
 | false =>
  rw[aG aN]
  exact fG ⟨Pw,H2,I2,q2⟩
end
structure It where
 go:Nat->Hp->Prop
 Jm:Nat->Hp->V->Hp->Prop
 stop:Nat->Hp->Prop
def mU (X:Cx)(fJ:au (ao×Obj))(H:Hp)(b:ao):Prop :=
 H b=none/\b≠X.env.locals/\b∉X.fs/\(b∈X.ex\/X.s₀.heap.objs.size<=b)/\(∀ x c,X.env.cells.lookup x=some c->c≠b)/\∀ p∈X.pn++fJ,p.1≠b
def Inv.Er {X:Cx}{fJ:au (ao×Obj)}{σ:St}{H H':Hp}{s:ak}{b:ao}(I:Inv X fJ σ H s)(hb:s.heap.objs.size<=b)(hn:H' b=none):mU X fJ H' b:=by
 refine⟨hn,bw (aP I.lt hb),I.YH hb,.inr (aV I.sz hb),λx c e z=>?_,λp hp z=>?_⟩
 .obtain⟨v,q⟩:=I.cell x c e
  exact absurd (aP q.lt (by rw[z];exact hb)) (b8 _)
 .exact absurd (aP (jk (I.pin p hp).1) (by rw[z];exact hb)) (b8 _)
structure Turn (P:ah)(w:ai)(K:aa)(tg:Expr)(J:It)(fp:List ao)(it:ao)(tn:Nat->Heap->Prop)(CM:Cx->Prop:=λX=>X.gY=true):Prop where
 mem:it∈fp
 obj:∀ i h,tn i h->∀ b∈fp,∃ o,h.get? b=some o/\∀ v,o.data≠.cell v
 keep:∀ i h h',tn i h->(∀ b∈fp,∀ o,h.get? b=some o->h'.get? b=some o)->tn i h'
 item:∀(X:Cx),X.prog=P->X.w=w->X.K=K->CM X->∀(i:Nat) (fJ:List (ao×Obj)) (s:ak) (σ:St) (H:Hp) (E:ar->ak->Prop),Inv X fJ σ H s->(∀ b∈fp,mU X fJ H b)->tn i s.heap->J.go i H ->
  wpAny (model P w) X.A (pyNext (.ref it)) (λr s1=>∃ u,r=some u /\
   wpAny (model P w) X.A (letOwnedTupleGo tg (.ref it) u) (λ_ s2=>∃ x H',Inv X fJ σ H' s2/\gH x u/\J.Jm i H x H'/\tn (i+1) s2.heap/\∀ b∈fp,H' b=none) E s1) E s
 done:∀(X:Cx),X.prog=P->X.w=w->X.K=K->CM X->∀(i:Nat) (fJ:List (ao×Obj)) (s:ak) (σ:St) (H:Hp) (E:ar->ak->Prop),Inv X fJ σ H s->(∀ b∈fp,mU X fJ H b)->tn i s.heap->J.stop i H ->
  wpAny (model P w) X.A (pyNext (.ref it)) (λr s1=>r=none/\Inv X fJ σ H s1) E s
 self:∀(A:Around) (i:Nat) (s:ak) (Q:ar->ak->Prop) (E:ar->ak->Prop),tn i s.heap->Q (.ref it) s->wpAny (model P w) A (pyIter (.ref it)) Q E s
abbrev TI:=St->Hp->(It->Hp->Prop)->Prop
def PIE (X:Cx)(fJ:au (ao×Obj))(σ:St)(tg:Expr)(R:It->Hp->Prop)(VD:ar)(s2:ak):Prop :=
 ∃(it:ao) (fp:au ao) (tn:Nat->Heap->Prop) (J:It) (H':Hp),VD=.ref it/\Inv X fJ σ H' s2/\Turn X.prog X.w X.K tg J fp it tn/\tn 0 s2.heap/\(∀ b∈fp,mU X fJ H' b)/\R J H'
def PI (X:Cx)(tg iter:Expr)(wi:TI):Prop :=
 ∀(fJ:au (ao×Obj)) (s:ak) (σ:St) (H:Hp) (R:It->Hp->Prop),Inv X fJ σ H s->wi σ H R ->
  wpAny (model X.prog X.w) X.A (eval iter X.env) (λv s1=>wpAny (model X.prog X.w) X.A (pyIter v) (PIE X fJ σ tg R) X.xe s1) X.xe s
def QC {M:Model}{A:Around}{E:ar->ak->Prop}{s:ak}{tg:Expr}{it:ao}{u:ar}{o:Obj}{n:String}{vs:Array ar}{Q:Unit->ak->Prop}(ho:s.heap.get? it=some o)(hc:o.cls=.type n)(hd:o.data=.fields vs)
 (hn:["enumerate","zip","dict_itemiterator","dict_reverseitemiterator","odict_iterator","itertools.zip_longest","itertools.pairwise"].contains n=false) (hQ:Q () s):wpAny M A (letOwnedTupleGo tg (.ref it) u) Q E s:=by
 unfold letOwnedTupleGo
 cases tg <;> first
  |exact aA hQ
  | (cases u <;> first
      |exact aA hQ
      | (refine f9 (wpAny_load ho ?_)
         rw[hc,hd]
         show wpAny M A (if(["enumerate","zip","dict_itemiterator","dict_reverseitemiterator","odict_iterator","itertools.zip_longest","itertools.pairwise"].contains n&&vs[0]?==some (rawInt _))=true then _ else _) Q E s
         rw[aG (by intro h;rw[hn,Bool.false_and]at h;cases h)]
         exact aA hQ))
def Itl (K:aa)(a:ao):It :=
 ⟨λi H=>∃ xs x,qz K H a xs/\xs[i]?=some x,λi H x H'=>H'=H/\∀ xs,qz K H a xs->xs[i]?=some x,λi H=>∃ xs,qz K H a xs/\xs.length<=i⟩
def W4 (lo:Int)(n:Nat):It:=⟨λi _=>i<n,λi H x H'=>H'=H/\x=.int (lo+i),λi _=>n<=i⟩
def Hf {P:ah}{w:ai}{K:aa}{tg:Expr}(a it:ao):Turn P w K tg (Itl K a) [it] it (λi h=>h.IsListIter it a i) where
 mem:=by simp
 obj:=λi h st b hb=>by
  have e:b=it:=by simpa using hb
  subst e
  obtain⟨o,e,c,d⟩:=st
  exact⟨o,e,λv z=>by rw[d]at z;cases z⟩
 keep:=λi h h' st k=>st.at λo e=>k it (by simp) o e
 item:=by
  intro X hP hw hK hc i fJ s σ H E I hf st hg
  subst hP hw hK
  obtain⟨xs,x,hq,hx⟩:=hg
  obtain⟨gu,rv,p,hz⟩:=I.list hq
  obtain⟨u,hu,ru⟩:=rv.get hx
  obtain⟨f0,f1,f2,f3,f4,f5⟩:=hf it (by simp)
  refine wpAny_pyNext_list_item st p.isList (x:=u) (by simpa using hu) λh' UX sb=>?_
  have I1:Inv X fJ σ H {s with heap:=h'}:=I.turned (t':=s.toks) (λb o hb e=>(sb.2 b hb).trans e) f0 f1 f3 f4 f5
  obtain⟨o,e,c,d⟩:=id UX
  exact⟨u,rfl,QC (s:={s with heap:=h'}) e c d (by decide) ⟨x,H,I1,ru,⟨rfl,λys hy=>by rw[I.K1 hy hq];exact hx⟩,UX,λb hb=>(hf b hb).1⟩⟩
 done:=by
  intro X hP hw hK hc i fJ s σ H E I hf st hg
  subst hP hw hK
  obtain⟨xs,hq,hx⟩:=hg
  obtain⟨gu,rv,p,hz⟩:=I.list hq
  obtain⟨f0,f1,f2,f3,f4,f5⟩:=hf it (by simp)
  have hl:=rv.length
  exact wpAny_pyNext_list_end (I.ok.hd hc) st p.isList (by simp;lia) λh' eb=>⟨rfl,I.turned (t':=s.toks) (λb o hb e=>eb b o hb e) f0 f1 f3 f4 f5⟩
 self:=λ_ _ _ _ _ st h=>wpAny_pyIter_listiter st h
def Du {P:ah}{w:ai}{K:aa}{tg:Expr}(it:ao)(lo:Int)(n:Nat):Turn P w K tg (W4 lo n) [it] it (λi h=>IsRangeIter h it (lo+(i:Nat)*1) ((n:Int) - (i:Nat)) 1) where
 mem:=by simp
 obj:=λi h st b hb=>by
  have e:b=it:=by simpa using hb
  subst e
  exact⟨_,st,λv z=>by
   have z':Data.fields _=Data.cell v:=z
   cases z'⟩
 keep:=λi h h' st k=>k it (by simp) _ st
 item:=by
  intro X hP hw hK hc i fJ s σ H E I hf st hg
  subst hP hw hK
  obtain⟨f0,f1,f2,f3,f4,f5⟩:=hf it (by simp)
  have W:=Walks.range (prog:=X.prog) (w:=X.w) (I.ok.hd hc) it lo 1 n
  refine W.item i s _ _ hg st λv h' tk hv UX kk=>?_
  obtain⟨t,rfl⟩:=hv
  have I1:Inv X fJ σ H {s with heap:=h',toks:=tk}:=I.turned (λb o hb e=>kk b o (by simpa using hb) e) f0 f1 f3 f4 f5
  refine⟨_,rfl,QC (s:={s with heap:=h',toks:=tk}) (n:= "range_iterator") UX rfl rfl (by decide) ⟨.int (lo+i),H,I1,⟨t,?_⟩,⟨rfl,rfl⟩,UX,λb hb=>(hf b hb).1⟩⟩
  rw[Int.mul_one]
 done:=by
  intro X hP hw hK hc i fJ s σ H E I hf st hg
  subst hP hw hK
  obtain⟨f0,f1,f2,f3,f4,f5⟩:=hf it (by simp)
  exact wpAny_pyNext_range_end (I.ok.hd hc) st (by have:n<=i:=hg;lia) λh' eb=>⟨rfl,I.turned (t':=s.toks) (λb o hb e=>eb b o hb e) f0 f1 f3 f4 f5⟩
 self:=λ_ _ _ _ _ st h=>wpAny_pyIter_rangeiter st h
section
variable {X:Cx}{tg:Expr}
def VJ (K:aa)(tl:TE):TI:=λσ H R=>tl σ H λx H1=>∃ a,x=.ref a/\(∃ xs,qz K H1 a xs)/\R (Itl K a) H1
def NU {l:Expr}{tl:TE}(hl:PE X l tl):PI X tg l (VJ X.K tl):=by
 intro fJ s σ H R I h
 refine iN (hl fJ s σ H _ I h) λv s1 tY=>?_
 obtain⟨x,H1,I1,r1,q1⟩:=tY
 obtain⟨a,e,⟨xs,hq⟩,q⟩:=q1
 subst e
 cases r1
 obtain⟨gu,rv,p,hz⟩:=I1.list hq
 refine dj p.isList ?_
 refine⟨s1.heap.objs.size,[s1.heap.objs.size],_,_,H1,rfl,I1.iW (t':=s1.toks) λb o e=>j6 _ e,Hf a _,⟨_,aI _ rfl,rfl,rfl⟩,λb hb=>?_,q⟩
 have e:b=s1.heap.objs.size:=by simpa using hb
 subst e
 exact I1.Er (aw _) (I1.iF.fresh (aw _))
def BU {fJ:au (ao×Obj)}{σ:St}{H:Hp}{s:ak}{R:It->Hp->Prop}{E:ar->ak->Prop}{lo hi:Int}{t u v:Tok}{tk:Nat}(I:Inv X fJ σ H s)(h1:-(2 ^ 62)<=lo)(h2:lo<2 ^ 62)(h3:-(2 ^ 62)<=hi)(h4:hi<2 ^ 62)
 (q:R (W4 lo (hi - lo).toNat) H):wpAny (model X.prog X.w) X.A (pyIter (.ref s.heap.objs.size)) (PIE X fJ σ tg R) E {s with heap:=s.heap.push { cls:=.type "range",data:=.fields #[.int lo t,.int hi u,.int 1 v]},toks:=tk}:=by
 refine wpAny_pyIter_range (IsRange.new ..) (small_one h1 h2 h3 h4) ?_
 have I1:Inv X fJ σ H {s with heap:=s.heap.push { cls:=.type "range",data:=.fields #[.int lo t,.int hi u,.int 1 v]},toks:=tk}:=I.iW λb o e=>j6 _ e
 refine⟨(s.heap.push { cls:=.type "range",data:=.fields #[.int lo t,.int hi u,.int 1 v]}).objs.size,[(s.heap.push { cls:=.type "range",data:=.fields #[.int lo t,.int hi u,.int 1 v]}).objs.size],_,_,H,rfl,
  I1.iW (t':=tk) λb o e=>j6 _ e,Du _ lo (hi - lo).toNat,?_,λb hb=>?_,q⟩
 .have e1:lo+((0:Nat):Int)*1=lo:=by simp
  have e2:(((hi - lo).toNat:Nat):Int) - ((0:Nat):Int)=Builtin.Range.rangeSize lo hi 1:=by rw[rangeSize_one];split<;>lia
  show IsRangeIter _ _ (lo+((0:Nat):Int)*1) ((((hi - lo).toNat:Nat):Int) - ((0:Nat):Int)) 1
  rw[e1,e2]
  exact aI _ rfl
 .have e:b=(s.heap.push { cls:=.type "range",data:=.fields #[.int lo t,.int hi u,.int 1 v]}).objs.size:=by simpa using hb
  subst e
  exact I1.Er (aw _) (I1.iF.fresh (aw _))
def VI (ta:TA):TI:=λσ H R=>ta σ H λvs H1=>∃ j:Int,vs=[.int j] /\ -(2 ^ 62)<=j/\j<2 ^ 62/\R (W4 0 j.toNat) H1
def VH (ta:TA):TI:=λσ H R=>ta σ H λvs H1=>∃ i j:Int,vs=[.int i,.int j]/\(-(2 ^ 62)<=i/\i<2 ^ 62 /\ -(2 ^ 62)<=j/\j<2 ^ 62)/\R (W4 i (j - i).toNat) H1
def Hx {a:Expr}{ta:TA}{p pos:Pos}(hg:Gl X "range")(hm:X.mg "range"=none)(ha:PA X [a] ta)(hs:starEach [a] X.env=[(false,eval a X.env)]:=by rfl):PI X tg (.Call (.Name "range" p) [a] [] pos) (VI ta):=by
 intro fJ s σ H R I h
 refine Call_ (kW I hg hm boot_range (a6 (iN (ha pos fJ s σ H _ I h) λus s1 uE=>?_) hs rfl))
 obtain⟨vs,H1,I1,r1,q1⟩:=uE
 obtain⟨j,e,q1,q2,q⟩:=q1
 subst e
 cases r1 with
 | cons r rr =>
  cases rr
  obtain⟨t,rfl⟩:=r
  exact call_range_1 (BU I1 (by lia) (by lia) q1 q2 (by simpa using q))
def Hw {a b:Expr}{ta:TA}{p pos:Pos}(hg:Gl X "range")(hm:X.mg "range"=none)(ha:PA X [a,b] ta)(hs:starEach [a,b] X.env=[(false,eval a X.env),(false,eval b X.env)]:=by rfl)(sY:starEach [b] X.env=[(false,eval b X.env)]:=by rfl):
 PI X tg (.Call (.Name "range" p) [a,b] [] pos) (VH ta):=by
 intro fJ s σ H R I h
 refine Call_ (kW I hg hm boot_range (a6 (iN (ha pos fJ s σ H _ I h) λus s1 r6=>?_) (by rw[hs,sY]) (by rw[sY];rfl)))
 obtain⟨vs,H1,I1,r1,q1⟩:=r6
 obtain⟨i,j,e,⟨q1,q2,q3,q4⟩,q⟩:=q1
 subst e
 cases r1 with
 | cons r rr =>
  cases rr with
  | cons r' rr =>
   cases rr
   obtain⟨t,rfl⟩:=r
   obtain⟨t',rfl⟩:=r'
   exact call_range_2 (BU I1 q1 q2 q3 q4 q)
def Yk (wi:TI)(g:TG)(tb:TS):TS:=λD σ H=>wi σ H λJ H1=>∃ W:Nat->Nat->St->Hp->Prop,(∃ m,W 0 m σ H1)/\∀ i m σ H,W i m σ H ->
 (J.stop i H/\D.nx σ H)\/(J.go i H/\∃ N:St->Hp->Prop,(∀ jo H',N jo H'->∃ m',m'<m/\W (i+1) m' jo H')/\∀ x H',J.Jm i H x H'->g x σ H' λoz H2=>tb { D with nx:=N,ct:=N,bk:=D.nx} oz H2)
def uy (fp:au ao)(h:Heap):au (ao×Obj):=fp.filterMap λb=>(h.get? b).map λo=>(b,o)
def lY {fp:au ao}{h:Heap}{b:ao}{o:Obj}(hb:b∈fp)(e:h.get? b=some o):(b,o)∈uy fp h:=List.mem_filterMap.mpr ⟨b,hb,by rw[e];rfl⟩
def HG {fp:au ao}{h:Heap}{p:ao×Obj}(hp:p∈uy fp h):p.1∈fp/\h.get? p.1=some p.2:=by
 obtain⟨b,hb,e⟩:=List.mem_filterMap.mp hp
 cases q:h.get? b with
 |none=>rw[q]at e;cases e
 | some o =>
  rw[q]at e
  have e':(b,o)=p:=aK e
  subst e'
  exact⟨hb,q⟩
def Inv.pinned {fJ:au (ao×Obj)}{σ:St}{H:Hp}{s:ak}{fp:au ao}(I:Inv X fJ σ H s)(hf:∀ b∈fp,mU X fJ H b)(ho:∀ b∈fp,∃ o,s.heap.get? b=some o/\∀ v,o.data≠.cell v):Inv X (fJ++uy fp s.heap) σ H s :=
 I.sM λp hp=>(List.mem_append.mp hp).elim (λz=>I.pin p (aU _ z)) λz=>by
  obtain⟨hb,e⟩:=HG z
  obtain⟨f0,f1,f2,_⟩:=hf p.1 hb
  obtain⟨o,e',d⟩:=ho p.1 hb
  rw[e]at e';cases e'
  exact⟨e,f0,f1,f2,d⟩
def Inv.p4 {fJ pl:au (ao×Obj)}{σ:St}{H:Hp}{s:ak}(I:Inv X (fJ++pl) σ H s):Inv X fJ σ H s:=I.sM λp hp=>I.pin p (aU _ (dM _ hp))
def RE {iter:Expr}{body:au Stmt}{wi:TI}{g:TG}{tb:TS}{pos:Pos}(hp:PassesOwn (model X.prog X.w) X.A X.env X.xe)(hc:X.gY=true)(hi:PI X tg iter wi)(hg:PG X tg g)(hb:A5 X body tb)
 (hs:∀ x,foldedSetIterable iter X.env x=pure x:=by intro _;rfl):PS X (.For tg iter body [] pos) (Yk wi g tb):=by
 intro fJ s σ H D I h
 refine wpAny_For (iN (hi fJ s σ H _ I h) λv s1 h1=>iN h1 λVD s2 h2=>?_) hs
 obtain⟨it,fp,tn,J,H2,e,I2,T,PX,f2,W,⟨m0,w0⟩,turn⟩:=h2
 subst e
 have wG:∀ {H':Hp},(∀ b∈fp,H' b=none)->∀ b∈fp,mU X fJ H' b:=λhn b hb=>⟨hn b hb,(f2 b hb).2⟩
 refine codeAny_forLoop_any (λn s'=>∃ i jo H',Inv X fJ jo H' s'/\tn i s'.heap/\(∀ b∈fp,H' b=none)/\W i n jo H') ?_ m0 ⟨0,σ,H2,I2,PX,λb hb=>(f2 b hb).1,w0⟩
 rintro n s3 ⟨i,EX,H3,I3,MH,QE,w3⟩
 rcases turn i n EX H3 w3 with⟨stop,qn⟩|⟨go,N,hN,step⟩
 .refine dg hp (iN (T.done X rfl rfl rfl hc i fJ s3 EX H3 X.xe I3 (wG QE) MH stop) λr s4 q9=>?_)
  obtain⟨hr,I4⟩:=q9
  subst hr
  exact fG ⟨EX,H3,I4,qn⟩
 .refine dg hp (iN (T.item X rfl rfl rfl hc i fJ s3 EX H3 X.xe I3 (wG QE) MH go) λr s4 qo=>?_)
  obtain⟨u,hr,h4⟩:=qo
  subst hr
  refine dg hp (iN h4 λ_ s5 qm=>?_)
  obtain⟨x,H5,I5,r5,y5,JG,V5⟩:=qm
  have W7:=I5.pinned (wG V5) (T.obj _ _ JG)
  refine dg hp (iN (hg _ s5 EX H5 x u _ W7 r5 (step x H5 y5)) λ_ s6 rZ=>?_)
  obtain⟨ME,H6,I6,q6⟩:=rZ
  refine dg hp (iN (hb _ s6 ME H6 _ I6 q6) λf s7 q7=>?_)
  have again:∀ {Jc:St} {H7:Hp},Inv X (fJ++uy fp s5.heap) Jc H7 s7->N Jc H7->∃ m,m<n/\∃ i jo H',Inv X fJ jo H' s7/\tn i s7.heap/\(∀ b∈fp,H' b=none)/\W i m jo H':=λ{Jc H7} I7 n7=>by
   obtain⟨m',hm,w7⟩:=hN Jc H7 n7
   refine⟨m',hm,i+1,Jc,H7,I7.p4,T.keep _ _ _ JG λb hb o e=>(I7.pin (b,o) (aU _ (aU _ (lY hb e)))).1,λb hb=>?_,w7⟩
   obtain⟨o,e,d⟩:=T.obj _ _ JG b hb
   exact(I7.pin (b,o) (aU _ (aU _ (lY hb e)))).2.1
  cases f with
  |next=>obtain⟨Jc,H7,I7,n7⟩:=q7;exact again I7 n7
  |cont=>obtain⟨Jc,H7,I7,n7⟩:=q7;exact again I7 n7
  |brk=>obtain⟨Jc,H7,I7,q7⟩:=q7;exact⟨Jc,H7,I7.p4,q7⟩
  |ret v=>obtain⟨x7,Jc,H7,I7,r7,q7⟩:=q7;exact⟨x7,Jc,H7,I7.p4,r7,q7⟩
end
abbrev R2:=V->V->Hp->VK->Prop
def lC (X:Cx)(f:ar->ar->Sem ar)(r:R2):Prop :=
 ∀(fJ:au (ao×Obj)) (s:ak) (σ:St) (H:Hp) (x y:V) (v u:ar) (Q:VK),Inv X fJ σ H s->gH x v->gH y u->r x y H Q ->
  wpAny (model X.prog X.w) X.A (f v u) (EP X fJ σ Q) X.xe s
def UnR (X:Cx)(f:ar->Sem ar)(r:V->Hp->VK->Prop):Prop :=
 ∀(fJ:au (ao×Obj)) (s:ak) (σ:St) (H:Hp) (x:V) (v:ar) (Q:VK),Inv X fJ σ H s->gH x v->r x H Q ->
  wpAny (model X.prog X.w) X.A (f v) (EP X fJ σ Q) X.xe s
def jm (X:Cx)(f:ar)(r:au V->Hp->VK->Prop):Prop :=
 ∀(fJ:au (ao×Obj)) (s:ak) (σ:St) (H:Hp) (xs:au V) (us:au ar) (Q:VK),Inv X fJ σ H s->gD xs us->r xs H Q ->
  wpAny (model X.prog X.w) X.A (call f us) (EP X fJ σ Q) X.xe s
def UO (r:R2)(ta tb:TE):TE:=λσ H Q=>ta σ H λx H1=>tb σ H1 λy H2=>r x y H2 Q
def tUn (r:V->Hp->VK->Prop)(ta:TE):TE:=λσ H Q=>ta σ H λx H1=>r x H1 Q
def rI (C:Int->Int->Prop)(g:Int->Int->V):R2:=λx y H Q=>∃ i j,x=.int i/\y=.int j/\C i j/\Q (g i j) H
def NG (g:Int->Int->V):R2:=λx y H Q=>∃ i j,x=.int i/\y=.int j/\Q (g i j) H
def rU (g:Int->V):V->Hp->VK->Prop:=λx H Q=>∃ i,x=.int i/\Q (g i) H
section
variable {X:Cx}{a b c:Expr}{ta tb tc:TE}{pos:Pos}
def Pb (ha:PE X a ta)(hb:PE X b tb){fJ:au (ao×Obj)}{s:ak}{σ:St}{H:Hp}{R:V->V->Hp->Prop}(I:Inv X fJ σ H s)
 (h:ta σ H λx H1=>tb σ H1 λy H2=>R x y H2) {Q:ar->ak->Prop} {f:ar->ar->Sem ar}
 (hf:∀ v u s2 x y H2,Inv X fJ σ H2 s2->gH x v->gH y u->R x y H2->wpAny (model X.prog X.w) X.A (f v u) Q X.xe s2):
 wpAny (model X.prog X.w) X.A (eval a X.env) (λv s₁=>wpAny (model X.prog X.w) X.A (eval b X.env) (λu s₂=>wpAny (model X.prog X.w) X.A (f v u) Q X.xe s₂) X.xe s₁) X.xe s:=by
 refine iN (ha fJ s σ H _ I h) λv s1 tY=>?_
 obtain⟨x,H1,I1,r1,q1⟩:=tY
 refine iN (hb fJ s1 σ H1 _ I1 q1) λu s2 uE=>?_
 obtain⟨y,H2,I2,r2,q2⟩:=uE
 exact hf v u s2 x y H2 I2 r1 r2 q2
def lh {op:Operator}{r:R2}(ho:lC X (binaryOp op) r)(ha:PE X a ta)(hb:PE X b tb):PE X (.BinOp a op b pos) (UO r ta tb):=by
 intro fJ s σ H Q I h
 exact wpAny_BinOp (Pb ha hb I h λv u s2 x y H2 I2 rx ry q=>ho fJ s2 σ H2 x y v u Q I2 rx ry q)
def Vd {op:UnaryOp}{r:V->Hp->VK->Prop}(ho:UnR X (unaryOp op) r)(ha:PE X a ta):PE X (.UnaryOp op a pos) (tUn r ta):=by
 intro fJ s σ H Q I h
 exact UnaryOp_ (iN (ha fJ s σ H _ I h) λv s1 r6=>by obtain⟨x,H1,I1,r1,q1⟩:=r6;exact ho fJ s1 σ H1 x v Q I1 r1 q1)
def Uh {f:ar->ar->Sem ar}{C:Int->Int->Prop}{g:Int->Int->Int}
 (rule:∀(i j:Int) (t u:Tok) (s:ak) (Q:ar->ak->Prop) (E:ar->ak->Prop),C i j->Q (.int (g i j) s.toks) {s with toks:=s.toks+1}->wpAny (model X.prog X.w) X.A (f (.int i t) (.int j u)) Q E s):
 lC X f (rI C λi j=>.int (g i j)):=by
 intro fJ s σ H x y v u Q I rx ry h
 obtain⟨i,j,rfl,rfl,hc,q⟩:=h
 obtain⟨t,rfl⟩:=rx
 obtain⟨t',rfl⟩:=ry
 exact rule i j t t' s _ _ hc ⟨.int (g i j),H,I.tok _,⟨_,rfl⟩,q⟩
def Vn {f:ar->ar->Sem ar}{g:Int->Int->Int}
 (rule:∀(i j:Int) (t u:Tok) (s:ak) (Q:ar->ak->Prop) (E:ar->ak->Prop),Q (.int (g i j) s.toks) {s with toks:=s.toks+1}->wpAny (model X.prog X.w) X.A (f (.int i t) (.int j u)) Q E s):
 lC X f (NG λi j=>.int (g i j)):=by
 intro fJ s σ H x y v u Q I rx ry h
 obtain⟨i,j,rfl,rfl,q⟩:=h
 obtain⟨t,rfl⟩:=rx
 obtain⟨t',rfl⟩:=ry
 exact rule i j t t' s _ _ ⟨.int (g i j),H,I.tok _,⟨_,rfl⟩,q⟩
def N5 {f:ar->ar->Sem ar}{g:Int->Int->Bool}
 (rule:∀(i j:Int) (t u:Tok) (s:ak) (Q:ar->ak->Prop) (E:ar->ak->Prop),Q (.bool (g i j)) s->wpAny (model X.prog X.w) X.A (f (.int i t) (.int j u)) Q E s):
 lC X f (NG λi j=>.bl (g i j)):=by
 intro fJ s σ H x y v u Q I rx ry h
 obtain⟨i,j,rfl,rfl,q⟩:=h
 obtain⟨t,rfl⟩:=rx
 obtain⟨t',rfl⟩:=ry
 exact rule i j t t' s _ _ ⟨.bl (g i j),H,I,rfl,q⟩
def Xg (i j:Int):Prop:=0<j/\j<1073741824
def Xf (i j:Int):Prop:=0<=j/\j<=1000000/\i.natAbs<2 ^ 64
def IL (i j:Int):Prop:=(-(2 ^ 64)<i/\i<2 ^ 64)\/(-(2 ^ 64)<j/\j<2 ^ 64)
def IL.ok {i j:Int}(h:IL i j):IntMulOk i j:=by
 rcases h with⟨h1,h2⟩|⟨h1,h2⟩
 .exact .of_left (intBits_le_64 h1 h2)
 .exact .of_right (intBits_le_64 h1 h2)
def R0:lC X (binaryOp .Add) (NG λi j=>.int (i+j)):=Vn λ_ _ _ _ _ _ _ q=>add_int q
def RV:lC X (binaryOp .Sub) (NG λi j=>.int (i - j)):=Vn λ_ _ _ _ _ _ _ q=>sub_int q
def RX:lC X (binaryOp .Mult) (rI IL λi j=>.int (i*j)):=Uh λ_ _ _ _ _ _ _ hc q=>mul_int q hc.ok
def N4:lC X (binaryOp .FloorDiv) (rI Xg λi j=>.int (i / j)):=Uh λi j _ _ _ _ _ hc q=>by
 have h1:(0:Int)<j:=hc.1
 have h2:j<1073741824:=hc.2
 exact floordiv_int (by lia) (by rw[Int.fdiv_eq_ediv_of_nonneg i (by lia)];exact q) (.inl (PyProof.noPylong_small (by lia)))
def RY:lC X (binaryOp .Mod) (rI (λ_ j=>0<j) λi j=>.int (i%j)):=Uh λi j _ _ _ _ _ hc q=>by
 have h1:(0:Int)<j:=hc
 exact mod_int' (by lia) (by rw[Int.fmod_eq_emod_of_nonneg i (by lia)];exact q)
def RW:lC X (binaryOp .Pow) (rI Xf λi j=>.int (i ^ j.toNat)):=Uh λ_ _ _ _ _ _ _ hc q=>pow_int_small hc.1 hc.2.1 hc.2.2 q
def unI {f:ar->Sem ar}{g:Int->Int}
 (rule:∀(i:Int) (t:Tok) (s:ak) (Q:ar->ak->Prop) (E:ar->ak->Prop),Q (.int (g i) s.toks) {s with toks:=s.toks+1}->wpAny (model X.prog X.w) X.A (f (.int i t)) Q E s):
 UnR X f (rU λi=>.int (g i)):=by
 intro fJ s σ H x v Q I rx h
 obtain⟨i,rfl,q⟩:=h
 obtain⟨t,rfl⟩:=rx
 exact rule i t s _ _ ⟨.int (g i),H,I.tok _,⟨_,rfl⟩,q⟩
def Q7:UnR X (unaryOp .USub) (rU λi=>.int (-i)):=unI λ_ _ _ _ _ q=>neg_int q
end
def U2:V->V->Bool
 |.ic,.ic=>true|.ic,.int _=>true|.int _,.ic=>true|.ic,.bl _=>true|.bl _,.ic=>true|.ic,.str _=>true|.str _,.ic=>true
 |.int _,.int _=>true|.bl _,.bl _=>true|.str _,.str _=>true|.Iy _,.Iy _=>true
 |.int _,.str _=>true|.str _,.int _=>true|.bl _,.str _=>true|.str _,.bl _=>true
 |_,_=>false
def rEq:R2:=λx y H Q=>U2 x y=true/\Q (.bl (decide (x=y))) H
def rNe:R2:=λx y H Q=>U2 x y=true/\Q (.bl (!decide (x=y))) H
def GD {i j:Int}:decide (V.int i=V.int j)=(i==j):=by
 rw[dz]
 simp
def LZ {i j:Bool}:decide (V.bl i=V.bl j)=(i==j):=by
 rw[dz]
 simp
def GC {i j:Str}:decide (V.str i=V.str j)=(i==j):=by
 rw[dz]
 simp
def GF {i j:Array UInt8}:decide (V.Iy i=V.Iy j)=(i.toList==j.toList):=by
 rw[dz]
 cases i
 cases j
 simp
section
variable {X:Cx}{a b c:Expr}{ta tb tc:TE}{pos:Pos}
def iA {fJ:au (ao×Obj)}{σ:St}{H:Hp}{s:ak}{Q:VK}{k k':Bool}(I:Inv X fJ σ H s)(q:Q (.bl k) H)(e:k=k'):EP X fJ σ Q (.bool k') s:=by
 subst e
 exact⟨.bl k,H,I,rfl,q⟩
def Qm:lC X (compareOp .Eq) rEq:=by
 intro fJ s σ H x y v u Q I rx ry h
 obtain⟨hs,q⟩:=h
 cases x with
 | ic =>
  cases rx
  cases y with
  |ic=>cases ry;exact PySem.EqNone.eq_none_none (iA I q (by simp))
  |bl j=>cases ry;exact PySem.EqNone.eq_none_bool (iA I q (by simp))
  |int j=>obtain⟨t',rfl⟩:=ry;exact PySem.EqNone.eq_none_int (iA I q (by simp))
  |str j=>obtain⟨t',rfl⟩:=ry;exact PySem.EqNone.eq_none_str (iA I q (by simp))
  |_=>exact absurd (show false=true from hs) aN
 | bl i =>
  cases rx
  cases y with
  |ic=>cases ry;exact PySem.EqNone.eq_bool_none (iA I q (by simp))
  |bl j=>cases ry;exact eq_bool (iA I q LZ)
  |str j=>obtain⟨t',rfl⟩:=ry;exact PySem.EqMixed.eq_bool_str (iA I q (by simp))
  |_=>exact absurd (show false=true from hs) aN
 | int i =>
  obtain⟨t,rfl⟩:=rx
  cases y with
  |ic=>cases ry;exact PySem.EqNone.eq_int_none (iA I q (by simp))
  |int j=>obtain⟨t',rfl⟩:=ry;exact eq_int (iA I q GD)
  |str j=>obtain⟨t',rfl⟩:=ry;exact PySem.EqMixed.eq_int_str (iA I q (by simp))
  |_=>exact absurd (show false=true from hs) aN
 | str i =>
  obtain⟨t,rfl⟩:=rx
  cases y with
  |ic=>cases ry;exact PySem.EqNone.eq_str_none (iA I q (by simp))
  |bl j=>cases ry;exact PySem.EqMixed.eq_str_bool (iA I q (by simp))
  |int j=>obtain⟨t',rfl⟩:=ry;exact PySem.EqMixed.eq_str_int (iA I q (by simp))
  |str j=>obtain⟨t',rfl⟩:=ry;exact eq_str (iA I q GC)
  |_=>exact absurd (show false=true from hs) aN
 | Iy i =>
  obtain⟨t,rfl⟩:=rx
  cases y with
  |Iy j=>obtain⟨t',rfl⟩:=ry;exact W.eq_bytes (iA I q GF)
  |_=>exact absurd (show false=true from hs) aN
 |_=>cases y<;>exact absurd (show false=true from hs) aN
def Vi:lC X (compareOp .NotEq) rNe:=by
 intro fJ s σ H x y v u Q I rx ry h
 obtain⟨hs,q⟩:=h
 cases x with
 | ic =>
  cases rx
  cases y with
  |ic=>cases ry;exact PySem.EqNone.ne_none_none (iA I q (by simp))
  |bl j=>cases ry;exact PySem.EqNone.ne_none_bool (iA I q (by simp))
  |int j=>obtain⟨t',rfl⟩:=ry;exact PySem.EqNone.ne_none_int (iA I q (by simp))
  |str j=>obtain⟨t',rfl⟩:=ry;exact PySem.EqNone.ne_none_str (iA I q (by simp))
  |_=>exact absurd (show false=true from hs) aN
 | bl i =>
  cases rx
  cases y with
  |ic=>cases ry;exact PySem.EqNone.ne_bool_none (iA I q (by simp))
  |bl j=>cases ry;exact ne_bool (iA I q (cH not LZ))
  |str j=>obtain⟨t',rfl⟩:=ry;exact PySem.EqMixed.ne_bool_str (iA I q (by simp))
  |_=>exact absurd (show false=true from hs) aN
 | int i =>
  obtain⟨t,rfl⟩:=rx
  cases y with
  |ic=>cases ry;exact PySem.EqNone.ne_int_none (iA I q (by simp))
  |int j=>obtain⟨t',rfl⟩:=ry;exact ne_int (iA I q (cH not GD))
  |str j=>obtain⟨t',rfl⟩:=ry;exact PySem.EqMixed.ne_int_str (iA I q (by simp))
  |_=>exact absurd (show false=true from hs) aN
 | str i =>
  obtain⟨t,rfl⟩:=rx
  cases y with
  |ic=>cases ry;exact PySem.EqNone.ne_str_none (iA I q (by simp))
  |bl j=>cases ry;exact PySem.EqMixed.ne_str_bool (iA I q (by simp))
  |int j=>obtain⟨t',rfl⟩:=ry;exact PySem.EqMixed.ne_str_int (iA I q (by simp))
  |str j=>obtain⟨t',rfl⟩:=ry;exact ne_str (iA I q (cH not GC))
  |_=>exact absurd (show false=true from hs) aN
 | Iy i =>
  obtain⟨t,rfl⟩:=rx
  cases y with
  |Iy j=>obtain⟨t',rfl⟩:=ry;exact W.ne_bytes (iA I q (cH not GF))
  |_=>exact absurd (show false=true from hs) aN
 |_=>cases y<;>exact absurd (show false=true from hs) aN
def Vj:lC X (compareOp .Lt) (NG λi j=>.bl (decide (i<j))):=N5 λ_ _ _ _ _ _ _ q=>lt_int q
def Vk:lC X (compareOp .LtE) (NG λi j=>.bl (decide (i<=j))):=N5 λ_ _ _ _ _ _ _ q=>le_int q
def Vl:lC X (compareOp .Gt) (NG λi j=>.bl (decide (j<i))):=N5 λ_ _ _ _ _ _ _ q=>gt_int q
def Vm:lC X (compareOp .GtE) (NG λi j=>.bl (decide (j<=i))):=N5 λ_ _ _ _ _ _ _ q=>ge_int q
def Hz:lC X (compareOp .In) (λx y H Q=>∃ i j,x=.str i/\y=.str j/\Q (.bl (!(Builtin.Str.occurrences j i 0 j.length 1).isEmpty)) H):=by
 intro fJ s σ H x y v u Q I rx ry h
 obtain⟨i,j,rfl,rfl,q⟩:=h
 obtain⟨t,rfl⟩:=rx
 obtain⟨t',rfl⟩:=ry
 exact in_str (iA I q rfl)
def lC.or {f:ar->ar->Sem ar}{r r':R2}(h:lC X f r)(h':lC X f r'):lC X f (λx y H Q=>r x y H Q\/r' x y H Q):=by
 intro fJ s σ H x y v u Q I rx ry q
 rcases q with q|q
 .exact h fJ s σ H x y v u Q I rx ry q
 .exact h' fJ s σ H x y v u Q I rx ry q
def iQ (b:Expr){op:CmpOp}(h:op≠.In:=by decide)(h2:op≠.NotIn:=by decide):behindInMarks op b=false:=by
 have e1:(op==CmpOp.In)=false:=by cases op<;>first|rfl|exact absurd rfl h
 have e2:(op==CmpOp.NotIn)=false:=by cases op<;>first|rfl|exact absurd rfl h2
 cases b<;>simp[behindInMarks,e1,e2]
def sN {op:CmpOp}{r:R2}(ho:lC X (compareOp op) r)(ha:PE X a ta)(hb:PE X b tb)(hm:behindInMarks op b=false):PE X (.Compare a [op] [b] pos) (UO r ta tb):=by
 intro fJ s σ H Q I h
 exact wpAny_Compare1 (Pb ha hb I h λv u s2 x y H2 I2 rx ry q=>ho fJ s2 σ H2 x y v u Q I2 rx ry q) hm
def qj:(sizeLine:Nat)<2 ^ 63:=by rw[sizeLine_eq];decide
def DZ:lC X (binaryOp .Add) (λx y H Q=>∃ i j,x=.str i/\y=.str j/\i.length+j.length<=sizeLine/\Q (.str (i++j)) H):=by
 intro fJ s σ H x y v u Q I rx ry h
 obtain⟨i,j,rfl,rfl,hz,q⟩:=h
 obtain⟨t,rfl⟩:=rx
 obtain⟨t',rfl⟩:=ry
 exact add_str (λt' tk=>⟨.str (i++j),H,I.tok _,⟨_,rfl⟩,q⟩) hz
def vals1 {x:V}{us:au ar}(r:gD [x] us):∃ u,us=[u]/\gH x u:=by
 cases r with
 |cons r1 r2=>cases r2;exact⟨_,rfl,r1⟩
def vals2 {x y:V}{us:au ar}(r:gD [x,y] us):∃ u w',us=[u,w']/\gH x u/\gH y w':=by
 cases r with
 | cons r1 r2 =>
  cases r2 with
  |cons r3 r4=>cases r4;exact⟨_,_,rfl,r1,r3⟩
def Iv (hc:X.gY=true):jm X (.builtin "max") (λxs H Q=>∃ i j,xs=[.int i,.int j]/\Q (.int (if j>i then j else i)) H):=by
 intro fJ s σ H xs us Q I r h
 obtain⟨i,j,rfl,q⟩:=h
 obtain⟨u,w',rfl,⟨t,rfl⟩,⟨t',rfl⟩⟩:=vals2 r
 refine max_two_ints (I.ok.hd hc) λh' tk k=>⟨_,H,I.iW k,?_,q⟩
 by_cases hj:j>i
 .rw[aF hj,aF hj];exact⟨_,rfl⟩
 .rw[aG hj,aG hj];exact⟨_,rfl⟩
def Iu (hc:X.gY=true):jm X (.builtin "min") (λxs H Q=>∃ i j,xs=[.int i,.int j]/\Q (.int (if j<i then j else i)) H):=by
 intro fJ s σ H xs us Q I r h
 obtain⟨i,j,rfl,q⟩:=h
 obtain⟨u,w',rfl,⟨t,rfl⟩,⟨t',rfl⟩⟩:=vals2 r
 refine min_two_ints (I.ok.hd hc) λh' tk k=>⟨_,H,I.iW k,?_,q⟩
 by_cases hj:j<i
 .rw[aF hj,aF hj];exact⟨_,rfl⟩
 .rw[aG hj,aG hj];exact⟨_,rfl⟩
def Iw:jm X (.type "int") (λxs H Q=>(∃ i,xs=[.int i]/\Q (.int i) H)\/∃ k,xs=[.bl k]/\Q (.int (if k then 1 else 0)) H):=by
 intro fJ s σ H xs us Q I r h
 rcases h with⟨i,rfl,q⟩|⟨k,rfl,q⟩
 .obtain⟨u,rfl,t,rfl⟩:=vals1 r
  exact call_int_int ⟨.int i,H,I,⟨_,rfl⟩,q⟩
 .obtain⟨u,rfl,r1⟩:=vals1 r
  cases r1
  exact call_int_bool ⟨.int (if k then 1 else 0),H,I.tok _,⟨_,rfl⟩,q⟩
end
structure EL (h:Heap)(x dx C:ao)(mA:Str->Option ar):Prop where
 obj:h.get? x=some (W.instObj C dx)
 ns:h.Ns1 dx mA
 ne:dx≠x
def HL {h:Heap}{dx:ao}{mA:Str->av ar}(n:h.Ns1 dx mA):∃ od,h.get? dx=some od/\∀ name,W.lookIn name od=some (mA name):=by
 obtain⟨o,es,ep,ho,hd,hk,_,hm⟩:=n
 refine⟨o,ho,λname=>?_⟩
 have e:=hm name
 unfold nsFind findBy at e
 rw[<- Array.find?_toList]at e
 unfold W.lookIn
 rw[hd]
 dsimp only
 split
 .rename_i y q
  rw[q]at e
  exact cH some e
 .rename_i q
  rw[q]at e
  have a:es.toList.any (·.refKey)=false:=by
   rw[fc]
   intro y hy
   obtain⟨z,t,Zs⟩:=hk y (Array.mem_toList_iff.mp hy)
   simp[DictEntry.refKey,Zs]
  have a':¬ es.toList.any (·.refKey)=true:=by rw[a];exact aN
  rw[aG a']
  exact cH some e
def EL.look {h:Heap}{x dx C:ao}{mA:Str->av ar}(I:EL h x dx C mA):∃ od,W.InstAt h x (W.instObj C dx) C (some od)/\∀ name,W.lookIn name od=some (mA name) :=
 let ⟨od,ho,hl⟩:=HL I.ns
 ⟨od,⟨I.obj,rfl,rfl,ho⟩,hl⟩
section
variable {prog:ah}{w:ai}{A:Around}{E:ar->ak->Prop}{s:ak}{K:aa}{x dx C f:ao}{mA:Str->av ar}{name:Str}{v:ar}
def get_map {expr:Bool}{Q:ar->ak->Prop}(X:K.In s.heap)(I:EL s.heap x dx C mA)(hg:W.plainGet K C name=true)(hh:W.hasDictIn K C=true)
 (ha:W.findIn K (.ref C) name=some none) (hv:mA name=some v) (Dl:W.handedIn v=true) (h:Q v {s with toks:=s.toks+1}):
 wpAny (model prog w) A (getAttr (.ref x) name expr) Q E s:=by
 obtain⟨od,J,hl⟩:=I.look
 exact W.get_value X J (W.plainGet_of hg).1 (W.findObj_own hh ha rfl (by rw[hl,hv])) Dl h
def Lr {pl:Sem Bool}{Q:ar×au ar->ak->Prop}(X:K.In s.heap)(I:EL s.heap x dx C mA)(hg:W.plainGet K C name=true)
 (hf:W.findIn K (.ref C) name=some (some (.ref f))) (ht:W.isFn K (.ref f)=true) (hv:mA name=none) (h:Q (.ref f,[.ref x]) s):
 wpAny (model prog w) A (getMethod (.ref x) name pl) Q E s:=by
 obtain⟨od,J,hl⟩:=I.look
 exact W.method_fn X J (W.plainGet_of hg).1 (W.plainGet_of hg).2 hf (beq_iff_eq.mp ht) (by show(W.lookIn name od).map (·.isSome)=some false;rw[hl,hv];rfl) h
def Nz {ns:au Str}{Q:Unit->ak->Prop}(X:K.In s.heap)(I:EL s.heap x dx C mA)
 (hs:W.findIn K (.ref C) "__setattr__"=some (some (.builtin "object.__setattr__"))) (hp:W.plainOver K C=true) (ht:W.takerIn K C name=some none) (hh:W.hasDictIn K C=true)
 (hw:PySem.Within mA ns) (hsz:ns.length<=sizeLine)
 (h:∀ h',EL h' x dx C (λy=>if y=name then some v else mA y)->Heap.SameBut dx s.heap h'->Q () {s with heap:=h',toks:=s.toks+2}):
 wpAny (model prog w) A (setAttr (.ref x) name v) Q E s:=by
 obtain⟨od,J,hl⟩:=I.look
 refine W.set_plain X J hs (W.osa_open (s:={s with toks:=s.toks+1}) (r:=none) X J hp ht λb=>?_)
 obtain⟨cd,hc,IU⟩:=W.any_some hh
 have hx:s.heap.get? x=some ⟨.ref C,some dx,.plain,#[]⟩:=I.obj
 refine f9 (aA (f9 (f9 (wpAny_loadPart hx (f9 (W.Looks.here (s:={s with toks:=s.toks+1}) (W.looks_clsIn X hc) ?_))))))
 rw[IU]
 refine aA (a:=some dx) (f9 (aA (f9 ?_)))
 refine wpAny_nsSet1 (s:={s with toks:=s.toks+1}) I.ns λh' IS sY=>?_
 obtain⟨oD,esD,epD,hoD,hdD,hcD⟩:=IS.count (PySem.Within.cons name v hw)
 refine f9 (wpAny_lookBehind hoD (by rw[hdD];exact pastItsLine_dict (aV hcD (by rw[a9];lia))) ?_)
 exact aA (h _ ⟨(sY.2 _ (bD I.ne)).trans I.obj,IS,I.ne⟩ sY)
def KY {R:Result->ak->Prop}{vs:au ar}{kw:au (Str×ar)}(X:K.In s.heap)(hm:W.makesIn K C=true)
 (hi:W.findIn K (.ref C) "__init__"=some (some (.ref f))) (hf:W.typeIn K (.ref f)=some (.type "function"))
 (h:codeAny (model prog w) (A.under (.builtin "type.__call__" ⟨.ref C::vs,kw⟩)) (.call (.ref f) ⟨.ref (s.heap.objs.size+1)::vs,kw⟩) (W.InitBack (s.heap.objs.size+1) R)
   {s with heap:=(s.heap.push W.emptyDict).push (W.instObj C s.heap.objs.size)}):
 codeAny (model prog w) A (.call (.ref C) ⟨vs,kw⟩) R s:=by
 obtain⟨hh,g,d,t,os⟩:=s
 exact W.make_core (W.makes_of X hm) (W.looks_findIn X hi) (λself=>W.bind_fn X self hf) (.inl rfl) h
end
def oF (f:Str)(v:V):au (Str×V)->au (Str×V)
 |[]=>[(f,v)]
 |(g,x)::r=>if g=f then(g,v)::r else(g,x)::oF f v r
def uZ (f g:Str)(v:V):∀ fs:au (Str×V),(oF f v fs).lookup g=if g=f then some v else fs.lookup g
 | []=>by
  show List.lookup g [(f,v)]=_
  by_cases h:g=f
  .have hb:(g==f)=true:=beq_iff_eq.mpr h
   simp only[List.lookup,hb,aF h]
  .have hb:(g==f)=false:=beq_eq_false_iff_ne.mpr h
   simp only[List.lookup,hb,aG h]
 | (k,x)::r=>by
  have ih:=uZ f g v r
  rw[show oF f v ((k,x)::r)=(if k=f then(k,v)::r else(k,x)::oF f v r)from rfl]
  by_cases hk:k=f
  .rw[aF hk]
   by_cases h:g=k
   .have hb:(g==k)=true:=beq_iff_eq.mpr h
    simp only[List.lookup,hb,aF (h.trans hk)]
   .have hb:(g==k)=false:=beq_eq_false_iff_ne.mpr h
    simp only[List.lookup,hb,aG (λe:g=f=>h (e.trans hk.symm))]
  .rw[aG hk]
   by_cases h:g=k
   .have hb:(g==k)=true:=beq_iff_eq.mpr h
    simp only[List.lookup,hb,aG (λe:g=f=>hk (h.symm.trans e))]
   .have hb:(g==k)=false:=beq_eq_false_iff_ne.mpr h
    simp only[List.lookup,hb]
    exact ih
def uC (f:Str)(v:V):∀ fs:au (Str×V),f∈(oF f v fs).map (·.1)/\∀ g,g∈fs.map (·.1)->g∈(oF f v fs).map (·.1)
 |[]=>⟨by simp[oF],λg h=>by simp at h⟩
 | (k,x)::r=>by
  obtain⟨i1,i2⟩:=uC f v r
  rw[show oF f v ((k,x)::r)=(if k=f then(k,v)::r else(k,x)::oF f v r)from rfl]
  by_cases hk:k=f
  .rw[aF hk]
   subst hk
   exact⟨by simp,λg h=>by simpa using h⟩
  .rw[aG hk]
   refine⟨?_,λg h=>?_⟩
   .rw[aB]
    exact nE _ i1
   .rw[aB]at h ⊢
    rcases List.mem_cons.mp h with e|e
    .exact List.mem_cons.mpr (.inl e)
    .exact nE _ (i2 g e)
def u4 (f:Str)(v:V):∀ fs:au (Str×V),(oF f v fs).length<=fs.length+1
 |[]=>by simp[oF]
 | (k,x)::r=>by
  have ih:=u4 f v r
  rw[show oF f v ((k,x)::r)=(if k=f then(k,v)::r else(k,x)::oF f v r)from rfl]
  by_cases hk:k=f
  .rw[aF hk,a9,a9];lia
  .rw[aG hk,a9,a9];lia
def rq.some_of {v:V}{o:av ar}(r:rq (some v) o):∃ u,o=some u/\gH v u:=by
 cases o with
 |none=>exact(show False from r).elim
 |some u=>exact⟨u,rfl,r⟩
def rq.none_of {o:av ar}(r:rq none o):o=none:=by
 cases o with
 |none=>rfl
 |some u=>exact(show False from r).elim
def Ii {v:V}{u:ar}(r:gH v u):W.handedIn u=true:=by
 cases v with
 |ic=>cases(show u=Value.none from r);rfl
 |bl b=>cases(show u=Value.bool b from r);rfl
 |int i=>obtain⟨t,e⟩:=(show ∃ t,u=Value.int i t from r);cases e;rfl
 |str x=>obtain⟨t,e⟩:=(show ∃ t,u=Value.str x t from r);cases e;rfl
 |Iy b=>obtain⟨t,e⟩:=(show ∃ t,u=Value.bytes b t from r);cases e;rfl
 |QG b=>obtain⟨t,e⟩:=(show ∃ t,u=Value.float b t from r);cases e;rfl
 |ref a=>cases(show u=Value.ref a from r);rfl
 |ty n=>cases(show u=Value.type n from r);rfl
section
variable {P:ah}{w:ai}{H H':Hp}{h h':Heap}{a C dx:ao}{fs fs':au (Str×V)}
def vO (iF:pQ P w H h)(e:H a=some (.ins C dx fs)):∃ mA,EL h a dx C mA/\(∀ f,rq (fs.lookup f) (mA f))/\PySem.Within mA (fs.map (·.1))/\fs.length<=1000/\H dx=some (.own a):=by
 obtain⟨d,z,ne,ob,mA,n,r,q⟩:=(show jx P w H h a (.ins C dx fs)from iF a _ e)
 exact⟨mA,⟨ob,n,ne⟩,r,q,z,d⟩
end
structure G7 (K:aa)(C:ao):Prop where
 pg:W.plainGet K C Str.empty=true
 hd:W.hasDictIn K C=true
 po:W.plainOver K C=true
 sa:W.findIn K (.ref C) "__setattr__"=some (some (.builtin "object.__setattr__"))
def G7.get {K:aa}{C:ao}(c:G7 K C)(f:Str):W.plainGet K C f=true:=c.pg
def qA (K:aa)(C:ao)(f:Str):Prop:=W.findIn K (.ref C) f=some none
def qA.UM {K:aa}{C:ao}{f:Str}(n:qA K C f):W.takerIn K C f=some none:=by
 unfold W.takerIn
 rw[show W.findIn K (.ref C) f=some none from n]
 rfl
structure Meth (K:aa)(C:ao)(m:Str)(f:ao):Prop where
 at_:W.findIn K (.ref C) m=some (some (.ref f))
 fn:W.isFn K (.ref f)=true
 kp:W.keepIn K (.ref f)=true
section
variable {X:Cx}{fJ:au (ao×Obj)}{σ:St}{H:Hp}{s:ak}{a C dx:ao}{fs:au (Str×V)}{f:Str}{v:V}{A:Around}{E:ar->ak->Prop}
def Ep {b:Bool}{Q:ar->ak->Prop}(I:Inv X fJ σ H s)(e:H a=some (.ins C dx fs))(c:G7 X.K C)(n:qA X.K C f)(l:fs.lookup f=some v)
 (h:∀ u s',Inv X fJ σ H s'->gH v u->Q u s'):wpAny (model X.prog X.w) A (getAttr (.ref a) f b) Q E s:=by
 obtain⟨mA,O,r,_,_,_⟩:=vO I.iF e
 obtain⟨u,hu,ru⟩:=rq.some_of (v:=v) (o:=mA f) (by rw[<- l];exact r f)
 exact get_map I.vN O (c.get f) c.hd n hu (Ii ru) (h u _ (I.tok _) ru)
def xl {m:Str}{g:ao}{pl:Sem Bool}{Q:ar×au ar->ak->Prop}(I:Inv X fJ σ H s)(e:H a=some (.ins C dx fs))(c:G7 X.K C)(k:Meth X.K C m g)(l:fs.lookup m=none)
 (h:Q (.ref g,[.ref a]) s):wpAny (model X.prog X.w) A (getMethod (.ref a) m pl) Q E s:=by
 obtain⟨mA,O,r,_,_,_⟩:=vO I.iF e
 have hn:mA m=none:=rq.none_of (by rw[<- l];exact r m)
 exact Lr I.vN O (c.get m) k.at_ k.fn hn h
def DD {y:V}{u:ar}{Q:Unit->ak->Prop}(I:Inv X fJ σ H s)(e:H a=some (.ins C dx fs))(c:G7 X.K C)(n:qA X.K C f)(hl:fs.length<1000)(ry:gH y u)
 (h:∀ s',Inv X fJ σ (upd H a (.ins C dx (oF f y fs))) s'->Q () s'):wpAny (model X.prog X.w) A (setAttr (.ref a) f u) Q E s:=by
 obtain⟨mA,O,r,wi,_,ho⟩:=vO I.iF e
 have hz:(fs.map (·.1)).length<=sizeLine:=by rw[ia,sizeLine_eq];lia
 refine Nz I.vN O c.sa c.po n.UM c.hd wi hz λh' O' sb=>h _ ?_
 have hd:∃ o,h'.get? dx=some o:=let ⟨o,_,_,e',_⟩:=O'.ns;⟨o,e'⟩
 refine I.write (x:=a) (e:=dx) (by rw[e];exact True.intro) (.inr ho) (λb q hb z=>(sb.2 b hb).trans z) hd ?_
 refine⟨by rw[gB O.ne];exact ho,?_,O.ne,O'.obj,_,O'.ns,λg=>?_,λg hg=>?_⟩
 .have:=u4 f y fs;lia
 .show rq ((oF f y fs).lookup g) (if g=f then some u else mA g)
  rw[uZ]
  by_cases q:g=f
  .rw[aF q,aF q];exact ry
  .rw[aG q,aG q];exact r g
 .by_cases q:g=f
  .rw[q];exact(uC f y fs).1
  .refine(uC f y fs).2 g (wi g λz=>hg ?_)
   show(if g=f then some u else mA g)=none
   rw[aG q];exact z
def Inv.made (I:Inv X fJ σ H s):Inv X fJ σ (upd (upd H s.heap.objs.size (.own (s.heap.objs.size+1))) (s.heap.objs.size+1) (.ins C s.heap.objs.size []))
 {s with heap:=(s.heap.push W.emptyDict).push (W.instObj C s.heap.objs.size)}:=by
 have e1:(s.heap.push W.emptyDict).get? s.heap.objs.size=some W.emptyDict:=aI s.heap rfl
 have e2:((s.heap.push W.emptyDict).push (W.instObj C s.heap.objs.size)).get? (s.heap.objs.size+1)=some (W.instObj C s.heap.objs.size):=by
  have:=aI (s.heap.push W.emptyDict) (o:=W.instObj C s.heap.objs.size) rfl
  rwa [bu]at this
 have e3:(s.heap.push W.emptyDict).Ns s.heap.objs.size (λ_=>none):=⟨W.emptyDict,#[],_,e1,rfl,(λe he=>absurd he (by simp)),λ_=>rfl⟩
 have I1:=I.laid (a:=s.heap.objs.size) (o:=.own (s.heap.objs.size+1)) (h':=s.heap.push W.emptyDict) (t':=s.toks) (λb u q=>j6 _ q) (aw _) ⟨_,e1⟩
 refine I1.laid (a:=s.heap.objs.size+1) (o:=.ins C s.heap.objs.size []) (t':=s.toks) (λb u q=>j6 _ q) (Nat.le_of_eq (bu _ _)) ?_
 have ne:s.heap.objs.size≠s.heap.objs.size+1:=aE (bF _)
 refine⟨by rw[gB ne,gp],bh _,ne,e2,λ_=>none,(Heap.Ns1.of_empty e3).at λo q=>j6 _ q,λ_=>True.intro,λy hy=>absurd rfl hy⟩
def Pc {prog:ah}{w:ai}{env:Env}{e:Expr}{f:Str}{pos:Pos}{s:ak}{Q:ar->ak->Prop}(hb:attributeBase e f env (eval e env)=eval e env)
 (h:wpAny (model prog w) A (eval e env) (λo s₁=>wpAny (model prog w) A (getAttr o f true) Q E s₁) E s):wpAny (model prog w) A (eval (.Attribute e f pos) env) Q E s:=
 Attribute_any_ h (by rw[arm_eval_Attribute,hb])
end
def Yl (K:aa)(ta:TE)(f:Str):TE:=λσ H Q=>ta σ H λx H1=>∃ a C dx fs v,x=.ref a/\H1 a=some (.ins C dx fs)/\G7 K C/\qA K C f/\fs.lookup f=some v/\Q v H1
def Yz (K:aa)(ta tv:TE)(f:Str):TS:=λD σ H=>tv σ H λy H1=>ta σ H1 λx H2=>∃ a C dx fs,x=.ref a/\H2 a=some (.ins C dx fs)/\G7 K C/\qA K C f/\fs.length<1000 /\
 D.nx σ (upd H2 a (.ins C dx (oF f y fs)))
section
variable {X:Cx}{o e value:Expr}{f:Str}{pos pos' tpos:Pos}{ta tv:TE}
def RQ (he:PE X e ta)(hb:attributeBase e f X.env (eval e X.env)=eval e X.env):PE X (.Attribute e f pos) (Yl X.K ta f):=by
 intro fJ s σ H Q I h
 refine Pc hb (iN (he fJ s σ H _ I h) λu s1 q9=>?_)
 obtain⟨x,H1,I1,rx,a,C,dx,fs,v,ex,ea,c,n,l,q⟩:=q9
 subst ex
 obtain rfl:u=Value.ref a:=rx
 exact Ep I1 ea c n l λu' s2 I2 ru=>⟨v,H1,I2,ru,q⟩
def RG (ha:PE X o ta)(hv:PE X value tv)(hs:swapsWith value (some (.Attribute o f pos')) pos.line X.env=pure false):PS X (.Assign [.Attribute o f pos'] value pos) (Yz X.K ta tv f):=by
 intro fJ s σ H D I h
 refine plainObj_wpAny_Assign_Attribute (iN (hv fJ s σ H _ I h) λu s1 qo=>?_) hs
 obtain⟨y,H1,I1,ry,q⟩:=qo
 refine iN (ha fJ s1 σ H1 _ I1 q) λov s2 qm=>?_
 obtain⟨x,H2,I2,rx,a,C,dx,fs,ex,ea,c,n,l,q2⟩:=qm
 subst ex
 obtain rfl:ov=Value.ref a:=rx
 exact DD I2 ea c n l ry λs3 I3=>⟨σ,_,I3,q2⟩
def Qr {pl:Sem Bool}{m:Str}{l7:Pos}{args:au Expr}{fJ:au (ao×Obj)}{s:ak}{σ:St}{H:Hp}{Q:ar->ak->Prop}{te:TE}(he:PE X e te)(I:Inv X fJ σ H s)
 (h:te σ H λx H1=>∃ a C dx fs g,x=.ref a/\H1 a=some (.ins C dx fs)/\G7 X.K C/\Meth X.K C m g/\fs.lookup m=none /\
   ∀ s1,Inv X fJ σ H1 s1->wpAny (model X.prog X.w) X.A (callWith pos (.ref g) [.ref a] (backTo pos (starEach args X.env)) (backToKw pos (keywordEach [] X.env))) Q X.xe s1)
 (ht:eval (.Call (.Attribute e m l7) args [] pos) X.env=(do
   let ov <- eval e X.env
   standAt l7.atName
   let (f,first) <- holding [ov] (getMethod ov m pl)
   callWith pos f first (backTo pos (starEach args X.env)) (backToKw pos (keywordEach [] X.env)))):
 wpAny (model X.prog X.w) X.A (eval (.Call (.Attribute e m l7) args [] pos) X.env) Q X.xe s:=by
 refine W.methodCall_KW (pl:=pl) (iN (he fJ s σ H _ I h) λu s1 rZ=>?_) ht
 obtain⟨x,H1,I1,rx,a,C,dx,fs,g,ex,ea,c,k,l,q⟩:=rZ
 subst ex
 obtain rfl:u=Value.ref a:=rx
 exact xl I1 ea c k l (q s1 I1)
end
section
variable {X:Cx}{fJ:au (ao×Obj)}{σ:St}{H:Hp}{s:ak}{A:Around}{E:ar->ak->Prop}{Q:ar->ak->Prop}{c:ar}{b:Bool}
inductive kE (K:aa)(H:Hp):V->ar->Prop where
 |ic:kE K H .ic (.type "NoneType")
 |bl (x:Bool):kE K H (.bl x) (.type "bool")
 |int (i:Int):kE K H (.int i) (.type "int")
 |str (x:Str):kE K H (.str x) (.type "str")
 |QG (x:UInt64):kE K H (.QG x) (.type "float")
 |lst {a:ao} {xs:List V} (e:H a=some (.lst xs)):kE K H (.ref a) (.type "list")
 |Cv {a:ao} {o:Obj} {xs:List V} (e:H a=some (.Cv o (.lst xs))):kE K H (.ref a) (.type "list")
 |tup {a:ao} {xs:List V} (e:H a=some (.tup xs)):kE K H (.ref a) (.type "tuple")
 |dK {a:ao} {fX:List (Key×V)} (e:H a=some (.dK fX)):kE K H (.ref a) (.type "dict")
 |dT {a:ao} {fX:List (List Key×V)} (e:H a=some (.dT fX)):kE K H (.ref a) (.type "dict")
 | ins {a C dx:ao} {fs:List (Str×V)} (e:H a=some (.ins C dx fs)) (cl:G7 K C) (ha:W.findIn K (.ref C) "__class__"=some (some (.builtin "object.__class__")))
  (hn:W.specialIn K (.builtin "object.__class__") "__get__"=some (some (.builtin "getset_descriptor.__get__"))) (htk:W.takesIn K (.builtin "object.__class__")=some true)
  (hm:W.mroIn K C (.type "object")=some true):kE K H (.ref a) (.ref C)
def HS {x:V}{u t:ar}(I:Inv X fJ σ H s)(rx:gH x u)(ty:kE X.K H x t)(e:W.kitOne X.K t c=some b)(h:∀ tk,Q (.bool b) { s with toks:=tk}):
 wpAny (model X.prog X.w) A (call (.builtin "isinstance") [u,c]) Q E s:=by
 cases ty with
 |ic=>cases(show u=Value.none from rx);exact dD W.kitx_none I.vN True.intro e (λz=>nomatch z) h
 |bl y=>cases(show u=Value.bool y from rx);exact dD W.kitx_bool I.vN True.intro e (λz=>nomatch z) h
 |int i=>obtain⟨t,q⟩:=(show ∃ t,u=Value.int i t from rx);cases q;exact dD W.kitx_int I.vN True.intro e (λz=>nomatch z) h
 |str y=>obtain⟨t,q⟩:=(show ∃ t,u=Value.str y t from rx);cases q;exact dD W.kitx_str I.vN True.intro e (λz=>nomatch z) h
 |QG y=>obtain⟨t,q⟩:=(show ∃ t,u=Value.float y t from rx);cases q;exact dD W.kitx_float I.vN True.intro e (λz=>nomatch z) h
 | @lst a xs ea =>
  cases(show u=Value.ref a from rx)
  obtain⟨_,_,n,_,h1⟩:=(show jx X.prog X.w H s.heap a (.lst xs)from I.iF a _ ea)
  exact dD W.kitx_list I.vN ⟨_,h1,rfl⟩ e (λz=>nomatch z) h
 | @Cv a ob xs ea =>
  cases(show u=Value.ref a from rx)
  obtain⟨_,_,_,n,_,h1⟩:=(show jx X.prog X.w H s.heap a (.Cv ob (.lst xs))from I.iF a _ ea)
  exact dD W.kitx_list I.vN ⟨_,h1,rfl⟩ e (λz=>nomatch z) h
 | @tup a xs ea =>
  cases(show u=Value.ref a from rx)
  obtain⟨_,_,_,p⟩:=(show jx X.prog X.w H s.heap a (.tup xs)from I.iF a _ ea)
  obtain⟨o,h1,h2,_⟩:=p
  exact dD W.kitx_tuple I.vN ⟨o,h1,h2⟩ e (λz=>nomatch z) h
 | @dK a fX ea =>
  cases(show u=Value.ref a from rx)
  obtain⟨_,_,vs,_,p⟩:=(show jx X.prog X.w H s.heap a (.dK fX)from I.iF a _ ea)
  obtain⟨o,es,ep,h1,h2,_⟩:=p
  exact dD W.kitx_dict I.vN ⟨o,h1,h2.1⟩ e (λz=>nomatch z) h
 | @dT a fX ea =>
  cases(show u=Value.ref a from rx)
  obtain⟨_,_,xs,_,o,es,ep,h1,h2,_⟩:=(show jx X.prog X.w H s.heap a (.dT fX)from I.iF a _ ea)
  exact dD W.kitx_dict I.vN ⟨o,h1,h2.1⟩ e (λz=>nomatch z) h
 | @ins a C dx fs ea cl ha hn htk hm =>
  cases(show u=Value.ref a from rx)
  obtain⟨mA,O,_⟩:=vO I.iF ea
  obtain⟨od,J,_⟩:=O.look
  exact dD (W.kitx_own (cl.get _) cl.hd ha hn htk hm) I.vN J e (λz=>nomatch z) h
end
structure jO (k:Nat)(A:Around):Prop where
 hd:A.handled=none
 dp:A.depth+3*k+5<recursionLimit
 un:A.units+16*k+200<cLine
def jO.mono {j k:Nat}{A:Around}(r:jO k A)(h:j<=k):jO j A:=⟨r.hd,by have:=r.dp;lia,by have:=r.un;lia⟩
def jO.deeper {k:Nat}{A:Around}(r:jO (k+1) A)(env:Env):jO k (A.deeper env) :=
 ⟨r.hd,by have:=r.dp;show A.depth+1+3*k+5<_;lia,by have:=r.un;show A.units+3+16*k+200<_;lia⟩
def jO.in1 {k:Nat}{A:Around}(r:jO (k+1) A):jO k A.in1 :=
 ⟨r.hd,by have:=r.dp;show A.depth+3*k+5<_;lia,by have:=r.un;show A.units+1+16*k+200<_;lia⟩
def Ea {A:Around}{C:ao}{us:au ar}{kw:au (Str×ar)}:(A.under (.builtin "type.__call__" ⟨.ref C::us,kw⟩)).depth=A.depth+1:=by
 first|rfl|simp[Around.under,Code.weight,Code.isCreation,Code.isGuard,Code.isCaller,Code.frames,Code.isFrame,guardIds]
def D9 {A:Around}{C:ao}{us:au ar}{kw:au (Str×ar)}:(A.under (.builtin "type.__call__" ⟨.ref C::us,kw⟩)).units=A.units+1:=by
 first|rfl|simp[Around.under,Code.cUnits,Code.frames,Code.isFrame]
def jO.make {k:Nat}{A:Around}(r:jO (k+1) A)(C:ao)(us:au ar)(kw:au (Str×ar)):jO k (A.under (.builtin "type.__call__" ⟨.ref C::us,kw⟩)) :=
 ⟨r.hd,by have:=r.dp;rw[Ea];lia,by have:=r.un;rw[D9];lia⟩
def jO.depth {k:Nat}{A:Around}(r:jO k A):A.depth<recursionLimit:=by have:=r.dp;lia
def jO.units {k:Nat}{A:Around}(r:jO k A):A.units+64<cLine:=by have:=r.un;lia
def Ng:TA:=λ_ H Q=>Q [] H
def Fb (ta:TE)(tr:TA):TA:=λσ H Q=>ta σ H λx H1=>tr σ H1 λxs H2=>Q (x::xs) H2
section
variable {X:Cx}{e:Expr}{es:au Expr}{te:TE}{t:TA}{pos:Pos}
def iV:PA X [] Ng:=λ_ _ _ _ H Q I h=>fh ⟨[],H,I,.nil,h⟩
def gz (ha:PE X e te)(hr:PA X es t)(hs:starEach (e::es) X.env=(false,eval e X.env)::starEach es X.env:=by rfl):PA X (e::es) (Fb te t):=by
 intro pos fJ s σ H Q I h
 rw[hs]
 show wpAny _ _ (spliced ((false,eval e X.env)::backTo pos (starEach es X.env))) _ _ s
 refine eK (iN (ha fJ s σ H _ I h) λu s1 tY=>?_)
 obtain⟨x,H1,I1,r1,q1⟩:=tY
 exact iN (hr pos fJ s1 σ H1 _ I1 q1) λus s2 uE=>by obtain⟨xs,H2,I2,r2,q2⟩:=uE;exact⟨x::xs,H2,I2,.cons r1 r2,q2⟩
def Yd (t:TA):TE:=λσ H Q=>t σ H λxs H1=>xs.length<=sizeLine/\∀ p,H1 p=none->Q (.ref p) (upd H1 p (.tup xs))
def Yi (t:TA):TE:=λσ H Q=>t σ H λxs H1=>xs.length<=sizeLine/\∀ p,H1 p=none->Q (.ref p) (upd H1 p (.lst xs))
def RM {x1}(h:PA X es t):PE X (.Tuple es x1 pos) (Yd t):=by
 intro fJ s σ H Q I hq
 refine wpAny_Tuple_spliced (iN (h pos fJ s σ H _ I hq) λus s1 ⟨xs,H1,I1,r,z,q⟩=>⟨by rw[<- r.length];exact z,?_⟩)
 have hf:H1 s1.heap.objs.size=none:=I1.iF.fresh (aw _)
 refine⟨.ref s1.heap.objs.size,upd H1 s1.heap.objs.size (.tup xs),I1.laid (t':=s1.toks) (λb u e=>j6 _ e) (aw _) ?_,rfl,q _ hf⟩
 exact⟨z,us,r,⟨_,aI _ rfl,rfl,_,rfl⟩⟩
def Ki (h:PA X es t):PE X (.List es pos) (Yi t):=by
 intro fJ s σ H Q I hq
 refine wpAny_List_spliced (iN (h pos fJ s σ H _ I hq) λus s1 ⟨xs,H1,I1,r,z,q⟩=>⟨by rw[<- r.length];exact z,?_⟩)
 have hf:H1 s1.heap.objs.size=none:=I1.iF.fresh (aw _)
 refine⟨.ref s1.heap.objs.size,upd H1 s1.heap.objs.size (.lst xs),I1.laid (t':=s1.toks) (λb u e=>j6 _ e) (aw _) ?_,rfl,q _ hf⟩
 exact⟨z,us,0,r,aI _ rfl⟩
end
abbrev Sp:=au V->Hp->VK->XK->Prop
abbrev G8:=au Env->Hp->ak->XK->ar->ak->Prop
structure yt (P:ah)(w:ai)(K:aa)(mg:Str->Option ar)(fK:Heap)(A:Around)(fV:List Env)(s:ak)(H:Hp):Prop where
 frames:A.frames=some fV
 mod:Mod K mg fK
 bs:∀ b o,fK.get? b=some o->s.heap.get? b=some o/\H b=none
 Iz:fK.objs.size<=s.heap.objs.size
 tu:s.heap.FunFrames fK fV
 QD:∀ b∈Ax fV,H b=none
 iF:pQ P w H s.heap
 bare:AllBare s.gens
def CE (fV:au Env)(P:ah)(w:ai)(H:Hp)(s:ak)(Q:VK)(u:ar)(s':ak):Prop :=
 ∃ v H',s'.os=s.os/\AllBare s'.gens/\Un (Ax fV) [] H H' s.heap s'.heap/\pQ P w H' s'.heap/\gH v u/\Q v H'
def CR (CX:G8)(fV:au Env)(P:ah)(w:ai)(H:Hp)(s:ak)(Q:VK)(E:XK)(r:Result)(s':ak):Prop :=
 match r with
 |.ok (.ret u)=>CE fV P w H s Q u s'
 |.ok _=>False
 |.error e=>CX fV H s E e s'
structure gL (P:ah)(w:ai)(K:aa)(mg:Str->Option ar)(fK:Heap)(CX:G8)(k:Nat)(f:ao)(fd:aj)(ps:List Str)(sp:Sp):Prop where
 len:∀ vs H Q E,sp vs H Q E->vs.length=ps.length
 run:∀(A:Around) (fV:List Env) (s:ak) (H:Hp) (args:Args) (us:List ar) (vs:List V) (Q:VK) (E:XK),jO k A->yt P w K mg fK A fV s H->BindsTo s fd args (ps.zip us)->gD vs us->sp vs H Q E ->
  codeAny (model P w) A (.call (.ref f) args) (CR CX fV P w H s Q E) s
def gL.imp {P:ah}{w:ai}{K:aa}{mg:Str->av ar}{fK:Heap}{CX:G8}{k:Nat}{f:ao}{fd:aj}{ps:au Str}{sp sp':Sp}(F:gL P w K mg fK CX k f fd ps sp)
 (h:∀ vs H Q E,sp' vs H Q E->sp vs H Q E):gL P w K mg fK CX k f fd ps sp':=
 ⟨λvs H Q E q=>F.len vs H Q E (h _ _ _ _ q),λA fV s H args us vs Q E hr he hb hv hs=>F.run A fV s H args us vs Q E hr he hb hv (h _ _ _ _ hs)⟩
def yt.make {P:ah}{w:ai}{K:aa}{mg:Str->av ar}{fK:Heap}{A:Around}{fV:au Env}{s:ak}{H:Hp}(e:yt P w K mg fK A fV s H)(C:ao)(us:au ar)(kw:au (Str×ar)):
 yt P w K mg fK (A.under (.builtin "type.__call__" ⟨.ref C::us,kw⟩)) fV s H:=⟨by first|exact e.frames|(simpa [Around.under,Code.envs,Code.isFrame,pushEnvs]using e.frames),e.mod,e.bs,e.Iz,e.tu,e.QD,e.iF,e.bare⟩
def yt.in1 {P:ah}{w:ai}{K:aa}{mg:Str->av ar}{fK:Heap}{A:Around}{fV:au Env}{s:ak}{H:Hp}(e:yt P w K mg fK A fV s H):
 yt P w K mg fK A.in1 fV s H:=⟨e.frames,e.mod,e.bs,e.Iz,e.tu,e.QD,e.iF,e.bare⟩
section
variable {X:Cx}{fJ:au (ao×Obj)}{σ:St}{H:Hp}{s s':ak}
def Inv.We (I:Inv X fJ σ H s):yt X.prog X.w X.K X.mg X.fK X.A X.stack s H :=
 ⟨I.ok.frames,I.ok.mod,I.bs,aV I.ok.Iz I.sz,I.stack,I.sE,I.iF,I.bare⟩
def Inv.after {Q:VK}{u:ar}(I:Inv X fJ σ H s)(h:CE X.stack X.prog X.w H s Q u s'):EP X fJ σ Q u s':=by
 obtain⟨v,H',os,bare,un,iF,r,q⟩:=h
 obtain⟨hh,g,d,t,os'⟩:=s'
 obtain rfl:os'=s.os:=os
 exact⟨v,H',I.call (h':=hh) (g':=g) (d':=d) (t':=t) (ch:=[]) un iF bare (λb z=>absurd z (by simp)),r,q⟩
end
def PU (sp:Sp)(AK:au V)(E:XK)(t:TA):TE:=λσ H Q=>t σ H λvs H1=>sp (vs++AK) H1 Q E
def PN (C:ao)(m:Str)(sp:Sp)(AK:au V)(E:XK)(ta:TE)(t:TA):TE:=λσ H Q=>ta σ H λx H1=>∃ a dx fs,x=.ref a/\H1 a=some (.ins C dx fs)/\fs.lookup m=none /\
 t σ H1 λvs H2=>sp (x::(vs++AK)) H2 Q E
def PQ (C:ao)(sp:Sp)(AK:au V)(E:XK)(t:TA):TE:=λσ H Q=>t σ H λvs H1=>∀ x dx,H1 x=none->H1 dx=none->dx≠x ->
 sp (.ref x::(vs++AK)) (upd (upd H1 dx (.own x)) x (.ins C dx [])) (λv H2=>v=.ic/\Q (.ref x) H2) E
def Binds (K:aa)(fd:aj)(ps:au Str)(ds:au ar):Prop :=
 ∀(s:ak) (us:au ar),K.In s.heap->(us++ds).length=ps.length->BindsTo s fd ⟨us,[]⟩ (ps.zip (us++ds))
def Binds.all {K:aa}{fd:aj}{ps:au Str}(h:∀ us:au ar,us.length=ps.length->bindArgs fd ⟨us,[]⟩=pure (ps.zip us)):Binds K fd ps []:=λs us _ hl=>by
 rw[bZ]at hl ⊢
 exact .of_eq (h us hl)
def Passes (CX:G8)(X:Cx)(E:XK):Prop:=∀(fJ:au (ao×Obj)) (σ:St) (H:Hp) (s:ak) (e:ar) (s':ak),Inv X fJ σ H s->CX X.stack H s E e s'->X.xe e s'
section
variable {X:Cx}{CX:G8}{k:Nat}{f C:ao}{fd:aj}{ps:au Str}{sp:Sp}{AK:au V}{ds:au ar}{E:XK}{x m:Str}{p pos l7:Pos}{e o:Expr}{es:au Expr}{ta:TE}{t:TA}
def JO {fJ:au (ao×Obj)}{σ:St}{H:Hp}{s:ak}{Q:VK}{us:au ar}{vs:au V}(F:gL X.prog X.w X.K X.mg X.fK CX k f fd ps sp)(hr:jO k X.A)(hb:Binds X.K fd ps ds)(hd:gD AK ds)(hx:Passes CX X E)
 (I:Inv X fJ σ H s) (r:gD vs us) (h:sp (vs++AK) H Q E):wpAny (model X.prog X.w) X.A (call (.ref f) us) (EP X fJ σ Q) X.xe s:=by
 have r2:gD (vs++AK) (us++ds):=r.append hd
 have hl:(us++ds).length=ps.length:=by rw[<- r2.length];exact F.len _ _ _ _ h
 refine wpAny_call (codeAny_mono (F.run X.A X.stack s H ⟨us,[]⟩ (us++ds) (vs++AK) Q E hr I.We (hb s us I.vN hl) r2 h) λr s' hq=>?_)
 cases r with
 |error e=>exact hx fJ σ H s e s' I hq
 | ok fl =>
  cases fl with
  |ret u=>exact I.after hq
  |next=>exact False.elim hq
  |brk=>exact False.elim hq
  |cont=>exact False.elim hq
def FA (F:gL X.prog X.w X.K X.mg X.fK CX k f fd ps sp)(hr:jO k X.A)(hg:Gl X x)(hm:X.mg x=some (.ref f))(hk:W.keepIn X.K (.ref f)=true)(hb:Binds X.K fd ps ds)(hd:gD AK ds)(hx:Passes CX X E)
 (ha:PA X (e::es) t) (yf:(x==("__debug__" : Str))=false:=by decide) (he:starEach (e::es) X.env=(false,eval e X.env)::starEach es X.env:=by rfl) (qr:(backTo pos (starEach es X.env)).any (·.1)=false:=by rfl):
 PE X (.Call (.Name x p) (e::es) [] pos) (PU sp AK E t):=by
 intro fJ s σ H Q I h
 refine cP (Am I hg hm ?_ yf)
 refine W.callWith_K (h₀:=X.fK) I.ok.mod.Qt hk (iN (ha pos fJ s σ H _ I h) λus s1 qo=>?_) he qr
 obtain⟨vs,H1,I1,r,q⟩:=qo
 refine⟨I1.vN,?_⟩
 exact JO F hr hb hd hx I1 r q
def NX {pl:Sem Bool}(he:PE X o ta)(c:G7 X.K C)(hm:Meth X.K C m f)(F:gL X.prog X.w X.K X.mg X.fK CX k f fd ps sp)(hr:jO k X.A)(hb:Binds X.K fd ps ds)(hd:gD AK ds)(hx:Passes CX X E)(ha:PA X (e::es) t)
 (Li:starEach (e::es) X.env=(false,eval e X.env)::starEach es X.env:=by rfl) (qr:(backTo pos (starEach es X.env)).any (·.1)=false:=by rfl)
 (ht:eval (.Call (.Attribute o m l7) (e::es) [] pos) X.env=(do
   let ov <- eval o X.env
   standAt l7.atName
   let (f,first) <- holding [ov] (getMethod ov m pl)
   callWith pos f first (backTo pos (starEach (e::es) X.env)) (backToKw pos (keywordEach [] X.env))):=by rfl):
 PE X (.Call (.Attribute o m l7) (e::es) [] pos) (PN C m sp AK E ta t):=by
 intro fJ s σ H Q I h
 refine W.methodCall_KW (pl:=pl) (iN (he fJ s σ H _ I h) λu s1 qm=>?_) ht
 obtain⟨x,H1,I1,rx,a,dx,fs,ex,ea,l,q⟩:=qm
 subst ex
 obtain rfl:u=Value.ref a:=rx
 refine xl I1 ea c hm l ?_
 refine W.callWith_K (first:=[.ref a]) (h₀:=X.fK) I.ok.mod.Qt hm.kp (iN (ha pos fJ s1 σ H1 _ I1 q) λus s2 rZ=>?_) Li qr
 obtain⟨vs,H2,I2,r,q2⟩:=rZ
 refine⟨I2.vN,?_⟩
 exact JO (us:=.ref a::us) (vs:=.ref a::vs) F hr hb hd hx I2 (.cons rfl r) q2
structure Mk (K:aa)(C f:ao):Prop where
 makes:W.makesIn K C=true
 init:W.findIn K (.ref C) "__init__"=some (some (.ref f))
 fn:W.isFn K (.ref f)=true
 kp:W.keepIn K (.ref C)=true
def JN {fJ:au (ao×Obj)}{σ:St}{H:Hp}{s:ak}{Q:VK}{us:au ar}{vs:au V}(M:Mk X.K C f)(F:gL X.prog X.w X.K X.mg X.fK CX k f fd ps sp)(hr:jO (k+1) X.A)(hb:Binds X.K fd ps ds)(hd:gD AK ds)
 (hx:Passes CX X E) (I:Inv X fJ σ H s) (r:gD vs us)
 (h:∀ x dx,H x=none->H dx=none->dx≠x->sp (.ref x::(vs++AK)) (upd (upd H dx (.own x)) x (.ins C dx [])) (λv H2=>v=.ic/\Q (.ref x) H2) E):
 wpAny (model X.prog X.w) X.A (call (.ref C) us) (EP X fJ σ Q) X.xe s:=by
 have hq:=h (s.heap.objs.size+1) s.heap.objs.size (I.iF.fresh (dr _)) (I.iF.fresh (aw _)) (aE (bF _))
 have I2:=Inv.made (C:=C) I
 have r2:gD (V.ref (s.heap.objs.size+1)::(vs++AK)) (Value.ref (s.heap.objs.size+1)::(us++ds)):=.cons rfl (r.append hd)
 have hl:(Value.ref (s.heap.objs.size+1)::us++ds).length=ps.length:=by
  have e:=r2.length
  rw[F.len _ _ _ _ hq]at e
  exact e.symm
 refine wpAny_call (KY (f:=f) I.vN M.makes M.init (beq_iff_eq.mp M.fn) (codeAny_mono (F.run _ X.stack _ _ ⟨Value.ref (s.heap.objs.size+1)::us,[]⟩ (Value.ref (s.heap.objs.size+1)::(us++ds)) _ _ E (hr.make C us [])
  (I2.We.make C us []) (hb _ (Value.ref (s.heap.objs.size+1)::us) I2.vN hl) r2 hq) λr s' Lj=>?_))
 cases r with
 |error e=>exact hx fJ σ _ _ e s' I2 Lj
 | ok fl =>
  cases fl with
  | ret u =>
   obtain⟨v,H',I3,rv,ev,q3⟩:=I2.after Lj
   subst ev
   exact⟨rv,⟨V.ref (s.heap.objs.size+1),H',I3,rfl,q3⟩⟩
  |next=>exact False.elim Lj
  |brk=>exact False.elim Lj
  |cont=>exact False.elim Lj
def NY (M:Mk X.K C f)(F:gL X.prog X.w X.K X.mg X.fK CX k f fd ps sp)(hr:jO (k+1) X.A)(hg:Gl X x)(hm:X.mg x=some (.ref C))(hb:Binds X.K fd ps ds)(hd:gD AK ds)(hx:Passes CX X E)
 (ha:PA X (e::es) t) (yf:(x==("__debug__" : Str))=false:=by decide) (he:starEach (e::es) X.env=(false,eval e X.env)::starEach es X.env:=by rfl) (qr:(backTo pos (starEach es X.env)).any (·.1)=false:=by rfl):
 PE X (.Call (.Name x p) (e::es) [] pos) (PQ C sp AK E t):=by
 intro fJ s σ H Q I h
 refine cP (Am I hg hm ?_ yf)
 refine W.callWith_K (h₀:=X.fK) I.ok.mod.Qt M.kp (iN (ha pos fJ s σ H _ I h) λus s1 tY=>?_) he qr
 obtain⟨vs,H1,I1,r,q⟩:=tY
 refine⟨I1.vN,?_⟩
 exact JN M F hr hb hd hx I1 r q
end
def PK (X:Cx)(VB:au Keyword)(t:TA):Prop :=
 ∀(pos:Pos) (fJ:au (ao×Obj)) (s:ak) (σ:St) (H:Hp) (Q:au V->Hp->Prop),Inv X fJ σ H s->t σ H Q->wpAny (model X.prog X.w) X.A (evalAll ((backToKw pos (keywordEach VB X.env)).map (·.2))) (AP X fJ σ Q) X.xe s
section
variable {X:Cx}{CX:G8}{k:Nat}{f C:ao}{fd:aj}{ps ks:au Str}{sp:Sp}{E:XK}{x m:Str}{p pos l7 HN:Pos}{e o:Expr}{es:au Expr}{VB:au Keyword}{te ta:TE}{t tk:TA}{nm:av Str}
def RJ:PK X [] Ng:=λ_ _ _ _ H Q I h=>wpAny_evalAll_nil ⟨[],H,I,.nil,h⟩
def NS (ha:PE X e te)(hr:PK X VB t):PK X (⟨nm,e,HN⟩::VB) (Fb te t):=by
 intro pos fJ s σ H Q I h
 show wpAny _ _ (evalAll ((do let v <- eval e X.env;standAt pos;pure v)::(backToKw pos (keywordEach VB X.env)).map (·.2))) _ _ s
 refine wpAny_evalAll_cons (f9 (iN (ha fJ s σ H _ I h) λu s1 uE=>?_))
 obtain⟨x,H1,I1,r1,q1⟩:=uE
 refine f9 (dY (aA ?_))
 exact iN (hr pos fJ s1 σ H1 _ I1 q1) λus s2 r6=>by obtain⟨xs,H2,I2,r2,q2⟩:=r6;exact⟨x::xs,H2,I2,.cons r1 r2,q2⟩
variable {g:au ar->au ar->au ar}{gV:au V->au V->au V}
end
structure gg (N P:List Str)(sc:Scope):Prop where
 kind:sc.kind=.function
 co:sc.isCoroutine=false
 gen:sc.isGenerator=false
 nd:N.Nodup
 pre:N.take P.length=P
 par:∀ x∈P,sc.names.lookup x=some .local\/sc.names.lookup x=some .cell
 R6:∀ y∈sc.names,y.2≠.free
def zj {kindOf:Str->av NameKind}{x:Str}:∀ {binds:au (Str×ar)} {m:Str->av ar},(∀ v,(x,v)∉binds)->bindL kindOf binds m x=m x
 |[],_,_=>rfl
 | (n,v)::r,m,h=>by
  unfold bindL
  rw[zj λw hw=>h w (nE _ hw)]
  split
  .have:x≠n:=by rintro rfl;exact h v aH
   simp[this]
  .rfl
def zo {kindOf:Str->av NameKind}{x:Str}:∀ {binds:au (Str×ar)} {m:Str->av ar},(∀ v,(x,v)∉binds)->bindC kindOf binds m x=m x
 |[],_,_=>rfl
 | (n,v)::r,m,h=>by
  unfold bindC
  rw[zo λw hw=>h w (nE _ hw)]
  split
  .rfl
  .have:x≠n:=by rintro rfl;exact h v aH
   simp[this]
def zm {kindOf:Str->av NameKind}{x:Str}{v:ar}:∀ {P:au Str} {vs:au ar} {i:Nat} {m:Str->av ar},P.Nodup->P[i]?=some x->vs[i]?=some v->kindOf x=some .local ->
 bindL kindOf (P.zip vs) m x=some v
 |[],_,_,_,_,h,_,_=>by simp at h
 |_::_,[],_,_,_,_,h,_=>by simp at h
 | p::P,w::vs,0,m,nd,h1,h2,hk=>by
  simp at h1 h2;subst h1;subst h2
  show bindL kindOf ((p,w)::P.zip vs) m p=_
  unfold bindL
  rw[zj λv hv=>(List.nodup_cons.mp nd).1 (eE hv).1,aF hk]
  simp
 | p::P,w::vs,i+1,m,nd,h1,h2,hk=>by
  show bindL kindOf ((p,w)::P.zip vs) m x=_
  unfold bindL
  exact zm (i:=i) (List.nodup_cons.mp nd).2 (by simpa using h1) (by simpa using h2) hk
def zp {kindOf:Str->av NameKind}{x:Str}{v:ar}:∀ {P:au Str} {vs:au ar} {i:Nat} {m:Str->av ar},P.Nodup->P[i]?=some x->vs[i]?=some v->kindOf x≠some .local ->
 bindC kindOf (P.zip vs) m x=some v
 |[],_,_,_,_,h,_,_=>by simp at h
 |_::_,[],_,_,_,_,h,_=>by simp at h
 | p::P,w::vs,0,m,nd,h1,h2,hk=>by
  simp at h1 h2;subst h1;subst h2
  show bindC kindOf ((p,w)::P.zip vs) m p=_
  unfold bindC
  rw[zo λv hv=>(List.nodup_cons.mp nd).1 (eE hv).1,aG hk]
  simp
 | p::P,w::vs,i+1,m,nd,h1,h2,hk=>by
  show bindC kindOf ((p,w)::P.zip vs) m x=_
  unfold bindC
  exact zp (i:=i) (List.nodup_cons.mp nd).2 (by simpa using h1) (by simpa using h2) hk
def start (N:au Str)(vs:au V):St:=vs.map some++List.replicate (N.length - vs.length) none
def rh (CX:G8)(P:ah)(w:ai)(K:aa)(mg:Str->av ar)(fK:Heap)(N:au Str)(qual:Str)(scope:Scope)(f:ao)(cd:ar)(A:Around)(fV:au Env)(s:ak)(H:Hp)(E:XK):Cx where
 prog:=P
 w:=w
 K:=K
 mg:=mg
 fK:=fK
 A:=A.deeper (envOfC qual scope s.heap.objs.size f cd)
 N:=N
 s₀:=s
 H₀:=H
 env:=envOfC qual scope s.heap.objs.size f cd
 fV:=fV
 stack:=envOfC qual scope s.heap.objs.size f cd::fV
 ex:=[]
 gY:=true
 fn:=λ_=>true
 pn:=[]
 xe:=λe s'=>wpAny (model P w) (A.deeper (envOfC qual scope s.heap.objs.size f cd)) (leaving (envOfC qual scope s.heap.objs.size f cd) e) (λ_ Ud=>CX fV H s E e Ud) (λe' Ud=>CX fV H s E e' Ud) s'
def oN {sc:Scope}{n:Nat}{x:Str}(h:sc.names.lookup x=some .cell):∃ c,(cellsFrom n sc.names []).lookup x=some c:=by
 have q:=W.cellsFrom_some sc.names n [] (.inl h)
 exact Option.isSome_iff_exists.mp q
def HU {CX:G8}{P:ah}{w:ai}{K:aa}{mg:Str->av ar}{fK:Heap}{N ps:au Str}{qual:Str}{scope:Scope}{f:ao}{cd:ar}{A:Around}{fV:au Env}{s s1:ak}{H:Hp}{E:XK}{us:au ar}{vs:au V}
 (S:gg N ps scope) (hd:A.handled=none) (e0:yt P w K mg fK A fV s H) (hl:vs.length=ps.length) (r:gD vs us)
 (x:InCallC s s.heap.objs.size (bindL (envOfC qual scope s.heap.objs.size f cd).kindOf (ps.zip us) λ_=>none) (cellsFrom (s.heap.objs.size+1) scope.names []) (bindC (envOfC qual scope s.heap.objs.size f cd).kindOf (ps.zip us) λ_=>none) s1):
 Inv (rh CX P w K mg fK N qual scope f cd A fV s H E) [] (start N vs) H s1:=by
 have qr:ps.length<=N.length:=by have:=cH List.length S.pre;rw[bz]at this;lia
 obtain⟨h1,tk,rfl,hk⟩:=x.done
 have Vr:∀ b:ao,b∉(rh CX P w K mg fK N qual scope f cd A fV s H E).ex:=λb z=>absurd (show b∈([]:au ao)from z) (by simp)
 refine⟨⟨e0.mod,S.kind,rfl,rfl,aw _,λy z c h1 h2=>?_,λy hy=>?_,λy c _ h=>?_,λ_=>hd,Around.frames_deeper e0.frames,.inr ⟨rfl,rfl⟩,λb z=>absurd z (Vr b),e0.bs,e0.Iz,λb _ _=>Vr b,λb z=>absurd z (Vr b),e0.tu,e0.QD⟩,
  rfl,e0.bare,Un.iW hk,⟨_,x.toInCall.ns,λi y v h1 h2 h3=>?_⟩,λy c h=>⟨_,x.cell y c h⟩,e0.iF.fresh (aw _),λy c h=>?_,λp hp=>absurd (show p∈([]:au (ao×Obj))from hp) (by simp),e0.iF.iW hk,?_⟩
 .exact name_of_addr x.apart (dn h1) (dn h2)
 .have hy:scope.names.lookup y=some .cell\/scope.names.lookup y=some .free:=hy
  rcases hy with hy|hy
  .exact oN hy
  .exact absurd rfl (S.R6 _ (dn hy))
 .exact eZ (x.above y c (dn h))
 .have hi:i<vs.length:=by
   unfold start at h2
   by_cases hi:i<vs.length
   .exact hi
   .rw[rF (by simpa using hi)]at h2
    rw[c3]at h2
    split at h2<;>cases h2
  have ha:vs[i]?=some v:=by
   unfold start at h2
   rw[t6 (by simpa using hi),nF]at h2
   cases e:vs[i]? with
   |none=>rw[e]at h2;cases h2
   |some a=>rw[e]at h2;cases h2;rfl
  obtain⟨u,hu,rv⟩:=r.get ha
  have hp:ps[i]?=some y:=by
   rw[<- S.pre,bM (by lia)];exact h1
  have ndP:ps.Nodup:=by rw[<- S.pre];exact S.nd.sublist (List.take_sublist _ _)
  refine⟨u,rv,?_⟩
  rcases S.par y (kA hp)with k|k
  .exact .inl ⟨k,zm ndP hp hu k⟩
  .obtain⟨c,e⟩:=oN (n:=s.heap.objs.size+1) k
   refine .inr ⟨.inl k,c,e,?_⟩
   have q:=x.cell y c e
   rw[zp ndP hp hu (by show scope.names.lookup y≠_;rw[k];decide)]at q
   exact q
 .exact e0.iF.fresh (eZ (x.above y c (dn h)))
 .unfold start
  show _=N.length
  rw[l5,ia,aZ]
  lia
def QF {CX:G8}{P:ah}{w:ai}{K:aa}{mg:Str->av ar}{fK:Heap}{k:Nat}{f:ao}{name qual:Str}{params:Arguments}{body:au Stmt}{scope:Scope}{dV kV doc pm je ct oc:ar}{an od:av ao}
 {N3:Array (av ar)} {N ps:au Str} {sp:Sp} (lk:K.lookup f=some ⟨oc,od,.func (W.fnOf name qual params body scope dV kV doc pm an je ct),N3⟩) (En:W.codeIn K je qual=true) (S:gg N ps scope)
 (len:∀ vs H Q E,sp vs H Q E->vs.length=ps.length)
 (xj:∀(A:Around) (fV:au Env) (s:ak) (H:Hp) (vs:au V) (Q:VK) (E:XK),jO k (A.deeper (envOfC qual scope s.heap.objs.size f je))->sp vs H Q E ->
   ∃ t,A5 (rh CX P w K mg fK N qual scope f je A fV s H E) body t/\t { nx:=λ_ H'=>Q .ic H',rt:=Q} (start N vs) H):
 gL P w K mg fK CX (k+1) f (W.fnOf name qual params body scope dV kV doc pm an je ct) ps sp:=by
 refine⟨len,λA fV s H args us vs Q E hr e0 hb r MQ=>?_⟩
 have hl:=len _ _ _ _ MQ
 have KX:K.In s.heap:=e0.mod.Qt.keeps λb o e=>(e0.bs b o e).1
 have lim:s.heap.NoLimit:=e0.mod.nolimit.keeps λb o e=>(e0.bs b o e).1
 have VQ:∀ y∈ps.zip us,scope.names.lookup y.1=some .local\/(scope.names.lookup y.1=some .cell/\((cellsFrom (s.heap.objs.size+1) scope.names []).lookup y.1).isSome=true):=λ⟨n,v⟩ hy=>by
  rcases S.par n (eE hy).1 with q|q
  .exact .inl q
  .exact .inr ⟨q,W.cellsFrom_some _ _ _ (.inl q)⟩
 refine codeAny_call_function hr.depth (KX _ _ lk) rfl S.co S.gen rfl (W.codeRec_of KX En) (hb _ _ _ _ ?_)
 refine wpAny_newFunctionEnv_cells S.kind VQ λenv he s1 x=>?_
 subst he
 refine⟨lim.keeps x.toInCall.keep,codeAny_func ?_⟩
 obtain⟨t,ht,hq⟩:=xj A fV s H vs Q E (hr.deeper _) MQ
 have I:Inv (rh CX P w K mg fK N qual scope f je A fV s H E) [] (start N vs) H s1:=HU S hr.hd e0 hl r x
 refine b7 (ht [] s1 (start N vs) H _ I hq) (λfl s' hs=>?_) λe s' hs=>hs
 have fin:∀ {jo:St} {H':Hp} {v:V} {u:ar},Inv (rh CX P w K mg fK N qual scope f je A fV s H E) [] jo H' s'->gH v u->Q v H'->CE fV P w H s Q u s' :=
  λ{jo H' v u} J rv q=>⟨v,H',J.os,J.bare,J.fK,J.iF,rv,q⟩
 cases fl with
 | ret u =>
  obtain⟨v,jo,H',J,rv,q⟩:=hs
  exact fin J rv q
 | next =>
  obtain⟨jo,H',J,q⟩:=hs
  exact fin (v:=V.ic) (u:=Value.none) J rfl q
 | brk =>
  obtain⟨_,_,_,q⟩:=hs
  exact False.elim q
 | cont =>
  obtain⟨_,_,_,q⟩:=hs
  exact False.elim q
section
variable {X:Cx}{x:Str}{p pos:Pos}{e:Expr}{es:au Expr}{t:TA}{id T:String}{r:au V->Hp->VK->Prop}
def Yp (r:au V->Hp->VK->Prop)(t:TA):TE:=λσ H Q=>t σ H λvs H1=>r vs H1 Q
def iB (hc:jm X (.builtin id) r)(hg:Gl X x)(hm:X.mg x=none)(hv:bootBuiltins x=some (.builtin id))(ha:PA X (e::es) t)(hn:x ≠ "__name__":=by decide)(yf:(x==("__debug__" : Str))=false:=by decide)
 (he:starEach (e::es) X.env=(false,eval e X.env)::starEach es X.env:=by rfl) (qr:(backTo pos (starEach es X.env)).any (·.1)=false:=by rfl):PE X (.Call (.Name x p) (e::es) [] pos) (Yp r t):=by
 intro fJ s σ H Q I h
 refine cP (kW I hg hm hv ?_ hn yf)
 exact PyProof.Rows.callWith_builtin1 (iN (ha pos fJ s σ H _ I h) λus s1 q9=>by obtain⟨vs,H1,I1,r1,q1⟩:=q9;exact hc fJ s1 σ H1 vs us Q I1 r1 q1) he qr
def yM (hc:jm X (.type T) r)(hg:Gl X x)(hm:X.mg x=none)(hv:bootBuiltins x=some (.type T))(ha:PA X (e::es) t)(hn:x ≠ "__name__":=by decide)(yf:(x==("__debug__" : Str))=false:=by decide)
 (he:starEach (e::es) X.env=(false,eval e X.env)::starEach es X.env:=by rfl) (qr:(backTo pos (starEach es X.env)).any (·.1)=false:=by rfl):PE X (.Call (.Name x p) (e::es) [] pos) (Yp r t):=by
 intro fJ s σ H Q I h
 refine cP (kW I hg hm hv ?_ hn yf)
 exact a6 (iN (ha pos fJ s σ H _ I h) λus s1 qo=>by obtain⟨vs,H1,I1,r1,q1⟩:=qo;exact hc fJ s1 σ H1 vs us Q I1 r1 q1) he qr
end
end L2
namespace HT
open PySem PyProof.Rows
section
variable {prog:ah}{w:ai}{A:Around}{E:ar->ak->Prop}{s:ak}
def oh (n d:Nat):av Int->Nat
 |none=>d
 |some v=>if v<0 then(v+(n:Int)).toNat else min v.toNat n
def wQ (n d:Nat):oh n d none=d:=rfl
def lF (n d k:Nat):oh n d (some (k:Int))=min k n:=by
 show(if(k:Int)<0 then((k:Int)+(n:Int)).toNat else min (k:Int).toNat n)=min k n
 rw[aG (by lia),yh]
def zW (n d:Nat)(hd:d<=n)(o:av Int):oh n d o<=n:=by
 cases o with
 |none=>exact hd
 | some v =>
  show(if v<0 then(v+(n:Int)).toNat else min v.toNat n)<=n
  by_cases hv:v<0
  .rw[aF hv];lia
  .rw[aG hv];exact Nat.min_le_right _ _
end
end HT
namespace L2
open PySem PySem.Spec PyProof.Rows
abbrev TO:=St->Hp->(av Int->Hp->Prop)->Prop
def PO (X:Cx)(e:av Expr)(t:TO):Prop :=
 ∀(fJ:au (ao×Obj)) (s:ak) (σ:St) (H:Hp) (Q:av Int->Hp->Prop),Inv X fJ σ H s->t σ H Q ->
  wpAny (model X.prog X.w) X.A (evalPart e X.env) (λu s'=>∃ o H',Inv X fJ σ H' s'/\IsPart u o/\Q o H') X.xe s
def Nf:TO:=λ_ H Q=>Q none H
section
variable {X:Cx}{e:Expr}{te:TE}{lo hi:av Expr}{tl th:TO}{pos p2:Pos}
def NR:PO X none Nf:=by
 intro fJ s σ H Q I h
 rw[evalPart_none]
 exact aA ⟨none,H,I,.none,h⟩
def XW (X:Cx)(r:V->av Int->av Int->Hp->VK->Prop):Prop :=
 ∀(fJ:au (ao×Obj)) (s:ak) (σ:St) (H:Hp) (x:V) (v vl vu:ar) (lo hi:av Int) (sl:ao) (Q:VK),Inv X fJ σ H s->gH x v->s.heap.IsSliceOf sl vl vu .none->IsPart vl lo->IsPart vu hi->r x lo hi H Q ->
  ∃ T id,typeLookup (.type T) "__getitem__"=pure (some (.builtin id))/\s.TypeIs v T/\wpAny (model X.prog X.w) X.A (getItem v (.ref sl)) (EP X fJ σ Q) X.xe s
def tSl (r:V->av Int->av Int->Hp->VK->Prop)(te:TE)(tl th:TO):TE:=λσ H Q=>te σ H λx H1=>tl σ H1 λl H2=>th σ H2 λu H3=>r x l u H3 Q
def Kh {r:V->av Int->av Int->Hp->VK->Prop}(hr:XW X r)(he:PE X e te)(hl:PO X lo tl)(hu:PO X hi th):PE X (.Subscript e (.Slice lo hi none p2) pos) (tSl r te tl th):=by
 intro fJ s σ H Q I h
 refine Subscript_ (iN (he fJ s σ H _ I h) λv s1 qm=>?_)
 obtain⟨x,H1,I1,r1,q1⟩:=qm
 refine wpAny_Slice (iN (hl fJ s1 σ H1 _ I1 q1) λvl s2 rZ=>?_)
 obtain⟨l,H2,I2,pl,q2⟩:=rZ
 refine iN (hu fJ s2 σ H2 _ I2 q2) λvu s3 tY=>?_
 obtain⟨u,H3,I3,pu,q3⟩:=tY
 rw[evalPart_none]
 refine aA ?_
 have I4:Inv X fJ σ H3 { s3 with heap:=s3.heap.push { cls:=.type "slice",data:=.fields #[vl,vu,.none]}}:=I3.iW (t':=s3.toks) λb ob q=>j6 _ q
 obtain⟨T,id,hT,ht,hg⟩:=hr fJ { s3 with heap:=s3.heap.push { cls:=.type "slice",data:=.fields #[vl,vu,.none]}} σ H3 x v vl vu l u s3.heap.objs.size Q I4 r1 (Heap.IsSliceOf.new ..) pl pu q3
 show wpAny (model X.prog X.w) X.A (subscriptTail e (.Slice lo hi none p2) v (.ref s3.heap.objs.size)) (EP X fJ σ Q) X.xe { s3 with heap:=s3.heap.push { cls:=.type "slice",data:=.fields #[vl,vu,.none]}}
 exact tail_any (ops:=[.ref s3.heap.objs.size,v]) ht hT hg (by with_unfolding_all rfl)
def EB (xs:au V)(lo hi:av Int):au V:=(xs.drop (HT.oh xs.length 0 lo)).take (HT.oh xs.length xs.length hi - HT.oh xs.length 0 lo)
def CJ (xs:au V)(lo hi:av Int):(EB xs lo hi).length<=xs.length:=by
 unfold EB
 rw[bz,bO]
 lia
end
def FQ (n:Nat)(i:Int):av Nat:=if 0<=i then(if i<n then some i.toNat else none)else if -(n:Int)<=i then some (i+n).toNat else none
def lB {α:Type}(xs:au α)(i:Int):av α:=(FQ xs.length i).bind λj=>xs[j]?
def FP {n:Nat}{i:Int}{j:Nat}(h:FQ n i=some j):seqIndex? i n=some j/\j<n /\ -(n:Int)<=i/\i<n:=by
 unfold FQ at h
 by_cases h0:0<=i
 .rw[aF h0]at h
  by_cases h1:i<n
  .rw[aF h1]at h
   have e:i.toNat=j:=aK h
   exact⟨by rw[seqIndex_of h0 h1,e],by lia,by lia,h1⟩
  .rw[aG h1]at h;cases h
 .rw[aG h0]at h
  by_cases h1:-(n:Int)<=i
  .rw[aF h1]at h
   have e:(i+n).toNat=j:=aK h
   exact⟨by rw[seqIndex_neg (by lia) h1,e],by lia,h1,by lia⟩
  .rw[aG h1]at h;cases h
def A0 {α:Type}{xs:au α}{i:Int}{v:α}(h:lB xs i=some v):∃ j,seqIndex? i xs.length=some j/\xs[j]?=some v/\j<xs.length /\ -(xs.length:Int)<=i/\i<xs.length:=by
 unfold lB at h
 cases e:FQ xs.length i with
 |none=>rw[e]at h;cases h
 | some j =>
  rw[e]at h
  obtain⟨h1,h2,h3,h4⟩:=FP e
  exact⟨j,h1,h,h2,h3,h4⟩
def kO {α:Type}{xs:au α}{j:Nat}{v:α}(h:xs[j]?=some v):lB xs (j:Int)=some v:=by
 have hj:j<xs.length:=(ka h).1
 have e:FQ xs.length (j:Int)=some j:=by
  unfold FQ
  rw[aF (by lia),aF (by lia)];simp
 unfold lB;rw[e];exact h
def xK {α:Type}(xs:au α)(v:α):lB (xs++[v]) (-1)=some v:=by
 have hl:(xs++[v]).length=xs.length+1:=by simp
 have e:FQ (xs++[v]).length (-1)=some xs.length:=by
  unfold FQ
  rw[hl,aG (by decide),aF (by lia)]
  congr 1
  lia
 unfold lB
 rw[e]
 show(xs++[v])[xs.length]?=some v
 simp
def A4 (b:Expr):Prop:=∀ o i,subscripted b false o i=operate [o,i] (getItem o i)
def G5 (X:Cx)(r:R2):Prop :=
 ∀(value slice:Expr) (fJ:au (ao×Obj)) (s:ak) (σ:St) (H:Hp) (x y:V) (v u:ar) (Q:VK),Inv X fJ σ H s->gH x v->gH y u->r x y H Q ->
  subscripted slice false v u=operate [v,u] (getItem v u)->wpAny (model X.prog X.w) X.A (subscriptTail value slice v u) (EP X fJ σ Q) X.xe s
def EM (X:Cx)(id:String)(r:V->au V->Hp->VK->Prop):Prop :=
 ∀(fJ:au (ao×Obj)) (s:ak) (σ:St) (H:Hp) (x:V) (xs:au V) (v:ar) (us:au ar) (Q:VK),Inv X fJ σ H s->gH x v->gD xs us->r x xs H Q ->
  wpAny (model X.prog X.w) X.A (call (.builtin id) (v::us)) (EP X fJ σ Q) X.xe s
section
variable {X:Cx}{a b:Expr}{ta tb:TE}{pos:Pos}
def G5.or {r r':R2}(h:G5 X r)(h':G5 X r'):G5 X (λx y H Q=>r x y H Q\/r' x y H Q):=by
 intro value slice fJ s σ H x y v u Q I rx ry q hs
 rcases q with q|q
 .exact h value slice fJ s σ H x y v u Q I rx ry q hs
 .exact h' value slice fJ s σ H x y v u Q I rx ry q hs
def qg {r:R2}(hr:G5 X r)(ha:PE X a ta)(hb:PE X b tb)(hs:A4 b):PE X (.Subscript a b pos) (UO r ta tb):=by
 intro fJ s σ H Q I h
 exact Subscript_ (Pb ha hb I h λv u s2 x y H2 I2 rx ry q=>hr a b fJ s2 σ H2 x y v u Q I2 rx ry q (hs _ _))
def U9 (K:aa):R2:=λx y H Q=>∃ p xs i v,x=.ref p/\y=.int i/\qz K H p xs/\lB xs i=some v/\Q v H
def U7 (K:aa):R2:=λx y H Q=>∃ p xs i v,x=.ref p/\y=.int i/\IH K H p xs/\lB xs i=some v/\Q v H
def U8:R2:=λx y H Q=>∃ z i c,x=.str z/\y=.int i/\z.length<=sizeLine/\lB z.cps.toList i=some c/\Q (.str ⟨#[c]⟩) H
def Oy:G5 X (U9 X.K):=by
 intro value slice fJ s σ H x y v u Q I rx ry h hs
 obtain⟨p,xs,i,z,rfl,rfl,hq,he,q⟩:=h
 cases rx
 obtain⟨t,rfl⟩:=ry
 obtain⟨gu,r,pl,hz⟩:=I.list hq
 obtain⟨j,h1,h2,h3,h4,h5⟩:=A0 he
 obtain⟨w,ew,Di⟩:=r.get h2
 have hl:=r.length
 have hn:=qj
 have fin:EP X fJ σ Q w s:=⟨z,H,I,Di,q⟩
 by_cases h0:0<=i
 .have hj:i.toNat=j:=by
   rw[seqIndex_of h0 h5]at h1
   exact aK h1
  exact item_listR pl.isList h0 (by lia) (by rw[hj];simpa using ew) fin hs
 .have hj:(i+(gu.toArray.size:Int)).toNat=j:=by
   rw[seqIndex_neg (by lia) h4]at h1
   rw[aD,<- hl]
   exact aK h1
  exact subscriptTail_builtinR (x:=w) pl.isList.typeIs slot_list_getitem.lookup
   (wpAny_getItem_list_neg (Q:=λr s'=>r=w/\EP X fJ σ Q r s') pl.isList (by lia) (by rw[aD]<;> lia) (by lia) (by rw[hj];simpa using ew) ⟨rfl,fin⟩) hs
def Sq:G5 X (U7 X.K):=by
 intro value slice fJ s σ H x y v u Q I rx ry h hs
 obtain⟨p,xs,i,z,rfl,rfl,hq,he,q⟩:=h
 cases rx
 obtain⟨t,rfl⟩:=ry
 obtain⟨gu,r,pl,hz⟩:=I.tuple hq
 obtain⟨j,h1,h2,h3,h4,h5⟩:=A0 he
 obtain⟨w,ew,Di⟩:=r.get h2
 have hl:=r.length
 have hn:=qj
 have fin:EP X fJ σ Q w s:=⟨z,H,I,Di,q⟩
 exact subscriptTail_builtinR (x:=w) pl.typeIs slot_tuple_getitem.lookup
  (getItem_tuple (j:=j) (Q:=λr s'=>r=w/\EP X fJ σ Q r s') pl (by lia) (by lia) (by rw[aD,<- hl];exact h1) (by simpa using ew) ⟨rfl,fin⟩) hs
def Sr:G5 X U8:=by
 intro value slice fJ s σ H x y v u Q I rx ry h hs
 obtain⟨z,i,c,rfl,rfl,hz,he,q⟩:=h
 obtain⟨t,rfl⟩:=rx
 obtain⟨t',rfl⟩:=ry
 obtain⟨j,h1,h2,h3,h4,h5⟩:=A0 he
 have hl:z.cps.toList.length=z.length:=by simp[Str.length]
 rw[hl]at h1 h4 h5
 have hn:=qj
 exact tail_any (typeIs_str s z t) slot_str_getitem.lookup (getItem_str (c:=c) (by
  have e1:decide (i < -(2 ^ 63:Int))=false:=aS (by lia)
  have e2:decide (i≥2 ^ 63)=false:=aS (by lia)
  rw[e1,e2,Bool.or_false]) (by rw[h1];simpa using h2) ⟨.str ⟨#[c]⟩,H,I.tok _,⟨_,rfl⟩,q⟩) hs
def rIx (K:aa):R2:=λx y H Q=>U9 K x y H Q\/U7 K x y H Q\/U8 x y H Q
def Ss:G5 X (rIx X.K):=Oy.or (Sq.or Sr)
def D7 (gu:au ar)(n j:Nat)(u:ar):Obj.mapSeq (·.setIfInBounds j u) { cls:=.type "list",data:=.seq gu.toArray n}={ cls:=.type "list",data:=.seq (gu.set j u).toArray n}:=by
 simp[Obj.mapSeq]
def Inv.lst {fJ:au (ao×Obj)}{σ:St}{H:Hp}{s:ak}{p:ao}{xs:au V}(I:Inv X fJ σ H s)(h:H p=some (.lst xs)):
 ∃(gu:au ar) (n:Nat),gD xs gu/\s.heap.get? p=some { cls:=.type "list",data:=.seq gu.toArray n}/\xs.length<=sizeLine:=by
 obtain⟨z,gu,n,r,e⟩:=I.iF p _ h
 exact⟨gu,n,r,e,z⟩
def Inv.Sg {fJ:au (ao×Obj)}{σ:St}{H:Hp}{s:ak}{p:ao}{xs ys:au V}{gu its':au ar}{n n':Nat}{f:Obj->Obj}(I:Inv X fJ σ H s)(h:H p=some (.lst xs))
 (ho:s.heap.get? p=some { cls:=.type "list",data:=.seq gu.toArray n}) (hf:f { cls:=.type "list",data:=.seq gu.toArray n}={ cls:=.type "list",data:=.seq its'.toArray n'}) (r:gD ys its') (hz:ys.length<=sizeLine) (t:Nat):
 Inv X fJ σ (upd H p (.lst ys)) {s with heap:=s.heap.update p f,toks:=t}:=by
 have e:(s.heap.update p f).get? p=some { cls:=.type "list",data:=.seq its'.toArray n'}:=by
  rw[bL f ho (by rw[hf]<;> rfl),hf]
 refine I.write (x:=p) (e:=p) (by rw[h];trivial) (.inl rfl) (λb u hb q=>(aX _ _ (bD hb)).trans q) ⟨_,e⟩ ?_
 exact⟨hz,its',n',r,e⟩
def U6:V->V->V->Hp->(Hp->Prop)->Prop:=λo i v H Q=>∃ p xs k j,o=.ref p/\i=.int k/\H p=some (.lst xs)/\FQ xs.length k=some j/\Q (upd H p (.lst (xs.set j v)))
def set_list:Pm X U6:=by
 intro fJ s σ H o i v ov iv u Q I ro ri rv h
 obtain⟨p,xs,k,j,rfl,rfl,hp,hj,q⟩:=h
 cases ro
 obtain⟨t,rfl⟩:=ri
 obtain⟨gu,n,r,ho,hz⟩:=I.lst hp
 obtain⟨h1,h2,h3,h4⟩:=FP hj
 have hl:=r.length
 have hn:=qj
 have I':Inv X fJ σ (upd H p (.lst (xs.set j v))) { s with heap:=s.heap.update p (Obj.mapSeq (·.setIfInBounds j u))} :=
  I.Sg hp ho (D7 gu n j u) (r.set rv j) (by rw[cg];exact hz) s.toks
 by_cases h0:0<=k
 .have hk:k.toNat=j:=by
   rw[seqIndex_of h0 h4]at h1
   exact aK h1
  exact W.ki_setAt ho h0 (by lia) (by rw[aD,<- hl];exact h4) (by rw[hk];exact⟨_,I',q⟩)
 .have hk:(k+(gu.toArray.size:Int)).toNat=j:=by
   rw[seqIndex_neg (by lia) h3]at h1
   rw[aD,<- hl]
   exact aK h1
  exact W.ki_setBack ho (by lia) (by rw[aD,<- hl];exact h3) (by lia) (by rw[hk];exact⟨_,I',q⟩)
def zS (lo hi:av Int)(n:Nat):(sliceBounds lo hi none n).1=((HT.oh n 0 lo:Nat):Int)/\(sliceBounds lo hi none n).2.1=((HT.oh n n hi:Nat):Int)/\(sliceBounds lo hi none n).2.2=1:=by
 refine⟨?_,?_,rfl⟩
 .cases lo with
  |none=>simp[sliceBounds,HT.oh]
  | some i =>
   simp only[sliceBounds,HT.oh,Option.getD_none,show(1:Int)>0 by decide,if_true]
   by_cases h:i<0
   .simp only[h,if_true]<;> lia
   .simp only[h,if_false]<;> lia
 .cases hi with
  |none=>simp[sliceBounds,HT.oh]
  | some i =>
   simp only[sliceBounds,HT.oh,Option.getD_none,show(1:Int)>0 by decide,if_true]
   by_cases h:i<0
   .simp only[h,if_true]<;> lia
   .simp only[h,if_false]<;> lia
def xY (gu:au ar)(lo hi:av Int):slicePick gu.toArray lo hi none=((gu.drop (HT.oh gu.length 0 lo)).take (HT.oh gu.length gu.length hi - HT.oh gu.length 0 lo)).toArray:=by
 obtain⟨h1,h2,h3⟩:=zS lo hi gu.toArray.size
 unfold slicePick
 rw[h1,h2,h3]
 simp only[sliceRange_one,pick_run,aD]<;> rfl
def YB (K:aa):V->av Int->av Int->Hp->VK->Prop:=λx lo hi H Q=>∃ a xs,x=.ref a/\qz K H a xs/\∀ p,H p=none->Q (.ref p) (upd H p (.lst (EB xs lo hi)))
def Ny:XW X (YB X.K):=by
 intro fJ s σ H x v vl vu lo hi sl Q I rx hs pl pu h
 obtain⟨a,xs,rfl,hx,q⟩:=h
 cases rx
 obtain⟨gu,r,ht,hz⟩:=I.list hx
 have hlen:=r.length
 refine⟨"list",_,slot_list_getitem.lookup,ht.isList.typeIs,?_⟩
 refine wpAny_getItem_list_slice ht.isList hs pl pu .none (by simp) ?_ (by rw[aD]<;> lia)
 rw[xY,<- hlen]
 refine⟨.ref s.heap.objs.size,_,I.laid (t':=s.toks) (o:=.lst (EB xs lo hi)) (λb ob q=>j6 _ q) (aw _) ?_,rfl,q _ (I.iF.fresh (aw _))⟩
 exact⟨aV (CJ xs lo hi) hz,_,0,(r.drop (HT.oh xs.length 0 lo)).take (HT.oh xs.length xs.length hi - HT.oh xs.length 0 lo),aI _ rfl⟩
def lQ:V->Bool
 |.ic=>true
 |.bl _=>true
 |.int _=>true
 |.str _=>true
 |_=>false
def Gy:V->V->Bool
 |.ic,.ic=>true
 |.bl a,.bl b=>a==b
 |.bl a,.int b=>(if a then 1 else 0)==b
 |.int a,.bl b=>a==(if b then 1 else 0)
 |.int a,.int b=>a==b
 |.str a,.str b=>a==b
 |_,_=>false
def Ey {A:Around}{s:ak}{y x:V}{u v:ar}(ry:gH y u)(rx:gH x v)(fy:lQ y=true)(fx:lQ x=true):SeqAt.EqAt A s u v (Gy y x):=by
 cases y with
 | ic =>
  cases ry
  cases x with
  |ic=>cases rx;exact SeqAt.EqAt.same _
  |bl b=>cases rx;exact SeqAt.EqAt.none_bool b
  |int b=>obtain⟨t,rfl⟩:=rx;exact SeqAt.EqAt.none_int b t
  |str b=>obtain⟨t,rfl⟩:=rx;exact SeqAt.EqAt.none_str b t
  |_=>exact absurd (show false=true from fx) aN
 | bl a =>
  cases ry
  cases x with
  |ic=>cases rx;exact SeqAt.EqAt.bool_none a
  |bl b=>cases rx;exact SeqAt.EqAt.bool_bool a b
  |int b=>obtain⟨t,rfl⟩:=rx;exact SeqAt.EqAt.bool_int a b t
  |str b=>obtain⟨t,rfl⟩:=rx;exact SeqAt.EqAt.bool_str a b t
  |_=>exact absurd (show false=true from fx) aN
 | int a =>
  obtain⟨t',rfl⟩:=ry
  cases x with
  |ic=>cases rx;exact SeqAt.EqAt.int_none a t'
  |bl b=>cases rx;exact SeqAt.EqAt.int_bool a t' b
  |int b=>obtain⟨t,rfl⟩:=rx;exact SeqAt.EqAt.int_int a t' b t
  |str b=>obtain⟨t,rfl⟩:=rx;exact SeqAt.EqAt.int_str a t' b t
  |_=>exact absurd (show false=true from fx) aN
 | str a =>
  obtain⟨t',rfl⟩:=ry
  cases x with
  |ic=>cases rx;exact SeqAt.EqAt.str_none a t'
  |bl b=>cases rx;exact SeqAt.EqAt.str_bool a t' b
  |int b=>obtain⟨t,rfl⟩:=rx;exact SeqAt.EqAt.str_int a t' b t
  |str b=>obtain⟨t,rfl⟩:=rx;exact SeqAt.EqAt.str_str a t' b t
  |_=>exact absurd (show false=true from fx) aN
 |_=>exact absurd (show false=true from fy) aN
def CA (x:V)(u:ar):Bool:=match u with
 |.none=>Gy .ic x
 |.bool b=>Gy (.bl b) x
 |.int i _=>Gy (.int i) x
 |.str z _=>Gy (.str z) x
 |_=>false
def Ex {x y:V}{u:ar}(r:gH y u)(f:lQ y=true):CA x u=Gy y x:=by
 cases y with
 |ic=>cases r;rfl
 |bl b=>cases r;rfl
 |int i=>obtain⟨t,rfl⟩:=r;rfl
 |str z=>obtain⟨t,rfl⟩:=r;rfl
 |_=>exact absurd (show false=true from f) aN
def tU {x:V}:∀ {xs:au V} {us:au ar},gD xs us->xs.all lQ=true->us.any (CA x)=xs.any λy=>Gy y x
 |_,_,.nil,_=>rfl
 | y::xs,u::us,.cons r t,f=>by
  rw[dE,bW]at f
  rw[c8,c8,Ex r f.1,tU t f.2]
def oH {A:Around}{s:ak}{x:V}{v:ar}(rx:gH x v)(fx:lQ x=true):∀ {xs:au V} {us:au ar},gD xs us->xs.all lQ=true->∀ u∈us,SeqAt.EqAt A s u v (CA x u)
 |_,_,.nil,_=>λu hu=>by cases hu
 | y::xs,u::us,.cons r t,f=>λu' hu=>by
  rw[dE,bW]at f
  rcases List.mem_cons.mp hu with rfl|hu
  .rw[Ex r f.1];exact Ey r rx f.1 fx
  .exact oH rx fx t f.2 u' hu
def Ul (x:V)(xs:au V):Bool:=xs.any λy=>Gy y x
def rIn (K:aa)(neg:Bool):R2:=λx y H Q=>∃ p xs,y=.ref p/\(qz K H p xs\/IH K H p xs)/\lQ x=true/\xs.all lQ=true/\Q (.bl (if neg then !Ul x xs else Ul x xs)) H
def HA:lC X (compareOp .In) (rIn X.K false):=by
 intro fJ s σ H x y v u Q I rx ry h
 obtain⟨p,xs,rfl,hq,fx,fs,q⟩:=h
 cases ry
 rcases hq with hq|hq
 .obtain⟨gu,r,pl,hz⟩:=I.list hq
  refine SeqAt.in_listAt (CA x) pl.isList (λw hw=>oH rx fx r fs w (by simpa using hw)) ⟨.bl _,H,I,rfl,?_⟩
  rw[show gu.toArray.any (CA x)=gu.any (CA x) by simp,tU r fs]
  exact q
 .obtain⟨gu,r,pl,hz⟩:=I.tuple hq
  refine SeqAt.in_tupleAt (CA x) pl (λw hw=>oH rx fx r fs w (by simpa using hw)) ⟨.bl _,H,I,rfl,?_⟩
  rw[show gu.toArray.any (CA x)=gu.any (CA x) by simp,tU r fs]
  exact q
def z9:lC X (compareOp .NotIn) (rIn X.K true):=by
 intro fJ s σ H x y v u Q I rx ry h
 obtain⟨p,xs,rfl,hq,fx,fs,q⟩:=h
 cases ry
 rcases hq with hq|hq
 .obtain⟨gu,r,pl,hz⟩:=I.list hq
  refine SeqAt.notIn_listAt (CA x) pl.isList (λw hw=>oH rx fx r fs w (by simpa using hw)) ⟨.bl _,H,I,rfl,?_⟩
  rw[show gu.toArray.any (CA x)=gu.any (CA x) by simp,tU r fs]
  exact q
 .obtain⟨gu,r,pl,hz⟩:=I.tuple hq
  refine SeqAt.notIn_tupleAt (CA x) pl (λw hw=>oH rx fx r fs w (by simpa using hw)) ⟨.bl _,H,I,rfl,?_⟩
  rw[show gu.toArray.any (CA x)=gu.any (CA x) by simp,tU r fs]
  exact q
def z7:lC X (compareOp .NotIn) (λx y H Q=>∃ i j,x=.str i/\y=.str j/\Q (.bl (!(!(Builtin.Str.occurrences j i 0 j.length 1).isEmpty))) H):=by
 intro fJ s σ H x y v u Q I rx ry h
 obtain⟨i,j,rfl,rfl,q⟩:=h
 obtain⟨t,rfl⟩:=rx
 obtain⟨t',rfl⟩:=ry
 exact notIn_str ⟨.bl _,H,I,rfl,q⟩
def AV:jm X (.builtin "len") (λxs H Q=>∃ p ys,xs=[.ref p]/\(qz X.K H p ys\/IH X.K H p ys)/\Q (.int ys.length) H):=by
 intro fJ s σ H xs us Q I r h
 obtain⟨p,ys,rfl,hq,q⟩:=h
 obtain⟨u,rfl,rx⟩:=vals1 r
 cases rx
 have hn:=qj
 rcases hq with hq|hq
 .obtain⟨gu,r',pl,hz⟩:=I.list hq
  have hlen:=r'.length
  exact Calls.call_len_list pl.isList (by simp only[aD]<;> lia) ⟨.int ys.length,H,I.tok _,⟨s.toks+1,by rw[aD,hlen]⟩,q⟩
 .obtain⟨gu,r',pl,hz⟩:=I.tuple hq
  have hlen:=r'.length
  exact len_tuple pl (by simp only[aD]<;> lia) ⟨.int ys.length,H,I.tok _,⟨s.toks+1,by rw[aD,hlen]⟩,q⟩
def AU:jm X (.builtin "len") (λxs H Q=>∃ z,xs=[.str z]/\z.length<=sizeLine/\Q (.int z.length) H):=by
 intro fJ s σ H xs us Q I r h
 obtain⟨z,rfl,hz,q⟩:=h
 obtain⟨u,rfl,t,rfl⟩:=vals1 r
 have hn:=qj
 exact len_str (by lia) ⟨.int z.length,H,I.tok _,⟨_,rfl⟩,q⟩
def jm.or {f:ar}{r r':au V->Hp->VK->Prop}(h:jm X f r)(h':jm X f r'):jm X f (λxs H Q=>r xs H Q\/r' xs H Q):=by
 intro fJ s σ H xs us Q I rs q
 rcases q with q|q
 .exact h fJ s σ H xs us Q I rs q
 .exact h' fJ s σ H xs us Q I rs q
def AS:jm X (.type "list") (λxs H Q=>∃ p ys,xs=[.ref p]/\(qz X.K H p ys\/IH X.K H p ys)/\∀ l,H l=none->Q (.ref l) (upd H l (.lst ys))):=by
 intro fJ s σ H xs us Q I r h
 obtain⟨p,ys,rfl,hq,q⟩:=h
 obtain⟨u,rfl,rx⟩:=vals1 r
 cases rx
 have fin:∀(gu:au ar),gD ys gu->ys.length<=sizeLine->∀(h':Heap) (c':Nat),(∀ b o',s.heap.get? b=some o'->h'.get? b=some o') ->
  h'.get? s.heap.objs.size=some { cls:=.type "list",dict:=none,data:=.seq gu.toArray c',slots:=#[]}->EP X fJ σ Q (.ref s.heap.objs.size) {s with heap:=h'}:=λgu r' hz h' c' kp e=>
  ⟨.ref s.heap.objs.size,_,I.laid (t':=s.toks) kp (aw _) (show jx X.prog X.w _ h' _ (.lst ys)from⟨hz,gu,c',r',e⟩),rfl,q _ (I.iF.fresh (aw _))⟩
 rcases hq with hq|hq
 .obtain⟨gu,r',pl,hz⟩:=I.list hq
  have hlen:=r'.length
  obtain⟨o,ho,hc,n,hd⟩:=pl.isList
  exact call_list_seq p (.inl rfl) ho hc hd (λh' c' kp e=>fin gu r' hz h' c' kp e) (by simp only[aD]<;> lia)
 .obtain⟨gu,r',pl,hz⟩:=I.tuple hq
  have hlen:=r'.length
  obtain⟨o,ho,hc,n,hd⟩:=pl
  exact call_list_seq p (.inr rfl) ho hc hd (λh' c' kp e=>fin gu r' hz h' c' kp e) (by simp only[aD]<;> lia)
def Xh (K:aa)(T:String)(x:V)(H:Hp):Prop:=match x with
 |.str _=>T = "str"
 |.int _=>T = "int"
 | .ref p=>(T = "list"/\∃ xs,qz K H p xs)\/(T = "tuple"/\∃ o,K.lookup p=some o/\o.cls=.type "tuple"/\o.dict=none) \/
  (T = "dict"/\((∃ fX,H p=some (.dK fX))\/∃ fX,H p=some (.dT fX)))\/(T = "set"/\∃ S n,H p=some (.set S n))
 |_=>False
def Jq {fJ:au (ao×Obj)}{σ:St}{H:Hp}{s:ak}{T:String}{x:V}{v:ar}(I:Inv X fJ σ H s)(r:gH x v)(ty:Xh X.K T x H):
 s.TypeIs v T/\∀ a,v=.ref a->∃ ob,s.heap.get? a=some ob/\ob.dict=none:=by
 cases x with
 | str z =>
  obtain⟨t,rfl⟩:=r
  cases(show T = "str" from ty)
  exact⟨typeIs_str s z t,λ_ e=>nomatch e⟩
 | int i =>
  obtain⟨t,rfl⟩:=r
  cases(show T = "int" from ty)
  exact⟨typeIs_int s i t,λ_ e=>nomatch e⟩
 | ref p =>
  cases r
  rcases ty with⟨rfl,xs,hq⟩|⟨rfl,o,hk,hc,hd⟩|⟨rfl,hk⟩|⟨rfl,S,n,hk⟩
  .obtain⟨gu,_,pl,_⟩:=I.list hq
   refine⟨pl.isList.typeIs,λa e=>?_⟩
   cases e
   obtain⟨o,n,e,c,hd,_⟩:=pl
   exact⟨o,e,hd⟩
  .refine⟨⟨o,I.vN p o hk,hc⟩,λa e=>?_⟩
   cases e
   exact⟨o,I.vN _ o hk,hd⟩
  .have z:∃ o,s.heap.get? p=some o/\o.ExactDict:=by
    rcases hk with⟨fX,hk⟩|⟨fX,hk⟩
    .obtain⟨_,_,_,_,o,_,_,e,ex,_⟩:=I.iF p _ hk
     exact⟨o,e,ex⟩
    .obtain⟨_,_,_,_,o,_,_,e,ex,_⟩:=I.iF p _ hk
     exact⟨o,e,ex⟩
   obtain⟨o,e,ex⟩:=z
   refine⟨⟨o,e,ex.1⟩,λa e2=>?_⟩
   cases e2
   exact⟨o,e,ex.2.1⟩
  .obtain⟨o,_,_,_,e,ex,_⟩:=I.iF p _ hk
   refine⟨⟨o,e,ex.1⟩,λa e2=>?_⟩
   cases e2
   exact⟨o,e,ex.2.1⟩
 |_=>exact False.elim ty
def Yq (K:aa)(T:String)(r:V->au V->Hp->VK->Prop)(to:TE):TE:=λσ H Q=>to σ H λx H1=>Xh K T x H1/\r x [] H1 Q
def tBM (K:aa)(T:String)(r:V->au V->Hp->VK->Prop)(to:TE)(t:TA):TE:=λσ H Q=>to σ H λx H1=>Xh K T x H1/\t σ H1 λxs H2=>r x xs H2 Q
variable {o e:Expr}{es:au Expr}{to:TE}{t:TA}{name:Str}{l7 kD:Pos}{T id:String}{r:V->au V->Hp->VK->Prop}
def RR (pa:PlainAttrs T)(slot:Slot T name id)(SJ:typeOf (.builtin id)=pure (.type "method_descriptor"))(hm:EM X id r)(ho:PE X o to)
 (xk:attributeBase o name X.env (eval o X.env)=eval o X.env:=by rfl) (xh:(l7.endLine==kD.line)=true:=by rfl):PE X (.Call (.Attribute o name l7) [] [] kD) (Yq X.K T r to):=by
 intro fJ s σ H Q I h
 refine wpAny_Call_method0_late xk xh (iN (ho fJ s σ H _ I h) λv s1 uE=>?_)
 obtain⟨x,H1,I1,r1,ty,q1⟩:=uE
 obtain⟨h1,h2⟩:=Jq I1 r1 ty
 exact⟨T,id,pa,slot,SJ,h1,h2,Calls.callWith_builtin rfl (PySem.evalArgs_none (hm fJ s1 σ H1 x [] v [] Q I1 r1 .nil q1))⟩
def Ve (pa:PlainAttrs T)(slot:Slot T name id)(SJ:typeOf (.builtin id)=pure (.type "method_descriptor"))(hm:EM X id r)(ho:PE X o to)(ha:PA X (e::es) t)
 (xk:attributeBase o name X.env (eval o X.env)=eval o X.env:=by rfl)
 (SW:((backTo kD (starEach (e::es) X.env)).all (λx=>!x.1)&&(backToKw kD (keywordEach [] X.env)).all (λx=>x.1.isSome)
   && decide ((e::es).length+([]:au Keyword).length+(if([]:au Keyword).isEmpty then 0 else 1)<30))=true:=by rfl)
 (xh:(l7.endLine==kD.line)=true:=by rfl) (hs:starEach (e::es) X.env=(false,eval e X.env)::starEach es X.env:=by rfl) (El:(backTo kD (starEach es X.env)).any (·.1)=false:=by rfl):
 PE X (.Call (.Attribute o name l7) (e::es) [] kD) (tBM X.K T r to t):=by
 intro fJ s σ H Q I h
 refine wpAny_Call_method_late xk SW xh rfl (iN (ho fJ s σ H _ I h) λv s1 r6=>?_)
 obtain⟨x,H1,I1,r1,ty,q1⟩:=r6
 obtain⟨h1,h2⟩:=Jq I1 r1 ty
 refine⟨T,id,pa,slot,SJ,h1,h2,?_⟩
 have hA:=ha kD fJ s1 σ H1 _ I1 q1
 rw[hs]at hA ⊢
 refine Calls.callWith_builtin (by show(false||(backTo kD (starEach es X.env)).any (·.1))=false;rw[El]<;> rfl) (Calls.evalArgs_plain ?_)
 exact iN hA λus s2 q9=>by obtain⟨vs,H2,I2,r2,q2⟩:=q9;exact hm fJ s2 σ H2 x vs v us Q I2 r1 r2 q2
end
def XX (X:Cx)(id:String)(r:V->au V->Hp->VK->Prop):Prop :=
 ∀(fJ:au (ao×Obj)) (s:ak) (σ:St) (H:Hp) (x:V) (xs:au V) (v:ar) (us:au ar) (Q:VK),Inv X fJ σ H s->gH x v->gD xs us->r x xs H Q ->
  wpAny (model X.prog X.w) X.A (call (.builtin id) (v::us)) (EP X fJ σ Q) X.xe s
def gD.one {x:V}{us:au ar}(h:gD [x] us):∃ u,us=[u]/\gH x u:=by
 cases h with
 |cons r t=>cases t;exact⟨_,rfl,r⟩
def gD.two {x y:V}{us:au ar}(h:gD [x,y] us):∃ u v,us=[u,v]/\gH x u/\gH y v:=by
 cases h with
 |cons r t=>obtain⟨v,rfl,q⟩:=gD.one t;exact⟨_,v,rfl,r,q⟩
def gD.zero:∀ {us:au ar},gD [] us->us=[]
 |_,.nil=>rfl
def gD.dropLast {xs:au V}{us:au ar}(h:gD xs us):gD xs.dropLast us.dropLast:=by
 induction h with
 |nil=>exact .nil
 | cons r t ih =>
  cases t with
  |nil=>exact .nil
  |cons q t'=>exact .cons r ih
def gD.eraseIdx:∀ {xs:au V} {us:au ar} (i:Nat),gD xs us->gD (xs.eraseIdx i) (us.eraseIdx i)
 |_,_,_,.nil=>.nil
 |_,_,0,.cons _ t=>t
 |_,_,i+1,.cons r t=>.cons r (gD.eraseIdx i t)
def Ew {α:Type}(l:au α):l.eraseIdx (l.length - 1)=l.dropLast:=by
 induction l with
 |nil=>rfl
 | cons a r ih =>
  cases r with
  |nil=>rfl
  | cons b r =>
   have e:(a::b::r).length - 1=((b::r).length - 1)+1:=by
    have h1:(a::b::r).length=r.length+2:=rfl
    have h2:(b::r).length=r.length+1:=rfl
    lia
   rw[e,List.eraseIdx_cons_succ,ih]
   all_goals rfl
section
variable {X:Cx}{fJ:au (ao×Obj)}{σ:St}{H:Hp}{s:ak}{l b:ao}{xs ys zs:au V}
def Inv.Oq {gu its':au ar}{n:Nat}{f:Array ar->Array ar}{t':Nat}(I:Inv X fJ σ H s)(hH:H l=some (.lst xs))
 (e:s.heap.get? l=some { cls:=.type "list",data:=.seq gu.toArray n}) (hf:f gu.toArray=its'.toArray) (hv:gD ys its') (hz:ys.length<=sizeLine):
 Inv X fJ σ (upd H l (.lst ys)) {s with heap:=s.heap.update l (Obj.mapSeq f),toks:=t'}:=by
 have q:=PySem.IsL.update e f
 rw[hf]at q
 refine I.write (x:=l) (e:=l) (by rw[hH];exact trivial) (.inl rfl) (λb' u hb hu=>(aX s.heap (Obj.mapSeq f) (bD hb)).trans hu) ⟨_,q⟩ ?_
 exact⟨hz,its',_,hv,q⟩
def Inv.YQ {gu:au ar}{t':Nat}(I:Inv X fJ σ H s)(hv:gD ys gu)(hz:ys.length<=sizeLine):
 Inv X fJ σ (upd H s.heap.objs.size (.lst ys)) {s with heap:=s.heap.push { cls:=.type "list",data:=.seq gu.toArray},toks:=t'}:=
 I.laid (λ_ _ q=>j6 _ q) (aw _) ⟨hz,gu,0,hv,aI _ rfl⟩
def Inv.fresh (I:Inv X fJ σ H s):H s.heap.objs.size=none:=I.iF.fresh (aw _)
def Inv.lZ (I:Inv X fJ σ H s)(hH:H l=some (.lst xs)):xs.length<=sizeLine/\∃(gu:au ar) (n:Nat),gD xs gu/\xs.length=gu.length/\s.heap.get? l=some { cls:=.type "list",data:=.seq gu.toArray n}:=by
 obtain⟨z,gu,n,r,e⟩:=I.iF l _ hH
 exact⟨z,gu,n,r,r.length,e⟩
def KI {n:Nat}(h:n<=sizeLine):Builtin.List.listTooLong n=false:=by
 unfold Builtin.List.listTooLong
 exact aS (by lia)
end
section
variable {X:Cx}
def NI:V->au V->Hp->VK->Prop:=λx vs H Q=>∃ l xs y,x=.ref l/\vs=[y]/\H l=some (.lst xs)/\xs.length<sizeLine/\Q .ic (upd H l (.lst (xs++[y])))
def HK:XX X "list.append" NI:=by
 intro fJ s σ H x vs v us Q I rx rv h
 obtain⟨l,xs,y,rfl,rfl,hH,hz,q⟩:=h
 cases rx
 obtain⟨u,rfl,ru⟩:=rv.one
 obtain⟨z,gu,n,r,hl,e⟩:=I.lZ hH
 refine call_meets F.slot_list_append ⟨_,e,rfl⟩ F.entry_list_append (F.args_list_append_2 _ _) (PySem.list_append l gu.toArray n u (by rw[aD];lia)) ⟨e,?_⟩
 refine⟨.ic,_,I.Oq (its':=gu++[u]) hH e (by simp) (r.append (.cons ru .nil)) ?_,rfl,q⟩
 rw[l5,bJ]
 lia
def NH:V->au V->Hp->VK->Prop:=λx vs H Q=>∃ l b xs zs,x=.ref l/\vs=[.ref b]/\H l=some (.lst xs)/\H b=some (.lst zs)/\xs.length+zs.length<=sizeLine/\Q .ic (upd H l (.lst (xs++zs)))
def Ui:XX X "list.extend" NH:=by
 intro fJ s σ H x vs v us Q I rx rv h
 obtain⟨l,b,xs,zs,rfl,rfl,hH,hB,hz,q⟩:=h
 cases rx
 obtain⟨u,rfl,ru⟩:=rv.one
 cases ru
 obtain⟨z,gu,n,r,hl,e⟩:=I.lZ hH
 obtain⟨z2,Ei,n2,r2,tZ,e2⟩:=I.lZ hB
 have hsz:gu.toArray.size+Ei.toArray.size<=sizeLine:=by rw[aD,aD];lia
 have VO:¬ (!gu.toArray.isEmpty&&Builtin.List.listTooLong (gu.toArray.size+Ei.toArray.size))=true:=by
  rw[KI hsz,fj]
  exact aN
 refine call_meets F.slot_list_extend ⟨_,e,rfl⟩ F.entry_list_extend (F.args_list_extend_2 _ _)
  (AutoSeq1.list_extend_list_list_0 l gu.toArray n b Ei.toArray n2 VO (by rw[aD];lia) (by lia)) ⟨e,e2,?_⟩
 refine⟨.ic,_,I.Oq (its':=gu++Ei) hH e (by simp) (r.append r2) ?_,rfl,q⟩
 rw[l5]
 lia
def YC:V->au V->Hp->VK->Prop:=λx vs H Q=>∃ l xs y,x=.ref l/\vs=[]/\H l=some (.lst xs)/\xs[xs.length - 1]?=some y/\Q y (upd H l (.lst xs.dropLast))
def YL:XX X "list.pop" YC:=by
 intro fJ s σ H x vs v us Q I rx rv h
 obtain⟨l,xs,y,rfl,rfl,hH,hy,q⟩:=h
 cases rx
 have SH:=rv.zero
 subst SH
 obtain⟨z,gu,n,r,hl,e⟩:=I.lZ hH
 obtain⟨u,hu,ru⟩:=r.get hy
 have OC:gu.toArray[gu.toArray.size - 1]?=some u:=by
  show gu.toArray[gu.length - 1]?=some u
  rw[<- Array.getElem?_toList,<- hl]
  exact hu
 refine call_meets F.slot_list_pop ⟨_,e,rfl⟩ F.entry_list_pop (F.args_list_pop_1 _) (MeetsSeq.list_pop_last l gu.toArray n u OC (by rw[aD];lia)) ⟨e,?_⟩
 refine⟨y,_,I.Oq (its':=gu.dropLast) hH e ?_ r.dropLast ?_,ru,q⟩
 .show gu.toArray.eraseIdxIfInBounds (gu.toArray.size - 1)=gu.dropLast.toArray
  rw[aD,List.eraseIdxIfInBounds_toArray,Ew]
 .rw[List.length_dropLast]
  lia
def RC:V->au V->Hp->VK->Prop:=λx vs H Q=>∃ l xs,x=.ref l/\vs=[]/\H l=some (.lst xs)/\Q .ic (upd H l (.lst []))
def KQ:XX X "list.clear" RC:=by
 intro fJ s σ H x vs v us Q I rx rv h
 obtain⟨l,xs,rfl,rfl,hH,q⟩:=h
 cases rx
 have SH:=rv.zero
 subst SH
 obtain⟨z,gu,n,r,hl,e⟩:=I.lZ hH
 refine call_meets F.slot_list_clear ⟨_,e,rfl⟩ F.entry_list_clear (F.args_list_clear_1 _) (AutoSeq1.list_clear_list_0 l gu.toArray n (by rw[aD];lia)) ⟨e,?_⟩
 exact⟨.ic,_,I.Oq (its':=[]) (ys:=[]) hH e rfl .nil (bh _),rfl,q⟩
def YD:R2:=λx y H Q=>∃ l b xs zs,x=.ref l/\y=.ref b/\H l=some (.lst xs)/\H b=some (.lst zs)/\xs.length+zs.length<=sizeLine/\∀ p,H p=none->Q (.ref p) (upd H p (.lst (xs++zs)))
def RZ:lC X (binaryOp .Add) YD:=by
 intro fJ s σ H x y v u Q I rx ry h
 obtain⟨l,b,xs,zs,rfl,rfl,hH,hB,hz,q⟩:=h
 cases rx
 cases ry
 obtain⟨z,gu,n,r,hl,e⟩:=I.lZ hH
 obtain⟨z2,Ei,n2,r2,tZ,e2⟩:=I.lZ hB
 refine PySem.P.add_list e e2 ?_ (by rw[aD,aD];lia)
 have ea:gu.toArray++Ei.toArray=(gu++Ei).toArray:=by simp
 rw[ea]
 exact⟨.ref _,_,I.YQ (t':=s.toks) (r.append r2) (by rw[l5];lia),rfl,q _ I.fresh⟩
end
end L2
namespace Att
open PySem PySem.W PySem.Calls PyProof.Rows
def vn {P:Params}{h:Heap}:∀(ns:au Int) (vs:au ar),WellAll P h vs (ns.map WData.int)->IntsAre vs ns:=by
 intro ns
 induction ns with
 | nil =>
  intro vs w
  rw[List.map_nil]at w
  cases w
  exact .nil
 | cons n ns ih =>
  intro vs w
  rw[aB]at w
  cases w with
  | cons a b =>
   cases a
   exact .cons _ _ (ih _ b)
def Hn {l:OpenLaw}{n:Nat}(hn:l.most=some n){P:Params}{h:Heap}{args:au WData}{vals:au ar}
 (OE:l.row.toRowW.claim.pre args=true) (Y5:WellAll P h vals args):
 ∃ a vs ns,vals=[Value.ref a]/\args=[WData.list (ns.map WData.int)]/\h.get? a=some { cls:=.type "list",data:=.seq vs.toArray}/\IntsAre vs ns/\ns.length<=n:=by
 have hsh:WShape.hasAll [] args [.list .int]=true:=(pre_splitW OE).1
 have hc:l.pre.holds [] { args:=args}=true:=(pre_splitW OE).2
 obtain⟨d,r,rfl,h1,h2⟩:=hasAllW_cons hsh
 obtain rfl:=hasAllW_nil h2
 obtain⟨xs,rfl,h3⟩:=hasW_list h1
 obtain⟨ns,rfl⟩:=items_int h3
 have hlen:ns.length<=n:=by
  unfold OpenLaw.pre at hc
  have h4:(WTm.not (.lt (.lit (.int (n:Int))) (.len (.arg 0)))).holds [] { args:=[.list (ns.map .int)]}=true:=by
   have h4:=(holds_andW hc).1
   rw[hn]at h4
   exact h4
  have h5:=condW_of h4 (w_not (w_lt w_lit (w_len_list (w_arg rfl))))
  rw[ia]at h5
  refine Nat.le_of_not_lt λq=>?_
  have q':(n:Int)<((ns.length:Nat):Int):=by lia
  first
   |(rw[aJ q']at h5;exact absurd h5 (by decide))
   |(simp at h5;lia)
 cases Y5 with
 | cons w1 w2 =>
  cases w2
  cases w1 with
  |list ho ZO=>exact⟨_,_,ns,rfl,rfl,ho,vn ns _ ZO,hlen⟩
def Hv (l:OpenLaw)(args:au WData):l.row.toRowW.claim.post args (.bool true) args=true :=
 postW_of (r:=l.row.toRowW) (X:=(true==true))
  (show WShape.has [] (.bool true) .bool=true by first|rfl|decide|simp[WShape.has,WShape.arms,WShape.armsAll])
  (show(WTm.eq .res (.lit (.bool true))).value [] { args:=args,res:=some (.bool true),after:=args}=some (.bool (true==true))from w_eq_bool (w_res rfl) w_lit) rfl
def CV {l:OpenLaw}{n:Nat}{q:ah}{loose:au Str}{XP:(Str->av ar)->Heap->Prop}{YP:ai->Heap->Prop}{d:DefRec}
 (hn:l.most=some n) (ZE:d.params.defaults=[])
 (call:∀(w:ai) (s₀ s₁:ak) (mg mb:Str->av ar) (fa:ao) (o:Obj) (pm cd doc:ar) (a:ao) (vs:au ar) (ns:au Int),
   Ground q loose [] XP w s₀ mg mb s₁.heap->YP w s₁.heap ->
   s₁.heap.get? fa=some o->o.data=.func (docDef d.name d.params d.body d.scope pm cd doc)->s₁.heap.CodeRec cd d.name->mg d.name=some (.ref fa) ->
   s₁.heap.get? a=some { cls:=.type "list",data:=.seq vs.toArray}->IntsAre vs ns->ns.length<=n->s₁.gens=#[] ->
   codeAny (model l.prog w) callerA (.call (.ref fa) ⟨[.ref a],[]⟩) (λr s'=>r=.ok (.ret (.bool true))/\OldK s₁.heap s'.heap/\s'.os=s₁.os/\AllBare s'.gens) s₁):
 WalkO q loose XP YP l.row.toRowW d [] (λf vs=>PySem.call f vs):=by
 intro w s₀ s₁ mg mb G Y fa o pm cd doc dV kV ho hd En hD Zk hg args vals as OE hlay Ze Y5 Zn
 obtain rfl:dV=.none:=Dflts.none hD ZE
 obtain rfl:kV=.none:=Dflts.noKw hD
 obtain⟨a,vs,ns,rfl,rfl,SR,hints,hlen⟩:=Hn hn OE Y5
 refine enter_call (codeAny_mono (call w s₀ s₁ mg mb fa o pm cd doc a vs ns G Y ho (fd_plain hd) En Zk SR hints hlen hg) λr s' hq=>?_)
 obtain⟨rfl,h2,h3,h4⟩:=hq
 exact⟨.inl ⟨.bool true,.bool true,[],rfl,λ_=>rfl,.bool true,Hv l _,λ_=>⟨List.Pairwise.nil,λ_ hm=>(nomatch hm)⟩⟩,h2,h3,h4⟩
end Att
namespace L2
open PySem PySem.Spec PyProof.Rows
def Hd {vs:au ar}{ns:au Int}(h:IntsAre vs ns):gD (ns.map V.int) vs:=by
 induction h with
 |nil=>exact .nil
 |cons n t h ih=>exact .cons ⟨t,rfl⟩ ih
def TY (H:Hp):Prop:=∀ b,H b=none\/∃ o xs,H b=some (.Cv o (.lst xs))
def K4 {P:ah}{w:ai}{K:aa}{mg mb:Str->av ar}{CX:G8}{k:Nat}{fa a:ao}{fd:aj}{x:Str}{sp:Sp}{s₁:ak}{vs:au ar}{ns:au Int}
 (KX:K.In s₁.heap) (Uq:s₁.heap.Ns mainGlobals mg) (hb:s₁.heap.Ns builtinsNs mb) (hbb:∀ x:Str,x ≠ "__name__"->mb x=bootBuiltins x) (Zo:s₁.heap.NoLimit) (hg:s₁.gens=#[])
 (ha:s₁.heap.get? a=some { cls:=.type "list",data:=.seq vs.toArray}) (hi:IntsAre vs ns) (hl:ns.length<=sizeLine) (hr:jO k callerA)
 (F:∀ fK:Heap,K.In fK->fK.Ns mainGlobals mg->gL P w K mg fK CX k fa fd [x] sp) (VW:∀(s:ak) (u:ar),BindsTo s fd ⟨[u],[]⟩ [(x,u)])
 (MQ:∀ H:Hp,TY H->qz K H a (ns.map V.int)->sp [.ref a] H (λv _=>v=.bl true) λ_ _ _=>False)
 (ZR:∀ H e s',CX [] H s₁ (λ_ _ _=>False) e s'->False):
 codeAny (model P w) callerA (.call (.ref fa) ⟨[.ref a],[]⟩) (λr s'=>r=.ok (.ret (.bool true))/\OldK s₁.heap s'.heap/\s'.os=s₁.os/\AllBare s'.gens) s₁:=by
 have rv:=Hd hi
 have YR:=hi.length
 have core:∀ H:Hp,TY H->qz K H a (ns.map V.int)->pQ P w H s₁.heap->(∀ b,H b≠none->b=a)->(H a≠none->K.lookup a=none) ->
  codeAny (model P w) callerA (.call (.ref fa) ⟨[.ref a],[]⟩) (λr s'=>r=.ok (.ret (.bool true))/\OldK s₁.heap s'.heap/\s'.os=s₁.os/\AllBare s'.gens) s₁:=by
  intro H hO hS iF hA hK
  have GW:∀ {b:ao} {o:Obj},s₁.heap.get? b=some o->H b=none->(Au s₁.heap H).get? b=some o:=λe n=>Ln e n
  have Vr:∀ {b:ao} {o:Obj} {es:Array DictEntry} {ep:Nat},s₁.heap.get? b=some o->o.data=.dict es ep->H b=none:=λ{b o es ep} e d=>by
   cases q:H b with
   |none=>rfl
   | some u =>
    have e':b=a:=hA b (by rw[q];simp)
    subst e'
    rw[ha]at e;cases e
    have d':Data.seq vs.toArray _=Data.dict es ep:=d
    cases d'
  have Xs:∀ {b:ao} {m:Str->av ar},s₁.heap.Ns b m->(Au s₁.heap H).Ns b m:=λ{b m} qo=>by obtain⟨o,es,ep,e,d,r⟩:=qo;exact⟨o,es,ep,GW e (Vr e d),d,r⟩
  have hKb:K.In (Au s₁.heap H):=λb o e=>GW (KX b o e) (by
   cases q:H b with
   |none=>rfl
   | some u =>
    have e':b=a:=hA b (by rw[q];simp)
    subst e'
    rw[hK (by rw[q];simp)]at e;cases e)
  have hM:Mod K mg (Au s₁.heap H):=⟨hKb,Xs Uq,⟨mb,Xs hb,hbb⟩,let ⟨mc,h1,h2⟩:=Zo;⟨mc,Xs h1,h2⟩⟩
  have e0:yt P w K mg (Au s₁.heap H) callerA [] s₁ H:=⟨rfl,hM,λb o e=>Od e,Nat.le_of_eq (Ie _ _),trivial,λb hb=>absurd (show b∈([]:au ao)from hb) (by simp),iF,.of_eq hg⟩
  refine codeAny_mono ((F _ hKb (Xs Uq)).run callerA [] s₁ H ⟨[.ref a],[]⟩ [.ref a] [.ref a] _ _ hr e0 (VW s₁ (.ref a)) (.cons rfl .nil) (MQ H hO hS)) λr s' h=>?_
  cases r with
  |error e=>exact(ZR H e s' h).elim
  | ok fl =>
   cases fl with
   |next=>exact False.elim h
   |brk=>exact False.elim h
   |cont=>exact False.elim h
   | ret u =>
    obtain⟨v,H',os,bare,un,Zh,r',q⟩:=h
    have q':v=.bl true:=q
    subst q'
    obtain rfl:u=Value.bool true:=r'
    refine⟨rfl,OldK.of_keep λb o e=>?_,os,bare⟩
    cases q:H b with
    |none=>exact un.keep b o e q (by intro z;exact absurd (show b∈([]:au ao)from z) (by simp)) (by simp)
    | some u =>
     rcases hO b with z|⟨ob,xs,z⟩
     .rw[q]at z;cases z
     .have z2:=un.tx b ob _ z
      obtain⟨e1,_⟩:=iF b _ z
      obtain⟨e2,_⟩:=Zh b _ z2
      rw[e]at e1;cases e1
      exact e2
 cases hk:K.lookup a with
 | some o =>
  have e:=KX a o hk
  rw[ha]at e
  cases e
  refine core (λ_=>none) (λ_=>.inl rfl) (.inr ⟨_,vs.toArray,_,hk,rfl,rfl,rfl,by rw[aD,YR];exact hl,by simpa using rv⟩) (λb u z=>by have z':(none:av HO)=some u:=z;cases z') (λb z=>absurd rfl z) λz=>absurd rfl z
 | none =>
  refine core (λb=>if b=a then some (.Cv { cls:=.type "list",data:=.seq vs.toArray} (.lst (ns.map V.int)))else none) (λb=>?_) (.inl (.inr ⟨{ cls:=.type "list",data:=.seq vs.toArray},aF rfl⟩)) (λb u z=>?_) (λb z=>?_) λ_=>hk
  .by_cases hb:b=a
   .exact .inr ⟨_,_,aF hb⟩
   .exact .inl (aG hb)
  .by_cases hb:b=a
   .have z':=(aF hb).symm.trans z
    cases z'
    subst hb
    exact⟨ha,by rw[ia];exact hl,vs,_,rv,ha⟩
   .have z':=(aG hb).symm.trans z
    cases z'
  .by_cases hb:b=a
   .exact hb
   .exact absurd (aG hb) z
def M8 {l:W.OpenLaw}{n k:Nat}{q:ah}{loose:au Str}{XP:(Str->av ar)->Heap->Prop}{YP:ai->Heap->Prop}{d:DefRec}{K:Params->aa}{CX:ai->G8}{sp:ai->Sp}{x:Str}
 (hn:l.most=some n) (IS:n<=sizeLine) (ZE:d.params.defaults=[]) (hr:jO k callerA)
 (hY:∀(w:ai) (h:Heap),YP w h->(K w.params).In h)
 (F:∀(w:ai) (mg:Str->av ar) (fa:ao) (h:Heap),(K w.params).In h->h.Ns mainGlobals mg->mg d.name=some (.ref fa) ->
   ∃ fd:aj,(∀(s:ak) (u:ar),BindsTo s fd ⟨[u],[]⟩ [(x,u)]) /\
    ∀ fK:Heap,(K w.params).In fK->fK.Ns mainGlobals mg->gL l.prog w (K w.params) mg fK (CX w) k fa fd [x] (sp w))
 (MQ:∀(w:ai) (H:Hp) (a:ao) (ns:au Int),ns.length<=n->TY H->qz (K w.params) H a (ns.map V.int)->sp w [.ref a] H (λv _=>v=.bl true) λ_ _ _=>False)
 (ZR:∀(w:ai) (H:Hp) (s:ak) (e:ar) (s':ak),CX w [] H s (λ_ _ _=>False) e s'->False):
 W.WalkO q loose XP YP l.row.toRowW d [] (λf vs=>PySem.call f vs):=by
 refine Att.CV hn ZE λw s₀ s₁ mg mb fa o pm cd doc a vs ns G Y ho hd En Zk SR hints hlen hg=>?_
 have KX:=hY w _ Y
 obtain⟨fd,hb,hF⟩:=F w mg fa _ KX G.T.g Zk
 exact K4 KX G.T.g G.T.b G.T.builtins G.T.nolimit hg SR hints (aV hlen IS) hr hF hb (λH hO hS=>MQ w H a ns hlen hO hS) λH e s'=>ZR w H s₁ e s'
def jY (s:Stmt):Arguments:=match s with
 |.FunctionDef _ a _ _ _ _ _ _ _ _=>a
 |_=>{ posonlyargs:=[],args:=[],vararg:=none,kwonlyargs:=[],kw_defaults:=[],kwarg:=none,defaults:=[]}
def jB (s:Stmt):au Stmt:=match s with
 |.FunctionDef _ _ b _ _ _ _ _ _ _=>b
 |_=>[]
def fR (s:Stmt):Scope:=match s with
 |.FunctionDef _ _ _ _ _ _ sc _ _ _=>sc
 |_=>{ kind:=.function,names:=[],isGenerator:=false,isCoroutine:=false}
abbrev ku:G8:=λ_ _ _ _ _ _=>False
abbrev E0:XK:=λ_ _ _=>False
def Ko {X:Cx}:Passes ku X E0:=λ_ _ _ _ _ _ _ h=>h.elim
structure j5 (K:aa)(x qual:Str)(st:Stmt)(f:ao)(fd:aj):Prop where
 ex:∃(oc:ar) (od:Option ao) (kV doc pm:ar) (an:Option ao) (je ct:ar) (N3:Array (Option ar)),
  fd=W.fnOf x qual (jY st) (jB st) (fR st) .none kV doc pm an je ct/\K.lookup f=some ⟨oc,od,.func fd,N3⟩/\W.codeIn K je qual=true
 kp:W.keepIn K (.ref f)=true
section
variable {P:ah}{w:ai}{K:aa}{mg:Str->av ar}{fK:Heap}
def j5.ok {x qual:Str}{st:Stmt}{f:ao}{fd:aj}{N ps:au Str}{k:Nat}{sp:Sp}(F:j5 K x qual st f fd)(S:gg N ps (fR st))(len:∀ vs H Q E,sp vs H Q E->vs.length=ps.length)
 (xj:∀(je:ar) (A:Around) (fV:au Env) (s:ak) (H:Hp) (vs:au V) (Q:VK) (E:XK),jO k (A.deeper (envOfC qual (fR st) s.heap.objs.size f je))->sp vs H Q E ->
   ∃ t,A5 (rh ku P w K mg fK N qual (fR st) f je A fV s H E).Vo (jB st) t/\t { nx:=λ_ H'=>Q .ic H',rt:=Q} (start N vs) H):gL P w K mg fK ku (k+1) f fd ps sp:=by
 obtain⟨oc,od,kV,doc,pm,an,je,ct,N3,rfl,lk,En⟩:=F.ex
 refine QF lk En S len λA fV s H vs Q E hr MQ=>?_
 obtain⟨t,h,q⟩:=xj je A fV s H vs Q E hr MQ
 exact⟨t,h.Vo,q⟩
def j5.binds {x qual:Str}{st:Stmt}{f:ao}{fd:aj}{ps:au Str}(F:j5 K x qual st f fd)
 (h:∀(kV doc pm:ar) (an:av ao) (je ct:ar) (us:au ar),us.length=ps.length->bindArgs (W.fnOf x qual (jY st) (jB st) (fR st) .none kV doc pm an je ct) ⟨us,[]⟩=pure (ps.zip us)):Binds K fd ps []:=by
 obtain⟨oc,od,kV,doc,pm,an,je,ct,N3,rfl,lk,En⟩:=F.ex
 exact .all (h kV doc pm an je ct)
def Tc {x qual:Str}{st:Stmt}{f:ao}{oc:ar}{od an:av ao}{N3:Array (av ar)}{kV doc pm je ct:ar}(l:K.lookup f=some ⟨oc,od,.func (W.fnOf x qual (jY st) (jB st) (fR st) .none kV doc pm an je ct),N3⟩)
 (c:W.codeIn K je qual=true) (k:W.keepIn K (.ref f)=true):j5 K x qual st f (W.fnOf x qual (jY st) (jB st) (fR st) .none kV doc pm an je ct):=⟨⟨oc,od,kV,doc,pm,an,je,ct,N3,rfl,l,c⟩,k⟩
end
def rE {A:Around}{k:Nat}(hr:jO k A):A.units+1<cLine:=cw (Nat.add_le_add_left (by decide:1<=64) _) hr.units
def Y0 {A B:Prop}(h:B):if false=true then A else B:=by
 rw[aG aN]
 exact h
def YZ {A B:Prop}(h:A):if true=true then A else B:=by
 rw[aF rfl]
 exact h
def iL (H H':Hp):Prop:=∀ b o,H b=some o->H' b=some o
def iL.refl (H:Hp):iL H H:=λ_ _ h=>h
def iL.trans {H H1 H2:Hp}(a:iL H H1)(b:iL H1 H2):iL H H2:=λc o h=>b c o (a c o h)
def iL.free {H H':Hp}(e:iL H H'){l:ao}(h:H' l=Option.none):H l=Option.none:=by
 cases q:H l with
 |none=>rfl
 | some o =>
  rw[e l o q]at h
  cases h
end L2
namespace L2
open PySem PySem.W PyProof.Rows
noncomputable abbrev PH:=Fast.tw14082659384304107361
noncomputable abbrev PF:=Fast.tw14364793385576792824
noncomputable abbrev Q9:=Fast.tw4187177175401517315
noncomputable abbrev S00 (w:ai)(os:OsState):ak:=⟨boot_heap w.params,#[],boot_drawn,boot_toks,os⟩
def IB (P:Params):((boot_heap P).isNs mainGlobals,(boot_heap P).objs.size,(boot_heap P).nsMap mainGlobals "__annotations__")=(true,11,some (.ref 6)):=by kernel_rfl
def Ou {p q:ah}{loose:au Str}{Xt:ak->Bool}{α:Type}{Yf:ak->α}{Ya:ai->α}{N M:Nat}
 (e:opening p=plainProg p.main.scope.names) (hN:Nat.ble 600 N=true) (f:∀ s,fenceModules? p s=some s) (le:Nat.ble M N=true)
 (h:∀(w:ai) (os:OsState),(PH PF p w 11 (some (.ref 6)) M (S00 w os) (topStub p)).map (λs =>
   (staticsOk (importedModules p.main.body) (boot_heap w.params) s.heap&&namesBound p s.heap&&gensDone s&&laidKept (boot_heap w.params) s.heap,Q9 q loose (importedModules p.main.body) Xt true s,Yf s))=some (true,openGood q loose,Ya w)):
 LeftO p q loose Xt Yf Ya N:=λw=>by
 obtain⟨⟨h0,gs,d,k,os⟩,e1,e2⟩:=Option.map_eq_some_iff.mp (boot_open e hN f w)
 obtain⟨rfl,rfl,rfl,rfl⟩:h0=boot_heap w.params/\gs=#[]/\d=boot_drawn/\k=boot_toks:=by simpa using e2
 have b:=IB w.params
 simp only[Prod.mk.injEq]at b
 obtain⟨s1,r,e3⟩:=Option.map_eq_some_iff.mp (h w os)
 simp only[Prod.mk.injEq]at e3
 have r':topRun treeTable p w 11 (some (.ref 6)) M (S00 w os) (topStub p)=some s1:=by
  rw[show topRun=PH from Fast.te14082659384304107361,show treeTable=PF from Fast.te14364793385576792824];exact r
 have r2:=topRun_mono (N - M) _ _ _ _ r'
 rw[show M+(N - M)=N by have:=Nat.le_of_ble_eq_true le;lia]at r2
 have t:topFrom treeTable p w N ⟨boot_heap w.params,#[],boot_drawn,boot_toks,os⟩=some s1:=by
  unfold topFrom
  dsimp only
  rw[b.1,b.2.1,b.2.2,r2]
  show(match staticsOk (importedModules p.main.body) (boot_heap w.params) s1.heap&&namesBound p s1.heap&&gensDone s1&&laidKept (boot_heap w.params) s1.heap with|true=>_|false=>_)=_
  rw[e3.1]
 unfold openEnds
 rw[e1]
 show(topFrom treeTable p w N _).map _=_
 rw[t]
 refine cH some (Prod.ext ?_ e3.2.2)
 rw[<- e3.2.1]
 exact congrFun (congrFun (congrFun (congrFun (congrFun (congrFun Fast.te4187177175401517315 q) loose) (importedModules p.main.body)) Xt) true) s1
def wg (P:Params)(x:Str)(t:Nat)(v:ar):DictEntry:=⟨PyData.keyHash P x,.str x t,v⟩
def Vx (P:Params)(nm:Str)(t:Nat)(es:au (Str×Nat×ar)):Obj:=⟨.type "dict",none,.dict ((([("__name__",165,.str nm t),("__doc__",166,.none),("__package__",167,.none),("__loader__",168,.builtin "__main__.__loader__#opaque"),("__spec__",169,.none),("__annotations__",170,.ref 6),("__builtins__",171,.ref 4),("__file__",173,.str "/claim/cut.py" 172),("__cached__",174,.none)]:au (Str×Nat×ar))++es).map λe=>wg P e.1 e.2.1 e.2.2).toArray (es.length+9),#[]⟩
abbrev sS (x:String):Str:=Str.ofString x
abbrev me (x:String)(t:Nat)(v:ar):Str×Nat×ar:=(Str.ofString x,t,v)
abbrev ko (a:ao)(o:Obj):ao×Obj:=(a,o)
abbrev sr (a:ao):av (av ar):=some (some (.ref a))
abbrev sn:av (av ar):=some none
def XM (x q:Str)(s:Stmt)(pm:ar)(c:ao):Obj:=⟨.type "function",none,.func (fnOf x q (jY s) (jB s) (fR s) .none .none .none pm none (.ref c) .none),#[]⟩
def coQ (x q:Str)(t l a r1 r2:Nat)(v1 v2:ar)(r3 t2:Nat):Obj:=⟨.type "code",none,.fields #[.str x t,.str q (t+1),.str "/claim/cut.py" (t+2),.int l 0,.int a 0,.int 0 0,.int 0 0,.int 3 0,.ref r1,.bool true,.int 181 0,.ref r2,.none,v1,v2,.ref r3,.int t2 0,.int l 0,.str "/claim/cut.py" (t2+1)],#[]⟩
def Ls {K:Frag}{x q:Str}{s:Stmt}{f c:ao}{pm:ar}(l:K.lookup f=some (XM x q s pm c):=by kernel_rfl)(c':codeIn K (.ref c) q=true:=by kernel_rfl)(k:keepIn K (.ref f)=true:=by kernel_rfl):j5 K x q s f (fnOf x q (jY s) (jB s) (fR s) .none .none .none pm none (.ref c) .none):=Tc l c' k
def Q0 {α:Type}{P:au α->Prop}(h:∀ a,P [a])(us:au α)(e:us.length=1):P us:=by
 obtain⟨a,rfl⟩:=List.length_eq_one_iff.mp e
 exact h a
def GR {α:Type}{P:au α->Prop}{n:Nat}(h:∀ a us,us.length=n->P (a::us))(us:au α)(e:us.length=n+1):P us:=by
 cases us with
 |nil=>cases e
 |cons a us=>exact h a us (Nat.succ.inj e)
def O2 (s:Stmt):au Stmt:=match s with
 |.ClassDef _ _ _ b _ _ _ _ _ _ _=>b
 |_=>[]
def To (s:Stmt):Pos:=match s with
 |.FunctionDef _ _ _ _ _ _ _ _ _ p=>p
 |_=>⟨0,0,0,0⟩
end L2
namespace L2
open PySem PySem.Spec PyProof.Rows
def lJ (cells:au (Str×ao)):au (Str×NameKind)->au (Str×ao)->au (Str×ao)
 |[],acc=>acc
 |(n,k)::r,acc=>if k==.free then lJ cells r ((n,(cells.lookup n).getD 0)::acc)else lJ cells r acc
def sf {env:Env}(f:Str×NameKind->au (Str×ao)->Sem (ForInStep (au (Str×ao))))
 (hf:∀ n k cs,f (n,k) cs=if k==.free then(do let a <- cellOf env n;pure (.yield ((n,a)::cs)))else pure (.yield cs)):
 ∀(names:au (Str×NameKind)) (acc:au (Str×ao)),(∀ y∈names,y.2=.free->∃ c,env.cells.lookup y.1=some c) ->
  forIn names acc f=pure (lJ env.cells names acc)
 |[],acc,_=>by rw[dN];rfl
 | (n,k)::r,acc,h=>by
  rw[bH,hf]
  unfold lJ
  have hr:∀ y∈r,y.2=.free->∃ c,env.cells.lookup y.1=some c:=λy hy=>h y (nE _ hy)
  by_cases hk:(k==NameKind.free)=true
  .rw[aF hk,aF hk]
   obtain⟨c,hc⟩:=h (n,k) aH (by simpa using hk)
   have tf:env.cells.lookup n=some c:=hc
   have e:cellOf env n=pure c:=by unfold cellOf;rw[tf]
   rw[e,tf,pure_bind,pure_bind]
   exact sf f hf r _ hr
  .rw[aG hk,aG hk,pure_bind]
   exact sf f hf r _ hr
def oq {scope:Scope}{env:Env}(h:∀ y∈scope.names,y.2=.free->∃ c,env.cells.lookup y.1=some c):closureFor scope env=pure (lJ env.cells scope.names []):=by
 simp only[closureFor]
 rw[sf (env:=env) _ (λn k cs=>by
  by_cases hk:(k==NameKind.free)=true
  .simp only[hk,if_true]
  .simp only[Bool.not_eq_true]at hk;simp only[hk,eL,if_false]) scope.names [] h]
 rfl
def pw {cells:au (Str×ao)}:∀ {names:au (Str×NameKind)} {acc:au (Str×ao)},(∀ y∈names,y.2=.free->∃ c,cells.lookup y.1=some c) ->
 ∀ n c,(n,c)∈lJ cells names acc->(n,c)∈acc\/cells.lookup n=some c
 |[],acc,_,n,c,h=>.inl h
 | (m,k)::r,acc,hf,n,c,h=>by
  unfold lJ at h
  have hr:∀ y∈r,y.2=.free->∃ c,cells.lookup y.1=some c:=λy hy=>hf y (nE _ hy)
  split at h
  .rename_i hk
   rcases pw hr n c h with h|h
   .rcases List.mem_cons.mp h with e | h
    .cases e
     obtain⟨c,hc⟩:=hf (m,k) aH (by simpa using hk)
     have tf:cells.lookup m=some c:=hc
     exact .inr (by rw[tf];rfl)
    .exact .inl h
   .exact .inr h
  .exact pw hr n c h
def sh {cells:au (Str×ao)}:∀(names:au (Str×NameKind)) (acc:au (Str×ao)) (n:Str),(acc.lookup n).isSome=true->((lJ cells names acc).lookup n).isSome=true
 |[],acc,n,h=>h
 | (m,k)::r,acc,n,h=>by
  unfold lJ
  split
  .refine sh r _ n ?_
   rw[dQ]
   cases n==m
   .exact h
   .rfl
  .exact sh r _ n h
def px {cells:au (Str×ao)}:∀(names:au (Str×NameKind)) (acc:au (Str×ao)) (n:Str),(n,NameKind.free)∈names->((lJ cells names acc).lookup n).isSome=true
 | (m,k)::r,acc,n,h=>by
  unfold lJ
  rcases List.mem_cons.mp h with e|h
  .cases e
   refine sh r _ m ?_
   simp
  .split
   .exact px r _ n h
   .exact px r _ n h
def ml:∀(names:au (Str×NameKind)) (n:Nat) (a b:au (Str×ao)),cellsFrom n names (a++b)=cellsFrom n names a++b
 |[],_,_,_=>rfl
 | (m,k)::r,n,a,b=>by
  unfold cellsFrom
  split
  .exact ml r (n+1) ((m,n)::a) b
  .exact ml r n a b
def qi {M:Model}{A:Around}{E:ar->ak->Prop}{s:ak}{scope:Scope}{cl:au (Str×ao)}{env:Env}{Q:Env->ak->Prop}
 (h:Q (newEnv scope s.heap.objs.size env.globals (cellsFrom (s.heap.objs.size+1) scope.names cl) env.qual none .none (some env) builtinsNs) {s with heap:=pushCells (s.heap.push { cls:=.type "dict",data:=.dict #[]}) scope.names}):
 wpAny M A (newFunctionEnv scope env.globals cl [] env.qual none .none (some env)) Q E s:=by
 simp only[newFunctionEnv,Option.isSome_some,if_true]
 refine f9 (wpAny_alloc ?_)
 refine f9 (wpAny_layCells _ (λname kind cells=>by cases Lm:kind==NameKind.cell<;>simp[Lm]) _ _ _ _ ?_)
 rw[show({s with heap:=s.heap.push { cls:=.type "dict",data:=.dict #[]}}:ak).heap.objs.size=s.heap.objs.size+1 from bu ..]
 rw[dN]
 exact f9 (aA (aA h))
def ip (js:au (av Nat))(σ:St):St:=js.map λo=>o.bind λj=>(σ[j]?).join
def wu (XN:au Str)(xsc:Scope)(N:au Str)(js:au (av Nat))(sc:Scope):Bool :=
 (sc.kind==.function)&&(sc.names.all λy=>(y.2 != .local)||(sc.names.lookup y.1==some .local)) &&
 (sc.names.all λy=>(y.2 != .free)||(xsc.names.lookup y.1==some .cell)||(xsc.names.lookup y.1==some .free)) &&
 (js.length==N.length)&&decide N.Nodup &&
 ((N.zip js).all λp=>match p.2 with
   |none=>true
   |some j=>XN[j]?==some p.1&&sc.names.contains (p.1,NameKind.free)&&sc.names.lookup p.1==some .free&&!(sc.names.contains (p.1,NameKind.cell)))
structure kc (X:Cx)(N:List Str)(js:List (Option Nat))(sc:Scope):Prop where
 kind:sc.kind=.function
 loc:∀ y∈sc.names,y.2=.local->sc.names.lookup y.1=some .local
 free:∀ y∈sc.names,y.2=.free->X.env.kindOf y.1=some .cell\/X.env.kindOf y.1=some .free
 len:js.length=N.length
 nd:N.Nodup
 slot:∀(i:Nat) (x:Str) (j:Nat),N[i]?=some x->js[i]?=some (some j)->X.N[j]?=some x/\(x,NameKind.free)∈sc.names/\sc.names.lookup x=some .free/\(x,NameKind.cell)∉sc.names
def ED {X:Cx}{XN:au Str}{xsc:Scope}{N:au Str}{js:au (av Nat)}{sc:Scope}(h:wu XN xsc N js sc=true)(hN:X.N=XN:=by rfl)(hs:X.env.scope=xsc:=by rfl):kc X N js sc:=by
 subst hN;subst hs
 unfold wu at h
 simp only[bW,c9,Bool.or_eq_true,bne_iff_ne,beq_iff_eq,bN]at h
 obtain⟨⟨⟨⟨⟨h1,h2⟩,h3⟩,h4⟩,h5⟩,h6⟩:=h
 refine⟨h1,λy hy e=>(h2 y hy).resolve_left λz=>z e,λy hy e=>?_,h4,h5,λi x j e1 e2=>?_⟩
 .rcases h3 y hy with(z | z) | z
  .exact absurd e z
  .exact .inl z
  .exact .inr z
 .have hm:(x,some j)∈N.zip js:=List.mem_iff_getElem?.mpr ⟨i,by rw[List.getElem?_zip_eq_some];exact⟨e1,e2⟩⟩
  have q:=h6 _ hm
  simp only[bW,beq_iff_eq,List.contains_iff_mem,Bool.not_eq_true',List.contains_eq_mem,bN,decide_eq_false_iff_not]at q
  exact⟨q.1.1.1,q.1.1.2,q.1.2,q.2⟩
def mh:∀(names:au (Str×NameKind)) (n:Nat) (acc:au (Str×ao)) (x:Str) (c:ao),(x,c)∈cellsFrom n names acc->(x,NameKind.cell)∈names\/(x,c)∈acc
 |[],_,_,_,_,h=>.inr h
 | (m,k)::r,n,acc,x,c,h=>by
  unfold cellsFrom at h
  split at h
  .rename_i hk
   rcases mh r _ _ x c h with h|h
   .exact .inl (nE _ h)
   .rcases List.mem_cons.mp h with e | h
    .cases e
     have Bp:k=NameKind.cell:=by simpa using hk
     exact .inl (by rw[Bp];exact aH)
    .exact .inr h
  .rcases mh r _ _ x c h with h | h
   .exact .inl (nE _ h)
   .exact .inr h
def u3 {α β:Type}(g:Str->α->β):∀(l:au (Str×α)) (x:Str),(l.map λp=>(p.1,g p.1 p.2)).lookup x=(l.lookup x).map (g x)
 |[],_=>rfl
 | (n,k)::r,x=>by
  rw[aB,dQ,dQ]
  cases hb:x==n with
  |true=>rw[beq_iff_eq.mp hb];rfl
  |false=>exact u3 g r x
def uv (env:Env)(x:Str)(k:NameKind):NameKind:=if(k==.free&&env.scope.kind==.function&&env.kindOf x==some .cell)then .cell else k
def lH {sc:Scope}{env:Env}{x:Str}:(relabel sc env).names.lookup x=(sc.names.lookup x).map (uv env x):=by
 rw[<- u3]
 unfold relabel
 congr 1
 refine cm λp _=>?_
 obtain⟨n,k⟩:=p
 show(if _ then _ else _)=(n,uv env n k)
 unfold uv
 split<;>rfl
def BS {env:Env}{x:Str}{k:NameKind}(h:uv env x k=.cell\/uv env x k=.free):k=.cell\/k=.free:=by
 unfold uv at h
 split at h
 .rename_i q
  simp only[bW,beq_iff_eq]at q
  exact .inr q.1.1
 .exact h
def yK {env:Env}{x:Str}:uv env x .free=.cell\/uv env x .free=.free:=by
 unfold uv
 split
 .exact .inl rfl
 .exact .inr rfl
def nG (sc:Scope)(C:ao)(env:Env):Env where
 scope:=relabel sc env
 locals:=C
 globals:=env.globals
 cells:=cellsFrom (C+1) sc.names (lJ env.cells sc.names [])
 qual:=env.qual
 func:=none
 code:=env.code
 frame:=env.frame
 builtins:=env.builtins
def oy (X:Cx)(N:au Str)(sc:Scope)(fp:au ao)(s:ak)(H:Hp):Cx where
 prog:=X.prog
 w:=X.w
 K:=X.K
 mg:=X.mg
 fK:=X.fK
 A:=X.A
 N:=N
 s₀:=s
 H₀:=H
 env:=nG sc (s.heap.objs.size+1) X.env
 fV:=X.stack
 stack:=X.stack
 ex:=fp
 fn:=λx=>sc.names.lookup x==some .cell
 gY:=X.gY
 pn:=[]
 xe:=λ_ _=>False
def sZ (sc:Scope)(h:Heap):Heap:=pushCells ((h.push { cls:=.type "list",dict:=none,data:=.seq ([]:au ar).toArray}).push { cls:=.type "dict",data:=.dict #[]}) sc.names
def u6 {sc:Scope}{h:Heap}:∀ b o,h.get? b=some o->(sZ sc h).get? b=some o:=λb o e=>eh _ _ b o (j6 _ (j6 _ e))
def Ih {sc:Scope}{h:Heap}:(sZ sc h).get? h.objs.size=some { cls:=.type "list",dict:=none,data:=.seq ([]:au ar).toArray} :=
 eh _ _ _ _ (j6 _ (aI _ rfl))
def xn {js:au (av Nat)}{σ:St}{i:Nat}{v:V}(h:(ip js σ)[i]?=some (some v)):∃ j,js[i]?=some (some j)/\σ[j]?=some (some v):=by
 unfold ip at h
 rw[nF]at h
 cases e:js[i]? with
 |none=>rw[e]at h;cases h
 | some o =>
  rw[e]at h
  cases o with
  |none=>cases h
  | some j =>
   refine⟨j,rfl,?_⟩
   have h':(σ[j]?).join=some v:=aK h
   cases q:σ[j]? with
   |none=>rw[q]at h';cases h'
   |some z=>rw[q]at h';have:z=some v:=h';rw[this]
section
variable {X:Cx}{fJ:au (ao×Obj)}{σ:St}{H:Hp}{s:ak}{N:au Str}{js:au (av Nat)}{sc:Scope}{fp:au ao}
def Lc (I:Inv X fJ σ H s)(hc:kc X N js sc)(hf:∀ b∈fp,mU X fJ H b)(ho:∀ b∈fp,∃ o,s.heap.get? b=some o)(tk:Nat):
 Inv (oy X N sc fp s H) [] (ip js σ) H {s with heap:=sZ sc s.heap,toks:=tk}:=by
 have hC:(s.heap.push { cls:=.type "list",dict:=none,data:=.seq ([]:au ar).toArray}).objs.size=s.heap.objs.size+1:=bu ..
 have Lv:∀ y∈sc.names,y.2=.free->∃ c,X.env.cells.lookup y.1=some c:=λy hy e=>I.ok.has y.1 (hc.free y hy e)
 have ok:=cellsFrom_ok sc.names ((s.heap.push { cls:=.type "list",dict:=none,data:=.seq ([]:au ar).toArray}).push { cls:=.type "dict",data:=.dict #[]}) (s.heap.objs.size+1+1) [] ⟨λ_ _ hm=>(nomatch hm),List.Pairwise.nil⟩
  (by rw[bu,hC];exact aw _)
 rw[bu,hC]at ok
 have eC:(nG sc (s.heap.objs.size+1) X.env).cells=cellsFrom (s.heap.objs.size+1+1) sc.names []++lJ X.env.cells sc.names []:=ml sc.names _ [] _
 have lk:∀ x c,(nG sc (s.heap.objs.size+1) X.env).cells.lookup x=some c->(x,c)∈cellsFrom (s.heap.objs.size+1+1) sc.names []\/X.env.cells.lookup x=some c:=λx c e=>by
  rw[eC]at e
  rcases List.mem_append.mp (mem_of_lookup e)with h|h
  .exact .inl h
  .rcases pw Lv x c h with h | h
   .cases h
   .exact .inr h
 have big:∀(x:Str) (c:Nat),(x,c)∈cellsFrom (s.heap.objs.size+1+1) sc.names []->s.heap.objs.size+1+1<=c:=λx c h=>(ok.empty x c h).2
 have small:∀(x:Str) (c:Nat),X.env.cells.lookup x=some c->c<s.heap.objs.size:=λx c h=>let ⟨_,q⟩:=I.cell x c h;q.lt
 have has:∀ x,((nG sc (s.heap.objs.size+1) X.env).kindOf x=some .cell\/(nG sc (s.heap.objs.size+1) X.env).kindOf x=some .free)->∃ c,(nG sc (s.heap.objs.size+1) X.env).cells.lookup x=some c:=λx h=>by
  have h':(relabel sc X.env).names.lookup x=some .cell\/(relabel sc X.env).names.lookup x=some .free:=h
  rw[lH]at h'
  rw[eC,eI]
  cases q:sc.names.lookup x with
  |none=>rw[q]at h';rcases h' with h'|h'<;>cases h'
  | some k =>
   rw[q]at h'
   have hk:=BS (env:=X.env) (x:=x) (k:=k) (h'.elim (λz=>.inl (aK z)) λz=>.inr (aK z))
   rcases hk with rfl|rfl
   .obtain⟨c,tf⟩:=oN (n:=s.heap.objs.size+1+1) q
    exact⟨c,by rw[tf];rfl⟩
   .have z:=px (cells:=X.env.cells) sc.names [] x (mem_of_lookup q)
    obtain⟨c,tf⟩:=Option.isSome_iff_exists.mp z
    cases q2:(cellsFrom (s.heap.objs.size+1+1) sc.names []).lookup x with
    |none=>exact⟨c,by rw[tf];rfl⟩
    |some d=>exact⟨d,rfl⟩
 have IP:(oy X N sc fp s H).Ok:=by
  refine⟨I.ok.mod,hc.kind,I.ok.glob,I.ok.blt,dr _,λx y c h1 h2=>?_,has,λx c hx h=>?_,I.ok.hd,I.ok.frames,.inl rfl,λb hb=>⟨?_,λx c h=>?_⟩,I.bs,aV I.ok.Iz I.sz,λb o e hb=>?_,λb hb hs=>?_,I.stack,I.sE⟩
  .rcases lk x c h1 with g1 | g1 <;> rcases lk y c h2 with g2 | g2
   .exact name_of_addr ok.apart g1 g2
   .exact absurd (aP (small _ _ g2) (aV (aT _ 2) (big _ _ g1))) (b8 _)
   .exact absurd (aP (small _ _ g1) (aV (aT _ 2) (big _ _ g2))) (b8 _)
   .exact I.ok.inj x y c g1 g2
  .have Bo:sc.names.lookup x=some .cell:=by simpa [oy]using hx
   have h':(nG sc (s.heap.objs.size+1) X.env).cells.lookup x=some c:=h
   rw[eC,eI]at h'
   obtain⟨c2,tf⟩:=oN (n:=s.heap.objs.size+1+1) Bo
   rw[tf]at h'
   have e:c2=c:=aK h'
   subst e
   exact aV (aT _ 2) (big _ _ (mem_of_lookup tf))
  .obtain⟨o,e⟩:=ho b hb
   exact aE (bx (jk e))
  .obtain⟨o,e⟩:=ho b hb
   have l:=jk e
   rcases lk x c h with g|g
   .exact bw (aP l (aV (aT _ 2) (big _ _ g)))
   .exact(hf b hb).2.2.2.2.1 x c g
  .rcases(hf b hb).2.2.2.1 with z | z
   .exact I.ok.HI b o e z
   .exact absurd (aP (jk e) (aV I.ok.Iz z)) (b8 _)
  .rcases List.mem_cons.mp (I.wF b hs)with z | z
   .exact(hf b hb).2.1 z
   .exact(hf b hb).2.2.1 z
 have sU:∀ b u,s.heap.get? b=some u->(sZ sc s.heap).get? b=some u:=u6
 have YG:(sZ sc s.heap).Ns (s.heap.objs.size+1) λ_=>none:=by
  have q:=(Heap.Ns.new (s.heap.push { cls:=.type "list",dict:=none,data:=.seq ([]:au ar).toArray}) (.type "dict")).keeps (eh sc.names _)
  rw[hC]at q
  exact q
 refine⟨IP,rfl,I.bare,Un.iW sU,⟨_,YG,λi x v e1 e2 e3=>?_⟩,λx c h=>?_,I.iF.fresh (dr _),λx c h=>?_,λp hp=>absurd (show p∈([]:au (ao×Obj))from hp) (by simp),I.iF.iW sU,?_⟩
 .obtain⟨j,hj,hv⟩:=xn e2
  obtain⟨g1,g2,g3,g4⟩:=hc.slot i x j e1 hj
  have kx:=hc.free _ g2 rfl
  obtain⟨m,hn,hl⟩:=I.loc
  obtain⟨u,r,l⟩:=hl j x v g1 hv (.inr kx)
  refine⟨u,r,?_⟩
  rcases l with⟨z,_⟩|⟨_,c,Uw,u7⟩
  .have z':X.env.kindOf x=some .local:=z
   rcases kx with k|k<;>(have k':X.env.kindOf x=_:=k;rw[z']at k';cases k')
  .have kY:(nG sc (s.heap.objs.size+1) X.env).kindOf x=some .cell\/(nG sc (s.heap.objs.size+1) X.env).kindOf x=some .free:=by
    show(relabel sc X.env).names.lookup x=some .cell\/(relabel sc X.env).names.lookup x=some .free
    rw[lH,g3]
    rcases yK (env:=X.env) (x:=x)with q|q
    .exact .inl (show some (uv X.env x .free)=_ by rw[q])
    .exact .inr (show some (uv X.env x .free)=_ by rw[q])
   obtain⟨c',h'⟩:=has x kY
   refine .inr ⟨kY,c',h',?_⟩
   rcases lk x c' h' with g|g
   .rcases mh _ _ _ _ _ g with z | z
    .exact absurd z g4
    .cases z
   .rw[Uw]at g;cases g
    exact u7.keeps sU
 .rcases lk x c h with g | g
  .exact⟨_,(ok.empty x c g).1⟩
  .obtain⟨v,q⟩:=I.cell x c g
   exact⟨v,q.keeps sU⟩
 .rcases lk x c h with g | g
  .exact I.iF.fresh (aV (aT _ 2) (big _ _ g))
  .exact I.pG x c g
 .show(ip js σ).length=N.length
  unfold ip
  rw[ia];exact hc.len
end
section
variable {X:Cx}{fJ:au (ao×Obj)}{σ:St}{H:Hp}{s:ak}
def Inv.adopt {D:ao}{ys:au V}{gu:au ar}{n:Nat}(I:Inv X fJ σ H s)(hn:H D=none)(hL:D≠X.env.locals)(h1:X.s₀.heap.objs.size<=D)(h2:∀ x c,X.env.cells.lookup x=some c->c≠D)(h3:∀ p∈X.pn++fJ,p.1≠D)
 (e:s.heap.get? D=some { cls:=.type "list",data:=.seq gu.toArray n}) (r:gD ys gu) (hz:ys.length<=sizeLine):Inv X fJ σ (upd H D (.lst ys)) s:=by
 have ne:∀ b,b∉[D]->b≠D:=λb h z=>h (by simp[z])
 refine I.step (g':=s.gens) (d':=s.drawn) (t':=s.toks) (h':=s.heap) (ch:=[D]) (λb hb=>?_) (λb o _ _ _ q _=>q) (λb o _ _ _ q _=>⟨o.slots,q⟩) (λb o hb q z=>by rw[gB (ne b hb)];exact z) (λb o _ q=>⟨o,q⟩)
  (λb xs q=>by rw[gB (gP q hn)];exact q) (λb o u q=>by rw[gB (gP q hn)];exact q) (λb ps q=>⟨#[],by rw[gB (gP q hn),q];simp⟩) (λm q=>q) (λb u q=>?_) I.bare
 .have z:b=D:=by simpa using hb
  subst z
  exact⟨.inr h1,hL,h2,h3⟩
 .by_cases hb:b=D
  .subst hb;rw[gp]at q;cases q
   exact⟨hz,gu,n,r,e⟩
  .rw[gB hb]at q
   exact(I.iF b u q).zL (λc v _ z=>z) (λc z=>by rw[gB (gP z hn)];exact z) λc xs z=>by rw[gB (gP z hn)];exact z
def Mw (X:Cx)(ifs:au Expr)(t:TT):Prop :=
 ∀(fJ:au (ao×Obj)) (s:ak) (σ:St) (H:Hp) (Q:Bool->Hp->Prop),Inv X fJ σ H s->t σ H Q ->
  wpAny (model X.prog X.w) X.A (forIn ifs true λc r=>if r=true then do let ok <- isTrue c X.env (eval c X.env);pure (ForInStep.yield ok)else pure (ForInStep.yield r)) (TP X fJ σ Q) X.xe s
def Yb:TT:=λ_ H Q=>Q true H
def Fu:Mw X [] Yb:=λ_ _ _ H _ I h=>wpAny_tests_nil ⟨H,I,h⟩
def NM {c:Expr}{t:TT}(h:PT X c t):Mw X [c] t:=λfJ s σ H Q I q=>wpAny_tests_one (h fJ s σ H Q I q)
def Ext (σ jo:St):Prop:=σ.length=jo.length/\∀(i:Nat) v,σ[i]?=some (some v)->jo[i]?=some (some v)
def Ext.Vg {v u:av V}{r:St}:Ext (none::none::r) (v::u::r):=⟨rfl,λi z h=>by
 match i,h with
 |0,h=>simp at h
 |1,h=>simp at h
 |i+2,h=>simpa using h⟩
def Jo (js:au (av Nat))(g:TG)(tt:TT)(te:TE)(J:It)(σ:St)(H1:Hp)(fin:au V->Hp->Prop):Prop :=
 ∃ W:Nat->Nat->au V->Hp->Prop,(∃ m,W 0 m [] H1)/\∀ i m ys H,W i m ys H ->
  (J.stop i H/\fin ys H)\/(J.go i H/\∀ x H',J.Jm i H x H'->g x (ip js σ) H' λoz H2=>Ext (ip js σ) oz/\tt oz H2 λb H3 =>
    if b=true then te oz H3 λy H4=>ys.length<sizeLine/\∃ m',m'<m/\W (i+1) m' (ys++[y]) H4 else ∃ m',m'<m/\W (i+1) m' ys H3)
def AO {prog:ah}{w:ai}{A:Around}{R:Result->ak->Prop}{s:ak}{elt target iter:Expr}{ifs:au Expr}{scope:Scope}{pos:Pos}{it acc:ar}{env:Env}(I:Nat->ak->Prop)
 (turn:∀ n s,I n s->wpAny (model prog w) A (pyNext it) (λr s₁=>match r with
   |none=>R (.ok .next) s₁
   | some v=>wpAny (model prog w) A (letOwnedTupleGo target it v) (λ_ BI=>wpAny (model prog w) A (assign target env v) (λ_ s₂ =>
    wpAny (model prog w) A (forIn ifs true λc r=>if r=true then do let ok <- isTrue c env (eval c env);pure (ForInStep.yield ok)else pure (ForInStep.yield r)) (λok s₃ =>
     if ok=true then wpAny (model prog w) A (eval elt env) (λx s₄ =>
      wpAny (model prog w) A (call (.builtin "list.append") [acc,x]) (λ_ s₅=>∃ m,m<n/\I m s₅) (λ_ _=>False) s₄) (λ_ _=>False) s₃
     else ∃ m,m<n/\I m s₃) (λ_ _=>False) s₂) (λ_ _=>False) BI) (λ_ _=>False) s₁) (λ_ _=>False) s)
 (n:Nat) (h:I n s):
 codeAny (model prog w) A (.compLoop (.ListComp elt [⟨target,iter,ifs,0⟩] scope pos) 0 it acc env) R s:=by
 refine codeAny_loop rfl I (λn s hI=>?_) n h
 show wpAny _ A ((compTurn (.ListComp elt [⟨target,iter,ifs,0⟩] scope pos) 0 it acc env).onRaise (λx=>do noteFrame x env;theTreesLotGoes x)) _ _ s
 refine wpAny_noted ?_
 rw[compTurn_list]
 refine f9 (dY (f9 (b7 (turn n s hI) (λr s₁ h₁=>?_) λ_ _ h'=>h'.elim)))
 cases r with
 |none=>exact aA h₁
 | some v =>
  refine f9 (b7 h₁ (λ_ BI Lf=>?_) λ_ _ h'=>h'.elim)
  refine f9 (b7 Lf (λ_ s₂ h₂=>f9 (b7 h₂ (λok s₃ h₃=>?_) λ_ _ h'=>h'.elim)) λ_ _ h'=>h'.elim)
  cases ok with
  |false=>exact aA ⟨rfl,h₃⟩
  | true =>
   exact f9 (f9 (b7 h₃ (λx s₄ h₄=>f9 (b7 h₄ (λ_ s₅ h₅=>aA (aA ⟨rfl,h₅⟩)) λ_ _ h'=>h'.elim)) λ_ _ h'=>h'.elim))
variable {N:au Str}{js:au (av Nat)}{sc:Scope}{fp:au ao}{tg elt iter:Expr}{ifs:au Expr}{g:TG}{tt:TT}{te:TE}
def lobj (gu:au ar)(n:Nat):Obj:={ cls:=.type "list",data:=.seq gu.toArray n}
def xF {J:It}{it:ao}{tn:Nat->Heap->Prop}{pos:Pos}{R:Result->ak->Prop}{fin:au V->Hp->Prop}{tk:Nat}(I:Inv X fJ σ H s)(hc:kc X N js sc){CM:Cx->Prop}(gY:CM (oy X N sc fp s H))
 (T:Turn X.prog X.w X.K tg J fp it tn CM) (st:tn 0 s.heap) (hf:∀ b∈fp,mU X fJ H b)
 (hg:PG (oy X N sc fp s H) tg g) (ht:Mw (oy X N sc fp s H) ifs tt) (he:PE (oy X N sc fp s H) elt te) (q:Jo js g tt te J σ H fin)
 (hR:∀ s' H' ys m,Inv X fJ σ (upd H' s.heap.objs.size (.lst ys)) s'->H' s.heap.objs.size=none->fin ys H'->s'.heap.Ns (s.heap.objs.size+1) m->H' (s.heap.objs.size+1)=none->R (.ok .next) s'):
 codeAny (model X.prog X.w) X.A (.compStart (.ListComp elt [⟨tg,iter,ifs,0⟩] sc pos) 0 (.ref it) (.ref s.heap.objs.size) (nG sc (s.heap.objs.size+1) X.env)) R {s with heap:=sZ sc s.heap,toks:=tk}:=by
 have Up:∀ b∈fp,∃ o,s.heap.get? b=some o:=λb hb=>let ⟨o,e,_⟩:=T.obj 0 s.heap st b hb;⟨o,e⟩
 have I0:=Lc I hc hf Up tk
 have IP:=I0.ok
 obtain⟨W,⟨m0,w0⟩,turn⟩:=q
 have small:∀ b∈fp,b≠s.heap.objs.size:=λb hb=>let ⟨o,e⟩:=Up b hb;aE (jk e)
 have wG:∀ {gu:au ar} {k:Nat} {H':Hp},(∀ b∈fp,H' b=none)->∀ b∈fp,mU (oy X N sc fp s H) [(s.heap.objs.size,lobj gu k)] H' b:=λ{gu k H'} hn b hb =>
  ⟨hn b hb,(IP.UB b hb).1,IP.Im b hb,.inl hb,(IP.UB b hb).2,λp hp=>by
   have e:p=(s.heap.objs.size,lobj gu k):=by simpa [oy]using hp
   rw[e];exact(small b hb).symm⟩
 have PY:tn 0 (sZ sc s.heap):=T.keep 0 _ _ st λb _ o e=>u6 b o e
 have I1:Inv (oy X N sc fp s H) [(s.heap.objs.size,lobj [] 0)] (ip js σ) H { s with heap:=sZ sc s.heap,toks:=tk}:=I0.sM λp hp=>by
  have e:p=(s.heap.objs.size,lobj [] 0):=by simpa using hp
  subst e
  refine⟨Ih,I.iF.fresh (aw _),aE (bF _),λz=>?_,λv z=>by cases z⟩
  obtain⟨_,o,ho,_⟩:=IP.tu.mem z
  exact b8 _ (jk ho)
 have loop:codeAny (model X.prog X.w) X.A (.compLoop (.ListComp elt [⟨tg,iter,ifs,0⟩] sc pos) 0 (.ref it) (.ref s.heap.objs.size) (nG sc (s.heap.objs.size+1) X.env)) R { s with heap:=sZ sc s.heap,toks:=tk}:=by
  refine AO (λn s'=>∃ i ys gu k H',Inv (oy X N sc fp s H) [(s.heap.objs.size,lobj gu k)] (ip js σ) H' s'/\tn i s'.heap/\(∀ b∈fp,H' b=none)/\gD ys gu/\ys.length<=sizeLine/\W i n ys H') ?_ m0
   ⟨0,[],[],0,H,I1,PY,λb hb=>(hf b hb).1,.nil,bh _,w0⟩
  rintro n s3 ⟨i,ys,gu,k,H3,I3,MH,QE,rv,hz,w3⟩
  have len:=rv.length
  rcases turn i n ys H3 w3 with⟨stop,qf⟩|⟨go,step⟩
  .refine iN (T.done (oy X N sc fp s H) rfl rfl rfl gY i _ s3 _ H3 _ I3 (wG QE) MH stop) λr s4 qm=>?_
   obtain⟨hr,I4⟩:=qm
   subst hr
   show R (.ok .next) s4
   have hD:=I4.pin (s.heap.objs.size,lobj gu k) (aU _ aH)
   obtain⟨m,Uq,_⟩:=I4.loc
   have IX:Inv X fJ σ H3 s4:=I.Mc (ch:=fp) I4.os I4.fK I4.iF I4.bare λb hb=>by
    obtain⟨f0,f1,f2,f3,f4,f5⟩:=hf b hb
    exact⟨f3,f1,f4,f5⟩
   have neD:∀(b:ao) (o:Obj),s.heap.get? b=some o->b≠s.heap.objs.size:=λb o e=>aE (jk e)
   refine hR s4 H3 ys m (IX.adopt hD.2.1 (bw I.lt) I.sz (λx c e=>?_) (λp hp=>neD _ _ (I.pin p hp).1) hD.1 rv hz) hD.2.1 qf Uq I4.free
   obtain⟨v,q⟩:=I.cell x c e
   exact aE q.lt
  .refine iN (T.item (oy X N sc fp s H) rfl rfl rfl gY i _ s3 _ H3 _ I3 (wG QE) MH go) λr s4 rZ=>?_
   obtain⟨u,hr,h4⟩:=rZ
   subst hr
   refine iN h4 λ_ s5 tY=>?_
   obtain⟨x,H5,I5,r5,y5,JG,V5⟩:=tY
   have W7:=I5.pinned (wG V5) (T.obj _ _ JG)
   refine iN (hg _ s5 _ H5 x u _ W7 r5 (step x H5 y5)) λ_ s6 ⟨ME,H6,I6,⟨LH,q6⟩⟩=>?_
   refine iN (ht _ s6 ME H6 _ I6 q6) λb s7 uE=>?_
   obtain⟨H7,I7,q7⟩:=uE
   have back:∀ {s':ak} {H':Hp},Inv (oy X N sc fp s H) ([(s.heap.objs.size,lobj gu k)]++uy fp s5.heap) ME H' s'->tn (i+1) s'.heap/\(∀ b∈fp,H' b=none)/\Inv (oy X N sc fp s H) [(s.heap.objs.size,lobj gu k)] (ip js σ) H' s':=λ{s' H'} I'=>by
    refine⟨T.keep _ _ _ JG λb hb o e=>(I'.pin (b,o) (aU _ (aU _ (lY hb e)))).1,λb hb=>?_,(I'.weak LH.1 LH.2).p4⟩
    obtain⟨o,e,d⟩:=T.obj _ _ JG b hb
    exact(I'.pin (b,o) (aU _ (aU _ (lY hb e)))).2.1
   cases b with
   | false =>
    rw[aG aN]at q7 ⊢
    obtain⟨m',hm,w7⟩:=q7
    obtain⟨t7,f7,I7'⟩:=back I7
    exact⟨m',hm,i+1,ys,gu,k,H7,I7',t7,f7,rv,hz,w7⟩
   | true =>
    rw[aF rfl]at q7 ⊢
    refine iN (he _ s7 ME H7 _ I7 q7) λy s8 r6=>?_
    obtain⟨yv,H8,I8,ry,mK,m',hm,w8⟩:=r6
    obtain⟨t8,f8,W6⟩:=back I8
    have hD:=W6.pin (s.heap.objs.size,lobj gu k) (aU _ aH)
    have eD:s8.heap.get? s.heap.objs.size=some { cls:=.type "list",data:=.seq gu.toArray k}:=hD.1
    refine call_meets F.slot_list_append ⟨_,eD,rfl⟩ F.entry_list_append (F.args_list_append_2 _ _) (PySem.list_append s.heap.objs.size gu.toArray k y (by rw[aD];lia)) ⟨eD,?_⟩
    have q:=PySem.IsL.update eD (·.push y)
    have Wd:gu.toArray.push y=(gu++[y]).toArray:=by simp
    have keep:∀(b:ao) (o:Obj),b≠s.heap.objs.size->s8.heap.get? b=some o->(s8.heap.update s.heap.objs.size (Obj.mapSeq (·.push y))).get? b=some o:=λb o hb e=>(aX s8.heap (Obj.mapSeq (·.push y)) (bD hb)).trans e
    have WM:∀ x c,(oy X N sc fp s H).env.cells.lookup x=some c->c≠s.heap.objs.size:=λx c e z=>by
     obtain⟨v,o,ho,hd⟩:=W6.cell x c e
     rw[z,eD]at ho;cases ho
     cases hd
    have I9:Inv (oy X N sc fp s H) [] (ip js σ) H8 { s8 with heap:=s8.heap.update s.heap.objs.size (Obj.mapSeq (·.push y))} :=
     (W6.sM (pins':=[]) λp hp=>absurd hp (by simp)).turned (t':=s8.toks) keep hD.2.1 hD.2.2.1 (.inr (aw _)) WM (λp hp=>absurd (show p∈([]:au (ao×Obj))from hp) (by simp))
    rw[Wd]at q
    obtain⟨k',q'⟩:∃ k',(s8.heap.update s.heap.objs.size (Obj.mapSeq (·.push y))).get? s.heap.objs.size=some (lobj (gu++[y]) k'):=⟨_,q⟩
    refine⟨m',hm,i+1,ys++[yv],gu++[y],k',H8,I9.sM λp hp=>?_,T.keep _ _ _ t8 λb hb o e=>keep b o (small b hb) e,f8,rv.append (.cons ry .nil),by rw[l5,bJ];lia,w8⟩
    have e:p=(s.heap.objs.size,lobj (gu++[y]) k'):=by simpa using hp
    subst e
    exact⟨q',hD.2.1,hD.2.2.1,hD.2.2.2.1,λv z=>by cases z⟩
 exact codeAny_compStart_list loop (T.self _ 0 _ _ _ PY loop)
def JE (wi:TI)(js:au (av Nat))(g:TG)(tt:TT)(te:TE):TE:=λσ H Q=>wi σ H λJ H1=>Jo js g tt te J σ H1 λys H'=>∀ D,H' D=none->Q (.ref D) (upd H' D (.lst ys))
def Fy {wi:TI}{pos:Pos}(hc:kc X N js sc)(gY:X.gY=true)(hi:PI X tg iter wi)(hg:∀ fp s H,PG (oy X N sc fp s H) tg g)(ht:∀ fp s H,Mw (oy X N sc fp s H) ifs tt)(he:∀ fp s H,PE (oy X N sc fp s H) elt te)
 (hs:∀ x,foldedSetIterable iter X.env x=pure x:=by intro _;rfl):PE X (.ListComp elt [⟨tg,iter,ifs,0⟩] sc pos) (JE wi js g tt te):=by
 intro fJ s σ H Q I h
 rw[eval_ListComp]
 refine dZ (use:=none) rfl hs (oq λy hy e=>I.ok.has y.1 (hc.free y hy e)) hc.kind hc.loc (iN (hi fJ s σ H _ I h) λv s1 h1=>iN h1 λVD s2 h2=>?_)
 obtain⟨it,fp,tn,J,H2,e,I2,T,PX,f2,q⟩:=h2
 subst e
 refine dk (qi ?_)
 have hC:(s2.heap.push { cls:=.type "list",dict:=none,data:=.seq ([]:au ar).toArray}).objs.size=s2.heap.objs.size+1:=bu ..
 simp only[hC]
 refine xF (tk:=s2.toks) I2 hc gY T PX f2 (hg fp s2 H2) (ht fp s2 H2) (he fp s2 H2) q λs' H' ys m IX nD qf nC hn=>?_
 refine⟨m,nC,λh' sb=>?_⟩
 have Dj:∀(b:ao) (o:Obj),s2.heap.get? b=some o->b≠s2.heap.objs.size+1:=λb o e=>aE (bx (jk e))
 have IY:Inv X fJ σ (upd H' s2.heap.objs.size (.lst ys)) { s' with heap:=h'}:=IX.turned (t':=s'.toks) (it:=s2.heap.objs.size+1) (λb o hb e=>(sb.2 b hb).trans e) (by rw[gB (bw (bF _))];exact hn)
  (bw (bx I2.lt)) (.inr (Nat.le_succ_of_le I2.sz)) (λx c e=>let ⟨v,z⟩:=I2.cell x c e;aE (bx z.lt)) (λp hp=>Dj _ _ (I2.pin p hp).1)
 exact⟨.ref _,_,IY,rfl,qf _ nD⟩
def DU {wi:TI}{pos pos' wH:Pos}{i:Nat}{x:Str}(hc:kc X N js sc)(gY:X.gY=true)(hN:X.N.Nodup)(Bo:X.N[i]?=some x)(hx:Loc X.env.scope x)(hi:PI X tg iter wi)(hg:∀ fp s H,PG (oy X N sc fp s H) tg g)
 (ht:∀ fp s H,Mw (oy X N sc fp s H) ifs tt) (he:∀ fp s H,PE (oy X N sc fp s H) elt te) (Lh:swapsWith (.ListComp elt [⟨tg,iter,ifs,0⟩] sc pos) (some (.Name x pos')) wH.line X.env=pure true:=by rfl)
 (hs:∀ x,foldedSetIterable iter X.env x=pure x:=by intro _;rfl) (hf:X.fn x=true\/X.env.scope.names.lookup x=some .local:=by first|exact .inl rfl|exact .inr rfl|assumption):
 PS X (.Assign [.Name x pos'] (.ListComp elt [⟨tg,iter,ifs,0⟩] sc pos) wH) (Ri (JE wi js g tt te) (tq i)):=by
 intro fJ s σ H D I h
 rw[exec_Assign_Name_used _ _ _ _ Lh]
 refine f9 (dY (f9 ?_))
 show wpAny _ X.A (do let _ <- comprehension (.ListComp elt [⟨tg,iter,ifs,0⟩] sc pos) sc X.env _ (newList []) false (eval iter X.env) (some (assign (.Name x pos') X.env))) _ _ s
 refine f9 (b7 (dZ (use:=some (assign (.Name x pos') X.env)) (Q:=λ_ s'=>SP X fJ D .next s') rfl hs (oq λy hy e=>I.ok.has y.1 (hc.free y hy e)) hc.kind hc.loc
  (iN (hi fJ s σ H _ I h) λv s1 h1=>iN h1 λVD s2 h2=>?_)) (λ_ s' hq=>aA (aA hq)) λ_ _ e=>e)
 obtain⟨it,fp,tn,J,H2,e,I2,T,PX,f2,q⟩:=h2
 subst e
 refine dk (qi ?_)
 have hC:(s2.heap.push { cls:=.type "list",dict:=none,data:=.seq ([]:au ar).toArray}).objs.size=s2.heap.objs.size+1:=bu ..
 simp only[hC]
 refine xF (tk:=s2.toks) I2 hc gY T PX f2 (hg fp s2 H2) (ht fp s2 H2) (he fp s2 H2) q λs' H' ys m IX nD qf nC hn=>?_
 have Dj:∀(b:ao) (o:Obj),s2.heap.get? b=some o->b≠s2.heap.objs.size+1:=λb o e=>aE (bx (jk e))
 have hnC:upd H' s2.heap.objs.size (.lst ys) (s2.heap.objs.size+1)=none:=by rw[gB (bw (bF _))];exact hn
 show wpAny _ X.A (assign (.Name x pos') X.env (.ref s2.heap.objs.size)) _ _ s'
 refine wpAny_assign_Name (yF (v:=.ref s2.heap.objs.size) IX hN Bo hx rfl (λUd IZ ch=>?_) hf)
 obtain⟨a,sba,ha⟩:=ch
 have hac:s2.heap.objs.size+1≠a:=by
  rcases ha with z|z
  .rw[z];exact bw (bx I2.lt)
  .obtain⟨v,z⟩:=I2.cell x a z
   exact bw (bx z.lt)
 refine⟨m,nC.sameBut sba hac,λh' sb=>?_⟩
 have IY:Inv X fJ (σ.set i (some (.ref s2.heap.objs.size))) (upd H' s2.heap.objs.size (.lst ys)) { Ud with heap:=h'}:=IZ.turned (t':=Ud.toks) (it:=s2.heap.objs.size+1) (λb o hb e=>(sb.2 b hb).trans e) hnC
  (bw (bx I2.lt)) (.inr (Nat.le_succ_of_le I2.sz)) (λx c e=>let ⟨v,z⟩:=I2.cell x c e;aE (bx z.lt)) (λp hp=>Dj _ _ (I2.pin p hp).1)
 exact⟨_,_,IY,qf _ nD⟩
end
open Builtin Builtin.Str
def kX {α:Type}(xs:au α)(lo hi:av Int):au α:=(xs.drop (HT.oh xs.length 0 lo)).take (HT.oh xs.length xs.length hi - HT.oh xs.length 0 lo)
def O4 (n:Nat)(lo:av Int):(match lo with | none=>(0:Int) | some i=>max 0 (min (if i<0 then i+(n:Int)else i) (n:Int)))=((HT.oh n 0 lo:Nat):Int):=by
 cases lo with
 |none=>rfl
 |some i=>unfold HT.oh;dsimp only;split<;>lia
def O5 (n:Nat)(hi:av Int):(match hi with | none=>(n:Int) | some i=>max 0 (min (if i<0 then i+(n:Int)else i) (n:Int)))=((HT.oh n n hi:Nat):Int):=by
 cases hi with
 |none=>rfl
 |some i=>unfold HT.oh;dsimp only;split<;>lia
def oS (lo hi:av Int)(n:Nat):strSliceIndices lo hi 1 n=sliceRange ((HT.oh n 0 lo:Nat):Int) ((HT.oh n n hi:Nat):Int) 1:=by
 rw[<- O4,<- O5]
 unfold strSliceIndices
 cases lo<;>cases hi<;>rfl
def Hl (x:Str)(lo hi:av Int):(strSliceIndices lo hi 1 x.length).filterMap (x.cps[·]?)=kX x.cps.toList lo hi:=by
 have hl:x.cps.toList.length=x.length:=by simp[Str.length]
 unfold kX
 rw[hl]
 have ha:=HT.zW x.length 0 (bh _) lo
 have hb:=HT.zW x.length x.length (aw _) hi
 by_cases IV:HT.oh x.length 0 lo<=HT.oh x.length x.length hi
 .rw[<- StrLaws.sliced_plain x IV hb,oS,oS]
  congr 2
  .rw[HT.lF,cb ha]
  .rw[HT.lF,cb hb]
 .rw[oS]
  have e:HT.oh x.length x.length hi - HT.oh x.length 0 lo=0:=by lia
  rw[e,List.take_zero]
  unfold sliceRange
  have h1:¬ (((HT.oh x.length 0 lo:Nat):Int)<((HT.oh x.length x.length hi:Nat):Int)):=by lia
  simp[h1]
def CK {α:Type}(xs:au α)(lo hi:av Int):(kX xs lo hi).length<=xs.length:=by
 unfold kX
 rw[bz,bO]
 lia
section
variable {X:Cx}
def YA:V->av Int->av Int->Hp->VK->Prop:=λx lo hi H Q=>∃ z:Str,x=.str z/\z.length<=sizeLine/\Q (.str ⟨(kX z.cps.toList lo hi).toArray⟩) H
def Rt:XW X YA:=by
 intro fJ s σ H x v vl vu lo hi sl Q I rx hs pl pu h
 obtain⟨z,rfl,hz,q⟩:=h
 obtain⟨t,rfl⟩:=rx
 refine⟨"str",_,F.slot_str_getitem.lookup,typeIs_str _ _ _,?_⟩
 obtain⟨l,el⟩:∃ l:av (Int×Tok),vl=partValue l/\l.map (·.1)=lo:=by
  cases pl with
  |none=>exact⟨none,rfl,rfl⟩
  |int i t=>exact⟨some (i,t),rfl,rfl⟩
 obtain⟨u,eu⟩:∃ u:av (Int×Tok),vu=partValue u/\u.map (·.1)=hi:=by
  cases pu with
  |none=>exact⟨none,rfl,rfl⟩
  |int i t=>exact⟨some (i,t),rfl,rfl⟩
 obtain⟨rfl,el⟩:=el
 obtain⟨rfl,eu⟩:=eu
 refine wpAny_getItem_str_slice (l:=l) (u:=u) (st:=none) hs rfl ?_
 unfold sliceMade
 have e:slicePicked z l u none=strSliceIndices lo hi 1 z.length:=by unfold slicePicked;rw[el,eu];rfl
 rw[e,Hl]
 by_cases hc:(((none:av (Int×Tok)).map (·.1)).getD 1==1&&(strSliceIndices lo hi 1 z.length).length==z.length)=true
 .rw[aF hc]
  refine⟨.str z,H,I,⟨_,rfl⟩,?_⟩
  have tf:(strSliceIndices lo hi 1 z.length).length=z.length:=by simpa using hc
  have hl:z.cps.toList.length=z.length:=by simp[Str.length]
  have h3:kX z.cps.toList lo hi=z.cps.toList:=by
   rw[oS]at tf
   unfold sliceRange at tf
   have ha:=HT.zW z.length 0 (bh _) lo
   have hb:=HT.zW z.length z.length (aw _) hi
   rw[ia,pW]at tf
   unfold kX
   rw[hl]
   by_cases mK:((HT.oh z.length 0 lo:Nat):Int)<((HT.oh z.length z.length hi:Nat):Int)
   .simp[mK]at tf
    have a0:HT.oh z.length 0 lo=0:=by lia
    have b0:HT.oh z.length z.length hi=z.length:=by lia
    rw[a0,b0,List.drop_zero,Nat.sub_zero,<- hl,List.take_length]
   .simp[mK]at tf
    have z0:z.cps.toList=[]:=List.length_eq_zero_iff.mp (by lia)
    rw[z0];simp
  have e2:(⟨(kX z.cps.toList lo hi).toArray⟩:Str)=z:=by rw[h3]
  rw[e2]at q
  exact q
 .rw[aG hc]
  refine⟨?_,.str _,H,I.tok _,⟨_,rfl⟩,q⟩
  have hl:z.cps.toList.length=z.length:=by simp[Str.length]
  have:=CK z.cps.toList lo hi
  show(kX z.cps.toList lo hi).toArray.size<=sizeLine
  rw[aD]
  lia
def yA:∀ {ys:au Str} {us:au ar},gD (ys.map V.str) us->StrsAre us ys
 |[],_,h=>by cases h;exact .nil
 | y::r,_,h=>by
  cases h with
  |cons a b=>obtain⟨t,rfl⟩:=a;exact .cons _ _ (yA b)
def u9:∀(ys:au Str) (acc:Array Nat),ys.foldl (λacc p=>acc++(#[]:Array Nat)++p.cps) acc=acc++(ys.map (·.cps.toList)).flatten.toArray
 |[],acc=>by simp
 | y::r,acc=>by
  rw[c5,u9 r,aB,List.flatten_cons]
  apply Array.toList_inj.mp
  simp
def Eh (z:Str)(hz:z.cps=#[])(ys:au Str):Txt.join z ys=⟨(ys.map (·.cps.toList)).flatten.toArray⟩:=by
 unfold Txt.join glued
 rw[hz]
 congr 1
 cases ys with
 |nil=>rfl
 | cons y r =>
  show List.foldl _ y.cps r=_
  rw[u9,aB,List.flatten_cons]
  apply Array.toList_inj.mp
  simp
def rJoin (K:aa):V->au V->Hp->VK->Prop:=λx vs H Q=>∃(z:Str) (l:ao) (ys:au Str),x=.str z/\z.cps=#[]/\vs=[.ref l]/\qz K H l (ys.map V.str)/\(ys.map (·.length)).sum<=16777216/\Q (.str ⟨(ys.map (·.cps.toList)).flatten.toArray⟩) H
def Og:EM X "str.join" (rJoin X.K):=by
 intro fJ s σ H x vs v us Q I rx rv h
 obtain⟨z,l,ys,rfl,hz,rfl,hl,hs,q⟩:=h
 obtain⟨t,rfl⟩:=rx
 obtain⟨u,rfl,ru⟩:=rv.one
 cases ru
 obtain⟨gu,r,p,_⟩:=I.list hl
 have zl:z.length=0:=by unfold Str.length;rw[hz];rfl
 refine join_list p.isList (ys:=ys) (by simpa using yA r) (by rw[zl];lia) λt' k=>?_
 rw[Eh z hz]
 exact⟨.str _,H,I.tok _,⟨_,rfl⟩,q⟩
def Fq (c:Nat):∀(n:Nat) (acc:Array Nat),(List.replicate n #[c]).foldl (·++·) acc=acc++(List.replicate n c).toArray
 |0,acc=>by simp
 | n+1,acc=>by
  rw[List.replicate_succ,c5,Fq c n,List.replicate_succ]
  apply Array.toList_inj.mp
  simp
def mul_one (c:Nat)(n:Int):Txt.mul ⟨#[c]⟩ n=⟨(List.replicate n.toNat c).toArray⟩:=by
 unfold Txt.mul
 by_cases h1:n<1
 .rw[aF h1]
  have e:n.toNat=0:=by lia
  rw[e];rfl
 .rw[aG h1]
  by_cases h2:(n==1||(⟨#[c]⟩:Str).length==0)=true
  .rw[aF h2]
   have e:n=1:=by simpa [Str.length]using h2
   rw[e];rfl
  .rw[aG h2]
   congr 1
   have:=Fq c n.toNat #[]
   rw[this]
   apply Array.toList_inj.mp
   simp
def DY:lC X (binaryOp .Mult) (λx y H Q=>∃(c:Nat) (n:Int),x=.str ⟨#[c]⟩/\y=.int n /\ -1000000<=n/\n<=1000000/\Q (.str ⟨(List.replicate n.toNat c).toArray⟩) H):=by
 intro fJ s σ H x y v u Q I rx ry h
 obtain⟨c,n,rfl,rfl,h1,h2,q⟩:=h
 obtain⟨t,rfl⟩:=rx
 obtain⟨t',rfl⟩:=ry
 refine SB.mul ⟨?_,λhn _=>?_,λhn _=>?_⟩ λt' k=>?_
 .rw[aS (by lia),aS (by lia)];rfl
 .have e:((⟨#[c]⟩:Str).length:Int)=1:=rfl
  rw[e]
  have:(1:Int)<=(2 ^ 63 - 1) / n:=(Int.le_ediv_iff_mul_le (by lia)).mpr (by lia)
  lia
 .have e:(⟨#[c]⟩:Str).length=1:=rfl
  rw[e]
  unfold tooLong sizeLine
  rw[aS (by lia)]
 .rw[mul_one]
  exact⟨.str _,H,I.tok _,⟨_,rfl⟩,q⟩
def Mb:jm X (.builtin "isinstance") (λvs H Q=>∃ x T t b,vs=[x,.ty T]/\kE X.K H x t/\W.kitOne X.K t (.type T)=some b/\Q (.bl b) H):=by
 intro fJ s σ H vs us Q I rv h
 obtain⟨x,T,t,b,rfl,ty,e,q⟩:=h
 obtain⟨u,w',rfl,r1,r2⟩:=vals2 rv
 cases r2
 exact HS I r1 ty e λtk=>⟨.bl b,H,I.tok tk,rfl,q⟩
end
end L2
namespace L2
open PySem PySem.Spec PyProof.Rows
open Builtin Builtin.Str
section
variable {X:Cx}
def lC.imp {f:ar->ar->Sem ar}{r r':R2}(h:lC X f r)(hi:∀ x y H Q,r' x y H Q->r x y H Q):lC X f r':=λfJ s σ H x y v u Q I r1 r2 q=>h fJ s σ H x y v u Q I r1 r2 (hi x y H Q q)
def PE.imp {e:Expr}{t t':TE}(h:PE X e t)(hi:∀ σ H Q,t' σ H Q->t σ H Q):PE X e t':=λfJ s σ H Q I q=>h fJ s σ H Q I (hi σ H Q q)
def PT.imp {e:Expr}{t t':TT}(h:PT X e t)(hi:∀ σ H Q,t' σ H Q->t σ H Q):PT X e t':=λfJ s σ H Q I q=>h fJ s σ H Q I (hi σ H Q q)
def PG.imp {e:Expr}{t t':TG}(h:PG X e t)(hi:∀ v σ H Q,t' v σ H Q->t v σ H Q):PG X e t':=λfJ s σ H v u Q I r q=>h fJ s σ H v u Q I r (hi v σ H Q q)
def Mx.imp {e:au Expr}{t t':zw}(h:Mx X e t)(hi:∀ v σ H Q,t' v σ H Q->t v σ H Q):Mx X e t':=λfJ s σ H v u Q I r q=>h fJ s σ H v u Q I r (hi v σ H Q q)
def PS.imp {e:Stmt}{t t':TS}(h:PS X e t)(hi:∀ D σ H,t' D σ H->t D σ H):PS X e t':=λfJ s σ H D I q=>h fJ s σ H D I (hi D σ H q)
def jm.imp {f:ar}{r r':au V->Hp->VK->Prop}(h:jm X f r)(hi:∀ vs H Q,r' vs H Q->r vs H Q):jm X f r':=λfJ s σ H vs us Q I rv q=>h fJ s σ H vs us Q I rv (hi vs H Q q)
def EM.imp {id:String}{r r':V->au V->Hp->VK->Prop}(h:EM X id r)(hi:∀ x vs H Q,r' x vs H Q->r x vs H Q):EM X id r':=λfJ s σ H x vs v us Q I r1 rv q=>h fJ s σ H x vs v us Q I r1 rv (hi x vs H Q q)
def WO (i:Nat):TE:=λσ H Q=>match σ[i]? with|some (some v)=>Q v H|_=>False
def lP (i:Nat){x:Str}{pos:Pos}(hN:X.N[i]?=some x:=by rfl)(hv:WU X.env.scope x:=by first | exact Or.inl rfl | exact Or.inr (Or.inl rfl) | exact Or.inr (Or.inr rfl))(hd:(x==("__debug__" : Str))=false:=by decide)
 (En:(x==("__classdict__" : Str))=false:=by decide):PE X (.Name x pos) (WO i):=(Kg (i:=i) hN hv hd En).imp λσ H Q q=>by
 unfold WO at q
 split at q
 .rename_i v e;exact⟨v,e,q⟩
 .exact q.elim
def J5:R2:=λx y H Q=>match x,y with
 |.int i,.int j=>Q (.int (i+j)) H
 |.str i,.str j=>i.length+j.length<=sizeLine/\Q (.str (i++j)) H
 |.ref l,.ref b=>∃ xs zs,H l=some (.lst xs)/\H b=some (.lst zs)/\xs.length+zs.length<=sizeLine/\∀ p,H p=none->Q (.ref p) (upd H p (.lst (xs++zs)))
 |_,_=>False
def Mu:lC X (binaryOp .Add) J5:=(R0.or (DZ.or RZ)).imp λx y H Q q=>by
 unfold J5 at q
 split at q
 .exact .inl ⟨_,_,rfl,rfl,q⟩
 .exact .inr (.inl ⟨_,_,rfl,rfl,q.1,q.2⟩)
 .obtain⟨xs,zs,a,b,c,d⟩:=q;exact .inr (.inr ⟨_,_,xs,zs,rfl,rfl,a,b,c,d⟩)
 .exact q.elim
def Ue (C:Int->Int->Prop)(g:Int->Int->V):R2:=λx y H Q=>match x,y with
 |.int i,.int j=>C i j/\Q (g i j) H
 |_,_=>False
def zY (g:Int->Int->V):R2:=λx y H Q=>match x,y with
 |.int i,.int j=>Q (g i j) H
 |_,_=>False
def lC.i2 {f:ar->ar->Sem ar}{C:Int->Int->Prop}{g:Int->Int->V}(h:lC X f (rI C g)):lC X f (Ue C g):=h.imp λx y H Q q=>by
 unfold Ue at q
 split at q
 .exact⟨_,_,rfl,rfl,q.1,q.2⟩
 .exact q.elim
def lC.VL {f:ar->ar->Sem ar}{g:Int->Int->V}(h:lC X f (NG g)):lC X f (zY g):=h.imp λx y H Q q=>by
 unfold zY at q
 split at q
 .exact⟨_,_,rfl,rfl,q⟩
 .exact q.elim
def Yt:lC X (binaryOp .Sub) (zY λi j=>.int (i - j)):=RV.VL
def JY:R2:=λx y H Q=>match x,y with
 |.int i,.int j=>IL i j/\Q (.int (i*j)) H
 |.str z,.int n=>∃ c:Nat,z=⟨#[c]⟩ /\ -1000000<=n/\n<=1000000/\Q (.str ⟨(List.replicate n.toNat c).toArray⟩) H
 |_,_=>False
def mulC:lC X (binaryOp .Mult) JY:=(RX.or DY).imp λx y H Q q=>by
 unfold JY at q
 split at q
 .exact .inl ⟨_,_,rfl,rfl,q.1,q.2⟩
 .obtain⟨c,rfl,a,b,d⟩:=q;exact .inr ⟨c,_,rfl,rfl,a,b,d⟩
 .exact q.elim
def divC:lC X (binaryOp .FloorDiv) (Ue Xg λi j=>.int (i / j)):=N4.i2
def Ai:lC X (binaryOp .Mod) (Ue (λ_ j=>0<j) λi j=>.int (i%j)):=RY.i2
def powC:lC X (binaryOp .Pow) (Ue Xf λi j=>.int (i ^ j.toNat)):=RW.i2
def Vy:lC X (compareOp .Lt) (zY λi j=>.bl (decide (i<j))):=Vj.VL
def leC:lC X (compareOp .LtE) (zY λi j=>.bl (decide (i<=j))):=Vk.VL
def ZU:lC X (compareOp .Gt) (zY λi j=>.bl (decide (j<i))):=Vl.VL
def geC:lC X (compareOp .GtE) (zY λi j=>.bl (decide (j<=i))):=Vm.VL
def J4 (neg:Bool):R2:=λx y H Q=>match x,y with
 |.int i,.int j=>Q (.bl (neg != decide (i=j))) H
 |.str i,.str j=>Q (.bl (neg != decide (i=j))) H
 |.bl i,.bl j=>Q (.bl (neg != decide (i=j))) H
 |_,_=>False
def uJ {p q:Prop}[Decidable p][Decidable q](h:p↔q):decide p=decide q:=by
 by_cases hp:p
 .rw[aJ hp,aJ (h.mp hp)]
 .rw[aS hp,aS λz=>hp (h.mpr z)]
def dI {i j:Int}:decide (V.int i=V.int j)=decide (i=j):=uJ (by simp)
def dS {i j:Str}:decide (V.str i=V.str j)=decide (i=j):=uJ (by simp)
def dB {i j:Bool}:decide (V.bl i=V.bl j)=decide (i=j):=uJ (by simp)
def Tj:lC X (compareOp .Eq) (J4 false):=Qm.imp λx y H Q q=>by
 unfold J4 at q
 split at q
 .exact⟨rfl,by rw[dI];simpa using q⟩
 .exact⟨rfl,by rw[dS];simpa using q⟩
 .exact⟨rfl,by rw[dB];simpa using q⟩
 .exact q.elim
def Dj:lC X (compareOp .NotEq) (J4 true):=Vi.imp λx y H Q q=>by
 unfold J4 at q
 split at q
 .exact⟨rfl,by rw[dI];simpa using q⟩
 .exact⟨rfl,by rw[dS];simpa using q⟩
 .exact⟨rfl,by rw[dB];simpa using q⟩
 .exact q.elim
def cT (t:TE):TT:=λσ H Q=>t σ H λx H1=>match x with|.bl c=>Q c H1|_=>False
end
def bK (Q:Bool->Hp->Prop):VK:=λx H1=>match x with|.bl c=>Q c H1|_=>False
section
variable {X:Cx}{a b e:Expr}{t ta tb:TE}{pos:Pos}
def cB (t:TE):TT:=λσ H Q=>t σ H (bK Q)
def nP {op:CmpOp}{r:R2}(ho:lC X (compareOp op) r)(ha:PE X a ta)(hb:PE X b tb)(hm:behindInMarks op b=false):PT X (.Compare a [op] [b] pos) (cB (UO r ta tb)):=by
 intro fJ s σ H Q I h
 have hE:=sN (pos:=pos) ho ha hb hm
 refine wpAny_isTrue_Compare1 ?_ hm
 refine Pb ha hb I h λv u s2 x y H2 I2 rx ry q=>?_
 refine iN (ho _ s2 σ H2 x y v u _ I2 rx ry q) λc s3 q9=>?_
 obtain⟨z,H3,I3,r3,q3⟩:=q9
 cases z with
 |bl d=>cases r3;exact cC ⟨H3,I3,q3⟩
 |_=>exact(show False from q3).elim
def sL (h:PE X e t)(he:∀ whole,isTrue e X.env whole=(do let v <- whole;standAt e.pos;holding [v] (truthy v)):=by intro _;rfl):PT X e (cB t):=by
 intro fJ s σ H Q I hw
 refine isTrue_plain (iN (h fJ s σ H _ I hw) λv s1 qo=>?_) (he _)
 obtain⟨x,H1,I1,r1,q1⟩:=qo
 cases x with
 |bl d=>cases r1;exact cC ⟨H1,I1,q1⟩
 |_=>exact(show False from q1).elim
def cAnd (ta tb:TE):TE:=λσ H Q=>ta σ H λx H1=>match x with|.bl c=>if c=true then tb σ H1 Q else Q (.bl false) H1|_=>False
def cOr (ta tb:TE):TE:=λσ H Q=>ta σ H λx H1=>match x with|.bl c=>if c=true then Q (.bl true) H1 else tb σ H1 Q|_=>False
def cNot (ta:TE):TE:=λσ H Q=>ta σ H λx H1=>match x with|.bl c=>Q (.bl (!c)) H1|_=>False
def vK {rest:au Expr}(ha:PE X a ta)(hb:PE X (.BoolOp .And (b::rest) pos) tb):PE X (.BoolOp .And (a::b::rest) pos) (cAnd ta tb):=by
 intro fJ s σ H Q I h
 refine BoolOp_and (iN (ha fJ s σ H _ I h) λv s1 qm=>?_)
 obtain⟨x,H1,I1,r1,q1⟩:=qm
 cases x with
 | bl c =>
  cases r1
  refine cC ?_
  cases c with
  |true=>exact hb fJ s1 σ H1 Q I1 q1
  |false=>exact⟨.bl false,H1,I1,rfl,q1⟩
 |_=>exact(show False from q1).elim
def RO {rest:au Expr}(ha:PE X a ta)(hb:PE X (.BoolOp .Or (b::rest) pos) tb):PE X (.BoolOp .Or (a::b::rest) pos) (cOr ta tb):=by
 intro fJ s σ H Q I h
 refine BoolOp_or (iN (ha fJ s σ H _ I h) λv s1 rZ=>?_)
 obtain⟨x,H1,I1,r1,q1⟩:=rZ
 cases x with
 | bl c =>
  cases r1
  refine cC ?_
  cases c with
  |false=>exact hb fJ s1 σ H1 Q I1 q1
  |true=>exact⟨.bl true,H1,I1,rfl,q1⟩
 |_=>exact(show False from q1).elim
def NW (ha:PE X a ta):PE X (.UnaryOp .Not a pos) (cNot ta):=by
 intro fJ s σ H Q I h
 refine UnaryOp_ (iN (ha fJ s σ H _ I h) λv s1 tY=>?_)
 obtain⟨x,H1,I1,r1,q1⟩:=tY
 cases x with
 |bl c=>cases r1;exact not_of (cC ⟨.bl (!c),H1,I1,rfl,q1⟩)
 |_=>exact(show False from q1).elim
def opt {α:Type}(o:av α)(k:α->Prop):Prop:=match o with|some v=>k v|none=>False
def iw {α:Type}{o:av α}{k:α->Prop}(h:opt o k):∃ v,o=some v/\k v:=by
 cases o with
 |none=>exact h.elim
 |some v=>exact⟨v,rfl,h⟩
def RA:R2:=λx y H Q=>match x,y with
 |.ref p,.int i=>∃ xs,(H p=some (.lst xs)\/H p=some (.tup xs))/\opt (lB xs i) λv=>Q v H
 |.str z,.int i=>z.length<=sizeLine/\opt (lB z.cps.toList i) λc=>Q (.str ⟨#[c]⟩) H
 |_,_=>False
def G5.imp {r r':R2}(h:G5 X r)(hi:∀ x y H Q,r' x y H Q->r x y H Q):G5 X r':=λvalue slice fJ s σ H x y v u Q I r1 r2 q=>h value slice fJ s σ H x y v u Q I r1 r2 (hi x y H Q q)
def K9:G5 X RA:=Ss.imp λx y H Q q=>by
 unfold RA at q
 split at q
 .obtain⟨xs,h,q⟩:=q
  obtain⟨v,e,q⟩:=iw q
  rcases h with h|h
  .exact .inl ⟨_,xs,_,v,rfl,rfl,qz.of h,e,q⟩
  .exact .inr (.inl ⟨_,xs,_,v,rfl,rfl,IH.of h,e,q⟩)
 .obtain⟨hz,q⟩:=q
  obtain⟨v,e,q⟩:=iw q
  exact .inr (.inr ⟨_,_,v,rfl,rfl,hz,e,q⟩)
 .exact q.elim
def U5:V->av Int->av Int->Hp->VK->Prop:=λx lo hi H Q=>match x with
 |.ref p=>∃ xs,H p=some (.lst xs)/\∀ l,H l=none->Q (.ref l) (upd H l (.lst (EB xs lo hi)))
 |.str z=>z.length<=sizeLine/\Q (.str ⟨(kX z.cps.toList lo hi).toArray⟩) H
 |_=>False
def slC:XW X U5:=by
 intro fJ s σ H x v vl vu lo hi sl Q I rx hs pl pu h
 unfold U5 at h
 split at h
 .obtain⟨xs,h1,h2⟩:=h
  exact Ny fJ s σ H _ v vl vu lo hi sl Q I rx hs pl pu ⟨_,xs,rfl,qz.of h1,h2⟩
 .exact Rt fJ s σ H _ v vl vu lo hi sl Q I rx hs pl pu ⟨_,rfl,h.1,h.2⟩
 .cases h
def cNo:TO:=λ_ H Q=>Q none H
def WQ (t:TE):TO:=λσ H Q=>t σ H λx H1=>match x with|.int i=>Q (some i) H1|_=>False
def RI:PO X none cNo:=NR
def J9 {te:TE}(h:PE X e te):PO X (some e) (WQ te):=by
 intro fJ s σ H Q I hw
 rw[evalPart_some]
 refine iN (h fJ s σ H _ I hw) λu s1 uE=>?_
 obtain⟨x,H1,I1,r1,q1⟩:=uE
 cases x with
 |int i=>obtain⟨t,rfl⟩:=r1;exact⟨some i,H1,I1,.int i t,q1⟩
 |_=>exact(show False from q1).elim
def J1:au V->Hp->VK->Prop:=λvs H Q=>match vs with
 |[.ref p]=>∃ xs,(H p=some (.lst xs)\/H p=some (.tup xs))/\Q (.int xs.length) H
 |[.str z]=>z.length<=sizeLine/\Q (.int z.length) H
 |_=>False
def Ot:jm X (.builtin "len") J1:=(AV.or AU).imp λvs H Q q=>by
 unfold J1 at q
 split at q
 .obtain⟨xs,h,q⟩:=q
  rcases h with h|h
  .exact .inl ⟨_,xs,rfl,.inl (qz.of h),q⟩
  .exact .inl ⟨_,xs,rfl,.inr (IH.of h),q⟩
 .exact .inr ⟨_,rfl,q.1,q.2⟩
 .exact q.elim
def JX:EJ:=λo i v H Q=>match o,i with
 |.ref p,.int k=>∃ xs,H p=some (.lst xs)/\opt (FQ xs.length k) λj=>Q (upd H p (.lst (xs.set j v)))
 |_,_=>False
def setC:Pm X JX:=by
 intro fJ s σ H o i v ov iv u Q I ro ri rv h
 unfold JX at h
 split at h
 .obtain⟨xs,hx,q⟩:=h
  obtain⟨j,e,q⟩:=iw q
  exact set_list fJ s σ H _ _ v ov iv u Q I ro ri rv ⟨_,xs,_,j,rfl,rfl,hx,e,q⟩
 .cases h
def Qj:V->V->Hp->VK->Prop:=λo i H Q=>match o,i with
 |.ref p,.int k=>∃ xs,H p=some (.lst xs)/\0<=k/\opt (xs[k.toNat]?) λv=>Q v H
 |_,_=>False
def ZV:W0 X Qj:=by
 intro fJ s σ H o i ov iv Q I ro ri h
 unfold Qj at h
 split at h
 .obtain⟨xs,hx,h0,q⟩:=h
  obtain⟨v,e,q⟩:=iw q
  cases ro
  obtain⟨t,rfl⟩:=ri
  obtain⟨z,gu,n,r,hl,ho⟩:=I.lZ hx
  obtain⟨w,ew,Di⟩:=r.get e
  have mK:=(ka e).1
  have hn:=qj
  exact wpAny_getItem_list (x:=w) (⟨_,ho,rfl,n,rfl⟩:s.heap.IsList _ gu.toArray) h0 (by lia) (by simpa using ew) ⟨v,H,I,Di,q⟩
 .cases h
def VE (f:Int->Int->Int):Pk:=λx y H Q=>match x,y with|.int i,.int j=>Q (.int (f i j)) H|_,_=>False
def sW:TX X .Add (VE λi j=>i+j):=by
 intro fJ s σ H x y v u Q I r1 r2 h
 unfold VE at h
 split at h
 .exact Sy fJ s σ H _ _ v u Q I r1 r2 ⟨_,_,rfl,rfl,h⟩
 .cases h
def O8 (n:Nat)(t:zw):TG:=λv σ H Q=>match v with|.ref a=>∃ xs,H a=some (.tup xs)/\xs.length=n/\t xs σ H Q|_=>False
def GP (t:TG)(u:zw):zw:=λvs σ H Q=>match vs with|v::r=>t v σ H λjo H'=>u r jo H' Q|[]=>False
def O9:zw:=λvs σ H Q=>match vs with|[]=>Q σ H|_=>False
def g9 {es:au Expr}{k:Nat}{t:zw}{n:Nat}(hc:X.gY=true)(h:Mx X es t)(hn:(assignEach es X.env).length=n:=by rfl)(Li:(assignEach es X.env).findIdx? (·.1)=none:=by rfl):PG X (.Tuple es k pos) (O8 n t) :=
 (RL (pos:=pos) (k:=k) hc h hn Li).imp λv σ H Q q=>by
  unfold O8 at q
  split at q
  .obtain⟨xs,a,b,c⟩:=q;exact⟨_,xs,rfl,IH.of a,b,c⟩
  .exact q.elim
def fS {es:au Expr}{t:TG}{u:zw}(h1:PG X e t)(h2:Mx X es u)(hs:(assignEach (e::es) X.env).map (·.2)=assign e X.env::(assignEach es X.env).map (·.2):=by rfl):Mx X (e::es) (GP t u) :=
 (Ke h1 h2 hs).imp λv σ H Q q=>by
  unfold GP at q
  split at q
  .exact⟨_,_,rfl,q⟩
  .exact q.elim
def gF:Mx X [] O9:=NV.imp λv σ H Q q=>by
 unfold O9 at q
 split at q
 .exact⟨rfl,q⟩
 .exact q.elim
def DP:V->au V->Hp->VK->Prop:=λx vs H Q=>match x,vs with
 |.str z,[.ref l]=>z.cps=#[]/\∃ ys:au Str,H l=some (.lst (ys.map V.str))/\(ys.map (·.length)).sum<=16777216/\Q (.str ⟨(ys.map (·.cps.toList)).flatten.toArray⟩) H
 |_,_=>False
def K7:EM X "str.join" DP:=Og.imp λx vs H Q q=>by
 unfold DP at q
 split at q
 .obtain⟨a,ys,b,c,d⟩:=q;exact⟨_,_,ys,rfl,a,rfl,qz.of b,c,d⟩
 .exact q.elim
def Qi (K:aa):au V->Hp->VK->Prop:=λvs H Q=>match vs with
 |[x,.ty T]=>∃ t b,kE K H x t/\W.kitOne K t (.type T)=some b/\Q (.bl b) H
 |_=>False
def rX:jm X (.builtin "isinstance") (Qi X.K):=Mb.imp λvs H Q q=>by
 unfold Qi at q
 split at q
 .obtain⟨t,b,h1,h2,h3⟩:=q;exact⟨_,_,t,b,rfl,h1,h2,h3⟩
 .exact q.elim
def DM (K:aa):au V->Hp->VK->Prop:=λvs H Q=>match vs with
 |[.ref p]=>∃ ys,qz K H p ys/\∀ l,H l=none->Q (.ref l) (upd H l (.lst ys))
 |_=>False
def Cj:jm X (.type "list") (DM X.K):=AS.imp λvs H Q q=>by
 unfold DM at q
 split at q
 .obtain⟨ys,h1,h2⟩:=q;exact⟨_,ys,rfl,.inl h1,h2⟩
 .exact q.elim
def Qg:au V->Hp->VK->Prop:=λvs H Q=>∃ i j,vs=[.int i,.int j]/\Q (.int (max i j)) H
def Om (hc:X.gY=true):jm X (.builtin "max") Qg:=(Iv hc).imp λvs H Q q=>by
 obtain⟨i,j,rfl,q⟩:=q
 refine⟨_,_,rfl,?_⟩
 have e:(if j>i then j else i)=max i j:=by split<;>lia
 rw[e];exact q
end
def kq {c A B:Prop}[Decidable c](h1:c->A)(h2:¬ c->B):if decide c=true then A else B:=by
 by_cases h:c
 .rw[aF (aJ h)];exact h1 h
 .rw[aG (by simp[h])];exact h2 h
def yT {c A B:Prop}[Decidable c](h1:¬ c->A)(h2:c->B):if(true != decide c)=true then A else B:=by
 by_cases h:c
 .rw[aG (by simp[h])];exact h2 h
 .rw[aF (by simp[h])];exact h1 h
def oI {c A B:Prop}[Decidable c](h1:c->A)(h2:¬ c->B):if(false != decide c)=true then A else B:=by
 by_cases h:c
 .rw[aF (by simp[h])];exact h1 h
 .rw[aG (by simp[h])];exact h2 h
def Su {b:Bool}{A B:Prop}(h1:b=true->A)(h2:b=false->B):if b=true then A else B:=by
 cases b with
 |true=>exact h1 rfl
 |false=>exact h2 rfl
def CNx (n i:Nat)(Pv:Nat->au V->Hp->Prop)(ys:au V):VK:=λy H4=>ys.length<sizeLine/\∃ m',m'<n - i/\(m'=n - (i+1)/\i+1<=n/\Pv (i+1) (ys++[y]) H4)
def cnx {n i:Nat}{Pv:Nat->au V->Hp->Prop}{ys:au V}{y:V}{H:Hp}(hi:i<n)(hl:ys.length<sizeLine)(p:Pv (i+1) (ys++[y]) H):CNx n i Pv ys y H:=⟨hl,n - (i+1),by lia,rfl,hi,p⟩
def CSk (n i:Nat)(Pv:Nat->au V->Hp->Prop)(ys:au V)(H3:Hp):Prop:=∃ m',m'<n - i/\(m'=n - (i+1)/\i+1<=n/\Pv (i+1) ys H3)
end L2
namespace L2
open PySem PySem.Spec PyProof.Rows
structure mM (P:ah)(w:ai)(K:aa)(mg:Str->Option ar)(fK:Heap)(x:Str)(k:Nat)(ps:List Str)(sp:Sp):Prop where
 ex:∃ f fd,gL P w K mg fK ku k f fd ps sp/\mg x=some (.ref f)/\W.keepIn K (.ref f)=true/\Binds K fd ps []
def wW {X:Cx}{x:Str}{p pos:Pos}{e:Expr}{es:au Expr}{t:TA}{k:Nat}{ps:au Str}{sp:Sp}(C:mM X.prog X.w X.K X.mg X.fK x k ps sp)(hr:jO k X.A)(hg:Gl X x)(ha:PA X (e::es) t)
 (yf:(x==("__debug__" : Str))=false:=by decide) (he:starEach (e::es) X.env=(false,eval e X.env)::starEach es X.env:=by rfl) (qr:(backTo pos (starEach es X.env)).any (·.1)=false:=by rfl):
 PE X (.Call (.Name x p) (e::es) [] pos) (PU sp [] E0 t):=by
 obtain⟨f,fd,F,hm,hk,hb⟩:=C.ex
 exact FA F hr hg hm hk hb .nil Ko ha yf he qr
def Yo (t u:TS):TS:=λD σ H=>∃ M:St->Hp->Prop,t { D with nx:=M} σ H/\∀ jo H',M jo H'->u D jo H'
def NN {X:Cx}{st:Stmt}{rest:au Stmt}{t u:TS}(h1:PS X st t)(h2:A5 X rest u):A5 X (st::rest) (Yo t u):=by
 intro fJ s σ H D I h
 obtain⟨M,a,b⟩:=h
 refine wpAny_execs_cons (iN (h1 fJ s σ H { D with nx:=M} I a) λf s1 q=>?_)
 cases f with
 | next =>
  obtain⟨jo,H',I',q⟩:=q
  exact h2 fJ s1 jo H' D I' (b jo H' q)
 |ret v=>exact q
 |brk=>exact q
 |cont=>exact q
def SB (b:ao)(H H':Hp):Prop:=∀ c o,c≠b->H c=some o->H' c=some o
def SB.trans {b:ao}{H H1 H2:Hp}(h:SB b H H1)(h':SB b H1 H2):SB b H H2:=λc o n e=>h' c o n (h c o n e)
def fN {α:Type}{o:av α}{k:α->Prop}{v:α}(e:o=some v)(h:k v):opt o k:=by rw[e];exact h
def OB (b:ao)(H H':Hp):Prop:=∀ c,c≠b->H' c=H c
def OB.refl {b:ao}{H:Hp}:OB b H H:=λ_ _=>rfl
def OB.upd {b:ao}{H H':Hp}{o:HO}(h:OB b H H'):OB b H (L2.upd H' b o):=λc n=>by rw[gB n];exact h c n
def pM:(0:Int)<2147483647:=by decide
def pN:(0:Int)<1000000007:=by decide
def OX (l:au Nat):Prop:=∀ c∈l,c=111\/c=120
def OX.of {l:au Nat}(h:l.all (λc=>c==111||c==120)=true):OX l:=λc hc=>by
 have:=List.all_eq_true.mp h c hc
 simpa using this
def OX.app {a b:au Nat}(ha:OX a)(hb:OX b):OX (a++b):=λc h=>(List.mem_append.mp h).elim (ha c) (hb c)
def OX.one {c:Nat}(h:c=111\/c=120):OX [c]:=λd hd=>by rw[List.mem_singleton.mp hd];exact h
def OX.rep {c n:Nat}(h:c=111\/c=120):OX (List.replicate n c):=λd hd=>by rw[(List.mem_replicate.mp hd).2];exact h
def AZ {l:au Nat}{v:Int}(h0:0<=v)(h1:v<l.length):∃ c,lB l v=some c/\c∈l:=by
 have mK:v.toNat<l.length:=by lia
 refine⟨l[v.toNat],?_,bR _⟩
 have q:=kO (xs:=l) (j:=v.toNat) (v:=l[v.toNat]) (iM mK)
 rwa [cA h0]at q
def pC (a b:au Nat):((⟨a.toArray⟩:Str)++(⟨b.toArray⟩:Str))=⟨(a++b).toArray⟩:=by
 show(⟨a.toArray++b.toArray⟩:Str)=_
 congr 1
 simp
def HM (a:au Nat):(⟨a.toArray⟩:Str).length=a.length:=by simp[Str.length]
def xp:∀ l:au Nat,((l.map λc=>(⟨#[c]⟩:Str)).map (·.cps.toList)).flatten=l
 |[]=>rfl
 |c::r=>by rw[aB,aB,List.flatten_cons,xp r];rfl
def yE:∀ l:au Nat,((l.map λc=>(⟨#[c]⟩:Str)).map (·.length)).sum=l.length
 |[]=>rfl
 | c::r=>by
  rw[aB,aB,cx,yE r]
  show 1+r.length=r.length+1
  lia
def PZ (K:aa):Sp:=λvs H Q _=>∃(a:ao) (ns:au Int),vs=[.ref a]/\qz K H a (ns.map V.int)/\ns.length<=63/\∀ H',Q (.bl true) H'
def Vz (z:Str):z.length=z.cps.toList.length:=by simp[Str.length]
def Uz (b:Bool):(false != b)=b:=by cases b<;>rfl
def Xj (b:Bool):(true != b)=!b:=by cases b<;>rfl
def jv (K:aa)(T:String):W.kitOne K (.type T) (.type T)=some true:=by unfold W.kitOne;simp
def k7 (c:Bool)(h:Heap)(it a:ao)(k:Nat):Prop:=if c=true then h.IsTupleIter it a k else h.IsListIter it a k
def lA (c:Bool)(h:Heap)(a:ao)(gu:Array ar):Prop:=if c=true then h.IsTuple a gu else h.IsList a gu
def k7.extBut {c:Bool}{h h':Heap}{it a b:ao}{k:Nat}(x:k7 c h it a k)(hs:Heap.ExtBut b h h')(IV:it≠b):k7 c h' it a k:=by
 cases c with
 |true=>exact Heap.IsTupleIter.extBut x hs IV
 |false=>exact Heap.IsListIter.extBut x hs IV
def lA.extBut {c:Bool}{h h':Heap}{a b:ao}{gu:Array ar}(x:lA c h a gu)(hs:Heap.ExtBut b h h')(IV:a≠b):lA c h' a gu:=by
 cases c with
 |true=>exact Heap.IsTuple.extBut x hs IV
 |false=>exact Heap.IsList.extBut x hs IV
def lA.lt {c:Bool}{h:Heap}{a:ao}{gu:Array ar}(x:lA c h a gu):a≠h.objs.size:=by
 cases c with
 |true=>obtain⟨o,e,_⟩:=x;exact aE (jk e)
 |false=>obtain⟨o,e,_⟩:=x;exact aE (jk e)
def k7.ex {c:Bool}{h:Heap}{it a:ao}{k:Nat}(x:k7 c h it a k):∃ o,h.get? it=some o:=by
 cases c with
 |true=>obtain⟨o,e,_⟩:=x;exact⟨o,e⟩
 |false=>obtain⟨o,e,_⟩:=x;exact⟨o,e⟩
def k7.data {c:Bool}{h:Heap}{it a:ao}{k:Nat}(x:k7 c h it a k):∃ o,h.get? it=some o/\∀ v,o.data≠.cell v:=by
 cases c with
 |true=>obtain⟨o,e,_,d⟩:=x;exact⟨o,e,λv z=>by rw[d]at z;cases z⟩
 |false=>obtain⟨o,e,_,d⟩:=x;exact⟨o,e,λv z=>by rw[d]at z;cases z⟩
def k7.at {c:Bool}{h h':Heap}{it a:ao}{k:Nat}(x:k7 c h it a k)(e:∀ o,h.get? it=some o->h'.get? it=some o):k7 c h' it a k:=by
 cases c with
 |true=>obtain⟨o,q,r⟩:=x;exact⟨o,e o q,r⟩
 |false=>obtain⟨o,q,r⟩:=x;exact⟨o,e o q,r⟩
section
variable {prog:ah}{w:ai}{A:Around}{E:ar->ak->Prop}{s:ak}
def D4 {it t:ao}{i:Nat}{items}{x:ar}{Q:ar->ak->Prop}(hit:s.heap.IsTupleIter it t i)(ht:s.heap.IsTuple t items)(hx:items[i]?=some x)
 (hQ:∀ h',h'.IsTupleIter it t (i+1)->Heap.SameBut it s.heap h'->Q x {s with heap:=h'}):wpAny (model prog w) A (Builtin.SmallTypes.nextOf (.ref it)) Q E s:=by
 obtain⟨o,ho,hc,hd⟩:=id hit
 obtain⟨ol,Uo,_,nl,ZC⟩:=ht
 unfold Builtin.SmallTypes.nextOf
 refine f9 (bI (name:=Str.ofString "__next__") hit.typeIs de (ck de hit.typeIs F.entry_tuple_iterator_next ?_ (F.args_tuple_iterator_next_1 _)))
 show wpAny _ _ (field (.ref it) 0>>=_) _ _ s
 refine f9 (aO ho hd (x:=.ref t) rfl ?_)
 show wpAny _ _ (if(Value.ref t==Value.none)=true then _ else _) _ _ s
 rw[aG (show ¬ ((Value.ref t==Value.none)=true)from aN)]
 show wpAny _ _ (field (.ref it) 1>>=_) _ _ s
 refine f9 (aO ho hd (x:=.int i 0) rfl ?_)
 show wpAny _ _ (seqItems? (.ref t)>>=_) _ _ s
 refine f9 (bc Uo ZC ?_)
 simp only[yh,hx]
 refine f9 (dq ho hd (by simp) (aA ⟨x,rfl,aA (hQ _ ?_ (dW ..))⟩))
 exact⟨_,bL _ ho (fv (eG hd _)),(Obj.cls_mapFields ..).trans hc,by rw[eG hd];simp[rawInt]⟩
def HJ {it t:ao}{i:Nat}{items}{Q:ar->ak->Prop}(hh:A.handled=none)(hit:s.heap.IsTupleIter it t i)(ht:s.heap.IsTuple t items)(hx:items[i]?=none)
 (hE:∀ h' e,Heap.ExtBut it s.heap h'->(∃ o,h'.get? e=some o/\o.cls=.type "StopIteration")->E (.ref e) {s with heap:=h'}):wpAny (model prog w) A (Builtin.SmallTypes.nextOf (.ref it)) Q E s:=by
 obtain⟨o,ho,hc,hd⟩:=id hit
 obtain⟨ol,Uo,_,nl,ZC⟩:=ht
 unfold Builtin.SmallTypes.nextOf
 refine f9 (bI (name:=Str.ofString "__next__") hit.typeIs de (ck de hit.typeIs F.entry_tuple_iterator_next ?_ (F.args_tuple_iterator_next_1 _)))
 show wpAny _ _ (field (.ref it) 0>>=_) _ _ s
 refine f9 (aO ho hd (x:=.ref t) rfl ?_)
 show wpAny _ _ (if(Value.ref t==Value.none)=true then _ else _) _ _ s
 rw[aG (show ¬ ((Value.ref t==Value.none)=true)from aN)]
 show wpAny _ _ (field (.ref it) 1>>=_) _ _ s
 refine f9 (aO ho hd (x:=.int i 0) rfl ?_)
 show wpAny _ _ (seqItems? (.ref t)>>=_) _ _ s
 refine f9 (bc Uo ZC ?_)
 simp only[yh,hx]
 refine f9 (dJ (f9 (dq ho hd (by simp) ?_)))
 show wpAny _ _ (newExc (.type "StopIteration") []>>=_) _ _ _
 refine f9 ?_
 simp only[newExc,newTuple]
 refine f9 (dk ?_ (by size_fits))
 refine f9 (m:=firstArgMember _ _) (wpAny_of_eq (a:=Value.none) (by first|rfl|(simp only[firstArgMember];rfl)) ?_)
 refine dk ?_ (by size_fits)
 simp only[raiseNew]
 refine f9 (wpAny_handled ?_)
 first|rw[show A.in1.handled=none from hh]|rw[hh]
 refine f9 (aA (wpAny_throw ?_))
 exact hE _ _ (((dW ..).extBut.push _).push _) ⟨_,aI _ rfl,rfl⟩
def i7 {c:Bool}{it l:ao}{i:Nat}{items:Array ar}{x:ar}{Q:ar->ak->Prop}(hit:k7 c s.heap it l i)(hl:lA c s.heap l items)(hx:items[i]?=some x)
 (hQ:∀ h',k7 c h' it l (i+1)->Heap.SameBut it s.heap h'->Q x {s with heap:=h'}):wpAny (model prog w) A (Builtin.SmallTypes.nextOf (.ref it)) Q E s:=by
 cases c with
 |true=>exact D4 hit hl hx hQ
 |false=>exact wpAny_nextOf_list_item hit hl hx hQ
def lj {c:Bool}{it l:ao}{i:Nat}{items:Array ar}{Q:ar->ak->Prop}(hh:A.handled=none)(hit:k7 c s.heap it l i)(hl:lA c s.heap l items)(hx:items[i]?=none)
 (hE:∀ h' e,Heap.ExtBut it s.heap h'->(∃ o,h'.get? e=some o/\o.cls=.type "StopIteration")->E (.ref e) {s with heap:=h'}):wpAny (model prog w) A (Builtin.SmallTypes.nextOf (.ref it)) Q E s:=by
 cases c with
 |true=>exact HJ hh hit hl hx hE
 |false=>exact wpAny_nextOf_list_end hh hit hl hx hE
structure ZS (c:Bool)(z TI TO i1 i2 l1 l2:ao)(f a b:ar)(k1 k2:Nat)(xs ys:Array ar)(h:Heap):Prop where
 z:IsZip h z TI TO f
 ti:IsPair h TI (.ref i1) (.ref i2)
 to:IsPair h TO a b
 n1:k7 c h i1 l1 k1
 n2:k7 c h i2 l2 k2
 q1:lA c h l1 xs
 q2:lA c h l2 ys
def ZK (z TO i1 i2:ao)(h h':Heap):Prop:=∀ d o,d≠z->d≠TO->d≠i1->d≠i2->h.get? d=some o->h'.get? d=some o
def ZK.trans {z TO i1 i2:ao}{h h1 h2:Heap}(a:ZK z TO i1 i2 h h1)(b:ZK z TO i1 i2 h1 h2):ZK z TO i1 i2 h h2:=λd o q1 q2 q3 q4 e=>b d o q1 q2 q3 q4 (a d o q1 q2 q3 q4 e)
section
variable {c:Bool}{z TI TO i1 i2 l1 l2:ao}{f f' a b x y:ar}{k1 k2:Nat}{xs ys:Array ar}{h h':Heap}
def ZS.mz (S:ZS c z TI TO i1 i2 l1 l2 f a b k1 k2 xs ys h)(D:ZipApart z TI TO i1 i2 l1 l2)(e:IsZip h' z TI TO f')(k:Heap.ExtBut z h h'):ZS c z TI TO i1 i2 l1 l2 f' a b k1 k2 xs ys h' :=
 ⟨e,k _ _ D.TIz S.ti,k _ _ D.TOz S.to,S.n1.extBut k D.i1z,S.n2.extBut k D.i2z,S.q1.extBut k D.l1z,S.q2.extBut k D.l2z⟩
def ZS.m1 {j:Nat}(S:ZS c z TI TO i1 i2 l1 l2 f a b k1 k2 xs ys h)(D:ZipApart z TI TO i1 i2 l1 l2)(e:k7 c h' i1 l1 j)(k:Heap.ExtBut i1 h h'):ZS c z TI TO i1 i2 l1 l2 f a b j k2 xs ys h' :=
 ⟨k _ _ D.i1z.symm S.z,k _ _ D.TIi1 S.ti,k _ _ D.TOi1 S.to,e,S.n2.extBut k D.i12.symm,S.q1.extBut k D.l1i1,S.q2.extBut k D.l2i1⟩
def ZS.m2 {j:Nat}(S:ZS c z TI TO i1 i2 l1 l2 f a b k1 k2 xs ys h)(D:ZipApart z TI TO i1 i2 l1 l2)(e:k7 c h' i2 l2 j)(k:Heap.ExtBut i2 h h'):ZS c z TI TO i1 i2 l1 l2 f a b k1 j xs ys h' :=
 ⟨k _ _ D.i2z.symm S.z,k _ _ D.TIi2 S.ti,k _ _ D.TOi2 S.to,S.n1.extBut k D.i12,e,S.q1.extBut k D.l1i2,S.q2.extBut k D.l2i2⟩
def ZS.mo (S:ZS c z TI TO i1 i2 l1 l2 f a b k1 k2 xs ys h)(D:ZipApart z TI TO i1 i2 l1 l2)(e:IsPair h' TO x y)(k:Heap.ExtBut TO h h'):ZS c z TI TO i1 i2 l1 l2 f x y k1 k2 xs ys h' :=
 ⟨k _ _ D.TOz.symm S.z,k _ _ D.TITO S.ti,e,S.n1.extBut k D.TOi1.symm,S.n2.extBut k D.TOi2.symm,S.q1.extBut k D.l1TO,S.q2.extBut k D.l2TO⟩
def ZS.push (S:ZS c z TI TO i1 i2 l1 l2 f a b k1 k2 xs ys h)(o:Obj):ZS c z TI TO i1 i2 l1 l2 f a b k1 k2 xs ys (h.push o) :=
 ⟨j6 _ S.z,j6 _ S.ti,j6 _ S.to,S.n1.at λ_ e=>j6 _ e,S.n2.at λ_ e=>j6 _ e,
  S.q1.extBut (b:=h.objs.size) (λ_ _ _ e=>j6 _ e) (S.q1.lt),S.q2.extBut (b:=h.objs.size) (λ_ _ _ e=>j6 _ e) (S.q2.lt)⟩
def nZ (k:Heap.ExtBut z h h'):ZK z TO i1 i2 h h':=λd o q _ _ _ e=>k d o q e
def Hb (k:Heap.ExtBut TO h h'):ZK z TO i1 i2 h h':=λd o _ q _ _ e=>k d o q e
def vg (k:Heap.ExtBut i1 h h'):ZK z TO i1 i2 h h':=λd o _ _ q _ e=>k d o q e
def Bv (k:Heap.ExtBut i2 h h'):ZK z TO i1 i2 h h':=λd o _ _ _ q e=>k d o q e
end
section
variable {c:Bool}{z TI TO i1 i2 l1 l2:ao}{k1 k2:Nat}{xs ys:Array ar}{x y a b:ar}
def Jd {Q:ar->ak->Prop}(D:ZipApart z TI TO i1 i2 l1 l2)(S:ZS c z TI TO i1 i2 l1 l2 .none a b k1 k2 xs ys s.heap)(hx:xs[k1]?=some x)(hy:ys[k2]?=some y)
 (hQ:∀ h',ZS c z TI TO i1 i2 l1 l2 (rawInt s.heap.objs.size) x y (k1+1) (k2+1) xs ys h'->IsPair h' s.heap.objs.size x y->ZK z TO i1 i2 s.heap h'->Q (.ref s.heap.objs.size) {s with heap:=h'}):
 wpAny (model prog w) A (Builtin.«zip.__next__» ⟨[.ref z],[]⟩) (λfin s'=>∃ v,fin=.done (.ret v)/\Q v s') E s:=by
 refine f9 (aA (f9 (aO S.z rfl (x:=.bool false) rfl (f9 (aO S.z rfl (x:=.ref TI) rfl (f9 (bc S.ti rfl ?_)))))))
 refine f9 (m:=Builtin.SmallTypes.ownedTupleIsFree (.ref z)) (f9 (aO S.z rfl (x:=.none) rfl (aA ?_)))
 refine f9 (dJ (f9 (aO S.z rfl (x:=.ref TO) rfl (f9 (aY S.z (by simp) λg1 e1 t1=>?_)))))
 have S1:=S.mz D (f':=.ellipsis) e1 t1.extBut
 refine f9 ?_
 rw[show(#[Value.ref i1,Value.ref i2]:Array ar).toList.zipIdx=[(.ref i1,0),(.ref i2,1)]from rfl,bH]
 refine f9 (f9 (cV (f9 (i7 S1.n1 S1.q1 hx λg2 e2 t2=>aA ?_))))
 have S2:=S1.m1 D e2 t2.extBut
 refine f9 (bc S2.to rfl (f9 (cW S2.to λg3 e3 t3=>f9 (cY (aA ?_)))))
 have S3:=S2.mo D (x:=x) (y:=b) e3 t3.extBut
 dsimp only
 rw[bH]
 refine f9 (f9 (cV (f9 (i7 S3.n2 S3.q2 hy λg4 e4 t4=>aA ?_))))
 have S4:=S3.m2 D e4 t4.extBut
 refine f9 (bc S4.to rfl (f9 (cW S4.to λg5 e5 t5=>f9 (cY (aA ?_)))))
 have S5:=S4.mo D (x:=x) (y:=y) e5 t5.extBut
 dsimp only
 rw[dN]
 have sz:g5.objs.size=s.heap.objs.size:=t5.1.trans (t4.1.trans (t3.1.trans (t2.1.trans t1.1)))
 refine aA (f9 (bc S5.to rfl (f9 (eV ?_))))
 have S6:=S5.push { cls:=.type "tuple",data:=.seq #[x,y]}
 refine f9 (m:=Builtin.SmallTypes.ownedTupleHandOut (.ref z) (.ref g5.objs.size)) (f9 (aY S6.z (by simp) λg7 e7 t7=>?_))
 have S7:=S6.mz D (f':=rawInt g5.objs.size) e7 t7.extBut
 refine aY S7.z (by simp) λg8 e8 t8=>?_
 have S8:=S7.mz D (f':=rawInt g5.objs.size) e8 t8.extBut
 have Q5:g5.objs.size≠z:=bw (jk S5.z)
 have hT:IsPair g8 g5.objs.size x y:=t8.extBut _ _ Q5 (t7.extBut _ _ Q5 (aI _ rfl))
 have kk:ZK z TO i1 i2 s.heap g8:=((((((nZ t1.extBut).trans (vg t2.extBut)).trans (Hb t3.extBut)).trans (Bv t4.extBut)).trans (Hb t5.extBut)).trans (λd o _ _ _ _ e=>j6 _ e)).trans ((nZ t7.extBut).trans (nZ t8.extBut))
 rw[sz]at S8 hT
 refine aA ⟨_,rfl,?_⟩
 show Q (.ref g5.objs.size) _
 rw[sz]
 exact hQ g8 S8 hT kk
def Jg {Q:Fin->ak->Prop}(hh:A.handled=none)(D:ZipApart z TI TO i1 i2 l1 l2)(S:ZS c z TI TO i1 i2 l1 l2 .none a b k1 k2 xs ys s.heap)(hx:xs[k1]?=none)
 (hE:∀ h' e,ZK z TO i1 i2 s.heap h'->(∃ o,h'.get? e=some o/\o.cls=.type "StopIteration")->E (.ref e) {s with heap:=h'}):
 wpAny (model prog w) A (Builtin.«zip.__next__» ⟨[.ref z],[]⟩) Q E s:=by
 refine f9 (aA (f9 (aO S.z rfl (x:=.bool false) rfl (f9 (aO S.z rfl (x:=.ref TI) rfl (f9 (bc S.ti rfl ?_)))))))
 refine f9 (m:=Builtin.SmallTypes.ownedTupleIsFree (.ref z)) (f9 (aO S.z rfl (x:=.none) rfl (aA ?_)))
 refine f9 (dJ (f9 (aO S.z rfl (x:=.ref TO) rfl (f9 (aY S.z (by simp) λg1 e1 t1=>?_)))))
 have S1:=S.mz D (f':=.ellipsis) e1 t1.extBut
 refine f9 ?_
 rw[show(#[Value.ref i1,Value.ref i2]:Array ar).toList.zipIdx=[(.ref i1,0),(.ref i2,1)]from rfl,bH]
 refine f9 (f9 (cV (f9 (lj hh S1.n1 S1.q1 hx λg2 e t2 he=>?_))))
 obtain⟨oe,Em,Lo⟩:=he
 have Dk:IsZip g2 z TI TO .ellipsis:=t2 _ _ D.i1z.symm S1.z
 have SX:e≠z:=λq=>by subst q;rw[Dk]at Em;cases Em;simp at Lo
 exact aY Dk (by simp) λg3 _ t3=>hE g3 e (((nZ t1.extBut).trans (vg t2)).trans (nZ t3.extBut)) ⟨oe,t3.extBut _ _ SX Em,Lo⟩
def By {Q:av ar->ak->Prop}(D:ZipApart z TI TO i1 i2 l1 l2)(S:ZS c z TI TO i1 i2 l1 l2 .none a b k1 k2 xs ys s.heap)(hx:xs[k1]?=some x)(hy:ys[k2]?=some y)
 (hQ:∀ h',ZS c z TI TO i1 i2 l1 l2 (rawInt s.heap.objs.size) x y (k1+1) (k2+1) xs ys h'->IsPair h' s.heap.objs.size x y->ZK z TO i1 i2 s.heap h'->Q (some (.ref s.heap.objs.size)) {s with heap:=h'}):
 wpAny (model prog w) A (pyNext (.ref z)) Q E s:=by
 have ty:s.TypeIs (.ref z) "zip":=⟨_,S.z,rfl⟩
 unfold pyNext
 exact f9 (dA (bI (name:=Str.ofString "__next__") ty bV (ck bV ty da (Jd D S hx hy λh' a1 a2 a3=>aA (hQ h' a1 a2 a3)) (c4 _))))
def EY {Q:av ar->ak->Prop}(hh:A.handled=none)(D:ZipApart z TI TO i1 i2 l1 l2)(S:ZS c z TI TO i1 i2 l1 l2 .none a b k1 k2 xs ys s.heap)(hx:xs[k1]?=none)
 (hQ:∀ h',ZK z TO i1 i2 s.heap h'->Q none {s with heap:=h'}):wpAny (model prog w) A (pyNext (.ref z)) Q E s:=by
 have ty:s.TypeIs (.ref z) "zip":=⟨_,S.z,rfl⟩
 unfold pyNext
 refine f9 (dA (bI (name:=Str.ofString "__next__") ty bV (ck bV ty da (Jg hh D S hx λh' e hk he=>?_) (c4 _))))
 obtain⟨o,ho,hc⟩:=he
 exact f9 (fB (T:= "StopIteration") (b:=true) ⟨o,ho,hc⟩ isSubtype_stop (aA (hQ _ hk)))
end
end
def yq (c:Bool)(H:Hp)(a:ao)(xs:au V):Prop:=if c=true then H a=some (.tup xs)else H a=some (.lst xs)
def yq.inj {c:Bool}{H:Hp}{a:ao}{xs ys:au V}(h:yq c H a xs)(h':yq c H a ys):xs=ys:=by
 cases c with
 |true=>have h1:H a=some (.tup xs):=h;have h2:H a=some (.tup ys):=h';rw[h1]at h2;cases h2;rfl
 |false=>have h1:H a=some (.lst xs):=h;have h2:H a=some (.lst ys):=h';rw[h1]at h2;cases h2;rfl
def yq.ex {c:Bool}{H:Hp}{a:ao}{xs:au V}(h:yq c H a xs):∃ o,H a=some o:=by
 cases c with
 |true=>exact⟨_,h⟩
 |false=>exact⟨_,h⟩
def yq.val {X:Cx}{fJ:au (ao×Obj)}{σ:St}{H:Hp}{s:ak}{c:Bool}{a:ao}{xs:au V}(I:Inv X fJ σ H s)(h:yq c H a xs):∃ gu:au ar,gD xs gu/\lA c s.heap a gu.toArray:=by
 cases c with
 | true =>
  obtain⟨_,gu,r,p⟩:=(show jx X.prog X.w H s.heap a (.tup xs)from I.iF a _ h)
  exact⟨gu,r,p⟩
 | false =>
  obtain⟨_,gu,n,r,_,e⟩:=I.lZ h
  exact⟨gu,r,⟨_,e,rfl,n,rfl⟩⟩
def XZ (c:Bool)(a1 a2:ao):It :=
 ⟨λi H=>∃ xs ys x y,yq c H a1 xs/\yq c H a2 ys/\xs[i]?=some x/\ys[i]?=some y,
  λi H v H'=>∃ T x y,v=.ref T/\H T=none/\H'=upd H T (.tup [x,y])/\(∀ xs,yq c H a1 xs->xs[i]?=some x)/\(∀ ys,yq c H a2 ys->ys[i]?=some y),
  λi H=>∃ xs ys,yq c H a1 xs/\yq c H a2 ys/\xs.length<=i⟩
section
variable {X:Cx}{fJ:au (ao×Obj)}{σ:St}{H:Hp}{s:ak}
def Inv.BG {ch:au ao}{h'':Heap}{x y:V}{u v:ar}(I:Inv X fJ σ H s)(fr:∀ b∈ch,mU X fJ H b)(Ef:∀ b o,b∉ch->s.heap.get? b=some o->h''.get? b=some o)(ZQ:IsPair h'' s.heap.objs.size u v)(ru:gH x u)(rv:gH y v):
 Inv X fJ σ (upd H s.heap.objs.size (.tup [x,y])) {s with heap:=h''}:=by
 have hn:H s.heap.objs.size=none:=I.iF.fresh (aw _)
 refine I.step (g':=s.gens) (d':=s.drawn) (t':=s.toks) (h':=h'') (ch:=ch) (λb hb=>?_) (λb o _ _ hb e _=>Ef b o hb e) (λb o _ _ hb e _=>⟨o.slots,Ef b o hb e⟩)
  (λb o hb e n=>by rw[gB (aE (jk e))];exact n) (λb o hb e=>⟨o,Ef b o hb e⟩)
  (λb zs e=>by rw[gB (gP e hn)];exact e) (λb o u e=>by rw[gB (gP e hn)];exact e) (λb ps e=>⟨#[],by rw[gB (gP e hn),e];simp⟩) (λm hm=>?_) (λb o e=>?_) I.bare
 .obtain⟨f0,f1,f2,f3,f4,f5⟩:=fr b hb
  exact⟨f3,f1,f4,f5⟩
 .obtain⟨o,es,ep,ho,rr⟩:=hm
  exact⟨o,es,ep,Ef _ o (λq=>(fr _ q).2.1 rfl) ho,rr⟩
 .by_cases hb:b=s.heap.objs.size
  .subst hb;rw[gp]at e;cases e
   exact⟨by show 2<=sizeLine;decide,[u,v],.cons ru (.cons rv .nil),⟨_,ZQ,rfl,0,rfl⟩⟩
  .rw[gB hb]at e
   refine(I.iF b o e).zL (λd v' hd q=>Ef d v' (λhm=>?_) q) (λd q=>by rw[gB (gP q hn)];exact q) λd zs q=>by rw[gB (gP q hn)];exact q
   have nn:=(fr d hm).1
   rcases hd with rfl|hd
   .rw[nn]at e;cases e
   .rw[nn]at hd;cases hd
def Inv.yB {ch:au ao}{h'':Heap}(I:Inv X fJ σ H s)(fr:∀ b∈ch,mU X fJ H b)(Ef:∀ b o,b∉ch->s.heap.get? b=some o->h''.get? b=some o):Inv X fJ σ H { s with heap:=h''}:=by
 refine I.step (g':=s.gens) (d':=s.drawn) (t':=s.toks) (h':=h'') (ch:=ch) (λb hb=>?_) (λb o _ _ hb e _=>Ef b o hb e) (λb o _ _ hb e _=>⟨o.slots,Ef b o hb e⟩)
  (λb o hb e n=>n) (λb o hb e=>⟨o,Ef b o hb e⟩) (λb zs e=>e) (λb o u e=>e) (λb ps e=>⟨#[],by rw[e];simp⟩) (λm hm=>?_) (λb o e=>?_) I.bare
 .obtain⟨f0,f1,f2,f3,f4,f5⟩:=fr b hb
  exact⟨f3,f1,f4,f5⟩
 .obtain⟨o,es,ep,ho,rr⟩:=hm
  exact⟨o,es,ep,Ef _ o (λq=>(fr _ q).2.1 rfl) ho,rr⟩
 .refine(I.iF b o e).zL (λd v' hd q=>Ef d v' (λhm=>?_) q) (λd q=>q) λd zs q=>q
  have nn:=(fr d hm).1
  rcases hd with rfl|hd
  .rw[nn]at e;cases e
  .rw[nn]at hd;cases hd
end
def oB {P:ah}{w:ai}{K:aa}{elts:au Expr}{kk:Nat}{tpos:Pos}{c:Bool}{z TI TO i1 i2 l1 l2:ao}(D:ZipApart z TI TO i1 i2 l1 l2):
 Turn P w K (.Tuple elts kk tpos) (XZ c l1 l2) [z,TI,TO,i1,i2] z (λi h=>IsZip h z TI TO .none/\IsPair h TI (.ref i1) (.ref i2)/\(∃ a b,IsPair h TO a b)/\k7 c h i1 l1 i/\k7 c h i2 l2 i) where
 mem:=by simp
 obj:=λi h st b hb=>by
  obtain⟨hz,Bt,⟨a,b',Bs⟩,h1,h2⟩:=st
  simp only[aR,aL,bQ]at hb
  rcases hb with rfl|rfl|rfl|rfl|rfl
  .exact⟨_,hz,λv q=>by cases q⟩
  .exact⟨_,Bt,λv q=>by cases q⟩
  .exact⟨_,Bs,λv q=>by cases q⟩
  .exact h1.data
  .exact h2.data
 keep:=λi h h' st k=>by
  obtain⟨hz,Bt,⟨a,b',Bs⟩,h1,h2⟩:=st
  exact⟨k z (by simp) _ hz,k TI (by simp) _ Bt,⟨a,b',k TO (by simp) _ Bs⟩,h1.at λo e=>k i1 (by simp) o e,h2.at λo e=>k i2 (by simp) o e⟩
 item:=by
  intro X hP hw hK hc i fJ s σ H E I hf st hg
  subst hP hw hK
  obtain⟨hz,Bt,⟨a,b',Bs⟩,h1,h2⟩:=st
  obtain⟨xs,ys,x,y,q1,q2,ex,ey⟩:=hg
  obtain⟨us,r1,p1⟩:=q1.val I
  obtain⟨ws,r2,p2⟩:=q2.val I
  obtain⟨u,eu,ru⟩:=r1.get ex
  obtain⟨v,ev,rv⟩:=r2.get ey
  refine By D ⟨hz,Bt,Bs,h1,h2,p1,p2⟩ (by simpa using eu) (by simpa using ev) λh' S' hT hk=>?_
  refine⟨_,rfl,wpAny_letOwnedTupleGo_zip S'.z λh'' e'' Ys=>?_⟩
  have WX:=S'.mz D (f':=.none) e'' Ys.extBut
  have Tz:s.heap.objs.size≠z:=bw (jk hz)
  have ZQ:IsPair h'' s.heap.objs.size u v:=Ys.extBut _ _ Tz hT
  have kp:ZK z TO i1 i2 s.heap h'':=hk.trans (nZ Ys.extBut)
  have hn:H s.heap.objs.size=none:=I.iF.fresh (aw _)
  have fr:∀ b∈[z,TO,i1,i2],mU X fJ H b:=λb hb=>hf b (by
   simp only[aR,aL,bQ]at hb ⊢
   rcases hb with q|q|q|q<;>simp[q])
  have Ef:∀ b o,b∉[z,TO,i1,i2]->s.heap.get? b=some o->h''.get? b=some o:=λb o hb e=>kp b o (λq=>hb (by simp[q])) (λq=>hb (by simp[q])) (λq=>hb (by simp[q])) (λq=>hb (by simp[q])) e
  have I1:Inv X fJ σ (upd H s.heap.objs.size (.tup [x,y])) {s with heap:=h''}:=I.BG fr Ef ZQ ru rv
  refine⟨.ref s.heap.objs.size,_,I1,rfl,⟨_,x,y,rfl,hn,rfl,λzs q=>by rw[q.inj q1];exact ex,λzs q=>by rw[q.inj q2];exact ey⟩,⟨WX.z,WX.ti,⟨_,_,WX.to⟩,WX.n1,WX.n2⟩,λb hb=>?_⟩
  obtain⟨o,e,_⟩:∃ o,s.heap.get? b=some o/\True:=by
   simp only[aR,aL,bQ]at hb
   rcases hb with rfl|rfl|rfl|rfl|rfl
   .exact⟨_,hz,trivial⟩
   .exact⟨_,Bt,trivial⟩
   .exact⟨_,Bs,trivial⟩
   .obtain⟨o,e⟩:=h1.ex;exact⟨o,e,trivial⟩
   .obtain⟨o,e⟩:=h2.ex;exact⟨o,e,trivial⟩
  rw[gB (aE (jk e))]
  exact(hf b hb).1
 done:=by
  intro X hP hw hK hc i fJ s σ H E I hf st hg
  subst hP hw hK
  obtain⟨hz,Bt,⟨a,b',Bs⟩,h1,h2⟩:=st
  obtain⟨xs,ys,q1,q2,hx⟩:=hg
  obtain⟨us,r1,p1⟩:=q1.val I
  obtain⟨ws,r2,p2⟩:=q2.val I
  have hl:=r1.length
  refine EY (I.ok.hd hc) D ⟨hz,Bt,Bs,h1,h2,p1,p2⟩ (by simp;lia) λh' hk=>⟨rfl,?_⟩
  have fr:∀ b∈[z,TO,i1,i2],mU X fJ H b:=λb hb=>hf b (by
   simp only[aR,aL,bQ]at hb ⊢
   rcases hb with q|q|q|q<;>simp[q])
  have Ef:∀ b o,b∉[z,TO,i1,i2]->s.heap.get? b=some o->h'.get? b=some o:=λb o hb e=>hk b o (λq=>hb (by simp[q])) (λq=>hb (by simp[q])) (λq=>hb (by simp[q])) (λq=>hb (by simp[q])) e
  exact I.yB fr Ef
 self:=λ_ _ _ _ _ st h=>cO st.1 h
def rK (a:ao):Obj:={ cls:=.type "tuple_iterator",data:=.fields #[.ref a,.int 0 0]}
def zH (l1 l2:ao)(h:Heap):Heap :=
 ((((h.push (rK l1)).push (rK l2)).push { cls:=.type "tuple",data:=.seq #[.ref h.objs.size,.ref (h.push (rK l1)).objs.size]}).push { cls:=.type "tuple",data:=.seq #[.none,.none]}).push
  { cls:=.type "zip",data:=.fields #[.none,.bool false,.bool false,.ref ((h.push (rK l1)).push (rK l2)).objs.size,.ref (((h.push (rK l1)).push (rK l2)).push { cls:=.type "tuple",data:=.seq #[.ref h.objs.size,.ref (h.push (rK l1)).objs.size]}).objs.size]}
def Jh (l1 l2:ao)(xs ys:Array ar):Meets (Builtin.«zip.__new__» ⟨[.type "zip",.ref l1,.ref l2],[]⟩) (λ_ R s=>s.heap.IsTuple l1 xs/\s.heap.IsTuple l2 ys /\
 R (.ok (.ret (.ref (s.heap.objs.size+4)))) {s with heap:=zH l1 l2 s.heap}):=
 .of_wp λprog w A R s h=>by
  obtain⟨hp,g,d,tk,os⟩:=s;obtain⟨hl1,tZ,h⟩:=h
  have Zc:=sub_zip
  have t1:Heap.IsTuple (Shared.heap ⟨hp,g,d,tk,os⟩) l1 xs:=hl1
  have t2:Heap.IsTuple (Shared.heap ⟨hp.push { cls:=.type "tuple_iterator",data:=.fields #[.ref l1,.int 0 0]},g,d,tk,os⟩) l2 ys:=Heap.IsTuple.push tZ _
  wp_walk using wpAny_pyIter_tuple t1,wpAny_pyIter_tuple t2
  refine⟨_,rfl,?_⟩
  have e:hp.objs.size+4=((((hp.push (rK l1)).push (rK l2)).push { cls:=.type "tuple",data:=.seq #[.ref hp.objs.size,.ref (hp.push (rK l1)).objs.size]}).push { cls:=.type "tuple",data:=.seq #[.none,.none]}).objs.size:=by
   simp only[bu]
  have h':R (.ok (.ret (.ref (hp.objs.size+4)))) _:=h
  rw[e]at h'
  exact h'
def sy {prog:ah}{w:ai}{A:Around}{E:ar->ak->Prop}{s:ak}{c:Bool}{l1 l2:ao}{xs ys:Array ar}{Q:ar->ak->Prop}(p1:lA c s.heap l1 xs)(p2:lA c s.heap l2 ys)
 (h:∀ h',IsZip h' (s.heap.objs.size+4) (s.heap.objs.size+2) (s.heap.objs.size+3) .none->IsPair h' (s.heap.objs.size+2) (.ref s.heap.objs.size) (.ref (s.heap.objs.size+1))->IsPair h' (s.heap.objs.size+3) .none .none ->
   k7 c h' s.heap.objs.size l1 0->k7 c h' (s.heap.objs.size+1) l2 0->(∀ b o,s.heap.get? b=some o->h'.get? b=some o)->Q (.ref (s.heap.objs.size+4)) {s with heap:=h'}):
 wpAny (model prog w) A (call (.type "zip") [.ref l1,.ref l2]) Q E s:=by
 cases c with
 |false=>exact call_zip_2 p1 p2 λh' a1 a2 a3 a4 a5 _ a7=>h h' a1 a2 a3 a4 a5 a7
 | true =>
  refine callType_new F.called_zip (by decide) (F.typeCall_zip_2 _ _) (F.newCall_zip_2 _ _) (λobj=>F.args_object_init_3 obj _ _) F.entry_zip_new (Jh l1 l2 xs ys) ⟨p1,p2,?_⟩
  have z1:(s.heap.push (rK l1)).objs.size=s.heap.objs.size+1:=bu ..
  have z2:((s.heap.push (rK l1)).push (rK l2)).objs.size=s.heap.objs.size+2:=by rw[bu,z1]
  have z3:(((s.heap.push (rK l1)).push (rK l2)).push { cls:=.type "tuple",data:=.seq #[.ref s.heap.objs.size,.ref (s.heap.push (rK l1)).objs.size]}).objs.size=s.heap.objs.size+3:=by rw[bu,z2]
  have z4:((((s.heap.push (rK l1)).push (rK l2)).push { cls:=.type "tuple",data:=.seq #[.ref s.heap.objs.size,.ref (s.heap.push (rK l1)).objs.size]}).push { cls:=.type "tuple",data:=.seq #[.none,.none]}).objs.size=s.heap.objs.size+4:=by rw[bu,z3]
  have g0:(zH l1 l2 s.heap).get? s.heap.objs.size=some (rK l1):=j6 _ (j6 _ (j6 _ (j6 _ (aI _ rfl))))
  have g1:(zH l1 l2 s.heap).get? (s.heap.push (rK l1)).objs.size=some (rK l2):=j6 _ (j6 _ (j6 _ (aI _ rfl)))
  have g2:(zH l1 l2 s.heap).get? ((s.heap.push (rK l1)).push (rK l2)).objs.size=some _:=j6 _ (j6 _ (aI _ rfl))
  have g3:(zH l1 l2 s.heap).get? (((s.heap.push (rK l1)).push (rK l2)).push { cls:=.type "tuple",data:=.seq #[.ref s.heap.objs.size,.ref (s.heap.push (rK l1)).objs.size]}).objs.size=some _:=j6 _ (aI _ rfl)
  have g4:(zH l1 l2 s.heap).get? ((((s.heap.push (rK l1)).push (rK l2)).push { cls:=.type "tuple",data:=.seq #[.ref s.heap.objs.size,.ref (s.heap.push (rK l1)).objs.size]}).push { cls:=.type "tuple",data:=.seq #[.none,.none]}).objs.size=some _:=aI _ rfl
  rw[z1]at g1
  rw[z2,z1]at g2
  rw[z3]at g3
  rw[z4,z2,z3]at g4
  exact⟨⟨_,g4,rfl⟩,h _ g4 g2 g3 ⟨_,g0,rfl,rfl⟩ ⟨_,g1,rfl,rfl⟩ λb o e=>j6 _ (j6 _ (j6 _ (j6 _ (j6 _ e))))⟩
section
variable {X:Cx}
def Y3 (ta:TA):TI:=λσ H R=>ta σ H λvs H1=>match vs with
 |[.ref a,.ref b]=>∃(c:Bool) (xs ys:au V),yq c H1 a xs/\yq c H1 b ys/\R (XZ c a b) H1
 |_=>False
def RK {elts:au Expr}{kk:Nat}{tpos:Pos}{a b:Expr}{ta:TA}{p pos:Pos}(hg:Gl X "zip")(hm:X.mg "zip"=none)(ha:PA X [a,b] ta)(hs:starEach [a,b] X.env=[(false,eval a X.env),(false,eval b X.env)]:=by rfl)(sY:starEach [b] X.env=[(false,eval b X.env)]:=by rfl):
 PI X (.Tuple elts kk tpos) (.Call (.Name "zip" p) [a,b] [] pos) (Y3 ta):=by
 intro fJ s σ H R I h
 refine Call_ (kW I hg hm boot_zip (a6 (iN (ha pos fJ s σ H _ I h) λus s1 r6=>?_) (by rw[hs,sY]) (by rw[sY];rfl)))
 obtain⟨vs,H1,I1,r1,q1⟩:=r6
 try dsimp only at q1
 split at q1
 .rename_i l1 l2
  obtain⟨c,xs,ys,q1,q2,q⟩:=q1
  obtain⟨u1,u2,rfl,e1,e2⟩:=r1.two
  cases e1;cases e2
  obtain⟨us,r1,p1⟩:=q1.val I1
  obtain⟨ws,r2,p2⟩:=q2.val I1
  have lt:∀ {l:ao} {o:HO},H1 l=some o->l<s1.heap.objs.size:=λe=>I1.iF.lt e
  obtain⟨o1,w1⟩:=q1.ex
  obtain⟨o2,w2⟩:=q2.ex
  refine sy p1 p2 λh' hz Bt Bs n1 n2 kp=>cO hz ?_
  have I2:Inv X fJ σ H1 { s1 with heap:=h'}:=I1.iW (t':=s1.toks) kp
  refine⟨s1.heap.objs.size+4,_,_,_,H1,rfl,I2,oB (c:=c) (zipApart_new (lt w1) (lt w2)),⟨hz,Bt,⟨_,_,Bs⟩,n1,n2⟩,λb hb=>?_,q⟩
  have Bq:s1.heap.objs.size<=b:=by
   simp only[aR,aL,bQ]at hb
   rcases hb with e|e|e|e|e<;>subst e
   .exact aT ..
   .exact aT ..
   .exact aT ..
   .exact aw _
   .exact aT ..
  exact I1.Er Bq (I1.iF.fresh Bq)
 .exact q1.elim
def BW (g:au Bool->Bool):au V->Hp->VK->Prop:=λvs H Q=>match vs with
 |[.ref p]=>∃ bs:au Bool,H p=some (.lst (bs.map V.bl))/\Q (.bl (g bs)) H
 |_=>False
def range_all (bs:au Bool):(List.range bs.length).all (λi=>bs.getD i true)=bs.all id:=by
 rw[dz,c9,c9]
 constructor
 .intro h b hb
  obtain⟨i,hi,e⟩:=aM hb
  have:=h i (by simpa using hi)
  rw[aC,iM hi,e]at this
  exact this
 .intro h i hi
  have FT:i<bs.length:=by simpa using hi
  rw[aC,iM FT]
  exact h _ (bR _)
def WR (hc:X.gY=true):jm X (.builtin "all") (BW λbs=>bs.all id):=by
 intro fJ s σ H vs us Q I rv h
 unfold BW at h
 split at h
 .rename_i p
  obtain⟨bs,hp,q⟩:=h
  obtain⟨u,rfl,ru⟩:=rv.one
  cases ru
  obtain⟨z,gu,n,r,hl,e⟩:=I.lZ hp
  have Bk:s.heap.IsList p gu.toArray:=⟨_,e,rfl,n,rfl⟩
  have lt:p≠s.heap.objs.size:=aE (jk e)
  refine call_all_walk (dj Bk ⟨_,_,_,_,_,_,λi=>bs.getD i true,rfl,Walks.list (A:=X.A.in1) (I.ok.hd hc) s.heap.objs.size p lt gu.toArray,⟨⟨_,aI _ rfl,rfl,rfl⟩,Bk.push _⟩,?_,λh' tk kp=>?_⟩)
  .intro i v s' Q' E' hv hq
   have Dl:gu[i]?=some v:=by simpa using hv
   have hb:∃ b,bs[i]?=some b/\v=.bool b:=by
    cases eb:(bs.map V.bl)[i]? with
    |none=>have:=r.none_of eb;rw[Dl]at this;cases this
    | some y =>
     obtain⟨u,hu,ry⟩:=r.get eb
     rw[Dl]at hu;cases hu
     rw[nF]at eb
     cases e2:bs[i]? with
     |none=>rw[e2]at eb;cases eb
     |some b=>rw[e2]at eb;cases eb;exact⟨b,rfl,ry⟩
   obtain⟨b,eb,rfl⟩:=hb
   have e3:bs.getD i true=b:=by rw[aC,eb];rfl
   have Lj:Q' (bs.getD i true) s':=hq
   rw[e3]at Lj
   exact cC Lj
  .have I2:Inv X fJ σ H { s with heap:=h',toks:=tk}:=I.iW λb o e'=>kp b o (by simpa using aE (jk e')) (j6 _ e')
   have len:gu.toArray.size=bs.length:=by rw[aD,<- hl,ia]
   rw[len,range_all]
   exact⟨.bl _,H,I2,rfl,q⟩
 .cases h
def Va:R2:=λx y H Q=>match x,y with
 |.ic,.ic=>Q (.bl true) H
 |.int i,.int j=>Q (.bl (decide (i=j))) H
 |.str i,.str j=>Q (.bl (decide (i=j))) H
 |.bl i,.bl j=>Q (.bl (decide (i=j))) H
 |_,_=>False
def eqN:lC X (compareOp .Eq) Va:=Qm.imp λx y H Q q=>by
 unfold Va at q
 split at q
 .exact⟨rfl,by simpa using q⟩
 .exact⟨rfl,by rw[dI];exact q⟩
 .exact⟨rfl,by rw[dS];exact q⟩
 .exact⟨rfl,by rw[dB];exact q⟩
 .exact q.elim
end
section
variable {js:au (av Nat)}{g:TG}{tt:TT}{te:TE}{σ:St}{H:Hp}{fin:au V->Hp->Prop}
def GK {c:Bool}{a1 a2:ao}{xs zs:au V}(hn:xs.length=zs.length)(Pv:Nat->au V->Hp->Prop)(h0:Pv 0 [] H)(hl:∀ i ys H,Pv i ys H->yq c H a1 xs/\yq c H a2 zs)
 (hs:∀ i x y ys H T,i<xs.length->xs[i]?=some x->zs[i]?=some y->Pv i ys H->H T=none->g (.ref T) (ip js σ) (upd H T (.tup [x,y])) λoz H2=>Ext (ip js σ) oz/\tt oz H2 λb H3=>if b=true then te oz H3 (CNx xs.length i Pv ys)else CSk xs.length i Pv ys H3)
 (hd:∀ ys H,Pv xs.length ys H->fin ys H):Jo js g tt te (XZ c a1 a2) σ H fin:=by
 refine⟨λi m ys H=>m=xs.length - i/\i<=xs.length/\Pv i ys H,⟨xs.length,by simp,bh _,h0⟩,?_⟩
 rintro i m ys H ⟨rfl,hi,p⟩
 obtain⟨q1,q2⟩:=hl i ys H p
 by_cases mK:i<xs.length
 .refine .inr ⟨⟨xs,zs,xs[i],zs[i]'(by lia),q1,q2,by simp[mK],by simp[show i<zs.length by lia]⟩,λv H' yl=>?_⟩
  obtain⟨T,x,y,rfl,hT,rfl,h1,h2⟩:=yl
  exact hs i x y ys H T mK (h1 xs q1) (h2 zs q2) p hT
 .have e:i=xs.length:=by lia
  subst e
  exact .inl ⟨⟨xs,zs,q1,q2,aw _⟩,hd ys H p⟩
end
inductive DV where
 |ic|bl (b:Bool)|int (i:Int)|str (z:Str)|lst (ds:List DV)|tup (ds:List DV)
mutual
def dep:DV->Nat
 |.lst ds=>yi ds+1
 |.tup ds=>yi ds+1
 |_=>0
def yi:List DV->Nat
 |[]=>0
 |d::ds=>max (dep d) (yi ds)
end
mutual
def MG:DV->Nat
 |.lst ds=>max ds.length (xW ds)
 |.tup ds=>max ds.length (xW ds)
 |_=>0
def xW:List DV->Nat
 |[]=>0
 |d::ds=>max (MG d) (xW ds)
end
mutual
def Is (H:Hp):DV->V->Prop
 |.ic,v=>v=.ic
 |.bl b,v=>v=.bl b
 |.int i,v=>v=.int i
 |.str z,v=>v=.str z
 |.lst ds,v=>∃ p vs,v=.ref p/\H p=some (.lst vs)/\mL H ds vs
 |.tup ds,v=>∃ p vs,v=.ref p/\H p=some (.tup vs)/\mL H ds vs
def mL (H:Hp):List DV->List V->Prop
 |[],vs=>vs=[]
 |d::ds,vs=>∃ v r,vs=v::r/\Is H d v/\mL H ds r
end
mutual
def Is.mono {H H':Hp}(s:iL H H'):∀(d:DV) (v:V),Is H d v->Is H' d v
 |.ic,_,h=>h
 |.bl _,_,h=>h
 |.int _,_,h=>h
 |.str _,_,h=>h
 | .lst ds,_,h=>by
  obtain⟨p,vs,e,hp,q⟩:=h
  exact⟨p,vs,e,s _ _ hp,mL.mono s ds vs q⟩
 | .tup ds,_,h=>by
  obtain⟨p,vs,e,hp,q⟩:=h
  exact⟨p,vs,e,s _ _ hp,mL.mono s ds vs q⟩
def mL.mono {H H':Hp}(s:iL H H'):∀(ds:List DV) (vs:List V),mL H ds vs->mL H' ds vs
 |[],_,h=>h
 | d::ds,_,h=>by
  obtain⟨v,r,e,h1,h2⟩:=h
  exact⟨v,r,e,Is.mono s d v h1,mL.mono s ds r h2⟩
end
def mL.len {H:Hp}:∀ {ds:au DV} {vs:au V},mL H ds vs->vs.length=ds.length
 |[],_,h=>by rw[show _=[]from h];rfl
 |d::ds,_,h=>by obtain⟨v,r,rfl,_,h2⟩:=h;rw[a9,a9,mL.len h2]
def mL.get {H:Hp}:∀ {ds:au DV} {vs:au V} {i:Nat} {v:V},mL H ds vs->vs[i]?=some v->∃ d,ds[i]?=some d/\Is H d v
 |[],_,i,v,h,e=>by rw[show _=[]from h]at e;simp at e
 | d::ds,_,0,v,h,e=>by
  obtain⟨v',r,rfl,h1,h2⟩:=h
  simp at e;subst e;exact⟨d,rfl,h1⟩
 | d::ds,_,i+1,v,h,e=>by
  obtain⟨v',r,rfl,h1,h2⟩:=h
  obtain⟨d',e1,e2⟩:=mL.get (i:=i) h2 (by simpa using e)
  exact⟨d',by simpa using e1,e2⟩
def xA:∀ {ds:au DV} {i:Nat} {d:DV},ds[i]?=some d->dep d<=yi ds
 |d::ds,0,d',h=>by simp at h;subst h;unfold yi;lia
 |d::ds,i+1,d',h=>by have:=xA (ds:=ds) (i:=i) (by simpa using h);unfold yi;lia
def wB:∀ {ds:au DV} {i:Nat} {d:DV},ds[i]?=some d->MG d<=xW ds
 |d::ds,0,d',h=>by simp at h;subst h;unfold xW;lia
 |d::ds,i+1,d',h=>by have:=wB (ds:=ds) (i:=i) (by simpa using h);unfold xW;lia
def um (n:Nat):Sp:=λvs H Q _=>match vs with
 |[x,y]=>∃ d,dep d<=n/\MG d<sizeLine/\Is H d x/\Is H d y/\∀ H',iL H H'->Q (.bl true) H'
 |_=>False
def Yv:Sp:=λ_ _ _ _=>False
def spS:Nat->Sp
 |0=>Yv
 |n+1=>um n
def iL.upd {H:Hp}{p:ao}{o:HO}(h:H p=none):iL H (L2.upd H p o):=λb u e=>by rw[gB (gP e h)];exact e
def GI {α:Type}{l:au α}{n:Int}(h:0<=n):kX l none (some n)=l.take n.toNat:=by
 obtain⟨m,rfl⟩:∃ m:Nat,n=(m:Int):=⟨n.toNat,by lia⟩
 unfold kX
 rw[HT.lF,HT.wQ,List.drop_zero,Nat.sub_zero,yh]
 by_cases hm:m<=l.length
 .rw[cb hm]
 .rw[fC (by lia),List.take_length,b9 (by lia)]
def zc {α:Type}{l:au α}{n:Int}(h:0<=n):kX l (some n) none=l.drop n.toNat:=by
 obtain⟨m,rfl⟩:∃ m:Nat,n=(m:Int):=⟨n.toNat,by lia⟩
 unfold kX
 rw[HT.lF,HT.wQ,yh]
 by_cases hm:m<=l.length
 .rw[cb hm,b9 (by rw[bO];lia)]
 .rw[fC (by lia),bX (aw _),bX (by lia),List.take_nil]
section
variable {X:Cx}
def BV:V->au V->Hp->VK->Prop:=λx vs H Q=>∃ l y xs,x=.ref l/\vs=[y]/\H l=some (.lst xs)/\xs.length<sizeLine/\Q .ic (upd H l (.lst (xs++[y])))
def A1:EM X "list.append" BV:=EM.imp HK λx vs H Q q=>by
 obtain⟨l,y,xs,rfl,rfl,a,b,c⟩:=q
 exact⟨_,xs,_,rfl,rfl,a,b,c⟩
end
def G3 (H:Hp):au V->au (Nat×Nat)->Prop:=Paired λv r=>∃ p,v=.ref p/\H p=some (.tup [.int r.1,.int r.2])
def Pj (H H':Hp):Prop:=∀ p xs,H p=some (.tup xs)->H' p=some (.tup xs)
def Pj.trans {H H1 H2:Hp}(a:Pj H H1)(b:Pj H1 H2):Pj H H2:=λp xs h=>b p xs (a p xs h)
def G3.len {H:Hp}{vs:au V}{rs:au (Nat×Nat)}(h:G3 H vs rs):vs.length=rs.length:=Paired.length h
def rr (l:au Nat):Nat->Nat×au (Nat×Nat)
 |0=>(0,[])
 |i+1=>if l[i]?=some 120 then(i+1,if(rr l i).1<i then(rr l i).2++[((rr l i).1,i)]else(rr l i).2)else rr l i
def GV (ns:au Int):∀ k,k<ns.length->argBest (λi j=>decide (ns.getD j 0<ns.getD i 0)) k<=k/\∀ j,j<=k->ns.getD j 0<=ns.getD (argBest (λi j=>decide (ns.getD j 0<ns.getD i 0)) k) 0
 |0,_=>⟨aw _,λj hj=>by rw[show j=0 by lia];exact bq _⟩
 | k+1,h=>by
  obtain⟨h1,h2⟩:=GV ns k (by lia)
  unfold argBest
  by_cases hb:ns.getD (argBest (λi j=>decide (ns.getD j 0<ns.getD i 0)) k) 0<ns.getD (k+1) 0
  .rw[aF (aJ hb)]
   refine⟨aw _,λj hj=>?_⟩
   by_cases e:j=k+1
   .rw[e];exact bq _
   .exact bB (h2 j (by lia)) (dw hb)
  .rw[aG (by simp only[bN];exact hb)]
   refine⟨by lia,λj hj=>?_⟩
   by_cases e:j=k+1
   .rw[e];lia
   .exact h2 j (by lia)
section
variable {X:Cx}
def J0:au V->Hp->VK->Prop:=λvs H Q=>match vs with
 |[.ref p]=>∃ ns:au Int,H p=some (.lst (ns.map V.int))/\ns≠[]/\∀ m,m∈ns->(∀ x∈ns,x<=m)->Q (.int m) H
 |_=>False
def Vw (hc:X.gY=true):jm X (.builtin "max") J0:=by
 intro fJ s σ H vs us Q I rv h
 unfold J0 at h
 split at h
 .rename_i p
  obtain⟨ns,hp,Ll,q⟩:=h
  obtain⟨u,rfl,ru⟩:=rv.one
  cases ru
  obtain⟨z,gu,n,r,hl,e⟩:=I.lZ hp
  have Bk:s.heap.IsList p gu.toArray:=⟨_,e,rfl,n,rfl⟩
  have lt:p≠s.heap.objs.size:=aE (jk e)
  have len:gu.toArray.size=ns.length:=by rw[aD,<- hl,ia]
  have pos:0<ns.length:=List.length_pos_iff.mpr Ll
  have val:∀ i v,gu.toArray[i]?=some v->∃ t,i<ns.length/\v=.int (ns.getD i 0) t:=λi v hv=>by
   have Dl:gu[i]?=some v:=by simpa using hv
   cases eb:(ns.map V.int)[i]? with
   |none=>have:=r.none_of eb;rw[Dl]at this;cases this
   | some y =>
    obtain⟨u,hu,ry⟩:=r.get eb
    rw[Dl]at hu;cases hu
    rw[nF]at eb
    cases e2:ns[i]? with
    |none=>rw[e2]at eb;cases eb
    | some b =>
     rw[e2]at eb;cases eb
     obtain⟨t,rfl⟩:=ry
     exact⟨t,(ka e2).1,by rw[aC,e2];rfl⟩
  refine call_max_walk (dj Bk ⟨_,_,_,_,_,_,λi j=>decide (ns.getD j 0<ns.getD i 0),rfl,Walks.list (A:=X.A.in1) (I.ok.hd hc) s.heap.objs.size p lt gu.toArray,⟨⟨_,aI _ rfl,rfl,rfl⟩,Bk.push _⟩,?_,by rw[len];exact pos,?_,λv h' tk hv kp=>?_⟩)
  .intro b hb
   simp only[aR,aL,bQ]at hb
   show b<(s.heap.push _).objs.size
   rw[bu]
   rcases hb with rfl|rfl
   .exact bF _
   .exact bx (jk e)
  .intro i j vi vj s' Q' E' hi hj hq
   obtain⟨t,_,rfl⟩:=val i vi hi
   obtain⟨t',_,rfl⟩:=val j vj hj
   exact gt_int hq
  .have I2:Inv X fJ σ H { s with heap:=h',toks:=tk}:=I.iW λb o e'=>kp b o (by simpa using aE (jk e')) (j6 _ e')
   rw[len]at hv
   obtain⟨t,mK,rfl⟩:=val _ v hv
   obtain⟨b1,b2⟩:=GV ns (ns.length - 1) (by lia)
   refine⟨.int _,H,I2,⟨t,rfl⟩,q _ ?_ λx hx=>?_⟩
   .rw[aC,iM mK];exact bR _
   .obtain⟨j,hj,ej⟩:=aM hx
    have:=b2 j (by lia)
    rw[aC,iM hj,ej]at this
    exact this
 .cases h
def Gg (l:au Nat)(c i:Nat):Int->Prop:=λr=>(r = -1/\∀ v,i<=v->l[v]?≠some c)\/∃ k:Nat,r=(k:Int)/\i<=k/\l[k]?=some c/\∀ v,i<=v->v<k->l[v]?≠some c
def J3:V->au V->Hp->VK->Prop:=λx vs H Q=>∃(z:Str) (c:Nat) (i:Int),x=.str z/\vs=[.str ⟨#[c]⟩,.int i]/\0<=i/\i<=z.length/\∀ r,Gg z.cps.toList c i.toNat r->Q (.int r) H
def V7:EM X "str.find" J3:=by
 intro fJ s σ H x vs v us Q I rx rv h
 .obtain⟨z,c,i,rfl,rfl,h0,h1,q⟩:=h
  obtain⟨t,rfl⟩:=rx
  obtain⟨u1,u2,rfl,r1,r2⟩:=rv.two
  obtain⟨t1,rfl⟩:=r1
  obtain⟨t2,rfl⟩:=r2
  refine SC.find3 ⟨.int _,H,I.tok _,⟨_,rfl⟩,q _ ?_⟩
  have fi:fromIndex z.length i=i.toNat:=by unfold fromIndex;lia
  have gd:∀ v,z.cps.getD v 0≠c\/¬ v<z.length->z.cps.toList[v]?≠some c:=λv hv e=>by
   have mK:v<z.cps.toList.length:=(ka e).1
   have Zm:v<z.length:=by rw[Vz];exact mK
   rcases hv with hv|hv
   .exact hv (by rw[iM mK]at e;injection e with e;rw[<- e];simp[Array.getD,show v<z.cps.size by simpa using mK])
   .exact hv Zm
  rcases StrLaws.find3_spec z c i with⟨e,hn⟩|⟨k,e,k1,k2,k3,k4⟩
  .refine .inl ⟨e,λv hv=>gd v ?_⟩
   by_cases hl:v<z.length
   .exact .inl (hn v (by lia) hl)
   .exact .inr hl
  .refine .inr ⟨k,e,by lia,?_,λv h1 h2=>gd v (.inl (k4 v (by lia) h2))⟩
   have mK:k<z.cps.toList.length:=by rw[<- Vz];exact k2
   rw[iM mK,<- k3]
   simp[Array.getD,show k<z.cps.size by simpa using mK]
end
def T3 (l:au Nat)(e t:Nat):Prop:=e<=t/\t<=l.length/\(∀ v,e<=v->v<t->l[v]?=some 111)/\(t=l.length\/l[t]?=some 120)
def T3.uniq {l:au Nat}{e t u:Nat}(a:T3 l e t)(b:T3 l e u):t=u:=by
 obtain⟨a1,a2,a3,a4⟩:=a
 obtain⟨b1,b2,b3,b4⟩:=b
 rcases eY t u with h|h|h
 .rcases a4 with q | q
  .lia
  .have:=b3 t a1 h;rw[q]at this;cases this
 .exact h
 .rcases b4 with q | q
  .lia
  .have:=a3 u b1 h;rw[q]at this;cases this
def Qk {l:au Nat}(ho:OX l){v:Nat}(h:v<l.length)(n:l[v]?≠some 120):l[v]?=some 111:=by
 have e:l[v]?=some l[v]:=iM h
 rcases ho _ (bR h)with q|q
 .rw[e,q]
 .exact absurd (by rw[e,q]) n
def Gg.cl {l:au Nat}{e:Nat}{r:Int}(ho:OX l)(he:e<=l.length)(h:Gg l 120 e r):(r<0->T3 l e l.length)/\(¬ r<0->T3 l e r.toNat/\r=(r.toNat:Int)):=by
 rcases h with⟨rfl,hn⟩|⟨k,rfl,h1,h2,h3⟩
 .exact⟨λ_=>⟨he,aw _,λv a b=>Qk ho b (hn v a),.inl rfl⟩,λq=>absurd (by decide) q⟩
 .have hk:k<l.length:=(ka h2).1
  exact⟨λq=>absurd q (by lia),λ_=>⟨⟨by lia,by lia,λv a b=>Qk ho (by lia) (h3 v a (by lia)),.inr (by rw[yh];exact h2)⟩,by rw[yh]⟩⟩
def W8 (es:au Int)(l:au Nat)(e:Int)(m:Int):Prop:=∃ t,T3 l e.toNat t/\m∈es/\m<=(t:Int)/\∀ x∈es,x<=(t:Int)->x<=m
def W8.uniq {es:au Int}{l:au Nat}{e m k:Int}(a:W8 es l e m)(b:W8 es l e k):m=k:=by
 obtain⟨t,a1,a2,a3,a4⟩:=a
 obtain⟨u,b1,b2,b3,b4⟩:=b
 cases a1.uniq b1
 exact Int.le_antisymm (b4 m a2 a3) (a4 k b2 b3)
def fI (n:Int)(cs:au Int):au Int:=0::cs++[n]
inductive D where
 |ic|bl (b:Bool)|int (i:Int)|str (z:Str)|lst (ds:List D)|tup (ds:List D)|jX (ks:List Key) (ds:List D)|mr (k:Nat)|obj (C:ao) (ns:List Str) (ds:List D)|t9 (ks:List Key) (ds:List D)|fn (a:ao)
inductive MO where
 |box|lst (ds:List D)|jX (ks:List Key) (ds:List D)|xq (o:Obj) (fX:List (Key×V)) (ds:List D)|ins (C:ao) (ns:List Str) (ds:List D)|nB (ks:List (List Key)) (ds:List D)|gx (φ:List ao) (H:Hp)|exc (c:ar)
abbrev MS:=au MO
def mH (μ:MS)(k:Nat):av (au D):=match μ[k]? with|some (.lst ds)=>some ds|_=>none
def jA {μ:MS}{k:Nat}{ds:au D}(h:mH μ k=some ds):μ[k]?=some (.lst ds):=by
 unfold mH at h
 split at h
 .cases h;assumption
 .cases h
def xc {μ:MS}{k:Nat}{ds:au D}(h:μ[k]?=some (.lst ds)):mH μ k=some ds:=by unfold mH;rw[h]
def o7 {μ:MS}{k:Nat}{ds:au D}(h:k<μ.length):mH (μ.set k (.lst ds)) k=some ds:=xc (aW h)
def rW {μ:MS}{j k:Nat}{m:MO}(h:k≠j):mH (μ.set k m) j=mH μ j:=by unfold mH;rw[bo h]
def kN {μ:MS}{ds:au D}:mH (μ++[.lst ds]) μ.length=some ds:=xc (by rw[rF (aw _),a8];rfl)
def Oo {μ:MS}{m:MO}{k:Nat}{ds:au D}(h:mH μ k=some ds):mH (μ++[m]) k=some ds:=xc (by rw[t6 (ka (jA h)).1];exact jA h)
abbrev DE:=au (av D)
mutual
def jE (φ:List ao)(H:Hp):D->V->Prop
 |.ic,v=>v=.ic
 |.bl b,v=>v=.bl b
 |.int i,v=>v=.int i
 |.str z,v=>v=.str z
 |.lst ds,v=>∃ p vs,v=.ref p/\p∉φ/\H p=some (.lst vs)/\gh φ H ds vs
 |.tup ds,v=>∃ p vs,v=.ref p/\p∉φ/\H p=some (.tup vs)/\gh φ H ds vs
 |.jX ks ds,v=>∃ p fX vs,v=.ref p/\p∉φ/\H p=some (.dK fX)/\fX.map (·.1)=ks/\vs=fX.map (·.2)/\gh φ H ds vs
 |.mr k,v=>∃ p,φ[k]?=some p/\v=.ref p
 |.obj C ns ds,v=>∃ p dx fs vs,v=.ref p/\p∉φ/\H p=some (.ins C dx fs)/\fs.map (·.1)=ns/\vs=fs.map (·.2)/\gh φ H ds vs
 |.t9 ks ds,v=>∃ p o fX vs,v=.ref p/\p∉φ/\H p=some (.Cv o (.dK fX))/\fX.map (·.1)=ks/\vs=fX.map (·.2)/\gh φ H ds vs
 |.fn a,v=>v=.ref a
def gh (φ:List ao)(H:Hp):List D->List V->Prop
 |[],vs=>vs=[]
 |d::ds,vs=>∃ v r,vs=v::r/\jE φ H d v/\gh φ H ds r
end
structure Fr (φ:List ao)(H:Hp)(gN:List ao)(H':Hp):Prop where
 ext:∃ ψ,gN=φ++ψ/\∀ c∈ψ,H c=none
 keep:∀ c o,c∉φ->H c=some o->H' c=some o
 XS:∀ c,H' c=none->H c=none
def Fr.refl (φ:au ao)(H:Hp):Fr φ H φ H:=⟨⟨[],by simp,λ_ h=>nomatch h⟩,λ_ _ _ h=>h,λ_ h=>h⟩
def Fr.trans {φ gT l8:au ao}{H H1 H2:Hp}(a:Fr φ H gT H1)(b:Fr gT H1 l8 H2):Fr φ H l8 H2:=by
 obtain⟨⟨ψ,rfl,HY⟩,k1,d1⟩:=a
 obtain⟨⟨χ,rfl,hχ⟩,k2,d2⟩:=b
 refine⟨⟨ψ++χ,by simp,λc hc=>?_⟩,λc o hc e=>k2 c o (λh=>?_) (k1 c o hc e),λc h=>d1 c (d2 c h)⟩
 .rcases List.mem_append.mp hc with h | h
  .exact HY c h
  .exact d1 c (hχ c h)
 .rcases List.mem_append.mp h with h | h
  .exact hc h
  .rw[HY c h]at e;cases e
def Fr.same {φ:au ao}{H H':Hp}(h:iL H H'):Fr φ H φ H':=⟨⟨[],by simp,λ_ h=>nomatch h⟩,λc o _ e=>h c o e,λc e=>h.free e⟩
def Fr.new {φ:au ao}{H:Hp}{p:ao}{o:HO}(h:H p=none):Fr φ H φ (upd H p o):=.same (iL.upd h)
def Fr.put {φ:au ao}{H:Hp}{p:ao}{o:HO}(h:p∈φ):Fr φ H φ (upd H p o) :=
 ⟨⟨[],by simp,λ_ h=>nomatch h⟩,λc u hc e=>by rw[gB (show c≠p from λz=>hc (by rw[z];exact h))];exact e,λc e=>by
  unfold upd at e
  split at e
  .cases e
  .exact e⟩
def Fr.snoc {φ:au ao}{H:Hp}{p:ao}(h:H p=none):Fr φ H (φ++[p]) H:=⟨⟨[p],rfl,λc hc=>by rw[List.mem_singleton.mp hc];exact h⟩,λ_ _ _ e=>e,λ_ e=>e⟩
def Fr.yP {φ gN:au ao}{H H':Hp}(f:Fr φ H gN H'){p:ao}{o:HO}(h:p∉φ)(e:H p=some o):p∉gN:=by
 obtain⟨⟨ψ,rfl,HY⟩,_,_⟩:=f
 intro hc
 rcases List.mem_append.mp hc with q|q
 .exact h q
 .rw[HY p q]at e;cases e
def Fr.get {φ gN:au ao}{H H':Hp}(f:Fr φ H gN H'){k:Nat}{p:ao}(h:φ[k]?=some p):gN[k]?=some p:=by
 obtain⟨⟨ψ,rfl,HY⟩,_,_⟩:=f
 rw[t6 (ka h).1];exact h
mutual
def jE.mono {φ gN:List ao}{H H':Hp}(f:Fr φ H gN H'):∀ {d:D} {v:V},jE φ H d v->jE gN H' d v
 |.ic,_,h=>h
 |.bl _,_,h=>h
 |.int _,_,h=>h
 |.str _,_,h=>h
 |.lst _,_,h=>by obtain⟨p,vs,e,n,hp,q⟩:=h;exact⟨p,vs,e,f.yP n hp,f.keep _ _ n hp,gh.mono f q⟩
 |.tup _,_,h=>by obtain⟨p,vs,e,n,hp,q⟩:=h;exact⟨p,vs,e,f.yP n hp,f.keep _ _ n hp,gh.mono f q⟩
 |.jX _ _,_,h=>by obtain⟨p,fX,vs,e,n,hp,q1,q2,q⟩:=h;exact⟨p,fX,vs,e,f.yP n hp,f.keep _ _ n hp,q1,q2,gh.mono f q⟩
 |.mr _,_,h=>by obtain⟨p,e,q⟩:=h;exact⟨p,f.get e,q⟩
 |.obj _ _ _,_,h=>by obtain⟨p,dx,fs,vs,e,n,hp,q1,q2,q⟩:=h;exact⟨p,dx,fs,vs,e,f.yP n hp,f.keep _ _ n hp,q1,q2,gh.mono f q⟩
 |.t9 _ _,_,h=>by obtain⟨p,dx,fs,vs,e,n,hp,q1,q2,q⟩:=h;exact⟨p,dx,fs,vs,e,f.yP n hp,f.keep _ _ n hp,q1,q2,gh.mono f q⟩
 |.fn _,_,h=>h
def gh.mono {φ gN:List ao}{H H':Hp}(f:Fr φ H gN H'):∀ {ds:List D} {vs:List V},gh φ H ds vs->gh gN H' ds vs
 |[],_,h=>h
 |_::_,_,h=>by obtain⟨v,r,e,h1,h2⟩:=h;exact⟨v,r,e,jE.mono f h1,gh.mono f h2⟩
end
def gh.len {φ:au ao}{H:Hp}:∀ {ds:au D} {vs:au V},gh φ H ds vs->vs.length=ds.length
 |[],_,h=>by rw[show _=[]from h];rfl
 |d::ds,_,h=>by obtain⟨v,r,rfl,_,h2⟩:=h;rw[a9,a9,gh.len h2]
def gh.get {φ:au ao}{H:Hp}:∀ {ds:au D} {vs:au V} {i:Nat} {d:D},gh φ H ds vs->ds[i]?=some d->∃ v,vs[i]?=some v/\jE φ H d v
 |[],_,i,d,h,e=>by simp at e
 |d::ds,_,0,d',h,e=>by obtain⟨v',r,rfl,h1,h2⟩:=h;simp at e;subst e;exact⟨v',rfl,h1⟩
 | d::ds,_,i+1,d',h,e=>by
  obtain⟨v',r,rfl,h1,h2⟩:=h
  obtain⟨v,e1,e2⟩:=gh.get (i:=i) h2 (by simpa using e)
  exact⟨v,by simpa using e1,e2⟩
def gh.Cu {φ:au ao}{H:Hp}{ds:au D}{vs:au V}{i:Nat}{v:V}(h:gh φ H ds vs)(e:vs[i]?=some v):∃ d,ds[i]?=some d/\jE φ H d v:=by
 have hl:=h.len
 have hi:=(ka e).1
 obtain⟨u,e1,e2⟩:=h.get (d:=ds[i]'(by lia)) (iM (by lia))
 rw[e]at e1;cases e1
 exact⟨_,iM (by lia),e2⟩
def gh.app {φ:au ao}{H:Hp}:∀ {ds es:au D} {vs us:au V},gh φ H ds vs->gh φ H es us->gh φ H (ds++es) (vs++us)
 |[],_,_,_,h,g=>by rw[show _=[]from h];exact g
 |d::ds,es,_,us,h,g=>by obtain⟨v,r,rfl,h1,h2⟩:=h;exact⟨v,r++us,rfl,h1,h2.app g⟩
def gh.take {φ:au ao}{H:Hp}:∀ {ds:au D} {vs:au V} (n:Nat),gh φ H ds vs->gh φ H (ds.take n) (vs.take n)
 |_,_,0,_=>rfl
 |[],_,n+1,h=>by rw[show _=[]from h];rfl
 |d::ds,_,n+1,h=>by obtain⟨v,r,rfl,h1,h2⟩:=h;exact⟨v,r.take n,rfl,h1,h2.take n⟩
def gh.drop {φ:au ao}{H:Hp}:∀ {ds:au D} {vs:au V} (n:Nat),gh φ H ds vs->gh φ H (ds.drop n) (vs.drop n)
 |_,_,0,h=>h
 |[],_,n+1,h=>by rw[show _=[]from h];rfl
 |d::ds,_,n+1,h=>by obtain⟨v,r,rfl,h1,h2⟩:=h;exact h2.drop n
def gh.set {φ:au ao}{H:Hp}{d:D}{v:V}(hd:jE φ H d v):∀ {ds:au D} {vs:au V} (n:Nat),gh φ H ds vs->gh φ H (ds.set n d) (vs.set n v)
 |[],_,n,h=>by rw[show _=[]from h];cases n<;>rfl
 |e::ds,_,0,h=>by obtain⟨w,r,rfl,h1,h2⟩:=h;exact⟨v,r,rfl,hd,h2⟩
 |e::ds,_,n+1,h=>by obtain⟨w,r,rfl,h1,h2⟩:=h;exact⟨w,r.set n v,rfl,h1,h2.set hd n⟩
def gh.ints {φ:au ao}{H:Hp}:∀ {ns:au Int} {vs:au V},gh φ H (ns.map D.int) vs->vs=ns.map V.int
 |[],_,h=>h
 |n::ns,_,h=>by obtain⟨v,r,rfl,h1,h2⟩:=h;rw[show v=.int n from h1,gh.ints h2];rfl
def gh.ofInts {φ:au ao}{H:Hp}:∀ ns:au Int,gh φ H (ns.map D.int) (ns.map V.int)
 |[]=>rfl
 |n::ns=>⟨_,_,rfl,rfl,gh.ofInts ns⟩
def gh.bls {φ:au ao}{H:Hp}:∀ {ns:au Bool} {vs:au V},gh φ H (ns.map D.bl) vs->vs=ns.map V.bl
 |[],_,h=>h
 |n::ns,_,h=>by obtain⟨v,r,rfl,h1,h2⟩:=h;rw[show v=.bl n from h1,gh.bls h2];rfl
def gh.strs {φ:au ao}{H:Hp}:∀ {ns:au Str} {vs:au V},gh φ H (ns.map D.str) vs->vs=ns.map V.str
 |[],_,h=>h
 |n::ns,_,h=>by obtain⟨v,r,rfl,h1,h2⟩:=h;rw[show v=.str n from h1,gh.strs h2];rfl
def BxF (φ:au ao)(H:Hp)(b:ao):Prop:=∃(q:ao) (ns:au Int) (i r z:Int),H b=some (.lst [.ref q,.int i,.int r,.int z])/\H q=some (.lst (ns.map V.int))/\q∉φ/\0<=i/\0<=z/\z<2147483647
def Xc (p:ao)(c:ar)(h:Heap):Prop:=∃ oe vs,h.get? p=some oe/\oe.cls=c/\oe.dict=none/\oe.data=.fields vs/\vs[2]?=some .none
def yr (φ:au ao)(H:Hp):MO->ao->Prop
 |.box,p=>BxF φ H p
 |.lst ds,p=>∃ vs,H p=some (.lst vs)/\gh φ H ds vs
 |.jX ks ds,p=>∃ fX vs,H p=some (.dK fX)/\fX.map (·.1)=ks/\vs=fX.map (·.2)/\gh φ H ds vs
 |.xq o fX ds,p=>H p=some (.Cv o (.dK fX))/\gh φ H ds (fX.map (·.2))
 |.ins C ns ds,p=>∃ dx fs,H p=some (.ins C dx fs)/\fs.map (·.1)=ns/\gh φ H ds (fs.map (·.2))
 |.nB ks ds,p=>∃ fX,H p=some (.dT fX)/\fX.map (·.1)=ks/\gh φ H ds (fX.map (·.2))
 |.gx lq H0,p=>Fr lq H0 φ H/\H p=H0 p/\(∃ o,H p=some o)/\∀ zs,H p≠some (.tup zs)
 |.exc c,p=>H p=some (.ext (Xc p c))
structure gE (φ:List ao)(H:Hp)(μ:MS):Prop where
 nd:φ.Nodup
 len:φ.length=μ.length
 at_:∀(k:Nat) (m:MO),μ[k]?=some m->∃ p,φ[k]?=some p/\yr φ H m p
def yr.mono {φ gN:au ao}{H H':Hp}(f:Fr φ H gN H'){m:MO}{p:ao}(s:∀ o,H p=some o->H' p=some o)(h:yr φ H m p):yr gN H' m p:=by
 cases m with
 |box=>obtain⟨q,ns,i,r,z,h1,h2,h3,h4⟩:=h;exact⟨q,ns,i,r,z,s _ h1,f.keep _ _ h3 h2,f.yP h3 h2,h4⟩
 |lst ds=>obtain⟨vs,h1,h2⟩:=h;exact⟨vs,s _ h1,h2.mono f⟩
 |jX ks ds=>obtain⟨fX,vs,h1,h2,h3,h4⟩:=h;exact⟨fX,vs,s _ h1,h2,h3,h4.mono f⟩
 |xq o fX ds=>exact⟨s _ h.1,h.2.mono f⟩
 |ins C ns ds=>obtain⟨dx,fs,h1,h2,h3⟩:=h;exact⟨dx,fs,s _ h1,h2,h3.mono f⟩
 |nB ks ds=>obtain⟨fX,h1,h2,h3⟩:=h;exact⟨fX,s _ h1,h2,h3.mono f⟩
 |gx lq H0=>obtain⟨h1,h2,⟨o,h3⟩,h4⟩:=h;exact⟨h1.trans f,(s _ h3).trans (h3.symm.trans h2),⟨o,s _ h3⟩,λzs e=>h4 zs (h3.trans ((s _ h3).symm.trans e))⟩
 |exc c=>exact s _ h
def yr.ex {φ:au ao}{H:Hp}{m:MO}{p:ao}(h:yr φ H m p):∃ o,H p=some o:=by
 cases m with
 |box=>obtain⟨q,ns,i,r,z,h1,_⟩:=h;exact⟨_,h1⟩
 |lst ds=>obtain⟨vs,h1,_⟩:=h;exact⟨_,h1⟩
 |jX ks ds=>obtain⟨fX,vs,h1,_⟩:=h;exact⟨_,h1⟩
 |xq o fX ds=>exact⟨_,h.1⟩
 |ins C ns ds=>obtain⟨dx,fs,h1,_⟩:=h;exact⟨_,h1⟩
 |nB ks ds=>obtain⟨fX,h1,_⟩:=h;exact⟨_,h1⟩
 |gx lq H0=>exact h.2.2.1
 |exc c=>exact⟨_,h⟩
def gE.same {φ:au ao}{H H':Hp}{μ:MS}(h:gE φ H μ)(s:iL H H'):gE φ H' μ :=
 ⟨h.nd,h.len,λk m e=>let ⟨p,e1,e2⟩:=h.at_ k m e;⟨p,e1,e2.mono (.same s) λo q=>s _ _ q⟩⟩
def gE.mem {φ:au ao}{H:Hp}{μ:MS}(h:gE φ H μ){p:ao}(hp:p∈φ):∃ o,H p=some o:=by
 obtain⟨k,hk,e⟩:=aM hp
 obtain⟨q,e1,e2⟩:=h.at_ k (μ[k]'(by have:=h.len;lia)) (iM _)
 rw[iM hk,e]at e1
 cases e1
 exact e2.ex
def gE.fresh {φ:au ao}{H:Hp}{μ:MS}(h:gE φ H μ){p:ao}(hp:H p=none):p∉φ:=λq=>by
 obtain⟨o,e⟩:=h.mem q
 rw[hp]at e;cases e
def gE.snoc {φ:au ao}{H:Hp}{μ:MS}{m:MO}{p:ao}{o:HO}(h:gE φ H μ)(hp:H p=none)(hm:yr (φ++[p]) (upd H p o) m p):gE (φ++[p]) (upd H p o) (μ++[m])/\Fr φ H (φ++[p]) (upd H p o):=by
 have f1:Fr φ H (φ++[p]) H:=.snoc hp
 have f:Fr φ H (φ++[p]) (upd H p o):=⟨f1.ext,λc u hc e=>iL.upd hp _ _ e,λc e=>(iL.upd hp).free e⟩
 refine⟨⟨?_,by rw[l5,l5,h.len];rfl,λk n e=>?_⟩,f⟩
 .rw[fb]
  exact⟨h.nd,by simp,λa ha b hb=>by rw[List.mem_singleton.mp hb];intro z;exact h.fresh hp (by rw[<- z];exact ha)⟩
 .by_cases hk:k<μ.length
  .rw[t6 hk]at e
   obtain⟨q,e1,e2⟩:=h.at_ k n e
   exact⟨q,f.get e1,e2.mono f λu eu=>iL.upd hp _ _ eu⟩
  .have Bp:k=μ.length:=by
    have:=(ka e).1
    rw[l5,bJ]at this
    lia
   subst Bp
   rw[rF (aw _),a8]at e
   cases e
   exact⟨p,by rw[rF (by rw[h.len];exact aw _),h.len,a8];rfl,hm⟩
def gE.put {φ:au ao}{H:Hp}{μ:MS}{m:MO}{p:ao}{o:HO}{k:Nat}(h:gE φ H μ)(hk:φ[k]?=some p)(hm:yr φ (upd H p o) m p):gE φ (upd H p o) (μ.set k m):=by
 have hp:p∈φ:=kA hk
 have f:Fr φ H φ (upd H p o):=.put hp
 refine⟨h.nd,by rw[cg];exact h.len,λj n e=>?_⟩
 by_cases hj:k=j
 .subst hj
  have hl:k<μ.length:=by have:=(ka hk).1;have:=h.len;lia
  rw[aW hl]at e
  cases e
  exact⟨p,hk,hm⟩
 .rw[bo hj]at e
  obtain⟨q,e1,e2⟩:=h.at_ j n e
  refine⟨q,e1,e2.mono f λu eu=>?_⟩
  rw[gB]
  .exact eu
  .intro z
   subst z
   have a1:=ka hk
   have a2:=ka e1
   obtain⟨i1,r1⟩:=a1
   obtain⟨i2,r2⟩:=a2
   rcases Nat.lt_or_gt_of_ne hj with z|z
   .exact List.pairwise_iff_getElem.mp h.nd k j i1 i2 z (r1.trans r2.symm)
   .exact List.pairwise_iff_getElem.mp h.nd j k i2 i1 z (r2.trans r1.symm)
def k8 (φ:au ao)(H:Hp)(ρ:DE)(σ:St):Prop:=ρ.length=σ.length/\∀(i:Nat) (d:D),ρ[i]?=some (some d)->∃ v,σ[i]?=some (some v)/\jE φ H d v
def k8.mono {φ gN:au ao}{H H':Hp}{ρ:DE}{σ:St}(f:Fr φ H gN H')(h:k8 φ H ρ σ):k8 gN H' ρ σ:=⟨h.1,λi d e=>let ⟨v,a,b⟩:=h.2 i d e;⟨v,a,b.mono f⟩⟩
def k8.set {φ:au ao}{H:Hp}{ρ:DE}{σ:St}{d:D}{v:V}(h:k8 φ H ρ σ)(hd:jE φ H d v)(i:Nat):k8 φ H (ρ.set i (some d)) (σ.set i (some v)):=by
 refine⟨by rw[cg,cg];exact h.1,λj e hj=>?_⟩
 by_cases pV:i=j
 .subst pV
  have hl:i<ρ.length:=by have:=(ka hj).1;rwa [cg]at this
  rw[aW hl]at hj
  cases hj
  exact⟨v,aW (by rw[<- h.1];exact hl),hd⟩
 .rw[bo pV]at hj
  obtain⟨u,a,b⟩:=h.2 j e hj
  exact⟨u,by rw[bo pV];exact a,b⟩
def lv (μ:MS):D->av (au D)
 |.lst ds=>some ds
 |.mr k=>mH μ k
 |_=>none
def lc:D->au D->MS->Prop
 |.mr k,ds=>λμ=>mH μ k=some ds
 |_,_=>λ_=>True
def kJ {φ:au ao}{H:Hp}{μ:MS}{d:D}{v:V}{ds:au D}(M:gE φ H μ)(i:jE φ H d v)(h:lv μ d=some ds):∃ p vs,v=.ref p/\H p=some (.lst vs)/\gh φ H ds vs:=by
 cases d with
 |lst es=>cases h;obtain⟨p,vs,rfl,_,hp,ha⟩:=i;exact⟨p,vs,rfl,hp,ha⟩
 | mr k =>
  obtain⟨p,hp,rfl⟩:=i
  have e:=jA (show mH μ k=some ds from h)
  obtain⟨q,e1,vs,hv,ha⟩:=M.at_ k _ e
  rw[hp]at e1;cases e1
  exact⟨p,vs,rfl,hv,ha⟩
 |_=>cases h
def qK {φ gN:au ao}{H H':Hp}{μ gq:MS}{d:D}{p:ao}{ds:au D}(M:gE φ H μ)(i:jE φ H d (.ref p))(h:lv μ d=some ds)(f:Fr φ H gN H')(M':gE gN H' gq)(c:lc d ds gq):∃ vs,H' p=some (.lst vs)/\gh gN H' ds vs:=by
 cases d with
 |lst es=>cases h;obtain⟨p',vs,e,n,hp,ha⟩:=i;cases e;exact⟨vs,f.keep _ _ n hp,ha.mono f⟩
 | mr k =>
  obtain⟨p',hp,e⟩:=i
  cases e
  obtain⟨q,e1,vs,hv,ha⟩:=M'.at_ k _ (jA c)
  rw[f.get hp]at e1;cases e1
  exact⟨vs,hv,ha⟩
 |_=>cases h
def rC {μ:MS}{d:D}{ds:au D}(h:lv μ d=some ds):lc d ds μ:=by
 cases d<;>first|trivial|exact h
abbrev DK:=D->MS->Prop
abbrev De:=DE->MS->DK->Prop
abbrev DA:=DE->MS->(au D->MS->Prop)->Prop
abbrev Dt:=DE->MS->(Bool->MS->Prop)->Prop
def wz (φ:au ao)(H:Hp)(K:DK)(Q:VK):Prop:=∀ d gq gN v H',K d gq->Fr φ H gN H'->gE gN H' gq->jE gN H' d v->Q v H'
def wz.mono {φ gT:au ao}{H H1:Hp}{K:DK}{Q:VK}(h:wz φ H K Q)(f:Fr φ H gT H1):wz gT H1 K Q:=λd gq gN v H' k g m i=>h d gq gN v H' k (f.trans g) m i
def tD (w:De):TE:=λσ H Q=>∃ φ ρ μ K,k8 φ H ρ σ/\gE φ H μ/\w ρ μ K/\wz φ H K Q
def Ua (w:DA):TA:=λσ H Q=>∃ φ ρ μ K,k8 φ H ρ σ/\gE φ H μ/\w ρ μ K/\∀ ds gq gN vs H',K ds gq->Fr φ H gN H'->gE gN H' gq->gh gN H' ds vs->Q vs H'
def xX (w:Dt):TT:=λσ H Q=>∃ φ ρ μ K,k8 φ H ρ σ/\gE φ H μ/\w ρ μ K/\∀ b gq gN H',K b gq->Fr φ H gN H'->gE gN H' gq->Q b H'
section
variable {X:Cx}{a b e:Expr}{pos:Pos}
abbrev PD (X:Cx)(e:Expr)(w:De):Prop:=PE X e (tD w)
def vq (i:Nat):De:=λρ μ K=>match ρ[i]? with|some (some d)=>K d μ|_=>False
def dC (d:D):De:=λ_ μ K=>K d μ
def dv (i:Nat){x:Str}{pos:Pos}(hN:X.N[i]?=some x:=by rfl)(hv:WU X.env.scope x:=by first | exact Or.inl rfl | exact Or.inr (Or.inl rfl) | exact Or.inr (Or.inr rfl))(hd:(x==("__debug__" : Str))=false:=by decide)
 (En:(x==("__classdict__" : Str))=false:=by decide):PD X (.Name x pos) (vq i):=(Kg (i:=i) hN hv hd En).imp λσ H Q q=>by
 obtain⟨φ,ρ,μ,K,E,M,w,L⟩:=q
 unfold vq at w
 split at w
 .rename_i d hd
  obtain⟨v,e,r⟩:=E.2 i d hd
  exact⟨v,e,L d μ φ v H w (.refl _ _) M r⟩
 .exact w.elim
def fT {i j pos}:PD X (.Constant (.int i) j pos) (dC (.int i)):=iu.imp λσ H Q q9=>by obtain⟨φ,ρ,μ,K,E,M,w,L⟩:=q9;exact L _ _ φ _ H w (.refl _ _) M rfl
def mS {b j pos}:PD X (.Constant (.bool b) j pos) (dC (.bl b)):=Kn.imp λσ H Q qo=>by obtain⟨φ,ρ,μ,K,E,M,w,L⟩:=qo;exact L _ _ φ _ H w (.refl _ _) M rfl
def y7 {j pos}:PD X (.Constant .none j pos) (dC .ic):=RP.imp λσ H Q qm=>by obtain⟨φ,ρ,μ,K,E,M,w,L⟩:=qm;exact L _ _ φ _ H w (.refl _ _) M rfl
def kb {x j pos}:PD X (.Constant (.str x) j pos) (dC (.str x)):=RN.imp λσ H Q rZ=>by obtain⟨φ,ρ,μ,K,E,M,w,L⟩:=rZ;exact L _ _ φ _ H w (.refl _ _) M rfl
abbrev xP:=D->D->MS->DK->Prop
def wm (ro:xP)(wa wb:De):De:=λρ μ K=>wa ρ μ λx gy=>wb ρ gy λy jb=>ro x y jb K
def rp (r:R2)(ro:xP):Prop:=∀ φ H x y dx dy μ K Q,gE φ H μ->jE φ H dx x->jE φ H dy y->ro dx dy μ K->wz φ H K Q->r x y H Q
def E7 {r:R2}{ro:xP}{wa wb:De}(so:rp r ro){σ:St}{H:Hp}{Q:VK}(h:tD (wm ro wa wb) σ H Q):UO r (tD wa) (tD wb) σ H Q:=by
 obtain⟨φ,ρ,μ,K,E,M,w,L⟩:=h
 refine⟨φ,ρ,μ,_,E,M,w,λd1 gy gT v1 H1 k1 f1 M1 i1=>?_⟩
 refine⟨gT,ρ,gy,_,E.mono f1,M1,k1,λd2 jb l8 v2 H2 k2 f2 M2 i2=>?_⟩
 exact so l8 H2 v1 v2 d1 d2 jb K Q M2 (i1.mono f2) i2 k2 (L.mono (f1.trans f2))
def rg {op:Operator}{r:R2}{ro:xP}{wa wb:De}(h:lC X (binaryOp op) r)(so:rp r ro)(ha:PD X a wa)(hb:PD X b wb):PD X (.BinOp a op b pos) (wm ro wa wb):=(lh h ha hb).imp λσ H Q q=>E7 so q
def qw {op:CmpOp}{r:R2}{ro:xP}{wa wb:De}(h:lC X (compareOp op) r)(so:rp r ro)(ha:PD X a wa)(hb:PD X b wb)(hm:behindInMarks op b=false):PD X (.Compare a [op] [b] pos) (wm ro wa wb):=(sN h ha hb hm).imp λσ H Q q=>E7 so q
def d_ix {r:R2}{ro:xP}{wa wb:De}(h:G5 X r)(so:rp r ro)(ha:PD X a wa)(hb:PD X b wb)(hs:A4 b):PD X (.Subscript a b pos) (wm ro wa wb):=(qg h ha hb hs).imp λσ H Q q=>E7 so q
def pv (w:De):Dt:=λρ μ K=>w ρ μ λd gq=>match d with|.bl b=>K b gq|_=>False
def Nk {w:De}{σ:St}{H:Hp}{Q:Bool->Hp->Prop}(h:xX (pv w) σ H Q):cB (tD w) σ H Q:=by
 obtain⟨φ,ρ,μ,K,E,M,k,L⟩:=h
 refine⟨φ,ρ,μ,_,E,M,k,λd gq gN v H' k' f M' i=>?_⟩
 cases d with
 |bl b=>cases(show v=_ from i);exact L b gq gN H' k' f M'
 |_=>exact k'.elim
def ij {w:De}(h:PD X e w)(he:∀ whole,isTrue e X.env whole=(do let v <- whole;standAt e.pos;holding [v] (truthy v)):=by intro _;rfl):PT X e (xX (pv w)):=(sL h he).imp λσ H Q q=>Nk q
def mf {op:CmpOp}{r:R2}{ro:xP}{wa wb:De}(h:lC X (compareOp op) r)(so:rp r ro)(ha:PD X a wa)(hb:PD X b wb)(hm:behindInMarks op b=false):PT X (.Compare a [op] [b] pos) (xX (pv (wm ro wa wb))) :=
 (nP h ha hb hm).imp λσ H Q q=>by
  obtain⟨φ,ρ,μ,K,E,M,k,L⟩:=q
  refine E7 so ⟨φ,ρ,μ,_,E,M,k,λd gq gN v H' k' f M' i=>?_⟩
  cases d with
  |bl b=>cases(show v=_ from i);exact L b gq gN H' k' f M'
  |_=>exact k'.elim
def OY (neg:Bool)(w:De):De:=λρ μ K=>w ρ μ λd gq=>match d with|.ic=>K (.bl (!neg)) gq|_=>K (.bl neg) gq
def Lb {φ:au ao}{H:Hp}{d:D}{v:V}(i:jE φ H d v):decide (v=V.ic)=(match d with | .ic=>true | _=>false):=by
 cases d with
 |ic=>cases(show v=_ from i);rfl
 |bl _=>cases(show v=_ from i);rfl
 |int _=>cases(show v=_ from i);rfl
 |str _=>cases(show v=_ from i);rfl
 |lst _=>obtain⟨p,vs,rfl,_⟩:=i;rfl
 |tup _=>obtain⟨p,vs,rfl,_⟩:=i;rfl
 |jX _ _=>obtain⟨p,fX,vs,rfl,_⟩:=i;rfl
 |mr _=>obtain⟨p,_,rfl⟩:=i;rfl
 |obj _ _ _=>obtain⟨p,dx,fs,vs,rfl,_⟩:=i;rfl
 |t9 _ _=>obtain⟨p,dx,fs,vs,rfl,_⟩:=i;rfl
 |fn _=>cases(show v=_ from i);rfl
def Rc {w:De}{σ:St}{H:Hp}{Q:VK}(h:tD (OY false w) σ H Q):UQ (tD w) σ H Q:=by
 obtain⟨φ,ρ,μ,K,E,M,k,L⟩:=h
 refine⟨φ,ρ,μ,_,E,M,k,λd gq gN v H' k' f M' i=>?_⟩
 show Q (.bl _) H'
 rw[Lb i]
 cases d<;>exact L _ gq gN _ H' k' f M' rfl
def Nh {w:De}{σ:St}{H:Hp}{Q:VK}(h:tD (OY true w) σ H Q):PM (tD w) σ H Q:=by
 obtain⟨φ,ρ,μ,K,E,M,k,L⟩:=h
 refine⟨φ,ρ,μ,_,E,M,k,λd gq gN v H' k' f M' i=>?_⟩
 show Q (.bl _) H'
 rw[Lb i]
 cases d<;>exact L _ gq gN _ H' k' f M' rfl
end
section
variable {X:Cx}{a b e:Expr}{es:au Expr}{pos:Pos}
def PA.imp {es:au Expr}{t t':TA}(h:PA X es t)(hi:∀ σ H Q,t' σ H Q->t σ H Q):PA X es t':=λpos fJ s σ H Q I q=>h pos fJ s σ H Q I (hi σ H Q q)
def A5.imp {st:au Stmt}{t t':TS}(h:A5 X st t)(hi:∀ D σ H,t' D σ H->t D σ H):A5 X st t':=λfJ s σ H D I q=>h fJ s σ H D I (hi D σ H q)
def EA:DA:=λ_ μ K=>K [] μ
def tM (wa:De)(wr:DA):DA:=λρ μ K=>wa ρ μ λx gy=>wr ρ gy λxs jb=>K (x::xs) jb
abbrev wy (X:Cx)(es:au Expr)(w:DA):Prop:=PA X es (Ua w)
def iG:wy X [] EA:=iV.imp λσ H Q tY=>by obtain⟨φ,ρ,μ,K,E,M,w,L⟩:=tY;exact L [] μ φ [] H w (.refl _ _) M rfl
def fQ {wa:De}{wr:DA}(ha:PD X e wa)(hr:wy X es wr)(hs:starEach (e::es) X.env=(false,eval e X.env)::starEach es X.env:=by rfl):wy X (e::es) (tM wa wr):=(gz ha hr hs).imp λσ H Q q=>by
 obtain⟨φ,ρ,μ,K,E,M,w,L⟩:=q
 refine⟨φ,ρ,μ,_,E,M,w,λd1 gy gT v1 H1 k1 f1 M1 i1=>?_⟩
 refine⟨gT,ρ,gy,_,E.mono f1,M1,k1,λds jb l8 vs H2 k2 f2 M2 i2=>?_⟩
 exact L _ jb l8 _ H2 k2 (f1.trans f2) M2 ⟨v1,vs,rfl,i1.mono f2,i2⟩
def Ms {φ:au ao}{H:Hp}{μ:MS}{K:DK}{Q:VK}{ds:au D}{vs:au V}{p:ao}(L:wz φ H K Q)(M:gE φ H μ)(h:gh φ H ds vs)(k:K (.lst ds) μ)(hp:H p=none):Q (.ref p) (upd H p (.lst vs)) :=
 L _ μ φ _ _ k (.new hp) (M.same (iL.upd hp)) ⟨p,vs,rfl,M.fresh hp,gp,h.mono (.new hp)⟩
def TN {φ:au ao}{H:Hp}{μ:MS}{K:DK}{Q:VK}{ds:au D}{vs:au V}{p:ao}(L:wz φ H K Q)(M:gE φ H μ)(h:gh φ H ds vs)(k:K (.tup ds) μ)(hp:H p=none):Q (.ref p) (upd H p (.tup vs)) :=
 L _ μ φ _ _ k (.new hp) (M.same (iL.upd hp)) ⟨p,vs,rfl,M.fresh hp,gp,h.mono (.new hp)⟩
def WS {φ:au ao}{H:Hp}{μ:MS}{K:DK}{Q:VK}{ds:au D}{vs:au V}{p:ao}(L:wz φ H K Q)(M:gE φ H μ)(h:gh φ H ds vs)(k:K (.mr μ.length) (μ++[.lst ds]))(hp:H p=none):Q (.ref p) (upd H p (.lst vs)):=by
 have f:Fr φ H (φ++[p]) (upd H p (.lst vs)):=⟨(Fr.snoc (φ:=φ) hp).ext,λc u _ e=>iL.upd hp _ _ e,λc e=>(iL.upd hp).free e⟩
 obtain⟨M',_⟩:=M.snoc (m:=.lst ds) (o:=.lst vs) hp ⟨vs,gp,h.mono f⟩
 exact L _ _ _ _ _ k f M' ⟨p,by rw[rF (by rw[M.len];exact aw _),M.len,a8];rfl,rfl⟩
def nL (m:Bool)(ds:au D)(μ:MS)(K:DK):Prop:=match m with|false=>K (.lst ds) μ|true=>K (.mr μ.length) (μ++[.lst ds])
def Mr {m:Bool}{φ:au ao}{H:Hp}{μ:MS}{K:DK}{Q:VK}{ds:au D}{vs:au V}{p:ao}(L:wz φ H K Q)(M:gE φ H μ)(h:gh φ H ds vs)(k:nL m ds μ K)(hp:H p=none):Q (.ref p) (upd H p (.lst vs)):=by
 cases m with
 |false=>exact Ms L M h k hp
 |true=>exact WS L M h k hp
def dLst (m:Bool)(w:DA):De:=λρ μ K=>w ρ μ λds gy=>ds.length<=sizeLine/\nL m ds gy K
def dTup (w:DA):De:=λρ μ K=>w ρ μ λds gy=>ds.length<=sizeLine/\K (.tup ds) gy
def mw {w:DA}(m:Bool)(h:wy X es w):PD X (.List es pos) (dLst m w):=(Ki h).imp λσ H Q ⟨φ,ρ,μ,K,E,M,w,L⟩ =>
 ⟨φ,ρ,μ,_,E,M,w,λds gy gT vs H1 k1 f1 M1 i1=>⟨by rw[i1.len];exact k1.1,λp hp=>Mr (L.mono f1) M1 i1 k1.2 hp⟩⟩
def nr {w:DA}{x1}(h:wy X es w):PD X (.Tuple es x1 pos) (dTup w):=(RM h).imp λσ H Q ⟨φ,ρ,μ,K,E,M,w,L⟩ =>
 ⟨φ,ρ,μ,_,E,M,w,λds gy gT vs H1 k1 f1 M1 i1=>⟨by rw[i1.len];exact k1.1,λp hp=>TN (L.mono f1) M1 i1 k1.2 hp⟩⟩
abbrev jP:=au D->MS->DK->Prop
def iD (f:jP):Sp:=λvs H Q _=>∃ φ ds μ K,gh φ H ds vs/\gE φ H μ/\f ds μ K/\wz φ H K Q
def vd (f:jP)(w:DA):De:=λρ μ K=>w ρ μ λds gy=>f ds gy K
def Tt {f:jP}{w:DA}{x:Str}{p:Pos}{k:Nat}{ps:au Str}(C:mM X.prog X.w X.K X.mg X.fK x k ps (iD f))(hr:jO k X.A)(hg:Gl X x)(ha:wy X (e::es) w)
 (yf:(x==("__debug__" : Str))=false:=by decide) (he:starEach (e::es) X.env=(false,eval e X.env)::starEach es X.env:=by rfl) (qr:(backTo pos (starEach es X.env)).any (·.1)=false:=by rfl):
 PD X (.Call (.Name x p) (e::es) [] pos) (vd f w):=(wW C hr hg ha yf he qr).imp λσ H Q ⟨φ,ρ,μ,K,E,M,w,L⟩=>
 ⟨φ,ρ,μ,_,E,M,w,λds gy gT vs H1 k1 f1 M1 i1=>by show iD f (vs++[]) H1 Q E0;rw[bZ];exact⟨gT,ds,gy,K,i1,M1,k1,L.mono f1⟩⟩
def mF (r:au V->Hp->VK->Prop)(f:jP):Prop:=∀ φ H vs ds μ K Q,gE φ H μ->gh φ H ds vs->f ds μ K->wz φ H K Q->r vs H Q
def PR {r:au V->Hp->VK->Prop}{f:jP}{w:DA}(so:mF r f){σ:St}{H:Hp}{Q:VK}(h:tD (vd f w) σ H Q):Yp r (Ua w) σ H Q:=by
 obtain⟨φ,ρ,μ,K,E,M,w,L⟩:=h
 exact⟨φ,ρ,μ,_,E,M,w,λds gy gT vs H1 k1 f1 M1 i1=>so gT H1 vs ds gy K Q M1 i1 k1 (L.mono f1)⟩
def oM {r:au V->Hp->VK->Prop}{f:jP}{w:DA}{id:String}{x:Str}{p:Pos}(hc:jm X (.builtin id) r)(so:mF r f)(hg:Gl X x)(hm:X.mg x=none)(hv:bootBuiltins x=some (.builtin id))(ha:wy X (e::es) w)(hn:x ≠ "__name__":=by decide)(yf:(x==("__debug__" : Str))=false:=by decide)
 (he:starEach (e::es) X.env=(false,eval e X.env)::starEach es X.env:=by rfl) (qr:(backTo pos (starEach es X.env)).any (·.1)=false:=by rfl):PD X (.Call (.Name x p) (e::es) [] pos) (vd f w):=
 (iB hc hg hm hv ha hn yf he qr).imp λσ H Q q=>PR so q
def Io {r:au V->Hp->VK->Prop}{f:jP}{w:DA}{T:String}{x:Str}{p:Pos}(hc:jm X (.type T) r)(so:mF r f)(hg:Gl X x)(hm:X.mg x=none)(hv:bootBuiltins x=some (.type T))(ha:wy X (e::es) w)(hn:x ≠ "__name__":=by decide)(yf:(x==("__debug__" : Str))=false:=by decide)
 (he:starEach (e::es) X.env=(false,eval e X.env)::starEach es X.env:=by rfl) (qr:(backTo pos (starEach es X.env)).any (·.1)=false:=by rfl):PD X (.Call (.Name x p) (e::es) [] pos) (vd f w):=
 (yM hc hg hm hv ha hn yf he qr).imp λσ H Q q=>PR so q
abbrev MU:=D->au D->MS->DK->Prop
def EK (K:aa)(T:String)(r:V->au V->Hp->VK->Prop)(f:MU):Prop:=∀ φ H x vs d ds μ K' Q,gE φ H μ->jE φ H d x->gh φ H ds vs->f d ds μ K'->wz φ H K' Q->r x vs H Q
def TQ (T:String)(μ:MS):D->Prop
 |.str _=>T = "str"
 |.lst _=>T = "list"
 |.jX _ _=>T = "dict"
 |.mr k=>match μ[k]? with|some (.lst _)=>T = "list" | some (.jX _ _)=>T = "dict" | _=>False
 |_=>False
def TQ.is {Kf:aa}{T:String}{φ:au ao}{H:Hp}{μ:MS}{d:D}{v:V}(M:gE φ H μ)(i:jE φ H d v)(h:TQ T μ d):Xh Kf T v H:=by
 cases d with
 |str z=>cases(show v=_ from i);exact h
 |lst ds=>obtain⟨p,vs,rfl,_,hp,_⟩:=i;exact .inl ⟨h,vs,qz.of hp⟩
 |jX ks ds=>obtain⟨p,fX,vs,rfl,_,hp,_⟩:=i;exact .inr (.inr (.inl ⟨h,.inl ⟨fX,hp⟩⟩))
 | mr k =>
  obtain⟨p,hp,rfl⟩:=i
  unfold TQ at h
  dsimp only at h
  cases e:μ[k]? with
  |none=>rw[e]at h;exact h.elim
  | some m =>
   obtain⟨q,e1,e2⟩:=M.at_ k m e
   rw[hp]at e1;cases e1
   rw[e]at h
   cases m with
   |box=>exact h.elim
   |lst ds=>obtain⟨vs,hv,_⟩:=e2;exact .inl ⟨h,vs,qz.of hv⟩
   |jX ks ds=>obtain⟨fX,vs,hv,_⟩:=e2;exact .inr (.inr (.inl ⟨h,.inl ⟨fX,hv⟩⟩))
   |_=>exact h.elim
 |_=>exact(show False from h).elim
def dMt (T:String)(f:MU)(wo:De)(w:DA):De:=λρ μ K=>wo ρ μ λx gy=>TQ T gy x/\w ρ gy λds jb=>f x ds jb K
def CG {o:Expr}{name:Str}{l7 kD:Pos}{T id:String}{r:V->au V->Hp->VK->Prop}{f:MU}{wo:De}{w:DA}(pa:PlainAttrs T)(slot:Slot T name id)(SJ:typeOf (.builtin id)=pure (.type "method_descriptor"))(hm:EM X id r)(so:EK X.K T r f)(ho:PD X o wo)(ha:wy X (e::es) w)
 (xk:attributeBase o name X.env (eval o X.env)=eval o X.env:=by rfl)
 (SW:((backTo kD (starEach (e::es) X.env)).all (λx=>!x.1)&&(backToKw kD (keywordEach [] X.env)).all (λx=>x.1.isSome)
   && decide ((e::es).length+([]:au Keyword).length+(if([]:au Keyword).isEmpty then 0 else 1)<30))=true:=by rfl)
 (xh:(l7.endLine==kD.line)=true:=by rfl) (hs:starEach (e::es) X.env=(false,eval e X.env)::starEach es X.env:=by rfl) (El:(backTo kD (starEach es X.env)).any (·.1)=false:=by rfl):
 PD X (.Call (.Attribute o name l7) (e::es) [] kD) (dMt T f wo w):=(Ve pa slot SJ hm ho ha xk SW xh hs El).imp λσ H Q q=>by
 obtain⟨φ,ρ,μ,K,E,M,w,L⟩:=q
 refine⟨φ,ρ,μ,_,E,M,w,λd1 gy gT v1 H1 k1 f1 M1 i1=>⟨TQ.is M1 i1 k1.1,?_⟩⟩
 exact⟨gT,ρ,gy,_,E.mono f1,M1,k1.2,λds jb l8 vs H2 k2 f2 M2 i2=>so l8 H2 v1 vs d1 ds jb K Q M2 (i1.mono f2) i2 k2 (L.mono (f1.trans f2))⟩
def L0 {o:Expr}{name:Str}{l7 kD:Pos}{T id:String}{r:V->au V->Hp->VK->Prop}{f:MU}{wo:De}(pa:PlainAttrs T)(slot:Slot T name id)(SJ:typeOf (.builtin id)=pure (.type "method_descriptor"))(hm:EM X id r)(so:EK X.K T r f)(ho:PD X o wo)
 (xk:attributeBase o name X.env (eval o X.env)=eval o X.env:=by rfl) (xh:(l7.endLine==kD.line)=true:=by rfl):PD X (.Call (.Attribute o name l7) [] [] kD) (dMt T f wo EA):=(RR pa slot SJ hm ho xk xh).imp λσ H Q q=>by
 obtain⟨φ,ρ,μ,K,E,M,w,L⟩:=q
 exact⟨φ,ρ,μ,_,E,M,w,λd1 gy gT v1 H1 k1 f1 M1 i1=>⟨TQ.is M1 i1 k1.1,so gT H1 v1 [] d1 [] gy K Q M1 i1 rfl k1.2 (L.mono f1)⟩⟩
def dAnd (wa wb:De):De:=λρ μ K=>wa ρ μ λx gy=>match x with|.bl c=>if c=true then wb ρ gy K else K (.bl false) gy|_=>False
def dOr (wa wb:De):De:=λρ μ K=>wa ρ μ λx gy=>match x with|.bl c=>if c=true then K (.bl true) gy else wb ρ gy K|_=>False
def dNot (wa:De):De:=λρ μ K=>wa ρ μ λx gy=>match x with|.bl c=>K (.bl (!c)) gy|_=>False
def QR {rest:au Expr}{wa wb:De}(ha:PD X a wa)(hb:PD X (.BoolOp .And (b::rest) pos) wb):PD X (.BoolOp .And (a::b::rest) pos) (dAnd wa wb):=(vK ha hb).imp λσ H Q q=>by
 obtain⟨φ,ρ,μ,K,E,M,w,L⟩:=q
 refine⟨φ,ρ,μ,_,E,M,w,λd1 gy gT v1 H1 k1 f1 M1 i1=>?_⟩
 cases d1 with
 | bl c =>
  cases(show v1=_ from i1)
  cases c with
  |true=>exact⟨gT,ρ,gy,_,E.mono f1,M1,k1,L.mono f1⟩
  |false=>exact L _ gy gT _ H1 k1 f1 M1 rfl
 |_=>exact k1.elim
def Wn {rest:au Expr}{wa wb:De}(ha:PD X a wa)(hb:PD X (.BoolOp .Or (b::rest) pos) wb):PD X (.BoolOp .Or (a::b::rest) pos) (dOr wa wb):=(RO ha hb).imp λσ H Q q=>by
 obtain⟨φ,ρ,μ,K,E,M,w,L⟩:=q
 refine⟨φ,ρ,μ,_,E,M,w,λd1 gy gT v1 H1 k1 f1 M1 i1=>?_⟩
 cases d1 with
 | bl c =>
  cases(show v1=_ from i1)
  cases c with
  |false=>exact⟨gT,ρ,gy,_,E.mono f1,M1,k1,L.mono f1⟩
  |true=>exact L _ gy gT _ H1 k1 f1 M1 rfl
 |_=>exact k1.elim
def GG {op}{w:De}(h:PD X a w):PD X (.BoolOp op [a] pos) w:=DW h
def Wo {wa:De}(ha:PD X a wa):PD X (.UnaryOp .Not a pos) (dNot wa):=(NW ha).imp λσ H Q q=>by
 obtain⟨φ,ρ,μ,K,E,M,w,L⟩:=q
 refine⟨φ,ρ,μ,_,E,M,w,λd1 gy gT v1 H1 k1 f1 M1 i1=>?_⟩
 cases d1 with
 |bl c=>cases(show v1=_ from i1);exact L _ gy gT _ H1 k1 f1 M1 rfl
 |_=>exact k1.elim
def dNeg (wa:De):De:=λρ μ K=>wa ρ μ λx gy=>match x with|.int i=>K (.int (-i)) gy|_=>False
def y8 {wa:De}(ha:PD X a wa):PD X (.UnaryOp .USub a pos) (dNeg wa):=(Vd Q7 ha).imp λσ H Q q=>by
 obtain⟨φ,ρ,μ,K,E,M,w,L⟩:=q
 refine⟨φ,ρ,μ,_,E,M,w,λd1 gy gT v1 H1 k1 f1 M1 i1=>?_⟩
 cases d1 with
 |int c=>cases(show v1=_ from i1);exact⟨c,rfl,L _ gy gT _ H1 k1 f1 M1 rfl⟩
 |_=>exact k1.elim
def LS (t u:Dt):Dt:=λρ μ K=>t ρ μ λc gy=>if c=true then u ρ gy K else K false gy
def LR (t u:Dt):Dt:=λρ μ K=>t ρ μ λc gy=>if c=true then K true gy else u ρ gy K
def QO (t:Dt):Dt:=λρ μ K=>t ρ μ λc gy=>K (!c) gy
abbrev II (X:Cx)(e:Expr)(w:Dt):Prop:=PT X e (xX w)
def Nl {t u:Dt}{σ:St}{H:Hp}{Q:Bool->Hp->Prop}(h:xX (LS t u) σ H Q):UU (xX t) (xX u) σ H Q:=by
 obtain⟨φ,ρ,μ,K,E,M,w,L⟩:=h
 refine⟨φ,ρ,μ,_,E,M,w,λb gy gT H1 k1 f1 M1=>?_⟩
 cases b with
 |true=>exact⟨gT,ρ,gy,_,E.mono f1,M1,k1,λb jb l8 H2 k2 f2 M2=>L b jb l8 H2 k2 (f1.trans f2) M2⟩
 |false=>exact L _ gy gT H1 k1 f1 M1
def Rf {t u:Dt}{σ:St}{H:Hp}{Q:Bool->Hp->Prop}(h:xX (LR t u) σ H Q):tOr (xX t) (xX u) σ H Q:=by
 obtain⟨φ,ρ,μ,K,E,M,w,L⟩:=h
 refine⟨φ,ρ,μ,_,E,M,w,λb gy gT H1 k1 f1 M1=>?_⟩
 cases b with
 |false=>exact⟨gT,ρ,gy,_,E.mono f1,M1,k1,λb jb l8 H2 k2 f2 M2=>L b jb l8 H2 k2 (f1.trans f2) M2⟩
 |true=>exact L _ gy gT H1 k1 f1 M1
abbrev UG (X:Cx)(e:Expr)(w:Dt):Prop:=PW X e (xX w)
def PW.imp {e:Expr}{t t':TT}(h:PW X e t)(hi:∀ σ H Q,t' σ H Q->t σ H Q):PW X e t':=λwh fJ s σ H Q I q=>h wh fJ s σ H Q I (hi σ H Q q)
def p7 {t:Dt}(h:II X a t):UG X (.BoolOp .And [a] pos) t:=pw_and1 h
def nK {t:Dt}(h:II X a t):UG X (.BoolOp .Or [a] pos) t:=pw_or1 h
def uU {rest:au Expr}{t u:Dt}(ha:II X a t)(hb:UG X (.BoolOp .And (b::rest) pos) u):UG X (.BoolOp .And (a::b::rest) pos) (LS t u):=(pw_and ha hb).imp λσ H Q q=>Nl q
def pS {rest:au Expr}{t u:Dt}(ha:II X a t)(hb:UG X (.BoolOp .Or (b::rest) pos) u):UG X (.BoolOp .Or (a::b::rest) pos) (LR t u):=(pw_or ha hb).imp λσ H Q q=>Rf q
def mG {t:Dt}(h:II X a t):II X (.UnaryOp .Not a pos) (QO t):=(RD h).imp λσ H Q q=>by
 obtain⟨φ,ρ,μ,K,E,M,w,L⟩:=q
 exact⟨φ,ρ,μ,_,E,M,w,λb gy gT H1 k1 f1 M1=>L _ gy gT H1 k1 f1 M1⟩
def dIf (t:Dt)(wa wb:De):De:=λρ μ K=>t ρ μ λc gy=>if c=true then wa ρ gy K else wb ρ gy K
def L1 {c:Expr}{t:Dt}{wa wb:De}(hc:II X c t)(ha:PD X a wa)(hb:PD X b wb):PD X (.IfExp c a b pos) (dIf t wa wb):=(Kj hc ha hb).imp λσ H Q q=>by
 obtain⟨φ,ρ,μ,K,E,M,w,L⟩:=q
 refine⟨φ,ρ,μ,_,E,M,w,λb gy gT H1 k1 f1 M1=>?_⟩
 cases b with
 |true=>exact⟨gT,ρ,gy,_,E.mono f1,M1,k1,L.mono f1⟩
 |false=>exact⟨gT,ρ,gy,_,E.mono f1,M1,k1,L.mono f1⟩
def PV {w:De}{t:TE}{σ:St}{H:Hp}{Q:Bool->Hp->Prop}(hi:∀ Q,tD w σ H Q->t σ H Q)(h:xX (pv w) σ H Q):tB t σ H Q:=by
 obtain⟨φ,ρ,μ,K,E,M,k,L⟩:=h
 refine hi _ ⟨φ,ρ,μ,_,E,M,k,λd gq gN v H' k' f M' i=>?_⟩
 cases d with
 |bl b=>cases(show v=_ from i);exact⟨b,rfl,L b gq gN H' k' f M'⟩
 |_=>exact k'.elim
def JB {j pos'}{w:De}(h:PD X a w):II X (.Compare a [.Is] [.Constant .none j pos'] pos) (pv (OY false w)):=(DT (RT h)).imp λσ H Q q=>PV (λQ q=>Rc q) q
def zK {j pos'}{w:De}(h:PD X a w):II X (.Compare a [.IsNot] [.Constant .none j pos'] pos) (pv (OY true w)):=(DT (NZ h)).imp λσ H Q q=>PV (λQ q=>Nh q) q
end
structure DN where
 nx:DE->MS->Prop
 rt:DK
 bk:DE->MS->Prop:=λ_ _=>False
 ct:DE->MS->Prop:=λ_ _=>False
abbrev Ds:=DN->DE->MS->Prop
def Q3 (φ:au ao)(H:Hp)(k:DE->MS->Prop)(q:St->Hp->Prop):Prop:=∀ kF gq gN jo H',k kF gq->Fr φ H gN H'->k8 gN H' kF jo->gE gN H' gq->q jo H'
def Q3.mono {φ gT:au ao}{H H1:Hp}{k:DE->MS->Prop}{q:St->Hp->Prop}(h:Q3 φ H k q)(f:Fr φ H gT H1):Q3 gT H1 k q:=λkF gq gN jo H' a b c d=>h kF gq gN jo H' a (f.trans b) c d
structure XY (φ:List ao)(H:Hp)(N:DN)(E:Ends):Prop where
 nx:Q3 φ H N.nx E.nx
 rt:wz φ H N.rt E.rt
 bk:Q3 φ H N.bk E.bk
 ct:Q3 φ H N.ct E.ct
def XY.mono {φ gT:au ao}{H H1:Hp}{N:DN}{E:Ends}(h:XY φ H N E)(f:Fr φ H gT H1):XY gT H1 N E:=⟨h.nx.mono f,h.rt.mono f,h.bk.mono f,h.ct.mono f⟩
def Ym (w:Ds):TS:=λE σ H=>∃ φ ρ μ N,k8 φ H ρ σ/\gE φ H μ/\w N ρ μ/\XY φ H N E
abbrev zx (X:Cx)(st:Stmt)(w:Ds):Prop:=PS X st (Ym w)
abbrev Jb (X:Cx)(st:au Stmt)(w:Ds):Prop:=A5 X st (Ym w)
section
variable {X:Cx}{a b e:Expr}{es:au Expr}{pos:Pos}{st:Stmt}{rest:au Stmt}
def dNx:Ds:=λN ρ μ=>N.nx ρ μ
def dSeq (t u:Ds):Ds:=λN ρ μ=>t { N with nx:=λkF gq=>u N kF gq} ρ μ
def dCut (t u:Ds):Ds:=λN ρ μ=>∃ M:DE->MS->Prop,t { N with nx:=M} ρ μ/\∀ kF gq,M kF gq->u N kF gq
def hV:Jb X [] dNx:=nQ.imp λE σ H uE=>by obtain⟨φ,ρ,μ,N,A,M,w,L⟩:=uE;exact L.nx ρ μ φ σ H w (.refl _ _) A M
def fO {t u:Ds}(h1:zx X st t)(h2:Jb X rest u):Jb X (st::rest) (dSeq t u):=(iU h1 h2).imp λE σ H ⟨φ,ρ,μ,N,A,M,w,L⟩ =>
 ⟨φ,ρ,μ,_,A,M,w,⟨λkF gq gN jo H' k f A' M'=>⟨gN,kF,gq,N,A',M',k,L.mono f⟩,L.rt,L.bk,L.ct⟩⟩
def zq {t u:Ds}(h1:zx X st t)(h2:Jb X rest u):Jb X (st::rest) (dCut t u):=(iU h1 h2).imp λE σ H ⟨φ,ρ,μ,N,A,M,⟨P,w1,w2⟩,L⟩ =>
 ⟨φ,ρ,μ,_,A,M,w1,⟨λkF gq gN jo H' k f A' M'=>⟨gN,kF,gq,N,A',M',w2 kF gq k,L.mono f⟩,L.rt,L.bk,L.ct⟩⟩
def fY {t:Ds}(h:zx X st t):Jb X [st] t:=lG h
def WG (w:De):Ds:=λN ρ μ=>w ρ μ λ_ gq=>N.nx ρ gq
def uq {w:De}(h:PD X e w)(hs:swapsWith e none pos.line X.env=pure false:=by rfl):zx X (.Expr e pos) (WG w):=(NO h hs).imp λE σ H r6=>by obtain⟨φ,ρ,μ,N,A,M,w,L⟩:=r6;exact⟨φ,ρ,μ,_,A,M,w,λd gy gT v1 H1 k1 f1 M1 i1=>L.nx ρ gy gT σ H1 k1 f1 (A.mono f1) M1⟩
def Wt (w:De):Ds:=λN ρ μ=>w ρ μ N.rt
def gv {w:De}(h:PD X e w):zx X (.Return (some e) pos) (Wt w):=(oi h).imp λE σ H q9=>by obtain⟨φ,ρ,μ,N,A,M,w,L⟩:=q9;exact⟨φ,ρ,μ,_,A,M,w,L.rt⟩
def TB (c:Dt)(t u:Ds):Ds:=λN ρ μ=>c ρ μ λb gy=>if b=true then t N ρ gy else u N ρ gy
def jj {c:Expr}{body orelse:au Stmt}{t:Dt}{u v:Ds}(hc:II X c t)(h1:Jb X body u)(h2:Jb X orelse v):zx X (.If c body orelse pos) (TB t u v):=(uX hc h1 h2).imp λE σ H ⟨φ,ρ,μ,N,A,M,w,L⟩ =>
 ⟨φ,ρ,μ,_,A,M,w,λb gy gT H1 k1 f1 M1=>by
  cases b with
  |true=>exact⟨gT,ρ,gy,N,A.mono f1,M1,k1,L.mono f1⟩
  |false=>exact⟨gT,ρ,gy,N,A.mono f1,M1,k1,L.mono f1⟩⟩
def L5 (i:Nat)(w:De):Ds:=λN ρ μ=>w ρ μ λd gq=>N.nx (ρ.set i (some d)) gq
def U3 {i:Nat}{x:Str}{w:De}{pos':Pos}(hN:X.N.Nodup)(hi:X.N[i]?=some x)(hx:Loc X.env.scope x)(he:PD X e w)(hf:X.fn x=true\/X.env.scope.names.lookup x=some .local:=by first | exact .inl rfl | exact .inr rfl | assumption)
 (Lh:swapsWith e (some (.Name x pos')) pos.line X.env=pure false:=by rfl):zx X (.Assign [.Name x pos'] e pos) (L5 i w):=(uw (pos:=pos) (pos':=pos') hN hi hx he Lh hf).imp λE σ H ⟨φ,ρ,μ,N,A,M,w,L⟩=>
 ⟨φ,ρ,μ,_,A,M,w,λd gy gT v1 H1 k1 f1 M1 i1=>L.nx _ gy gT _ H1 k1 f1 ((A.mono f1).set i1 i) M1⟩
abbrev DG:=D->DE->MS->(DE->MS->Prop)->Prop
abbrev TZ:=au D->DE->MS->(DE->MS->Prop)->Prop
def Mv (g:TG)(w:DG)(S:au Nat):Prop:=∀ φ H ρ σ μ d v K,k8 φ H ρ σ->gE φ H μ->jE φ H d v->w d ρ μ K->g v σ H λoz H2=>H2=H/\oz.length=σ.length/\(∀ i,i∉S->oz[i]?=σ[i]?)/\∃ ou,k8 φ H ou oz/\K ou μ
def Pl (g:zw)(w:TZ)(S:au Nat):Prop:=∀ φ H ρ σ μ ds vs K,k8 φ H ρ σ->gE φ H μ->gh φ H ds vs->w ds ρ μ K->g vs σ H λoz H2=>H2=H/\oz.length=σ.length/\(∀ i,i∉S->oz[i]?=σ[i]?)/\∃ ou,k8 φ H ou oz/\K ou μ
def pP (g:TG):Prop:=∀ v σ H Q Q',(∀ jo H',Q jo H'->Q' jo H')->g v σ H Q->g v σ H Q'
def xO (g:zw):Prop:=∀ v σ H Q Q',(∀ jo H',Q jo H'->Q' jo H')->g v σ H Q->g v σ H Q'
def AL (i:Nat):DG:=λd ρ μ K=>K (ρ.set i (some d)) μ
def Wi (n:Nat)(t:TZ):DG:=λd ρ μ K=>match d with|.tup ds=>ds.length=n/\t ds ρ μ K|_=>False
def Tn (t:DG)(u:TZ):TZ:=λds ρ μ K=>match ds with|d::r=>t d ρ μ λkF gq=>u r kF gq K|[]=>False
def Wj:TZ:=λds ρ μ K=>match ds with|[]=>K ρ μ|_=>False
def gb (i:Nat):Mv (tq i) (AL i) [i]:=λφ H ρ σ μ d v K E M h w=>⟨rfl,cg,λj hj=>bo (λz=>hj (by simp[z])),_,E.set h i,w⟩
def fL (i:Nat):pP (tq i):=λv σ H Q Q' h q=>h _ _ q
def iP:Pl O9 Wj []:=λφ H ρ σ μ ds vs K E M h w=>by
 cases ds with
 |nil=>cases(show vs=[]from h);exact⟨rfl,rfl,λ_ _=>rfl,ρ,E,w⟩
 |cons d r=>exact w.elim
def fW:xO O9:=λv σ H Q Q' h q=>by
 cases v with
 |nil=>exact h _ _ q
 |cons x r=>exact q
def fP {g:TG}{u:zw}(h1:pP g)(h2:xO u):xO (GP g u):=λv σ H Q Q' h q=>by
 cases v with
 |nil=>exact q
 |cons x r=>exact h1 _ _ _ _ _ (λjo H' q'=>h2 _ _ _ _ _ h q') q
def iz {n:Nat}{u:zw}(h2:xO u):pP (O8 n u):=λv σ H Q Q' h q=>by
 cases v with
 |ref a=>obtain⟨xs,e,l,q⟩:=q;exact⟨xs,e,l,h2 _ _ _ _ _ h q⟩
 |_=>exact q
def gc {g:TG}{u:zw}{w:DG}{y:TZ}{S T:au Nat}(h1:Mv g w S)(m1:pP g)(h2:Pl u y T)(m2:xO u):Pl (GP g u) (Tn w y) (S++T):=λφ H ρ σ μ ds vs K E M h k=>by
 cases ds with
 |nil=>exact k.elim
 | cons d r =>
  obtain⟨v,vr,rfl,hd,hr⟩:=h
  refine m1 _ _ _ _ _ (λPw H1 qo=>?_) (h1 φ H ρ σ μ d v _ E M hd k)
  obtain⟨e1,l1,n1,ρ1,E1,k1⟩:=qo
  subst e1
  refine m2 _ _ _ _ _ (λoz H2 qm=>?_) (h2 φ H1 ρ1 Pw μ r vr K E1 M hr k1)
  obtain⟨e2,l2,n2,ou,E2,k2⟩:=qm
  refine⟨e2,l2.trans l1,λi hi=>?_,ou,E2,k2⟩
  rw[n2 i (λz=>hi (aU _ z)),n1 i (λz=>hi (dM _ z))]
def iO {n:Nat}{u:zw}{y:TZ}{S:au Nat}(h2:Pl u y S):Mv (O8 n u) (Wi n y) S:=λφ H ρ σ μ d v K E M h k=>by
 cases d with
 | tup ds =>
  obtain⟨p,vs,rfl,hn,hp,ha⟩:=h
  exact⟨vs,hp,by rw[ha.len];exact k.1,h2 φ H ρ σ μ ds vs K E M ha k.2⟩
 |_=>exact k.elim
structure Tg (X:Cx)(tg:Expr)(g:TG)(w:DG)(S:List Nat):Prop where
 pg:PG X tg g
 so:Mv g w S
 mo:pP g
def dAsg (w:De)(g:DG):Ds:=λN ρ μ=>w ρ μ λd gy=>g d ρ gy N.nx
def Fm {tg:Expr}{w:De}{g:TG}{y:DG}{S:au Nat}(he:PD X e w)(hg:Tg X tg g y S)(hs:swapsWithSole [tg] e pos.line X.env=pure false:=by rfl)(hw:swappedStores [tg] e X.env=pure none:=by rfl)
 (h1:(assignEach [tg] X.env).map (·.2)=[assign tg X.env]:=by rfl):zx X (.Assign [tg] e pos) (dAsg w y):=(ux he hg.pg hs hw h1).imp λE σ H ⟨φ,ρ,μ,N,A,M,w,L⟩=>
 ⟨φ,ρ,μ,_,A,M,w,λd gy gT v1 H1 k1 f1 M1 i1=>hg.mo _ _ _ _ _ (λoz H2 ⟨e2,_,_,ou,E2,k2⟩=>by subst e2;exact L.nx ou gy gT oz _ k2 f1 E2 M1) (hg.so gT H1 ρ σ gy d v1 _ (A.mono f1) M1 i1 k1)⟩
def WV (t:EJ)(w:D->D->D->MS->(MS->Prop)->Prop):Prop:=∀ φ H o i v dO di d μ K Q,gE φ H μ->jE φ H dO o->jE φ H di i->jE φ H d v->w dO di d μ K->(∀ gq H',K gq->Fr φ H φ H'->gE φ H' gq->Q H')->t o i v H Q
def LU:D->D->D->MS->(MS->Prop)->Prop:=λo i d μ K=>match o,i with
 |.mr k,.int j=>opt (mH μ k) λds=>opt (FQ ds.length j) λn=>K (μ.set k (.lst (ds.set n d)))
 |_,_=>False
def Rk:WV JX LU:=λφ H o i v dO di d μ K Q M hO hi hd w q=>by
 unfold LU at w
 split at w
 .rename_i k j
  obtain⟨ds,em,w⟩:=iw w
  have em:=jA em
  obtain⟨p,hp,rfl⟩:=hO
  cases(show i=_ from hi)
  obtain⟨p',e1,vs,hv,ha⟩:=M.at_ k _ em
  rw[hp]at e1;cases e1
  obtain⟨n,en,w⟩:=iw w
  refine⟨vs,hv,fN (v:=n) (by rw[ha.len];exact en) ?_⟩
  have f:Fr φ H φ (upd H p (.lst (vs.set n v))):=.put (kA hp)
  exact q _ _ w f (M.put hp ⟨_,gp,(ha.set hd n).mono f⟩)
 .exact w.elim
def WK (w wo wi:De):Ds:=λN ρ μ=>w ρ μ λd gy=>wo ρ gy λo jb=>wi ρ jb λi uS=>LU o i d uS λMF=>N.nx ρ MF
def Rw {o i:Expr}{w wo wi:De}{pos':Pos}(he:PD X e w)(ho:PD X o wo)(hi:PD X i wi)
 (ha:∀ v,assign (.Subscript o i pos') X.env v=(do
   let ov <- holding [v] (eval o X.env)
   let iv <- holding [v,ov] (eval i X.env)
   standAt pos'
   holding [v,ov,iv] (setItem ov iv v)
   release [v,ov,iv] []):=by intro _;rfl) (hs:swapsWithSole [.Subscript o i pos'] e pos.line X.env=pure false:=by rfl) (hw:swappedStores [.Subscript o i pos'] e X.env=pure none:=by rfl)
 (h1:(assignEach [.Subscript o i pos'] X.env).map (·.2)=[assign (.Subscript o i pos') X.env]:=by rfl):zx X (.Assign [.Subscript o i pos'] e pos) (WK w wo wi):=(ux he (wV ho hi setC ha) hs hw h1).imp λE σ H hq=>by
 obtain⟨φ,ρ,μ,N,A,M,w,L⟩:=hq
 refine⟨φ,ρ,μ,_,A,M,w,λd gy gT v1 H1 k1 f1 M1 i1=>?_⟩
 refine⟨gT,ρ,gy,_,A.mono f1,M1,k1,λd2 jb l8 v2 H2 k2 f2 M2 i2=>?_⟩
 refine⟨l8,ρ,jb,_,A.mono (f1.trans f2),M2,k2,λd3 uS Ha v3 H3 k3 f3 M3 i3=>?_⟩
 exact Rk Ha H3 _ _ _ d2 d3 d uS _ _ M3 (i2.mono f3) i3 (i1.mono (f2.trans f3)) k3 λgq H' k4 f4 M4=>L.nx ρ gq Ha σ H' k4 ((f1.trans (f2.trans f3)).trans f4) (A.mono ((f1.trans (f2.trans f3)).trans f4)) M4
def WW (t:Pk)(ro:xP):Prop:=∀ φ H x y dx dy μ K Q,gE φ H μ->jE φ H dx x->jE φ H dy y->ro dx dy μ K->wz φ H K Q->t x y H Q
def WI (i:Nat)(w:De)(ro:xP):Ds:=λN ρ μ=>match ρ[i]? with|some (some x)=>w ρ μ λy gy=>ro x y gy λz jb=>N.nx (ρ.set i (some z)) jb|_=>False
def BQ {i:Nat}{x:Str}{w:De}{op:Operator}{ti:Pk}{ro:xP}{pos':Pos}(hN:X.N.Nodup)(hi:X.N[i]?=some x)(hx:Loc X.env.scope x)(he:PD X e w)(ho:TX X op ti)(so:WW ti ro)(hf:X.fn x=true\/X.env.scope.names.lookup x=some .local:=by first | exact .inl rfl | exact .inr rfl | assumption):
 zx X (.AugAssign (.Name x pos') op e pos) (WI i w ro):=(RH (pos:=pos) (pos':=pos') hN hi hx he ho hf).imp λE σ H hq=>by
 obtain⟨φ,ρ,μ,N,A,M,w,L⟩:=hq
 unfold WI at w
 split at w
 .rename_i d hd
  obtain⟨v,hv,Zz⟩:=A.2 i d hd
  refine⟨v,hv,φ,ρ,μ,_,A,M,w,λd1 gy gT v1 H1 k1 f1 M1 i1=>?_⟩
  exact so gT H1 _ _ d d1 gy _ _ M1 (Zz.mono f1) i1 k1 λd2 jb l8 v2 H2 k2 f2 M2 i2=>L.nx _ jb l8 _ H2 k2 (f1.trans f2) ((A.mono (f1.trans f2)).set i2 i) M2
 .exact w.elim
def Tu (c:Dt)(b:Ds):Ds:=λN ρ μ=>∃ W:Nat->DE->MS->Prop,(∃ m,W m ρ μ)/\∀ m ρ μ,W m ρ μ ->
 c ρ μ λt gy=>if t=true then b { N with nx:=λkF gq=>∃ m',m'<m/\W m' kF gq,ct:=λkF gq=>∃ m',m'<m/\W m' kF gq,bk:=N.nx} ρ gy else N.nx ρ gy
def zV {c:Expr}{body:au Stmt}{t:Dt}{u:Ds}(hp:PassesOwn (model X.prog X.w) X.A X.env X.xe)(hc:II X c t)(hb:Jb X body u):zx X (.While c body [] pos) (Tu t u):=(J8 hp hc hb).imp λE σ H ⟨φ,ρ,μ,N,A,M,⟨W,⟨m0,w0⟩,turn⟩,L⟩=>by
 refine⟨λm jo H'=>∃ gN kF gq,Fr φ H gN H'/\k8 gN H' kF jo/\gE gN H' gq/\W m kF gq,⟨m0,φ,ρ,μ,.refl _ _,A,M,w0⟩,?_⟩
 rintro m jo H' ⟨gN,kF,gq,f',A',M',w'⟩
 refine⟨gN,kF,gq,_,A',M',turn m kF gq w',λb gy gT H1 k1 f1 M1=>?_⟩
 cases b with
 | true =>
  refine⟨λoz H2=>∃ m',m'<m/\∃ l8 ou jb,Fr φ H l8 H2/\k8 l8 H2 ou oz/\gE l8 H2 jb/\W m' ou jb,λoz H2 q=>q,gT,kF,gy,_,A'.mono f1,M1,k1,?_⟩
  have nx:Q3 gT H1 (λkF gq=>∃ m',m'<m/\W m' kF gq) λoz H2=>∃ m',m'<m/\∃ l8 ou jb,Fr φ H l8 H2/\k8 l8 H2 ou oz/\gE l8 H2 jb/\W m' ou jb:=λou jb l8 oz H2 ⟨m',hm,w2⟩ f2 A2 M2=>⟨m',hm,l8,ou,jb,(f'.trans f1).trans f2,A2,M2,w2⟩
  exact⟨nx,L.rt.mono (f'.trans f1),L.nx.mono (f'.trans f1),nx⟩
 |false=>exact L.nx kF gy gT jo H1 k1 (f'.trans f1) (A'.mono f1) M1
def Wk (J:It)(φ:au ao)(H:Hp)(ds:au D)(c:MS->Prop):Prop:=∀ gN H' gq,Fr φ H gN H'->gE gN H' gq->c gq->∀ i,
 (∀ d,ds[i]?=some d->J.go i H'/\∀ x Po,J.Jm i H' x Po->Fr gN H' gN Po/\gE gN Po gq/\jE gN Po d x)/\(i=ds.length->J.stop i H')
abbrev DI:=DE->MS->(au D->(MS->Prop)->MS->Prop)->Prop
def Yn (w:DI):TI:=λσ H R=>∃ φ ρ μ K,k8 φ H ρ σ/\gE φ H μ/\w ρ μ K/\∀ ds c gq gN J H',K ds c gq->Fr φ H gN H'->gE gN H' gq->Wk J gN H' ds c->R J H'
abbrev G4 (X:Cx)(tg iter:Expr)(w:DI):Prop:=PI X tg iter (Yn w)
def PI.imp {tg iter:Expr}{t t':TI}(h:PI X tg iter t)(hi:∀ σ H Q,t' σ H Q->t σ H Q):PI X tg iter t':=λfJ s σ H Q I q=>h fJ s σ H Q I (hi σ H Q q)
def Ay (g:DG)(b:Ds)(N:DN)(c:MS->Prop):au D->DE->MS->Prop
 |[],ρ,μ=>c μ/\N.nx ρ μ
 |d::ds,ρ,μ=>c μ/\g d ρ μ λou jb=>b { N with nx:=λkF gq=>Ay g b N c ds kF gq,ct:=λkF gq=>Ay g b N c ds kF gq,bk:=N.nx} ou jb
def dFor (wi:DI)(g:DG)(b:Ds):Ds:=λN ρ μ=>wi ρ μ λds c gy=>Ay g b N c ds ρ gy
def lO {tg iter:Expr}{body:au Stmt}{wi:DI}{g:TG}{y:DG}{S:au Nat}{u:Ds}(hp:PassesOwn (model X.prog X.w) X.A X.env X.xe)(hc:X.gY=true)(hi:G4 X tg iter wi)(hg:Tg X tg g y S)(hb:Jb X body u)
 (hs:∀ x,foldedSetIterable iter X.env x=pure x:=by intro _;rfl):zx X (.For tg iter body [] pos) (dFor wi y u):=(RE hp hc hi hg.pg hb hs).imp λE σ H hq=>by
 obtain⟨φ,ρ,μ,N,A,M,w,L⟩:=hq
 refine⟨φ,ρ,μ,_,A,M,w,λds c gy gT J H1 k1 f1 M1 wk=>?_⟩
 refine⟨λi m jo H'=>m=ds.length - i/\i<=ds.length/\∃ gN kF gq,Fr gT H1 gN H'/\k8 gN H' kF jo/\gE gN H' gq/\Ay y u N c (ds.drop i) kF gq,⟨ds.length,rfl,bh _,gT,ρ,gy,.refl _ _,A.mono f1,M1,k1⟩,?_⟩
 rintro i m jo H' ⟨rfl,hi,gN,kF,gq,f',A',M',w'⟩
 by_cases mK:i<ds.length
 .rw[bU mK]at w'
  obtain⟨c',w'⟩:=w'
  obtain⟨go,Jm⟩:=(wk gN H' gq f' M' c' i).1 ds[i] (iM mK)
  refine .inr ⟨go,λoz H2=>∃ l8 ou jb,Fr gT H1 l8 H2/\k8 l8 H2 ou oz/\gE l8 H2 jb/\Ay y u N c (ds.drop (i+1)) ou jb,λoz H2 q=>⟨ds.length - (i+1),by lia,rfl,mK,q⟩,λx H2 hy=>?_⟩
  obtain⟨f2,M2,i2⟩:=Jm x H2 hy
  refine hg.mo _ _ _ _ _ (λEX H3 q9=>?_) (hg.so gN H2 kF jo gq _ x _ (A'.mono f2) M2 i2 w')
  obtain⟨e3,_,_,Px,E3,k3⟩:=q9
  subst e3
  refine⟨gN,Px,gq,_,E3,M2,k3,?_⟩
  have nx:Q3 gN H3 (λkF gq=>Ay y u N c (ds.drop (i+1)) kF gq) λoz H2=>∃ l8 ou jb,Fr gT H1 l8 H2/\k8 l8 H2 ou oz/\gE l8 H2 jb/\Ay y u N c (ds.drop (i+1)) ou jb:=λou jb l8 oz H2 w2 g2 A2 N2=>⟨l8,ou,jb,(f'.trans f2).trans g2,A2,N2,w2⟩
  have ff:=f1.trans (f'.trans f2)
  exact⟨nx,L.rt.mono ff,L.nx.mono ff,nx⟩
 .have e:i=ds.length:=by lia
  subst e
  rw[List.drop_length]at w'
  exact .inl ⟨(wk gN H' gq f' M' w'.1 _).2 rfl,L.nx kF gq gN jo H' w'.2 (f1.trans f') A' M'⟩
end
def oR (js:au (av Nat))(ρ:DE):DE:=js.map λo=>o.bind λj=>(ρ[j]?).join
def k8.ip {φ:au ao}{H:Hp}{ρ:DE}{σ:St}(h:k8 φ H ρ σ)(js:au (av Nat)):k8 φ H (oR js ρ) (ip js σ):=by
 refine⟨by unfold oR L2.ip;rw[ia,ia],λi d e=>?_⟩
 unfold oR at e
 rw[nF]at e
 unfold L2.ip
 rw[nF]
 cases q:js[i]? with
 |none=>rw[q]at e;cases e
 | some o =>
  rw[q]at e
  cases o with
  |none=>cases e
  | some j =>
   have e':(ρ[j]?).join=some d:=aK e
   have e2:ρ[j]?=some (some d):=by
    cases z:ρ[j]? with
    |none=>rw[z]at e';cases e'
    |some y=>rw[z]at e';have:y=some d:=e';rw[this]
   obtain⟨v,hv,hd⟩:=h.2 j d e2
   refine⟨v,?_,hd⟩
   show some ((σ[j]?).join)=_
   rw[hv];rfl
def QV (ρ:DE)(y:DG)(t:Dt)(w:De)(d:D)(μ:MS)(K:av D->MS->Prop):Prop:=y d ρ μ λou jb=>t ou jb λb uS=>if b=true then w ou uS (λz MF=>K (some z) MF)else K none uS
def rG (it:D->MS->(av D->MS->Prop)->Prop)(c:MS->Prop):au D->MS->(au D->MS->Prop)->Prop
 |[],μ,K=>c μ/\K [] μ
 |d::ds,μ,K=>c μ/\it d μ λo gy=>rG it c ds gy λys jb=>K (o.toList++ys) jb
def rB (S:au Nat)(js:au (av Nat)):Bool:=S.all λi=>js[i]?==some none
def LG {js:au (av Nat)}{σ oz:St}{S:au Nat}(ho:rB S js=true)(hl:oz.length=(ip js σ).length)(hn:∀ i,i∉S->oz[i]?=(ip js σ)[i]?):Ext (ip js σ) oz:=by
 refine⟨hl.symm,λi v e=>?_⟩
 by_cases hi:i∈S
 .have q:=List.all_eq_true.mp ho i hi
  have q':js[i]?=some none:=by simpa using q
  obtain⟨j,e1,_⟩:=xn e
  rw[q']at e1;cases e1
 .rw[hn i hi];exact e
def xD (m:Bool)(wi:DI)(js:au (av Nat))(y:DG)(t:Dt)(w:De):De:=λρ μ K=>wi ρ μ λds c gy=>ds.length<=sizeLine/\rG (QV (oR js ρ) y t w) c ds gy λys jb=>nL m ys jb K
def E8 {m:Bool}{wi:DI}{js:au (av Nat)}{g:TG}{y:DG}{S:au Nat}{t:Dt}{w:De}(so:Mv g y S)(mo:pP g)(ho:rB S js=true){σ:St}{H:Hp}{Q:VK}(h:tD (xD m wi js y t w) σ H Q):JE (Yn wi) js g (xX t) (tD w) σ H Q:=by
 obtain⟨φ,ρ,μ,K,A,M,k,L⟩:=h
 refine⟨φ,ρ,μ,_,A,M,k,λds c gy gT J H1 k1 f1 M1 wk=>?_⟩
 obtain⟨hz,k1⟩:=k1
 refine⟨λi n ys H'=>n=ds.length - i/\i<=ds.length/\ys.length<=i/\∃ gN zs gq,Fr gT H1 gN H'/\gh gN H' zs ys/\gE gN H' gq/\rG (QV (oR js ρ) y t w) c (ds.drop i) gq λr jb=>nL m (zs++r) jb K,
  ⟨ds.length,rfl,bh _,bh _,gT,[],gy,.refl _ _,rfl,M1,k1⟩,?_⟩
 rintro i n ys H' ⟨rfl,hi,hy,gN,zs,gq,f',Z',M',w'⟩
 by_cases mK:i<ds.length
 .rw[bU mK]at w'
  obtain⟨c',w'⟩:=w'
  obtain⟨go,Jm⟩:=(wk gN H' gq f' M' c' i).1 ds[i] (iM mK)
  refine .inr ⟨go,λx H2 HZ=>?_⟩
  obtain⟨f2,M2,i2⟩:=Jm x H2 HZ
  have E2:k8 gN H2 (oR js ρ) (ip js σ):=((A.mono (f1.trans (f'.trans f2))).ip js)
  refine mo _ _ _ _ _ (λEX H3 qo=>?_) (so gN H2 _ _ gq _ x _ E2 M2 i2 w')
  obtain⟨e3,l3,n3,Px,E3,k3⟩:=qo
  refine⟨LG ho l3 n3,?_⟩
  subst e3
  refine⟨gN,Px,gq,_,E3,M2,k3,λb MF UH H4 k4 f4 M4=>?_⟩
  have ff:=f'.trans (f2.trans f4)
  cases b with
  | true =>
   refine⟨UH,Px,MF,_,E3.mono f4,M4,k4,λd5 UJ X4 v5 H5 k5 f5 M5 i5=>⟨by lia,ds.length - (i+1),by lia,rfl,mK,by rw[l5,bJ];lia,X4,zs++[d5],UJ,ff.trans f5,(Z'.mono (f2.trans (f4.trans f5))).app ⟨v5,[],rfl,i5,rfl⟩,M5,?_⟩⟩
   have e:(λr jb=>nL m (zs++[d5]++r) jb K)=λr jb=>nL m (zs++((some d5).toList++r)) jb K:=by funext r jb;rw[bp];rfl
   rw[e]
   exact k5
  | false =>
   exact⟨ds.length - (i+1),by lia,rfl,mK,by lia,UH,zs,MF,ff,Z'.mono (f2.trans f4),M4,k4⟩
 .have e:i=ds.length:=by lia
  subst e
  rw[List.drop_length]at w'
  refine .inl ⟨(wk gN H' gq f' M' w'.1 _).2 rfl,λp hp=>?_⟩
  have q:nL m (zs++[]) gq K:=w'.2
  rw[bZ]at q
  exact Mr (L.mono (f1.trans f')) M' Z' q hp
section
variable {X:Cx}{a b e:Expr}{es:au Expr}{pos:Pos}
variable {N:au Str}{js:au (av Nat)}{sc:Scope}{tg elt iter:Expr}{ifs:au Expr}{g:TG}{y:DG}{S:au Nat}{t:Dt}{w:De}
abbrev A6 (X:Cx)(ifs:au Expr)(t:Dt):Prop:=Mw X ifs (xX t)
def Mw.imp {ifs:au Expr}{t t':TT}(h:Mw X ifs t)(hi:∀ σ H Q,t' σ H Q->t σ H Q):Mw X ifs t':=λfJ s σ H Q I q=>h fJ s σ H Q I (hi σ H Q q)
def dYes:Dt:=λ_ μ K=>K true μ
def iI:A6 X [] dYes:=Fu.imp λσ H Q qm=>by obtain⟨φ,ρ,μ,K,A,M,k,L⟩:=qm;exact L true μ φ H k (.refl _ _) M
def wC {c:Expr}(h:II X c t):A6 X [c] t:=NM h
def Ts (m:Bool){wi:DI}(hc:kc X N js sc)(gY:X.gY=true)(so:Mv g y S)(mo:pP g)(ho:rB S js=true)(hi:G4 X tg iter wi)(hg:∀ fp s H,PG (oy X N sc fp s H) tg g)(ht:∀ fp s H,A6 (oy X N sc fp s H) ifs t)(he:∀ fp s H,PD (oy X N sc fp s H) elt w)
 (hs:∀ x,foldedSetIterable iter X.env x=pure x:=by intro _;rfl):PD X (.ListComp elt [⟨tg,iter,ifs,0⟩] sc pos) (xD m wi js y t w):=(Fy hc gY hi hg ht he hs).imp λσ H Q q=>E8 so mo ho q
def Hq (m:Bool){wi:DI}{pos' wH:Pos}{i:Nat}{x:Str}(hc:kc X N js sc)(gY:X.gY=true)(so:Mv g y S)(mo:pP g)(ho:rB S js=true)(hN:X.N.Nodup)(Bo:X.N[i]?=some x)(hx:Loc X.env.scope x)(hi:G4 X tg iter wi)(hg:∀ fp s H,PG (oy X N sc fp s H) tg g)
 (ht:∀ fp s H,A6 (oy X N sc fp s H) ifs t) (he:∀ fp s H,PD (oy X N sc fp s H) elt w) (Lh:swapsWith (.ListComp elt [⟨tg,iter,ifs,0⟩] sc pos) (some (.Name x pos')) wH.line X.env=pure true:=by rfl)
 (hs:∀ x,foldedSetIterable iter X.env x=pure x:=by intro _;rfl) (hf:X.fn x=true\/X.env.scope.names.lookup x=some .local:=by first|exact .inl rfl|exact .inr rfl|assumption):
 zx X (.Assign [.Name x pos'] (.ListComp elt [⟨tg,iter,ifs,0⟩] sc pos) wH) (L5 i (xD m wi js y t w)):=(DU hc gY hN Bo hx hi hg ht he Lh hs hf).imp λE σ H ⟨φ,ρ,μ,N,A,M,w,L⟩=>
 E8 so mo ho ⟨φ,ρ,μ,_,A,M,w,λd gy gT v1 H1 k1 f1 M1 i1=>L.nx _ gy gT _ H1 k1 f1 ((A.mono f1).set i1 i) M1⟩
def dItL (w:De):DI:=λρ μ K=>w ρ μ λd gy=>opt (lv gy d) λds=>K ds (lc d ds) gy
def M7 {Kf:aa}{p:ao}{φ:au ao}{H:Hp}{ds:au D}{c:MS->Prop}(h:∀ gN H' gq,Fr φ H gN H'->gE gN H' gq->c gq->∃ vs,H' p=some (.lst vs)/\gh gN H' ds vs):Wk (Itl Kf p) φ H ds c:=λgN H' gq f M c' i=>by
 obtain⟨vs,hp,ha⟩:=h gN H' gq f M c'
 refine⟨λd hd=>?_,λhi=>⟨vs,qz.of hp,by rw[ha.len,hi];exact aw _⟩⟩
 obtain⟨v,hv,hi⟩:=ha.get hd
 refine⟨⟨vs,v,qz.of hp,hv⟩,λx Po hy=>?_⟩
 obtain⟨rfl,hy⟩:=hy
 have e:=hy vs (qz.of hp)
 rw[hv]at e;cases e
 exact⟨.refl _ _,M,hi⟩
def jN {w:De}(h:PD X a w):G4 X tg a (dItL w):=(NU h).imp λσ H Q hq=>by
 obtain⟨φ,ρ,μ,K,A,M,k,L⟩:=hq
 refine⟨φ,ρ,μ,_,A,M,k,λd gy gT v1 H1 k1 f1 M1 i1=>?_⟩
 obtain⟨ds,el,k1⟩:=iw k1
 obtain⟨p,vs,rfl,hp,ha⟩:=kJ M1 i1 el
 exact⟨p,rfl,⟨vs,qz.of hp⟩,L ds _ gy gT _ H1 k1 f1 M1 (M7 λgN H' gq f M c=>qK M1 i1 el f M c)⟩
def kz (lo:Int)(n:Nat):au D:=(List.range n).map λi=>D.int (lo+(i:Nat))
def BC {lo:Int}{n:Nat}{φ:au ao}{H:Hp}:Wk (W4 lo n) φ H (kz lo n) λ_=>True:=λgN H' gq f M _ i=>by
 have hl:(kz lo n).length=n:=by unfold kz;rw[ia,pW]
 refine⟨λd hd=>?_,λhi=>by rw[hl]at hi;exact Nat.le_of_eq hi.symm⟩
 have hi:i<n:=by have:=(ka hd).1;lia
 refine⟨hi,λx Po hy=>?_⟩
 obtain⟨rfl,rfl⟩:=hy
 refine⟨.refl _ _,M,?_⟩
 unfold kz at hd
 rw[nF,ba hi]at hd
 cases hd
 rfl
def WC (w:DA):DI:=λρ μ K=>w ρ μ λds gy=>match ds with
 |[.int j]=> -(2 ^ 62)<=j/\j<2 ^ 62/\K (kz 0 j.toNat) (λ_=>True) gy
 |_=>False
def WB (w:DA):DI:=λρ μ K=>w ρ μ λds gy=>match ds with
 |[.int i,.int j]=>(-(2 ^ 62)<=i/\i<2 ^ 62 /\ -(2 ^ 62)<=j/\j<2 ^ 62)/\K (kz i (j - i).toNat) (λ_=>True) gy
 |_=>False
def iE {w:DA}{p:Pos}(hg:Gl X "range")(hm:X.mg "range"=none)(ha:wy X [a] w)(hs:starEach [a] X.env=[(false,eval a X.env)]:=by rfl):G4 X tg (.Call (.Name "range" p) [a] [] pos) (WC w):=(Hx hg hm ha hs).imp λσ H Q hq=>by
 obtain⟨φ,ρ,μ,K,A,M,k,L⟩:=hq
 refine⟨φ,ρ,μ,_,A,M,k,λds gy gT vs H1 k1 f1 M1 i1=>?_⟩
 split at k1
 .obtain⟨v,r,rfl,h1,h2⟩:=i1
  cases(show v=_ from h1);cases(show r=[]from h2)
  exact⟨_,rfl,k1.1,k1.2.1,L _ _ gy gT _ H1 k1.2.2 f1 M1 BC⟩
 .exact k1.elim
def sX {w:DA}{p:Pos}(hg:Gl X "range")(hm:X.mg "range"=none)(ha:wy X [a,b] w)(hs:starEach [a,b] X.env=[(false,eval a X.env),(false,eval b X.env)]:=by rfl)(sY:starEach [b] X.env=[(false,eval b X.env)]:=by rfl):G4 X tg (.Call (.Name "range" p) [a,b] [] pos) (WB w):=(Hw hg hm ha hs sY).imp λσ H Q hq=>by
 obtain⟨φ,ρ,μ,K,A,M,k,L⟩:=hq
 refine⟨φ,ρ,μ,_,A,M,k,λds gy gT vs H1 k1 f1 M1 i1=>?_⟩
 split at k1
 .obtain⟨v,r,rfl,h1,u,r',rfl,h2,h3⟩:=i1
  cases(show v=_ from h1);cases(show u=_ from h2);cases(show r'=[]from h3)
  exact⟨_,_,rfl,k1.1,L _ _ gy gT _ H1 k1.2 f1 M1 BC⟩
 .exact k1.elim
end
mutual
def FK (n:Nat):D->Prop
 |.lst ds=>tX n ds
 |.tup ds=>tX n ds
 |.jX _ ds=>tX n ds
 |.mr k=>k<n
 |.obj _ _ ds=>tX n ds
 |.t9 _ ds=>tX n ds
 |_=>True
def tX (n:Nat):List D->Prop
 |[]=>True
 |d::ds=>FK n d/\tX n ds
end
def Aj (n:Nat):MO->Prop
 |.box=>True
 |.lst ds=>tX n ds
 |.jX _ ds=>tX n ds
 |.xq _ _ ds=>tX n ds
 |.ins _ _ ds=>tX n ds
 |.nB _ ds=>tX n ds
 |.gx lq _=>lq.length<=n
 |.exc _=>True
def Fr.PL {lq φ:au ao}{H0 H:Hp}{n:Nat}(f:Fr lq H0 φ H)(h:lq.length<=n):Fr lq H0 (φ.take n) H:=by
 obtain⟨⟨ψ,rfl,HY⟩,k,d⟩:=f
 exact⟨⟨ψ.take (n - lq.length),by rw[List.take_append,b9 h],λc hc=>HY c (bj hc)⟩,k,d⟩
def Fr.YT {lq φ:au ao}{H0 H:Hp}{j:Nat}{p:ao}(f:Fr lq H0 φ H)(h:lq.length<=j)(hp:φ[j]?=some p):H0 p=none:=by
 obtain⟨⟨ψ,rfl,HY⟩,k,d⟩:=f
 rw[rF h]at hp
 exact HY p (kA hp)
def Fr.UN {lq φ:au ao}{H0 H:Hp}{n:Nat}{p:ao}(f:Fr lq H0 φ H)(h:lq.length<=n)(hp:H0 p=none):Fr lq H0 (φ.take n++[p]) H:=by
 obtain⟨⟨ψ,e,HY⟩,k,d⟩:=f.PL h
 exact⟨⟨ψ++[p],by rw[e,bp],λc hc=>by rcases List.mem_append.mp hc with z|z;exact HY c z;rw[List.mem_singleton.mp z];exact hp⟩,k,d⟩
mutual
def jE.kC {n:Nat}{φ:List ao}{H:Hp}:∀ {d:D} {v:V},FK n d->jE φ H d v->jE (φ.take n) H d v
 |.ic,_,_,h=>h
 |.bl _,_,_,h=>h
 |.int _,_,_,h=>h
 |.str _,_,_,h=>h
 |.lst _,_,m,h=>by obtain⟨p,vs,e,nn,hp,q⟩:=h;exact⟨p,vs,e,λz=>nn (bj z),hp,gh.kC m q⟩
 |.tup _,_,m,h=>by obtain⟨p,vs,e,nn,hp,q⟩:=h;exact⟨p,vs,e,λz=>nn (bj z),hp,gh.kC m q⟩
 |.jX _ _,_,m,h=>by obtain⟨p,fX,vs,e,nn,hp,q1,q2,q⟩:=h;exact⟨p,fX,vs,e,λz=>nn (bj z),hp,q1,q2,gh.kC m q⟩
 |.mr k,_,m,h=>by obtain⟨p,e,q⟩:=h;exact⟨p,by rw[bM m];exact e,q⟩
 |.obj _ _ _,_,m,h=>by obtain⟨p,dx,fs,vs,e,nn,hp,q1,q2,q⟩:=h;exact⟨p,dx,fs,vs,e,λz=>nn (bj z),hp,q1,q2,gh.kC m q⟩
 |.t9 _ _,_,m,h=>by obtain⟨p,dx,fs,vs,e,nn,hp,q1,q2,q⟩:=h;exact⟨p,dx,fs,vs,e,λz=>nn (bj z),hp,q1,q2,gh.kC m q⟩
 |.fn _,_,_,h=>h
def gh.kC {n:Nat}{φ:List ao}{H:Hp}:∀ {ds:List D} {vs:List V},tX n ds->gh φ H ds vs->gh (φ.take n) H ds vs
 |[],_,_,h=>h
 |_::_,_,m,h=>by obtain⟨v,r,e,h1,h2⟩:=h;exact⟨v,r,e,jE.kC m.1 h1,gh.kC m.2 h2⟩
end
def gE.kC {n:Nat}{φ:au ao}{H:Hp}{μ:MS}(h:gE φ H μ)(hm:∀(k:Nat) (m:MO),k<n->μ[k]?=some m->Aj n m):gE (φ.take n) H (μ.take n):=by
 refine⟨h.nd.sublist (List.take_sublist _ _),by rw[bz,bz,h.len],λk m e=>?_⟩
 have hk:k<n:=by have:=(ka e).1;rw[bz]at this;lia
 rw[bM hk]at e
 obtain⟨p,e1,e2⟩:=h.at_ k m e
 refine⟨p,by rw[bM hk];exact e1,?_⟩
 have hb:=hm k m hk e
 cases m with
 |box=>obtain⟨q,ns,i,r,z,h1,h2,h3,h4⟩:=e2;exact⟨q,ns,i,r,z,h1,h2,λz=>h3 (bj z),h4⟩
 |lst ds=>obtain⟨vs,h1,h2⟩:=e2;exact⟨vs,h1,h2.kC hb⟩
 |jX ks ds=>obtain⟨fX,vs,h1,h2,h3,h4⟩:=e2;exact⟨fX,vs,h1,h2,h3,h4.kC hb⟩
 |xq o fX ds=>exact⟨e2.1,e2.2.kC hb⟩
 |ins C ns ds=>obtain⟨dx,fs,h1,h2,h3⟩:=e2;exact⟨dx,fs,h1,h2,h3.kC hb⟩
 |nB ks ds=>obtain⟨fX,h1,h2,h3⟩:=e2;exact⟨fX,h1,h2,h3.kC hb⟩
 |gx lq H0=>exact⟨e2.1.PL hb,e2.2⟩
 |exc c=>exact e2
mutual
def jE.bound {φ:List ao}{H:Hp}:∀ {d:D} {v:V},jE φ H d v->FK φ.length d
 |.ic,_,_=>True.intro
 |.bl _,_,_=>True.intro
 |.int _,_,_=>True.intro
 |.str _,_,_=>True.intro
 |.lst _,_,h=>by obtain⟨p,vs,e,nn,hp,q⟩:=h;exact gh.bound q
 |.tup _,_,h=>by obtain⟨p,vs,e,nn,hp,q⟩:=h;exact gh.bound q
 |.jX _ _,_,h=>by obtain⟨p,fX,vs,e,nn,hp,q1,q2,q⟩:=h;exact gh.bound q
 |.mr k,_,h=>by obtain⟨p,e,q⟩:=h;exact(ka e).1
 |.obj _ _ _,_,h=>by obtain⟨p,dx,fs,vs,e,nn,hp,q1,q2,q⟩:=h;exact gh.bound q
 |.t9 _ _,_,h=>by obtain⟨p,dx,fs,vs,e,nn,hp,q1,q2,q⟩:=h;exact gh.bound q
 |.fn _,_,_=>True.intro
def gh.bound {φ:List ao}{H:Hp}:∀ {ds:List D} {vs:List V},gh φ H ds vs->tX φ.length ds
 |[],_,_=>True.intro
 |_::_,_,h=>by obtain⟨v,r,e,h1,h2⟩:=h;exact⟨jE.bound h1,gh.bound h2⟩
end
def gE.bound {φ:au ao}{H:Hp}{μ:MS}(h:gE φ H μ):∀(k:Nat) (m:MO),μ[k]?=some m->Aj μ.length m:=λk m e=>by
 obtain⟨p,e1,e2⟩:=h.at_ k m e
 rw[<- h.len]
 cases m with
 |box=>exact True.intro
 |lst ds=>obtain⟨vs,h1,h2⟩:=e2;exact h2.bound
 |jX ks ds=>obtain⟨fX,vs,h1,h2,h3,h4⟩:=e2;exact h4.bound
 |xq o fX ds=>exact e2.2.bound
 |ins C ns ds=>obtain⟨dx,fs,h1,h2,h3⟩:=e2;exact h3.bound
 |nB ks ds=>obtain⟨fX,h1,h2,h3⟩:=e2;exact h3.bound
 |gx lq H0=>obtain⟨⟨ψ,e,_⟩,_⟩:=e2.1;show lq.length<=φ.length;rw[e,l5];lia
 |exc c=>exact True.intro
def lX {n:Nat}{gN:au ao}{p q:ao}(hp:p∈gN)(h:q∉gN):q∉gN.take n++[p]:=λz=>by
 rcases List.mem_append.mp z with z|z
 .exact h (bj z)
 .exact h (by rw[List.mem_singleton.mp z];exact hp)
mutual
def jE.addP {n:Nat}{gN:List ao}{H:Hp}{p:ao}(hp:p∈gN):∀ {d:D} {v:V},FK n d->jE gN H d v->jE (gN.take n++[p]) H d v
 |.ic,_,_,h=>h
 |.bl _,_,_,h=>h
 |.int _,_,_,h=>h
 |.str _,_,_,h=>h
 |.lst _,_,m,h=>by obtain⟨q,vs,e,nn,hq,z⟩:=h;exact⟨q,vs,e,lX hp nn,hq,gh.pO hp m z⟩
 |.tup _,_,m,h=>by obtain⟨q,vs,e,nn,hq,z⟩:=h;exact⟨q,vs,e,lX hp nn,hq,gh.pO hp m z⟩
 |.jX _ _,_,m,h=>by obtain⟨q,fX,vs,e,nn,hq,q1,q2,z⟩:=h;exact⟨q,fX,vs,e,lX hp nn,hq,q1,q2,gh.pO hp m z⟩
 | .mr k,_,m,h=>by
  obtain⟨q,e,z⟩:=h
  have hk:k<(gN.take n).length:=by rw[bz];have:=(ka e).1;have m':k<n:=m;lia
  exact⟨q,by rw[t6 hk,bM m];exact e,z⟩
 |.obj _ _ _,_,m,h=>by obtain⟨q,dx,fs,vs,e,nn,hq,q1,q2,z⟩:=h;exact⟨q,dx,fs,vs,e,lX hp nn,hq,q1,q2,gh.pO hp m z⟩
 |.t9 _ _,_,m,h=>by obtain⟨q,dx,fs,vs,e,nn,hq,q1,q2,z⟩:=h;exact⟨q,dx,fs,vs,e,lX hp nn,hq,q1,q2,gh.pO hp m z⟩
 |.fn _,_,_,h=>h
def gh.pO {n:Nat}{gN:List ao}{H:Hp}{p:ao}(hp:p∈gN):∀ {ds:List D} {vs:List V},tX n ds->gh gN H ds vs->gh (gN.take n++[p]) H ds vs
 |[],_,_,h=>h
 |_::_,_,m,h=>by obtain⟨v,r,e,h1,h2⟩:=h;exact⟨v,r,e,jE.addP hp m.1 h1,gh.pO hp m.2 h2⟩
end
def xR (R:D->D->Prop)(ds es:au D):Prop:=ds.length=es.length/\∀(i:Nat) (a b:D),ds[i]?=some a->es[i]?=some b->R a b
def CZ (n:Nat)(μ:MS):Nat->D->D->Prop
 |0,d,d'=>d'=d/\FK n d
 |k+1,d,d'=>(d'=d/\FK n d)\/(∃ j ds es,d=.mr j/\n<=j/\μ[j]?=some (.lst ds)/\d'=.lst es/\xR (CZ n μ k) ds es)\/(∃ ds es,d=.lst ds/\d'=.lst es/\xR (CZ n μ k) ds es)\/(∃ ds es,d=.tup ds/\d'=.tup es/\xR (CZ n μ k) ds es)\/(∃ j ks ds es,d=.mr j/\n<=j/\μ[j]?=some (.jX ks ds)/\d'=.jX ks es/\xR (CZ n μ k) ds es)
def gh.KG {φ:au ao}{H:Hp}:∀ {ds:au D} {vs:au V},ds.length=vs.length->(∀(i:Nat) (d:D) (v:V),ds[i]?=some d->vs[i]?=some v->jE φ H d v)->gh φ H ds vs
 | [],vs,hl,_=>by cases vs with
  |nil=>rfl
  |cons v r=>simp at hl
 | d::ds,vs,hl,h=>by cases vs with
  |nil=>simp at hl
  |cons v r=>exact⟨v,r,rfl,h 0 d v rfl rfl,gh.KG (by simpa using hl) λi a b e1 e2=>h (i+1) a b (by simpa using e1) (by simpa using e2)⟩
def CZ.is {n:Nat}{φ:au ao}{H:Hp}{μ:MS}(M:gE φ H μ)(FG:∀ {j:Nat} {p:ao},n<=j->φ[j]?=some p->p∉φ.take n):∀ {k:Nat} {d d':D} {v:V},CZ n μ k d d'->jE φ H d v->jE (φ.take n) H d' v:=by
 intro k
 induction k with
 |zero=>intro d d' v h i;obtain⟨rfl,hb⟩:=h;exact i.kC hb
 | succ k ih =>
  have all:∀ {ds es:au D} {vs:au V},xR (CZ n μ k) ds es->gh φ H ds vs->gh (φ.take n) H es vs:=λ{ds es vs} ha hd =>
   gh.KG (by rw[hd.len,ha.1]) λi b v e1 e2=>by
    obtain⟨a,e3,hv⟩:=hd.Cu e2
    exact ih (ha.2 i a b e3 e1) hv
  intro d d' v h i
  rcases h with⟨rfl,hb⟩|⟨j,ds,es,rfl,hj,e,rfl,ha⟩|⟨ds,es,rfl,rfl,ha⟩|⟨ds,es,rfl,rfl,ha⟩|⟨j,ks,ds,es,rfl,hj,e,rfl,ha⟩
  .exact i.kC hb
  .obtain⟨p,hp,rfl⟩:=i
   obtain⟨p',e1,vs,hv,hd⟩:=M.at_ j _ e
   rw[hp]at e1;cases e1
   exact⟨p,vs,rfl,FG hj hp,hv,all ha hd⟩
  .obtain⟨p,vs,rfl,hn,hp,hd⟩:=i
   exact⟨p,vs,rfl,λz=>hn (bj z),hp,all ha hd⟩
  .obtain⟨p,vs,rfl,hn,hp,hd⟩:=i
   exact⟨p,vs,rfl,λz=>hn (bj z),hp,all ha hd⟩
  .obtain⟨p,hp,rfl⟩:=i
   obtain⟨p',e1,fX,vs,hv,h1,h2,hd⟩:=M.at_ j _ e
   rw[hp]at e1;cases e1
   exact⟨p,fX,vs,rfl,FG hj hp,hv,h1,h2,all ha hd⟩
def A8 (n:Nat)(μ:MS):Nat->D->D->Prop
 |0,d,d'=>d'=d/\FK n d
 |k+1,d,d'=>(d'=d/\FK n d)\/(∃ j ds es,d=.mr j/\n<=j/\μ[j]?=some (.lst ds)/\d'=.lst es/\xR (A8 n μ k) ds es)\/(∃ ds es,d=.lst ds/\d'=.lst es/\xR (A8 n μ k) ds es)\/(∃ ds es,d=.tup ds/\d'=.tup es/\xR (A8 n μ k) ds es)\/(∃ j o fX ds es,d=.mr j/\n<=j/\μ[j]?=some (.xq o fX ds)/\d'=.t9 (fX.map (·.1)) es/\xR (A8 n μ k) ds es)\/(∃ j C ns ds es,d=.mr j/\n<=j/\μ[j]?=some (.ins C ns ds)/\d'=.obj C ns es/\xR (A8 n μ k) ds es)
def A8.is {n:Nat}{φ:au ao}{H:Hp}{μ:MS}(M:gE φ H μ)(FG:∀ {j:Nat} {p:ao},n<=j->φ[j]?=some p->p∉φ.take n):∀ {k:Nat} {d d':D} {v:V},A8 n μ k d d'->jE φ H d v->jE (φ.take n) H d' v:=by
 intro k
 induction k with
 |zero=>intro d d' v h i;obtain⟨rfl,hb⟩:=h;exact i.kC hb
 | succ k ih =>
  have all:∀ {ds es:au D} {vs:au V},xR (A8 n μ k) ds es->gh φ H ds vs->gh (φ.take n) H es vs:=λ{ds es vs} ha hd =>
   gh.KG (by rw[hd.len,ha.1]) λi b v e1 e2=>by
    obtain⟨a,e3,hv⟩:=hd.Cu e2
    exact ih (ha.2 i a b e3 e1) hv
  intro d d' v h i
  rcases h with⟨rfl,hb⟩|⟨j,ds,es,rfl,hj,e,rfl,ha⟩|⟨ds,es,rfl,rfl,ha⟩|⟨ds,es,rfl,rfl,ha⟩|⟨j,o,fX,ds,es,rfl,hj,e,rfl,ha⟩|⟨j,C,ns,ds,es,rfl,hj,e,rfl,ha⟩
  .exact i.kC hb
  .obtain⟨p,hp,rfl⟩:=i
   obtain⟨p',e1,vs,hv,hd⟩:=M.at_ j _ e
   rw[hp]at e1;cases e1
   exact⟨p,vs,rfl,FG hj hp,hv,all ha hd⟩
  .obtain⟨p,vs,rfl,hn,hp,hd⟩:=i
   exact⟨p,vs,rfl,λz=>hn (bj z),hp,all ha hd⟩
  .obtain⟨p,vs,rfl,hn,hp,hd⟩:=i
   exact⟨p,vs,rfl,λz=>hn (bj z),hp,all ha hd⟩
  .obtain⟨p,hp,rfl⟩:=i
   obtain⟨p',e1,hv,hd⟩:=M.at_ j _ e
   rw[hp]at e1;cases e1
   exact⟨p,o,fX,_,rfl,FG hj hp,hv,rfl,rfl,all ha hd⟩
  .obtain⟨p,hp,rfl⟩:=i
   obtain⟨p',e1,dx,fs,hv,h1,hd⟩:=M.at_ j _ e
   rw[hp]at e1;cases e1
   exact⟨p,dx,fs,_,rfl,FG hj hp,hv,h1,rfl,all ha hd⟩
inductive Fz (n:Nat)(K:DK):DK where
 |keep {d μ} (k:K d μ):Fz n K d μ
 |drop {d μ} (hd:FK n d) (hm:∀(j:Nat) (m:MO),j<n->μ[j]?=some m->Aj n m) (k:K d (μ.take n)):Fz n K d μ
 |lst {j ds μ} (hj:n<=j) (e:μ[j]?=some (.lst ds)) (hd:tX n ds) (hm:∀(j:Nat) (m:MO),j<n->μ[j]?=some m->Aj n m) (k:K (.lst ds) (μ.take n)):Fz n K (.mr j) μ
 |one {j ds μ} (hj:n<=j) (e:μ[j]?=some (.lst ds)) (hd:tX n ds) (hm:∀(j:Nat) (m:MO),j<n->μ[j]?=some m->Aj n m) (k:K (.mr n) (μ.take n++[.lst ds])):Fz n K (.mr j) μ
 |deep {f d d' μ} (e:CZ n μ f d d') (hm:∀(j:Nat) (m:MO),j<n->μ[j]?=some m->Aj n m) (k:K d' (μ.take n)):Fz n K d μ
 |jX {j ks ds μ} (hj:n<=j) (e:μ[j]?=some (.jX ks ds)) (hd:tX n ds) (hm:∀(j:Nat) (m:MO),j<n->μ[j]?=some m->Aj n m) (k:K (.jX ks ds) (μ.take n)):Fz n K (.mr j) μ
 |obj {j C ns ds μ} (hj:n<=j) (e:μ[j]?=some (.ins C ns ds)) (hd:tX n ds) (hm:∀(j:Nat) (m:MO),j<n->μ[j]?=some m->Aj n m) (k:K (.obj C ns ds) (μ.take n)):Fz n K (.mr j) μ
 |t9 {j o fX ds μ} (hj:n<=j) (e:μ[j]?=some (.xq o fX ds)) (hd:tX n ds) (hm:∀(j:Nat) (m:MO),j<n->μ[j]?=some m->Aj n m) (k:K (.t9 (fX.map (·.1)) ds) (μ.take n)):Fz n K (.mr j) μ
 |Wl {f d d' μ} (e:A8 n μ f d d') (hm:∀(j:Nat) (m:MO),j<n->μ[j]?=some m->Aj n m) (k:K d' (μ.take n)):Fz n K d μ
def wz.fz {φ:au ao}{H:Hp}{μ:MS}{K:DK}{Q:VK}(M:gE φ H μ)(L:wz φ H K Q):wz φ H (Fz μ.length K) Q:=λd gq gN v H' k f M' i=>by
 have Gx:gN.take μ.length=φ:=by
  obtain⟨⟨ψ,rfl,_⟩,_,_⟩:=f
  rw[<- M.len,cZ]
 have f0:Fr φ H (gN.take μ.length) H':=by
  rw[Gx]
  exact⟨⟨[],by simp,λ_ h=>nomatch h⟩,f.keep,f.XS⟩
 have FG:∀ {j:Nat} {p:ao},μ.length<=j->gN[j]?=some p->p∉gN.take μ.length:=λ{j p} hj e hp=>by
  obtain⟨i,hi,ei⟩:=aM hp
  rw[bz]at hi
  rw[List.getElem_take]at ei
  obtain⟨xT,ej⟩:=ka e
  exact List.pairwise_iff_getElem.mp M'.nd i j (by lia) xT (by lia) (ei.trans ej.symm)
 cases k with
 |keep k=>exact L d gq gN v H' k f M' i
 |drop hd hm k=>exact L d _ _ v H' k f0 (M'.kC hm) (i.kC hd)
 | @lst j ds _ hj e hd hm k =>
  obtain⟨p,hp,rfl⟩:=i
  obtain⟨p',e1,vs,hv,ha⟩:=M'.at_ j _ e
  rw[hp]at e1;cases e1
  exact L _ _ _ _ H' k f0 (M'.kC hm) ⟨p,vs,rfl,FG hj hp,hv,ha.kC hd⟩
 | @one j ds _ hj e hd hm k =>
  obtain⟨p,hp,rfl⟩:=i
  obtain⟨p',e1,vs,hv,ha⟩:=M'.at_ j _ e
  rw[hp]at e1;cases e1
  have M0:=M'.kC hm
  have hpn:p∉φ:=by have:=FG hj hp;rwa [Gx]at this
  have hH:H p=none:=by
   obtain⟨⟨ψ,rfl,HY⟩,_,_⟩:=f
   refine HY p ?_
   have q:=kA hp
   rcases List.mem_append.mp q with q|q
   .exact absurd q hpn
   .exact q
  have M1:gE (gN.take μ.length) H' (gq.take μ.length):=M0
  rw[Gx]at M1
  have f1:Fr φ H (φ++[p]) H':=⟨⟨[p],rfl,λc hc=>by rw[List.mem_singleton.mp hc];exact hH⟩,f.keep,f.XS⟩
  have len:(gq.take μ.length).length=μ.length:=by rw[<- M1.len,M.len]
  have pin:p∈gN:=kA hp
  have Zz:gh (φ++[p]) H' ds vs:=by
   have q:=gh.pO pin hd ha
   rwa [Gx]at q
  have M2:gE (φ++[p]) H' (gq.take μ.length++[.lst ds]):=by
   refine⟨?_,by rw[l5,l5,M1.len];rfl,λk m ek=>?_⟩
   .rw[fb]
    exact⟨M.nd,by simp,λa ha b hb=>by rw[List.mem_singleton.mp hb];intro z;exact hpn (by rw[<- z];exact ha)⟩
   .by_cases hk:k<μ.length
    .rw[t6 (by rw[len];exact hk)]at ek
     rw[bM hk]at ek
     obtain⟨q,e1,e2⟩:=M'.at_ k m ek
     have e1':φ[k]?=some q:=by rw[<- Gx,bM hk];exact e1
     refine⟨q,by rw[t6 (by rw[M.len];exact hk)];exact e1',?_⟩
     have hb:=hm k m hk ek
     cases m with
     | box =>
      obtain⟨b,ns,i,r,z,h1,h2,h3,h4⟩:=e2
      exact⟨b,ns,i,r,z,h1,h2,by have:=lX (n:=μ.length) pin h3;rwa [Gx]at this,h4⟩
     |lst es=>obtain⟨us,h1,h2⟩:=e2;exact⟨us,h1,by have:=gh.pO pin hb h2;rwa [Gx]at this⟩
     |jX ks es=>obtain⟨fX,us,h1,h2,h3,h4⟩:=e2;exact⟨fX,us,h1,h2,h3,by have:=gh.pO pin hb h4;rwa [Gx]at this⟩
     |xq o fX es=>exact⟨e2.1,by have:=gh.pO pin hb e2.2;rwa [Gx]at this⟩
     |ins C ns es=>obtain⟨dx,fs,h1,h2,h3⟩:=e2;exact⟨dx,fs,h1,h2,by have:=gh.pO pin hb h3;rwa [Gx]at this⟩
     |nB ks es=>obtain⟨fX,h1,h2,h3⟩:=e2;exact⟨fX,h1,h2,by have:=gh.pO pin hb h3;rwa [Gx]at this⟩
     |gx lq H0=>exact⟨by have:=e2.1.UN (n:=μ.length) hb (p:=p) (e2.1.YT (aV hb hj) hp);rwa [Gx]at this,e2.2⟩
     |exc c=>exact e2
    .have Bp:k=μ.length:=by
      have:=(ka ek).1
      rw[l5,bJ,len]at this
      lia
     subst Bp
     rw[rF (by rw[len];exact aw _),len,a8]at ek
     cases ek
     exact⟨p,by rw[rF (by rw[M.len];exact aw _),M.len,a8];rfl,vs,hv,Zz⟩
  exact L _ _ _ _ H' k f1 M2 ⟨p,by rw[rF (by rw[M.len];exact aw _),M.len,a8];rfl,rfl⟩
 |@deep f' d d' _ e hm k=>exact L _ _ _ _ H' k f0 (M'.kC hm) (e.is M' FG i)
 | @jX j ks ds _ hj e hd hm k =>
  obtain⟨p,hp,rfl⟩:=i
  obtain⟨p',e1,fX,vs,hv,h1,h2,ha⟩:=M'.at_ j _ e
  rw[hp]at e1;cases e1
  exact L _ _ _ _ H' k f0 (M'.kC hm) ⟨p,fX,vs,rfl,FG hj hp,hv,h1,h2,ha.kC hd⟩
 | @obj j C ns ds _ hj e hd hm k =>
  obtain⟨p,hp,rfl⟩:=i
  obtain⟨p',e1,dx,fs,h1,h2,h3⟩:=M'.at_ j _ e
  rw[hp]at e1;cases e1
  exact L _ _ _ _ H' k f0 (M'.kC hm) ⟨p,dx,fs,_,rfl,FG hj hp,h1,h2,rfl,h3.kC hd⟩
 | @t9 j o fX ds _ hj e hd hm k =>
  obtain⟨p,hp,rfl⟩:=i
  obtain⟨p',e1,h1,h3⟩:=M'.at_ j _ e
  rw[hp]at e1;cases e1
  exact L _ _ _ _ H' k f0 (M'.kC hm) ⟨p,o,fX,_,rfl,FG hj hp,h1,rfl,rfl,h3.kC hd⟩
 |@Wl f' d d' _ e hm k=>exact L _ _ _ _ H' k f0 (M'.kC hm) (e.is M' FG i)
def JU (n:Nat)(K:DK):DN:={ nx:=λ_ gq=>Fz n K .ic gq,rt:=λd gq=>Fz n K d gq}
def uk (N:au Str)(ds:au D):DE:=ds.map some++List.replicate (N.length - ds.length) none
def k8.start {φ:au ao}{H:Hp}{N:au Str}{ds:au D}{vs:au V}(h:gh φ H ds vs):k8 φ H (uk N ds) (start N vs):=by
 have hl:=h.len
 unfold uk L2.start
 refine⟨by simp[hl],λi d e=>?_⟩
 by_cases hi:i<ds.length
 .rw[t6 (by rw[ia];exact hi),nF]at e
  have e':ds[i]?=some d:=by
   cases q:ds[i]? with
   |none=>rw[q]at e;cases e
   |some z=>rw[q]at e;cases e;rfl
  obtain⟨v,hv,hd⟩:=h.get e'
  exact⟨v,by rw[t6 (by rw[ia];lia),nF,hv];rfl,hd⟩
 .rw[rF (by rw[ia];lia)]at e
  have:=kA e
  have:=d9 this
  cases this
section
variable {P:ah}{w:ai}{K:aa}{mg:Str->av ar}{fK:Heap}
def j5.nA {x qual:Str}{st:Stmt}{f:ao}{fd:aj}{N ps:au Str}{k:Nat}{fs:jP}(F:j5 K x qual st f fd)(S:gg N ps (fR st))(len:∀ ds μ Kd,fs ds μ Kd->ds.length=ps.length)
 (xj:∀(je:ar) (A:Around) (fV:au Env) (s:ak) (H:Hp) (E:XK),jO k (A.deeper (envOfC qual (fR st) s.heap.objs.size f je)) ->
   ∃ W,Jb (rh ku P w K mg fK N qual (fR st) f je A fV s H E).Vo (jB st) W/\∀ ds μ Kd,(∀(j:Nat) (m:MO),μ[j]?=some m->Aj μ.length m)->tX μ.length ds->fs ds μ Kd->W (JU μ.length Kd) (uk N ds) μ):gL P w K mg fK ku (k+1) f fd ps (iD fs):=by
 refine F.ok S (λvs H Q E h=>?_) (λje A fV s H vs Q E hr h=>?_)
 .obtain⟨φ,ds,μ,Kd,ha,M,hf,L⟩:=h
  rw[ha.len];exact len ds μ Kd hf
 .obtain⟨φ,ds,μ,Kd,ha,M,hf,L⟩:=h
  obtain⟨W,hW,q⟩:=xj je A fV s H E hr
  refine⟨_,hW,φ,uk N ds,μ,JU μ.length Kd,.start ha,M,q ds μ Kd M.bound (by rw[<- M.len];exact ha.bound) hf,⟨λkF gq gN jo H' k' f' A' M'=>?_,L.fz M,λ_ _ _ _ _ k' _ _ _=>k'.elim,λ_ _ _ _ _ k' _ _ _=>k'.elim⟩⟩
  exact L.fz M .ic gq gN .ic H' k' f' M' rfl
end
section
variable {prog:ah}{w:ai}{A:Around}{E:ar->ak->Prop}{s:ak}
variable {c:Bool}{z TI TO i1 i2 l1 l2:ao}{k1 k2:Nat}{xs ys:Array ar}{x y a b:ar}
def nH {a:ao}{Q:av Obj->ak->Prop}(h:Q (s.heap.get? a) s):wpAny (model prog w) A (loadIfAlive a) Q E s:=λΓ p _=>by
 show Sem.wp _ Γ (.loadIfAlive a .pure) _ _ p s
 rw[Sem.wp_loadIfAlive];exact h
def Hc {Q:Fin->ak->Prop}(hh:A.handled=none)(D:ZipApart z TI TO i1 i2 l1 l2)(S:ZS c z TI TO i1 i2 l1 l2 .none a b k1 k2 xs ys s.heap)(hx:xs[k1]?=some x)(hy:ys[k2]?=none)
 (hE:∀ h' e,ZK z TO i1 i2 s.heap h'->(∃ o,h'.get? e=some o/\o.cls=.type "StopIteration")->E (.ref e) {s with heap:=h'}):
 wpAny (model prog w) A (Builtin.«zip.__next__» ⟨[.ref z],[]⟩) Q E s:=by
 refine f9 (aA (f9 (aO S.z rfl (x:=.bool false) rfl (f9 (aO S.z rfl (x:=.ref TI) rfl (f9 (bc S.ti rfl ?_)))))))
 refine f9 (m:=Builtin.SmallTypes.ownedTupleIsFree (.ref z)) (f9 (aO S.z rfl (x:=.none) rfl (aA ?_)))
 refine f9 (dJ (f9 (aO S.z rfl (x:=.ref TO) rfl (f9 (aY S.z (by simp) λg1 e1 t1=>?_)))))
 have S1:=S.mz D (f':=.ellipsis) e1 t1.extBut
 refine f9 ?_
 rw[show(#[Value.ref i1,Value.ref i2]:Array ar).toList.zipIdx=[(.ref i1,0),(.ref i2,1)]from rfl,bH]
 refine f9 (f9 (cV (f9 (i7 S1.n1 S1.q1 hx λg2 e2 t2=>aA ?_))))
 have S2:=S1.m1 D e2 t2.extBut
 refine f9 (bc S2.to rfl (f9 (cW S2.to λg3 e3 t3=>f9 (cY (aA ?_)))))
 have S3:=S2.mo D (x:=x) (y:=b) e3 t3.extBut
 dsimp only
 rw[bH]
 refine f9 (f9 (cV (f9 (lj hh S3.n2 S3.q2 hy λg4 e t4 he=>?_))))
 obtain⟨oe,Em,Lo⟩:=he
 have Dk:IsZip g4 z TI TO .ellipsis:=t4 _ _ D.i2z.symm S3.z
 have SX:e≠z:=λq=>by subst q;rw[Dk]at Em;cases Em;simp at Lo
 exact aY Dk (by simp) λg5 _ t5=>hE g5 e ((((((nZ t1.extBut).trans (vg t2.extBut)).trans (Hb t3.extBut)).trans (Bv t4))).trans (nZ t5.extBut)) ⟨oe,t5.extBut _ _ SX Em,Lo⟩
def Bz {Q:av ar->ak->Prop}(hh:A.handled=none)(D:ZipApart z TI TO i1 i2 l1 l2)(S:ZS c z TI TO i1 i2 l1 l2 .none a b k1 k2 xs ys s.heap)(hx:xs[k1]?=none\/ys[k2]?=none)
 (hQ:∀ h',ZK z TO i1 i2 s.heap h'->Q none {s with heap:=h'}):wpAny (model prog w) A (pyNext (.ref z)) Q E s:=by
 cases e1:xs[k1]? with
 |none=>exact EY hh D S e1 hQ
 | some x =>
  have hy:ys[k2]?=none:=by
   rcases hx with q|q
   .rw[e1]at q;cases q
   .exact q
  have ty:s.TypeIs (.ref z) "zip":=⟨_,S.z,rfl⟩
  unfold pyNext
  refine f9 (dA (bI (name:=Str.ofString "__next__") ty bV (ck bV ty da (Hc hh D S e1 hy λh' e hk he=>?_) (c4 _))))
  obtain⟨o,ho,hc⟩:=he
  exact f9 (fB (T:= "StopIteration") (b:=true) ⟨o,ho,hc⟩ isSubtype_stop (aA (hQ _ hk)))
def EN (h:Heap)(z TI TO:ao)(T0:ao)(bb:Bool):Prop:=h.get? z=some { cls:=.type "zip",data:=.fields #[rawInt T0,.bool bb,.bool false,.ref TI,.ref TO]}
structure ZB (c:Bool)(z TI TO i1 i2 l1 l2 T0:ao)(k1 k2:Nat)(xs ys:Array ar)(h:Heap):Prop where
 az:T0≠z/\T0≠i1/\T0≠i2
 z:∃ bb,EN h z TI TO T0 bb
 ti:IsPair h TI (.ref i1) (.ref i2)
 n1:k7 c h i1 l1 k1
 n2:k7 c h i2 l2 k2
 q1:lA c h l1 xs
 q2:lA c h l2 ys
 al:∃ o,h.get? T0=some o
 to:∃ o,h.get? TO=some o
def MX {Q:ar->ak->Prop}{T0:ao}(D:ZipApart z TI TO i1 i2 l1 l2)(S:ZB c z TI TO i1 i2 l1 l2 T0 k1 k2 xs ys s.heap)(hx:xs[k1]?=some x)(hy:ys[k2]?=some y)
 (hQ:∀ h',ZB c z TI TO i1 i2 l1 l2 T0 (k1+1) (k2+1) xs ys h'->IsPair h' s.heap.objs.size x y->ZK z TO i1 i2 s.heap h'->Q (.ref s.heap.objs.size) {s with heap:=h'}):
 wpAny (model prog w) A (Builtin.«zip.__next__» ⟨[.ref z],[]⟩) (λfin s'=>∃ v,fin=.done (.ret v)/\Q v s') E s:=by
 obtain⟨bb,hz⟩:=S.z
 obtain⟨oT,XJ⟩:=S.al
 refine f9 (aA (f9 (aO hz rfl (x:=.bool false) rfl (f9 (aO hz rfl (x:=.ref TI) rfl (f9 (bc S.ti rfl ?_)))))))
 refine f9 (m:=Builtin.SmallTypes.ownedTupleIsFree (.ref z)) (f9 (aO hz rfl (x:=rawInt T0) rfl ?_))
 show wpAny _ _ (loadIfAlive T0>>=_) _ _ s
 refine f9 (nH ?_)
 rw[XJ]
 show wpAny _ _ (field (.ref z) 1>>=_) _ _ s
 refine f9 (aO hz rfl (x:=.bool bb) rfl ?_)
 have go:∃ g1:Heap,EN g1 z TI TO T0 true/\Heap.SameBut z s.heap g1/\∀(Q':Bool->ak->Prop),Q' false { s with heap:=g1}->wpAny (model prog w) A (if(Value.bool bb != Value.bool true)=true then(setField (Value.ref z) 1 (Value.bool true) >>= λ_=>pure false)else pure false) Q' E s:=by
  cases bb with
  |true=>exact⟨s.heap,hz,⟨rfl,λ_ _=>rfl⟩,λQ' q=>aA q⟩
  |false=>exact⟨s.heap.update z (Obj.mapFields (·.setIfInBounds 1 (.bool true))),bL _ hz rfl,dW ..,λQ' q=>f9 (dq hz rfl (by simp) (aA q))⟩
 obtain⟨g1,z1,t1,run⟩:=go
 refine run _ ?_
 have n1:=S.n1.extBut t1.extBut D.i1z
 have n2:=S.n2.extBut t1.extBut D.i2z
 have q1:=S.q1.extBut t1.extBut D.l1z
 have q2:=S.q2.extBut t1.extBut D.l2z
 show wpAny _ _ (forIn (#[Value.ref i1,Value.ref i2]:Array ar) (none,#[]) _>>=_) _ _ _
 rw[<- eM]
 refine f9 ?_
 rw[show(#[Value.ref i1,Value.ref i2]:Array ar).toList=[.ref i1,.ref i2]from rfl,bH]
 refine f9 (f9 (bP (f9 (i7 (s:={s with heap:=g1}) n1 q1 hx λg2 e2 t2=>aA (aA ?_)))))
 dsimp only
 rw[bH]
 have YK:=n2.extBut t2.extBut D.i12.symm
 have Vb:=q2.extBut t2.extBut D.l2i1
 refine f9 (f9 (bP (f9 (i7 (s:={s with heap:=g2}) YK Vb hy λg3 e3 t3=>aA (aA ?_)))))
 dsimp only
 rw[dN]
 refine aA (f9 (eV (aA ⟨_,rfl,?_⟩) (by show 2<=sizeLine;decide)))
 have sz:g3.objs.size=s.heap.objs.size:=t3.1.trans (t2.1.trans t1.1)
 show Q (.ref g3.objs.size) _
 have kk:ZK z TO i1 i2 s.heap (g3.push { cls:=.type "tuple",data:=.seq #[x,y]}):=(((nZ t1.extBut).trans (vg t2.extBut)).trans (Bv t3.extBut)).trans λd o _ _ _ _ e=>j6 _ e
 have hT:IsPair (g3.push { cls:=.type "tuple",data:=.seq #[x,y]}) g3.objs.size x y:=aI _ rfl
 rw[sz]at hT ⊢
 have pu:∀ {d:ao} {o:Obj},g3.get? d=some o->(g3.push { cls:=.type "tuple",data:=.seq #[x,y]}).get? d=some o:=λe=>j6 _ e
 refine hQ _ ⟨S.az,⟨true,pu (t3.extBut _ _ D.i2z.symm (t2.extBut _ _ D.i1z.symm z1))⟩,pu (t3.extBut _ _ D.TIi2 (t2.extBut _ _ D.TIi1 (t1.extBut _ _ D.TIz S.ti))),(e2.extBut t3.extBut D.i12).at λ_ e=>pu e,e3.at λ_ e=>pu e,
  (((q1.extBut t2.extBut D.l1i1).extBut t3.extBut D.l1i2)).extBut (b:=g3.objs.size) (λ_ _ _ e=>pu e) (((q1.extBut t2.extBut D.l1i1).extBut t3.extBut D.l1i2).lt),((Vb.extBut t3.extBut D.l2i2)).extBut (b:=g3.objs.size) (λ_ _ _ e=>pu e) ((Vb.extBut t3.extBut D.l2i2).lt),⟨oT,pu (t3.extBut _ _ S.az.2.2 (t2.extBut _ _ S.az.2.1 (t1.extBut _ _ S.az.1 XJ)))⟩,(let ⟨o,e⟩:=S.to;⟨o,pu (t3.extBut _ _ D.TOi2 (t2.extBut _ _ D.TOi1 (t1.extBut _ _ D.TOz e)))⟩)⟩ hT kk
def MY {Q:Fin->ak->Prop}{T0:ao}(hh:A.handled=none)(D:ZipApart z TI TO i1 i2 l1 l2)(S:ZB c z TI TO i1 i2 l1 l2 T0 k1 k2 xs ys s.heap)(hx:xs[k1]?=none\/ys[k2]?=none)
 (hE:∀ h' e,ZK z TO i1 i2 s.heap h'->(∃ o,h'.get? e=some o/\o.cls=.type "StopIteration")->E (.ref e) {s with heap:=h'}):
 wpAny (model prog w) A (Builtin.«zip.__next__» ⟨[.ref z],[]⟩) Q E s:=by
 obtain⟨bb,hz⟩:=S.z
 obtain⟨oT,XJ⟩:=S.al
 refine f9 (aA (f9 (aO hz rfl (x:=.bool false) rfl (f9 (aO hz rfl (x:=.ref TI) rfl (f9 (bc S.ti rfl ?_)))))))
 refine f9 (m:=Builtin.SmallTypes.ownedTupleIsFree (.ref z)) (f9 (aO hz rfl (x:=rawInt T0) rfl ?_))
 show wpAny _ _ (loadIfAlive T0>>=_) _ _ s
 refine f9 (nH ?_)
 rw[XJ]
 show wpAny _ _ (field (.ref z) 1>>=_) _ _ s
 refine f9 (aO hz rfl (x:=.bool bb) rfl ?_)
 have go:∃ g1:Heap,EN g1 z TI TO T0 true/\Heap.SameBut z s.heap g1/\∀(Q':Bool->ak->Prop),Q' false { s with heap:=g1}->wpAny (model prog w) A (if(Value.bool bb != Value.bool true)=true then(setField (Value.ref z) 1 (Value.bool true) >>= λ_=>pure false)else pure false) Q' E s:=by
  cases bb with
  |true=>exact⟨s.heap,hz,⟨rfl,λ_ _=>rfl⟩,λQ' q=>aA q⟩
  |false=>exact⟨s.heap.update z (Obj.mapFields (·.setIfInBounds 1 (.bool true))),bL _ hz rfl,dW ..,λQ' q=>f9 (dq hz rfl (by simp) (aA q))⟩
 obtain⟨g1,z1,t1,run⟩:=go
 refine run _ ?_
 have n1:=S.n1.extBut t1.extBut D.i1z
 have n2:=S.n2.extBut t1.extBut D.i2z
 have q1:=S.q1.extBut t1.extBut D.l1z
 have q2:=S.q2.extBut t1.extBut D.l2z
 show wpAny _ _ (forIn (#[Value.ref i1,Value.ref i2]:Array ar) (none,#[]) _>>=_) _ _ _
 rw[<- eM]
 refine f9 ?_
 rw[show(#[Value.ref i1,Value.ref i2]:Array ar).toList=[.ref i1,.ref i2]from rfl,bH]
 cases ex:xs[k1]? with
 |none=>exact f9 (f9 (bP (f9 (lj (s:={s with heap:=g1}) hh n1 q1 ex λg2 e t2 he=>hE g2 e ((nZ t1.extBut).trans (vg t2)) he))))
 | some x =>
  have hy:ys[k2]?=none:=by
   rcases hx with q|q
   .rw[ex]at q;cases q
   .exact q
  refine f9 (f9 (bP (f9 (i7 (s:={s with heap:=g1}) n1 q1 ex λg2 e2 t2=>aA (aA ?_)))))
  dsimp only
  rw[bH]
  have YK:=n2.extBut t2.extBut D.i12.symm
  have Vb:=q2.extBut t2.extBut D.l2i1
  exact f9 (f9 (bP (f9 (lj (s:={s with heap:=g2}) hh YK Vb hy λg3 e t3 he=>hE g3 e (((nZ t1.extBut).trans (vg t2.extBut)).trans (Bv t3)) he))))
def MZ {Q:av ar->ak->Prop}{T0:ao}(D:ZipApart z TI TO i1 i2 l1 l2)(S:ZB c z TI TO i1 i2 l1 l2 T0 k1 k2 xs ys s.heap)(hx:xs[k1]?=some x)(hy:ys[k2]?=some y)
 (hQ:∀ h',ZB c z TI TO i1 i2 l1 l2 T0 (k1+1) (k2+1) xs ys h'->IsPair h' s.heap.objs.size x y->ZK z TO i1 i2 s.heap h'->Q (some (.ref s.heap.objs.size)) {s with heap:=h'}):
 wpAny (model prog w) A (pyNext (.ref z)) Q E s:=by
 have ty:s.TypeIs (.ref z) "zip":=let ⟨_,q⟩:=S.z;⟨_,q,rfl⟩
 unfold pyNext
 exact f9 (dA (bI (name:=Str.ofString "__next__") ty bV (ck bV ty da (MX D S hx hy λh' a1 a2 a3=>aA (hQ h' a1 a2 a3)) (c4 _))))
def Q6 {Q:av ar->ak->Prop}{T0:ao}(hh:A.handled=none)(D:ZipApart z TI TO i1 i2 l1 l2)(S:ZB c z TI TO i1 i2 l1 l2 T0 k1 k2 xs ys s.heap)(hx:xs[k1]?=none\/ys[k2]?=none)
 (hQ:∀ h',ZK z TO i1 i2 s.heap h'->Q none {s with heap:=h'}):wpAny (model prog w) A (pyNext (.ref z)) Q E s:=by
 have ty:s.TypeIs (.ref z) "zip":=let ⟨_,q⟩:=S.z;⟨_,q,rfl⟩
 unfold pyNext
 refine f9 (dA (bI (name:=Str.ofString "__next__") ty bV (ck bV ty da (MY hh D S hx λh' e hk he=>?_) (c4 _))))
 obtain⟨o,ho,hc⟩:=he
 exact f9 (fB (T:= "StopIteration") (b:=true) ⟨o,ho,hc⟩ isSubtype_stop (aA (hQ _ hk)))
end
def W3 (c:Bool)(a1 a2:ao):It:={ XZ c a1 a2 with stop:=λi H=>∃ xs ys,yq c H a1 xs/\yq c H a2 ys/\(xs.length<=i\/ys.length<=i)}
def He {P:ah}{w:ai}{K:aa}{elts:au Expr}{kk:Nat}{tpos:Pos}{c:Bool}{z TI TO i1 i2 l1 l2:ao}(D:ZipApart z TI TO i1 i2 l1 l2):
 Turn P w K (.Tuple elts kk tpos) (W3 c l1 l2) [z,TI,TO,i1,i2] z (λi h=>IsZip h z TI TO .none/\IsPair h TI (.ref i1) (.ref i2)/\(∃ a b,IsPair h TO a b)/\k7 c h i1 l1 i/\k7 c h i2 l2 i) where
 mem:=(oB (P:=P) (w:=w) (K:=K) (elts:=elts) (kk:=kk) (tpos:=tpos) (c:=c) D).mem
 obj:=(oB (P:=P) (w:=w) (K:=K) (elts:=elts) (kk:=kk) (tpos:=tpos) (c:=c) D).obj
 keep:=(oB (P:=P) (w:=w) (K:=K) (elts:=elts) (kk:=kk) (tpos:=tpos) (c:=c) D).keep
 item:=(oB (P:=P) (w:=w) (K:=K) (elts:=elts) (kk:=kk) (tpos:=tpos) (c:=c) D).item
 self:=(oB (P:=P) (w:=w) (K:=K) (elts:=elts) (kk:=kk) (tpos:=tpos) (c:=c) D).self
 done:=by
  intro X hP hw hK hc i fJ s σ H E I hf st hg
  subst hP hw hK
  obtain⟨hz,Bt,⟨a,b',Bs⟩,h1,h2⟩:=st
  obtain⟨xs,ys,q1,q2,hx⟩:=hg
  obtain⟨us,r1,p1⟩:=q1.val I
  obtain⟨ws,r2,p2⟩:=q2.val I
  have hl:=r1.length
  have tZ:=r2.length
  refine Bz (I.ok.hd hc) D ⟨hz,Bt,Bs,h1,h2,p1,p2⟩ (by simp;lia) λh' hk=>⟨rfl,?_⟩
  exact I.yB (ch:=[z,TO,i1,i2]) (λb hb=>hf b (by
   simp only[aR,aL,bQ]at hb ⊢
   rcases hb with q|q|q|q<;>simp[q])) λb o hb e=>hk b o (λq=>hb (by simp[q])) (λq=>hb (by simp[q])) (λq=>hb (by simp[q])) (λq=>hb (by simp[q])) e
def VG (ta:TA):TI:=λσ H R=>ta σ H λvs H1=>match vs with
 |[.ref a,.ref b]=>∃(c:Bool) (xs ys:au V),yq c H1 a xs/\yq c H1 b ys/\R (W3 c a b) H1
 |_=>False
def NT {X:Cx}{elts:au Expr}{kk:Nat}{tpos:Pos}{a b:Expr}{ta:TA}{p pos:Pos}(hg:Gl X "zip")(hm:X.mg "zip"=none)(ha:PA X [a,b] ta)(hs:starEach [a,b] X.env=[(false,eval a X.env),(false,eval b X.env)]:=by rfl)(sY:starEach [b] X.env=[(false,eval b X.env)]:=by rfl):
 PI X (.Tuple elts kk tpos) (.Call (.Name "zip" p) [a,b] [] pos) (VG ta):=by
 intro fJ s σ H R I h
 refine Call_ (kW I hg hm boot_zip (a6 (iN (ha pos fJ s σ H _ I h) λus s1 r6=>?_) (by rw[hs,sY]) (by rw[sY];rfl)))
 obtain⟨vs,H1,I1,r1,q1⟩:=r6
 try dsimp only at q1
 split at q1
 .rename_i l1 l2
  obtain⟨c,xs,ys,q1,q2,q⟩:=q1
  obtain⟨u1,u2,rfl,e1,e2⟩:=r1.two
  cases e1;cases e2
  obtain⟨us,r1,p1⟩:=q1.val I1
  obtain⟨ws,r2,p2⟩:=q2.val I1
  have lt:∀ {l:ao} {o:HO},H1 l=some o->l<s1.heap.objs.size:=λe=>I1.iF.lt e
  obtain⟨o1,w1⟩:=q1.ex
  obtain⟨o2,w2⟩:=q2.ex
  refine sy p1 p2 λh' hz Bt Bs n1 n2 kp=>cO hz ?_
  have I2:Inv X fJ σ H1 { s1 with heap:=h'}:=I1.iW (t':=s1.toks) kp
  refine⟨s1.heap.objs.size+4,_,_,_,H1,rfl,I2,He (c:=c) (zipApart_new (lt w1) (lt w2)),⟨hz,Bt,⟨_,_,Bs⟩,n1,n2⟩,λb hb=>?_,q⟩
  have Bq:s1.heap.objs.size<=b:=by
   simp only[aR,aL,bQ]at hb
   rcases hb with e|e|e|e|e<;>subst e
   .exact aT ..
   .exact aT ..
   .exact aT ..
   .exact aw _
   .exact aT ..
  exact I1.Er Bq (I1.iF.fresh Bq)
 .exact q1.elim
def Dp:typeLookup (.type "zip") "__len__"=pure none:=by rw[typeLookup_type,builtinLookup_eq_fast];kernel_rfl
def Bx:typeLookup (.type "zip") "__length_hint__"=pure none:=by rw[typeLookup_type,builtinLookup_eq_fast];kernel_rfl
def Ph (z TI TO i1 i2 l1 l2:ao)(i:Nat)(xs ys:Array ar)(h:Heap):Prop :=
 (i=0/\∃ a b,ZS false z TI TO i1 i2 l1 l2 .none a b 0 0 xs ys h)\/∃ T0,ZB false z TI TO i1 i2 l1 l2 T0 i i xs ys h
def Ph.next {P:ah}{w:ai}{A:Around}{s:ak}{E:ar->ak->Prop}{z TI TO i1 i2 l1 l2:ao}{i:Nat}{xs ys:Array ar}{x y:ar}{Q:av ar->ak->Prop}(Z:Ph z TI TO i1 i2 l1 l2 i xs ys s.heap)(D:ZipApart z TI TO i1 i2 l1 l2)(hx:xs[i]?=some x)(hy:ys[i]?=some y)
 (hQ:∀ h',Ph z TI TO i1 i2 l1 l2 (i+1) xs ys h'->IsPair h' s.heap.objs.size x y->ZK z TO i1 i2 s.heap h'->Q (some (.ref s.heap.objs.size)) {s with heap:=h'}):wpAny (model P w) A (pyNext (.ref z)) Q E s:=by
 rcases Z with⟨rfl,a,b,S⟩|⟨T0,S⟩
 .refine By D S hx hy λh' S' hT kk=>hQ h' (.inr ⟨s.heap.objs.size,⟨?_,?_,?_⟩,⟨false,S'.z⟩,S'.ti,S'.n1,S'.n2,S'.q1,S'.q2,⟨_,hT⟩,⟨_,S'.to⟩⟩) hT kk
  .exact bw (jk S.z)
  .obtain⟨o,e⟩:=S.n1.ex;exact bw (jk e)
  .obtain⟨o,e⟩:=S.n2.ex;exact bw (jk e)
 .exact MZ D S hx hy λh' S' hT kk=>hQ h' (.inr ⟨T0,S'⟩) hT kk
def Ph.over {P:ah}{w:ai}{A:Around}{s:ak}{E:ar->ak->Prop}{z TI TO i1 i2 l1 l2:ao}{i:Nat}{xs ys:Array ar}{Q:av ar->ak->Prop}(hh:A.handled=none)(Z:Ph z TI TO i1 i2 l1 l2 i xs ys s.heap)(D:ZipApart z TI TO i1 i2 l1 l2)(hx:xs[i]?=none\/ys[i]?=none)
 (hQ:∀ h',ZK z TO i1 i2 s.heap h'->Q none {s with heap:=h'}):wpAny (model P w) A (pyNext (.ref z)) Q E s:=by
 rcases Z with⟨rfl,a,b,S⟩|⟨T0,S⟩
 .exact Bz hh D S hx hQ
 .exact Q6 hh D S hx hQ
def Ph.but {z TI TO i1 i2 l1 l2 S:ao}{i:Nat}{xs ys:Array ar}{h h':Heap}(Z:Ph z TI TO i1 i2 l1 l2 i xs ys h)(e:Heap.ExtBut S h h')(n:S∉[z,TI,TO,i1,i2,l1,l2])(nT:∀ o,h.get? S=some o->o.cls=.type "list")(nT':∃ o,h'.get? S=some o):Ph z TI TO i1 i2 l1 l2 i xs ys h':=by
 simp only[aR,aL,bQ,not_or]at n
 obtain⟨n1,n2,n3,n4,n5,n6,n7⟩:=n
 rcases Z with⟨rfl,a,b,Sz⟩|⟨T0,Sz⟩
 .exact .inl ⟨rfl,a,b,e _ _ (bD n1) Sz.z,e _ _ (bD n2) Sz.ti,e _ _ (bD n3) Sz.to,Sz.n1.extBut e (bD n4),Sz.n2.extBut e (bD n5),Sz.q1.extBut e (bD n6),Sz.q2.extBut e (bD n7)⟩
 .obtain⟨bb,hz⟩:=Sz.z
  refine .inr ⟨T0,Sz.az,⟨bb,e _ _ (bD n1) hz⟩,e _ _ (bD n2) Sz.ti,Sz.n1.extBut e (bD n4),Sz.n2.extBut e (bD n5),Sz.q1.extBut e (bD n6),Sz.q2.extBut e (bD n7),?_,(let ⟨o,q⟩:=Sz.to;⟨o,e _ _ (bD n3) q⟩)⟩
  obtain⟨o,ho⟩:=Sz.al
  by_cases hT:T0=S
  .subst hT;exact nT'
  .exact⟨o,e _ _ hT ho⟩
section
variable {X:Cx}{fJ:au (ao×Obj)}{σ:St}
def vf (H:Hp)(xs ys:au V)(us:au V):Prop:=∀(i:Nat) (u:V),us[i]?=some u->∃ T x y,u=V.ref T/\H T=some (.tup [x,y])/\xs[i]?=some x/\ys[i]?=some y
def vf.same {H H':Hp}{xs ys us:au V}(h:vf H xs ys us)(s:iL H H'):vf H' xs ys us:=λi u e=>let ⟨T,x,y,a,b,c⟩:=h i u e;⟨T,x,y,a,s _ _ b,c⟩
def Jk {A:Around}{R:Result->ak->Prop}{z TI TO i1 i2 l1 l2 S:ao}{H0:Hp}{xs ys:au V}{xv yv:au ar}{res:ar}(hh:A.handled=none)(D:ZipApart z TI TO i1 i2 l1 l2)(rx:gD xs xv)(ry:gD ys yv)(hz1:xs.length<=sizeLine)
 (nS:S∉[z,TI,TO,i1,i2,l1,l2])
 (hR:∀ s' H' us gu c,Inv X fJ σ H' s'->iL H0 H'->H' S=none->s'.heap.get? S=some (lobj gu c)->gD us gu->us.length=min xs.length ys.length->vf H' xs ys us->R (.ok (.ret res)) s'):
 ∀(k i:Nat) (s:ak) (H:Hp) (us:au V) (gu:au ar) (c:Nat),min xs.length ys.length - i=k->i<=min xs.length ys.length->us.length=i->Inv X fJ σ H s->iL H0 H->(∀ b∈[z,TO,i1,i2,S],mU X fJ H b)->s.heap.get? S=some (lobj gu c)->gD us gu->vf H xs ys us ->
  Ph z TI TO i1 i2 l1 l2 i xv.toArray yv.toArray s.heap->codeAny (model X.prog X.w) A (.builtin "list.extend.loop" ⟨[.ref S,.ref z,res],[]⟩) R s:=by
 have lx:=rx.length
 have ly:=ry.length
 have Qo:S≠z/\S≠TO/\S≠i1/\S≠i2:=by
  simp only[aR,aL,bQ,not_or]at nS
  exact⟨nS.1,nS.2.2.1,nS.2.2.2.1,nS.2.2.2.2.1⟩
 have zk:∀ {h h':Heap},ZK z TO i1 i2 h h'->∀ b o,b∉[z,TO,i1,i2]->h.get? b=some o->h'.get? b=some o:=λkk b o hb e=>kk b o (λq=>hb (by simp[q])) (λq=>hb (by simp[q])) (λq=>hb (by simp[q])) (λq=>hb (by simp[q])) e
 have sub:∀ b∈[z,TO,i1,i2],b∈[z,TO,i1,i2,S]:=λb hb=>by
  simp only[aR,aL,bQ]at hb ⊢
  rcases hb with q|q|q|q<;>simp[q]
 have SnI:S∉[z,TO,i1,i2]:=by
  simp only[aR,aL,bQ,not_or]
  exact⟨Qo.1,Qo.2.1,Qo.2.2.1,Qo.2.2.2⟩
 intro k
 induction k with
 | zero =>
  intro i s H us gu c hk hi hu I hS fp gS rv pr Z
  have ei:i=min xs.length ys.length:=by lia
  refine eA F.entry_extend_loop ?_
  rw[dm dX _]
  show wpAny _ A.in1 (pyNext (.ref z)>>=_) _ _ s
  refine f9 (Z.over (A:=A.in1) hh D (by simp;lia) λh' kk=>?_)
  have I':=I.yB (ch:=[z,TO,i1,i2]) (λb hb=>fp b (sub b hb)) (zk kk)
  exact aA (hR _ H us gu c I' hS (fp S (by simp)).1 (zk kk _ _ SnI gS) rv (hu.trans ei) pr)
 | succ k ih =>
  intro i s H us gu c hk hi hu I hS fp gS rv pr Z
  have mK:i<min xs.length ys.length:=by lia
  obtain⟨x,ex⟩:∃ x,xs[i]?=some x:=⟨xs[i]'(by lia),iM _⟩
  obtain⟨y,ey⟩:∃ y,ys[i]?=some y:=⟨ys[i]'(by lia),iM _⟩
  obtain⟨u,eu,ru⟩:=rx.get ex
  obtain⟨v,ev,rv'⟩:=ry.get ey
  have lu:=rv.length
  refine eA F.entry_extend_loop ?_
  rw[dm dX _]
  show wpAny _ A.in1 (pyNext (.ref z)>>=_) _ _ s
  refine f9 (Z.next (A:=A.in1) D (by simpa using eu) (by simpa using ev) λh' Z' hT kk=>?_)
  have I':=I.BG (ch:=[z,TO,i1,i2]) (λb hb=>fp b (sub b hb)) (zk kk) hT ru rv'
  have hn:H s.heap.objs.size=none:=I.iF.fresh (aw _)
  have S1:iL H (upd H s.heap.objs.size (.tup [x,y])):=iL.upd hn
  have neT:∀ b∈[z,TO,i1,i2,S],b≠s.heap.objs.size:=λb hb q=>by
   have nl:S<s.heap.objs.size:=jk gS
   have nz:z<s.heap.objs.size:=by
    rcases Z with⟨_,a,b,Sz⟩|⟨T0,Sz⟩
    .exact jk Sz.z
    .obtain⟨_,hz⟩:=Sz.z;exact jk hz
   have n1:i1<s.heap.objs.size:=by
    rcases Z with⟨_,a,b,Sz⟩|⟨T0,Sz⟩
    .obtain⟨o,e⟩:=Sz.n1.ex;exact jk e
    .obtain⟨o,e⟩:=Sz.n1.ex;exact jk e
   have n2:i2<s.heap.objs.size:=by
    rcases Z with⟨_,a,b,Sz⟩|⟨T0,Sz⟩
    .obtain⟨o,e⟩:=Sz.n2.ex;exact jk e
    .obtain⟨o,e⟩:=Sz.n2.ex;exact jk e
   have n3:TO<s.heap.objs.size:=by
    rcases Z with⟨_,a,b,Sz⟩|⟨T0,Sz⟩
    .exact jk Sz.to
    .obtain⟨o,e⟩:=Sz.to;exact jk e
   simp only[aR,aL,bQ]at hb
   rcases hb with e|e|e|e|e
   .exact aE nz (e.symm.trans q)
   .exact aE n3 (e.symm.trans q)
   .exact aE n1 (e.symm.trans q)
   .exact aE n2 (e.symm.trans q)
   .exact aE nl (e.symm.trans q)
  have Uy:=zk kk _ _ SnI gS
  have fp':∀ b∈[z,TO,i1,i2,S],mU X fJ (upd H s.heap.objs.size (.tup [x,y])) b:=λb hb=>⟨by rw[gB (neT b hb)];exact(fp b hb).1,(fp b hb).2⟩
  show wpAny _ A.in1 (updateSeq S (·.push (Value.ref s.heap.objs.size))>>=_) _ _ _
  refine f9 (df Uy rfl (aA ⟨d4 dX _,?_⟩) (by rw[aD];lia) (by show(gu.toArray.push _).size<=sizeLine+1;rw[Array.size_push,aD];lia))
  have but:Heap.ExtBut S h' (h'.update S (Obj.mapSeq (·.push (Value.ref s.heap.objs.size)))):=λb o hb e=>(aX _ _ (bD hb)).trans e
  have gS2:=bL (Obj.mapSeq (·.push (Value.ref s.heap.objs.size))) Uy rfl
  have I2:=I'.yB (ch:=[S]) (h'':=h'.update S (Obj.mapSeq (·.push (Value.ref s.heap.objs.size)))) (λb hb=>by rw[List.mem_singleton.mp hb];exact fp' S (by simp)) λb o hb e=>but b o (λq=>hb (by simp[q])) e
  have e2:gu.toArray.push (Value.ref s.heap.objs.size)=(gu++[Value.ref s.heap.objs.size]).toArray:=by simp
  obtain⟨c',gS3⟩:∃ c',(h'.update S (Obj.mapSeq (·.push (Value.ref s.heap.objs.size)))).get? S=some (lobj (gu++[Value.ref s.heap.objs.size]) c'):=by
   have q:=PySem.IsL.update Uy (·.push (Value.ref s.heap.objs.size))
   rw[e2]at q
   exact⟨_,q⟩
  refine ih (i+1) _ _ (us++[.ref s.heap.objs.size]) _ c' (by lia) mK (by rw[l5,bJ,hu]) I2 (hS.trans S1) fp' gS3 (rv.append (.cons (show gH (V.ref s.heap.objs.size) _ from rfl) .nil)) ?_ (Z'.but but nS (λo e=>?_) ⟨_,gS3⟩)
  .intro j u' ej
   by_cases hj:j<us.length
   .rw[t6 hj]at ej
    exact pr.same S1 j u' ej
   .rw[rF (by lia)]at ej
    have hj0:j - us.length=0:=by
     have:=(ka ej).1
     rw[bJ]at this;lia
    rw[hj0]at ej
    cases ej
    have:j=i:=by lia
    subst this
    exact⟨_,x,y,rfl,gp,ex,ey⟩
  .rw[Uy]at e;cases e;rfl
def K0 {H:Hp}{s:ak}{a b:ao}{xs ys:au V}{Q:VK}(I:Inv X fJ σ H s)(gY:X.gY=true)(ha:H a=some (.lst xs))(hb:H b=some (.lst ys))
 (hQ:∀ l us H',H l=none->iL H H'->H' l=some (.lst us)->us.length=min xs.length ys.length->vf H' xs ys us->Q (.ref l) H'):
 wpAny (model X.prog X.w) X.A (call (.type "zip") [.ref a,.ref b]) (λv s1=>wpAny (model X.prog X.w) X.A (call (.type "list") [v]) (EP X fJ σ Q) X.xe s1) X.xe s:=by
 obtain⟨z1,xv,n1,rx,lx,ea⟩:=I.lZ ha
 obtain⟨z2,yv,n2,ry,ly,eb⟩:=I.lZ hb
 have p1:lA false s.heap a xv.toArray:=⟨_,ea,rfl,n1,rfl⟩
 have p2:lA false s.heap b yv.toArray:=⟨_,eb,rfl,n2,rfl⟩
 have la:(a:Nat)<s.heap.objs.size:=jk ea
 have lb:(b:Nat)<s.heap.objs.size:=jk eb
 refine sy p1 p2 λh' hz Bt Bs i1 i2 kp=>?_
 have I1:Inv X fJ σ H {s with heap:=h'}:=I.iW (t':=s.toks) kp
 have D:ZipApart (s.heap.objs.size+4) (s.heap.objs.size+2) (s.heap.objs.size+3) s.heap.objs.size (s.heap.objs.size+1) a b:=zipApart_new la lb
 refine callType_codes (Q₁:=λobj s₁=>obj=.ref h'.objs.size/\s₁={s with heap:=h'.push { cls:=.type "list",data:=.seq #[]}}) F.called_list (F.typeCall_list_1 _) F.entry_list_init (code_list_new _ ⟨rfl,rfl⟩) λobj s₁ h₁=>?_
 obtain⟨rfl,rfl⟩:=h₁
 have hS:(h'.push { cls:=.type "list",data:=.seq #[]}).get? h'.objs.size=some (lobj [] 0):=aI _ rfl
 refine⟨⟨_,hS,rfl⟩,F.args_list_init_2 _ _,?_⟩
 have I2:Inv X fJ σ H {s with heap:=h'.push { cls:=.type "list",data:=.seq #[]}}:=I1.iW (t':=s.toks) λ_ _ e=>j6 _ e
 have sz:s.heap.objs.size+4<h'.objs.size:=jk hz
 have fpn:∀ c,s.heap.objs.size<=c->mU X fJ H c:=λc hc=>I.Er hc (I.iF.fresh hc)
 show wpAny _ X.A.in1.in1 (do let old <- Builtin.List.listItems (.ref h'.objs.size);Builtin.List.listUpdate (.ref h'.objs.size) (λ_=>#[]);letGo old.toList.reverse;Builtin.List.listExtendWith (.ref h'.objs.size) (.ref (s.heap.objs.size+4)) .none) _ _ _
 refine f9 ?_
 unfold Builtin.List.listItems
 refine f9 (bc hS rfl (aA ?_))
 show wpAny _ X.A.in1.in1 (updateSeq h'.objs.size (λ_=>#[])>>=λ_=>letGo (#[]:Array ar).toList.reverse>>=λ_=>Builtin.List.listExtendWith (.ref h'.objs.size) (.ref (s.heap.objs.size+4)) .none) _ _ _
 refine f9 (df hS rfl ?_)
 refine f9 (cY ?_)
 have fill:∀(g:Heap) (tk c:Nat),(∀ d o,d≠h'.objs.size->(h'.push { cls:=.type "list",data:=.seq #[]}).get? d=some o->g.get? d=some o)->g.get? h'.objs.size=some (lobj [] c) ->
  codeAny (model X.prog X.w) X.A.in1 (.builtin "list.extend.loop" ⟨[.ref h'.objs.size,.ref (s.heap.objs.size+4),.none],[]⟩) (wants (λr s₂=>r=.none/\EP X fJ σ Q (.ref h'.objs.size) s₂) X.xe) {s with heap:=g,toks:=tk}:=λg tk c kg gS=>by
  have Qu:∀ d o,h'.get? d=some o->g.get? d=some o:=λd o e=>kg d o (aE (jk e)) (j6 _ e)
  have I3:Inv X fJ σ H {s with heap:=g,toks:=tk}:=I1.iW (t':=tk) Qu
  have nS:h'.objs.size∉[s.heap.objs.size+4,s.heap.objs.size+2,s.heap.objs.size+3,s.heap.objs.size,s.heap.objs.size+1,a,b]:=by
   simp only[aR,aL,bQ,not_or]
   have sz':(s.heap.objs.size:Nat)+4<h'.objs.size:=sz
   refine⟨?_,?_,?_,?_,?_,bw (du la (by lia)),bw (du lb (by lia))⟩<;> (intro q;lia)
  refine Jk (A:=X.A.in1) (I.ok.hd gY) D rx ry z1 nS (H0:=H) ?_ _ 0 _ H [] [] c rfl (bh _) rfl I3 (iL.refl _) ?_ gS .nil (λi u e=>by simp at e) (.inl ⟨rfl,.none,.none,Qu _ _ hz,Qu _ _ Bt,Qu _ _ Bs,i1.at λ_ e=>Qu _ _ e,i2.at λ_ e=>Qu _ _ e,⟨_,Qu _ _ (kp _ _ ea),rfl,n1,rfl⟩,⟨_,Qu _ _ (kp _ _ eb),rfl,n2,rfl⟩⟩)
  .intro s' H' us gu c' I' S' Qo Uy rv lu pr
   refine⟨rfl,?_⟩
   have Zv:=fpn h'.objs.size (by lia)
   have I4:=I'.adopt (ys:=us) Qo Zv.2.1 (by have:=I.sz;lia) Zv.2.2.2.2.1 Zv.2.2.2.2.2 Uy rv (by lia)
   exact⟨.ref h'.objs.size,_,I4,rfl,hQ _ us _ (I.iF.fresh (by lia)) (S'.trans (iL.upd Qo)) gp lu (pr.same (iL.upd Qo))⟩
  .intro d hd
   simp only[aR,aL,bQ]at hd
   refine fpn d ?_
   rcases hd with e|e|e|e|e<;>subst e<;>lia
 have hS₂:=bL (Obj.mapSeq (λ_=>(#[]:Array ar))) hS rfl
 have oth:∀(d:ao) (o:Obj),d≠h'.objs.size->(h'.push { cls:=.type "list",data:=.seq #[]}).get? d=some o->((h'.push { cls:=.type "list",data:=.seq #[]}).update h'.objs.size (Obj.mapSeq (λ_=>(#[]:Array ar)))).get? d=some o :=
  λd o hd e=>(aX _ _ (bD hd)).trans e
 have Dk:=oth _ _ (aE sz) (j6 { cls:=.type "list",data:=.seq #[]} hz)
 have X8:Shared.TypeIs {s with heap:=(h'.push { cls:=.type "list",data:=.seq #[]}).update h'.objs.size (Obj.mapSeq (λ_=>(#[]:Array ar)))} (.ref (s.heap.objs.size+4)) "zip":=⟨_,Dk,rfl⟩
 unfold Builtin.List.listExtendWith
 refine f9 (wpAny_typeOf X8 ?_)
 have e1:Builtin.List.listSameRef (.ref h'.objs.size) (.ref (s.heap.objs.size+4))=false:=by
  simp only[Builtin.List.listSameRef]
  exact dh (bw sz)
 have e2:(Value.type "zip"==Value.type "list")=false:=by decide
 have e3:(Value.type "zip"==Value.type "tuple")=false:=by decide
 simp only[e1,e2,e3,Bool.or_false,eL,if_false]
 refine f9 (cO Dk ?_)
 refine f9 (bP ?_)
 unfold Builtin.List.listLengthHint
 refine f9 (wpAny_specialOf X8 Dp ?_)
 show wpAny _ _ (specialOf (Value.ref (s.heap.objs.size+4)) (Str.ofString "__length_hint__")>>=_) _ _ _
 refine f9 (wpAny_specialOf X8 Bx ?_)
 refine aA ?_
 show wpAny _ _ (rule "list.extend.makes-room" >>= λ_=>Builtin.List.listTouch (.ref h'.objs.size) >>= λ_ =>
  again (.builtin "list.extend.loop" ⟨[.ref h'.objs.size,.ref (s.heap.objs.size+4),.none],[]⟩)) _ _ _
 refine f9 (dJ ?_)
 refine f9 ?_
 show wpAny _ _ (updateSeq h'.objs.size (·.push .none)>>=λ_=>updateSeq h'.objs.size (·.pop)) _ _ _
 refine f9 (df hS₂ rfl ?_)
 have hS₃:=bL (Obj.mapSeq (·.push Value.none)) hS₂ rfl
 refine df (hz:=by seq_fits) hS₃ rfl ?_
 have hS₄:=bL (Obj.mapSeq (·.pop)) hS₃ rfl
 refine aA ⟨d4 dX _,fill _ s.toks _ (λd o hd e=>?_) hS₄⟩
 exact(aX _ _ (bD hd)).trans ((aX _ _ (bD hd)).trans (oth d o hd e))
end
def Ite (l:ao):It :=
 ⟨λi H=>∃ xs x,H l=some (.lst xs)/\xs[i]?=some x,
  λi H v H'=>∃ T x,v=.ref T/\H T=none/\H'=upd H T (.tup [.int i,x])/\∀ xs,H l=some (.lst xs)->xs[i]?=some x,
  λi H=>∃ xs,H l=some (.lst xs)/\i=xs.length⟩
def Dw {P:ah}{w:ai}{K:aa}{elts:au Expr}{kk:Nat}{tpos:Pos}{e it l:ao}(Zy:e≠it)(hle:l≠e)(hli:l≠it):
 Turn P w K (.Tuple elts kk tpos) (Ite l) [e,it] e (λi h=>(∃ old,IsEnum h e it i old)/\h.IsListIter it l i) where
 mem:=by simp
 obj:=λi h st b hb=>by
  obtain⟨⟨old,he⟩,o,ho,hc,hd⟩:=st
  simp only[aR,aL,bQ]at hb
  rcases hb with rfl|rfl
  .exact⟨_,he,λv q=>by cases q⟩
  .exact⟨o,ho,λv q=>by rw[hd]at q;cases q⟩
 keep:=λi h h' st k=>by
  obtain⟨⟨old,he⟩,o,ho,r⟩:=st
  exact⟨⟨old,k e (by simp) _ he⟩,o,k it (by simp) _ ho,r⟩
 item:=by
  intro X hP hw hK hc i fJ s σ H E I hf st hg
  subst hP hw hK
  obtain⟨⟨old,he⟩,hit⟩:=st
  obtain⟨xs,x,hl,ex⟩:=hg
  obtain⟨_,gu,n,r,_,ho⟩:=I.lZ hl
  have Bk:s.heap.IsList l gu.toArray:=⟨_,ho,rfl,n,rfl⟩
  obtain⟨u,eu,ru⟩:=r.get ex
  have mK:i<gu.toArray.size:=by rw[aD];exact(ka eu).1
  have D:=Draws.list (prog:=X.prog) (w:=X.w) (A:=X.A.in1) (I.ok.hd hc) it l hli gu.toArray
  refine wpAny_pyNext_enum_itemD D he ⟨hit,Bk⟩ mK Zy (by simp[Zy,bD hle]) λy h1 tk hPy ho1 Zd hT hsz hk=>?_
  have hy:y=u:=by
   have q:gu[i]?=some y:=by simpa using hPy
   rw[eu]at q;exact(aK q).symm
  subst hy
  refine⟨_,rfl,wpAny_letOwnedTupleGo_enum ho1 λh2 QB sY=>?_⟩
  have fr:∀ b∈[e,it],mU X fJ H b:=hf
  have lte:e<s.heap.objs.size:=jk he
  have ne1:s.heap.objs.size≠e:=bw lte
  have Tb:IsPair h2 s.heap.objs.size (.int i tk) y:=(sY.2 _ ne1).trans hT
  have kp:∀ b o,b∉[e,it]->s.heap.get? b=some o->h2.get? b=some o:=λb o hb q=>by
   have b1:b≠e:=λz=>hb (by simp[z])
   have b2:b≠it:=λz=>hb (by simp[z])
   exact(sY.2 b b1).trans (hk b o b1 b2 q)
  have hn:H s.heap.objs.size=none:=I.iF.fresh (aw _)
  have I1:=(I.BG (ch:=[e,it]) (h'':=h2) (x:=.int i) (y:=x) fr kp Tb ⟨tk,rfl⟩ ru).tok (tk+1)
  refine⟨.ref s.heap.objs.size,_,I1,rfl,⟨_,x,rfl,hn,rfl,λzs q=>by rw[hl]at q;cases q;exact ex⟩,⟨⟨_,by simpa using QB⟩,Zd.1.at λo q=>(sY.2 it (bD Zy)).trans q⟩,λb hb=>?_⟩
  have lti:it<s.heap.objs.size:=by obtain⟨o,q,_⟩:=hit;exact jk q
  rw[gB]
  .exact(hf b hb).1
  .simp only[aR,aL,bQ]at hb
   rcases hb with rfl|rfl
   .exact aE lte
   .exact aE lti
 done:=by
  intro X hP hw hK hc i fJ s σ H E I hf st hg
  subst hP hw hK
  obtain⟨⟨old,he⟩,hit⟩:=st
  obtain⟨xs,hl,ei⟩:=hg
  obtain⟨_,gu,n,r,ll,ho⟩:=I.lZ hl
  have Bk:s.heap.IsList l gu.toArray:=⟨_,ho,rfl,n,rfl⟩
  have D:=Draws.list (prog:=X.prog) (w:=X.w) (A:=X.A.in1) (I.ok.hd hc) it l hli gu.toArray
  have en:i=gu.toArray.size:=by rw[aD,ei];exact ll
  refine wpAny_pyNext_enum_endD D he (by rw[<- en];exact⟨hit,Bk⟩) λh' hx=>⟨rfl,?_⟩
  exact I.yB (ch:=[e,it]) (λb hb=>hf b hb) λb o hb q=>hx b o (λz=>hb (by simp[z])) q
 self:=λ_ _ _ _ _ st h=>let ⟨⟨_,e⟩,_⟩:=st;eT e h
section
variable {X:Cx}{a b e:Expr}{es:au Expr}{pos:Pos}
def SG (ta:TA):TI:=λσ H R=>ta σ H λvs H1=>match vs with
 |[.ref l]=>∃ xs,H1 l=some (.lst xs)/\R (Ite l) H1
 |_=>False
def Kc {elts:au Expr}{kk:Nat}{tpos:Pos}{ta:TA}{p:Pos}(hg:Gl X "enumerate")(hm:X.mg "enumerate"=none)(ha:PA X [a] ta)(hs:starEach [a] X.env=[(false,eval a X.env)]:=by rfl):
 PI X (.Tuple elts kk tpos) (.Call (.Name "enumerate" p) [a] [] pos) (SG ta):=by
 intro fJ s σ H R I h
 refine Call_ (kW I hg hm (show bootBuiltins "enumerate"=some (.type "enumerate") by decide +kernel) (a6 (iN (ha pos fJ s σ H _ I h) λus s1 q9=>?_) hs rfl))
 obtain⟨vs,H1,I1,r1,q1⟩:=q9
 try dsimp only at q1
 split at q1
 .rename_i l
  obtain⟨xs,hl,q⟩:=q1
  obtain⟨u,rfl,ru⟩:=r1.one
  cases ru
  obtain⟨_,gu,n,r,ll,ho⟩:=I1.lZ hl
  have lt:l<s1.heap.objs.size:=jk ho
  refine call_enumerate_list (l:=l) (items:=gu.toArray) ⟨_,ho,rfl,n,rfl⟩ λh' he hi hsz kp=>eT he ?_
  have I2:Inv X fJ σ H1 { s1 with heap:=h'}:=I1.iW (t':=s1.toks) kp
  refine⟨s1.heap.objs.size+1,_,_,_,H1,rfl,I2,Dw (bw (bF _)) (aE (bx lt)) (aE lt),⟨⟨_,he⟩,hi⟩,λb hb=>?_,q⟩
  have Bq:s1.heap.objs.size<=b:=by
   simp only[aR,aL,bQ]at hb
   rcases hb with e|e<;>subst e
   .exact dr _
   .exact aw _
  exact I1.Er Bq (I1.iF.fresh Bq)
 .exact q1.elim
def dItZ (w:DA):DI:=λρ μ K=>w ρ μ λds gy=>match ds with
 |[x,y]=>opt (lv gy x) λxs=>opt (lv gy y) λys=>K (List.zipWith (λa b=>D.tup [a,b]) xs ys) (λgq=>lc x xs gq/\lc y ys gq) gy
 |_=>False
def Co {elts:au Expr}{kk:Nat}{tpos:Pos}{w:DA}{p:Pos}(hg:Gl X "zip")(hm:X.mg "zip"=none)(ha:wy X [a,b] w)(hs:starEach [a,b] X.env=[(false,eval a X.env),(false,eval b X.env)]:=by rfl)(sY:starEach [b] X.env=[(false,eval b X.env)]:=by rfl):
 G4 X (.Tuple elts kk tpos) (.Call (.Name "zip" p) [a,b] [] pos) (dItZ w):=(NT hg hm ha hs sY).imp λσ H Q hq=>by
 obtain⟨φ,ρ,μ,K,A,M,k,L⟩:=hq
 refine⟨φ,ρ,μ,_,A,M,k,λds gy gT vs H1 k1 f1 M1 i1=>?_⟩
 split at k1
 .rename_i x y
  obtain⟨xs,ex,k1⟩:=iw k1
  obtain⟨ys,ey,k1⟩:=iw k1
  .obtain⟨v,r,rfl,h1,u,r',rfl,h2,h3⟩:=i1
   cases(show r'=[]from h3)
   obtain⟨p1,vx,rfl,SQ,ax⟩:=kJ M1 h1 ex
   obtain⟨p2,vy,rfl,SO,ay⟩:=kJ M1 h2 ey
   refine⟨false,vx,vy,SQ,SO,L _ _ gy gT _ H1 k1 f1 M1 λgN H' gq f M' c i=>?_⟩
   obtain⟨vx,hx,ax⟩:=qK M1 h1 ex f M' c.1
   obtain⟨vy,hy,ay⟩:=qK M1 h2 ey f M' c.2
   have lx:=ax.len
   have ly:=ay.len
   refine⟨λd hd=>?_,λhi=>⟨vx,vy,hx,hy,by rw[bG]at hi;lia⟩⟩
   rw[bT]at hd
   cases e1:xs[i]? with
   |none=>rw[e1]at hd;cases hd
   | some dx =>
    cases e2:ys[i]? with
    |none=>rw[e1,e2]at hd;cases hd
    | some dy =>
     rw[e1,e2]at hd
     cases hd
     obtain⟨v1,g1,j1⟩:=ax.get e1
     obtain⟨v2,g2,j2⟩:=ay.get e2
     refine⟨⟨vx,vy,v1,v2,hx,hy,g1,g2⟩,λz Po OC=>?_⟩
     obtain⟨T,x',y',rfl,hT,rfl,q1,q2⟩:=OC
     have c1:=q1 vx hx
     have c2:=q2 vy hy
     rw[g1]at c1;cases c1
     rw[g2]at c2;cases c2
     have fn:=Fr.new (φ:=gN) (o:=.tup [v1,v2]) hT
     exact⟨fn,M'.same (iL.upd hT),T,_,rfl,M'.fresh hT,gp,v1,_,rfl,j1.mono fn,v2,_,rfl,j2.mono fn,rfl⟩
 .exact k1.elim
def nX (ds:au D):au D:=List.zipWith (λi d=>D.tup [.int (i:Nat),d]) (List.range ds.length) ds
def yX {ds:au D}{i:Nat}{d:D}(h:(nX ds)[i]?=some d):∃ x,ds[i]?=some x/\d=.tup [.int i,x]:=by
 unfold nX at h
 rw[bT]at h
 cases e:ds[i]? with
 |none=>rw[e]at h;cases q:(List.range ds.length)[i]?<;>(rw[q]at h;cases h)
 | some x =>
  have hi:=(ka e).1
  rw[e,ba hi]at h
  cases h
  exact⟨x,rfl,rfl⟩
def mW (ds:au D):(nX ds).length=ds.length:=by unfold nX;rw[bG,pW,Nat.min_self]
def dItE (w:DA):DI:=λρ μ K=>w ρ μ λds gy=>match ds with
 |[x]=>opt (lv gy x) λxs=>K (nX xs) (λgq=>lc x xs gq) gy
 |_=>False
def Ar {elts:au Expr}{kk:Nat}{tpos:Pos}{w:DA}{p:Pos}(hg:Gl X "enumerate")(hm:X.mg "enumerate"=none)(ha:wy X [a] w)(hs:starEach [a] X.env=[(false,eval a X.env)]:=by rfl):
 G4 X (.Tuple elts kk tpos) (.Call (.Name "enumerate" p) [a] [] pos) (dItE w):=(Kc hg hm ha hs).imp λσ H Q hq=>by
 obtain⟨φ,ρ,μ,K,A,M,k,L⟩:=hq
 refine⟨φ,ρ,μ,_,A,M,k,λds gy gT vs H1 k1 f1 M1 i1=>?_⟩
 split at k1
 .rename_i x
  obtain⟨xs,ex,k1⟩:=iw k1
  .obtain⟨v,r,rfl,h1,h3⟩:=i1
   cases(show r=[]from h3)
   obtain⟨p1,vx,rfl,SQ,ax⟩:=kJ M1 h1 ex
   refine⟨vx,SQ,L _ _ gy gT _ H1 k1 f1 M1 λgN H' gq f M' c i=>?_⟩
   obtain⟨vx,hx,ax⟩:=qK M1 h1 ex f M' c
   have lx:=ax.len
   refine⟨λd hd=>?_,λhi=>⟨vx,hx,by rw[mW]at hi;lia⟩⟩
   obtain⟨dx,e1,rfl⟩:=yX hd
   obtain⟨v1,g1,j1⟩:=ax.get e1
   refine⟨⟨vx,v1,hx,g1⟩,λz Po OC=>?_⟩
   obtain⟨T,x',rfl,hT,rfl,q1⟩:=OC
   have c1:=q1 vx hx
   rw[g1]at c1;cases c1
   have fn:=Fr.new (φ:=gN) (o:=.tup [.int i,v1]) hT
   exact⟨fn,M'.same (iL.upd hT),T,_,rfl,M'.fresh hT,gp,.int i,_,rfl,rfl,v1,_,rfl,j1.mono fn,rfl⟩
 .exact k1.elim
def dLZ (m:Bool)(w:DA):De:=λρ μ K=>w ρ μ λds gy=>match ds with
 |[x,y]=>opt (lv gy x) λxs=>opt (lv gy y) λys=>nL m (List.zipWith (λa b=>D.tup [a,b]) xs ys) gy K
 |_=>False
def Fw {φ:au ao}{H:Hp}{xs ys:au D}{vx vy us:au V}(ax:gh φ H xs vx)(ay:gh φ H ys vy)(hu:us.length=min vx.length vy.length)(nφ:∀(T:ao) (zs:au V),H T=some (.tup zs)->T∉φ)(h:vf H vx vy us):gh φ H (List.zipWith (λa b=>D.tup [a,b]) xs ys) us:=by
 have key:∀(ds:au D) (us:au V),ds.length=us.length->(∀(i:Nat) (d:D) (u:V),ds[i]?=some d->us[i]?=some u->jE φ H d u)->gh φ H ds us:=by
  intro ds
  induction ds with
  | nil=>intro us hl _;cases us with
   |nil=>rfl
   |cons _ _=>simp at hl
  | cons d ds ih =>
   intro us hl hh
   cases us with
   |nil=>simp at hl
   |cons u us=>exact⟨u,us,rfl,hh 0 d u rfl rfl,ih us (by simpa using hl) λi d' u' e1 e2=>hh (i+1) d' u' (by simpa using e1) (by simpa using e2)⟩
 refine key _ _ (by rw[bG,hu,ax.len,ay.len]) λi d u e1 e2=>?_
 obtain⟨T,x,y,rfl,hT,hx,hy⟩:=h i u e2
 obtain⟨dx,ex,ix⟩:=ax.Cu hx
 obtain⟨dy,ey,iy⟩:=ay.Cu hy
 rw[bT,ex,ey]at e1
 cases e1
 exact⟨T,_,rfl,nφ T _ hT,hT,x,_,rfl,ix,y,_,rfl,iy,rfl⟩
def y9 (m:Bool){w:DA}{p p2 oj:Pos}(gY:X.gY=true)(hg:Gl X "list")(hm:X.mg "list"=none)(OI:Gl X "zip")(Ic:X.mg "zip"=none)(ha:wy X [a,b] w)(hs:starEach [a,b] X.env=[(false,eval a X.env),(false,eval b X.env)]:=by rfl)(sY:starEach [b] X.env=[(false,eval b X.env)]:=by rfl)
 (FR:starEach [.Call (.Name "zip" p2) [a,b] [] oj] X.env=[(false,eval (.Call (.Name "zip" p2) [a,b] [] oj) X.env)]:=by rfl):
 PD X (.Call (.Name "list" p) [.Call (.Name "zip" p2) [a,b] [] oj] [] pos) (dLZ m w):=by
 intro fJ s σ H Q I h
 refine cP (kW I hg hm boot_list ?_)
 obtain⟨φ,ρ,μ,K,A,M,k,L⟩:=h
 refine a6 ?_ FR rfl
 rw[FR]
 show wpAny _ _ (spliced ((false,eval (.Call (.Name "zip" p2) [a,b] [] oj) X.env)::backTo pos [])) _ _ s
 refine eK ?_
 have hq:Ua w σ H (λvs H1=>match vs with | [.ref a,.ref b]=>∃(xs ys:au V),H1 a=some (.lst xs)/\H1 b=some (.lst ys)/\∀ l us H',H1 l=none->iL H1 H'->H' l=some (.lst us)->us.length=min xs.length ys.length->vf H' xs ys us->Q (.ref l) H' | _=>False):=by
  refine⟨φ,ρ,μ,_,A,M,k,λds gy gT vs H1 k1 f1 M1 i1=>?_⟩
  split at k1
  .rename_i x y
   obtain⟨xs,ex,k1⟩:=iw k1
   obtain⟨ys,ey,k1⟩:=iw k1
   .obtain⟨v,r,rfl,h1,u,r',rfl,h2,h3⟩:=i1
    cases(show r'=[]from h3)
    obtain⟨p1,vx,rfl,SQ,ax⟩:=kJ M1 h1 ex
    obtain⟨p2,vy,rfl,SO,ay⟩:=kJ M1 h2 ey
    refine⟨vx,vy,SQ,SO,λl us H' hl S' hu len pr=>?_⟩
    have oJ:l∉gT:=M1.fresh hl
    have M2:=M1.same S'
    have f2:Fr gT H1 gT H':=.same S'
    have nt:∀(T:ao) (zs:au V),H' T=some (.tup zs)->T∉gT:=λT zs e hT=>by
     obtain⟨j,hj,ej⟩:=aM hT
     obtain⟨q,e1,e2⟩:=M2.at_ j (gy[j]'(by have:=M2.len;lia)) (iM _)
     rw[iM hj,ej]at e1
     cases e1
     revert e2
     cases gy[j]'(by have:=M2.len;lia)with
     |box=>rintro⟨q,ns,i,r,z,h1,_⟩;rw[e]at h1;cases h1
     |lst ds=>rintro⟨vs,h1,_⟩;rw[e]at h1;cases h1
     |jX ks ds=>rintro⟨fX,vs,h1,_⟩;rw[e]at h1;cases h1
     |xq o fX ds=>rintro⟨h1,_⟩;rw[e]at h1;cases h1
     |ins C ns ds=>rintro⟨dx,fs,h1,_⟩;rw[e]at h1;cases h1
     |nB ks ds=>rintro⟨fX,h1,_⟩;rw[e]at h1;cases h1
     |gx lq H0=>rintro⟨_,_,_,h4⟩;exact absurd e (h4 _)
     |exc c=>intro h1;rw[show _=_ from h1]at e;cases e
    have al:=Fw (ax.mono f2) (ay.mono f2) len nt pr
    cases m with
    |false=>exact L _ gy gT _ H' k1 (f1.trans f2) M2 ⟨l,us,rfl,oJ,hu,al⟩
    | true =>
     have f3:Fr gT H1 (gT++[l]) H':=⟨(Fr.snoc (φ:=gT) hl).ext,λc o _ e=>S' c o e,λc e=>S'.free e⟩
     have M3:gE (gT++[l]) H' (gy++[.lst (List.zipWith (λa b=>D.tup [a,b]) xs ys)]):=by
      have nt':∀(T:ao) (zs:au V),H' T=some (.tup zs)->T∉gT++[l]:=λT zs e hT=>by
       rcases List.mem_append.mp hT with q|q
       .exact nt T zs e q
       .rw[List.mem_singleton.mp q,hu]at e;cases e
      have al':=Fw (ax.mono f3) (ay.mono f3) len nt' pr
      refine⟨?_,by rw[l5,l5,M1.len];rfl,λk n e=>?_⟩
      .rw[fb]
       exact⟨M1.nd,by simp,λa ha b hb=>by rw[List.mem_singleton.mp hb];intro z;exact oJ (by rw[<- z];exact ha)⟩
      .by_cases hk:k<gy.length
       .rw[t6 hk]at e
        obtain⟨q,e1,e2⟩:=M1.at_ k n e
        exact⟨q,f3.get e1,e2.mono f3 λu eu=>S' _ _ eu⟩
       .have Bp:k=gy.length:=by
         have:=(ka e).1
         rw[l5,bJ]at this
         lia
        subst Bp
        rw[rF (aw _),a8]at e
        cases e
        exact⟨l,by rw[rF (by rw[M1.len];exact aw _),M1.len,a8];rfl,us,hu,al'⟩
     exact L _ _ (gT++[l]) _ H' k1 (f1.trans f3) M3 ⟨l,by rw[rF (by rw[M1.len];exact aw _),M1.len,a8];rfl,rfl⟩
  .exact k1.elim
 refine Call_ (kW I OI Ic boot_zip (a6 (iN (ha oj fJ s σ H _ I hq) λus s1 rZ=>?_) (by rw[hs,sY]) (by rw[sY];rfl)))
 obtain⟨vs,H1,I1,r1,q1⟩:=rZ
 try dsimp only at q1
 split at q1
 .rename_i l1 l2
  obtain⟨xs,ys,h1,h2,q⟩:=q1
  obtain⟨u1,u2,rfl,e1,e2⟩:=r1.two
  cases e1;cases e2
  exact iN (K0 I1 gY h1 h2 q) λv s2 hv=>fh hv
 .exact q1.elim
end
def wz.val {φ:au ao}{H:Hp}{μ:MS}{K:DK}{Q:VK}{d:D}{v:V}(L:wz φ H K Q)(M:gE φ H μ)(k:K d μ)(i:jE φ H d v):Q v H:=L d μ φ v H k (.refl _ _) M i
def TC (m:Bool):xP:=λx y μ K=>match x,y with
 |.int i,.int j=>K (.int (i+j)) μ
 |.str i,.str j=>i.length+j.length<=sizeLine/\K (.str (i++j)) μ
 |x,y=>opt (lv μ x) λxs=>opt (lv μ y) λys=>xs.length+ys.length<=sizeLine/\nL m (xs++ys) μ K
def Rp {m:Bool}:rp J5 (TC m):=λφ H x y dx dy μ K Q M hx hy k L=>by
 unfold TC at k
 split at k
 .cases(show x=_ from hx);cases(show y=_ from hy);exact L.val M k rfl
 .cases(show x=_ from hx);cases(show y=_ from hy);exact⟨k.1,L.val M k.2 rfl⟩
 .obtain⟨xs,ex,k⟩:=iw k
  obtain⟨ys,ey,k⟩:=iw k
  obtain⟨p,vx,rfl,hp,ax⟩:=kJ M hx ex
  obtain⟨q,vy,rfl,hq,ay⟩:=kJ M hy ey
  exact⟨vx,vy,hp,hq,by rw[ax.len,ay.len];exact k.1,λl hl=>Mr L M (ax.app ay) k.2 hl⟩
def dI2 (C:Int->Int->Prop)(g:Int->Int->D):xP:=λx y μ K=>match x,y with
 |.int i,.int j=>C i j/\K (g i j) μ
 |_,_=>False
def vw (g:Int->Int->D):xP:=λx y μ K=>match x,y with
 |.int i,.int j=>K (g i j) μ
 |_,_=>False
def P0 {C:Int->Int->Prop}{g:Int->Int->Int}:rp (Ue C λi j=>.int (g i j)) (dI2 C λi j=>.int (g i j)):=λφ H x y dx dy μ K Q M hx hy k L=>by
 unfold dI2 at k
 split at k
 .cases(show x=_ from hx);cases(show y=_ from hy);exact⟨k.1,L.val M k.2 rfl⟩
 .exact k.elim
def Ro {g:Int->Int->Int}:rp (zY λi j=>.int (g i j)) (vw λi j=>.int (g i j)):=λφ H x y dx dy μ K Q M hx hy k L=>by
 unfold vw at k
 split at k
 .cases(show x=_ from hx);cases(show y=_ from hy);exact L.val M k rfl
 .exact k.elim
def qa {g:Int->Int->Bool}:rp (zY λi j=>.bl (g i j)) (vw λi j=>.bl (g i j)):=λφ H x y dx dy μ K Q M hx hy k L=>by
 unfold vw at k
 split at k
 .cases(show x=_ from hx);cases(show y=_ from hy);exact L.val M k rfl
 .exact k.elim
def Ww:xP:=λx y μ K=>match x,y with
 |.int i,.int j=>IL i j/\K (.int (i*j)) μ
 |.str z,.int n=>∃ c:Nat,z=⟨#[c]⟩ /\ -1000000<=n/\n<=1000000/\K (.str ⟨(List.replicate n.toNat c).toArray⟩) μ
 |_,_=>False
def p9:rp JY Ww:=λφ H x y dx dy μ K Q M hx hy k L=>by
 unfold Ww at k
 split at k
 .cases(show x=_ from hx);cases(show y=_ from hy);exact⟨k.1,L.val M k.2 rfl⟩
 .cases(show x=_ from hx);cases(show y=_ from hy)
  obtain⟨c,rfl,h1,h2,k⟩:=k
  exact⟨c,rfl,h1,h2,L.val M k rfl⟩
 .exact k.elim
def L7 (neg:Bool):xP:=λx y μ K=>match x,y with
 |.int i,.int j=>K (.bl (neg != decide (i=j))) μ
 |.str i,.str j=>K (.bl (neg != decide (i=j))) μ
 |.bl i,.bl j=>K (.bl (neg != decide (i=j))) μ
 |_,_=>False
def rL {neg:Bool}:rp (J4 neg) (L7 neg):=λφ H x y dx dy μ K Q M hx hy k L=>by
 unfold L7 at k
 split at k
 .cases(show x=_ from hx);cases(show y=_ from hy);exact L.val M k rfl
 .cases(show x=_ from hx);cases(show y=_ from hy);exact L.val M k rfl
 .cases(show x=_ from hx);cases(show y=_ from hy);exact L.val M k rfl
 .exact k.elim
def WA:xP:=λx y μ K=>match x,y with
 |.str z,.int i=>z.length<=sizeLine/\opt (lB z.cps.toList i) λc=>K (.str ⟨#[c]⟩) μ
 |.tup ds,.int i=>opt (lB ds i) λd=>K d μ
 |x,.int i=>opt (lv μ x) λds=>opt (lB ds i) λd=>K d μ
 |_,_=>False
def gh.lB {φ:au ao}{H:Hp}{ds:au D}{vs:au V}{i:Int}{d:D}(h:gh φ H ds vs)(e:lB ds i=some d):∃ v,lB vs i=some v/\jE φ H d v:=by
 unfold L2.lB at e ⊢
 rw[h.len]
 cases q:FQ ds.length i with
 |none=>rw[q]at e;cases e
 |some j=>rw[q]at e;exact h.get e
def UZ:rp RA WA:=λφ H x y dx dy μ K Q M hx hy k L=>by
 unfold WA at k
 split at k
 .cases(show x=_ from hx);cases(show y=_ from hy)
  obtain⟨c,e,k'⟩:=iw k.2
  exact⟨k.1,fN e (L.val M k' rfl)⟩
 .cases(show y=_ from hy)
  obtain⟨d,e,k⟩:=iw k
  obtain⟨p,vs,rfl,_,hp,ha⟩:=hx
  obtain⟨v,ev,iv⟩:=ha.lB e
  exact⟨vs,.inr hp,fN ev (L.val M k iv)⟩
 .cases(show y=_ from hy)
  obtain⟨ds,el,k⟩:=iw k
  obtain⟨d,e,k⟩:=iw k
  obtain⟨p,vs,rfl,hp,ha⟩:=kJ M hx el
  obtain⟨v,ev,iv⟩:=ha.lB e
  exact⟨vs,.inl hp,fN ev (L.val M k iv)⟩
 .exact k.elim
abbrev DO:=DE->MS->(av Int->MS->Prop)->Prop
def Xm (w:DO):TO:=λσ H Q=>∃ φ ρ μ K,k8 φ H ρ σ/\gE φ H μ/\w ρ μ K/\∀ o gq gN H',K o gq->Fr φ H gN H'->gE gN H' gq->Q o H'
def dNo:DO:=λ_ μ K=>K none μ
def Wu (w:De):DO:=λρ μ K=>w ρ μ λd gy=>match d with|.int i=>K (some i) gy|_=>False
def cutD (ds:au D)(lo hi:av Int):au D:=(ds.drop (HT.oh ds.length 0 lo)).take (HT.oh ds.length ds.length hi - HT.oh ds.length 0 lo)
def dSlc (m:Bool)(w:De)(l h:DO):De:=λρ μ K=>w ρ μ λx gy=>l ρ gy λlo jb=>h ρ jb λhi uS=>match x with
 |.str z=>z.length<=sizeLine/\K (.str ⟨(kX z.cps.toList lo hi).toArray⟩) uS
 |x=>opt (lv uS x) λds=>nL m (cutD ds lo hi) uS K
section
variable {X:Cx}{a b e:Expr}{es:au Expr}{pos:Pos}
def PO.imp {e:av Expr}{t t':TO}(h:PO X e t)(hi:∀ σ H Q,t' σ H Q->t σ H Q):PO X e t':=λfJ s σ H Q I q=>h fJ s σ H Q I (hi σ H Q q)
def KH:PO X none (Xm dNo):=RI.imp λσ H Q tY=>by obtain⟨φ,ρ,μ,K,A,M,k,L⟩:=tY;exact L none μ φ H k (.refl _ _) M
def lW {w:De}(h:PD X e w):PO X (some e) (Xm (Wu w)):=(J9 h).imp λσ H Q ⟨φ,ρ,μ,K,A,M,k,L⟩ =>
 ⟨φ,ρ,μ,_,A,M,k,λd gy gT v1 H1 k1 f1 M1 i1=>by
  cases d with
  |int i=>cases(show v1=_ from i1);exact L _ gy gT H1 k1 f1 M1
  |_=>exact k1.elim⟩
def gh.cut {φ:au ao}{H:Hp}{ds:au D}{vs:au V}(h:gh φ H ds vs)(lo hi:av Int):gh φ H (cutD ds lo hi) (EB vs lo hi):=by
 unfold cutD EB
 rw[h.len]
 exact(h.drop _).take _
def mR (m:Bool){lo hi:av Expr}{w:De}{l h:DO}{p:Pos}(ha:PD X a w)(hl:PO X lo (Xm l))(hh:PO X hi (Xm h)):PD X (.Subscript a (.Slice lo hi none p) pos) (dSlc m w l h):=(Kh slC ha hl hh).imp λσ H Q hq=>by
 obtain⟨φ,ρ,μ,K,A,M,k,L⟩:=hq
 refine⟨φ,ρ,μ,_,A,M,k,λd gy gT v1 H1 k1 f1 M1 i1=>?_⟩
 refine⟨gT,ρ,gy,_,A.mono f1,M1,k1,λlo jb l8 H2 k2 f2 M2=>?_⟩
 refine⟨l8,ρ,jb,_,A.mono (f1.trans f2),M2,k2,λhi uS Ha H3 k3 f3 M3=>?_⟩
 have i3:=i1.mono (f2.trans f3)
 have L3:=L.mono (f1.trans (f2.trans f3))
 split at k3
 .cases(show v1=_ from i3);exact⟨k3.1,L3.val M3 k3.2 rfl⟩
 .obtain⟨ds,el,k⟩:=iw k3
  obtain⟨p,vs,rfl,hp,ha⟩:=kJ M3 i3 el
  exact⟨vs,hp,λl hl=>Mr L3 M3 (ha.cut lo hi) k hl⟩
end
def ON:jP:=λds μ K=>match ds with
 |[.str z]=>z.length<=sizeLine/\K (.int z.length) μ
 |[.tup xs]=>K (.int xs.length) μ
 |[x]=>opt (lv μ x) λxs=>K (.int xs.length) μ
 |_=>False
def Rn:mF J1 ON:=λφ H vs ds μ K Q M h k L=>by
 unfold ON at k
 split at k
 .obtain⟨v,r,rfl,h1,h2⟩:=h;cases(show r=[]from h2);cases(show v=_ from h1);exact⟨k.1,L.val M k.2 rfl⟩
 .obtain⟨v,r,rfl,h1,h2⟩:=h;cases(show r=[]from h2)
  obtain⟨p,vs,rfl,_,hp,ha⟩:=h1
  exact⟨vs,.inr hp,by rw[ha.len];exact L.val M k rfl⟩
 .obtain⟨v,r,rfl,h1,h2⟩:=h;cases(show r=[]from h2)
  obtain⟨xs,el,k⟩:=iw k
  obtain⟨p,vs,rfl,hp,ha⟩:=kJ M h1 el
  exact⟨vs,.inl hp,by rw[ha.len];exact L.val M k rfl⟩
 .exact k.elim
def Wa:jP:=λds μ K=>match ds with|[.int i,.int j]=>K (.int (max i j)) μ|_=>False
def zO:mF Qg Wa:=λφ H vs ds μ K Q M h k L=>by
 unfold Wa at k
 split at k
 .obtain⟨v,r,rfl,h1,u,r',rfl,h2,h3⟩:=h;cases(show r'=[]from h3);cases(show v=_ from h1);cases(show u=_ from h2);exact⟨_,_,rfl,L.val M k rfl⟩
 .exact k.elim
def Qe:au V->Hp->VK->Prop:=λvs H Q=>∃ i j,vs=[.int i,.int j]/\Q (.int (min i j)) H
def YO {X:Cx}(hc:X.gY=true):jm X (.builtin "min") Qe:=(Iu hc).imp λvs H Q q=>by
 obtain⟨i,j,rfl,q⟩:=q
 refine⟨_,_,rfl,?_⟩
 have e:(if j<i then j else i)=min i j:=by split<;>lia
 rw[e];exact q
def V9:jP:=λds μ K=>match ds with|[.int i,.int j]=>K (.int (min i j)) μ|_=>False
def Rl:mF Qe V9:=λφ H vs ds μ K Q M h k L=>by
 unfold V9 at k
 split at k
 .obtain⟨v,r,rfl,h1,u,r',rfl,h2,h3⟩:=h;cases(show r'=[]from h3);cases(show v=_ from h1);cases(show u=_ from h2);exact⟨_,_,rfl,L.val M k rfl⟩
 .exact k.elim
def QK:jP:=λds μ K=>match ds with
 |[x]=>∃ ns:au Int,lv μ x=some (ns.map D.int)/\ns≠[]/\∀ m,m∈ns->(∀ y∈ns,y<=m)->K (.int m) μ
 |_=>False
def Fe:mF J0 QK:=λφ H vs ds μ K Q M h k L=>by
 unfold QK at k
 split at k
 .obtain⟨v,r,rfl,h1,h2⟩:=h;cases(show r=[]from h2)
  obtain⟨ns,el,hn,k⟩:=k
  obtain⟨p,vs,rfl,hp,ha⟩:=kJ M h1 el
  exact⟨ns,by rw[hp,ha.ints],hn,λm a b=>L.val M (k m a b) rfl⟩
 .exact k.elim
def Wc (g:au Bool->Bool):jP:=λds μ K=>match ds with
 |[x]=>∃ bs:au Bool,lv μ x=some (bs.map D.bl)/\K (.bl (g bs)) μ
 |_=>False
def Dz {g:au Bool->Bool}:mF (BW g) (Wc g):=λφ H vs ds μ K Q M h k L=>by
 unfold Wc at k
 split at k
 .obtain⟨v,r,rfl,h1,h2⟩:=h;cases(show r=[]from h2)
  obtain⟨bs,el,k⟩:=k
  obtain⟨p,vs,rfl,hp,ha⟩:=kJ M h1 el
  exact⟨bs,by rw[hp,ha.bls],L.val M k rfl⟩
 .exact k.elim
def QL (m:Bool):jP:=λds μ K=>match ds with
 |[x]=>opt (lv μ x) λxs=>nL m xs μ K
 |_=>False
def vD {Kf:aa}{m:Bool}:mF (DM Kf) (QL m):=λφ H vs ds μ K Q M h k L=>by
 unfold QL at k
 split at k
 .obtain⟨v,r,rfl,h1,h2⟩:=h;cases(show r=[]from h2)
  obtain⟨xs,el,k⟩:=iw k
  obtain⟨p,vs,rfl,hp,ha⟩:=kJ M h1 el
  exact⟨vs,qz.of hp,λl hl=>Mr L M ha k hl⟩
 .exact k.elim
def LC:MU:=λd ds μ K=>match d,ds with
 |.str z,[x]=>z.cps=#[]/\∃ ys:au Str,lv μ x=some (ys.map D.str)/\(ys.map (·.length)).sum<=16777216/\K (.str ⟨(ys.map (·.cps.toList)).flatten.toArray⟩) μ
 |_,_=>False
def zP {Kf:aa}:EK Kf "str" DP LC:=λφ H x vs d ds μ K Q M hx h k L=>by
 unfold LC at k
 split at k
 .cases(show x=_ from hx)
  obtain⟨v,r,rfl,h1,h2⟩:=h;cases(show r=[]from h2)
  obtain⟨hz,ys,el,hs,k⟩:=k
  obtain⟨p,vs,rfl,hp,ha⟩:=kJ M h1 el
  exact⟨hz,ys,by rw[hp,ha.strs],hs,L.val M k rfl⟩
 .exact k.elim
def QM:MU:=λd ds μ K=>match d,ds with
 |.str z,[.str y,.int i]=>∃ c:Nat,y=⟨#[c]⟩/\0<=i/\i<=z.length/\∀ r,Gg z.cps.toList c i.toNat r->K (.int r) μ
 |_,_=>False
def Nu {Kf:aa}:EK Kf "str" J3 QM:=λφ H x vs d ds μ K Q M hx h k L=>by
 unfold QM at k
 split at k
 .cases(show x=_ from hx)
  obtain⟨v,r,rfl,h1,u,r',rfl,h2,h3⟩:=h;cases(show r'=[]from h3);cases(show v=_ from h1);cases(show u=_ from h2)
  obtain⟨c,rfl,h0,h1,k⟩:=k
  exact⟨_,c,_,rfl,rfl,h0,h1,λr hr=>L.val M (k r hr) rfl⟩
 .exact k.elim
def Qp {φ:au ao}{H:Hp}{μ:MS}{k:Nat}{x:V}{ds:au D}(M:gE φ H μ)(hx:jE φ H (.mr k) x)(e:μ[k]?=some (.lst ds)):∃ p vs,x=.ref p/\φ[k]?=some p/\H p=some (.lst vs)/\gh φ H ds vs:=by
 obtain⟨p,hp,rfl⟩:=hx
 obtain⟨q,e1,vs,hv,ha⟩:=M.at_ k _ e
 rw[hp]at e1;cases e1
 exact⟨p,vs,rfl,hp,hv,ha⟩
def KR {φ:au ao}{H:Hp}{μ:MS}{K:DK}{Q:VK}{k:Nat}{p:ao}{ds:au D}{vs:au V}{d:D}{v:V}(L:wz φ H K Q)(M:gE φ H μ)(hp:φ[k]?=some p)(ha:gh φ H ds vs)(hd:jE φ H d v)(kk:K d (μ.set k (.lst ds))):Q v (upd H p (.lst vs)):=by
 have f:Fr φ H φ (upd H p (.lst vs)):=.put (kA hp)
 exact L d _ φ v _ kk f (M.put hp ⟨_,gp,ha.mono f⟩) (hd.mono f)
def Gw:MU:=λd ds μ K=>match d,ds with
 |.mr k,[y]=>opt (mH μ k) λxs=>xs.length<sizeLine/\K .ic (μ.set k (.lst (xs++[y])))
 |_,_=>False
def uo {Kf:aa}:EK Kf "list" BV Gw:=λφ H x vs d ds μ K Q M hx h k L=>by
 unfold Gw at k
 split at k
 .obtain⟨xs,em,k⟩:=iw k
  .obtain⟨p,us,rfl,hp,hv,ha⟩:=Qp M hx (jA em)
   obtain⟨v,r,rfl,h1,h2⟩:=h;cases(show r=[]from h2)
   exact⟨_,_,us,rfl,rfl,hv,by rw[ha.len];exact k.1,KR (d:=.ic) (v:=.ic) L M hp (ha.app (show gh φ H [_] [v]from⟨v,[],rfl,h1,rfl⟩)) rfl k.2⟩
 .exact k.elim
section
variable {X:Cx}
def rPopC:V->au V->Hp->VK->Prop:=λx vs H Q=>match x,vs with
 |.ref l,[]=>∃ xs y,H l=some (.lst xs)/\xs[xs.length - 1]?=some y/\Q y (upd H l (.lst xs.dropLast))
 |_,_=>False
def zZ:V->au V->Hp->VK->Prop:=λx vs H Q=>match x,vs with
 |.ref l,[]=>∃ xs,H l=some (.lst xs)/\Q .ic (upd H l (.lst []))
 |_,_=>False
def EE:EM X "list.clear" zZ:=EM.imp KQ λx vs H Q q=>by
 unfold zZ at q
 split at q
 .obtain⟨xs,a,c⟩:=q;exact⟨_,xs,rfl,rfl,a,c⟩
 .exact q.elim
end
def gh.dropLast {φ:au ao}{H:Hp}{ds:au D}{vs:au V}(h:gh φ H ds vs):gh φ H ds.dropLast vs.dropLast:=by
 rw[List.dropLast_eq_take,List.dropLast_eq_take,h.len]
 exact h.take _
def fPop:MU:=λd ds μ K=>match d,ds with
 |.mr k,[]=>opt (mH μ k) λxs=>opt (xs[xs.length - 1]?) λy=>K y (μ.set k (.lst xs.dropLast))
 |_,_=>False
def LF:MU:=λd ds μ K=>match d,ds with
 |.mr k,[]=>opt (mH μ k) λxs=>K .ic (μ.set k (.lst []))
 |_,_=>False
def wJ {Kf:aa}:EK Kf "list" zZ LF:=λφ H x vs d ds μ K Q M hx h k L=>by
 unfold LF at k
 split at k
 .obtain⟨xs,em,k⟩:=iw k
  .obtain⟨p,us,rfl,hp,hv,ha⟩:=Qp M hx (jA em)
   cases(show vs=[]from h)
   exact⟨us,hv,KR (d:=.ic) (v:=.ic) (ds:=[]) (vs:=[]) L M hp rfl rfl k⟩
 .exact k.elim
def wI {f:Int->Int->Int}:WW (VE f) (vw λi j=>.int (f i j)):=λφ H x y dx dy μ K Q M hx hy k L=>by
 unfold vw at k
 split at k
 .cases(show x=_ from hx);cases(show y=_ from hy);exact L.val M k rfl
 .exact k.elim
mutual
def mX:D->D->Bool
 |.ic,.ic=>true
 |.bl a,.bl b=>a==b
 |.bl a,.int b=>(if a then 1 else 0)==b
 |.int a,.bl b=>a==(if b then 1 else 0)
 |.int a,.int b=>a==b
 |.str a,.str b=>a==b
 |.lst xs,.lst ys=>nq xs ys
 |.tup xs,.tup ys=>nq xs ys
 |_,_=>false
def nq:List D->List D->Bool
 |[],[]=>true
 |x::xs,y::ys=>mX x y&&nq xs ys
 |_,_=>false
end
mutual
def j0:Nat->D->Prop
 |n+1,.lst ds=>z5 n ds
 |n+1,.tup ds=>z5 n ds
 |0,.lst _=>False
 |0,.tup _=>False
 |_,.jX _ _=>False
 |_,.mr _=>False
 |_,.obj _ _ _=>False
 |_,.t9 _ _=>False
 |_,.fn _=>False
 |_,_=>True
def z5:Nat->List D->Prop
 |_,[]=>True
 |n,d::ds=>j0 n d/\z5 n ds
end
def sJ {n:Nat}:∀ {ds:au D} {i:Nat} {d:D},z5 n ds->ds[i]?=some d->j0 n d
 |[],_,_,_,e=>by simp at e
 |d::ds,0,d',h,e=>by simp at e;subst e;unfold z5 at h;exact h.1
 |d::ds,i+1,d',h,e=>by unfold z5 at h;exact sJ (i:=i) h.2 (by simpa using e)
mutual
def CF {φ:List ao}{H:Hp}:∀ {n:Nat} {d e:D} {v:V},j0 n d->j0 n e->jE φ H d v->jE φ H e v->mX d e=true:=λ{n d e v} pd pe hd he=>by
 cases d with
 | ic=>cases(show v=_ from hd);cases e with
  |ic=>rfl
  |lst _=>obtain⟨_,_,q,_⟩:=he;cases q
  |tup _=>obtain⟨_,_,q,_⟩:=he;cases q
  |jX _ _=>obtain⟨_,_,_,q,_⟩:=he;cases q
  |mr _=>obtain⟨_,_,q⟩:=he;cases q
  |obj _ _ _=>obtain⟨_,_,_,_,q,_⟩:=he;cases q
  |t9 _ _=>obtain⟨_,_,_,_,q,_⟩:=he;cases q
  |_=>cases(show _=_ from he)
 | bl b=>cases(show v=_ from hd);cases e with
  |bl c=>cases(show _=_ from he);simp[mX]
  |lst _=>obtain⟨_,_,q,_⟩:=he;cases q
  |tup _=>obtain⟨_,_,q,_⟩:=he;cases q
  |jX _ _=>obtain⟨_,_,_,q,_⟩:=he;cases q
  |mr _=>obtain⟨_,_,q⟩:=he;cases q
  |obj _ _ _=>obtain⟨_,_,_,_,q,_⟩:=he;cases q
  |t9 _ _=>obtain⟨_,_,_,_,q,_⟩:=he;cases q
  |_=>cases(show _=_ from he)
 | int b=>cases(show v=_ from hd);cases e with
  |int c=>cases(show _=_ from he);simp[mX]
  |lst _=>obtain⟨_,_,q,_⟩:=he;cases q
  |tup _=>obtain⟨_,_,q,_⟩:=he;cases q
  |jX _ _=>obtain⟨_,_,_,q,_⟩:=he;cases q
  |mr _=>obtain⟨_,_,q⟩:=he;cases q
  |obj _ _ _=>obtain⟨_,_,_,_,q,_⟩:=he;cases q
  |t9 _ _=>obtain⟨_,_,_,_,q,_⟩:=he;cases q
  |_=>cases(show _=_ from he)
 | str b=>cases(show v=_ from hd);cases e with
  |str c=>cases(show _=_ from he);simp[mX]
  |lst _=>obtain⟨_,_,q,_⟩:=he;cases q
  |tup _=>obtain⟨_,_,q,_⟩:=he;cases q
  |jX _ _=>obtain⟨_,_,_,q,_⟩:=he;cases q
  |mr _=>obtain⟨_,_,q⟩:=he;cases q
  |obj _ _ _=>obtain⟨_,_,_,_,q,_⟩:=he;cases q
  |t9 _ _=>obtain⟨_,_,_,_,q,_⟩:=he;cases q
  |_=>cases(show _=_ from he)
 | lst ds =>
  obtain⟨p,vs,rfl,_,hp,ha⟩:=hd
  cases n with
  |zero=>exact absurd pd (by unfold j0;exact id)
  | succ n =>
   cases e with
   | lst es =>
    obtain⟨p',X5,q,_,Ib,V0⟩:=he;cases q
    rw[hp]at Ib;cases Ib
    unfold j0 at pd pe
    unfold mX
    exact uI pd pe ha V0
   |tup es=>obtain⟨p',X5,q,_,Ib,V0⟩:=he;cases q;rw[hp]at Ib;cases Ib
   |jX _ _=>exact absurd pe (by unfold j0;exact id)
   |mr _=>exact absurd pe (by unfold j0;exact id)
   |obj _ _ _=>exact absurd pe (by unfold j0;exact id)
   |t9 _ _=>exact absurd pe (by unfold j0;exact id)
   |fn _=>exact absurd pe (by unfold j0;exact id)
   |_=>cases(show _=_ from he)
 | tup ds =>
  obtain⟨p,vs,rfl,_,hp,ha⟩:=hd
  cases n with
  |zero=>exact absurd pd (by unfold j0;exact id)
  | succ n =>
   cases e with
   | tup es =>
    obtain⟨p',X5,q,_,Ib,V0⟩:=he;cases q
    rw[hp]at Ib;cases Ib
    unfold j0 at pd pe
    unfold mX
    exact uI pd pe ha V0
   |lst es=>obtain⟨p',X5,q,_,Ib,V0⟩:=he;cases q;rw[hp]at Ib;cases Ib
   |jX _ _=>exact absurd pe (by unfold j0;exact id)
   |mr _=>exact absurd pe (by unfold j0;exact id)
   |obj _ _ _=>exact absurd pe (by unfold j0;exact id)
   |t9 _ _=>exact absurd pe (by unfold j0;exact id)
   |fn _=>exact absurd pe (by unfold j0;exact id)
   |_=>cases(show _=_ from he)
 |jX _ _=>exact absurd pd (by cases n<;>(unfold j0;exact id))
 |mr _=>exact absurd pd (by cases n<;>(unfold j0;exact id))
 |obj _ _ _=>exact absurd pd (by cases n<;>(unfold j0;exact id))
 |t9 _ _=>exact absurd pd (by cases n<;>(unfold j0;exact id))
 |fn _=>exact absurd pd (by cases n<;>(unfold j0;exact id))
def uI {φ:List ao}{H:Hp}:∀ {n:Nat} {ds es:List D} {vs:List V},z5 n ds->z5 n es->gh φ H ds vs->gh φ H es vs->nq ds es=true:=λ{n ds es vs} pd pe hd he=>by
 cases ds with
 | nil =>
  cases(show vs=[]from hd)
  cases es with
  |nil=>unfold nq;rfl
  |cons e es=>obtain⟨_,_,q,_⟩:=he;cases q
 | cons d ds =>
  obtain⟨v,r,rfl,h1,h2⟩:=hd
  cases es with
  |nil=>cases(show _=_ from he)
  | cons e es =>
   obtain⟨v',r',q,h3,h4⟩:=he
   cases q
   unfold z5 at pd pe
   unfold nq
   rw[CF pd.1 pe.1 h1 h3,uI pd.2 pe.2 h2 h4]
   rfl
end
def qu:∀ {ds es:au D},ds.length≠es.length->nq ds es=false
 |[],[],h=>absurd rfl h
 |[],_::_,_=>by unfold nq;rfl
 |_::_,[],_=>by unfold nq;rfl
 |d::ds,e::es,h=>by unfold nq;rw[qu (ds:=ds) (es:=es) (by simpa using h),fj]
def yo (ds es:au D)(j:Nat):Bool:=match ds[j]?,es[j]? with|some a,some b=>mX a b|_,_=>true
def wU (n:Nat)(f:Nat->Bool):(List.range (n+1)).all f=(f 0&&(List.range n).all λj=>f (j+1)):=by
 rw[e9,dE,List.all_map];rfl
def nj:∀(ds es:au D),ds.length=es.length->(List.range ds.length).all (yo ds es)=nq ds es
 |[],[],_=>by unfold nq;rfl
 |[],_::_,h=>by simp at h
 |_::_,[],h=>by simp at h
 | d::ds,e::es,h=>by
  rw[a9,wU]
  unfold nq
  have ih:=nj ds es (by simpa using h)
  have e1:(λj=>yo (d::ds) (e::es) (j+1))=yo ds es:=by funext j;unfold yo;simp
  rw[e1,ih]
  rfl
section
variable {X:Cx}{fJ:au (ao×Obj)}{σ:St}{H:Hp}{s:ak}{φ:au ao}
def zC {xs:au V}{us:au ar}(r:gD xs us){j:Nat}(h1:j<us.toArray.size):∃ x,xs[j]?=some x/\gH x us.toArray[j]:=by
 have hj:j<us.length:=by rwa [aD]at h1
 have hx:j<xs.length:=by rw[r.length];exact hj
 obtain⟨u,eu,ru⟩:=r.get (iM hx)
 refine⟨_,iM hx,?_⟩
 have:us.toArray[j]=u:=by have:=ka eu;simpa using this.2
 rw[this];exact ru
def wL (I:Inv X fJ σ H s){d:D}{x:V}{u:ar}{n:Nat}(pd:j0 n d)(hd:jE φ H d x)(ru:gH x u):(∀ p,u≠.ref p)\/∃ p gu ds vs,u=.ref p/\gD vs gu/\gh φ H ds vs/\∃ m,n=m+1/\z5 m ds/\((d=.lst ds/\s.heap.IsList p gu.toArray)\/(d=.tup ds/\s.heap.IsTuple p gu.toArray)):=by
 cases d with
 |ic=>cases(show x=_ from hd);cases ru;exact .inl λp q=>by cases q
 |bl b=>cases(show x=_ from hd);cases ru;exact .inl λp q=>by cases q
 |int b=>cases(show x=_ from hd);obtain⟨t,rfl⟩:=ru;exact .inl λp q=>by cases q
 |str b=>cases(show x=_ from hd);obtain⟨t,rfl⟩:=ru;exact .inl λp q=>by cases q
 | lst ds =>
  obtain⟨p,vs,rfl,_,hp,ha⟩:=hd
  cases ru
  obtain⟨_,gu,k,r,_,ho⟩:=I.lZ hp
  cases n with
  |zero=>exact absurd pd (by unfold j0;exact id)
  |succ n=>exact .inr ⟨p,gu,ds,vs,rfl,r,ha,n,rfl,(by unfold j0 at pd;exact pd),.inl ⟨rfl,⟨_,ho,rfl,k,rfl⟩⟩⟩
 | tup ds =>
  obtain⟨p,vs,rfl,_,hp,ha⟩:=hd
  cases ru
  obtain⟨_,gu,r,ho⟩:=(show jx X.prog X.w H s.heap p (.tup vs)from I.iF p _ hp)
  cases n with
  |zero=>exact absurd pd (by unfold j0;exact id)
  |succ n=>exact .inr ⟨p,gu,ds,vs,rfl,r,ha,n,rfl,(by unfold j0 at pd;exact pd),.inr ⟨rfl,ho⟩⟩
 |jX _ _=>exact absurd pd (by cases n<;>(unfold j0;exact id))
 |mr _=>exact absurd pd (by cases n<;>(unfold j0;exact id))
 |obj _ _ _=>exact absurd pd (by cases n<;>(unfold j0;exact id))
 |t9 _ _=>exact absurd pd (by cases n<;>(unfold j0;exact id))
 |fn _=>exact absurd pd (by cases n<;>(unfold j0;exact id))
def Ge {n:Nat}{d:D}{x:V}(pd:j0 n d)(hd:jE φ H d x)(fx:lQ x=true):(d=.ic/\x=.ic)\/(∃ b,d=.bl b/\x=.bl b)\/(∃ b,d=.int b/\x=.int b)\/∃ b,d=.str b/\x=.str b:=by
 cases d with
 |ic=>exact .inl ⟨rfl,hd⟩
 |bl b=>exact .inr (.inl ⟨b,rfl,hd⟩)
 |int b=>exact .inr (.inr (.inl ⟨b,rfl,hd⟩))
 |str b=>exact .inr (.inr (.inr ⟨b,rfl,hd⟩))
 |lst ds=>obtain⟨p,vs,rfl,_⟩:=hd;cases fx
 |tup ds=>obtain⟨p,vs,rfl,_⟩:=hd;cases fx
 |jX _ _=>exact absurd pd (by cases n<;>(unfold j0;exact id))
 |mr _=>exact absurd pd (by cases n<;>(unfold j0;exact id))
 |obj _ _ _=>exact absurd pd (by cases n<;>(unfold j0;exact id))
 |t9 _ _=>exact absurd pd (by cases n<;>(unfold j0;exact id))
 |fn _=>exact absurd pd (by cases n<;>(unfold j0;exact id))
def JW (I:Inv X fJ σ H s)(n:Nat)(A:Around)(ds es:au D)(vs ws:au V)(gu yd:au ar)(p q:ao)(hu:A.units<cLine)
 (ih:∀(d e:D) (x y:V) (u v:ar),j0 n d->j0 n e->jE φ H d x->jE φ H e y->gH x u->gH y v->SeqAt.EqAt A.in1 s u v (mX d e)) (pd:z5 n ds) (pe:z5 n es) (hd:gh φ H ds vs) (he:gh φ H es ws) (rv:gD vs gu) (Di:gD ws yd):
 (s.heap.IsList p gu.toArray->s.heap.IsList q yd.toArray->SeqAt.RcAt A s (.ref p) (.ref q) (nq ds es))/\(s.heap.IsTuple p gu.toArray->s.heap.IsTuple q yd.toArray->SeqAt.RcAt A s (.ref p) (.ref q) (nq ds es)):=by
 have l1:gu.toArray.size=ds.length:=by rw[aD,<- rv.length,hd.len]
 have l2:yd.toArray.size=es.length:=by rw[aD,<- Di.length,he.len]
 have el:∀ j (h1:j<gu.toArray.size) (h2:j<yd.toArray.size),SeqAt.EqAt A.in1 s gu.toArray[j] yd.toArray[j] (yo ds es j):=λj h1 h2=>by
  obtain⟨x,ex,rx⟩:=zC rv h1
  obtain⟨y,ey,ry⟩:=zC Di h2
  obtain⟨d,ed,Y2⟩:=hd.Cu ex
  obtain⟨e,ee,ie⟩:=he.Cu ey
  have q:yo ds es j=mX d e:=by unfold yo;rw[ed,ee]
  rw[q]
  exact ih d e x y _ _ (sJ pd ed) (sJ pe ee) Y2 ie rx ry
 constructor
 .intro hl hq
  by_cases hlen:ds.length=es.length
  .have:=SeqAt.RcAt.lists hl hq (by rw[l1,l2,hlen]) hu el
   rw[l1,nj ds es hlen]at this
   exact this
  .rw[qu hlen]
   exact SeqAt.RcAt.lists_lengths hl hq (by rw[l1,l2];simpa using hlen) hu
 .intro hl hq
  have:=SeqAt.RcAt.tuples hl hq hu el
  rw[l1,l2]at this
  by_cases hlen:ds.length=es.length
  .rw[<- hlen,Nat.min_self,nj ds es hlen]at this
   simpa using this
  .rw[qu hlen]
   have e0:(ds.length==es.length)=false:=by simpa using hlen
   rw[e0,fj]at this
   exact this
def LJ (I:Inv X fJ σ H s):∀(n:Nat) (A:Around) (d e:D) (x y:V) (u v:ar),A.units+n<cLine->j0 n d->j0 n e->jE φ H d x->jE φ H e y->gH x u->gH y v->SeqAt.EqAt A s u v (mX d e):=by
 intro n
 induction n with
 | zero =>
  intro A d e x y u v hu pd pe hd he ru rv
  have fl:∀ {d:D} {x:V},j0 0 d->jE φ H d x->lQ x=true:=λ{d x} pd hd=>by
   cases d with
   |ic=>cases(show x=_ from hd);rfl
   |bl b=>cases(show x=_ from hd);rfl
   |int b=>cases(show x=_ from hd);rfl
   |str b=>cases(show x=_ from hd);rfl
   |_=>exact absurd pd (by unfold j0;exact id)
  have q:=Ey (A:=A) (s:=s) ru rv (fl pd hd) (fl pe he)
  have eq:Gy x y=mX d e:=by
   cases d <;> first
    |exact absurd pd (by unfold j0;exact id)
    | (cases(show x=_ from hd)
       cases e <;> first
        |exact absurd pe (by unfold j0;exact id)
        |(cases(show y=_ from he);unfold Gy mX;rfl))
  rw[eq]at q
  exact q
 | succ n ih =>
  intro A d e x y u v hu pd pe hd he ru rv
  have As:A.units<cLine:=by lia
  have VN:A.in1.units+n<cLine:=by show A.units+1+n<cLine;lia
  rcases wL I pd hd ru with fd|⟨p,gu,ds,vs,rfl,r1,a1,m1,e1,p1,k1⟩
  .rcases wL I pe he rv with fe | ⟨q,yd,es,ws,rfl,r2,a2,m2,e2,p2,k2⟩
   .have fl:∀ {d:D} {x:V} {u:ar},j0 (n+1) d->jE φ H d x->gH x u->(∀ p,u≠.ref p)->lQ x=true:=λ{d x u} pd hd ru fu=>by
     cases d with
     |ic=>cases(show x=_ from hd);rfl
     |bl b=>cases(show x=_ from hd);rfl
     |int b=>cases(show x=_ from hd);rfl
     |str b=>cases(show x=_ from hd);rfl
     |lst ds=>obtain⟨p,vs,rfl,_⟩:=hd;cases ru;exact absurd rfl (fu p)
     |tup ds=>obtain⟨p,vs,rfl,_⟩:=hd;cases ru;exact absurd rfl (fu p)
     |_=>exact absurd pd (by unfold j0;exact id)
    have fx:=fl pd hd ru fd
    have fy:=fl pe he rv fe
    have q:=Ey (A:=A) (s:=s) ru rv fx fy
    have eq:Gy x y=mX d e:=by
     rcases Ge pd hd fx with⟨rfl,rfl⟩|⟨b,rfl,rfl⟩|⟨b,rfl,rfl⟩|⟨b,rfl,rfl⟩<;>
     rcases Ge pe he fy with⟨rfl,rfl⟩|⟨c,rfl,rfl⟩|⟨c,rfl,rfl⟩|⟨c,rfl,rfl⟩<;> (unfold Gy mX;rfl)
    rw[eq]at q
    exact q
   .rcases k2 with⟨rfl,hl⟩ | ⟨rfl,hl⟩
    .cases d with
     |ic=>cases(show x=_ from hd);cases ru;exact SeqAt.EqAt.none_list hl As
     |bl b=>cases(show x=_ from hd);cases ru;exact SeqAt.EqAt.bool_list b hl As
     |int b=>cases(show x=_ from hd);obtain⟨t,rfl⟩:=ru;exact SeqAt.EqAt.int_list b t hl As
     |str b=>cases(show x=_ from hd);obtain⟨t,rfl⟩:=ru;exact SeqAt.EqAt.str_list b t hl As
     |lst _=>obtain⟨_,_,rfl,_⟩:=hd;cases ru;exact absurd rfl (fd _)
     |tup _=>obtain⟨_,_,rfl,_⟩:=hd;cases ru;exact absurd rfl (fd _)
     |_=>exact absurd pd (by unfold j0;exact id)
    .cases d with
     |ic=>cases(show x=_ from hd);cases ru;exact SeqAt.EqAt.none_tuple hl As
     |bl b=>cases(show x=_ from hd);cases ru;exact SeqAt.EqAt.bool_tuple b hl As
     |int b=>cases(show x=_ from hd);obtain⟨t,rfl⟩:=ru;exact SeqAt.EqAt.int_tuple b t hl As
     |str b=>cases(show x=_ from hd);obtain⟨t,rfl⟩:=ru;exact SeqAt.EqAt.str_tuple b t hl As
     |lst _=>obtain⟨_,_,rfl,_⟩:=hd;cases ru;exact absurd rfl (fd _)
     |tup _=>obtain⟨_,_,rfl,_⟩:=hd;cases ru;exact absurd rfl (fd _)
     |_=>exact absurd pd (by unfold j0;exact id)
  .rcases wL I pe he rv with fe | ⟨q,yd,es,ws,rfl,r2,a2,m2,e2,p2,k2⟩
   .rcases k1 with⟨rfl,hl⟩ | ⟨rfl,hl⟩
    .cases e with
     |ic=>cases(show y=_ from he);cases rv;exact SeqAt.EqAt.list_none hl As
     |bl b=>cases(show y=_ from he);cases rv;exact SeqAt.EqAt.list_bool b hl As
     |int b=>cases(show y=_ from he);obtain⟨t,rfl⟩:=rv;exact SeqAt.EqAt.list_int b t hl As
     |str b=>cases(show y=_ from he);obtain⟨t,rfl⟩:=rv;exact SeqAt.EqAt.list_str b t hl As
     |lst _=>obtain⟨_,_,rfl,_⟩:=he;cases rv;exact absurd rfl (fe _)
     |tup _=>obtain⟨_,_,rfl,_⟩:=he;cases rv;exact absurd rfl (fe _)
     |_=>exact absurd pe (by unfold j0;exact id)
    .cases e with
     |ic=>cases(show y=_ from he);cases rv;exact SeqAt.EqAt.tuple_none hl As
     |bl b=>cases(show y=_ from he);cases rv;exact SeqAt.EqAt.tuple_bool b hl As
     |int b=>cases(show y=_ from he);obtain⟨t,rfl⟩:=rv;exact SeqAt.EqAt.tuple_int b t hl As
     |str b=>cases(show y=_ from he);obtain⟨t,rfl⟩:=rv;exact SeqAt.EqAt.tuple_str b t hl As
     |lst _=>obtain⟨_,_,rfl,_⟩:=he;cases rv;exact absurd rfl (fe _)
     |tup _=>obtain⟨_,_,rfl,_⟩:=he;cases rv;exact absurd rfl (fe _)
     |_=>exact absurd pe (by unfold j0;exact id)
   .cases e1;cases e2
    have rc:=JW I n A ds es vs ws gu yd p q As (λd e x y u v a b c d' e' f'=>ih A.in1 d e x y u v VN a b c d' e' f') p1 p2 a1 a2 r1 r2
    by_cases Zf:p=q
    .subst Zf
     have hv:x=y:=ru.inj rv
     subst hv
     rw[CF pd pe hd he]
     exact SeqAt.EqAt.same _
    .rcases k1 with⟨rfl,hl⟩ | ⟨rfl,hl⟩<;> rcases k2 with⟨rfl,tZ⟩ | ⟨rfl,tZ⟩
     .unfold mX;exact .of_refs Zf (rc.1 hl tZ)
     .unfold mX;exact SeqAt.EqAt.list_tuple hl tZ As
     .unfold mX;exact SeqAt.EqAt.tuple_list hl tZ As
     .unfold mX;exact .of_refs Zf (rc.2 hl tZ)
end
section
variable {X:Cx}
def Yu:D->D->av (au D×au D)
 |.lst xs,.lst ys=>some (xs,ys)
 |.tup xs,.tup ys=>some (xs,ys)
 |_,_=>none
def RB (n:Nat)(neg:Bool):R2:=λx y H Q=>∃ φ d e,j0 n d/\j0 n e/\jE φ H d x/\jE φ H e y/\(Yu d e).isSome=true/\Q (.bl (neg != mX d e)) H
def E4 {fJ:au (ao×Obj)}{s:ak}{σ:St}{H:Hp}{φ:au ao}{n:Nat}{d e:D}{x y:V}{u v:ar}(I:Inv X fJ σ H s)(pd:j0 n d)(pe:j0 n e)(hd:jE φ H d x)(he:jE φ H e y)(rx:gH x u)(ry:gH y v)(hs:(Yu d e).isSome=true):
 ∃ p q gu yd ds es vs ws m,u=.ref p/\v=.ref q/\n=m+1/\gD vs gu/\gD ws yd/\gh φ H ds vs/\gh φ H es ws/\z5 m ds/\z5 m es/\((d=.lst ds/\e=.lst es/\s.heap.IsList p gu.toArray/\s.heap.IsList q yd.toArray)\/(d=.tup ds/\e=.tup es/\s.heap.IsTuple p gu.toArray/\s.heap.IsTuple q yd.toArray)):=by
 rcases wL I pd hd rx with fd|⟨p,gu,ds,vs,rfl,r1,a1,m1,e1,p1,k1⟩
 .cases d with
  |lst _=>obtain⟨_,_,rfl,_⟩:=hd;cases rx;exact absurd rfl (fd _)
  |tup _=>obtain⟨_,_,rfl,_⟩:=hd;cases rx;exact absurd rfl (fd _)
  |_=>cases hs
 .rcases wL I pe he ry with fe | ⟨q',yd,es,ws,rfl,r2,a2,m2,e2,p2,k2⟩
  .cases e with
   |lst _=>obtain⟨_,_,rfl,_⟩:=he;cases ry;exact absurd rfl (fe _)
   |tup _=>obtain⟨_,_,rfl,_⟩:=he;cases ry;exact absurd rfl (fe _)
   |_=>cases d<;>cases hs
  .subst e1
   cases e2
   refine⟨p,q',gu,yd,ds,es,vs,ws,m1,rfl,rfl,rfl,r1,r2,a1,a2,p1,p2,?_⟩
   rcases k1 with⟨rfl,hl⟩|⟨rfl,hl⟩<;> rcases k2 with⟨rfl,tZ⟩|⟨rfl,tZ⟩
   .exact .inl ⟨rfl,rfl,hl,tZ⟩
   .cases hs
   .cases hs
   .exact .inr ⟨rfl,rfl,hl,tZ⟩
def Z8 {n:Nat}(hu:X.A.units+n<cLine):lC X (compareOp .Eq) (RB n false):=by
 intro fJ s σ H x y u v Q I rx ry h
 obtain⟨φ,d,e,pd,pe,hd,he,hs,q⟩:=h
 obtain⟨p,q',gu,yd,ds,es,vs,ws,m1,rfl,rfl,rfl,r1,r2,a1,a2,p1,p2,kk⟩:=E4 I pd pe hd he rx ry hs
 have rc:=JW I m1 X.A ds es vs ws gu yd p q' (by lia) (λd e x y u v a b c d' e' f'=>LJ I m1 X.A.in1 d e x y u v (by show X.A.units+1+m1<cLine;lia) a b c d' e' f') p1 p2 a1 a2 r1 r2
 rcases kk with⟨rfl,rfl,hl,tZ⟩|⟨rfl,rfl,hl,tZ⟩
 .unfold mX at q;exact rc.1 hl tZ X.prog X.w X.xe _ ⟨.bl _,H,I,rfl,by rw[Uz]at q;exact q⟩
 .unfold mX at q;exact rc.2 hl tZ X.prog X.w X.xe _ ⟨.bl _,H,I,rfl,by rw[Uz]at q;exact q⟩
def KO {n:Nat}(hu:X.A.units+n<cLine):lC X (compareOp .NotEq) (RB n true):=by
 intro fJ s σ H x y u v Q I rx ry h
 obtain⟨φ,d,e,pd,pe,hd,he,hs,q⟩:=h
 obtain⟨p,q',gu,yd,ds,es,vs,ws,m1,rfl,rfl,rfl,r1,r2,a1,a2,p1,p2,kk⟩:=E4 I pd pe hd he rx ry hs
 have l1:gu.toArray.size=ds.length:=by rw[aD,<- r1.length,a1.len]
 have l2:yd.toArray.size=es.length:=by rw[aD,<- r2.length,a2.len]
 have el:∀ j (h1:j<gu.toArray.size) (h2:j<yd.toArray.size),SeqAt.EqAt X.A.in1 s gu.toArray[j] yd.toArray[j] (yo ds es j):=λj h1 h2=>by
  obtain⟨x,ex,rx⟩:=zC r1 h1
  obtain⟨y,ey,ry⟩:=zC r2 h2
  obtain⟨d,ed,Y2⟩:=a1.Cu ex
  obtain⟨e,ee,ie⟩:=a2.Cu ey
  have q:yo ds es j=mX d e:=by unfold yo;rw[ed,ee]
  rw[q]
  exact LJ I m1 X.A.in1 d e x y _ _ (by show X.A.units+1+m1<cLine;lia) (sJ p1 ed) (sJ p2 ee) Y2 ie rx ry
 have fin:Q (.bl (!nq ds es)) H->EP X fJ σ Q (.bool (!nq ds es)) s:=λq=>⟨.bl _,H,I,rfl,q⟩
 rcases kk with⟨rfl,rfl,hl,tZ⟩|⟨rfl,rfl,hl,tZ⟩
 .unfold mX at q
  rw[Xj]at q
  by_cases hlen:ds.length=es.length
  .have:=SeqAt.RcNeAt.lists hl tZ (by rw[l1,l2,hlen]) (by lia) el
   rw[l1,nj ds es hlen]at this
   exact this X.prog X.w X.xe _ (fin q)
  .have t:=fin q
   rw[qu hlen]at t
   exact SeqAt.RcNeAt.lists_lengths hl tZ (by rw[l1,l2];simpa using hlen) (by lia) X.prog X.w X.xe _ t
 .unfold mX at q
  rw[Xj]at q
  have this:=SeqAt.RcNeAt.tuples hl tZ (by lia) el
  rw[l1,l2]at this
  by_cases hlen:ds.length=es.length
  .rw[<- hlen,Nat.min_self,nj ds es hlen]at this
   exact this X.prog X.w X.xe _ (by simpa using fin q)
  .have t:=fin q
   rw[qu hlen]at t
   have e0:(ds.length==es.length)=false:=by simpa using hlen
   rw[e0,fj]at this
   exact this X.prog X.w X.xe _ t
def dEqD (n:Nat)(neg:Bool):xP:=λx y μ K=>j0 n x/\j0 n y/\(Yu x y).isSome=true/\K (.bl (neg != mX x y)) μ
def JJ {n:Nat}{neg:Bool}:rp (RB n neg) (dEqD n neg):=λφ H x y dx dy μ K Q M hx hy k L=>⟨φ,dx,dy,k.1,k.2.1,hx,hy,k.2.2.1,L.val M k.2.2.2 rfl⟩
end
mutual
def GB:∀(d:D) (n:Nat),j0 n d->mX d d=true
 |.ic,_,_=>by unfold mX;rfl
 |.bl _,_,_=>by simp[mX]
 |.int _,_,_=>by simp[mX]
 |.str _,_,_=>by simp[mX]
 |.lst ds,0,h=>absurd h (by unfold j0;exact id)
 |.lst ds,n+1,h=>by unfold j0 at h;unfold mX;exact xw ds n h
 |.tup ds,0,h=>absurd h (by unfold j0;exact id)
 |.tup ds,n+1,h=>by unfold j0 at h;unfold mX;exact xw ds n h
 |.jX _ _,n,h=>absurd h (by cases n<;>(unfold j0;exact id))
 |.mr _,n,h=>absurd h (by cases n<;>(unfold j0;exact id))
 |.obj _ _ _,n,h=>absurd h (by cases n<;>(unfold j0;exact id))
 |.t9 _ _,n,h=>absurd h (by cases n<;>(unfold j0;exact id))
 |.fn _,n,h=>absurd h (by cases n<;>(unfold j0;exact id))
def xw:∀(ds:List D) (n:Nat),z5 n ds->nq ds ds=true
 |[],_,_=>by unfold nq;rfl
 |d::ds,n,h=>by unfold z5 at h;unfold nq;rw[GB d n h.1,xw ds n h.2];rfl
end
def pj:D->Bool
 |.ic=>true
 |.bl _=>true
 |.int _=>true
 |.str _=>true
 |_=>false
section
variable {X:Cx}
def Hu (neg:Bool):R2:=λx y H Q=>match x,y with
 |.str z,.str t=>∃ c:Nat,z=⟨#[c]⟩/\Q (.bl (neg != decide (c∈t.cps.toList))) H
 |x,.ref p=>∃ xs,(H p=some (.lst xs)\/H p=some (.tup xs))/\lQ x=true/\xs.all lQ=true/\Q (.bl (neg != Ul x xs)) H
 |_,_=>False
def inC:lC X (compareOp .In) (Hu false):=(Hz.or HA).imp λx y H Q q=>by
 unfold Hu at q
 split at q
 .obtain⟨c,rfl,q⟩:=q
  exact .inl ⟨_,_,rfl,rfl,by rw[StrLaws.found_one];rw[Uz]at q;exact q⟩
 .obtain⟨xs,h,h1,h2,q⟩:=q
  rw[Uz]at q
  rcases h with h|h
  .exact .inr ⟨_,xs,rfl,.inl (qz.of h),h1,h2,q⟩
  .exact .inr ⟨_,xs,rfl,.inr (IH.of h),h1,h2,q⟩
 .exact q.elim
def KJ:lC X (compareOp .NotIn) (Hu true):=(z7.or z9).imp λx y H Q q=>by
 unfold Hu at q
 split at q
 .obtain⟨c,rfl,q⟩:=q
  exact .inl ⟨_,_,rfl,rfl,by rw[StrLaws.found_one];rw[Xj]at q;exact q⟩
 .obtain⟨xs,h,h1,h2,q⟩:=q
  rw[Xj]at q
  rcases h with h|h
  .exact .inr ⟨_,xs,rfl,.inl (qz.of h),h1,h2,q⟩
  .exact .inr ⟨_,xs,rfl,.inr (IH.of h),h1,h2,q⟩
 .exact q.elim
end
def dIn (neg:Bool):xP:=λx y μ K=>match x,y with
 |.str z,.str t=>∃ c:Nat,z=⟨#[c]⟩/\K (.bl (neg != decide (c∈t.cps.toList))) μ
 |x,y=>opt (lv μ y) λds=>pj x=true/\ds.all pj=true/\K (.bl (neg != ds.any λd=>mX d x)) μ
def Lw {φ:au ao}{H:Hp}{d:D}{v:V}(i:jE φ H d v)(h:pj d=true):lQ v=true:=by
 cases d<;>first|exact(Bool.noConfusion (show false=true from h))|(cases(show v=_ from i);rfl)
def Td {φ:au ao}{H:Hp}{d e:D}{v u:V}(i:jE φ H d v)(j:jE φ H e u)(h:pj d=true)(h':pj e=true):Gy v u=mX d e:=by
 cases d <;> first
  |exact(Bool.noConfusion (show false=true from h))
  | (cases(show v=_ from i)
     cases e <;> first
      |exact(Bool.noConfusion (show false=true from h'))
      |(cases(show u=_ from j);unfold Gy mX;rfl))
def Gd {φ:au ao}{H:Hp}{x:D}{v:V}(i:jE φ H x v)(hx:pj x=true):∀ {ds:au D} {vs:au V},gh φ H ds vs->ds.all pj=true->vs.all lQ=true/\Ul v vs=ds.any λd=>mX d x
 |[],_,h,_=>by cases(show _=[]from h);exact⟨rfl,rfl⟩
 | d::ds,_,h,f=>by
  obtain⟨u,r,rfl,h1,h2⟩:=h
  rw[dE,bW]at f
  obtain⟨a,b⟩:=Gd i hx h2 f.2
  unfold Ul at b ⊢
  rw[dE,c8,c8,a,b,Lw h1 f.1,Td h1 i f.1 hx]
  exact⟨rfl,rfl⟩
def Ff {neg:Bool}:rp (Hu neg) (dIn neg):=λφ H x y dx dy μ K Q M hx hy k L=>by
 unfold dIn at k
 split at k
 .cases(show x=_ from hx);cases(show y=_ from hy)
  obtain⟨c,rfl,k⟩:=k
  exact⟨c,rfl,L.val M k rfl⟩
 .obtain⟨ds,el,f1,f2,k⟩:=iw k
  obtain⟨p,vs,rfl,hp,ha⟩:=kJ M hy el
  obtain⟨a,b⟩:=Gd hx f1 ha f2
  have fx:=Lw hx f1
  have key:∃ xs,(H p=some (.lst xs)\/H p=some (.tup xs))/\lQ x=true/\xs.all lQ=true/\Q (.bl (neg != Ul x xs)) H:=⟨vs,.inl hp,fx,a,by rw[b];exact L.val M k rfl⟩
  unfold Hu
  cases x<;>exact key
def range_any (bs:au Bool):(List.range bs.length).any (λi=>bs.getD i false)=bs.any id:=by
 rw[dz,fE,fE]
 constructor
 .rintro⟨i,hi,e⟩
  have FT:i<bs.length:=by simpa using hi
  rw[aC,iM FT]at e
  exact⟨_,bR FT,e⟩
 .rintro⟨b,hb,e⟩
  obtain⟨i,hi,e2⟩:=aM hb
  refine⟨i,by simpa using hi,?_⟩
  rw[aC,iM hi,e2]
  exact e
def anyC {X:Cx}(hc:X.gY=true):jm X (.builtin "any") (BW λbs=>bs.any id):=by
 intro fJ s σ H vs us Q I rv h
 unfold BW at h
 split at h
 .rename_i p
  obtain⟨bs,hp,q⟩:=h
  obtain⟨u,rfl,ru⟩:=rv.one
  cases ru
  obtain⟨z,gu,n,r,hl,e⟩:=I.lZ hp
  have Bk:s.heap.IsList p gu.toArray:=⟨_,e,rfl,n,rfl⟩
  have lt:p≠s.heap.objs.size:=aE (jk e)
  refine call_any_walk (dj Bk ⟨_,_,_,_,_,_,λi=>bs.getD i false,rfl,Walks.list (A:=X.A.in1) (I.ok.hd hc) s.heap.objs.size p lt gu.toArray,⟨⟨_,aI _ rfl,rfl,rfl⟩,Bk.push _⟩,?_,λh' tk kp=>?_⟩)
  .intro i v s' Q' E' hv hq
   have Dl:gu[i]?=some v:=by simpa using hv
   have hb:∃ b,bs[i]?=some b/\v=.bool b:=by
    cases eb:(bs.map V.bl)[i]? with
    |none=>have:=r.none_of eb;rw[Dl]at this;cases this
    | some y =>
     obtain⟨u,hu,ry⟩:=r.get eb
     rw[Dl]at hu;cases hu
     rw[nF]at eb
     cases e2:bs[i]? with
     |none=>rw[e2]at eb;cases eb
     |some b=>rw[e2]at eb;cases eb;exact⟨b,rfl,ry⟩
   obtain⟨b,eb,rfl⟩:=hb
   have e3:bs.getD i false=b:=by rw[aC,eb];rfl
   have Lj:Q' (bs.getD i false) s':=hq
   rw[e3]at Lj
   exact cC Lj
  .have I2:Inv X fJ σ H { s with heap:=h',toks:=tk}:=I.iW λb o e'=>kp b o (by simpa using aE (jk e')) (j6 _ e')
   have len:gu.toArray.size=bs.length:=by rw[aD,<- hl,ia]
   rw[len,range_any]
   exact⟨.bl _,H,I2,rfl,q⟩
 .cases h
def PB:D->MS->av String
 |.ic,_=>some "NoneType"
 |.bl _,_=>some "bool"
 |.int _,_=>some "int"
 |.str _,_=>some "str"
 |.lst _,_=>some "list"
 |.tup _,_=>some "tuple"
 |.jX _ _,_=>some "dict"
 |.mr k,μ=>match μ[k]? with|some (.lst _)=>some "list" | some (.jX _ _)=>some "dict" | _=>none
 |.obj _ _ _,_=>none
 |.t9 _ _,_=>none
 |.fn _,_=>none
def La (t T:String):Bool:=t==T||(t == "bool"&&T == "int")
def dIsi (T:String)(w:De):De:=λρ μ K=>w ρ μ λd gy=>opt (PB d gy) λt=>K (.bl (La t T)) gy
def Si (K:aa){t T:String}(ht:t∈["NoneType","bool","int","str","list","tuple","dict"])(hT:T∈["bool","int","str","list","tuple","dict"]):W.kitOne K (.type t) (.type T)=some (La t T):=by
 simp only[aR,aL,bQ]at ht hT
 rcases ht with rfl|rfl|rfl|rfl|rfl|rfl|rfl<;>rcases hT with rfl|rfl|rfl|rfl|rfl|rfl<;>first|rfl|exact jv K _
def Q8 {φ:au ao}{H:Hp}{μ:MS}{Kf:aa}{d:D}{v:V}{t:String}(M:gE φ H μ)(i:jE φ H d v)(e:PB d μ=some t):kE Kf H v (.type t)/\t∈["NoneType","bool","int","str","list","tuple","dict"]:=by
 cases d with
 |ic=>cases e;cases(show v=_ from i);exact⟨.ic,by simp⟩
 |bl b=>cases e;cases(show v=_ from i);exact⟨.bl b,by simp⟩
 |int b=>cases e;cases(show v=_ from i);exact⟨.int b,by simp⟩
 |str b=>cases e;cases(show v=_ from i);exact⟨.str b,by simp⟩
 |lst ds=>cases e;obtain⟨p,vs,rfl,_,hp,_⟩:=i;exact⟨.lst hp,by simp⟩
 |tup ds=>cases e;obtain⟨p,vs,rfl,_,hp,_⟩:=i;exact⟨.tup hp,by simp⟩
 |jX ks ds=>cases e;obtain⟨p,fX,vs,rfl,_,hp,_⟩:=i;exact⟨.dK hp,by simp⟩
 |obj _ _ _=>cases e
 |t9 _ _=>cases e
 |fn _=>cases e
 | mr k =>
  unfold PB at e
  dsimp only at e
  obtain⟨p,hp,rfl⟩:=i
  cases em:μ[k]? with
  |none=>rw[em]at e;cases e
  | some m =>
   rw[em]at e
   obtain⟨q,e1,e2⟩:=M.at_ k m em
   rw[hp]at e1;cases e1
   cases m with
   |box=>cases e
   |lst ds=>cases e;obtain⟨vs,hv,_⟩:=e2;exact⟨.lst hv,by simp⟩
   |jX ks ds=>cases e;obtain⟨fX,vs,hv,_⟩:=e2;exact⟨.dK hv,by simp⟩
   |_=>cases e
def qv {X:Cx}{a:Expr}{w:De}{T:String}{x:Str}{p p2 pos:Pos}(hT:T∈["bool","int","str","list","tuple","dict"])(hg:Gl X "isinstance")(hm:X.mg "isinstance"=none)(OI:Gl X x)(Ic:X.mg x=none)(hv:bootBuiltins x=some (.type T))(ha:PD X a w)(hn:x ≠ "__name__":=by decide)(hd:(x==("__debug__" : Str))=false:=by decide)
 (hs:starEach [a,.Name x p2] X.env=(false,eval a X.env)::starEach [.Name x p2] X.env:=by rfl) (sY:starEach [.Name x p2] X.env=(false,eval (.Name x p2) X.env)::starEach [] X.env:=by rfl) (qr:(backTo pos (starEach [.Name x p2] X.env)).any (·.1)=false:=by rfl):
 PD X (.Call (.Name "isinstance" p) [a,.Name x p2] [] pos) (dIsi T w):=
 (iB rX hg hm boot_isinstance (gz ha (gz (jM (v:=.ty T) OI Ic hv rfl hn hd) iV sY) hs) (by decide) (by decide) hs qr).imp λσ H Q hq=>by
  obtain⟨φ,ρ,μ,K,A,M,k,L⟩:=hq
  refine⟨φ,ρ,μ,_,A,M,k,λd gy gT v1 H1 k1 f1 M1 i1=>?_⟩
  obtain⟨t,et,k1⟩:=iw k1
  obtain⟨h1,h2⟩:=Q8 M1 i1 et
  exact⟨.type t,La t T,h1,Si X.K h2 hT,L _ gy gT _ H1 k1 f1 M1 rfl⟩
def T9 (H:Hp)(b q:ao):Prop:=∃(ns:au Int) (i r z:Int),H b=some (.lst [.ref q,.int i,.int r,.int z])/\H q=some (.lst (ns.map V.int))/\q≠b/\0<=i/\0<=z/\z<2147483647
def vC:Sp:=λvs H Q _=>match vs with
 |[.ref b,.int n]=>∃ q,T9 H b q/\0<n/\n<1073741824/\∀ v H',0<=v->v<n->T9 H' b q->OB b H H'->Q (.int v) H'
 |_=>False
def uV {vs:au V}{H:Hp}{Q:VK}{E:XK}(h:vC vs H Q E):∃ b n q,vs=[.ref b,.int n]/\T9 H b q/\0<n/\n<1073741824/\∀ v H',0<=v->v<n->T9 H' b q->OB b H H'->Q (.int v) H':=by
 unfold vC at h
 split at h
 .obtain⟨q,h⟩:=h;exact⟨_,_,q,rfl,h⟩
 .cases h
def Gj:jP:=λds μ K=>match ds with
 |[.mr k,.int n]=>μ[k]?=some .box/\0<n/\n<1073741824/\∀ v,0<=v->v<n->K (.int v) μ
 |_=>False
def Ju {vs:au V}{H:Hp}{Q:VK}{E:XK}(h:iD Gj vs H Q E):vC vs H Q E:=by
 obtain⟨φ,ds,μ,K,ha,M,k,L⟩:=h
 unfold Gj at k
 split at k
 .rename_i kk n
  obtain⟨v,r,rfl,h1,u,r',rfl,h2,h3⟩:=ha
  cases(show r'=[]from h3);cases(show u=_ from h2)
  obtain⟨b,hb,rfl⟩:=h1
  obtain⟨em,hn,IS,k⟩:=k
  obtain⟨b',e1,q,ns,i,r,z,g1,g2,g3,g4,g5,g6⟩:=M.at_ kk _ em
  rw[hb]at e1;cases e1
  have bin:b∈φ:=kA hb
  have qb:q≠b:=λe=>g3 (by rw[e];exact bin)
  refine⟨q,⟨ns,i,r,z,g1,g2,qb,g4,g5,g6⟩,hn,IS,λv H' v0 v1 B' ob=>?_⟩
  obtain⟨ns',i',r',z',b1,b2,b3,b4,b5,b6⟩:=B'
  have f:Fr φ H φ H':=⟨⟨[],by simp,λ_ h=>nomatch h⟩,λc o hc e=>(ob c (λe'=>hc (by rw[e'];exact bin))).trans e,λc e=>by
   by_cases hc:c=b
   .rw[hc,b1]at e;cases e
   .rw[<- ob c hc];exact e⟩
  refine L _ μ φ _ H' (k v v0 v1) f ⟨M.nd,M.len,λj m ej=>?_⟩ rfl
  by_cases hj:j=kk
  .subst hj
   rw[em]at ej;cases ej
   exact⟨b,hb,q,ns',i',r',z',b1,b2,g3,b4,b5,b6⟩
  .obtain⟨p,e1,e2⟩:=M.at_ j m ej
   refine⟨p,e1,e2.mono f λo eo=>?_⟩
   have pb:p≠b:=λe=>by
    subst e
    obtain⟨i1,r1⟩:=ka hb
    obtain⟨i2,r2⟩:=ka e1
    rcases Nat.lt_or_gt_of_ne hj with z|z
    .exact List.pairwise_iff_getElem.mp M.nd j kk i2 i1 z (r2.trans r1.symm)
    .exact List.pairwise_iff_getElem.mp M.nd kk j i1 i2 z (r1.trans r2.symm)
   rw[ob p pb];exact eo
 .exact k.elim
def zM (K:aa):Sp:=λvs H Q _=>match vs with
 |[.ref a]=>∃ ns:au Int,qz K H a (ns.map V.int)/\∀ b q H',T9 H' b q->H b=none->H q=none->iL H H'->Q (.ref b) H'
 |_=>False
def IA {H:Hp}{b q:ao}(h:T9 H b q):gE [b] H [.box]:=by
 obtain⟨ns,i,r,z,h1,h2,h3,h4,h5,h6⟩:=h
 refine⟨by simp,rfl,λk m e=>?_⟩
 cases k with
 |zero=>cases e;exact⟨b,rfl,q,ns,i,r,z,h1,h2,by simpa using h3,h4,h5,h6⟩
 |succ k=>simp at e
mutual
def nM:Nat->D->Prop
 |n+1,.lst ds=>ds.length<=100000/\MI n ds
 |n+1,.tup ds=>ds.length<=100000/\MI n ds
 |0,.lst _=>False
 |0,.tup _=>False
 |_,.jX _ _=>False
 |_,.mr _=>False
 |_,.obj _ _ _=>False
 |_,.t9 _ _=>False
 |_,.fn _=>False
 |_,_=>True
def MI:Nat->List D->Prop
 |_,[]=>True
 |n,d::ds=>nM n d/\MI n ds
end
def zR {n:Nat}:∀ {ds:au D},(∀ d∈ds,nM n d)->MI n ds
 |[],_=>by unfold MI;trivial
 |d::ds,h=>by unfold MI;exact⟨h d aH,zR λx hx=>h x (nE _ hx)⟩
def wK {n:Nat}{ds:au D}(hl:ds.length<=100000)(h:∀ d∈ds,nM n d):nM (n+1) (.lst ds):=by unfold nM;exact⟨hl,zR h⟩
def JK {n:Nat}{ds:au D}(hl:ds.length<=100000)(h:∀ d∈ds,nM n d):nM (n+1) (.tup ds):=by unfold nM;exact⟨hl,zR h⟩
def DC {n:Nat}{i:Int}:nM n (.int i):=by cases n<;>(unfold nM;trivial)
def Rr {n:Nat}{i:Str}:nM n (.str i):=by cases n<;>(unfold nM;trivial)
def Nx {n:Nat}{ns:au Int}(h:ns.length<=100000):nM (n+1) (.lst (ns.map D.int)):=wK (by rw[ia];exact h) λd hd=>by
 obtain⟨i,_,rfl⟩:=List.mem_map.mp hd;exact DC
mutual
def yH:∀ {n:Nat} {d:D},nM n d->j0 n d:=λ{n d} h=>by
 cases d with
 | lst ds =>
  cases n with
  |zero=>exact absurd h (by unfold nM;exact id)
  |succ n=>unfold nM at h;unfold j0;exact DB h.2
 | tup ds =>
  cases n with
  |zero=>exact absurd h (by unfold nM;exact id)
  |succ n=>unfold nM at h;unfold j0;exact DB h.2
 |jX _ _=>exact absurd h (by cases n<;>(unfold nM;exact id))
 |mr _=>exact absurd h (by cases n<;>(unfold nM;exact id))
 |obj _ _ _=>exact absurd h (by cases n<;>(unfold nM;exact id))
 |t9 _ _=>exact absurd h (by cases n<;>(unfold nM;exact id))
 |fn _=>exact absurd h (by cases n<;>(unfold nM;exact id))
 |_=>cases n<;>(unfold j0;trivial)
def DB:∀ {n:Nat} {ds:List D},MI n ds->z5 n ds:=λ{n ds} h=>by
 cases ds with
 |nil=>unfold z5;trivial
 |cons d ds=>unfold MI at h;unfold z5;exact⟨yH h.1,DB h.2⟩
end
mutual
def ue:D->DV
 |.ic=>.ic
 |.bl b=>.bl b
 |.int i=>.int i
 |.str z=>.str z
 |.lst ds=>.lst (p5 ds)
 |.tup ds=>.tup (p5 ds)
 |_=>.ic
def p5:List D->List DV
 |[]=>[]
 |d::ds=>ue d::p5 ds
end
def ud:∀ ds:au D,(p5 ds).length=ds.length
 |[]=>rfl
 |d::ds=>by unfold p5;rw[a9,a9,ud ds]
mutual
def qc {φ:List ao}{H:Hp}:∀ {n:Nat} {d:D},nM n d->(∀ v,jE φ H d v->Is H (ue d) v)/\dep (ue d)<=n/\MG (ue d)<=100000:=λ{n d} h=>by
 cases d with
 | lst ds =>
  cases n with
  |zero=>exact absurd h (by unfold nM;exact id)
  | succ n =>
   unfold nM at h
   obtain⟨a,b,c⟩:=zQ (φ:=φ) (H:=H) h.2
   refine⟨λv hv=>?_,?_,?_⟩
   .obtain⟨p,vs,rfl,_,hp,q⟩:=hv
    unfold ue
    exact⟨p,vs,rfl,hp,a vs q⟩
   .unfold ue dep;lia
   .have:=ud ds
    unfold ue MG;lia
 | tup ds =>
  cases n with
  |zero=>exact absurd h (by unfold nM;exact id)
  | succ n =>
   unfold nM at h
   obtain⟨a,b,c⟩:=zQ (φ:=φ) (H:=H) h.2
   refine⟨λv hv=>?_,?_,?_⟩
   .obtain⟨p,vs,rfl,_,hp,q⟩:=hv
    unfold ue
    exact⟨p,vs,rfl,hp,a vs q⟩
   .unfold ue dep;lia
   .have:=ud ds
    unfold ue MG;lia
 |ic=>exact⟨λv hv=>hv,bh _,bh _⟩
 |bl b=>exact⟨λv hv=>hv,bh _,bh _⟩
 |int b=>exact⟨λv hv=>hv,bh _,bh _⟩
 |str b=>exact⟨λv hv=>hv,bh _,bh _⟩
 |jX _ _=>exact absurd h (by cases n<;>(unfold nM;exact id))
 |mr _=>exact absurd h (by cases n<;>(unfold nM;exact id))
 |obj _ _ _=>exact absurd h (by cases n<;>(unfold nM;exact id))
 |t9 _ _=>exact absurd h (by cases n<;>(unfold nM;exact id))
 |fn _=>exact absurd h (by cases n<;>(unfold nM;exact id))
def zQ {φ:List ao}{H:Hp}:∀ {n:Nat} {ds:List D},MI n ds->(∀ vs,gh φ H ds vs->mL H (p5 ds) vs)/\yi (p5 ds)<=n/\xW (p5 ds)<=100000:=λ{n ds} h=>by
 cases ds with
 |nil=>exact⟨λvs hv=>hv,bh _,bh _⟩
 | cons d ds =>
  unfold MI at h
  obtain⟨a,b,c⟩:=qc (φ:=φ) (H:=H) h.1
  obtain⟨a',b',c'⟩:=zQ (φ:=φ) (H:=H) h.2
  refine⟨λvs hv=>?_,?_,?_⟩
  .obtain⟨v,r,rfl,h1,h2⟩:=hv
   unfold p5
   exact⟨v,r,rfl,a v h1,a' r h2⟩
  .unfold p5 yi;lia
  .unfold p5 xW;lia
end
def Lu (μ:MS):D->av D
 |.mr k=>(mH μ k).map .lst
 |x=>some x
def FY {φ:au ao}{H:Hp}{μ:MS}{x d:D}{v:V}{n:Nat}(M:gE φ H μ)(e:Lu μ x=some d)(hs:nM n d)(h:jE φ H x v):Is H (ue d) v:=by
 cases x with
 | mr k =>
  obtain⟨p,hp,rfl⟩:=h
  have e':(mH μ k).map D.lst=some d:=e
  cases q:mH μ k with
  |none=>rw[q]at e';cases e'
  | some ds =>
   rw[q]at e';cases e'
   obtain⟨p',e1,vs,hv,ha⟩:=M.at_ k _ (jA q)
   rw[hp]at e1;cases e1
   cases n with
   |zero=>exact absurd hs (by unfold nM;exact id)
   | succ n =>
    unfold nM at hs
    unfold ue
    exact⟨p,vs,rfl,hv,(zQ (φ:=φ) (H:=H) hs.2).1 vs ha⟩
 |ic=>cases e;exact(qc (φ:=φ) (H:=H) hs).1 v h
 |bl b=>cases e;exact(qc (φ:=φ) (H:=H) hs).1 v h
 |int b=>cases e;exact(qc (φ:=φ) (H:=H) hs).1 v h
 |str b=>cases e;exact(qc (φ:=φ) (H:=H) hs).1 v h
 |lst b=>cases e;exact(qc (φ:=φ) (H:=H) hs).1 v h
 |tup b=>cases e;exact(qc (φ:=φ) (H:=H) hs).1 v h
 |obj _ _ _=>cases e;exact(qc (φ:=φ) (H:=H) hs).1 v h
 |t9 _ _=>cases e;exact(qc (φ:=φ) (H:=H) hs).1 v h
 |fn _=>cases e;exact(qc (φ:=φ) (H:=H) hs).1 v h
 |jX _ _=>cases e;exact absurd hs (by cases n<;>(unfold nM;exact id))
def LB:jP:=λds μ K=>match ds with
 |[x,y]=>∃ d,Lu μ x=some d/\Lu μ y=some d/\nM 5 d/\K (.bl true) μ
 |_=>False
def JM {vs:au V}{H:Hp}{Q:VK}{E:XK}(h:iD LB vs H Q E):um 5 vs H Q E:=by
 obtain⟨φ,ds,μ,K,ha,M,k,L⟩:=h
 unfold LB at k
 split at k
 .obtain⟨v,r,rfl,h1,u,r',rfl,h2,h3⟩:=ha
  cases(show r'=[]from h3)
  obtain⟨d,e1,e2,hs,k⟩:=k
  obtain⟨a,b,c⟩:=qc (φ:=φ) (H:=H) hs
  exact⟨ue d,b,cw c (by decide),FY M e1 hs h1,FY M e2 hs h2,λH' S=>L _ μ φ _ H' k (.same S) (M.same S) rfl⟩
 .exact k.elim
def iR {it:D->MS->(av D->MS->Prop)->Prop}{c:MS->Prop}{μ:MS}(hc:c μ)(f:D->av D):∀ {ds:au D} {K:au D->MS->Prop},(∀ d∈ds,∀(K':av D->MS->Prop),K' (f d) μ->it d μ K')->K (ds.filterMap f) μ->rG it c ds μ K
 |[],K,_,k=>⟨hc,k⟩
 | d::ds,K,h,k=>⟨hc,h d aH _ (iR hc f (λx hx=>h x (nE _ hx)) (by
  cases e:f d with
  |none=>rw[List.filterMap_cons_none e]at k;exact k
  |some y=>rw[List.filterMap_cons_some e]at k;exact k))⟩
def zd {it:D->MS->(av D->MS->Prop)->Prop}{c:MS->Prop}(Pv:au D->au D->MS->Prop):∀ {ds:au D} {μ:MS} {ys:au D} {K:au D->MS->Prop},Pv ds ys μ->(∀ d ua ys μ,Pv (d::ua) ys μ->c μ/\∀(K':av D->MS->Prop),(∀ o gq,Pv ua (ys++o.toList) gq->K' o gq)->it d μ K')->(∀ ys μ,Pv [] ys μ->c μ)->(∀ zs μ,Pv [] (ys++zs) μ->K zs μ)->rG it c ds μ K
 |[],μ,ys,K,h,hs,hc,hk=>⟨hc ys μ h,hk [] μ (by rw[bZ];exact h)⟩
 | d::ds,μ,ys,K,h,hs,hc,hk=>by
  obtain⟨c',st⟩:=hs d ds ys μ h
  exact⟨c',st _ λo gq h'=>zd Pv h' hs hc λzs jb h2=>hk _ jb (by rw[<- bp];exact h2)⟩
def i9 {g:DG}{b:Ds}{N:DN}{c:MS->Prop}(Pv:au D->DE->MS->Prop):∀ {ds:au D} {ρ:DE} {μ:MS},Pv ds ρ μ->(∀ d ua ρ μ,Pv (d::ua) ρ μ->c μ/\∀(nx:DE->MS->Prop),(∀ kF gq,Pv ua kF gq->nx kF gq)->g d ρ μ λou jb=>b { N with nx:=nx,ct:=nx,bk:=N.nx} ou jb)->(∀ ρ μ,Pv [] ρ μ->c μ/\N.nx ρ μ)->Ay g b N c ds ρ μ
 |[],ρ,μ,h,hs,hd=>hd ρ μ h
 | d::ds,ρ,μ,h,hs,hd=>by
  obtain⟨c',st⟩:=hs d ds ρ μ h
  exact⟨c',st _ λkF gq h'=>i9 Pv h' hs hd⟩
structure lM (mg:Str->Option ar):Prop where
 len:mg "len"=none
 range:mg "range"=none
 list:mg "list"=none
 isinstance:mg "isinstance"=none
 max:mg "max"=none
 min:mg "min"=none
 bool:mg "bool"=none
 tuple:mg "tuple"=none
 str:mg "str"=none
 int:mg "int"=none
 all:mg "all"=none
 any:mg "any"=none
 zip:mg "zip"=none
 enumerate:mg "enumerate"=none
 reversed:mg "reversed"=none
 dict:mg "dict"=none
 sorted:mg "sorted"=none
abbrev txt (l:au Nat):Str:=⟨l.toArray⟩
def Gv:jP:=λds μ K=>match ds with
 |[.mr k,.int n]=>μ[k]?=some .box/\1<=n/\n<=1000/\∀ l:au Nat,l.length=n.toNat->OX l->K (.str (txt l)) μ
 |_=>False
structure Cuts (n:Int)(cs:List Int):Prop where
 Qw:∀ c∈cs,1<=c/\c<n
 up:cs.Pairwise (·<·)
def Gu:jP:=λds μ K=>match ds with
 |[.mr k,.int n]=>μ[k]?=some .box/\1<=n/\n<=1000/\∀ cs:au Int,cs.length<=n.toNat->Cuts n cs->K (.lst (cs.map D.int)) μ
 |_=>False
def Jr (l:au Nat):D:=.str (txt l)
def Good (n:Int)(ls:au (au Nat)):Prop:=∀ l∈ls,(l.length:Int)=n/\OX l
def tF:jP:=λds μ K=>match ds with
 | [.mr k,.int n,.lst cs,.mr t]=>μ[k]?=some .box/\k≠t/\1<=n/\n<=1000/\∃(rj:au Int) (ls:au (au Nat)),cs=rj.map D.int/\rj.length<=1000/\Cuts n rj/\μ[t]?=some (.lst (ls.map Jr))/\ls≠[]/\ls.length<=100/\Good n ls /\
  ∀ vm:au (au Nat),vm.length=ls.length->Good n vm->K (.mr t) (μ.set t (.lst (vm.map Jr)))
 |_=>False
abbrev Tk:=au Nat×Int
def ny (t:Tk):D:=.tup [.str (txt t.1),.int t.2]
structure tV (n:Int)(ts:List Tk):Prop where
 mD:ts.length<=20
 ok:∀ t∈ts,(t.1.length:Int)=n/\OX t.1/\0<=t.2/\t.2<=60
def AB:jP:=λds μ K=>match ds with
 |[.mr k,.int m]=>μ[k]?=some .box/\1<=m/\m<=100/\∀(n:Int) (cs:au Int) (ts:au Tk),1<=n->n<=m->cs.length<=n.toNat->Cuts n cs->tV n ts->K (.tup [.int n,.lst (cs.map D.int),.lst (ts.map ny)]) μ
 |_=>False
def Gs:jP:=λds μ K=>match ds with
 |[.int n,x]=>∃ cs:au Int,lv μ x=some (cs.map D.int)/\cs.length<=1000/\K (.lst ((fI n cs).map D.int)) μ
 |_=>False
def gw (n:Int)(cs:au Int):(fI n cs).length=cs.length+2:=by unfold fI;simp
def qt (n:Int)(cs:au Int):[D.int 0]++cs.map D.int++[D.int n]=(fI n cs).map D.int:=by unfold fI;simp
def sz {n:Nat}(h:n<=100000):n<=sizeLine:=aV h (by decide)
def Xo {n:Nat}(h:n<=100000):n<sizeLine:=cw h (by decide)
def Bi (es:au Int):au (Int×Int):=es.zip es.tail
def Vc (p:Int×Int):D:=.tup [.int p.1,.int p.2]
def vU:jP:=λds μ K=>match ds with
 |[.int n,x]=>∃ cs:au Int,lv μ x=some (cs.map D.int)/\cs.length<=1000/\K (.lst ((Bi (fI n cs)).map Vc)) μ
 |_=>False
def mE (l:au Nat)(a b:Int):au Nat:=kX l (some a) (some b)
def bad (ts:au Tk)(p:Int×Int):Bool:=ts.all λt=>decide (120∈mE t.1 p.1 p.2)
def jZ (es:au Int)(ts:au Tk):av (Int×Int):=(Bi es).find? (bad ts)
def Ql:av (Int×Int)->D
 |some p=>Vc p
 |none=>.ic
def AI:jP:=λds μ K=>match ds with
 |[.int n,x,y]=>∃(cs:au Int) (ts:au Tk),lv μ x=some (cs.map D.int)/\lv μ y=some (ts.map ny)/\cs.length<=1000/\tV n ts/\n<=1000/\K (Ql (jZ (fI n cs) ts)) μ
 |_=>False
def v8:jP:=λds μ K=>match ds with
 |[.lst b,y]=>∃(n:Int) (cs:au Int) (ts:au Tk),b=(fI n cs).map D.int/\lv μ y=some (ts.map ny)/\cs.length<=1000/\1<=n/\n<=1000/\Cuts n cs/\tV n ts/\K (Ql (jZ (fI n cs) ts)) μ
 |_=>False
def uK {it:D->MS->(av D->MS->Prop)->Prop}{c:MS->Prop}{μ:MS}(hc:c μ):∀ {ds:au D} {K:au D->MS->Prop},(∀ d∈ds,∀(K':av D->MS->Prop),K' (some d) μ->K' none μ->it d μ K')->(∀ zs,zs.Sublist ds->K zs μ)->rG it c ds μ K
 |[],K,_,k=>⟨hc,k [] (.slnil)⟩
 |d::ds,K,h,k=>⟨hc,h d aH _ (uK hc (λx hx=>h x (nE _ hx)) λzs hz=>k _ (hz.cons₂ d)) (uK hc (λx hx=>h x (nE _ hx)) λzs hz=>k _ (hz.cons d))⟩
def qU {α:Type}(g:α->D)(P:α->Prop){it:D->MS->(av D->MS->Prop)->Prop}{c:MS->Prop}{μ:MS}(hc:c μ):∀ {ds:au D} {K:au D->MS->Prop},(∀ d∈ds,∀(K':av D->MS->Prop),(∀ a,P a->K' (some (g a)) μ)->it d μ K')->(∀ as:au α,as.length=ds.length->(∀ a∈as,P a)->K (as.map g) μ)->rG it c ds μ K
 |[],K,_,k=>⟨hc,k [] rfl λ_ h=>nomatch h⟩
 | d::ds,K,h,k=>⟨hc,h d aH _ λa ha=>qU g P hc (λx hx=>h x (nE _ hx)) λas hl hp=>k (a::as) (by rw[a9,a9,hl]) λx hx=>by
  rcases List.mem_cons.mp hx with e|e
  .rw[e];exact ha
  .exact hp x e⟩
def Fp (lo:Int)(n:Nat):kz lo n=((List.range n).map λi=>lo+(i:Nat)).map D.int:=by unfold kz;rw[bA];rfl
def iJ (lo:Int)(n:Nat):(kz lo n).length=n:=by unfold kz;rw[ia,pW]
def JT {lo:Int}{n:Nat}{d:D}(h:d∈kz lo n):∃ i:Nat,i<n/\d=.int (lo+i):=by
 unfold kz at h
 obtain⟨i,hi,rfl⟩:=List.mem_map.mp h
 exact⟨i,by simpa using hi,rfl⟩
def Ry (lo:Int)(n:Nat):((List.range n).map λi=>lo+(i:Nat)).Pairwise (·<·):=by
 rw[List.pairwise_map]
 exact List.Pairwise.imp (λh=>by lia) List.pairwise_lt_range
def BR {n:Int}{cs:au Int}(h1:1<=n)(h:cs.Sublist ((List.range (n - 1).toNat).map λi=>1+((i:Nat):Int))):cs.length<=n.toNat/\Cuts n cs:=by
 refine⟨?_,λc hc=>?_,(Ry 1 _).sublist h⟩
 .have:=h.length_le
  rw[ia,pW]at this
  lia
 .obtain⟨i,hi,rfl⟩:=List.mem_map.mp (h.subset hc)
  rw[cf]at hi
  lia
def Nm {α:Type}{g:α->D}{zs:au D}{as:au α}(h:zs.Sublist (as.map g)):∃ bs:au α,bs.Sublist as/\zs=bs.map g:=by
 obtain⟨bs,hb,e⟩:=List.sublist_map_iff.mp h
 exact⟨bs,hb,e⟩
def ib {n:Int}{cs:au Int}(h1:1<=n)(h:Cuts n cs):(fI n cs).Pairwise (·<·):=by
 unfold fI
 rw[dR,List.pairwise_cons]
 refine⟨λx hx=>?_,?_⟩
 .rcases List.mem_append.mp hx with q | q
  .have:=h.Qw x q;lia
  .rw[List.mem_singleton.mp q];lia
 .rw[List.pairwise_append]
  exact⟨h.up,List.pairwise_singleton _ _,λx hx y hy=>by rw[List.mem_singleton.mp hy];exact(h.Qw x hx).2⟩
def ig {n:Int}{cs:au Int}(h1:1<=n)(h:Cuts n cs){x:Int}(hx:x∈fI n cs):0<=x/\x<=n:=by
 unfold fI at hx
 rw[dR]at hx
 rcases List.mem_cons.mp hx with q|q
 .lia
 .rcases List.mem_append.mp q with q | q
  .have:=h.Qw x q;lia
  .rw[List.mem_singleton.mp q];lia
def ky {es:au Int}(h:es.Pairwise (·<·)){i j:Nat}{a b:Int}(hi:es[i]?=some a)(hj:es[j]?=some b)(pV:i<j):a<b:=by
 obtain⟨h1,r1⟩:=ka hi
 obtain⟨h2,r2⟩:=ka hj
 have:=List.pairwise_iff_getElem.mp h i j h1 h2 pV
 rw[r1,r2]at this
 exact this
def iZ {α β:Type}{g:α->β}{xs:au α}{i:Nat}{a:α}(h:xs[i]?=some a):lB (xs.map g) (i:Int)=some (g a):=kO (by rw[nF,h];rfl)
def kh (l:au Nat):(txt l).length=l.length:=HM l
def sC (l:au Nat):(txt l).cps.toList=l:=by simp
def wq {α:Type}(l:au α)(lo hi:av Int):(kX l lo hi).length<=l.length:=CK l lo hi
def OX.cut {l:au Nat}(h:OX l)(lo hi:av Int):OX (kX l lo hi):=λc hc=>h c (by
 unfold kX at hc
 exact fF (bj hc))
def Ah {n:Nat}:∀ {ds:au D},(∀ d∈ds,FK n d)->tX n ds
 |[],_=>True.intro
 |d::ds,h=>⟨h d aH,Ah λx hx=>h x (nE _ hx)⟩
def KS {n:Nat}(ns:au Int):tX n (ns.map D.int):=Ah λd hd=>by obtain⟨i,_,rfl⟩:=List.mem_map.mp hd;exact True.intro
def Sa {n:Nat}(ts:au Tk):tX n (ts.map ny):=Ah λd hd=>by obtain⟨i,_,rfl⟩:=List.mem_map.mp hd;exact⟨True.intro,True.intro,True.intro⟩
def take_set {μ:MS}{n k:Nat}{m:MO}(h:n<=k):(μ.set k m).take n=μ.take n:=by
 rw[List.take_set,List.set_eq_of_length_le]
 rw[bz];lia
def U0 {n:Nat}(t:Tk):nM (n+1) (ny t):=by
 unfold ny
 refine JK (by simp) λd hd=>?_
 simp only[aR,aL,bQ]at hd
 rcases hd with rfl|rfl
 .exact Rr
 .exact DC
def Rq {n:Nat}{ts:au Tk}(h:ts.length<=100000):nM (n+2) (.lst (ts.map ny)):=wK (by rw[ia];exact h) λd hd=>by
 obtain⟨t,_,rfl⟩:=List.mem_map.mp hd;exact U0 t
def mZ {μ:MS}{t:Nat}{m:MO}(h:μ[t]?=some m):μ.set t m=μ:=by
 refine cJ λi=>?_
 by_cases e:t=i
 .subst e
  rw[aW (ka h).1,h]
 .rw[bo e]
def vE {μ:MS}{x y:MO}:(μ++[x]).set μ.length y=μ++[y]:=by
 rw[cM _ _ (aw _),a8];rfl
def Je:∀(ls:au (au Nat)) (as:au Int),List.zipWith (λa b=>D.tup [a,b]) (ls.map Jr) (as.map D.int)=(ls.zip as).map ny
 |[],_=>by simp
 |_::_,[]=>by simp
 | l::ls,a::as=>by
  rw[aB,aB,bE,Je ls as,cQ,aB]
  rfl
def R1 {μ:MS}{n:Nat}{x:MO}(hm:∀(j:Nat) (m:MO),μ[j]?=some m->Aj μ.length m):∀(j:Nat) (m:MO),j<μ.length->(μ++[x])[j]?=some m->Aj μ.length m:=λj m hj e=>by
 rw[t6 hj]at e;exact hm j m e
def Jv {μ:MS}{x:MO}:(μ++[x]).take μ.length=μ:=cZ
def WT {v:Int}(h0:0<=v)(h1:v<4):∃ m,lB [D.int 1,D.int 4,D.int 9,D.int 55] v=some (.int m)/\1<=m/\m<=55:=by
 obtain⟨j,rfl⟩:∃ j:Nat,v=(j:Int):=⟨v.toNat,by lia⟩
 have hj:j<4:=by lia
 match j,hj with
 |0,_=>exact⟨1,rfl,by decide,by decide⟩
 |1,_=>exact⟨4,rfl,by decide,by decide⟩
 |2,_=>exact⟨9,rfl,by decide,by decide⟩
 |3,_=>exact⟨55,rfl,by decide,by decide⟩
def Tx {μ:MS}{x:D}{xs:au D}{i:Int}{d:D}{K:DK}(e:lv μ x=some xs)(h:lB xs i=some d)(k:K d μ):WA x (.int i) μ K:=by
 cases x with
 |lst ds=>cases e;exact fN h k
 |mr j=>exact fN e (fN h k)
 |_=>cases e
def xE (l:au Nat)(i j:Nat):mE l i j=(l.drop i).take (j - i):=by
 unfold mE kX
 rw[HT.lF,HT.lF]
 rcases Nat.le_total i l.length with q|q
 .rw[cb q]
  rcases Nat.le_total j l.length with z|z
  .rw[cb z]
  .rw[fC z,b9 (by rw[bO];exact aw _),b9 (by rw[bO];exact Nat.sub_le_sub_right z i)]
 .rw[fC q,bX (aw _),bX q,List.take_nil,List.take_nil]
def zb {l:au Nat}{a b:Int}(ho:OX l)(ha:0<=a)(IV:a<=b)(hb:b<=l.length):decide (txt (mE l a b)=txt (List.replicate (b - a).toNat 111))=!decide (120∈mE l a b):=by
 have len:(mE l a b).length=(b - a).toNat:=by
  obtain⟨i,rfl⟩:=cG ha
  obtain⟨j,rfl⟩:=cG (bB ha IV)
  rw[xE,bz,bO,cb (Nat.sub_le_sub_right (Int.ofNat_le.mp hb) i)]
  lia
 have ox:OX (mE l a b):=ho.cut _ _
 by_cases h:120∈mE l a b
 .rw[aJ h,aS]
  .rfl
  .intro e
   have e':mE l a b=List.replicate (b - a).toNat 111:=by have q:=cH (λz:Str=>z.cps.toList) e;simpa using q
   rw[e']at h
   have:=(List.mem_replicate.mp h).2
   cases this
 .rw[aS h,aJ]
  .rfl
  .congr 2
   refine List.eq_replicate_iff.mpr ⟨len,λc hc=>?_⟩
   rcases ox c hc with q|q
   .exact q
   .rw[q]at hc;exact absurd hc h
def vI {es:au Int}{i:Nat}:(Bi es)[i]?=(match es[i]?,es[i+1]? with | some a,some b=>some (a,b) | _,_=>none):=by
 unfold Bi
 rw[List.zip,bT,List.getElem?_tail]
 cases es[i]?<;>cases es[i+1]?<;>rfl
def Pz {k n:Nat}{A:Around}(hr:jO k A)(hn:n<=64):A.units+n<cLine:=by have:=hr.units;lia
def Ov {m:Nat}{b:ao}{H:Hp}{x:av V}:k8 [b] H (none::some (.mr 0)::List.replicate m none) (x::some (.ref b)::List.replicate m none):=by
 refine⟨by simp,λi d e=>?_⟩
 cases i with
 |zero=>cases e
 | succ i =>
  cases i with
  |zero=>cases e;exact⟨_,rfl,b,rfl,rfl⟩
  | succ i =>
   have:=d9 (kA (show(List.replicate m (none:av D))[i]?=some (some d)from e))
   cases this
def VA:DN:={ nx:=λ_ _=>False,rt:=λd _=>d=.bl true}
def Sh {m:Nat}{b q a:ao}{H:Hp}{Q:VK}{W:Ds}(B:T9 H b q)(w:W VA (none::some (.mr 0)::List.replicate m none) [.box])(k:∀ H',Q (.bl true) H'):Ym W { nx:=λ_ H'=>Q .ic H',rt:=Q} (some (.ref a)::some (.ref b)::List.replicate m none) H :=
 ⟨[b],_,[.box],VA,Ov,IA B,w,⟨λ_ _ _ _ _ z=>z.elim,λd gq gN v H' kd _ _ i=>by cases(show d=.bl true from kd);cases(show v=_ from i);exact k H',λ_ _ _ _ _ z=>z.elim,λ_ _ _ _ _ z=>z.elim⟩⟩
section
variable {κ:Type}[DecidableEq κ]
def pR (fX:au (κ×V))(k:κ):av V:=(fX.find? λkv=>decide (kv.1=k)).map (·.2)
def putK (fX:au (κ×V))(k:κ)(v:V):au (κ×V) :=
 if(fX.any λkv=>decide (kv.1=k))=true then fX.map (λkv=>if kv.1=k then(kv.1,v)else kv)else fX++[(k,v)]
def QP (fX:au (κ×V))(k:κ):au (κ×V):=fX.filter λkv=>decide (kv.1≠k)
def pX {p:κ×V}{r:au (κ×V)}{k:κ}(e:p.1=k):pR (p::r) k=some p.2:=by simp[pR,cj,e]
def pY {p:κ×V}{r:au (κ×V)}{k:κ}(e:¬ p.1=k):pR (p::r) k=pR r k:=by simp[pR,cj,e]
def BE (k:κ):∀ fX:au (κ×V),(fX.any λkv=>decide (kv.1=k))=(pR fX k).isSome
 |[]=>rfl
 | p::r=>by
  rw[c8]
  by_cases e:p.1=k
  .simp only[pX e,aJ e,Bool.true_or,Option.isSome_some]
  .rw[pY e,aS e,Bool.false_or];exact BE k r
def qk (fX:au (κ×V))(k:κ)(v:V):(putK fX k v).length<=fX.length+1:=by
 unfold putK
 split
 .rw[ia];lia
 .rw[l5,a9,List.length_nil];lia
def rq.uD {o:av V}{u:av ar}(r:rq o u):o.isSome=u.isSome:=by
 cases o with
 | none=>cases u with
  |none=>rfl
  |some _=>exact(show False from r).elim
 | some _=>cases u with
  |none=>exact(show False from r).elim
  |some _=>rfl
def KV.val {fX:au (κ×V)}{vs:au (κ×ar)}(r:KV fX vs)(k:κ):rq (pR fX k) (valueAt vs k):=by
 unfold KV at r
 induction r with
 |nil=>exact True.intro
 | @cons p q ps qs h t ih =>
  obtain⟨h1,h2⟩:=h
  by_cases e:p.1=k
  .have e':q.1=k:=h1.symm.trans e
   have b:valueAt (q::qs) k=some q.2:=by simp[valueAt,cj,e']
   rw[pX e,b];exact h2
  .have e':¬ q.1=k:=λz=>e (h1.trans z)
   have b:valueAt (q::qs) k=valueAt qs k:=by simp[valueAt,cj,e']
   rw[pY e,b];exact ih
def KV.any {fX:au (κ×V)}{vs:au (κ×ar)}(r:KV fX vs)(k:κ):(fX.any λkv=>decide (kv.1=k))=vs.any λkv=>decide (kv.1=k):=by
 unfold KV at r
 induction r with
 |nil=>rfl
 |cons h t ih=>rw[c8,c8,ih,h.1]
def KV.Rz {fX:au (κ×V)}{vs:au (κ×ar)}(r:KV fX vs)(k:κ){y:V}{u:ar}(ry:gH y u):
 KV (fX.map λkv=>if kv.1=k then(kv.1,y)else kv) (vs.map λkv=>if kv.1=k then(kv.1,u)else kv):=by
 unfold KV at r ⊢
 induction r with
 |nil=>exact .nil
 | @cons p q ps qs h t ih =>
  rw[aB,aB]
  refine .cons ?_ ih
  obtain⟨h1,h2⟩:=h
  by_cases e:p.1=k
  .rw[aF e,aF (h1.symm.trans e)];exact⟨h1,ry⟩
  .rw[aG e,aG (λz=>e (h1.trans z))];exact⟨h1,h2⟩
def KV.put {fX:au (κ×V)}{vs:au (κ×ar)}(r:KV fX vs)(k:κ){y:V}{u:ar}(ry:gH y u):KV (putK fX k y) (stored vs k u):=by
 unfold putK stored
 rw[r.any k]
 by_cases e:(vs.any λkv=>decide (kv.1=k))=true
 .rw[aF e,aF e];exact r.Rz k ry
 .rw[aG e,aG e];exact Paired.snoc r ⟨rfl,ry⟩
def KV.drop {fX:au (κ×V)}{vs:au (κ×ar)}(r:KV fX vs)(k:κ):KV (QP fX k) (without vs k):=by
 unfold KV at r ⊢
 unfold QP without
 induction r with
 |nil=>exact .nil
 | @cons p q ps qs h t ih =>
  obtain⟨h1,h2⟩:=h
  rw[cF,cF]
  by_cases e:p.1=k
  .have a:¬ decide (p.1≠k)=true:=by simp[e]
   have b:¬ decide (q.1≠k)=true:=by simp[h1.symm.trans e]
   rw[aG a,aG b];exact ih
  .have e':¬ q.1=k:=λz=>e (h1.trans z)
   have a:decide (p.1≠k)=true:=by simp[e]
   have b:decide (q.1≠k)=true:=by simp[e']
   rw[aF a,aF b];exact .cons ⟨h1,h2⟩ ih
def KV.length {fX:au (κ×V)}{vs:au (κ×ar)}(r:KV fX vs):fX.length=vs.length:=Paired.length r
end
def Cn {P:ah}{w:ai}{k:Key}{u:ar}(r:gH (kV k) u):(kn P w).is k u=true:=by
 cases k with
 |inl i=>obtain⟨t,e⟩:=(show ∃ t,u=Value.int i t from r);subst e;exact Cf P w i t
 |inr x=>obtain⟨t,e⟩:=(show ∃ t,u=Value.str x t from r);subst e;exact Ce P w x t
def yS {P:ah}{w:ai}:∀ {ks:au Key} {us:au ar},gD (ks.map kV) us->ItemsAre (kn P w) ks us
 |[],_,r=>by rw[List.map_nil]at r;cases r;exact .nil
 | k::ks,_,r=>by
  rw[aB]at r
  cases r with
  |cons h t=>exact .cons (Cn h) (yS t)
abbrev KT (H:Hp):au (au Key×V)->au (au Key×ao×ar)->Prop:=Paired λp q=>p.1=q.1/\H q.2.1=some (.tup (p.1.map kV))/\gH p.2 q.2.2
def KT.val {H:Hp}{fX:au (au Key×V)}{xs:au (au Key×ao×ar)}(r:KT H fX xs)(k:au Key):rq (pR fX k) ((atKey xs k).map (·.2)):=by
 induction r with
 |nil=>exact True.intro
 | @cons p q ps qs h t ih =>
  obtain⟨h1,_,h2⟩:=h
  by_cases e:p.1=k
  .have e':q.1=k:=h1.symm.trans e
   have b:atKey (q::qs) k=some q.2:=by simp[atKey,cj,e']
   rw[pX e,b];exact h2
  .have e':¬ q.1=k:=λz=>e (h1.trans z)
   have b:atKey (q::qs) k=atKey qs k:=by simp[atKey,cj,e']
   rw[pY e,b];exact ih
def KT.Rz {H:Hp}{fX:au (au Key×V)}{xs:au (au Key×ao×ar)}(r:KT H fX xs)(k:au Key){y:V}{u:ar}(ry:gH y u):
 KT H (fX.map λkv=>if kv.1=k then(kv.1,y)else kv) (xs.map (putAt k u)):=by
 induction r with
 |nil=>exact .nil
 | @cons p q ps qs h t ih =>
  rw[aB,aB]
  refine .cons ?_ ih
  obtain⟨h1,h2,h3⟩:=h
  unfold putAt
  by_cases e:p.1=k
  .rw[aF e,aF (h1.symm.trans e)];exact⟨h1,h2,ry⟩
  .rw[aG e,aG (λz=>e (h1.trans z))];exact⟨h1,h2,h3⟩
def KT.put {H:Hp}{fX:au (au Key×V)}{xs:au (au Key×ao×ar)}(r:KT H fX xs)(k:au Key){b:ao}{y:V}{u:ar}(hb:H b=some (.tup (k.map kV)))(ry:gH y u):
 KT H (putK fX k y) (storedH xs k b u):=by
 have e:(fX.any λkv=>decide (kv.1=k))=(atKey xs k).isSome:=by
  rw[BE,(r.val k).uD,Option.isSome_map]
 unfold putK storedH
 rw[e]
 by_cases q:(atKey xs k).isSome=true
 .rw[aF q,aF q];exact r.Rz k ry
 .rw[aG q,aG q];exact Paired.snoc r ⟨rfl,hb,ry⟩
def KT.keeps {H H':Hp}{fX:au (au Key×V)}{xs:au (au Key×ao×ar)}(r:KT H fX xs)(ht:∀ b ys,H b=some (.tup ys)->H' b=some (.tup ys)):KT H' fX xs :=
 Paired.D8 r λ_ _ z=>⟨z.1,ht _ _ z.2.1,z.2.2⟩
section
variable {P:ah}{w:ai}{H:Hp}{h:Heap}{a:ao}
def Qd {u:HO}(ok:pQ P w H h)(e:Rd H a u):jx P w H h a u:=e.ok ok
def CB {fX:au (Key×V)}(ok:pQ P w H h)(e:Rd H a (.dK fX)):fX.length<=sizeLine/\(a==sysModules)=false/\∃ vs,KV fX vs/\h.DictOf (kn P w) a vs :=
 show jx P w H h a (.dK fX)from Qd ok e
def QQ {fX:au (Key×V)}(ok:pQ P w H h)(e:H a=some (.dK fX)):fX.length<=sizeLine/\(a==sysModules)=false/\∃ vs,KV fX vs/\h.DictOf (kn P w) a vs:=CB ok (.inl e)
def An {ks:au Key}(ok:pQ P w H h)(e:H a=some (.tup (ks.map kV))):(tupleKind (kn P w)).is h ks a:=by
 obtain⟨_,gu,r,o,h1,h2,n,h3⟩:=(show jx P w H h a (.tup (ks.map kV))from ok a _ e)
 exact⟨o,gu.toArray,n,h1,h2,h3,by simpa using yS r⟩
def GA {fX:au (au Key×V)}(ok:pQ P w H h)(e:Rd H a (.dT fX)):fX.length<=sizeLine/\(a==sysModules)=false /\
 ∃ xs,KT H fX xs/\h.DictOfH (tupleKind (kn P w)) a xs:=by
 obtain⟨z,y,xs,r,o,es,ep,h1,h2,h3,h4,h5⟩:=(show jx P w H h a (.dT fX)from Qd ok e)
 refine⟨z,y,xs,r,o,es,ep,h1,h2,h3,h4,λx hx=>?_,h5⟩
 have all:∀ {l:au (au Key×V)} {m:au (au Key×ao×ar)},KT H l m->∀ x∈m,(tupleKind (kn P w)).is h x.1 x.2.1:=by
  intro l m q
  induction q with
  |nil=>intro x hx;exact nomatch hx
  | @cons p q ps qs hq t ih =>
   intro x hx
   rcases List.mem_cons.mp hx with e|hx
   .subst e
    exact An ok (by rw[<- hq.1];exact hq.2.1)
   .exact ih x hx
 exact all r x hx
def Wg {fX:au (au Key×V)}(ok:pQ P w H h)(e:H a=some (.dT fX)):fX.length<=sizeLine/\(a==sysModules)=false /\
 ∃ xs,KT H fX xs/\h.DictOfH (tupleKind (kn P w)) a xs:=GA ok (.inl e)
end
def Ba (H:Hp)(a:ao)(y:V)(r:av V):Prop :=
 (∃ fX k,Rd H a (.dK fX)/\y=kV k/\r=pR fX k)\/∃ fX k b,Rd H a (.dT fX)/\y=.ref b/\H b=some (.tup (k.map kV))/\r=pR fX k
def Dc (H:Hp)(a:ao)(y v:V)(H':Hp):Prop :=
 (∃ fX k,H a=some (.dK fX)/\y=kV k/\fX.length<sizeLine/\H'=upd H a (.dK (putK fX k v))) \/
 ∃ fX k b,H a=some (.dT fX)/\y=.ref b/\H b=some (.tup (k.map kV))/\fX.length<sizeLine/\H'=upd H a (.dT (putK fX k v))
def Ba.t {H:Hp}{a b:ao}{fX:au (au Key×V)}{k:au Key}(e:H a=some (.dT fX))(eb:H b=some (.tup (k.map kV))):Ba H a (.ref b) (pR fX k):=.inr ⟨fX,k,b,.inl e,rfl,eb,rfl⟩
def Dc.k {H:Hp}{a:ao}{fX:au (Key×V)}{k:Key}{v:V}(e:H a=some (.dK fX))(hl:fX.length<sizeLine):Dc H a (kV k) v (upd H a (.dK (putK fX k v))):=.inl ⟨fX,k,e,rfl,hl,rfl⟩
def Dc.t {H:Hp}{a b:ao}{fX:au (au Key×V)}{k:au Key}{v:V}(e:H a=some (.dT fX))(eb:H b=some (.tup (k.map kV)))(hl:fX.length<sizeLine):
 Dc H a (.ref b) v (upd H a (.dT (putK fX k v))):=.inr ⟨fX,k,b,e,rfl,eb,hl,rfl⟩
section
variable {X:Cx}{fJ:au (ao×Obj)}{σ:St}{H:Hp}{s:ak}{a:ao}{y v:V}{u r:ar}{o:av V}{A:Around}{E:ar->ak->Prop}
def Inv.big (I:Inv X fJ σ H s):sysModules<s.heap.objs.size:=by
 have h:mainGlobals<s.heap.objs.size:=(I.mod.glob.keeps I.bk).lt
 exact du (by decide) h
def Iq {Q:ar->ak->Prop}(hu:A.units+1<cLine)(I:Inv X fJ σ H s)(g:Ba H a y (some v))(ry:gH y u)(h:∀ w' s',Inv X fJ σ H s'->gH v w'->Q w' s'):
 wpAny (model X.prog X.w) A (getItem (.ref a) u) Q E s:=by
 rcases g with⟨fX,k,e,ey,l⟩|⟨fX,k,b,e,ey,eb,l⟩
 .subst ey
  obtain⟨z,hd,vs,rel,dd⟩:=CB I.iF e
  obtain⟨w',hw,Di⟩:=rq.some_of (v:=v) (o:=valueAt vs k) (by rw[l];exact rel.val k)
  exact wpAny_getItem_of (Cn ry) dd.mapOf hw (h w' _ (I.tok _) Di)
 .subst ey
  cases(show u=Value.ref b from ry)
  obtain⟨z,hd,xs,rel,dd⟩:=GA I.iF e
  obtain⟨w',hw,Di⟩:=rq.some_of (v:=v) (o:=(atKey xs k).map (·.2)) (by rw[l];exact rel.val k)
  obtain⟨p,hp,SO⟩:=Option.map_eq_some_iff.mp hw
  refine wpAny_getItem_heap (tupleKind_room_in1 hu) (An I.iF eb) dd hp ?_
  rw[SO]
  exact h w' _ (I.tok _) Di
def OT {Q:ar->ak->Prop}(hu:A.units+1<cLine)(I:Inv X fJ σ H s)(g:Ba H a y o)(ry:gH y u)(h:∀ s',Inv X fJ σ H s'->Q (.bool (!o.isSome)) s'):
 wpAny (model X.prog X.w) A (compareOp .NotIn u (.ref a)) Q E s:=by
 rcases g with⟨fX,k,e,ey,l⟩|⟨fX,k,b,e,ey,eb,l⟩
 .subst ey
  obtain⟨z,hd,vs,rel,dd⟩:=CB I.iF e
  refine wpAny_notIn_of (Cn ry) hd dd.mapOf ?_
  rw[<- (rel.val k).uD,<- l]
  exact h _ (I.tok _)
 .subst ey
  cases(show u=Value.ref b from ry)
  obtain⟨z,hd,xs,rel,dd⟩:=GA I.iF e
  refine wpAny_notIn_heap (tupleKind_room_in1 hu) (An I.iF eb) hd dd ?_
  have q:=(rel.val k).uD
  rw[Option.isSome_map]at q
  rw[<- q,<- l]
  exact h _ (I.tok _)
def AN {h':Heap}{t':Nat}{ob:HO}(I:Inv X fJ σ H s)(mu:W2 (H a))(hs:Heap.SameBut a s.heap h')(he:∃ q,h'.get? a=some q)(new:jx X.prog X.w (upd H a ob) h' a ob):
 Inv X fJ σ (upd H a ob) {s with heap:=h',toks:=t'}:=
 I.write (x:=a) (e:=a) mu (.inl rfl) (λb q hb z=>(hs.2 b hb).trans z) he new
def LY {P:ah}{w:ai}{H':Hp}{h':Heap}{fX:au (Key×V)}{vs:au (Key×ar)}(z:fX.length<=sizeLine)(hd:(a==sysModules)=false)(rel:KV fX vs)(dd:h'.DictOf (kn P w) a vs):
 jx P w H' h' a (.dK fX):=⟨z,hd,vs,rel,dd⟩
def Ip {H':Hp}{Q:Unit->ak->Prop}(hu:A.units+1<cLine)(I:Inv X fJ σ H s)(g:Dc H a y v H')(ry:gH y u)(rv:gH v r)(h:∀ s',Inv X fJ σ H' s'->Q () s'):
 wpAny (model X.prog X.w) A (setItem (.ref a) u r) Q E s:=by
 rcases g with⟨fX,k,e,ey,l,eH⟩|⟨fX,k,b,e,ey,eb,l,eH⟩
 .subst ey eH
  obtain⟨z,hd,vs,rel,dd⟩:=QQ I.iF e
  have hz:vs.length<=sizeLine:=by rw[<- rel.length];exact z
  have hl:(putK fX k v).length<=sizeLine:=by have:=qk fX k v;lia
  refine wpAny_setItem_pairs (hsz:=hz) (Cn ry) dd λh' oP hs=>h _ ?_
  have he:∃ q,h'.get? a=some q:=let ⟨q,_,_,hq,_⟩:=oP;⟨q,hq⟩
  exact AN I (by rw[e];exact True.intro) hs he (LY hl hd (rel.put k rv) oP)
 .subst ey eH
  cases(show u=Value.ref b from ry)
  obtain⟨z,hd,xs,rel,dd⟩:=Wg I.iF e
  have hz:xs.length<=sizeLine:=by rw[<- Paired.length rel];exact z
  have hl:(putK fX k v).length<=sizeLine:=by have:=qk fX k v;lia
  refine wpAny_setItem_heap (hsz:=hz) (tupleKind_room_in1 hu) (An I.iF eb) dd λh' oP hs=>h _ ?_
  obtain⟨q,es,ep,hq,h2,h3,h4,_,h5⟩:=oP
  refine AN I (by rw[e];exact True.intro) hs ⟨q,hq⟩ ⟨hl,hd,_,(rel.put k eb rv).keeps λc ys ec=>?_,q,es,ep,hq,h2,h3,h4,h5⟩
  rw[gB (Vt ec e (λz=>nomatch z))]
  exact ec
end
section
variable {X:Cx}{fJ:au (ao×Obj)}{σ:St}{H:Hp}{s:ak}{a:ao}{fX:au (Key×V)}{k:Key}{u:ar}{A:Around}{E:ar->ak->Prop}
def Wq {Q:ar->ak->Prop}(I:Inv X fJ σ H s)(e:Rd H a (.dK fX))(h:∀ t s',Inv X fJ σ H s'->Q (.int fX.length t) s'):wpAny (model X.prog X.w) A (call (.builtin "len") [.ref a]) Q E s:=by
 obtain⟨z,hd,vs,rel,dd⟩:=CB I.iF e
 refine call_len_dict hd dd (by rw[<- rel.length];rw[sizeLine_eq]at z;lia) ?_
 rw[<- rel.length]
 exact h _ _ (I.tok _)
end
def Pn (i:Expr):Prop:=∀ ov iv,subscripted i false ov iv=operate [ov,iv] (getItem ov iv)
def Nn {prog:ah}{w:ai}{A:Around}{E:ar->ak->Prop}{s:ak}{env:Env}{value slice:Expr}{pos:Pos}{T id:String}{Q:ar->ak->Prop}
 (hl:typeLookup (.type T) "__getitem__"=pure (some (.builtin id))) (hs:Pn slice)
 (h:wpAny (model prog w) A (eval value env) (λo s₁=>wpAny (model prog w) A (eval slice env) (λi s₂=>s₂.TypeIs o T/\wpAny (model prog w) A (getItem o i) Q E s₂) E s₁) E s):
 wpAny (model prog w) A (eval (.Subscript value slice pos) env) Q E s:=by
 refine Subscript_ (b7 h (λo s₁ h₁=>b7 h₁ (λi s₂ h₂=>?_) λ_ _ x=>x) λ_ _ x=>x)
 obtain⟨hT,h₂⟩:=h₂
 unfold subscriptTail
 refine f9 ?_
 rw[getitemInPython_of_ne hT.not_modules]
 refine f9 (wpAny_specialOf hT hl ?_)
 have fin:wpAny (model prog w) A (subscripted slice false o i) (λr s₃=>wpAny (model prog w) A (letTemporaryGo value o r >>= λ_=>pure r) Q E s₃) E s₂:=by
  rw[hs o i]
  exact wpAny_operating (b7 h₂ (λr s₃ h₃=>f9 (wpAny_letTemporaryGo (aA h₃))) λ_ _ x=>x)
 first
  |exact aA (f9 fin)
  |exact f9 (aA (f9 fin))
  |exact f9 fin
def CD {X:Cx}{fJ:au (ao×Obj)}{σ:St}{H:Hp}{s:ak}{a:ao}{y:V}{o:av V}(I:Inv X fJ σ H s)(g:Ba H a y o):s.TypeIs (.ref a) "dict":=by
 rcases g with⟨fX,k,e,_,_⟩|⟨fX,k,b,e,_,_,_⟩
 .obtain⟨_,_,vs,_,dd⟩:=CB I.iF e
  exact dd.typeIs
 .obtain⟨_,_,xs,_,dd⟩:=GA I.iF e
  exact dd.typeIs
def US (td ty:TE):TE:=λσ H Q=>td σ H λx H1=>ty σ H1 λy H2=>∃ a v,x=.ref a/\Ba H2 a y (some v)/\Q v H2
def E9 (ty td:TE):TE:=λσ H Q=>ty σ H λy H1=>td σ H1 λx H2=>∃ a o,x=.ref a/\Ba H2 a y o/\Q (.bl (!o.isSome)) H2
def U4 (td ty tv:TE):TS:=λD σ H=>tv σ H λv H1=>td σ H1 λx H2=>ty σ H2 λy H3=>∃ a H4,x=.ref a/\Dc H3 a y v H4/\D.nx σ H4
section
variable {X:Cx}{o i e value:Expr}{pos pos' tpos:Pos}{td ty tv:TE}
def Fx (hu:X.A.units+1<cLine)(ho:PE X o td)(hi:PE X i ty)(hs:Pn i):PE X (.Subscript o i pos) (US td ty):=by
 intro fJ s σ H Q I h
 refine Nn PySem.F.slot_dict_getitem.lookup hs (iN (ho fJ s σ H _ I h) λu s1 q9=>?_)
 obtain⟨x,H1,I1,rx,q1⟩:=q9
 refine iN (hi fJ s1 σ H1 _ I1 q1) λiv s2 qo=>?_
 obtain⟨y,H2,I2,ry,a,v,ex,g,q2⟩:=qo
 subst ex
 obtain rfl:u=Value.ref a:=rx
 exact⟨CD I2 g,Iq hu I2 g ry λw' s3 I3 Di=>⟨v,H2,I3,Di,q2⟩⟩
def Hy (hu:X.A.units+1<cLine)(hi:PE X i ty)(ho:PE X o td):PC X .NotIn i o (E9 ty td):=by
 intro fJ s σ H Q I h
 refine iN (hi fJ s σ H _ I h) λiv s1 qm=>?_
 obtain⟨y,H1,I1,ry,q1⟩:=qm
 refine iN (ho fJ s1 σ H1 _ I1 q1) λu s2 rZ=>?_
 obtain⟨x,H2,I2,rx,a,ov,ex,g,q2⟩:=rZ
 subst ex
 obtain rfl:u=Value.ref a:=rx
 exact OT hu I2 g ry λs3 I3=>⟨.bl (!ov.isSome),H2,I3,rfl,q2⟩
def Fv (hu:X.A.units+1<cLine)(ho:PE X o td)(hi:PE X i ty)(hv:PE X value tv)(hs:swapsWith value (some (.Subscript o i pos')) pos.line X.env=pure false):
 PS X (.Assign [.Subscript o i pos'] value pos) (U4 td ty tv):=by
 intro fJ s σ H D I h
 refine wpAny_Assign_Subscript (iN (hv fJ s σ H _ I h) λr s1 tY=>?_) hs
 obtain⟨v,H1,I1,rv,q1⟩:=tY
 refine iN (ho fJ s1 σ H1 _ I1 q1) λu s2 uE=>?_
 obtain⟨x,H2,I2,rx,q2⟩:=uE
 refine iN (hi fJ s2 σ H2 _ I2 q2) λiv s3 r6=>?_
 obtain⟨y,H3,I3,ry,a,H4,ex,g,q3⟩:=r6
 subst ex
 obtain rfl:u=Value.ref a:=rx
 exact Ip hu I3 g ry rv λs4 I4=>⟨σ,H4,I4,q3⟩
end
def CC {P:ah}{w:ai}{H:Hp}(h:Heap)(hb:sysModules<h.objs.size):jx P w H (h.push { cls:=.type "dict",data:=.dict #[]}) h.objs.size (.dK []) :=
 ⟨bh _,beq_eq_false_iff_ne.mpr (bD (aE hb)),[],.nil,Heap.DictOf.new h⟩
def LQ {P:ah}{w:ai}{H:Hp}(h:Heap)(hb:sysModules<h.objs.size):jx P w H (h.push { cls:=.type "dict",data:=.dict #[]}) h.objs.size (.dT []) :=
 ⟨bh _,beq_eq_false_iff_ne.mpr (bD (aE hb)),[],.nil,_,#[],0,aI _ rfl,⟨rfl,rfl,rfl⟩,rfl,rfl,List.nodup_nil⟩
def Rh:TE:=λ_ H Q=>∀ p,H p=none->Q (.ref p) (upd H p (.dK []))
def Rg:TE:=λ_ H Q=>∀ p,H p=none->Q (.ref p) (upd H p (.dT []))
section
variable {X:Cx}{pos:Pos}
def Kl:PE X (.Dict [] [] pos) Rh:=λfJ s σ H Q I h =>
 wpAny_Dict_empty ⟨.ref s.heap.objs.size,_,I.laid (a:=s.heap.objs.size) (o:=.dK []) (t':=s.toks) (λ_ _ q=>j6 _ q) (aw _) (CC s.heap I.big),rfl,h _ (I.iF.fresh (aw _))⟩
def Kk:PE X (.Dict [] [] pos) Rg:=λfJ s σ H Q I h =>
 wpAny_Dict_empty ⟨.ref s.heap.objs.size,_,I.laid (a:=s.heap.objs.size) (o:=.dT []) (t':=s.toks) (λ_ _ q=>j6 _ q) (aw _) (LQ s.heap I.big),rfl,h _ (I.iF.fresh (aw _))⟩
end
structure M1 (X:Cx)(o:Expr)(m:Str)(l7:Pos)(e:Expr)(kD:Pos):Prop where
 fK:attributeBase o m X.env (eval o X.env)=eval o X.env
 mD:((backTo kD (starEach [e] X.env)).all (λx=>!x.1)&&(backToKw kD (keywordEach [] X.env)).all (λx=>x.1.isSome)
  && decide (([e]:List Expr).length+([]:List Keyword).length+(if([]:List Keyword).isEmpty then 0 else 1)<30))=true
 line:(l7.endLine==kD.line)=true
 trees:backTo kD (starEach [e] X.env)=[(false,eval e X.env)]
structure M2 (X:Cx)(o:Expr)(m:Str)(l7:Pos)(e f:Expr)(kD:Pos):Prop where
 fK:attributeBase o m X.env (eval o X.env)=eval o X.env
 mD:((backTo kD (starEach [e,f] X.env)).all (λx=>!x.1)&&(backToKw kD (keywordEach [] X.env)).all (λx=>x.1.isSome)
  && decide (([e,f]:List Expr).length+([]:List Keyword).length+(if([]:List Keyword).isEmpty then 0 else 1)<30))=true
 line:(l7.endLine==kD.line)=true
 trees:backTo kD (starEach [e,f] X.env)=[(false,eval e X.env),(false,eval f X.env)]
def xU (X:Cx)(N:au Str)(sc:Scope)(fp:au ao)(s:ak)(H:Hp):Cx where
 prog:=X.prog
 w:=X.w
 K:=X.K
 mg:=X.mg
 fK:=X.fK
 A:=X.A
 N:=N
 s₀:=s
 H₀:=H
 env:=nG sc s.heap.objs.size X.env
 fV:=X.stack
 stack:=X.stack
 ex:=fp
 fn:=λx=>sc.names.lookup x==some .cell
 gY:=X.gY
 pn:=[]
 xe:=λ_ _=>False
def xi (sc:Scope)(h:Heap):Heap:=pushCells (h.push { cls:=.type "dict",data:=.dict #[]}) sc.names
def u5 {sc:Scope}{h:Heap}:∀ b o,h.get? b=some o->(xi sc h).get? b=some o:=λb o e=>eh _ _ b o (j6 _ e)
section
variable {X:Cx}{fJ:au (ao×Obj)}{σ:St}{H:Hp}{s:ak}{N:au Str}{js:au (av Nat)}{sc:Scope}{fp:au ao}
def HV (I:Inv X fJ σ H s)(hc:kc X N js sc)(hf:∀ b∈fp,mU X fJ H b)(ho:∀ b∈fp,∃ o,s.heap.get? b=some o)(tk:Nat):
 Inv (xU X N sc fp s H) [] (ip js σ) H {s with heap:=xi sc s.heap,toks:=tk}:=by
 have Lv:∀ y∈sc.names,y.2=.free->∃ c,X.env.cells.lookup y.1=some c:=λy hy e=>I.ok.has y.1 (hc.free y hy e)
 have ok:=cellsFrom_ok sc.names (s.heap.push { cls:=.type "dict",data:=.dict #[]}) (s.heap.objs.size+1) [] ⟨λ_ _ hm=>(nomatch hm),List.Pairwise.nil⟩
  (by rw[bu];exact aw _)
 rw[bu]at ok
 have eC:(nG sc s.heap.objs.size X.env).cells=cellsFrom (s.heap.objs.size+1) sc.names []++lJ X.env.cells sc.names []:=ml sc.names _ [] _
 have lk:∀ x c,(nG sc s.heap.objs.size X.env).cells.lookup x=some c->(x,c)∈cellsFrom (s.heap.objs.size+1) sc.names []\/X.env.cells.lookup x=some c:=λx c e=>by
  rw[eC]at e
  rcases List.mem_append.mp (mem_of_lookup e)with h|h
  .exact .inl h
  .rcases pw Lv x c h with h | h
   .cases h
   .exact .inr h
 have big:∀(x:Str) (c:Nat),(x,c)∈cellsFrom (s.heap.objs.size+1) sc.names []->s.heap.objs.size+1<=c:=λx c h=>(ok.empty x c h).2
 have small:∀(x:Str) (c:Nat),X.env.cells.lookup x=some c->c<s.heap.objs.size:=λx c h=>let ⟨_,q⟩:=I.cell x c h;q.lt
 have has:∀ x,((nG sc s.heap.objs.size X.env).kindOf x=some .cell\/(nG sc s.heap.objs.size X.env).kindOf x=some .free)->∃ c,(nG sc s.heap.objs.size X.env).cells.lookup x=some c:=λx h=>by
  have h':(relabel sc X.env).names.lookup x=some .cell\/(relabel sc X.env).names.lookup x=some .free:=h
  rw[lH]at h'
  rw[eC,eI]
  cases q:sc.names.lookup x with
  |none=>rw[q]at h';rcases h' with h'|h'<;>cases h'
  | some k =>
   rw[q]at h'
   have hk:=BS (env:=X.env) (x:=x) (k:=k) (h'.elim (λz=>.inl (aK z)) λz=>.inr (aK z))
   rcases hk with rfl|rfl
   .obtain⟨c,tf⟩:=oN (n:=s.heap.objs.size+1) q
    exact⟨c,by rw[tf];rfl⟩
   .have z:=px (cells:=X.env.cells) sc.names [] x (mem_of_lookup q)
    obtain⟨c,tf⟩:=Option.isSome_iff_exists.mp z
    cases q2:(cellsFrom (s.heap.objs.size+1) sc.names []).lookup x with
    |none=>exact⟨c,by rw[tf];rfl⟩
    |some d=>exact⟨d,rfl⟩
 have IP:(xU X N sc fp s H).Ok:=by
  refine⟨I.ok.mod,hc.kind,I.ok.glob,I.ok.blt,aw _,λx y c h1 h2=>?_,has,λx c hx h=>?_,I.ok.hd,I.ok.frames,.inl rfl,λb hb=>⟨?_,λx c h=>?_⟩,I.bs,aV I.ok.Iz I.sz,λb o e hb=>?_,λb hb hs=>?_,I.stack,I.sE⟩
  .rcases lk x c h1 with g1 | g1 <;> rcases lk y c h2 with g2 | g2
   .exact name_of_addr ok.apart g1 g2
   .exact absurd (aP (small _ _ g2) (aV (aT _ 1) (big _ _ g1))) (b8 _)
   .exact absurd (aP (small _ _ g1) (aV (aT _ 1) (big _ _ g2))) (b8 _)
   .exact I.ok.inj x y c g1 g2
  .have Bo:sc.names.lookup x=some .cell:=by simpa [xU]using hx
   have h':(nG sc s.heap.objs.size X.env).cells.lookup x=some c:=h
   rw[eC,eI]at h'
   obtain⟨c2,tf⟩:=oN (n:=s.heap.objs.size+1) Bo
   rw[tf]at h'
   have e:c2=c:=aK h'
   subst e
   exact aV (aT _ 1) (big _ _ (mem_of_lookup tf))
  .obtain⟨o,e⟩:=ho b hb
   exact aE (jk e)
  .obtain⟨o,e⟩:=ho b hb
   have l:=jk e
   rcases lk x c h with g|g
   .exact bw (aP l (aV (aT _ 1) (big _ _ g)))
   .exact(hf b hb).2.2.2.2.1 x c g
  .rcases(hf b hb).2.2.2.1 with z | z
   .exact I.ok.HI b o e z
   .exact absurd (aP (jk e) (aV I.ok.Iz z)) (b8 _)
  .rcases List.mem_cons.mp (I.wF b hs)with z | z
   .exact(hf b hb).2.1 z
   .exact(hf b hb).2.2.1 z
 have sU:∀ b u,s.heap.get? b=some u->(xi sc s.heap).get? b=some u:=u5
 have YG:(xi sc s.heap).Ns s.heap.objs.size λ_=>none:=by
  have q:=(Heap.Ns.new s.heap (.type "dict")).keeps (eh sc.names _)
  exact q
 refine⟨IP,rfl,I.bare,Un.iW sU,⟨_,YG,λi x v e1 e2 e3=>?_⟩,λx c h=>?_,I.iF.fresh (aw _),λx c h=>?_,λp hp=>absurd (show p∈([]:au (ao×Obj))from hp) (by simp),I.iF.iW sU,?_⟩
 .obtain⟨j,hj,hv⟩:=xn e2
  obtain⟨g1,g2,g3,g4⟩:=hc.slot i x j e1 hj
  have kx:=hc.free _ g2 rfl
  obtain⟨m,hn,hl⟩:=I.loc
  obtain⟨u,r,l⟩:=hl j x v g1 hv (.inr kx)
  refine⟨u,r,?_⟩
  rcases l with⟨z,_⟩|⟨_,c,Uw,u7⟩
  .have z':X.env.kindOf x=some .local:=z
   rcases kx with k|k<;>(have k':X.env.kindOf x=_:=k;rw[z']at k';cases k')
  .have kY:(nG sc s.heap.objs.size X.env).kindOf x=some .cell\/(nG sc s.heap.objs.size X.env).kindOf x=some .free:=by
    show(relabel sc X.env).names.lookup x=some .cell\/(relabel sc X.env).names.lookup x=some .free
    rw[lH,g3]
    rcases yK (env:=X.env) (x:=x)with q|q
    .exact .inl (show some (uv X.env x .free)=_ by rw[q])
    .exact .inr (show some (uv X.env x .free)=_ by rw[q])
   obtain⟨c',h'⟩:=has x kY
   refine .inr ⟨kY,c',h',?_⟩
   rcases lk x c' h' with g|g
   .rcases mh _ _ _ _ _ g with z | z
    .exact absurd z g4
    .cases z
   .rw[Uw]at g;cases g
    exact u7.keeps sU
 .rcases lk x c h with g | g
  .exact⟨_,(ok.empty x c g).1⟩
  .obtain⟨v,q⟩:=I.cell x c g
   exact⟨v,q.keeps sU⟩
 .rcases lk x c h with g | g
  .exact I.iF.fresh (aV (aT _ 1) (big _ _ g))
  .exact I.pG x c g
 .show(ip js σ).length=N.length
  unfold ip
  rw[ia];exact hc.len
end
def yj {prog:ah}{w:ai}{A:Around}{R:Result->ak->Prop}{s:ak}{kx vx target iter:Expr}{ifs:au Expr}{scope:Scope}{pos:Pos}{it:ar}{D:ao}{env:Env}(I:Nat->ak->Prop)
 (turn:∀ n s,I n s->wpAny (model prog w) A (pyNext it) (λr s₁=>match r with
   |none=>R (.ok .next) s₁
   | some v=>wpAny (model prog w) A (letOwnedTupleGo target it v) (λ_ BI=>wpAny (model prog w) A (assign target env v) (λ_ s₂ =>
    wpAny (model prog w) A (forIn ifs true λc r=>if r=true then do let ok <- isTrue c env (eval c env);pure (ForInStep.yield ok)else pure (ForInStep.yield r)) (λok s₃ =>
     if ok=true then wpAny (model prog w) A (eval kx env) (λkv s₄=>wpAny (model prog w) A (eval vx env) (λvv s₅ =>
      wpAny (model prog w) A (dictSet D kv vv) (λ_ s₆=>∃ m,m<n/\I m s₆) (λ_ _=>False) s₅) (λ_ _=>False) s₄) (λ_ _=>False) s₃
     else ∃ m,m<n/\I m s₃) (λ_ _=>False) s₂) (λ_ _=>False) BI) (λ_ _=>False) s₁) (λ_ _=>False) s)
 (n:Nat) (h:I n s):
 codeAny (model prog w) A (.compLoop (.DictComp kx vx [⟨target,iter,ifs,0⟩] scope pos) 0 it (.ref D) env) R s:=by
 refine codeAny_loop rfl I (λn s hI=>?_) n h
 show wpAny _ A ((compTurn (.DictComp kx vx [⟨target,iter,ifs,0⟩] scope pos) 0 it (.ref D) env).onRaise (λx=>do noteFrame x env;theTreesLotGoes x)) _ _ s
 refine wpAny_noted ?_
 rw[compTurn_dict]
 refine f9 (dY (f9 (b7 (turn n s hI) (λr s₁ h₁=>?_) λ_ _ h'=>h'.elim)))
 cases r with
 |none=>exact aA h₁
 | some v =>
  refine f9 (b7 h₁ (λ_ BI Lf=>?_) λ_ _ h'=>h'.elim)
  refine f9 (b7 Lf (λ_ s₂ h₂=>f9 (b7 h₂ (λok s₃ h₃=>?_) λ_ _ h'=>h'.elim)) λ_ _ h'=>h'.elim)
  cases ok with
  |false=>exact aA ⟨rfl,h₃⟩
  | true =>
   exact f9 (f9 (b7 h₃ (λx s₄ h₄=>f9 (bP (b7 h₄ (λy s₅ h₅=>f9 (dY (bP (b7 h₅ (λ_ s₆ h₆=>aA ⟨rfl,h₆⟩) λ_ _ h'=>h'.elim)))) λ_ _ h'=>h'.elim))) λ_ _ h'=>h'.elim))
def Jn (js:au (av Nat))(g:TG)(tt:TT)(tk tv:TE)(J:It)(σ:St)(D:ao)(H1:Hp)(fin:au (Key×V)->Hp->Prop):Prop :=
 ∃ W:Nat->Nat->au (Key×V)->Hp->Prop,(∃ m,W 0 m [] H1)/\∀ i m fX H,W i m fX H ->
  (J.stop i H/\fin fX H)\/(J.go i H/\∀ x H',J.Jm i H x H'->g x (ip js σ) H' λoz H2=>Ext (ip js σ) oz/\tt oz H2 λb H3 =>
    if b=true then tk oz H3 λk H4=>tv oz H4 λv H5=>∃(kk:Key) (Ed:au (Key×V)),k=kV kk/\H5 D=some (.dK Ed)/\Ed.length<sizeLine/\∃ m',m'<m/\W (i+1) m' (putK Ed kk v) (upd H5 D (.dK (putK Ed kk v)))else ∃ m',m'<m/\W (i+1) m' fX H3)
section
variable {X:Cx}{fJ:au (ao×Obj)}{σ:St}{H:Hp}{s:ak}
def dict_set {A:Around}{E:ar->ak->Prop}{a:ao}{fX:au (Key×V)}{k:Key}{u r:ar}{v:V}{Q:Unit->ak->Prop}(I:Inv X fJ σ H s)(e:H a=some (.dK fX))(l:fX.length<sizeLine)(ry:gH (kV k) u)(rv:gH v r)
 (h:∀ s',Inv X fJ σ (upd H a (.dK (putK fX k v))) s'->Q () s'):wpAny (model X.prog X.w) A (dictSet a u r) Q E s:=by
 obtain⟨z,hd,vs,rel,dd⟩:=QQ I.iF e
 have hz:vs.length<=sizeLine:=by rw[<- rel.length];exact z
 have hl:(putK fX k v).length<=sizeLine:=by have:=qk fX k v;lia
 refine wpAny_dictSet_pairs (hsz:=hz) (Cn ry) dd λh' oP hs=>h _ ?_
 have he:∃ q,h'.get? a=some q:=let ⟨q,_,_,hq,_⟩:=oP;⟨q,hq⟩
 exact AN I (by rw[e];exact True.intro) hs he (LY hl hd (rel.put k rv) oP)
variable {N:au Str}{js:au (av Nat)}{sc:Scope}{fp:au ao}{tg kx vx iter:Expr}{ifs:au Expr}{g:TG}{tt:TT}{tk tv:TE}
def CL {J:It}{it D:ao}{tn:Nat->Heap->Prop}{pos:Pos}{R:Result->ak->Prop}{fin:au (Key×V)->Hp->Prop}{tok:Nat}(I:Inv X fJ σ H s)(hc:kc X N js sc)(gY:X.gY=true)
 (T:Turn X.prog X.w X.K tg J fp it tn) (st:tn 0 s.heap) (hf:∀ b∈fp,mU X fJ H b)
 (hg:PG (xU X N sc fp s H) tg g) (ht:Mw (xU X N sc fp s H) ifs tt) (hk:PE (xU X N sc fp s H) kx tk) (hv:PE (xU X N sc fp s H) vx tv) (q:Jn js g tt tk tv J σ D H fin)
 (hR:∀ s' H' fX m,Inv X fJ σ H' s'->fin fX H'->s'.heap.Ns s.heap.objs.size m->H' s.heap.objs.size=none->R (.ok .next) s'):
 codeAny (model X.prog X.w) X.A (.compStart (.DictComp kx vx [⟨tg,iter,ifs,0⟩] sc pos) 0 (.ref it) (.ref D) (nG sc s.heap.objs.size X.env)) R {s with heap:=xi sc s.heap,toks:=tok}:=by
 have Up:∀ b∈fp,∃ o,s.heap.get? b=some o:=λb hb=>let ⟨o,e,_⟩:=T.obj 0 s.heap st b hb;⟨o,e⟩
 have I0:=HV I hc hf Up tok
 have IP:=I0.ok
 obtain⟨W,⟨m0,w0⟩,turn⟩:=q
 have wG:∀ {H':Hp},(∀ b∈fp,H' b=none)->∀ b∈fp,mU (xU X N sc fp s H) [] H' b:=λ{H'} hn b hb =>
  ⟨hn b hb,(IP.UB b hb).1,IP.Im b hb,.inl hb,(IP.UB b hb).2,λp hp=>absurd (show p∈([]:au (ao×Obj))from hp) (by simp)⟩
 have PY:tn 0 (xi sc s.heap):=T.keep 0 _ _ st λb _ o e=>u5 b o e
 have loop:codeAny (model X.prog X.w) X.A (.compLoop (.DictComp kx vx [⟨tg,iter,ifs,0⟩] sc pos) 0 (.ref it) (.ref D) (nG sc s.heap.objs.size X.env)) R { s with heap:=xi sc s.heap,toks:=tok}:=by
  refine yj (λn s'=>∃ i fX H',Inv (xU X N sc fp s H) [] (ip js σ) H' s'/\tn i s'.heap/\(∀ b∈fp,H' b=none)/\W i n fX H') ?_ m0
   ⟨0,[],H,I0,PY,λb hb=>(hf b hb).1,w0⟩
  rintro n s3 ⟨i,fX,H3,I3,MH,QE,w3⟩
  rcases turn i n fX H3 w3 with⟨stop,qf⟩|⟨go,step⟩
  .refine iN (T.done (xU X N sc fp s H) rfl rfl rfl gY i _ s3 _ H3 _ I3 (wG QE) MH stop) λr s4 q9=>?_
   obtain⟨hr,I4⟩:=q9
   subst hr
   show R (.ok .next) s4
   obtain⟨m,Uq,_⟩:=I4.loc
   have IX:Inv X fJ σ H3 s4:=I.Mc (ch:=fp) I4.os I4.fK I4.iF I4.bare λb hb=>by
    obtain⟨f0,f1,f2,f3,f4,f5⟩:=hf b hb
    exact⟨f3,f1,f4,f5⟩
   exact hR s4 H3 fX m IX qf Uq I4.free
  .refine iN (T.item (xU X N sc fp s H) rfl rfl rfl gY i _ s3 _ H3 _ I3 (wG QE) MH go) λr s4 qo=>?_
   obtain⟨u,hr,h4⟩:=qo
   subst hr
   refine iN h4 λ_ s5 qm=>?_
   obtain⟨x,H5,I5,r5,y5,JG,V5⟩:=qm
   have W7:=I5.pinned (wG V5) (T.obj _ _ JG)
   refine iN (hg _ s5 _ H5 x u _ W7 r5 (step x H5 y5)) λ_ s6 ⟨ME,H6,I6,⟨LH,q6⟩⟩=>?_
   refine iN (ht _ s6 ME H6 _ I6 q6) λb s7 rZ=>?_
   obtain⟨H7,I7,q7⟩:=rZ
   have back:∀ {s':ak} {H':Hp},Inv (xU X N sc fp s H) ([]++uy fp s5.heap) ME H' s'->tn (i+1) s'.heap/\(∀ b∈fp,H' b=none)/\Inv (xU X N sc fp s H) [] (ip js σ) H' s':=λ{s' H'} I'=>by
    refine⟨T.keep _ _ _ JG λb hb o e=>(I'.pin (b,o) (aU _ (aU _ (lY hb e)))).1,λb hb=>?_,(I'.weak LH.1 LH.2).p4⟩
    obtain⟨o,e,d⟩:=T.obj _ _ JG b hb
    exact(I'.pin (b,o) (aU _ (aU _ (lY hb e)))).2.1
   cases b with
   | false =>
    obtain⟨m',hm,w7⟩:=q7
    obtain⟨t7,f7,I7'⟩:=back I7
    exact⟨m',hm,i+1,fX,H7,I7',t7,f7,w7⟩
   | true =>
    refine iN (hk _ s7 ME H7 _ I7 q7) λy s8 tY=>?_
    obtain⟨yk,H8,I8,ry,q8⟩:=tY
    refine iN (hv _ s8 ME H8 _ I8 q8) λz s9 uE=>?_
    obtain⟨zv,H9,I9,rz,kk,Ed,ek,eD,hl,m',hm,w9⟩:=uE
    subst ek
    refine dict_set (X:=xU X N sc fp s H) I9 eD hl ry rz λs10 I10=>?_
    obtain⟨t8,f8,W6⟩:=back I10
    exact⟨m',hm,i+1,_,_,W6,t8,f8,w9⟩
 exact codeAny_compStart_dict loop (T.self _ 0 _ _ _ PY loop)
def JD (wi:TI)(js:au (av Nat))(g:TG)(tt:TT)(tk tv:TE):TE:=λσ H Q=>wi σ H λJ H1=>∀ D,H1 D=none->Jn js g tt tk tv J σ D (upd H1 D (.dK [])) λ_ H'=>Q (.ref D) H'
end
def Lx:D->V
 |.bl b=>.bl b
 |.int i=>.int i
 |.str z=>.str z
 |_=>.ic
def Tf {φ:au ao}{H:Hp}{d:D}(h:pj d=true):jE φ H d (Lx d):=by
 cases d<;>first|exact(Bool.noConfusion (show false=true from h))|rfl
def Es {φ:au ao}{H:Hp}{d:D}{v:V}(h:pj d=true)(i:jE φ H d v):v=Lx d:=by
 cases d<;>first|exact(Bool.noConfusion (show false=true from h))|exact i
def Te {φ:au ao}{H:Hp}:∀ {ds:au D},ds.all pj=true->gh φ H ds (ds.map Lx)
 |[],_=>rfl
 | d::ds,h=>by
  rw[dE,bW]at h
  exact⟨_,_,rfl,Tf h.1,Te h.2⟩
def Gf {φ:au ao}{H:Hp}:∀ {ds:au D} {vs:au V},ds.all pj=true->gh φ H ds vs->vs=ds.map Lx
 |[],_,_,h=>h
 | d::ds,_,f,h=>by
  obtain⟨v,r,rfl,h1,h2⟩:=h
  rw[dE,bW]at f
  rw[Es f.1 h1,Gf f.2 h2];rfl
def K6:D->av Key
 |.int i=>some (.inl i)
 |.str z=>some (.inr z)
 |_=>none
def vL {φ:au ao}{H:Hp}{d:D}{v:V}{k:Key}(e:K6 d=some k)(i:jE φ H d v):v=kV k:=by
 cases d with
 |int n=>cases e;exact i
 |str z=>cases e;exact i
 |_=>cases e
def dput (fX:au (Key×D))(k:Key)(d:D):au (Key×D):=if(fX.any λkv=>decide (kv.1=k))=true then fX.map (λkv=>if kv.1=k then(kv.1,d)else kv)else fX++[(k,d)]
def uH (fX:au (Key×D))(k:Key):av D:=(fX.find? λkv=>decide (kv.1=k)).map (·.2)
def Dr (fX:au (Key×D)):au (Key×V):=fX.map λp=>(p.1,Lx p.2)
def LV (fX:au (Key×D))(k:Key)(d:D):Dr (dput fX k d)=putK (Dr fX) k (Lx d):=by
 unfold dput putK Dr
 have e:((fX.map λp=>(p.1,Lx p.2)).any λkv=>decide (kv.1=k))=(fX.any λkv=>decide (kv.1=k)):=by rw[List.any_map];rfl
 rw[e]
 split
 .rw[bA,bA]
  congr 1
  funext p
  show(_,_)=_
  by_cases h:p.1=k
  .simp[h]
  .simp[h]
 .rw[bS];rfl
def LW (fX:au (Key×D))(k:Key)(d:D):(dput fX k d).length<=fX.length+1:=by
 unfold dput
 split
 .rw[ia];lia
 .rw[l5,bJ];lia
def y6 {fX:au (Key×D)}{k:Key}{d:D}(h:(fX.map (·.2)).all pj=true)(hd:pj d=true):((dput fX k d).map (·.2)).all pj=true:=by
 unfold dput
 rw[c9]at h ⊢
 intro x hx
 split at hx
 .rw[bA]at hx
  obtain⟨p,hp,rfl⟩:=List.mem_map.mp hx
  show pj (if p.1=k then(p.1,d)else p).2=true
  split
  .exact hd
  .exact h _ (List.mem_map.mpr ⟨p,hp,rfl⟩)
 .rw[bS]at hx
  rcases List.mem_append.mp hx with q|q
  .exact h x q
  .rw[List.mem_singleton.mp (show x∈[d]from q)];exact hd
abbrev Wh (fX:au (Key×D)):D:=.jX (fX.map (·.1)) (fX.map (·.2))
def r9 (it:D->MS->(av (Key×D)->MS->Prop)->Prop)(c:MS->Prop)(μ:MS):au D->au (Key×D)->(au (Key×D)->Prop)->Prop
 |[],fX,K=>c (μ++[.jX (fX.map (·.1)) (fX.map (·.2))])/\K fX
 | d::ds,fX,K=>c (μ++[.jX (fX.map (·.1)) (fX.map (·.2))])/\it d (μ++[.jX (fX.map (·.1)) (fX.map (·.2))]) λo gq=>gq=μ++[.jX (fX.map (·.1)) (fX.map (·.2))]/\(match o with
  |some (k,y)=>pj y=true/\r9 it c μ ds (dput fX k y) K
  |none=>r9 it c μ ds fX K)
def L6 (ρ:DE)(y:DG)(t:Dt)(wk wv:De)(d:D)(μ:MS)(K:av (Key×D)->MS->Prop):Prop:=y d ρ μ λou jb=>t ou jb λb uS=>if b=true then wk ou uS λkd MF=>opt (K6 kd) λk=>wv ou MF λv UJ=>K (some (k,v)) UJ else K none uS
def L8 (wi:DI)(js:au (av Nat))(y:DG)(t:Dt)(wk wv:De):De:=λρ μ K=>wi ρ μ λds c gy=>ds.length<=sizeLine/\r9 (L6 (oR js ρ) y t wk wv) c gy ds [] λfX=>K (Wh fX) gy
def Fr.Qn {φ gN:au ao}{H H':Hp}(f:Fr φ H gN H')(hl:gN.length=φ.length):gN=φ:=by
 obtain⟨⟨ψ,rfl,_⟩,_,_⟩:=f
 rw[l5]at hl
 have:ψ=[]:=List.length_eq_zero_iff.mp (by lia)
 rw[this,bZ]
def JC {wi:DI}{js:au (av Nat)}{g:TG}{y:DG}{S:au Nat}{t:Dt}{wk wv:De}(so:Mv g y S)(mo:pP g)(ho:rB S js=true){σ:St}{H:Hp}{Q:VK}(h:tD (L8 wi js y t wk wv) σ H Q):JD (Yn wi) js g (xX t) (tD wk) (tD wv) σ H Q:=by
 obtain⟨φ,ρ,μ,K,A,M,k,L⟩:=h
 refine⟨φ,ρ,μ,_,A,M,k,λds c gy gT J H1 k1 f1 M1 wk' D hD=>?_⟩
 obtain⟨hz,k1⟩:=k1
 have hDf:D∉gT:=M1.fresh hD
 have fD:Fr gT H1 (gT++[D]) (upd H1 D (.dK [])):=⟨(Fr.snoc (φ:=gT) hD).ext,λc u _ e=>iL.upd hD _ _ e,λc e=>(iL.upd hD).free e⟩
 obtain⟨MD,_⟩:=M1.snoc (m:=.jX [] []) (o:=.dK []) hD ⟨[],[],gp,rfl,rfl,rfl⟩
 have YS:(gT++[D]).length=gy.length+1:=by rw[l5,M1.len];rfl
 have atD:∀ {H':Hp} {fX:au (Key×L2.D)},(fX.map (·.2)).all pj=true->gE (gT++[D]) H' (gy++[.jX (fX.map (·.1)) (fX.map (·.2))])->H' D=some (.dK (Dr fX)):=λ{H' fX} Qz M'=>by
  obtain⟨p,e1,Ed,vs,e2,e3,e4,e5⟩:=M'.at_ gy.length _ (by rw[rF (aw _),a8];rfl)
  rw[rF (by rw[M1.len];exact aw _),M1.len,a8]at e1
  cases e1
  rw[e2]
  congr 2
  have e6:=Gf Qz e5
  rw[e4]at e6
  unfold Dr
  have key:∀(as:au (Key×V)) (bs:au (Key×L2.D)),as.map (·.1)=bs.map (·.1)->as.map (·.2)=(bs.map (·.2)).map Lx->as=bs.map λp=>(p.1,Lx p.2):=by
   intro as
   induction as with
   | nil=>intro bs h1 _;cases bs with
    |nil=>rfl
    |cons _ _=>cases h1
   | cons a as ih =>
    intro bs h1 h2
    cases bs with
    |nil=>cases h1
    | cons b bs =>
     simp only[aB,cE]at h1 h2 ⊢
     exact⟨Prod.ext h1.1 h2.1,ih bs h1.2 (by simpa using h2.2)⟩
  exact key Ed fX e3 e6
 refine⟨λi n kv H'=>n=ds.length - i/\i<=ds.length/\∃ fX:au (Key×L2.D),kv=Dr fX/\fX.length<=i/\(fX.map (·.2)).all pj=true/\Fr gT H1 (gT++[D]) H'/\gE (gT++[D]) H' (gy++[.jX (fX.map (·.1)) (fX.map (·.2))])/\r9 (L6 (oR js ρ) y t wk wv) c gy (ds.drop i) fX λfX=>K (Wh fX) gy,
  ⟨ds.length,rfl,bh _,[],rfl,bh _,rfl,fD,MD,k1⟩,?_⟩
 rintro i n kv H' ⟨rfl,hi,fX,rfl,XD,Qz,f',M',w'⟩
 by_cases mK:i<ds.length
 .rw[bU mK]at w'
  obtain⟨c',w'⟩:=w'
  obtain⟨go,Jm⟩:=(wk' _ H' _ f' M' c' i).1 ds[i] (iM mK)
  refine .inr ⟨go,λx H2 HZ=>?_⟩
  obtain⟨f2,M2,i2⟩:=Jm x H2 HZ
  have E2:k8 (gT++[D]) H2 (oR js ρ) (ip js σ):=((A.mono (f1.trans (f'.trans f2))).ip js)
  refine mo _ _ _ _ _ (λEX H3 r6=>?_) (so _ H2 _ _ _ _ x _ E2 M2 i2 w')
  obtain⟨e3,l3,n3,Px,E3,k3⟩:=r6
  refine⟨LG ho l3 n3,?_⟩
  subst e3
  refine⟨_,Px,_,_,E3,M2,k3,λb MF UH H4 k4 f4 M4=>?_⟩
  cases b with
  | true =>
   refine⟨UH,Px,MF,_,E3.mono f4,M4,k4,λd5 UJ X4 v5 H5 k5 f5 M5 i5=>?_⟩
   obtain⟨kk,ekk,k5⟩:=iw k5
   refine⟨X4,Px,UJ,_,E3.mono (f4.trans f5),M5,k5,λd6 μ6 φ6 v6 H6 k6 f6 M6 i6=>?_⟩
   obtain⟨e6,XF,w6⟩:=k6
   subst e6
   have ff:=f2.trans (f4.trans (f5.trans f6))
   have ef:φ6=gT++[D]:=ff.Qn (by rw[M6.len,M'.len])
   subst ef
   have hDv:=atD Qz M6
   refine⟨kk,_,vL ekk i5,hDv,by unfold Dr;rw[ia];lia,ds.length - (i+1),by lia,rfl,mK,dput fX kk d6,by rw[LV,Es XF i6],by have:=LW fX kk d6;lia,y6 Qz XF,?_,?_,w6⟩
   .refine(f'.trans ff).trans (.put (aU _ (List.mem_singleton.mpr rfl)))
   .have hp:(gT++[D])[gy.length]?=some D:=by rw[rF (by rw[M1.len];exact aw _),M1.len,a8];rfl
    have q:=M6.put (k:=gy.length) (p:=D) (o:=.dK (putK (Dr fX) kk v6)) (m:=.jX ((dput fX kk d6).map (·.1)) ((dput fX kk d6).map (·.2))) hp
     ⟨Dr (dput fX kk d6),((dput fX kk d6).map (·.2)).map Lx,by rw[gp,LV,Es XF i6],by unfold Dr;rw[bA];rfl,by unfold Dr;rw[bA,bA];rfl,Te (y6 Qz XF)⟩
    have e:(gy++[MO.jX (fX.map (·.1)) (fX.map (·.2))]).set gy.length (.jX ((dput fX kk d6).map (·.1)) ((dput fX kk d6).map (·.2)))=gy++[.jX ((dput fX kk d6).map (·.1)) ((dput fX kk d6).map (·.2))]:=vE
    rw[e]at q
    exact q
  | false =>
   obtain⟨e4,w4⟩:=k4
   subst e4
   have ff:=f2.trans f4
   have ef:UH=gT++[D]:=ff.Qn (by rw[M4.len,M'.len])
   subst ef
   exact⟨ds.length - (i+1),by lia,rfl,mK,fX,rfl,by lia,Qz,f'.trans ff,M4,w4⟩
 .have e:i=ds.length:=by lia
  subst e
  rw[List.drop_length]at w'
  refine .inl ⟨(wk' _ H' _ f' M' w'.1 _).2 rfl,?_⟩
  have M'':gE gT H' gy:=by
   have q:=M'.kC (n:=gy.length) (λk m hk e=>by rw[t6 hk]at e;exact M1.bound k m e)
   rw[cZ,show(gT++[D]).take gy.length=gT by rw[<- M1.len,cZ]]at q
   exact q
  have f'':Fr gT H1 gT H':=⟨⟨[],by simp,λ_ h=>nomatch h⟩,f'.keep,f'.XS⟩
  exact L _ gy gT _ H' w'.2 (f1.trans f'') M'' ⟨D,Dr fX,_,rfl,hDf,atD Qz M',by unfold Dr;rw[bA];rfl,rfl,by
   have:(Dr fX).map (·.2)=(fX.map (·.2)).map Lx:=by unfold Dr;rw[bA,bA];rfl
   rw[this];exact Te Qz⟩
section
variable {X:Cx}{a b e:Expr}{es:au Expr}{pos:Pos}
variable {N:au Str}{js:au (av Nat)}{sc:Scope}{tg kx vx iter:Expr}{ifs:au Expr}{g:TG}{y:DG}{S:au Nat}{t:Dt}{wk wv:De}
def Wz:xP:=λx y μ K=>match x with
 |.jX ks ds=>opt (K6 y) λk=>opt (uH (ks.zip ds) k) λd=>K d μ
 |_=>False
def LO {φ:au ao}{H:Hp}{ks:au Key}:∀ {ds:au D} {fX:au (Key×V)} {k:Key} {d:D},fX.map (·.1)=ks->gh φ H ds (fX.map (·.2))->uH (ks.zip ds) k=some d->∃ v,pR fX k=some v/\jE φ H d v:=by
 intro ds fX
 induction fX generalizing ks ds with
 |nil=>intro k d h1 h2 h3;cases h1;cases h3
 | cons p fX ih =>
  intro k d h1 h2 h3
  cases ks with
  |nil=>cases h1
  | cons k0 ks =>
   cases ds with
   |nil=>cases(show _=_ from h2)
   | cons d0 ds =>
    obtain⟨v,r,e,h4,h5⟩:=h2
    simp only[aB,cE]at h1 e
    obtain⟨rfl,rfl⟩:=e
    obtain⟨rfl,h1⟩:=h1
    rw[cQ]at h3
    unfold uH at h3
    rw[cj]at h3
    by_cases hk:p.1=k
    .simp only[hk,decide_true]at h3
     cases h3
     exact⟨p.2,pX hk,h4⟩
    .simp only[hk,decide_false]at h3
     obtain⟨v,a,b⟩:=ih h1 h5 (k:=k) (d:=d) h3
     exact⟨v,by rw[pY hk];exact a,b⟩
def za {wa wb:De}(hu:X.A.units+1<cLine)(ha:PD X a wa)(hb:PD X b wb)(hs:Pn b):PD X (.Subscript a b pos) (wm Wz wa wb):=(Fx hu ha hb hs).imp λσ H Q hq=>by
 obtain⟨φ,ρ,μ,K,A,M,k,L⟩:=hq
 refine⟨φ,ρ,μ,_,A,M,k,λd1 gy gT v1 H1 k1 f1 M1 i1=>?_⟩
 refine⟨gT,ρ,gy,_,A.mono f1,M1,k1,λd2 jb l8 v2 H2 k2 f2 M2 i2=>?_⟩
 unfold Wz at k2
 split at k2
 .obtain⟨k,ek,k2⟩:=iw k2
  obtain⟨d,ed,k2⟩:=iw k2
  obtain⟨p,fX,vs,rfl,_,hp,e1,e2,ha⟩:=i1.mono f2
  cases vL ek i2
  subst e2
  obtain⟨v,ev,iv⟩:=LO e1 ha ed
  exact⟨p,v,rfl,.inl ⟨fX,k,.inl hp,rfl,ev.symm⟩,(L.mono (f1.trans f2)).val M2 k2 iv⟩
 .exact k2.elim
end
def wA (ns:au Int):∀ k,k<ns.length->argBest (λi j=>decide (ns.getD i 0<ns.getD j 0)) k<=k/\∀ j,j<=k->ns.getD (argBest (λi j=>decide (ns.getD i 0<ns.getD j 0)) k) 0<=ns.getD j 0
 |0,_=>⟨aw _,λj hj=>by rw[show j=0 by lia];exact bq _⟩
 | k+1,h=>by
  obtain⟨h1,h2⟩:=wA ns k (by lia)
  unfold argBest
  by_cases hb:ns.getD (k+1) 0<ns.getD (argBest (λi j=>decide (ns.getD i 0<ns.getD j 0)) k) 0
  .rw[aF (aJ hb)]
   refine⟨aw _,λj hj=>?_⟩
   by_cases e:j=k+1
   .rw[e];exact bq _
   .exact bB (dw hb) (h2 j (by lia))
  .rw[aG (by simp only[bN];exact hb)]
   refine⟨by lia,λj hj=>?_⟩
   by_cases e:j=k+1
   .rw[e];lia
   .exact h2 j (by lia)
section
variable {prog:ah}{w:ai}{A:Around}{R:Result->ak->Prop}{I:ao}{fp wr:au ao}{n:Nat}{P:Nat->ar->Prop}{St:Nat->Heap->Prop}{kw:au (Str×ar)}
def Oj (W:Walks prog w A.in1 I fp wr n P St)(bt:Nat->Nat->Bool)(ZH:CmpOf prog w A.in1 .Lt P bt)(S:ao)(hSf:S∉fp):
 ∀(k j:Nat) (s:ak) (vb:ar) (c:Nat),n - (j+1)=k->j+1<=n->St (j+1) s.heap->P (argBest bt j) vb->s.heap.get? S=some { cls:=.type "list",dict:=none,data:=.seq #[vb,vb] c,slots:=#[]} ->
 (∀ v h' tk,P (argBest bt (n - 1)) v->(∀ b o,b∉wr->b≠S->s.heap.get? b=some o->h'.get? b=some o)->R (.ok (.ret v)) {s with heap:=h',toks:=tk}) ->
 codeAny (model prog w) A (.builtin "min.loop" ⟨[.ref I,.none,.ref S],kw⟩) R s:=by
 have Sw:S∉wr:=λh=>hSf (W.sub _ h)
 have nm:(toString "min"++toString ".loop" : String) = "min.loop":=by decide
 intro k
 induction k with
 | zero =>
  intro j s vb c hk hj Li hP hS hR
  have ej:j+1=n:=by lia
  refine eA eW ?_
  rw[dm cy _]
  show wpAny _ _ (seqItems? (.ref S)>>=_) _ _ s
  refine f9 (bc hS rfl ?_)
  show wpAny _ _ (tryCatch (pyNext (.ref I)) _>>=_) _ _ s
  refine f9 (eS (W.done s _ _ (ej▸Li) λh' tk kp=>?_))
  show wpAny _ _ (updateSeq S (λ_=>#[])>>=_) _ _ _
  refine f9 (df (kp S _ Sw hS) rfl (f9 (cY (aA ?_))))
  exact hR vb _ tk (by rw[<- ej];exact hP) λb o hb hbS e=>(aX _ _ (bD hbS)).trans (kp b o hb e)
 | succ k ih =>
  intro j s vb c hk hj Li hP hS hR
  have lt:j+1<n:=by lia
  refine eA eW ?_
  rw[dm cy _]
  show wpAny _ _ (seqItems? (.ref S)>>=_) _ _ s
  refine f9 (bc hS rfl ?_)
  show wpAny _ _ (tryCatch (pyNext (.ref I)) _>>=_) _ _ s
  refine f9 (eS (W.item (j+1) s _ _ lt Li λv h' tk hv OD kp=>?_))
  have Ux:=kp S _ Sw hS
  show wpAny _ _ (tryCatch (holding [v,v] (richCompare .Lt v vb>>=_)) _>>=_) _ _ _
  refine f9 (eS (bP (f9 (ZH (j+1) (argBest bt j) v vb _ _ _ hv hP (f9 (bP (cC (f9 (cY (aA ?_))))))))))
  cases hb:bt (j+1) (argBest bt j)with
  | true =>
   simp only[if_true]
   refine f9 (df Ux rfl (f9 (cY ?_)))
   rw[nm]
   refine aA ⟨d4 cy _,ih (j+1) _ v _ (by lia) lt (W.frame _ _ _ OD λb ZL o e=>?_) (by simp only[argBest,hb,if_true];exact hv) (bL _ Ux rfl) λv' h2 Xk Ia Qs=>?_⟩
   .exact(aX _ _ (λh:S=b=>hSf (by rw[h];exact ZL))).trans e
   .exact hR v' h2 Xk Ia λb o h1 h3 e=>Qs b o h1 h3 ((aX _ _ (bD h3)).trans (kp b o h1 e))
  | false =>
   simp only[eL,if_false]
   refine f9 (cY ?_)
   rw[nm]
   exact aA ⟨d4 cy _,ih (j+1) _ vb c (by lia) lt OD (by simp only[argBest,hb,eL,if_false];exact hP) Ux λv' h2 Xk Ia Qs=>hR v' h2 Xk Ia λb o h1 h3 e=>Qs b o h1 h3 (kp b o h1 e)⟩
end
def EI (a v:ar):argsOk "min" ⟨[a],[(Str.ofString "default",v)]⟩:=by unfold argsOk;kernel_rfl
section
variable {X:Cx}
def Cg {fJ:au (ao×Obj)}{σ:St}{H:Hp}{s:ak}{p:ao}{ns:au Int}{d:V}{dv:ar}{Q:VK}(I:Inv X fJ σ H s)(gY:X.gY=true)(hp:H p=some (.lst (ns.map V.int)))(rd:gH d dv)(q:if ns=[]then Q d H else ∀ m,m∈ns->(∀ y∈ns,m<=y)->Q (.int m) H):
 wpAny (model X.prog X.w) X.A (call (.builtin "min") [.ref p] [(Str.ofString "default",dv)]) (EP X fJ σ Q) X.xe s:=by
 have nm:(toString "min"++toString ".loop" : String) = "min.loop":=by decide
 obtain⟨_,gu,n,r,hl,e⟩:=I.lZ hp
 have Bk:s.heap.IsList p gu.toArray:=⟨_,e,rfl,n,rfl⟩
 have lt:p≠s.heap.objs.size:=aE (jk e)
 have len:gu.toArray.size=ns.length:=by rw[aD,<- hl,ia]
 have val:∀(i:Nat) (v:ar),gu.toArray[i]?=some v->∃ t,i<ns.length/\v=.int (ns.getD i 0) t:=λi v hv=>by
  have Dl:gu[i]?=some v:=by simpa using hv
  cases eb:(ns.map V.int)[i]? with
  |none=>have:=r.none_of eb;rw[Dl]at this;cases this
  | some y =>
   obtain⟨u,hu,ry⟩:=r.get eb
   rw[Dl]at hu;cases hu
   rw[nF]at eb
   cases e2:ns[i]? with
   |none=>rw[e2]at eb;cases eb
   | some b =>
    rw[e2]at eb;cases eb
    obtain⟨t,rfl⟩:=ry
    exact⟨t,(ka e2).1,by rw[aC,e2];rfl⟩
 refine PyProof.Rows.kmk_tree PySem.F.kind_min PySem.F.plain_min PySem.F.entry_min (EI _ _) ?_
 show wpAny _ _ (Builtin.Builtins.bindParams "min" ["key","default"] 0 ⟨[],[(Str.ofString "default",dv)]⟩>>=_) _ _ s
 refine f9 (wpAny_of_eq (show Builtin.Builtins.bindParams "min" ["key","default"] 0 ⟨[],[(Str.ofString "default",dv)]⟩=pure [none,some dv]from rfl) (f9 (aA (f9 (dj Bk (f9 (wpAny_newList ?_ (bh _))))))))
 rw[nm]
 have W:=Walks.list (prog:=X.prog) (w:=X.w) (A:=X.A.in1) (I.ok.hd gY) s.heap.objs.size p lt gu.toArray
 have hS:((s.heap.push { cls:=.type "list_iterator",data:=.fields #[.ref p,.int 0 0]}).push { cls:=.type "list",data:=.seq ([]:au ar).toArray}).get? (s.heap.push { cls:=.type "list_iterator",data:=.fields #[.ref p,.int 0 0]}).objs.size=some { cls:=.type "list",dict:=none,data:=.seq #[] 0,slots:=#[]}:=aI _ rfl
 have UW:(s.heap.push { cls:=.type "list_iterator",data:=.fields #[.ref p,.int 0 0]}).objs.size=s.heap.objs.size+1:=bu ..
 have ltp:p<s.heap.objs.size:=jk e
 have Sf:(s.heap.push { cls:=.type "list_iterator",data:=.fields #[.ref p,.int 0 0]}).objs.size∉[s.heap.objs.size,p]:=by
  rw[UW]
  simp only[aR,aL,bQ,not_or]
  exact⟨bw (bF _),bw (bx ltp)⟩
 have PY:((s.heap.push { cls:=.type "list_iterator",data:=.fields #[.ref p,.int 0 0]}).push { cls:=.type "list",data:=.seq ([]:au ar).toArray}).IsListIter s.heap.objs.size p 0/\((s.heap.push { cls:=.type "list_iterator",data:=.fields #[.ref p,.int 0 0]}).push { cls:=.type "list",data:=.seq ([]:au ar).toArray}).IsList p gu.toArray :=
  ⟨⟨_,j6 _ (aI _ rfl),rfl,rfl⟩,(Bk.push _).push _⟩
 have back:∀ {h':Heap} {tk:Nat},(∀ b o,s.heap.get? b=some o->h'.get? b=some o)->Inv X fJ σ H {s with heap:=h',toks:=tk}:=λkp=>I.iW kp
 refine aA ⟨d4 cy _,?_⟩
 refine eA eW ?_
 rw[dm cy _]
 show wpAny _ _ (seqItems? (.ref _)>>=_) _ _ _
 refine f9 (bc hS rfl ?_)
 show wpAny _ _ (tryCatch (pyNext (.ref s.heap.objs.size)) _>>=_) _ _ _
 by_cases hn:ns=[]
 .rw[aF hn]at q
  have z0:gu.toArray.size=0:=by rw[len,hn];rfl
  refine f9 (eS (W.done _ _ _ (by rw[z0];exact PY) λh' tk kp=>?_))
  show wpAny _ _ (rule _>>=_) _ _ _
  refine f9 (dJ (aA ?_))
  exact⟨d,H,back λb o eb=>kp b o (by simpa using aE (jk eb)) (j6 _ (j6 _ eb)),rd,q⟩
 .rw[aG hn]at q
  have pos:0<ns.length:=List.length_pos_iff.mpr hn
  refine f9 (eS (W.item 0 _ _ _ (by rw[len];exact pos) PY λv h' tk hv OD kp=>?_))
  have Ux:=kp _ _ (by simpa using(λz:(s.heap.push { cls:=.type "list_iterator",data:=.fields #[.ref p,.int 0 0]}).objs.size=s.heap.objs.size=>Sf (by simp[z]))) hS
  show wpAny _ _ (updateSeq _ (λ_=>#[v,v])>>=_) _ _ _
  refine f9 (df Ux rfl ?_)
  rw[nm]
  refine aA ⟨d4 cy _,Oj W (λi j=>decide (ns.getD i 0<ns.getD j 0)) ?_ _ Sf _ 0 _ v _ rfl (by rw[len];exact pos) (W.frame _ _ _ OD λb ZL o eb=>?_) hv (bL _ Ux rfl) λv' h2 Xk Ia Qs=>?_⟩
  .intro i j vi vj s' Q' E' hi hj hq
   obtain⟨t,_,rfl⟩:=val i vi hi
   obtain⟨t',_,rfl⟩:=val j vj hj
   exact lt_int hq
  .exact(aX _ _ (λh=>Sf (by rw[h];exact ZL))).trans eb
  .rw[len]at Ia
   obtain⟨t,mK,rfl⟩:=val _ v' Ia
   obtain⟨b1,b2⟩:=wA ns (ns.length - 1) (by lia)
   have nS:∀ b o,s.heap.get? b=some o->b≠(s.heap.push { cls:=.type "list_iterator",data:=.fields #[.ref p,.int 0 0]}).objs.size:=λb o eb=>by rw[UW];exact aE (bx (jk eb))
   have nI:∀ b o,s.heap.get? b=some o->b∉[s.heap.objs.size]:=λb o eb=>by simpa using aE (jk eb)
   refine⟨.int _,H,back λb o eb=>Qs b o (nI b o eb) (nS b o eb) ((aX _ _ (bD (nS b o eb))).trans (kp b o (nI b o eb) (j6 _ (j6 _ eb)))),⟨t,rfl⟩,q _ ?_ λx hx=>?_⟩
   .rw[aC,iM mK];exact bR _
   .obtain⟨j,hj,ej⟩:=aM hx
    have:=b2 j (by lia)
    rw[aC (i:=j),iM hj,ej]at this
    exact this
def Wx (w wd:De):De:=λρ μ K=>w ρ μ λx gy=>wd ρ gy λd jb=>∃ ns:au Int,lv jb x=some (ns.map D.int)/\if ns=[]then K d jb else ∀ m,m∈ns->(∀ y∈ns,m<=y)->K (.int m) jb
def Tp {e c:Expr}{p pos HN:Pos}{w wd:De}(gY:X.gY=true)(hg:Gl X "min")(hm:X.mg "min"=none)(he:PD X e w)(hc:PD X c wd)
 (h1:starEach [e] X.env=(false,eval e X.env)::starEach [] X.env:=by rfl)
 (h2:backTo pos (starEach [e] X.env)=(false,eval e X.env)::backTo pos (starEach [] X.env):=by rfl) (h3:(backTo pos (starEach [e] X.env)).any (·.1)=false:=by rfl)
 (h4:(backToKw pos (keywordEach [⟨some "default",c,HN⟩] X.env)).all (·.1.isSome)=true:=by rfl) (h5:(backToKw pos (keywordEach [⟨some "default",c,HN⟩] X.env)).any (·.1.isNone)=false:=by rfl)
 (h6:(backToKw pos (keywordEach [⟨some "default",c,HN⟩] X.env)).filterMap (·.1)=[Str.ofString "default"]:=by rfl):
 PD X (.Call (.Name "min" p) [e] [⟨some "default",c,HN⟩] pos) (Wx w wd):=by
 intro fJ s σ H Q I h
 obtain⟨φ,ρ,μ,K,A,M,k,L⟩:=h
 refine cP (kW I hg hm dF ?_)
 have q1:Fb (tD w) Ng σ H (λus H1=>Fb (tD wd) Ng σ H1 λds H2=>∃(l:ao) (d:V) (ns:au Int),us=[.ref l]/\ds=[d]/\H2 l=some (.lst (ns.map V.int))/\if ns=[]then Q d H2 else ∀ m,m∈ns->(∀ y∈ns,m<=y)->Q (.int m) H2):=by
  refine⟨φ,ρ,μ,_,A,M,k,λd1 gy gT v1 H1 k1 f1 M1 i1=>?_⟩
  refine⟨gT,ρ,gy,_,A.mono f1,M1,k1,λd2 jb l8 v2 H2 k2 f2 M2 i2=>?_⟩
  obtain⟨ns,el,k2⟩:=k2
  obtain⟨l,vs,rfl,hp,ha⟩:=kJ M2 (i1.mono f2) el
  have L2':=L.mono (f1.trans f2)
  refine⟨l,v2,ns,rfl,rfl,by rw[hp,ha.ints],?_⟩
  by_cases hn:ns=[]
  .rw[aF hn]at k2 ⊢;exact L2'.val M2 k2 i2
  .rw[aG hn]at k2 ⊢;exact λm a b=>L2'.val M2 (k2 m a b) rfl
 refine PyProof.Rows.callWith_kw (iN (gz he iV h1 pos fJ s σ H _ I q1) λus s1 qo=>?_) h2 h3 h4 h5
 obtain⟨vs,H1,I1,r1,q2⟩:=qo
 refine iN (NS hc RJ pos fJ s1 σ H1 _ I1 q2) λks s2 qm=>?_
 obtain⟨ds,H2,I2,r2,l,d,ns,e1,e2,hp,q⟩:=qm
 subst e1 e2
 obtain⟨u,rfl,ru⟩:=r1.one
 obtain⟨u2,rfl,ru2⟩:=r2.one
 cases ru
 rw[h6]
 exact Cg I2 gY hp ru2 q
def Fs:V->au V->Hp->VK->Prop:=λx vs H Q=>∃(l:ao) (y:Int) (ns:au Int) (j:Nat),x=.ref l/\vs=[.int y]/\H l=some (.lst (ns.map V.int))/\ns[j]?=some y/\(∀ m,m<j->ns[m]?≠some y)/\Q (.int j) H
def SD:EM X "list.index" Fs:=by
 intro fJ s σ H x vs v us Q I rx rv h
 .obtain⟨l,y,ns,j,rfl,rfl,hl,hj,hno,q⟩:=h
  cases rx
  obtain⟨u,rfl,t,rfl⟩:=rv.one
  obtain⟨hz,gu,n,r,hlen,e⟩:=I.lZ hl
  have Uu:j<ns.length:=(ka hj).1
  have len:gu.length=ns.length:=by rw[<- hlen,ia]
  have eU:∀(m:Nat) (hm:m<gu.length),gu[m]=gu[m]/\CA (.int y) gu[m]=decide (ns[m]?=some y):=λm hm=>by
   obtain⟨w',ew,Di⟩:=r.get (i:=m) (x:=.int (ns[m]'(by lia))) (by rw[nF,iM (by lia)];rfl)
   have:gu[m]=w':=by rw[iM hm]at ew;exact aK ew
   refine⟨rfl,?_⟩
   rw[this,Ex Di rfl]
   show(ns[m]==y)=_
   rw[iM (by lia)]
   by_cases h:ns[m]'(by lia)=y
   .simp[h]
   .simp[h]
  refine call_meets PySem.F.slot_list_index ⟨_,e,rfl⟩ PySem.F.entry_list_index (PySem.F.args_list_index_2 _ _) (SeqAt.list_indexAt l gu.toArray n none #[] (.int y t) (CA (.int y)) j (by rw[aD,len];exact Uu) (by have:=qj;rw[ia]at hz;lia) ?_ λm hm hmj=>?_) ⟨e,λz hzm=>oH (x:=.int y) ⟨t,rfl⟩ rfl r (by simp[lQ]) z (by simpa using hzm),?_⟩
  .have:=(eU j (by lia)).2
   rw[aJ hj]at this
   simpa using this
  .have:=(eU m (by lia)).2
   rw[aS (hno m hmj)]at this
   simpa using this
  .exact⟨.int j,H,I.tok _,⟨_,rfl⟩,q⟩
def LD:MU:=λd ds μ K=>match ds with
 |[.int y]=>∃(ns:au Int) (j:Nat),lv μ d=some (ns.map D.int)/\ns[j]?=some y/\(∀ m,m<j->ns[m]?≠some y)/\K (.int j) μ
 |_=>False
def JI {Kf:aa}:EK Kf "list" Fs LD:=λφ H x vs d ds μ K Q M hx h k L=>by
 unfold LD at k
 split at k
 .obtain⟨v,r,rfl,h1,h2⟩:=h;cases(show r=[]from h2);cases(show v=_ from h1)
  obtain⟨ns,j,el,h1,h2,k⟩:=k
  obtain⟨p,us,rfl,hp,ha⟩:=kJ M hx el
  exact⟨_,_,ns,j,rfl,rfl,by rw[hp,ha.ints],h1,h2,L.val M k rfl⟩
 .exact k.elim
end
def ph:∀(xs:au Int) (e:Int),e<=xs.foldl max e/\∀ x∈xs,x<=xs.foldl max e
 |[],e=>⟨bq _,λ_ h=>nomatch h⟩
 | y::xs,e=>by
  obtain⟨h1,h2⟩:=ph xs (max e y)
  rw[c5]
  refine⟨by lia,λx hx=>?_⟩
  rcases List.mem_cons.mp hx with q|q
  .lia
  .exact h2 x q
def kL:∀(xs:au Int) (e:Int),xs.foldl max e=e\/xs.foldl max e∈xs
 |[],e=>.inl rfl
 | y::xs,e=>by
  rw[c5]
  rcases kL xs (max e y)with h|h
  .rw[h]
   rcases Int.le_total e y with q|q
   .exact .inr (by rw[show max e y=y by lia];exact aH)
   .exact .inl (by lia)
  .exact .inr (nE _ h)
def sk (l:au Nat)(e:Nat):Nat:=e+((l.drop e).takeWhile (·==111)).length
def sj {l:au Nat}{e:Nat}(ho:OX l)(he:e<=l.length):T3 l e (sk l e):=by
 have split:=List.takeWhile_append_dropWhile (p:=λc=>c==111) (l:=l.drop e)
 have len:=cH List.length split
 rw[l5,bO]at len
 refine⟨aT _ _,by unfold sk;lia,λv h1 h2=>?_,?_⟩
 .have hv:v - e<((l.drop e).takeWhile (·==111)).length:=by unfold sk at h2;lia
  have g:l[v]?=((l.drop e).takeWhile (·==111))[v - e]?:=by
   have q:(l.drop e)[v - e]?=l[v]?:=by rw[cU];congr 1;lia
   rw[<- q,<- split,t6 hv]
   simp
  rw[g,iM hv]
  have:=List.all_eq_true.mp (List.all_takeWhile (l:=l.drop e) (p:=λc=>c==111)) _ (bR hv)
  simpa using this
 .cases hd:(l.drop e).dropWhile (·==111)with
  | nil =>
   left
   rw[hd]at len
   unfold sk
   simp at len
   lia
  | cons c r =>
   right
   have g:l[sk l e]?=some c:=by
    have q:(l.drop e)[sk l e - e]?=l[sk l e]?:=by rw[cU];congr 1;unfold sk;lia
    rw[<- q,<- split,rF (by unfold sk;simp),hd]
    unfold sk
    simp
   have nc:c≠111:=by
    have:=List.head?_dropWhile_not (p:=λc=>c==111) (l:=l.drop e)
    rw[hd]at this
    simpa using this
   rw[g]
   rcases ho c (kA g)with q|q
   .exact absurd q nc
   .rw[q]
def jd (es:au Int)(l:au Nat)(e:Int):Int:=(es.filter λx=>decide (x<=(sk l e.toNat:Int))).foldl max e
def AA {es:au Int}{l:au Nat}{e:Int}(ho:OX l)(h0:0<=e)(he:e<=l.length)(hm:e∈es):W8 es l e (jd es l e):=by
 have ct:=sj ho (e:=e.toNat) (by lia)
 have XR:e∈es.filter λx=>decide (x<=(sk l e.toNat:Int)):=List.mem_filter.mpr ⟨hm,aJ (by have:=ct.1;lia)⟩
 obtain⟨a,b⟩:=ph (es.filter λx=>decide (x<=(sk l e.toNat:Int))) e
 have mi:jd es l e∈es.filter λx=>decide (x<=(sk l e.toNat:Int)):=by
  rcases kL (es.filter λx=>decide (x<=(sk l e.toNat:Int))) e with q|q
  .unfold jd;rw[q];exact XR
  .exact q
 obtain⟨m1,m2⟩:=List.mem_filter.mp mi
 exact⟨_,ct,m1,cn m2,λx hx hxt=>b x (List.mem_filter.mpr ⟨hx,aJ hxt⟩)⟩
def Et {es:au Int}{l:au Nat}{e m:Int}(ho:OX l)(h0:0<=e)(he:e<=l.length)(hm:e∈es)(h:W8 es l e m):m=jd es l e:=h.uniq (AA ho h0 he hm)
def xr {es:au Int}{l:au Nat}{e:Int}(hm:e∈es):jd es l e∈es:=by
 unfold jd
 rcases kL (es.filter λx=>decide (x<=(sk l e.toNat:Int))) e with q|q
 .rw[q];exact hm
 .exact(List.mem_filter.mp q).1
def Gi (es:au Int)(l:au Nat)(e:Int):e<=jd es l e:=(ph _ e).1
def jU (es:au Int)(ts:au Tk)(a e:Int):Int:=ts.foldl (λm t=>if t.2<=a then max m (jd es t.1 e)else m) e
def jc (es:au Int)(ts:au Tk)(a:Int):au Int:=es.map (jU es ts a)
def BZ (es:au Int)(a e:Int):∀(ts:au Tk) (m:Int),ts.foldl (λm t=>if t.2<=a then max m (jd es t.1 e)else m) m=((ts.filter λt=>decide (t.2<=a)).map λt=>jd es t.1 e).foldl max m
 |[],m=>rfl
 | t::ts,m=>by
  rw[c5,BZ es a e ts,cF]
  by_cases h:t.2<=a
  .rw[aF h,aF (aJ h)];rfl
  .rw[aG h,aG (by simp[h])]
def kM (es:au Int)(ts:au Tk)(a e:Int):jU es ts a e=((ts.filter λt=>decide (t.2<=a)).map λt=>jd es t.1 e).foldl max e:=BZ es a e ts e
def wZ {es:au Int}{ts:au Tk}{a e:Int}(hm:e∈es):jU es ts a e∈es:=by
 rw[kM]
 rcases kL ((ts.filter λt=>decide (t.2<=a)).map λt=>jd es t.1 e) e with q|q
 .rw[q];exact hm
 .obtain⟨t,_,ht⟩:=List.mem_map.mp q
  rw[<- ht];exact xr hm
def nU (es:au Int)(ts:au Tk)(a e:Int):e<=jU es ts a e:=by rw[kM];exact(ph _ e).1
def sG (es:au Int)(t:Tk):au Int:=es.map (jd es t.1)
def si (es:au Int)(a:Int)(told:au Int)(t:Tk):au Int:=if t.2<=a then List.zipWith max told (sG es t)else told
def ze (es:au Int)(a:Int):∀(ts:au Tk) (g:Int->Int),ts.foldl (si es a) (es.map g)=es.map λe=>ts.foldl (λm t=>if t.2<=a then max m (jd es t.1 e)else m) (g e)
 |[],g=>rfl
 | t::ts,g=>by
  have e1:si es a (es.map g) t=es.map λe=>if t.2<=a then max (g e) (jd es t.1 e)else g e:=by
   unfold si
   by_cases h:t.2<=a
   .rw[aF h]
    unfold sG
    rw[dP]
    have key:∀ xs:au Int,List.zipWith (λx y=>max (g x) (jd es t.1 y)) xs xs=xs.map λe=>max (g e) (jd es t.1 e):=by
     intro xs
     induction xs with
     |nil=>rfl
     |cons x xs ih=>rw[bE,ih];rfl
    rw[key]
    simp[h]
   .rw[aG h];simp[h]
  rw[c5,e1,ze es a ts]
  rfl
def Ma (es:au Int)(ts:au Tk)(a:Int):ts.foldl (si es a) es=jc es ts a:=by
 have:=ze es a ts id
 rw[List.map_id]at this
 rw[this];rfl
def rowAt (es row:au Int)(x:Int):Int:=(row[es.idxOf x]?).getD 0
def nh (es:au Int)(ts:au Tk)(before:au Int)(a:Int):au Int:=List.zipWith (λQH mid=>max QH (rowAt es before mid)) (jc es ts a) before
structure nv (es row:List Int):Prop where
 len:row.length=es.length
 mem:∀ x∈row,x∈es
def Ej {es:au Int}{x:Int}(h:x∈es):es.idxOf x<es.length:=List.idxOf_lt_length_iff.mpr h
def mQ {es:au Int}{x:Int}(h:x∈es):es[es.idxOf x]?=some x:=by
 rw[iM (Ej h)]
 congr 1
 exact List.getElem_idxOf (Ej h)
def lV {es row:au Int}(r:nv es row){x:Int}(h:x∈es):row[es.idxOf x]?=some (rowAt es row x):=by
 have hl:es.idxOf x<row.length:=by rw[r.len];exact Ej h
 unfold rowAt
 rw[iM hl];rfl
def Ht {es row:au Int}(r:nv es row){x:Int}(h:x∈es):rowAt es row x∈es:=r.mem _ (kA (lV r h))
def Gz (es:au Int):nv es es:=⟨rfl,λ_ h=>h⟩
def wY (es:au Int)(ts:au Tk)(a:Int):nv es (jc es ts a):=⟨by unfold jc;rw[ia],λx hx=>by
 unfold jc at hx
 obtain⟨e,he,rfl⟩:=List.mem_map.mp hx
 exact wZ he⟩
def max_mem {es:au Int}{a b:Int}(ha:a∈es)(hb:b∈es):max a b∈es:=by
 rcases Int.le_total a b with h|h
 .rw[show max a b=b by lia];exact hb
 .rw[show max a b=a by lia];exact ha
def FH {es:au Int}{ts:au Tk}{before:au Int}{a:Int}(r:nv es before):nv es (nh es ts before a):=by
 have o:=wY es ts a
 refine⟨by unfold nh;rw[bG,o.len,r.len,Nat.min_self],λx hx=>?_⟩
 unfold nh at hx
 obtain⟨i,hi,rfl⟩:=aM hx
 rw[List.getElem_zipWith]
 rw[bG]at hi
 exact max_mem (o.mem _ (bR _)) (Ht r (r.mem _ (bR _)))
def gR (es:au Int)(ts:au Tk):Nat->au Int
 |0=>jc es ts 0
 |a+1=>nh es ts (gR es ts a) ((a:Int)+1)
def jV (es:au Int)(ts:au Tk):∀ a,nv es (gR es ts a)
 |0=>wY es ts 0
 |a+1=>FH (jV es ts a)
def DJ {es:au Int}{x:Int}(h:x∈es):rowAt es es x=x:=by unfold rowAt;rw[mQ h];rfl
def yQ (es:au Int)(ts:au Tk)(a:Int):nh es ts es a=jc es ts a:=by
 unfold nh jc
 have key:∀ xs:au Int,(∀ x∈xs,x∈es)->List.zipWith (λQH mid=>max QH (rowAt es es mid)) (xs.map (jU es ts a)) xs=xs.map (jU es ts a):=by
  intro xs
  induction xs with
  |nil=>intro _;rfl
  | cons x xs ih =>
   intro h
   rw[aB,bE,ih λy hy=>h y (nE _ hy),DJ (h x aH)]
   have:=nU es ts a x
   rw[show max (jU es ts a x) x=jU es ts a x by lia]
 exact key es λ_ h=>h
def BY {es:au Int}{ts:au Tk}{a:Int}(h:∀ t∈ts,a<t.2):jc es ts a=es:=by
 unfold jc
 have e:∀ e,jU es ts a e=e:=λe=>by
  rw[kM,List.filter_eq_nil_iff.mpr λt ht=>by have:=h t ht;simp;lia];rfl
 rw[cm λx _=>e x,List.map_id']
def uu {es:au Int}{ts:au Tk}:∀ {a:Nat},(∀ t∈ts,(a:Int)<t.2)->gR es ts a=es
 |0,h=>BY h
 | a+1,h=>by
  unfold gR
  rw[uu λt ht=>by have:=h t ht;lia,yQ]
  exact BY λt ht=>by have:=h t ht;lia
def Se {μ:MS}{m:MO}{x:D}{ds:au D}(h:lv μ x=some ds):lv (μ++[m]) x=some ds:=by
 cases x with
 |lst es=>exact h
 |mr k=>exact Oo h
 |_=>cases h
def KZ {μ g:MS}{x:D}{ds:au D}(h:lv μ x=some ds):lv (μ++g) x=some ds:=by
 cases x with
 |lst es=>exact h
 |mr k=>exact xc (by rw[t6 (ka (jA h)).1];exact jA h)
 |_=>cases h
structure gM (n:Int)(cs:List Int)(ts:List Tk):Prop where
 n1:1<=n
 n2:n<=1000
 mD:cs.length<=1000
 iK:Cuts n cs
 takes:tV n ts
def qQ (n:Int)(cs:au Int):0∈fI n cs:=by unfold fI;simp
def we {n:Int}{cs:au Int}(h1:1<=n)(h:Cuts n cs):(fI n cs).Nodup:=List.Pairwise.imp (λh=>Int.ne_of_lt h) (ib h1 h)
def Z6:jP:=λds μ K=>match ds with
 |[.int n,x]=>∃ cs:au Int,lv μ x=some (cs.map D.int)/\cs.length<=1000/\K (.mr μ.length) (μ++[.lst ((fI n cs).map D.int)])
 |_=>False
def qO:jP:=λds μ K=>match ds with
 |[.int n,x,.str z,.int e]=>∃ cs:au Int,lv μ x=some (cs.map D.int)/\cs.length<=1000/\(z.length:Int)=n/\n<=1000/\OX z.cps.toList/\0<=e/\e<=n/\e∈fI n cs/\K (.int (jd (fI n cs) z.cps.toList e)) μ
 |_=>False
def OO:jP:=λds μ K=>match ds with
 |[.lst b,.str z,.int e]=>∃ es:au Int,b=es.map D.int/\es.length<=2000/\z.length<=1000/\OX z.cps.toList/\0<=e/\e<=z.length/\e∈es/\K (.int (jd es z.cps.toList e)) μ
 |_=>False
def ju (es:au Int)(t:Tk):D:=.tup [.int t.2,.lst ((sG es t).map D.int)]
def qM:jP:=λds μ K=>match ds with
 |[.int n,x,y]=>∃(cs:au Int) (ts:au Tk),lv μ x=some (cs.map D.int)/\lv μ y=some (ts.map ny)/\gM n cs ts/\K (.lst (ts.map (ju (fI n cs)))) μ
 |_=>False
def qP:jP:=λds μ K=>match ds with
 |[x,.lst r,.int a]=>∃(es:au Int) (ts:au Tk),lv μ x=some (es.map D.int)/\r=ts.map (ju es)/\es.length<=2000/\ts.length<=100/\K (.lst ((jc es ts a).map D.int)) μ
 |_=>False
def AD:jP:=λds μ K=>match ds with
 |[x,.lst r,y,.int a]=>∃(es:au Int) (ts:au Tk) (bf:au Int),lv μ x=some (es.map D.int)/\r=ts.map (ju es)/\es.length<=2000/\ts.length<=100/\es.Nodup/\lv μ y=some (bf.map D.int)/\nv es bf/\K (.mr μ.length) (μ++[.lst ((nh es ts bf a).map D.int)])
 |_=>False
def kP (ts:au Tk):Int:=match ts.map (·.2)with|[]=>0|a::r=>r.foldl min a
def kr:∀(xs:au Int) (e:Int),(xs.foldl min e=e\/xs.foldl min e∈xs)/\xs.foldl min e<=e/\∀ x∈xs,xs.foldl min e<=x
 |[],e=>⟨.inl rfl,bq _,λ_ h=>nomatch h⟩
 | y::xs,e=>by
  obtain⟨h0,h1,h2⟩:=kr xs (min e y)
  rw[c5]
  refine⟨?_,by lia,λx hx=>?_⟩
  .rcases h0 with h | h
   .rw[h]
    rcases Int.le_total e y with q|q
    .exact .inl (by lia)
    .exact .inr (by rw[show min e y=y by lia];exact aH)
   .exact .inr (nE _ h)
  .rcases List.mem_cons.mp hx with q | q
   .lia
   .exact h2 x q
def Jl {ts:au Tk}{m:Int}(hm:m∈ts.map (·.2))(hl:∀ y∈ts.map (·.2),m<=y):m=kP ts:=by
 unfold kP
 cases e:ts.map (·.2)with
 |nil=>rw[e]at hm;cases hm
 | cons a r =>
  rw[e]at hm hl
  obtain⟨h0,h1,h2⟩:=kr r a
  have a1:m<=r.foldl min a:=by
   rcases h0 with q|q
   .rw[q];exact hl a aH
   .exact hl _ (nE _ q)
  have a2:r.foldl min a<=m:=by
   rcases List.mem_cons.mp hm with q|q
   .lia
   .exact h2 m q
  show m=r.foldl min a
  lia
def BB {ts:au Tk}:∀ t∈ts,kP ts<=t.2:=λt ht=>by
 have hm:t.2∈ts.map (·.2):=List.mem_map.mpr ⟨t,ht,rfl⟩
 unfold kP
 cases e:ts.map (·.2)with
 |nil=>rw[e]at hm;cases hm
 | cons a r =>
  rw[e]at hm
  obtain⟨h0,h1,h2⟩:=kr r a
  show r.foldl min a<=t.2
  rcases List.mem_cons.mp hm with q|q
  .lia
  .exact h2 _ q
def BA {ts:au Tk}{n:Int}(h:tV n ts):0<=kP ts/\kP ts<=60:=by
 unfold kP
 cases e:ts.map (·.2)with
 |nil=>exact⟨bq _,by decide⟩
 | cons a r =>
  obtain⟨h0,h1,h2⟩:=kr r a
  have key:∀ x∈a::r,0<=x/\x<=60:=λx hx=>by
   rw[<- e]at hx
   obtain⟨t,ht,rfl⟩:=List.mem_map.mp hx
   have:=h.ok t ht
   exact⟨this.2.2.1,this.2.2.2⟩
  show 0<=r.foldl min a/\r.foldl min a<=60
  rcases h0 with q|q
  .rw[q];exact key a aH
  .exact key _ (nE _ q)
def qL:jP:=λds μ K=>match ds with
 |[y]=>∃ ts:au Tk,lv μ y=some (ts.map ny)/\ts.length<=100/\K (.int (kP ts)) μ
 |_=>False
def Y1 (x sc:Scope):Scope:={ sc with names:=sc.names.map λ(n,k)=>if k==NameKind.free&&x.kind==.function&&x.names.lookup n==some .cell then(n,NameKind.cell)else(n,k)}
def wt {X0:Cx}{N0:au Str}{xsc Uc:Scope}{N:au Str}{js:au (av Nat)}{sc:Scope}{fp:au ao}{s:ak}{H:Hp}(hs:X0.env.scope=xsc)(h:wu N0 (Y1 xsc Uc) N js sc=true):kc (oy X0 N0 Uc fp s H) N js sc:=by
 subst hs
 exact ED h rfl rfl
def sT (p:Int->Bool):D->av D
 |.int i=>if p i=true then some (.int i)else none
 |_=>none
def xo (p:Int->Bool)(es:au Int):(es.map D.int).filterMap (sT p)=(es.filter p).map D.int:=by
 induction es with
 |nil=>rfl
 | cons e es ih =>
  rw[aB,c7,cF]
  unfold sT at ih ⊢
  by_cases h:p e=true
  .simp only[h,if_true,aB];rw[ih]
  .simp only[h,if_false];rw[ih];rfl
def Ao {p:Int->Bool}{i:Int}{K:av D->MS->Prop}{μ:MS}(h:p i=true)(k:K (sT p (.int i)) μ):K (some (.int i)) μ:=by have e:sT p (.int i)=some (.int i):=aF h;rw[e]at k;exact k
def vM {p:Int->Bool}{i:Int}{K:av D->MS->Prop}{μ:MS}(h:¬ p i=true)(k:K (sT p (.int i)) μ):K none μ:=by have e:sT p (.int i)=none:=aG h;rw[e]at k;exact k
def Sd (g:Int->D):D->av D
 |.int i=>some (g i)
 |_=>none
def Ga (g:Int->D)(es:au Int):(es.map D.int).filterMap (Sd g)=es.map g:=by rw[List.filterMap_map,<- fA];rfl
def KW (g:Tk->D):D->av D
 |.tup [.str z,.int a]=>some (g (z.cps.toList,a))
 |_=>none
def vP (g:Tk->D)(ts:au Tk):(ts.map ny).filterMap (KW g)=ts.map g:=by rw[List.filterMap_map,<- fA];rfl
def D8 (g:Int->Int->D):D->av D
 |.tup [.int a,.int b]=>some (g a b)
 |_=>none
def Az (g:Int->Int->D)(xs ys:au Int):(List.zipWith (λa b=>D.tup [a,b]) (xs.map D.int) (ys.map D.int)).filterMap (D8 g)=List.zipWith g xs ys:=by
 rw[dP]
 induction xs generalizing ys with
 |nil=>simp
 | cons x xs ih =>
  cases ys with
  |nil=>simp
  |cons y ys=>rw[bE,bE,c7,ih];rfl
def zz {xs ys:au Int}{d:D}(h:d∈List.zipWith (λa b=>D.tup [a,b]) (xs.map D.int) (ys.map D.int)):∃ a∈xs,∃ b∈ys,d=.tup [.int a,.int b]:=by
 rw[dP]at h
 induction xs generalizing ys with
 |nil=>simp at h
 | cons x xs ih =>
  cases ys with
  |nil=>simp at h
  | cons y ys =>
   rw[bE]at h
   rcases List.mem_cons.mp h with q|q
   .exact⟨x,aH,y,aH,q⟩
   .obtain⟨a,ha,b,hb,e⟩:=ih q
    exact⟨a,nE _ ha,b,nE _ hb,e⟩
def zy {α β γ δ:Type}(f:γ->δ)(g:α->β->γ):∀(xs:au α) (ys:au β),(List.zipWith g xs ys).map f=List.zipWith (λa b=>f (g a b)) xs ys
 |[],_=>by simp
 |_::_,[]=>by simp
 |x::xs,y::ys=>by rw[bE,bE,aB,zy f g xs ys]
abbrev kI (i:Int):Key:=.inl i
def tL:Nat->au Int->au D
 |_,[]=>[]
 |n,e::es=>.tup [.int n,.int e]::tL (n+1) es
def yW:∀(n:Nat) (es:au Int) (i:Nat),(tL n es)[i]?=(es[i]?).map λe=>D.tup [.int ((n+i:Nat):Int),.int e]
 |n,[],i=>by simp[tL]
 |n,e::es,0=>by simp[tL]
 | n,e::es,i+1=>by
  unfold tL
  rw[eR,eR,yW (n+1) es i]
  congr 1
  funext e
  rw[show n+1+i=n+(i+1) by lia]
def LM (es:au Int):nX (es.map D.int)=tL 0 es:=by
 apply cJ
 intro i
 rw[yW]
 unfold nX
 rw[bT,ia,nF]
 cases e:es[i]? with
 |none=>simp
 | some x =>
  have hi:=(ka e).1
  rw[ba hi]
  simp
def rJ:Nat->au Int->au (Key×D)
 |_,[]=>[]
 |n,e::es=>(kI e,.int n)::rJ (n+1) es
def BD {it:D->MS->(av (Key×D)->MS->Prop)->Prop}{c:MS->Prop}{μ:MS}{K:au (Key×D)->Prop}(hc:∀ m,c (μ++[m]))(hit:∀(i:Nat) (e:Int) (gq:MS) (K':av (Key×D)->MS->Prop),K' (some (kI e,.int i)) gq->it (.tup [.int i,.int e]) gq K'):∀(es:au Int) (n:Nat) (fX:au (Key×D)),es.Nodup->(∀ kv∈fX,∀ e∈es,kv.1≠kI e)->K (fX++rJ n es)->r9 it c μ (tL n es) fX K
 | [],n,fX,_,_,k=>by
  unfold tL r9
  rw[show rJ n []=[]from rfl,bZ]at k
  exact⟨hc _,k⟩
 | e::es,n,fX,nd,hk,k=>by
  unfold tL r9
  refine⟨hc _,hit n e _ _ ⟨rfl,rfl,?_⟩⟩
  have hn:(fX.any λkv=>decide (kv.1=kI e))=false:=by
   rw[fc]
   intro kv VP
   simp only[bN]
   exact hk kv VP e aH
  have hd:dput fX (kI e) (.int n)=fX++[(kI e,.int n)]:=by unfold dput;rw[hn];rfl
  rw[hd]
  refine BD hc hit es (n+1) _ (List.nodup_cons.mp nd).2 (λkv VP e' XG=>?_) ?_
  .rcases List.mem_append.mp VP with q | q
   .exact hk kv q e' (nE _ XG)
   .rw[List.mem_singleton.mp q]
    intro z
    have z':e=e':=by injection z
    rw[z']at nd
    exact(List.nodup_cons.mp nd).1 XG
  .rw[bp];exact k
def zip_parts {α β:Type}:∀ l:au (α×β),(l.map (·.1)).zip (l.map (·.2))=l
 |[]=>rfl
 |p::l=>by rw[aB,aB,cQ,zip_parts l]
def yx:∀ {es:au Int} {n:Nat} {m:Int},m∈es->uH (rJ n es) (kI m)=some (.int ((n+es.idxOf m:Nat):Int))
 |[],n,m,h=>by cases h
 | e::es,n,m,h=>by
  unfold rJ uH
  rw[cj]
  by_cases q:e=m
  .subst q;simp
  .have hm : m ∈ es := by rcases List.mem_cons.mp h with z | z
                          .exact absurd z.symm q
                          .exact z
   have nk:decide ((kI e)=kI m)=false:=aS λz=>q (by injection z)
   have nk':decide ((kI e,D.int (n:Int)).fst=kI m)=false:=nk
   rw[nk']
   show Option.map _ _=_
   have:=yx (n:=n+1) hm
   unfold uH at this
   rw[this,show(e::es).idxOf m=es.idxOf m+1 by rw[cK,show(e==m)=false from dh q];rfl]
   congr 3
   lia
section
variable {X:Cx}{N:au Str}{sc:Scope}{js:au (av Nat)}{tg iter kx vx:Expr}{ifs:au Expr}{g:TG}{tt:TT}{tk tv:TE}
def Km {wi:TI}{pos:Pos}(hc:kc X N js sc)(gY:X.gY=true)(hi:PI X tg iter wi)(hg:∀ fp s H,PG (xU X N sc fp s H) tg g)
 (ht:∀ fp s H,Mw (xU X N sc fp s H) ifs tt) (hk:∀ fp s H,PE (xU X N sc fp s H) kx tk) (hv:∀ fp s H,PE (xU X N sc fp s H) vx tv)
 (hs:∀ x,foldedSetIterable iter X.env x=pure x:=by intro _;rfl):PE X (.DictComp kx vx [⟨tg,iter,ifs,0⟩] sc pos) (JD wi js g tt tk tv):=by
 intro fJ s σ H Q I h
 rw[show eval (.DictComp kx vx [⟨tg,iter,ifs,0⟩] sc pos) X.env=comprehension (.DictComp kx vx [⟨tg,iter,ifs,0⟩] sc pos) sc X.env (firstIterPos [⟨tg,iter,ifs,0⟩] pos) newDict (firstAsync [⟨tg,iter,ifs,0⟩]) (firstIter [⟨tg,iter,ifs,0⟩] X.env)from rfl]
 refine dZ (use:=none) rfl hs (oq λy hy e=>I.ok.has y.1 (hc.free y hy e)) hc.kind hc.loc (iN (hi fJ s σ H _ I h) λv s1 h1=>iN h1 λVD s2 h2=>?_)
 obtain⟨it,fp,tn,J,H2,e,I2,T,PX,f2,q⟩:=h2
 subst e
 refine dk (qi ?_)
 have hD:H2 s2.heap.objs.size=none:=I2.iF.fresh (aw _)
 have I3:Inv X fJ σ (upd H2 s2.heap.objs.size (.dK [])) { s2 with heap:=s2.heap.push { cls:=.type "dict",data:=.dict #[]}}:=I2.laid (t':=s2.toks) (λ_ _ q=>j6 _ q) (aw _) (CC s2.heap I2.big)
 have hC:(s2.heap.push { cls:=.type "dict",data:=.dict #[]}).objs.size=s2.heap.objs.size+1:=bu ..
 have MH:tn 0 (s2.heap.push { cls:=.type "dict",data:=.dict #[]}):=T.keep 0 _ _ PX λb _ o e=>j6 _ e
 have Up:∀ b∈fp,b≠s2.heap.objs.size:=λb hb=>let ⟨o,e,_⟩:=T.obj 0 s2.heap PX b hb;aE (jk e)
 have f3:∀ b∈fp,mU X fJ (upd H2 s2.heap.objs.size (.dK [])) b:=λb hb=>⟨by rw[gB (Up b hb)];exact(f2 b hb).1,(f2 b hb).2⟩
 refine CL (s:={ s2 with heap:=s2.heap.push { cls:=.type "dict",data:=.dict #[]}}) (tok:=s2.toks) I3 hc gY T MH f3 (hg fp _ _) (ht fp _ _) (hk fp _ _) (hv fp _ _) (q s2.heap.objs.size hD) λs' H' fX m IX qf nC hn=>?_
 have mK:s2.heap.objs.size<(s2.heap.push { cls:=.type "dict",data:=.dict #[]}).objs.size:=by rw[hC];exact bF _
 have Dj:∀(b:ao) (o:Obj),s2.heap.get? b=some o->b≠(s2.heap.push { cls:=.type "dict",data:=.dict #[]}).objs.size:=λb o e=>aE (du (jk e) mK)
 refine⟨m,nC,λh' sb=>?_⟩
 have IY:Inv X fJ σ H' { s' with heap:=h'}:=IX.turned (t':=s'.toks) (it:=(s2.heap.push { cls:=.type "dict",data:=.dict #[]}).objs.size) (λb o hb e=>(sb.2 b hb).trans e) hn
  (bw (du I2.lt mK)) (.inr (eZ (cw I2.sz mK))) (λx c e=>let ⟨v,z⟩:=I2.cell x c e;aE (du z.lt mK)) (λp hp=>Dj _ _ (I2.pin p hp).1)
 exact⟨.ref _,_,IY,rfl,qf⟩
variable {y:DG}{S:au Nat}{t:Dt}{wk wv:De}
def OW {wi:DI}{pos:Pos}(hc:kc X N js sc)(gY:X.gY=true)(so:Mv g y S)(mo:pP g)(ho:rB S js=true)(hi:G4 X tg iter wi)(hg:∀ fp s H,PG (xU X N sc fp s H) tg g)
 (ht:∀ fp s H,A6 (xU X N sc fp s H) ifs t) (hk:∀ fp s H,PD (xU X N sc fp s H) kx wk) (hv:∀ fp s H,PD (xU X N sc fp s H) vx wv)
 (hs:∀ x,foldedSetIterable iter X.env x=pure x:=by intro _;rfl):PD X (.DictComp kx vx [⟨tg,iter,ifs,0⟩] sc pos) (L8 wi js y t wk wv):=(Km hc gY hi hg ht hk hv hs).imp λσ H Q h=>JC so mo ho h
end
def vz (es:au Int)(ts:au Tk):Nat->au Int
 |0=>es
 |b+1=>gR es ts b
def CU (es:au Int)(ts:au Tk):∀ b:Nat,nh es ts (vz es ts b) (b:Int)=vz es ts (b+1)
 |0=>yQ es ts 0
 |b+1=>by show nh es ts (gR es ts b) ((b+1:Nat):Int)=gR es ts (b+1);rfl
def TM (es:au Int)(ts:au Tk):∀ b:Nat,nv es (vz es ts b)
 |0=>Gz es
 |b+1=>jV es ts b
def ID {es:au Int}{ts:au Tk}:∀ {b:Nat},(∀ t∈ts,(b:Int)<=t.2)->vz es ts b=es
 |0,_=>rfl
 |b+1,h=>uu λt ht=>by have:=h t ht;lia
def iY (lo:Int)(n:Nat):kz lo (n+1)=.int lo::kz (lo+1) n:=by
 unfold kz
 rw[e9,aB,bA]
 congr 1
 .simp
 .refine cm λi _=>?_
  show D.int (lo+((i+1:Nat):Int))=_
  congr 1
  lia
def o8 {μ g:MS}{j:Nat}{ds:au D}(h:mH μ j=some ds):mH (μ++g) j=some ds:=xc (by rw[t6 (ka (jA h)).1];exact jA h)
def Aa {μ g:MS}(hm:∀(j:Nat) (m:MO),μ[j]?=some m->Aj μ.length m):∀(j:Nat) (m:MO),j<μ.length->(μ++g)[j]?=some m->Aj μ.length m:=λj m hj e=>by
 rw[t6 hj]at e;exact hm j m e
def uB {μ:MS}{k:Nat}{ds:au D}(h:mH μ k=some ds):TQ "list" μ (.mr k):=by show(match μ[k]? with|some (.lst _)=> "list" = "list" | some (.jX _ _)=> "list" = "dict" | _=>False);rw[jA h]
def HX {es:au Int}(nd:es.Nodup){x:Int}(h:x∈es):∀ m,m<es.idxOf x->es[m]?≠some x:=λm hm e=>by
 have hx:=mQ h
 obtain⟨h1,e1⟩:=ka e
 obtain⟨h2,e2⟩:=ka hx
 exact List.pairwise_iff_getElem.mp nd m _ h1 h2 hm (e1.trans e2.symm)
def o5 {es:au Int}{ts:au Tk}{bf:au Int}{a:Int}{i:Nat}{f m:Int}(hf:(jc es ts a)[i]?=some f)(hm:bf[i]?=some m):(nh es ts bf a)[i]?=some (max f (rowAt es bf m)):=by
 unfold nh
 rw[bT,hf,hm]
def L9 {l:au Nat}{a b:Int}{v c:Nat}(ha:0<=a)(h1:a<=v)(h2:(v:Int)<b)(h:l[v]?=some c):c∈mE l a b:=by
 obtain⟨i,rfl⟩:=cG ha
 obtain⟨j,rfl⟩:=cG (bB (Int.natCast_nonneg v) (dw h2))
 have h1:=Int.ofNat_le.mp h1
 rw[xE]
 refine kA (i:=v - i) ?_
 rw[bM (Nat.sub_lt_sub_right h1 (Int.ofNat_lt.mp h2)),cU,Nat.add_sub_cancel' h1]
 exact h
def zf {es:au Int}{l:au Nat}{a b:Int}(ho:OX l)(ha:0<=a)(hb:b<=l.length)(IV:a<=b)(hm:b∈es)(h:120∉mE l a b):b<=jd es l a:=by
 have ct:=sj ho (e:=a.toNat) (by lia)
 have hc:b<=(sk l a.toNat:Int):=by
  by_cases q:b<=(sk l a.toNat:Int)
  .exact q
  .rcases ct.2.2.2 with z | z
   .lia
   .exact absurd (L9 ha (by have:=ct.1;lia) (by lia) z) h
 exact(ph _ a).2 b (List.mem_filter.mpr ⟨hm,aJ hc⟩)
def R7 {n:Int}{cs:au Int}{ts:au Tk}(S:gM n cs ts)(hb:jZ (fI n cs) ts=none){i:Nat}{u v:Int}(hu:(fI n cs)[i]?=some u)(hv:(fI n cs)[i+1]?=some v):∃ t∈ts,v<=jd (fI n cs) t.1 u:=by
 unfold jZ at hb
 have hp:(u,v)∈Bi (fI n cs):=by
  have:=vI (es:=fI n cs) (i:=i)
  rw[hu,hv]at this
  exact kA this
 have nb:=List.find?_eq_none.mp hb _ hp
 unfold bad at nb
 rw[Bool.not_eq_true,List.all_eq_false]at nb
 obtain⟨t,ht,hc⟩:=nb
 have tf:120∉mE t.1 u v:=by simpa using hc
 have ok:=S.takes.ok t ht
 have SI:=ig S.n1 S.iK (kA hu)
 have Ia:=ig S.n1 S.iK (kA hv)
 have Y7:=ky (ib S.n1 S.iK) hu hv (bF _)
 exact⟨t,ht,zf ok.2.1 SI.1 (by lia) (by lia) (kA hv) tf⟩
def nR {es:au Int}{ts:au Tk}{a e:Int}{t:Tk}(ht:t∈ts)(ha:t.2<=a):jd es t.1 e<=jU es ts a e:=by
 rw[kM]
 exact(ph _ e).2 _ (List.mem_map.mpr ⟨t,List.mem_filter.mpr ⟨ht,aJ ha⟩,rfl⟩)
def ma {es:au Int}{ts:au Tk}{a:Int}{i:Nat}{e:Int}(h:es[i]?=some e):(jc es ts a)[i]?=some (jU es ts a e):=by unfold jc;rw[nF,h];rfl
def wR {es:au Int}{ts:au Tk}:∀ {a i:Nat} {e:Int},es[i]?=some e->∃ x,(gR es ts a)[i]?=some x/\jU es ts a e<=x
 |0,i,e,h=>⟨_,ma h,bq _⟩
 | a+1,i,e,h=>by
  have hi:=(ka h).1
  obtain⟨m,hm⟩:∃ m,(gR es ts a)[i]?=some m:=⟨_,iM (by rw[(jV es ts a).len];exact hi)⟩
  refine⟨_,o5 (ma h) hm,?_⟩
  show jU es ts ((a:Int)+1) e<=_
  lia
def Goes (es:au Int)(row:au Int)(k:Nat):Prop:=∀ i,i<es.length->∃ j,min (i+k) (es.length - 1)<=j/\j<es.length/\row[i]?=es[j]?
def uT {es:au Int}(hu:es.Pairwise (·<·)){i j:Nat}{a b:Int}(hi:es[i]?=some a)(hj:es[j]?=some b)(h:a<=b):i<=j:=by
 by_cases q:i<=j
 .exact q
 .have:=ky hu hj hi (by lia);lia
def Lq {n:Int}{cs:au Int}{ts:au Tk}(S:gM n cs ts)(hb:jZ (fI n cs) ts=none){a:Nat}(ha:∀ t∈ts,t.2<=(a:Int)):Goes (fI n cs) (gR (fI n cs) ts a) 1:=λi hi=>by
 have hu:=ib S.n1 S.iK
 obtain⟨e,he⟩:∃ e,(fI n cs)[i]?=some e:=⟨_,iM hi⟩
 obtain⟨x,hx,Zg⟩:=wR (ts:=ts) (a:=a) he
 have xm:=(jV (fI n cs) ts a).mem x (kA hx)
 obtain⟨j,hj,ej⟩:=aM xm
 have UD:(fI n cs)[j]?=some x:=by rw[iM hj,ej]
 refine⟨j,?_,hj,hx.trans UD.symm⟩
 by_cases q:i+1<(fI n cs).length
 .obtain⟨v,hv⟩:∃ v,(fI n cs)[i+1]?=some v:=⟨_,iM q⟩
  obtain⟨t,ht,hf⟩:=R7 S hb he hv
  have:=nR (es:=fI n cs) (e:=e) ht (ha t ht)
  have:=uT hu hv UD (by lia)
  lia
 .have:=nU (fI n cs) ts a e
  have:=uT hu he UD (by lia)
  lia
def Ld {es:au Int}(hu:es.Pairwise (·<·)){i:Nat}{e:Int}(h:es[i]?=some e):es.idxOf e=i:=by
 have hm:=kA h
 have g:=mQ hm
 have h1:=uT hu g h (bq _)
 have h2:=uT hu h g (bq _)
 lia
def Lp {i j j' q k L:Nat}(h1:min (i+k) L<=j)(g1:min (j+k) L<=j')(h:j'<=q):min (i+(k+k)) L<=q:=by lia
def Ij {es:au Int}{ts:au Tk}{a k:Nat}(hu:es.Pairwise (·<·))(h:Goes es (gR es ts a) k):Goes es (gR es ts (a+1)) (k+k):=λi hi=>by
 obtain⟨j,h1,h2,h3⟩:=h i hi
 obtain⟨j',g1,g2,g3⟩:=h j h2
 obtain⟨e,he⟩:∃ e,es[i]?=some e:=⟨_,iM hi⟩
 obtain⟨m,hm⟩:∃ m,es[j]?=some m:=⟨_,iM h2⟩
 obtain⟨m',SV⟩:∃ m',es[j']?=some m':=⟨_,iM g2⟩
 have nx:=o5 (es:=es) (ts:=ts) (bf:=gR es ts a) (a:=(a:Int)+1) (ma he) (h3.trans hm)
 have ra:rowAt es (gR es ts a) m=m':=by
  unfold rowAt
  rw[Ld hu hm,g3,SV];rfl
 rw[ra]at nx
 have xm:=(jV es ts (a+1)).mem _ (kA nx)
 obtain⟨q,hq,eq⟩:=aM xm
 have eq':es[q]?=some (max (jU es ts ((a:Int)+1) e) m'):=by rw[iM hq,eq]
 refine⟨q,?_,hq,nx.trans eq'.symm⟩
 exact Lp h1 g1 (uT hu SV eq' (by lia))
def Ct {n:Int}{cs:au Int}{ts:au Tk}(S:gM n cs ts)(hb:jZ (fI n cs) ts=none){a:Nat}(ha:∀ t∈ts,t.2<=(a:Int)):∀ j:Nat,Goes (fI n cs) (gR (fI n cs) ts (a+j)) (2 ^ j)
 |0=>Lq S hb ha
 | j+1=>by
  have:=Ij (ib S.n1 S.iK) (Ct S hb ha j)
  rw[show 2 ^ (j+1)=2 ^ j+2 ^ j by rw[Nat.pow_succ];lia]
  exact this
def yZ (n:Int)(cs:au Int):(fI n cs)[(fI n cs).length - 1]?=some n:=by
 rw[gw]
 unfold fI
 rw[show cs.length+2 - 1=(0::cs).length by simp]
 simp
structure iT (es:List Int)(ts:List Tk)(n:Int)(a:Nat):Prop where
 at_:(gR es ts a)[0]?=some n
 low:∀ b,b<a->(gR es ts b)[0]?≠some n
def iT.uniq {es:au Int}{ts:au Tk}{n:Int}{a b:Nat}(h:iT es ts n a)(g:iT es ts n b):a=b:=by
 rcases eY a b with q|q|q
 .exact absurd h.at_ (g.low a q)
 .exact q
 .exact absurd g.at_ (h.low b q)
def K2 {es:au Int}{ts:au Tk}{n:Int}:∀ {m:Nat},(gR es ts m)[0]?=some n->∃ a,a<=m/\iT es ts n a:=by
 intro m
 induction m using Nat.strongRecOn with
 | ind m ih =>
  intro h
  by_cases q:∃ b,b<m/\(gR es ts b)[0]?=some n
  .obtain⟨b,hb,e⟩:=q
   obtain⟨a,h1,h2⟩:=ih b hb e
   exact⟨a,by lia,h2⟩
  .exact⟨m,aw _,h,λb hb e=>q ⟨b,hb,e⟩⟩
def Eb {n:Int}{cs:au Int}{ts:au Tk}(S:gM n cs ts)(hl:cs.length<=60)(hb:jZ (fI n cs) ts=none){a:Nat}(ha:∀ t∈ts,t.2<=(a:Int)):∃ x,x<=a+6/\iT (fI n cs) ts n x:=by
 refine K2 ?_
 obtain⟨j,h1,h2,h3⟩:=Ct S hb ha 6 0 (by rw[gw];lia)
 rw[h3]
 have:j=(fI n cs).length - 1:=by rw[gw]at *;lia
 rw[this]
 exact yZ n cs
def Ec {n:Int}{cs:au Int}{ts:au Tk}(S:gM n cs ts)(hl:cs.length<=60)(hb:jZ (fI n cs) ts=none):∃ x,x<=66/\iT (fI n cs) ts n x:=Eb S hl hb (a:=60) λt ht=>(S.takes.ok t ht).2.2.2
def Ck {n:Int}{cs:au Int}{ts:au Tk}(S:gM n cs ts){a:Nat}(h:iT (fI n cs) ts n a):kP ts<=a:=by
 by_cases q:kP ts<=a
 .exact q
 .have:=h.at_
  rw[uu λt ht=>by have:=BB t ht;lia]at this
  have h0:(fI n cs)[0]?=some 0:=rfl
  rw[h0]at this
  have:=aK this
  have:=S.n1
  lia
def Al (es:au Int)(ts:au Tk)(n:Int)(μ:MS)(K:DK):Prop:=match jZ es ts with
 |some _=>K .ic μ
 |none=>∀ a:Nat,a<=66->iT es ts n a->K (.int a) μ
def AE:jP:=λds μ K=>match ds with
 |[.int n,x,y]=>∃(cs:au Int) (ts:au Tk),lv μ x=some (cs.map D.int)/\lv μ y=some (ts.map ny)/\gM n cs ts/\cs.length<=60/\Al (fI n cs) ts n μ K
 |_=>False
def nLf {ds:au D}{μ:MS}{K:DK}(h:K (.lst ds) μ):nL false ds μ K:=h
def LA {es:au Int}{l:au Nat}{e e':Int}(ho:OX l)(h0:0<=e)(hee:e<=e')(XG:e'<=l.length)(hm:e∈es):jd es l e<=jd es l e':=by
 have c1:=sj ho (e:=e.toNat) (by lia)
 have c2:=sj ho (e:=e'.toNat) (by lia)
 have ge':=Gi es l e'
 have fm:=xr (es:=es) (l:=l) hm
 obtain⟨t,ht,_,hft,_⟩:=AA (es:=es) ho h0 (by lia) hm
 have et:=ht.uniq c1
 subst et
 by_cases q:jd es l e<=e'
 .lia
 .have hc:sk l e.toNat<=sk l e'.toNat:=by
   by_cases z:sk l e.toNat<=sk l e'.toNat
   .exact z
   .rcases c2.2.2.2 with y | y
    .have:=c1.2.1;lia
    .have:=c1.2.2.1 (sk l e'.toNat) (by have:=c2.1;lia) (by lia)
     rw[y]at this;cases this
  exact(ph _ e').2 _ (List.mem_filter.mpr ⟨fm,aJ (by lia)⟩)
def Kr {n:Int}{es:au Int}{ts:au Tk}{a e e':Int}(T:tV n ts)(h0:0<=e)(hee:e<=e')(XG:e'<=n)(hm:e∈es):jU es ts a e<=jU es ts a e':=by
 have ge:=nU es ts a e'
 rw[kM es ts a e]
 rcases kL ((ts.filter λt=>decide (t.2<=a)).map λt=>jd es t.1 e) e with q|q
 .rw[q];lia
 .obtain⟨t,ht,e1⟩:=List.mem_map.mp q
  obtain⟨ht1,Za⟩:=List.mem_filter.mp ht
  rw[<- e1]
  have ok:=T.ok t ht1
  have:=LA ok.2.1 h0 hee (by lia) hm
  have:=nR (es:=es) (e:=e') ht1 (cn Za)
  lia
def G2 (row:au Int):Prop:=∀(i j:Nat) (a b:Int),i<=j->row[i]?=some a->row[j]?=some b->a<=b
def oA {es:au Int}(hu:es.Pairwise (·<·)):G2 es:=λi j a b h hi hj=>by
 rcases cz i j with q|q
 .exact dw (ky hu hi hj q)
 .have:i=j:=by lia
  subst this
  rw[hi]at hj;cases hj;exact bq _
def uz {n:Int}{cs:au Int}{ts:au Tk}{a:Int}(S:gM n cs ts):G2 (jc (fI n cs) ts a):=λi j x y h hi hj=>by
 unfold jc at hi hj
 rw[nF]at hi hj
 cases e1:(fI n cs)[i]? with
 |none=>rw[e1]at hi;cases hi
 | some u =>
  cases e2:(fI n cs)[j]? with
  |none=>rw[e2]at hj;cases hj
  | some v =>
   rw[e1]at hi;rw[e2]at hj
   cases hi;cases hj
   have hu:=ig S.n1 S.iK (kA e1)
   have hv:=ig S.n1 S.iK (kA e2)
   exact Kr S.takes hu.1 (oA (ib S.n1 S.iK) i j u v h e1 e2) hv.2 (kA e1)
def HW {es:au Int}(hu:es.Pairwise (·<·)){x y:Int}(hx:x∈es)(hy:y∈es)(h:x<=y):es.idxOf x<=es.idxOf y:=uT hu (mQ hx) (mQ hy) h
def ur {n:Int}{cs:au Int}{ts:au Tk}(S:gM n cs ts):∀ a:Nat,G2 (gR (fI n cs) ts a)
 |0=>uz S
 | a+1=>λi j x y h hi hj=>by
  have hu:=ib S.n1 S.iK
  have ok:=jV (fI n cs) ts a
  have ook:=wY (fI n cs) ts ((a:Int)+1)
  have hil:=(ka hi).1
  have Uu:=(ka hj).1
  have rl:=(jV (fI n cs) ts (a+1)).len
  obtain⟨f1,VT⟩:∃ f,(jc (fI n cs) ts ((a:Int)+1))[i]?=some f:=⟨_,iM (by rw[ook.len];lia)⟩
  obtain⟨f2,VS⟩:∃ f,(jc (fI n cs) ts ((a:Int)+1))[j]?=some f:=⟨_,iM (by rw[ook.len];lia)⟩
  obtain⟨m1,OH⟩:∃ m,(gR (fI n cs) ts a)[i]?=some m:=⟨_,iM (by rw[ok.len];lia)⟩
  obtain⟨m2,Ic⟩:∃ m,(gR (fI n cs) ts a)[j]?=some m:=⟨_,iM (by rw[ok.len];lia)⟩
  have e1:=o5 (es:=fI n cs) (ts:=ts) (a:=(a:Int)+1) VT OH
  have e2:=o5 (es:=fI n cs) (ts:=ts) (a:=(a:Int)+1) VS Ic
  have d1:x=max f1 (rowAt (fI n cs) (gR (fI n cs) ts a) m1):=aK (hi.symm.trans e1)
  have d2:y=max f2 (rowAt (fI n cs) (gR (fI n cs) ts a) m2):=aK (hj.symm.trans e2)
  have p1:=uz S i j f1 f2 h VT VS
  have p2:=ur S a i j m1 m2 h OH Ic
  have w1:=ok.mem m1 (kA OH)
  have w2:=ok.mem m2 (kA Ic)
  have p3:=ur S a _ _ _ _ (HW hu w1 w2 p2) (lV ok w1) (lV ok w2)
  lia
structure qW (es:List Int)(ts:List Tk)(a:Int)(row:List Int):Prop where
 ok:nv es row
 up:G2 row
 ge:∀(i:Nat) (x e:Int),row[i]?=some x->es[i]?=some e->e<=x
 QH:∀(i:Nat) (x e:Int),row[i]?=some x->es[i]?=some e->∀ t∈ts,t.2<=a->jd es t.1 e<=x
def Above (es row first second:au Int):Prop:=∀(i:Nat) (x m:Int),row[i]?=some x->first[i]?=some m->rowAt es second m<=x
def Hr {n:Int}{cs:au Int}{ts:au Tk}(S:gM n cs ts)(a:Nat):qW (fI n cs) ts a (gR (fI n cs) ts a):=by
 refine⟨jV _ _ _,ur S a,λi x e hi he=>?_,λi x e hi he t ht Y9=>?_⟩
 .obtain⟨y,hy,hle⟩:=wR (ts:=ts) (a:=a) he
  rw[hi]at hy;cases hy
  have:=nU (fI n cs) ts a e
  lia
 .obtain⟨y,hy,hle⟩:=wR (ts:=ts) (a:=a) he
  rw[hi]at hy;cases hy
  have:=nR (es:=fI n cs) (e:=e) ht Y9
  lia
def DH (es:au Int)(ts:au Tk)(a:Nat):Above es (gR es ts (a+1)) (gR es ts a) (gR es ts a):=λi x m hi hm=>by
 have il:=(ka hi).1
 have rl:=(jV es ts (a+1)).len
 obtain⟨f,hf⟩:∃ f,(jc es ts ((a:Int)+1))[i]?=some f:=⟨_,iM (by rw[(wY es ts _).len];lia)⟩
 have e1:=o5 (es:=es) (ts:=ts) (a:=(a:Int)+1) hf hm
 have:=aK (hi.symm.trans e1)
 lia
def OM {n:Int}{cs:au Int}{ts:au Tk}{u v:Int}(S:gM n cs ts)(hb:jZ (fI n cs) ts=some (u,v)){e:Int}(he:e∈fI n cs)(QA:e<=u){t:Tk}(ht:t∈ts):jd (fI n cs) t.1 e<=u:=by
 unfold jZ at hb
 have VX:=List.find?_some hb
 have SU:=List.mem_of_find?_eq_some hb
 obtain⟨i,hi,ei⟩:=aM SU
 have hp:=vI (es:=fI n cs) (i:=i)
 rw[iM hi,ei]at hp
 have hu:(fI n cs)[i]?=some u/\(fI n cs)[i+1]?=some v:=by
  cases e1:(fI n cs)[i]? with
  |none=>rw[e1]at hp;cases hp
  | some a =>
   cases e2:(fI n cs)[i+1]? with
   |none=>rw[e1,e2]at hp;cases hp
   |some b=>rw[e1,e2]at hp;cases hp;exact⟨rfl,rfl⟩
 obtain⟨VN,VM⟩:=hu
 unfold bad at VX
 have hx:=List.all_eq_true.mp VX t ht
 have Bo:120∈mE t.1 u v:=cn hx
 have ok:=S.takes.ok t ht
 have QB:=ig S.n1 S.iK he
 have SI:=ig S.n1 S.iK (kA VN)
 have Ia:=ig S.n1 S.iK (kA VM)
 have up:=ib S.n1 S.iK
 have Y7:=ky up VN VM (bF _)
 have ct:=sj ok.2.1 (e:=e.toNat) (by lia)
 obtain⟨c,hc,hfm,hfc,_⟩:=AA (es:=fI n cs) ok.2.1 QB.1 (by lia) he
 have ec:=hc.uniq ct
 subst ec
 by_cases q:jd (fI n cs) t.1 e<=u
 .exact q
 .exfalso
  obtain⟨j,hj,ej⟩:=aM hfm
  have UD:(fI n cs)[j]?=some (jd (fI n cs) t.1 e):=by rw[iM hj,ej]
  have pV:i+1<=j:=by
   rcases cz i j with z|z
   .exact z
   .have:=oA up j i _ _ z UD VN;lia
  have hvf:=oA up (i+1) j _ _ pV VM UD
  have cc:=zb ok.2.1 SI.1 (by lia:u<=v) (by lia)
  have e0:mE t.1 u v=List.replicate (v - u).toNat 111:=by
   have l1:(mE t.1 u v)=(t.1.drop u.toNat).take (v.toNat - u.toNat):=by
    unfold mE kX
    have e1:HT.oh t.1.length 0 (some u)=min u.toNat t.1.length:=by
     obtain⟨k,rfl⟩:∃ k:Nat,u=(k:Int):=⟨u.toNat,by lia⟩
     rw[HT.lF,yh]
    have e2:HT.oh t.1.length t.1.length (some v)=min v.toNat t.1.length:=by
     obtain⟨k,rfl⟩:∃ k:Nat,v=(k:Int):=⟨v.toNat,by lia⟩
     rw[HT.lF,yh]
    rw[e1,e2,cb (by lia),cb (by lia)]
   rw[l1]
   apply cJ
   intro k
   by_cases hk:k<(v - u).toNat
   .rw[bM (by lia),cU,c3,aF hk]
    exact ct.2.2.1 _ (by lia) (by lia)
   .rw[c3,aG hk]
    exact List.getElem?_eq_none_iff.mpr (by rw[bz];lia)
  rw[e0]at Bo
  have:=d9 Bo
  lia
def JP {n:Int}{cs:au Int}{ts:au Tk}{u v:Int}(S:gM n cs ts)(hb:jZ (fI n cs) ts=some (u,v)):∀(a i:Nat) (e x:Int),(fI n cs)[i]?=some e->e<=u->(gR (fI n cs) ts a)[i]?=some x->x<=u:=by
 have own:∀(a e:Int),e∈fI n cs->e<=u->jU (fI n cs) ts a e<=u:=λa e he QA=>by
  rw[kM]
  rcases kL ((ts.filter λt=>decide (t.2<=a)).map λt=>jd (fI n cs) t.1 e) e with q|q
  .rw[q];exact QA
  .obtain⟨t,ht,e1⟩:=List.mem_map.mp q
   rw[<- e1]
   exact OM S hb he QA (List.mem_filter.mp ht).1
 intro a
 induction a with
 | zero =>
  intro i e x he QA hx
  have:=ma (ts:=ts) (a:=0) he
  have:=aK (hx.symm.trans this)
  rw[this]
  exact own 0 e (kA he) QA
 | succ a ih =>
  intro i e x he QA hx
  have il:=(ka he).1
  have ok:=jV (fI n cs) ts a
  obtain⟨m,hm⟩:∃ m,(gR (fI n cs) ts a)[i]?=some m:=⟨_,iM (by rw[ok.len];lia)⟩
  have e1:=o5 (es:=fI n cs) (ts:=ts) (a:=(a:Int)+1) (ma he) hm
  have d1:=aK (hx.symm.trans e1)
  have h1:=own ((a:Int)+1) e (kA he) QA
  have hmu:=ih i e m he QA hm
  have OG:=ok.mem m (kA hm)
  have h2:=ih _ m _ (mQ OG) hmu (lV ok OG)
  lia
def Short (es:au Int)(ts:au Tk)(n:Int)(a:Nat):Prop:=∀ b,b<a->∃ x,(gR es ts b)[0]?=some x/\x<n
def Ub {n:Int}{cs:au Int}{ts:au Tk}{p:Int×Int}(S:gM n cs ts)(hb:jZ (fI n cs) ts=some p)(a:Nat):Short (fI n cs) ts n a:=λb _=>by
 obtain⟨u,v⟩:=p
 obtain⟨x,hx⟩:∃ x,(gR (fI n cs) ts b)[0]?=some x:=⟨_,iM (by rw[(jV _ _ _).len,gw];lia)⟩
 refine⟨x,hx,?_⟩
 have SU:=List.mem_of_find?_eq_some hb
 obtain⟨i,hi,ei⟩:=aM SU
 have hp:=vI (es:=fI n cs) (i:=i)
 rw[iM hi,ei]at hp
 have hu:(fI n cs)[i]?=some u/\(fI n cs)[i+1]?=some v:=by
  cases e1:(fI n cs)[i]? with
  |none=>rw[e1]at hp;cases hp
  | some a =>
   cases e2:(fI n cs)[i+1]? with
   |none=>rw[e1,e2]at hp;cases hp
   |some b=>rw[e1,e2]at hp;cases hp;exact⟨rfl,rfl⟩
 have SI:=ig S.n1 S.iK (kA hu.1)
 have Ia:=ig S.n1 S.iK (kA hu.2)
 have Y7:=ky (ib S.n1 S.iK) hu.1 hu.2 (bF _)
 have:=JP S hb b 0 0 x rfl SI.1 hx
 lia
def BL {n:Int}{cs:au Int}{ts:au Tk}{a b:Nat}(S:gM n cs ts)(la:iT (fI n cs) ts n a)(h:b<=a):Short (fI n cs) ts n b:=λc hc=>by
 obtain⟨x,hx⟩:∃ x,(gR (fI n cs) ts c)[0]?=some x:=⟨_,iM (by rw[(jV _ _ _).len,gw];lia)⟩
 refine⟨x,hx,?_⟩
 have h1:=la.low c (by lia)
 have h2:=ig S.n1 S.iK ((jV (fI n cs) ts c).mem x (kA hx))
 have h3:x≠n:=λe=>h1 (by rw[hx,e])
 lia
def zD {μ:MS}{x:D}{ds:au D}(h:lv μ x=some ds):PB x μ=some "list":=by
 cases x with
 |lst es=>rfl
 | mr k =>
  show(match μ[k]? with|some (.lst _)=>some "list" | some (.jX _ _)=>some "dict" | _=>none)=_
  rw[jA h]
 |_=>cases h
def GZ (es:au Int)(x:Int):((es.map D.int).any λd=>mX d (.int x))=decide (x∈es):=by
 induction es with
 |nil=>rfl
 | cons e es ih =>
  rw[aB,c8,ih]
  have:mX (.int e) (.int x)=decide (e=x):=by unfold mX;rfl
  rw[this]
  by_cases h:e=x
  .simp[h]
  .have:¬ x=e:=λz=>h z.symm
   simp[h,this]
def Cw (es:au Int):(es.map D.int).all pj=true:=by
 rw[List.all_map,c9];intro x _;rfl
structure IG (es:List Int)(ts:List Tk)(n a:Int)(rs:List (List Int)):Prop where
 len:(rs.length:Int)=a
 row:∀(k:Nat) (r:List Int),rs[k]?=some r->qW es ts k r
 above:∀(k:Nat) (r p:List Int),rs[k+1]?=some r->rs[k]?=some p->Above es r p p
 last:a=0\/∃ r x,rs[rs.length - 1]?=some r/\r[0]?=some x/\x<n
def Gr:jP:=λds μ K=>match ds with
 |[.lst b,y]=>∃(n:Int) (cs:au Int) (ts:au Tk),b=(fI n cs).map D.int/\lv μ y=some (ts.map ny)/\gM n cs ts/\K (.lst (ts.map (ju (fI n cs)))) μ
 |_=>False
def V8:jP:=λds μ K=>match ds with
 |[.lst b,.lst f,.int a,x]=>∃(es:au Int) (ts:au Tk) (row:au Int),b=es.map D.int/\f=ts.map (ju es)/\(∀ e∈es,0<=e)/\es.length<=2000/\row.length<=2000/\lv μ x=some (row.map D.int)/\∀ c:Bool,(c=true↔qW es ts a row)->K (.bl c) μ
 |_=>False
def vR:jP:=λds μ K=>match ds with
 | [.int n,x,y,.int a]=>∃(cs:au Int) (ts:au Tk),lv μ x=some (cs.map D.int)/\lv μ y=some (ts.map ny)/\gM n cs ts/\0<=a/\a<=1000 /\
  ∀(j:Nat) (js:au Nat) (g:MS),js.length=a.toNat->mH (μ++g) j=some (js.map D.mr)->(∀(i k:Nat),js[i]?=some k->mH (μ++g) k=some ((gR (fI n cs) ts i).map D.int))->μ.length<=j->(∀ k∈js,μ.length<=k/\k≠j)->K (.mr j) (μ++g)
 |_=>False
def FI (t:Tk):Tk:=(t.1,t.2%9)
def Gn:jP:=λds μ K=>match ds with
 |[y]=>∃ ts:au Tk,lv μ y=some (ts.map ny)/\ts.length<=1000/\K (.lst ((ts.map FI).map ny)) μ
 |_=>False
def Oe {n:Int}{ts:au Tk}(h:tV n ts):tV n (ts.map FI):=⟨by rw[ia];exact h.mD,λt ht=>by
 obtain⟨u,hu,rfl⟩:=List.mem_map.mp ht
 have:=h.ok u hu
 exact⟨this.1,this.2.1,eF _ (by decide),by show u.2%9<=60;lia⟩⟩
def Dq {n:Int}{cs:au Int}{ts:au Tk}{a:Int}(S:gM n cs ts)(h0:0<=a)(h:Short (fI n cs) ts n a.toNat):IG (fI n cs) ts n a ((List.range a.toNat).map (gR (fI n cs) ts)):=by
 have key:∀(k:Nat) (r:au Int),((List.range a.toNat).map (gR (fI n cs) ts))[k]?=some r->k<a.toNat/\r=gR (fI n cs) ts k:=λk r e=>by
  rw[nF]at e
  by_cases q:k<a.toNat
  .rw[ba q]at e
   exact⟨q,(aK e).symm⟩
  .rw[List.getElem?_eq_none_iff.mpr (by rw[pW];lia)]at e;cases e
 refine⟨by rw[ia,pW];lia,λk r e=>?_,λk r p e1 e2=>?_,?_⟩
 .rw[(key k r e).2];exact Hr S k
 .rw[(key _ r e1).2,(key _ p e2).2];exact DH _ _ _
 .by_cases q:a=0
  .exact .inl q
  .refine .inr ?_
   obtain⟨x,hx,hl⟩:=h (a.toNat - 1) (by lia)
   refine⟨_,x,?_,hx,hl⟩
   rw[ia,pW,nF,ba (by lia)];rfl
def Ap:La "list" "list"=true:=rfl
def Sv:La "int" "bool"=false:=rfl
def wx {α:Type}{xs:au α}{x:α}(h:xs[xs.length - 1]?=some x):lB xs (-1)=some x:=by
 have hl:=(ka h).1
 have e:xs=xs.dropLast++[x]:=by
  have Ll:xs≠[]:=λe=>by rw[e]at hl;simp at hl
  have:=List.dropLast_concat_getLast Ll
  rw[List.getLast_eq_getElem]at this
  rw[iM hl]at h
  rw[aK h]at this
  exact this.symm
 rw[e]
 exact xK _ _
def uR (xs ys:au Int):Prop:=∀(i:Nat) (a b:Int),xs[i]?=some a->ys[i]?=some b->b<=a
section
variable {X:Cx}
def J2:au V->Hp->VK->Prop:=λvs H Q=>match vs with
 |[.int i]=>Q (.int i) H
 |[.bl k]=>Q (.int (if k then 1 else 0)) H
 |_=>False
def VF:jm X (.type "int") J2:=Iw.imp λvs H Q q=>by
 unfold J2 at q
 split at q
 .exact .inl ⟨_,rfl,q⟩
 .exact .inr ⟨_,rfl,q⟩
 .exact q.elim
end
def Wb:jP:=λds μ K=>match ds with
 |[.int i]=>K (.int i) μ
 |[.bl k]=>K (.int (if k then 1 else 0)) μ
 |_=>False
def JH:mF J2 Wb:=λφ H vs ds μ K Q M h k L=>by
 unfold Wb at k
 split at k
 .obtain⟨v,r,rfl,h1,h2⟩:=h;cases(show r=[]from h2);cases(show v=_ from h1);exact L.val M k rfl
 .obtain⟨v,r,rfl,h1,h2⟩:=h;cases(show r=[]from h2);cases(show v=_ from h1);exact L.val M k rfl
 .exact k.elim
structure zu (es:List Int)(ts:List Tk)(a:Int)(last tb:List (List Int)):Prop where
 row:∀(t:Nat) (r:List Int),tb[t]?=some r->qW es ts a r
 up:∀(t:Nat) (r q:List Int),tb[t+1]?=some r->tb[t]?=some q->uR r q
 two:0<a->∀(t u:Nat) (r f s:List Int),tb[t]?=some r->u<t->last[u]?=some f->last[t - u - 1]?=some s->Above es r f s
def lastOf (pp:au (au (au Int))):Nat->au (au Int)
 |0=>[]
 |k+1=>(pp[k]?).getD []
structure G6 (es:List Int)(ts:List Tk)(n a m:Int)(pp:List (List (List Int))):Prop where
 len:(pp.length:Int)=a+1
 many:∀(k:Nat) (tb:List (List Int)),pp[k]?=some tb->(tb.length:Int)=m
 tab:∀(k:Nat) (tb:List (List Int)),pp[k]?=some tb->zu es ts k (lastOf pp k) tb
 last:m=0\/∃ tb r x,pp[pp.length - 1]?=some tb/\tb[tb.length - 1]?=some r/\r[0]?=some x/\x<n
def GY:∀(xs ys:au Int),(List.zipWith (λa b=>decide (a<b)) xs ys).any id=false↔uR xs ys
 |[],ys=>by simp[uR]
 |x::xs,[]=>by simp[uR]
 | x::xs,y::ys=>by
  rw[bE,c8,Bool.or_eq_false_iff,GY xs ys]
  constructor
  .rintro⟨h1,h2⟩ i a b e1 e2
   cases i with
   |zero=>simp at e1 e2;subst e1;subst e2;have:=of_decide_eq_false h1;lia
   |succ i=>exact h2 i a b (by simpa using e1) (by simpa using e2)
  .intro h
   exact⟨aS (by have:=h 0 x y rfl rfl;lia),λi a b e1 e2=>h (i+1) a b (by simpa using e1) (by simpa using e2)⟩
def qR {α:Type}{it:D->MS->(av D->MS->Prop)->Prop}{c:MS->Prop}{μ:MS}(hc:c μ)(g:α->D)(f:α->av D):∀ {xs:au α} {K:au D->MS->Prop},(∀ x∈xs,∀(K':av D->MS->Prop),K' (f x) μ->it (g x) μ K')->K (xs.filterMap f) μ->rG it c (xs.map g) μ K
 |[],K,_,k=>⟨hc,k⟩
 | x::xs,K,h,k=>⟨hc,h x aH _ (qR hc g f (λy hy=>h y (nE _ hy)) (by
  cases e:f x with
  |none=>rw[List.filterMap_cons_none e]at k;exact k
  |some y=>rw[List.filterMap_cons_some e]at k;exact k))⟩
def jT {α:Type}{it:D->MS->(av D->MS->Prop)->Prop}{c:MS->Prop}{μ:MS}(hc:c μ)(g f:α->D){xs:au α}{K:au D->MS->Prop}(h:∀ x∈xs,∀(K':av D->MS->Prop),K' (some (f x)) μ->it (g x) μ K')(k:K (xs.map f) μ):rG it c (xs.map g) μ K:=by
 refine qR hc g (λx=>some (f x)) h ?_
 rw[List.filterMap_eq_map']
 exact k
def xJ {α:Type}{g:α->D}{xs:au α}{k:Nat}{x:α}(h:xs[k]?=some x):lB (xs.map g) (k:Int)=some (g x):=iZ h
def jO.le {j k:Nat}{A:Around}(r:jO k A)(h:j<=k:=by first|decide|exact aw _|lia):jO j A:=r.mono h
def lo {sc:Scope}{x:Str}(h:Loc sc x:=by first|exact Or.inl rfl|exact Or.inr rfl):Loc sc x:=h
section
variable {X:Cx}
def JZ:au V->Hp->VK->Prop:=λvs H Q=>match vs with
 |[.ref p]=>∃ ns:au Int,H p=some (.lst (ns.map V.int))/\ns≠[]/\∀ m,m∈ns->(∀ x∈ns,m<=x)->Q (.int m) H
 |_=>False
def YN (hc:X.gY=true):jm X (.builtin "min") JZ:=by
 intro fJ s σ H vs us Q I rv h
 unfold JZ at h
 split at h
 .rename_i p
  obtain⟨ns,hp,Ll,q⟩:=h
  obtain⟨u,rfl,ru⟩:=rv.one
  cases ru
  obtain⟨z,gu,n,r,hl,e⟩:=I.lZ hp
  have Bk:s.heap.IsList p gu.toArray:=⟨_,e,rfl,n,rfl⟩
  have lt:p≠s.heap.objs.size:=aE (jk e)
  have len:gu.toArray.size=ns.length:=by rw[aD,<- hl,ia]
  have pos:0<ns.length:=List.length_pos_iff.mpr Ll
  have val:∀ i v,gu.toArray[i]?=some v->∃ t,i<ns.length/\v=.int (ns.getD i 0) t:=λi v hv=>by
   have Dl:gu[i]?=some v:=by simpa using hv
   cases eb:(ns.map V.int)[i]? with
   |none=>have:=r.none_of eb;rw[Dl]at this;cases this
   | some y =>
    obtain⟨u,hu,ry⟩:=r.get eb
    rw[Dl]at hu;cases hu
    rw[nF]at eb
    cases e2:ns[i]? with
    |none=>rw[e2]at eb;cases eb
    | some b =>
     rw[e2]at eb;cases eb
     obtain⟨t,rfl⟩:=ry
     exact⟨t,(ka e2).1,by rw[aC,e2];rfl⟩
  refine call_min_walk (dj Bk ⟨_,_,_,_,_,_,λi j=>decide (ns.getD i 0<ns.getD j 0),rfl,Walks.list (A:=X.A.in1) (I.ok.hd hc) s.heap.objs.size p lt gu.toArray,⟨⟨_,aI _ rfl,rfl,rfl⟩,Bk.push _⟩,?_,by rw[len];exact pos,?_,λv h' tk hv kp=>?_⟩)
  .intro b hb
   simp only[aR,aL,bQ]at hb
   show b<(s.heap.push _).objs.size
   rw[bu]
   rcases hb with rfl|rfl
   .exact bF _
   .exact bx (jk e)
  .intro i j vi vj s' Q' E' hi hj hq
   obtain⟨t,_,rfl⟩:=val i vi hi
   obtain⟨t',_,rfl⟩:=val j vj hj
   exact lt_int hq
  .have I2:Inv X fJ σ H { s with heap:=h',toks:=tk}:=I.iW λb o e'=>kp b o (by simpa using aE (jk e')) (j6 _ e')
   rw[len]at hv
   obtain⟨t,mK,rfl⟩:=val _ v hv
   obtain⟨b1,b2⟩:=wA ns (ns.length - 1) (by lia)
   refine⟨.int _,H,I2,⟨t,rfl⟩,q _ ?_ λx hx=>?_⟩
   .rw[aC,iM mK];exact bR _
   .obtain⟨j,hj,ej⟩:=aM hx
    have:=b2 j (by lia)
    rw[aC (i:=j),iM hj,ej]at this
    exact this
 .cases h
end
def QI:jP:=λds μ K=>match ds with
 |[x]=>∃ ns:au Int,lv μ x=some (ns.map D.int)/\ns≠[]/\∀ m,m∈ns->(∀ y∈ns,m<=y)->K (.int m) μ
 |_=>False
def Nr:mF JZ QI:=λφ H vs ds μ K Q M h k L=>by
 unfold QI at k
 split at k
 .obtain⟨v,r,rfl,h1,h2⟩:=h;cases(show r=[]from h2)
  obtain⟨ns,el,hn,k⟩:=k
  obtain⟨p,vs,rfl,hp,ha⟩:=kJ M h1 el
  exact⟨ns,by rw[hp,ha.ints],hn,λm a b=>L.val M (k m a b) rfl⟩
 .exact k.elim
def jR (L:Nat)(f:Nat->Int):au D:=(List.range L).map λj=>D.int (f j)
def kG (L:Nat)(T:Nat->Nat->Int):au D:=(List.range L).map λi=>D.lst (jR L (T i))
def Ci:au Int->Int
 |[]=>0
 |x::r=>r.foldl min x
def qJ {ns:au Int}(h:ns≠[]):Ci ns∈ns/\∀ y∈ns,Ci ns<=y:=by
 cases ns with
 |nil=>exact absurd rfl h
 | cons x r =>
  obtain⟨a,b,c⟩:=kr r x
  refine⟨?_,λy hy=>?_⟩
  .rcases a with q | q
   .show r.foldl min x∈_;rw[q];exact aH
   .exact nE _ q
  .rcases List.mem_cons.mp hy with q | q
   .rw[q];exact b
   .exact c y q
def pK (T:Nat->Nat->Int)(i j:Nat):au Int:=(List.range (j - (i+1))).filterMap λx=>if 0<T i (i+1+x)*T (i+1+x) j then some (T i (i+1+x)+T (i+1+x) j)else none
def lK {T:Nat->Nat->Int}{i j:Nat}{v:Int}:v∈pK T i j↔∃ k,i<k/\k<j/\0<T i k*T k j/\v=T i k+T k j:=by
 unfold pK
 rw[List.mem_filterMap]
 constructor
 .rintro⟨x,hx,e⟩
  rw[cf]at hx
  split at e
  .cases e;exact⟨i+1+x,by lia,by lia,by assumption,rfl⟩
  .cases e
 .rintro⟨k,h1,h2,h3,rfl⟩
  refine⟨k - (i+1),List.mem_range.mpr (by lia),?_⟩
  rw[show i+1+(k - (i+1))=k by lia,aF h3]
def lD (es own:au Int)(T:Nat->Nat->Int)(i j:Nat):Int:=if j<=i then 0 else if es.getD j 0<=own.getD i 0 then 1 else Ci (pK T i j)
def mO (es:au Int)(ts:au Tk):Nat->Nat->Nat->Int
 |0=>λ_ _=>0
 |a+1=>lD es (jc es ts a) (mO es ts a)
def Np {es own:au Int}{T:Nat->Nat->Int}(h:∀ i j,0<=T i j/\T i j<=((j - i:Nat):Int))(i j:Nat):0<=lD es own T i j/\lD es own T i j<=((j - i:Nat):Int):=by
 unfold lD
 split
 .lia
 .split
  .lia
  .by_cases hn:pK T i j=[]
   .rw[hn];show(0:Int)<=0/\(0:Int)<=_;lia
   .obtain⟨k,h1,h2,h3,e⟩:=lK.mp (qJ hn).1
    rw[e]
    have a:=h i k
    have b:=h k j
    lia
def zI (es:au Int)(ts:au Tk):∀ a i j,0<=mO es ts a i j/\mO es ts a i j<=((j - i:Nat):Int)
 |0,i,j=>by show(0:Int)<=0/\(0:Int)<=_;lia
 |a+1,i,j=>Np (zI es ts a) i j
def ng {L:Nat}{f:Nat->Int}{j:Nat}(h:j<L):(jR L f)[j]?=some (.int (f j)):=by unfold jR;rw[nF,ba h];rfl
def sH (L:Nat)(f:Nat->Int):(jR L f).length=L:=by unfold jR;rw[ia,pW]
def p6 {L:Nat}{T:Nat->Nat->Int}{j:Nat}(h:j<L):(kG L T)[j]?=some (.lst (jR L (T j))):=by unfold kG;rw[nF,ba h];rfl
def mY (L:Nat)(f:Nat->Nat->Int):(kG L f).length=L:=by unfold kG;rw[ia,pW]
def JR {L:Nat}{f g:Nat->Int}(h:∀ j,j<L->f j=g j):jR L f=jR L g:=by
 unfold jR
 exact cm λj hj=>by rw[h j (List.mem_range.mp hj)]
def Fh {μ g:MS}{i:Nat}{m:MO}:(μ++g).set (μ.length+i) m=μ++g.set i m:=by
 rw[cM _ _ (by lia),Nat.add_sub_cancel_left]
def xb {n:Nat}:∀ {ds:au D},(∀ d∈ds,FK n d)->tX n ds
 |[],_=>by unfold tX;trivial
 |d::ds,h=>by unfold tX;exact⟨h d aH,xb λx hx=>h x (nE _ hx)⟩
def FJ {n:Nat}(L:Nat)(f:Nat->Int):FK n (.lst (jR L f)):=xb λd hd=>by obtain⟨i,_,rfl⟩:=List.mem_map.mp hd;exact trivial
def Oi {n:Nat}(L:Nat)(f:Nat->Nat->Int):FK n (.lst (kG L f)):=xb λd hd=>by obtain⟨i,_,rfl⟩:=List.mem_map.mp hd;exact FJ L _
def Nw {n:Nat}(L:Nat)(f:Nat->Int)(h:L<=100000):nM (n+1) (.lst (jR L f)):=wK (by rw[sH];exact h) λd hd=>by obtain⟨i,_,rfl⟩:=List.mem_map.mp hd;exact DC
def Fg {n:Nat}(L:Nat)(f:Nat->Nat->Int)(h:L<=100000):nM (n+2) (.lst (kG L f)):=wK (by rw[mY];exact h) λd hd=>by obtain⟨i,_,rfl⟩:=List.mem_map.mp hd;exact Nw L _ h
inductive kZ where
 |num (n:Int)
 |uc (p:Int) (l r:kZ)
def FL:kZ->D
 |.num n=>.int n
 |.uc p l r=>.tup [.int p,FL l,FL r]
def kZ.cnt:kZ->Nat
 |.num _=>1
 |.uc _ l r=>l.cnt+r.cnt
def kZ.dep:kZ->Nat
 |.num _=>0
 |.uc _ l r=>max l.dep r.dep+1
def kZ.ok (cs:au Int)(m:Nat):kZ->Prop
 |.num n=>0<=n/\n<m
 |.uc p l r=>p∈cs/\l.ok cs m/\r.ok cs m
def kZ.AQ:∀ t:kZ,0<t.cnt
 |.num _=>by show 0<1;decide
 |.uc _ l r=>by have:=l.AQ;show 0<l.cnt+r.cnt;lia
def rD (a b:Tk)(p:Int):Tk:=(a.1.take p.toNat++b.1.drop p.toNat,max a.2 b.2+1)
def kZ.val (ts:au Tk):kZ->Tk
 |.num n=>(ts[n.toNat]?).getD ([],0)
 |.uc p l r=>rD (l.val ts) (r.val ts) p
def A3 (n:Int)(t:Tk):Prop:=(t.1.length:Int)=n/\0<=t.2
def Ow {n:Int}{a b:Tk}{p:Int}(ha:A3 n a)(hb:A3 n b):A3 n (rD a b p):=by
 refine⟨?_,?_⟩
 .show((a.1.take p.toNat++b.1.drop p.toNat).length:Int)=n
  rw[l5,bz,bO]
  have:=ha.1
  have:=hb.1
  lia
 .show 0<=max a.2 b.2+1
  have:=ha.2
  lia
def kZ.oQ {n:Int}{ts:au Tk}{cs:au Int}(ht:∀ t∈ts,A3 n t):∀ {t:kZ},t.ok cs ts.length->A3 n (t.val ts)
 | .num k,h=>by
  obtain⟨x,hx⟩:∃ x,ts[k.toNat]?=some x:=⟨_,iM (by have:=h.1;have:=h.2;lia)⟩
  show A3 n ((ts[k.toNat]?).getD ([],0))
  rw[hx]
  exact ht x (kA hx)
 |.uc p l r,h=>Ow (oQ ht h.2.1) (oQ ht h.2.2)
def Qq:kZ->Bool
 |.uc _ _ _=>true
 |.num _=>false
def D5 {n:Nat}:∀ t:kZ,FK n (FL t)
 |.num _=>trivial
 |.uc p l r=>⟨trivial,D5 l,D5 r,trivial⟩
def Ti (f:Nat->jP):Nat->jP
 |0=>λ_ _ _=>False
 |n+1=>f n
def Jp (t:kZ)(μ:MS):PB (FL t) μ=some (if Qq t then "tuple" else "int"):=by cases t<;>rfl
def kZ.zB {ts:au Tk}{n:Int}{x:Tk}(h:ts[n.toNat]?=some x):(kZ.num n).val ts=x:=by show(ts[n.toNat]?).getD ([],0)=x;rw[h];rfl
abbrev qB (h:Heap)(z TI TO:ao)(f:ar)(bb:Bool):Prop:=h.get? z=some { cls:=.type "zip",dict:=none,data:=.fields #[f,.bool bb,.bool false,.ref TI,.ref TO],slots:=#[]}
structure ZG (z TI TO i1 i2 l1 l2:ao)(f:ar)(bb:Bool)(a b:ar)(k1 k2:Nat)(xs ys:Array ar)(h:Heap):Prop where
 z:qB h z TI TO f bb
 ti:IsPair h TI (.ref i1) (.ref i2)
 to:IsPair h TO a b
 n1:k7 false h i1 l1 k1
 n2:k7 false h i2 l2 k2
 q1:lA false h l1 xs
 q2:lA false h l2 ys
section
variable {z TI TO i1 i2 l1 l2:ao}{f f' a b x y:ar}{bb bb':Bool}{k1 k2:Nat}{xs ys:Array ar}{h h':Heap}
def ZG.mz (S:ZG z TI TO i1 i2 l1 l2 f bb a b k1 k2 xs ys h)(D:ZipApart z TI TO i1 i2 l1 l2)(e:qB h' z TI TO f' bb')(k:Heap.ExtBut z h h'):ZG z TI TO i1 i2 l1 l2 f' bb' a b k1 k2 xs ys h' :=
 ⟨e,k _ _ D.TIz S.ti,k _ _ D.TOz S.to,S.n1.extBut k D.i1z,S.n2.extBut k D.i2z,S.q1.extBut k D.l1z,S.q2.extBut k D.l2z⟩
def ZG.m1 {j:Nat}(S:ZG z TI TO i1 i2 l1 l2 f bb a b k1 k2 xs ys h)(D:ZipApart z TI TO i1 i2 l1 l2)(e:k7 false h' i1 l1 j)(k:Heap.ExtBut i1 h h'):ZG z TI TO i1 i2 l1 l2 f bb a b j k2 xs ys h' :=
 ⟨k _ _ D.i1z.symm S.z,k _ _ D.TIi1 S.ti,k _ _ D.TOi1 S.to,e,S.n2.extBut k D.i12.symm,S.q1.extBut k D.l1i1,S.q2.extBut k D.l2i1⟩
def ZG.m2 {j:Nat}(S:ZG z TI TO i1 i2 l1 l2 f bb a b k1 k2 xs ys h)(D:ZipApart z TI TO i1 i2 l1 l2)(e:k7 false h' i2 l2 j)(k:Heap.ExtBut i2 h h'):ZG z TI TO i1 i2 l1 l2 f bb a b k1 j xs ys h' :=
 ⟨k _ _ D.i2z.symm S.z,k _ _ D.TIi2 S.ti,k _ _ D.TOi2 S.to,S.n1.extBut k D.i12,e,S.q1.extBut k D.l1i2,S.q2.extBut k D.l2i2⟩
def ZG.mo (S:ZG z TI TO i1 i2 l1 l2 f bb a b k1 k2 xs ys h)(D:ZipApart z TI TO i1 i2 l1 l2)(e:IsPair h' TO x y)(k:Heap.ExtBut TO h h'):ZG z TI TO i1 i2 l1 l2 f bb x y k1 k2 xs ys h' :=
 ⟨k _ _ D.TOz.symm S.z,k _ _ D.TITO S.ti,e,S.n1.extBut k D.TOi1.symm,S.n2.extBut k D.TOi2.symm,S.q1.extBut k D.l1TO,S.q2.extBut k D.l2TO⟩
def ZG.push (S:ZG z TI TO i1 i2 l1 l2 f bb a b k1 k2 xs ys h)(o:Obj):ZG z TI TO i1 i2 l1 l2 f bb a b k1 k2 xs ys (h.push o) :=
 ⟨j6 _ S.z,j6 _ S.ti,j6 _ S.to,S.n1.at λ_ e=>j6 _ e,S.n2.at λ_ e=>j6 _ e,
  S.q1.extBut (b:=h.objs.size) (λ_ _ _ e=>j6 _ e) (S.q1.lt),S.q2.extBut (b:=h.objs.size) (λ_ _ _ e=>j6 _ e) (S.q2.lt)⟩
end
section
variable {prog:ah}{w:ai}{A:Around}{E:ar->ak->Prop}{s:ak}
variable {z TI TO i1 i2 l1 l2:ao}{k1 k2:Nat}{xs ys:Array ar}{x y a b f:ar}{bb:Bool}
def FZ {Q:Bool->ak->Prop}(hz:qB s.heap z TI TO f bb)(hf:f=.none\/∃ T0:ao,f=rawInt T0/\s.heap.get? T0=none)(q:Q true s):wpAny (model prog w) A (Builtin.SmallTypes.ownedTupleIsFree (.ref z)) Q E s:=by
 rcases hf with rfl|⟨T0,rfl,hd⟩
 .exact f9 (aO hz rfl (x:=.none) rfl (aA q))
 .refine f9 (aO hz rfl (x:=rawInt T0) rfl ?_)
  show wpAny _ _ (loadIfAlive T0>>=_) _ _ s
  refine f9 (nH ?_)
  rw[hd]
  exact aA q
def GQ {Q:Bool->ak->Prop}{T0:ao}{o:Obj}(hz:qB s.heap z TI TO (rawInt T0) bb)(hd:s.heap.get? T0=some o)(q:∀ g,qB g z TI TO (rawInt T0) true->Heap.SameBut z s.heap g->Q false { s with heap:=g}):wpAny (model prog w) A (Builtin.SmallTypes.ownedTupleIsFree (.ref z)) Q E s:=by
 refine f9 (aO hz rfl (x:=rawInt T0) rfl ?_)
 show wpAny _ _ (loadIfAlive T0>>=_) _ _ s
 refine f9 (nH ?_)
 rw[hd]
 show wpAny _ _ (field (.ref z) 1>>=_) _ _ s
 refine f9 (aO hz rfl (x:=.bool bb) rfl ?_)
 cases bb with
 |true=>exact aA (q s.heap hz ⟨rfl,λ_ _=>rfl⟩)
 |false=>exact f9 (aY hz (by simp) λg e t=>aA (q g e t))
def EZ {Q:ar->ak->Prop}(D:ZipApart z TI TO i1 i2 l1 l2)(S:ZG z TI TO i1 i2 l1 l2 f bb a b k1 k2 xs ys s.heap)(hf:f=.none\/∃ T0:ao,f=rawInt T0/\s.heap.get? T0=none)(hx:xs[k1]?=some x)(hy:ys[k2]?=some y)
 (hQ:∀ h',ZG z TI TO i1 i2 l1 l2 (rawInt s.heap.objs.size) false x y (k1+1) (k2+1) xs ys h'->IsPair h' s.heap.objs.size x y->h'.objs.size=s.heap.objs.size+1->ZK z TO i1 i2 s.heap h'->Q (.ref s.heap.objs.size) {s with heap:=h'}):
 wpAny (model prog w) A (Builtin.«zip.__next__» ⟨[.ref z],[]⟩) (λfin s'=>∃ v,fin=.done (.ret v)/\Q v s') E s:=by
 refine f9 (aA (f9 (aO S.z rfl (x:=.bool false) rfl (f9 (aO S.z rfl (x:=.ref TI) rfl (f9 (bc S.ti rfl ?_)))))))
 refine f9 (m:=Builtin.SmallTypes.ownedTupleIsFree (.ref z)) (FZ S.z hf ?_)
 refine f9 (dJ (f9 (aO S.z rfl (x:=.ref TO) rfl (f9 (aY S.z (by simp) λg1 e1 t1=>?_)))))
 have S1:=S.mz D (f':=.ellipsis) (bb':=bb) e1 t1.extBut
 refine f9 ?_
 rw[show(#[Value.ref i1,Value.ref i2]:Array ar).toList.zipIdx=[(.ref i1,0),(.ref i2,1)]from rfl,bH]
 refine f9 (f9 (cV (f9 (i7 S1.n1 S1.q1 hx λg2 e2 t2=>aA ?_))))
 have S2:=S1.m1 D e2 t2.extBut
 refine f9 (bc S2.to rfl (f9 (cW S2.to λg3 e3 t3=>f9 (cY (aA ?_)))))
 have S3:=S2.mo D (x:=x) (y:=b) e3 t3.extBut
 dsimp only
 rw[bH]
 refine f9 (f9 (cV (f9 (i7 S3.n2 S3.q2 hy λg4 e4 t4=>aA ?_))))
 have S4:=S3.m2 D e4 t4.extBut
 refine f9 (bc S4.to rfl (f9 (cW S4.to λg5 e5 t5=>f9 (cY (aA ?_)))))
 have S5:=S4.mo D (x:=x) (y:=y) e5 t5.extBut
 dsimp only
 rw[dN]
 have sz:g5.objs.size=s.heap.objs.size:=t5.1.trans (t4.1.trans (t3.1.trans (t2.1.trans t1.1)))
 refine aA (f9 (bc S5.to rfl (f9 (eV ?_))))
 have S6:=S5.push { cls:=.type "tuple",data:=.seq #[x,y]}
 refine f9 (m:=Builtin.SmallTypes.ownedTupleHandOut (.ref z) (.ref g5.objs.size)) (f9 (aY S6.z (by simp) λg7 e7 t7=>?_))
 have S7:=S6.mz D (f':=rawInt g5.objs.size) (bb':=bb) e7 t7.extBut
 refine aY S7.z (by simp) λg8 e8 t8=>?_
 have S8:=S7.mz D (f':=rawInt g5.objs.size) (bb':=false) e8 t8.extBut
 have Q5:g5.objs.size≠z:=bw (jk S5.z)
 have hT:IsPair g8 g5.objs.size x y:=t8.extBut _ _ Q5 (t7.extBut _ _ Q5 (aI _ rfl))
 have z8:g8.objs.size=s.heap.objs.size+1:=by rw[t8.1,t7.1,bu,sz]
 have kk:ZK z TO i1 i2 s.heap g8:=((((((nZ t1.extBut).trans (vg t2.extBut)).trans (Hb t3.extBut)).trans (Bv t4.extBut)).trans (Hb t5.extBut)).trans (λd o _ _ _ _ e=>j6 _ e)).trans ((nZ t7.extBut).trans (nZ t8.extBut))
 rw[sz]at S8 hT
 refine aA ⟨_,rfl,?_⟩
 show Q (.ref g5.objs.size) _
 rw[sz]
 exact hQ g8 S8 hT z8 kk
def MW {Q:ar->ak->Prop}{T0:ao}{o:Obj}(D:ZipApart z TI TO i1 i2 l1 l2)(S:ZG z TI TO i1 i2 l1 l2 (rawInt T0) bb a b k1 k2 xs ys s.heap)(hd:s.heap.get? T0=some o)(hx:xs[k1]?=some x)(hy:ys[k2]?=some y)
 (hQ:∀ h',ZG z TI TO i1 i2 l1 l2 (rawInt T0) true a b (k1+1) (k2+1) xs ys h'->IsPair h' s.heap.objs.size x y->h'.objs.size=s.heap.objs.size+1->ZK z TO i1 i2 s.heap h'->Q (.ref s.heap.objs.size) {s with heap:=h'}):
 wpAny (model prog w) A (Builtin.«zip.__next__» ⟨[.ref z],[]⟩) (λfin s'=>∃ v,fin=.done (.ret v)/\Q v s') E s:=by
 refine f9 (aA (f9 (aO S.z rfl (x:=.bool false) rfl (f9 (aO S.z rfl (x:=.ref TI) rfl (f9 (bc S.ti rfl ?_)))))))
 refine f9 (m:=Builtin.SmallTypes.ownedTupleIsFree (.ref z)) (GQ S.z hd λg1 e1 t1=>?_)
 have S1:=S.mz D (bb':=true) e1 t1.extBut
 show wpAny _ _ (forIn (#[Value.ref i1,Value.ref i2]:Array ar) (none,#[]) _>>=_) _ _ _
 rw[<- eM]
 refine f9 ?_
 rw[show(#[Value.ref i1,Value.ref i2]:Array ar).toList=[.ref i1,.ref i2]from rfl,bH]
 refine f9 (f9 (bP (f9 (i7 (s:={s with heap:=g1}) S1.n1 S1.q1 hx λg2 e2 t2=>aA (aA ?_)))))
 have S2:=S1.m1 D e2 t2.extBut
 dsimp only
 rw[bH]
 refine f9 (f9 (bP (f9 (i7 (s:={s with heap:=g2}) S2.n2 S2.q2 hy λg3 e3 t3=>aA (aA ?_)))))
 have S3:=S2.m2 D e3 t3.extBut
 dsimp only
 rw[dN]
 refine aA (f9 (eV (aA ⟨_,rfl,?_⟩) (by show 2<=sizeLine;decide)))
 have sz:g3.objs.size=s.heap.objs.size:=t3.1.trans (t2.1.trans t1.1)
 have S4:=S3.push { cls:=.type "tuple",data:=.seq #[x,y]}
 have hT:IsPair (g3.push { cls:=.type "tuple",data:=.seq #[x,y]}) g3.objs.size x y:=aI _ rfl
 have z4:(g3.push { cls:=.type "tuple",data:=.seq #[x,y]}).objs.size=s.heap.objs.size+1:=by rw[bu,sz]
 have kk:ZK z TO i1 i2 s.heap (g3.push { cls:=.type "tuple",data:=.seq #[x,y]}):=(((nZ t1.extBut).trans (vg t2.extBut)).trans (Bv t3.extBut)).trans λd o _ _ _ _ e=>j6 _ e
 show Q (.ref g3.objs.size) _
 rw[sz]at hT ⊢
 exact hQ _ S4 hT z4 kk
def ZZ (z TI TO i1 i2 l1 l2:ao)(k:Nat)(h:Heap):Prop:=∃ f bb a b,qB h z TI TO f bb/\(f=.none\/∃ T0:ao,f=rawInt T0)/\IsPair h TI (.ref i1) (.ref i2)/\IsPair h TO a b/\k7 false h i1 l1 k/\k7 false h i2 l2 k
def ZZ.keep {k:Nat}{h h':Heap}(Z:ZZ z TI TO i1 i2 l1 l2 k h)(kp:∀ b∈[z,TI,TO,i1,i2],∀ o,h.get? b=some o->h'.get? b=some o):ZZ z TI TO i1 i2 l1 l2 k h':=by
 obtain⟨f,bb,a,b,h1,h2,h3,h4,h5,h6⟩:=Z
 exact⟨f,bb,a,b,kp z (by simp) _ h1,h2,kp TI (by simp) _ h3,kp TO (by simp) _ h4,h5.at λo e=>kp i1 (by simp) o e,h6.at λo e=>kp i2 (by simp) o e⟩
def MV {k:Nat}{Q:ar->ak->Prop}(D:ZipApart z TI TO i1 i2 l1 l2)(Z:ZZ z TI TO i1 i2 l1 l2 k s.heap)(q1:lA false s.heap l1 xs)(q2:lA false s.heap l2 ys)(hx:xs[k]?=some x)(hy:ys[k]?=some y)
 (hQ:∀ h',ZZ z TI TO i1 i2 l1 l2 (k+1) h'->IsPair h' s.heap.objs.size x y->h'.objs.size=s.heap.objs.size+1->ZK z TO i1 i2 s.heap h'->Q (.ref s.heap.objs.size) {s with heap:=h'}):
 wpAny (model prog w) A (Builtin.SmallTypes.nextOf (.ref z)) Q E s:=by
 obtain⟨f,bb,a,b,h1,h2,h3,h4,h5,h6⟩:=Z
 have ty:s.TypeIs (.ref z) "zip":=⟨_,h1,rfl⟩
 unfold Builtin.SmallTypes.nextOf
 refine f9 (bI (name:=Str.ofString "__next__") ty bV (ck bV ty da ?_ (c4 _)))
 rcases h2 with rfl|⟨T0,rfl⟩
 .exact EZ D ⟨h1,h3,h4,h5,h6,q1,q2⟩ (.inl rfl) hx hy λh' S hT hz hk=>aA (hQ h' ⟨_,_,_,_,S.z,.inr ⟨_,rfl⟩,S.ti,S.to,S.n1,S.n2⟩ hT hz hk)
 .cases hd:s.heap.get? T0 with
  |none=>exact EZ D ⟨h1,h3,h4,h5,h6,q1,q2⟩ (.inr ⟨T0,rfl,hd⟩) hx hy λh' S hT hz hk=>aA (hQ h' ⟨_,_,_,_,S.z,.inr ⟨_,rfl⟩,S.ti,S.to,S.n1,S.n2⟩ hT hz hk)
  |some o=>exact MW D ⟨h1,h3,h4,h5,h6,q1,q2⟩ hd hx hy λh' S hT hz hk=>aA (hQ h' ⟨_,_,_,_,S.z,.inr ⟨_,rfl⟩,S.ti,S.to,S.n1,S.n2⟩ hT hz hk)
def sA {Q:Fin->ak->Prop}(hh:A.handled=none)(D:ZipApart z TI TO i1 i2 l1 l2)(S:ZG z TI TO i1 i2 l1 l2 f bb a b k1 k2 xs ys s.heap)(hf:f=.none\/∃ T0:ao,f=rawInt T0/\s.heap.get? T0=none)(hx:xs[k1]?=none\/ys[k2]?=none)
 (hE:∀ h' e,ZK z TO i1 i2 s.heap h'->(∃ o,h'.get? e=some o/\o.cls=.type "StopIteration")->E (.ref e) {s with heap:=h'}):
 wpAny (model prog w) A (Builtin.«zip.__next__» ⟨[.ref z],[]⟩) Q E s:=by
 refine f9 (aA (f9 (aO S.z rfl (x:=.bool false) rfl (f9 (aO S.z rfl (x:=.ref TI) rfl (f9 (bc S.ti rfl ?_)))))))
 refine f9 (m:=Builtin.SmallTypes.ownedTupleIsFree (.ref z)) (FZ S.z hf ?_)
 refine f9 (dJ (f9 (aO S.z rfl (x:=.ref TO) rfl (f9 (aY S.z (by simp) λg1 e1 t1=>?_)))))
 have S1:=S.mz D (f':=.ellipsis) (bb':=bb) e1 t1.extBut
 refine f9 ?_
 rw[show(#[Value.ref i1,Value.ref i2]:Array ar).toList.zipIdx=[(.ref i1,0),(.ref i2,1)]from rfl,bH]
 cases ex:xs[k1]? with
 | none =>
  refine f9 (f9 (cV (f9 (lj hh S1.n1 S1.q1 ex λg2 e t2 he=>?_))))
  obtain⟨oe,Em,Lo⟩:=he
  have Dk:qB g2 z TI TO .ellipsis bb:=t2 _ _ D.i1z.symm S1.z
  have SX:e≠z:=λq=>by subst q;rw[Dk]at Em;cases Em;simp at Lo
  exact aY Dk (by simp) λg3 _ t3=>hE g3 e (((nZ t1.extBut).trans (vg t2)).trans (nZ t3.extBut)) ⟨oe,t3.extBut _ _ SX Em,Lo⟩
 | some x =>
  have hy:ys[k2]?=none:=by
   rcases hx with q|q
   .rw[ex]at q;cases q
   .exact q
  refine f9 (f9 (cV (f9 (i7 S1.n1 S1.q1 ex λg2 e2 t2=>aA ?_))))
  have S2:=S1.m1 D e2 t2.extBut
  refine f9 (bc S2.to rfl (f9 (cW S2.to λg3 e3 t3=>f9 (cY (aA ?_)))))
  have S3:=S2.mo D (x:=x) (y:=b) e3 t3.extBut
  dsimp only
  rw[bH]
  refine f9 (f9 (cV (f9 (lj hh S3.n2 S3.q2 hy λg4 e t4 he=>?_))))
  obtain⟨oe,Em,Lo⟩:=he
  have Dk:qB g4 z TI TO .ellipsis bb:=t4 _ _ D.i2z.symm S3.z
  have SX:e≠z:=λq=>by subst q;rw[Dk]at Em;cases Em;simp at Lo
  exact aY Dk (by simp) λg5 _ t5=>hE g5 e ((((((nZ t1.extBut).trans (vg t2.extBut)).trans (Hb t3.extBut)).trans (Bv t4))).trans (nZ t5.extBut)) ⟨oe,t5.extBut _ _ SX Em,Lo⟩
def zA {Q:Fin->ak->Prop}{T0:ao}{o:Obj}(hh:A.handled=none)(D:ZipApart z TI TO i1 i2 l1 l2)(S:ZG z TI TO i1 i2 l1 l2 (rawInt T0) bb a b k1 k2 xs ys s.heap)(hd:s.heap.get? T0=some o)(hx:xs[k1]?=none\/ys[k2]?=none)
 (hE:∀ h' e,ZK z TO i1 i2 s.heap h'->(∃ o,h'.get? e=some o/\o.cls=.type "StopIteration")->E (.ref e) {s with heap:=h'}):
 wpAny (model prog w) A (Builtin.«zip.__next__» ⟨[.ref z],[]⟩) Q E s:=by
 refine f9 (aA (f9 (aO S.z rfl (x:=.bool false) rfl (f9 (aO S.z rfl (x:=.ref TI) rfl (f9 (bc S.ti rfl ?_)))))))
 refine f9 (m:=Builtin.SmallTypes.ownedTupleIsFree (.ref z)) (GQ S.z hd λg1 e1 t1=>?_)
 have S1:=S.mz D (bb':=true) e1 t1.extBut
 show wpAny _ _ (forIn (#[Value.ref i1,Value.ref i2]:Array ar) (none,#[]) _>>=_) _ _ _
 rw[<- eM]
 refine f9 ?_
 rw[show(#[Value.ref i1,Value.ref i2]:Array ar).toList=[.ref i1,.ref i2]from rfl,bH]
 cases ex:xs[k1]? with
 |none=>exact f9 (f9 (bP (f9 (lj (s:={s with heap:=g1}) hh S1.n1 S1.q1 ex λg2 e t2 he=>hE g2 e ((nZ t1.extBut).trans (vg t2)) he))))
 | some x =>
  have hy:ys[k2]?=none:=by
   rcases hx with q|q
   .rw[ex]at q;cases q
   .exact q
  refine f9 (f9 (bP (f9 (i7 (s:={s with heap:=g1}) S1.n1 S1.q1 ex λg2 e2 t2=>aA (aA ?_)))))
  have S2:=S1.m1 D e2 t2.extBut
  dsimp only
  rw[bH]
  exact f9 (f9 (bP (f9 (lj (s:={s with heap:=g2}) hh S2.n2 S2.q2 hy λg3 e t3 he=>hE g3 e (((nZ t1.extBut).trans (vg t2.extBut)).trans (Bv t3)) he))))
def Q4 {k:Nat}{Q:ar->ak->Prop}(hh:A.handled=none)(D:ZipApart z TI TO i1 i2 l1 l2)(Z:ZZ z TI TO i1 i2 l1 l2 k s.heap)(q1:lA false s.heap l1 xs)(q2:lA false s.heap l2 ys)(hx:xs[k]?=none\/ys[k]?=none)
 (hE:∀ h' e,ZK z TO i1 i2 s.heap h'->(∃ o,h'.get? e=some o/\o.cls=.type "StopIteration")->E (.ref e) {s with heap:=h'}):
 wpAny (model prog w) A (Builtin.SmallTypes.nextOf (.ref z)) Q E s:=by
 obtain⟨f,bb,a,b,h1,h2,h3,h4,h5,h6⟩:=Z
 have ty:s.TypeIs (.ref z) "zip":=⟨_,h1,rfl⟩
 unfold Builtin.SmallTypes.nextOf
 refine f9 (bI (name:=Str.ofString "__next__") ty bV (ck bV ty da ?_ (c4 _)))
 rcases h2 with rfl|⟨T0,rfl⟩
 .exact sA hh D ⟨h1,h3,h4,h5,h6,q1,q2⟩ (.inl rfl) hx hE
 .cases hd:s.heap.get? T0 with
  |none=>exact sA hh D ⟨h1,h3,h4,h5,h6,q1,q2⟩ (.inr ⟨T0,rfl,hd⟩) hx hE
  |some o=>exact zA hh D ⟨h1,h3,h4,h5,h6,q1,q2⟩ hd hx hE
def LK {e:ao}{i:Nat}{old:ar}{Q:ar->ak->Prop}(D:ZipApart z TI TO i1 i2 l1 l2)(he:IsEnum s.heap e z i old)(Z:ZZ z TI TO i1 i2 l1 l2 i s.heap)(ne:e∉[z,TI,TO,i1,i2])(q1:lA false s.heap l1 xs)(q2:lA false s.heap l2 ys)(hx:xs[i]?=some x)(hy:ys[i]?=some y)
 (hQ:∀ h1 h2 tk,IsPair h1 s.heap.objs.size x y->h1.objs.size=s.heap.objs.size+1->(∀ b o,b∉[z,TO,i1,i2]->s.heap.get? b=some o->h1.get? b=some o) ->
   IsEnumOut h2 e z ((i:Int)+1) (.ref s.heap.objs.size) (s.heap.objs.size+1)->ZZ z TI TO i1 i2 l1 l2 (i+1) h2->IsPair h2 (s.heap.objs.size+1) (.int i tk) (.ref s.heap.objs.size)->(∀ b o,b≠e->h1.get? b=some o->h2.get? b=some o)->Q (.ref (s.heap.objs.size+1)) {s with heap:=h2,toks:=tk+1}):
 wpAny (model prog w) A (Builtin.«enumerate.__next__» ⟨[.ref e],[]⟩) (λfin s'=>∃ v,fin=.done (.ret v)/\Q v s') E s:=by
 obtain⟨hp,g,d,tk,os⟩:=s
 show wpAny _ _ (field (.ref e) 2>>=_) _ _ _
 refine f9 (aO he rfl (x:=.ref z) rfl ?_)
 have elt:e<hp.objs.size:=jk he
 refine f9 (MV D Z q1 q2 hx hy λh₁ Z₁ hT₁ sz₁ hk₁=>?_)
 replace hT₁:IsPair h₁ hp.objs.size x y:=hT₁
 replace sz₁:h₁.objs.size=hp.objs.size+1:=sz₁
 simp only[aR,aL,bQ,not_or]at ne
 obtain⟨n1,n2,n3,n4,n5⟩:=ne
 have he₁:IsEnum h₁ e z i old:=hk₁ e _ n1 n3 n4 n5 he
 show wpAny _ _ (field (.ref e) 3>>=_) _ _ ⟨h₁,g,d,tk,os⟩
 refine f9 (aO he₁ rfl (x:=rawInt i) rfl ?_)
 show wpAny _ _ (field (.ref e) 4>>=_) _ _ ⟨h₁,g,d,tk,os⟩
 refine f9 (aO he₁ rfl (x:=.none) rfl ?_)
 show wpAny _ _ (mkInt i>>=_) _ _ ⟨h₁,g,d,tk,os⟩
 refine f9 (wpAny_mkInt ?_)
 show wpAny _ _ (setField (.ref e) 3 (rawInt ((i:Int)+1))>>=_) _ _ ⟨h₁,g,d,tk+1,os⟩
 refine f9 (aY he₁ (by simp) λh₂ he₂ hs₂=>?_)
 replace hs₂:Heap.SameBut e h₁ h₂:=hs₂
 replace he₂:IsEnum h₂ e z ((i:Int)+1) old:=he₂
 show wpAny _ _ (setField (.ref e) 4 .none>>=_) _ _ ⟨h₂,g,d,tk+1,os⟩
 refine f9 (aY he₂ (by simp) λh₃ he₃ hs₃=>?_)
 replace hs₃:Heap.SameBut e h₂ h₃:=hs₃
 replace he₃:IsEnum h₃ e z ((i:Int)+1) old:=he₃
 show wpAny _ _ (newTuple [.int i tk,.ref hp.objs.size]>>=_) _ _ ⟨h₃,g,d,tk+1,os⟩
 refine f9 (eV ?_)
 have he₄:IsEnum (h₃.push { cls:=.type "tuple",data:=.seq #[.int i tk,.ref hp.objs.size]}) e z ((i:Int)+1) old:=j6 _ he₃
 have hsz:h₃.objs.size=hp.objs.size+1:=by rw[hs₃.1,hs₂.1,sz₁]
 have ht₄:(h₃.push { cls:=.type "tuple",data:=.seq #[.int i tk,.ref hp.objs.size]}).get? (hp.objs.size+1)=some { cls:=.type "tuple",data:=.seq #[.int i tk,.ref hp.objs.size]}:=by rw[<- hsz];exact aI _ rfl
 have hk₄:∀ b o,b≠e->h₁.get? b=some o->(h₃.push { cls:=.type "tuple",data:=.seq #[.int i tk,.ref hp.objs.size]}).get? b=some o:=λb o hb eo=>j6 _ (hs₃.extBut b o hb (hs₂.extBut b o hb eo))
 generalize h₃.push { cls:=.type "tuple",data:=.seq #[.int i tk,.ref hp.objs.size]}=h₄ at he₄ ht₄ hk₄
 show wpAny _ _ (Builtin.SmallTypes.ownedTupleIsFree (.ref e)>>=_) _ _ ⟨h₄,g,d,tk+1,os⟩
 rw[hsz]
 refine f9 ?_
 unfold Builtin.SmallTypes.ownedTupleIsFree
 refine f9 (aO he₄ rfl (x:=.none) rfl (aA ?_))
 simp only[if_true]
 refine f9 (dJ ?_)
 refine f9 (aO he₄ rfl (x:=old) rfl ?_)
 refine f9 (aY he₄ (by simp) λh₅ he₅ hs₅=>?_)
 replace hs₅:Heap.SameBut e h₄ h₅:=hs₅
 replace he₅:IsEnum h₅ e z ((i:Int)+1) (.ref hp.objs.size):=he₅
 show wpAny _ _ (Builtin.SmallTypes.ownedTupleHandOut (.ref e) (.ref (hp.objs.size+1))>>=_) _ _ ⟨h₅,g,d,tk+1,os⟩
 refine f9 ?_
 unfold Builtin.SmallTypes.ownedTupleHandOut
 refine f9 (aY he₅ (by simp) λh₆ he₆ hs₆=>?_)
 replace hs₆:Heap.SameBut e h₅ h₆:=hs₆
 replace he₆:IsEnumOut h₆ e z ((i:Int)+1) (.ref hp.objs.size) (hp.objs.size+1):=he₆
 refine aY he₆ (by simp) λh₇ he₇ hs₇=>?_
 replace hs₇:Heap.SameBut e h₆ h₇:=hs₇
 replace he₇:IsEnumOut h₇ e z ((i:Int)+1) (.ref hp.objs.size) (hp.objs.size+1):=he₇
 have YW:∀ b o,b≠e->h₄.get? b=some o->h₇.get? b=some o:=λb o hb eo=>hs₇.extBut b o hb (hs₆.extBut b o hb (hs₅.extBut b o hb eo))
 refine f9 (cY (aA ⟨_,rfl,hQ h₁ h₇ tk hT₁ sz₁ (λb o hb eo=>hk₁ b o (λq=>hb (by simp[q])) (λq=>hb (by simp[q])) (λq=>hb (by simp[q])) (λq=>hb (by simp[q])) eo) he₇ ?_ ?_ λb o hb eo=>YW b o hb (hk₄ b o hb eo)⟩))
 .refine Z₁.keep λb hb o eo=>YW b o ?_ (hk₄ b o ?_ eo)<;>
  .intro q
   subst q
   simp only[aR,aL,bQ]at hb
   rcases hb with q|q|q|q|q
   .exact n1 q
   .exact n2 q
   .exact n3 q
   .exact n4 q
   .exact n5 q
 .exact YW (hp.objs.size+1) _ (bw (bx elt)) ht₄
end
section
variable {prog:ah}{w:ai}{A:Around}{E:ar->ak->Prop}{s:ak}
def xu (z TI TO:ao):
 Meets (Builtin.«enumerate.__new__» ⟨[.type "enumerate",.ref z],[]⟩) (λ_ R s=>IsZip s.heap z TI TO .none /\
  R (.ok (.ret (.ref s.heap.objs.size))) {s with heap:=s.heap.push { cls:=.type "enumerate",data:=.fields #[.none,.bool false,.ref z,rawInt 0,.none,.none]}}):=
 .of_wp λprog w A R s h=>by
  obtain⟨hp,g,d,tk,os⟩:=s
  obtain⟨hz,h⟩:=h
  have Zc:=sub_enumerate
  have Xy:IsZip (Shared.heap ⟨hp,g,d,tk,os⟩) z TI TO .none:=hz
  wp_walk using cO Xy
  refine wpAny_stack_any λst=>aA ?_
  split
  .rename_i c _ _ _ _ _
   cases(c==Value.type "enumerate")
   .wp_walk using cO Xy
    exact⟨_,rfl,h⟩
   .wp_walk using cO Xy
    exact⟨_,rfl,h⟩
  .wp_walk using cO Xy
   exact⟨_,rfl,h⟩
def sm {z TI TO:ao}{Q:ar->ak->Prop}(hz:IsZip s.heap z TI TO .none)
 (h:∀ h',IsEnum h' s.heap.objs.size z 0 .none->h'.objs.size=s.heap.objs.size+1->(∀ b o,s.heap.get? b=some o->h'.get? b=some o)->Q (.ref s.heap.objs.size) {s with heap:=h'}):
 wpAny (model prog w) A (call (.type "enumerate") [.ref z]) Q E s:=by
 refine callType_new F.called_enumerate (by decide) (F.typeCall_enumerate_1 _) (F.newCall_enumerate_1 _) (λobj=>F.args_object_init_2 obj _) F.entry_enumerate_new (xu z TI TO) ⟨hz,?_⟩
 have he:IsEnum (s.heap.push { cls:=.type "enumerate",data:=.fields #[.none,.bool false,.ref z,rawInt 0,.none,.none]}) s.heap.objs.size z 0 .none:=aI _ rfl
 exact⟨⟨_,he,rfl⟩,h _ he (by rw[bu]) λb o x=>j6 _ x⟩
end
def W5 (l1 l2:ao):It :=
 ⟨λi H=>∃ xs ys x y,H l1=some (.lst xs)/\H l2=some (.lst ys)/\xs[i]?=some x/\ys[i]?=some y,
  λi H v H'=>∃ T1 T2 x y,v=.ref T2/\H T1=none/\(upd H T1 (.tup [x,y])) T2=none/\H'=upd (upd H T1 (.tup [x,y])) T2 (.tup [.int i,.ref T1])/\(∀ xs,H l1=some (.lst xs)->xs[i]?=some x)/\(∀ ys,H l2=some (.lst ys)->ys[i]?=some y),
  λi H=>∃ xs ys,H l1=some (.lst xs)/\H l2=some (.lst ys)/\(xs.length<=i\/ys.length<=i)⟩
def mU.upd {X:Cx}{fJ:au (ao×Obj)}{H:Hp}{b T:ao}{o:HO}(f:mU X fJ H b)(h:b≠T):mU X fJ (upd H T o) b:=⟨by rw[gB h];exact f.1,f.2⟩
def Dv {P:ah}{w:ai}{K:aa}{elts:au Expr}{kk:Nat}{tpos:Pos}{e z TI TO i1 i2 l1 l2:ao}(D:ZipApart z TI TO i1 i2 l1 l2)(ne:e∉[z,TI,TO,i1,i2]):
 Turn P w K (.Tuple elts kk tpos) (W5 l1 l2) [e,z,TI,TO,i1,i2] e (λi h=>(∃ old,IsEnum h e z i old)/\ZZ z TI TO i1 i2 l1 l2 i h) where
 mem:=by simp
 obj:=λi h st b hb=>by
  obtain⟨⟨old,he⟩,f,bb,a,b',h1,h2,h3,h4,h5,h6⟩:=st
  simp only[aR,aL,bQ]at hb
  rcases hb with rfl|rfl|rfl|rfl|rfl|rfl
  .exact⟨_,he,λv q=>by cases q⟩
  .exact⟨_,h1,λv q=>by cases q⟩
  .exact⟨_,h3,λv q=>by cases q⟩
  .exact⟨_,h4,λv q=>by cases q⟩
  .exact h5.data
  .exact h6.data
 keep:=λi h h' st k=>by
  obtain⟨⟨old,he⟩,Z⟩:=st
  exact⟨⟨old,k e (by simp) _ he⟩,Z.keep λb hb o eo=>k b (nE _ hb) o eo⟩
 item:=by
  intro X hP hw hK hc i fJ s σ H E I hf st hg
  subst hP hw hK
  obtain⟨⟨old,he⟩,Z⟩:=st
  obtain⟨xs,ys,x,y,q1,q2,ex,ey⟩:=hg
  obtain⟨_,us,n1,r1,_,p1⟩:=I.lZ q1
  obtain⟨_,ws,n2,r2,_,p2⟩:=I.lZ q2
  obtain⟨u,eu,ru⟩:=r1.get ex
  obtain⟨v,ev,rv⟩:=r2.get ey
  have s1:lA false s.heap l1 us.toArray:=⟨_,p1,rfl,n1,rfl⟩
  have s2:lA false s.heap l2 ws.toArray:=⟨_,p2,rfl,n2,rfl⟩
  have hT:s.TypeIs (.ref e) "enumerate":=⟨_,he,rfl⟩
  have Kv:∀ b∈[e,z,TI,TO,i1,i2],b<s.heap.objs.size:=λb hb=>by
   obtain⟨f,bb,a,b',h1,h2,h3,h4,h5,h6⟩:=Z
   simp only[aR,aL,bQ]at hb
   rcases hb with rfl|rfl|rfl|rfl|rfl|rfl
   .exact jk he
   .exact jk h1
   .exact jk h3
   .exact jk h4
   .obtain⟨o,q⟩:=h5.ex;exact jk q
   .obtain⟨o,q⟩:=h6.ex;exact jk q
  unfold pyNext
  refine f9 (dA (bI (name:=Str.ofString "__next__") hT dH (ck dH hT F.entry_enumerate_next (LK D he Z ne s1 s2 (x:=u) (y:=v) (by simpa using eu) (by simpa using ev) λh1 h2 tk V1 UW fr1 ho2 Z2 Tb fr2=>aA ?_) (F.args_enumerate_next_1 _))))
  refine⟨_,rfl,wpAny_letOwnedTupleGo_enum ho2 λh3 he3 FR=>?_⟩
  have I1:Inv X fJ σ (upd H s.heap.objs.size (.tup [x,y])) { s with heap:=h1}:=I.BG (ch:=[z,TO,i1,i2]) (h'':=h1) (λb hb=>hf b (by
   simp only[aR,aL,bQ]at hb ⊢
   rcases hb with q|q|q|q<;>simp[q])) fr1 V1 ru rv
  have elt:=Kv e (by simp)
  have en:e≠s.heap.objs.size+1:=aE (bx elt)
  have hT3:IsPair h3 (s.heap.objs.size+1) (.int i tk) (.ref s.heap.objs.size):=FR.extBut _ _ (bD en) Tb
  have I2:=I1.BG (ch:=[e]) (h'':=h3) (x:=.int i) (y:=.ref s.heap.objs.size) (u:=.int i tk) (v:=.ref s.heap.objs.size) (λb hb=>by
   rw[List.mem_singleton.mp hb]
   exact(hf e (by simp)).upd (aE elt)) (λb o hb eo=>FR.extBut b o (λq=>hb (by simp[q])) (fr2 b o (λq=>hb (by simp[q])) eo)) (by show IsPair h3 h1.objs.size _ _;rw[UW];exact hT3) ⟨tk,rfl⟩ rfl
  have hn1:H s.heap.objs.size=none:=I.iF.fresh (aw _)
  have IS:(upd H s.heap.objs.size (.tup [x,y])) (s.heap.objs.size+1)=none:=by
   rw[gB (Nat.succ_ne_self _)]
   exact I.iF.fresh (dr _)
  have I3:=I2.tok (tk+1)
  have e1:(({s with heap:=h1}:ak).heap.objs.size)=s.heap.objs.size+1:=UW
  rw[e1]at I3
  refine⟨.ref (s.heap.objs.size+1),_,I3,rfl,⟨_,_,x,y,rfl,hn1,IS,rfl,λzs q=>by rw[q1]at q;cases q;exact ex,λzs q=>by rw[q2]at q;cases q;exact ey⟩,⟨⟨_,by simpa using he3⟩,Z2.keep λb hb o eo=>FR.extBut b o (λq=>ne (q▸hb)) eo⟩,λb hb=>?_⟩
  have:=Kv b hb
  rw[gB (aE (bx this)),gB (aE this)]
  exact(hf b hb).1
 done:=by
  intro X hP hw hK hc i fJ s σ H E I hf st hg
  subst hP hw hK
  obtain⟨⟨old,he⟩,Z⟩:=st
  obtain⟨xs,ys,q1,q2,hx⟩:=hg
  obtain⟨_,us,n1,r1,ll1,p1⟩:=I.lZ q1
  obtain⟨_,ws,n2,r2,ll2,p2⟩:=I.lZ q2
  have s1:lA false s.heap l1 us.toArray:=⟨_,p1,rfl,n1,rfl⟩
  have s2:lA false s.heap l2 ws.toArray:=⟨_,p2,rfl,n2,rfl⟩
  have hT:s.TypeIs (.ref e) "enumerate":=⟨_,he,rfl⟩
  unfold pyNext
  refine f9 (dA (bI (name:=Str.ofString "__next__") hT dH (ck dH hT F.entry_enumerate_next ?_ (F.args_enumerate_next_1 _))))
  show wpAny _ _ (field (.ref e) 2>>=_) _ _ _
  refine f9 (aO he rfl (x:=.ref z) rfl ?_)
  refine f9 (Q4 (I.ok.hd hc) D Z s1 s2 (by simp only[List.getElem?_toArray,List.getElem?_eq_none_iff];lia) λh' x hk Bo=>?_)
  obtain⟨o,ho,Cr⟩:=Bo
  refine f9 (fB (T:= "StopIteration") (b:=true) ⟨o,ho,Cr⟩ isSubtype_stop ?_)
  refine aA ⟨rfl,I.yB (ch:=[z,TO,i1,i2]) (λb hb=>hf b (by
   simp only[aR,aL,bQ]at hb ⊢
   rcases hb with q|q|q|q<;>simp[q])) λb o hb eo=>hk b o (λq=>hb (by simp[q])) (λq=>hb (by simp[q])) (λq=>hb (by simp[q])) (λq=>hb (by simp[q])) eo⟩
 self:=λ_ _ _ _ _ st h=>let ⟨⟨_,e⟩,_⟩:=st;eT e h
section
variable {X:Cx}{a b e:Expr}{es:au Expr}{pos:Pos}
def SF (ta:TA):TI:=λσ H R=>ta σ H λvs H1=>match vs with
 |[.ref l1,.ref l2]=>∃ xs ys,H1 l1=some (.lst xs)/\H1 l2=some (.lst ys)/\R (W5 l1 l2) H1
 |_=>False
def Ka {elts:au Expr}{kk:Nat}{tpos p2 oj:Pos}{ta:TA}{p:Pos}(hg:Gl X "enumerate")(hm:X.mg "enumerate"=none)(OI:Gl X "zip")(Ic:X.mg "zip"=none)(ha:PA X [a,b] ta)(hs:starEach [a,b] X.env=[(false,eval a X.env),(false,eval b X.env)]:=by rfl)(sY:starEach [b] X.env=[(false,eval b X.env)]:=by rfl)
 (FR:starEach [.Call (.Name "zip" p2) [a,b] [] oj] X.env=[(false,eval (.Call (.Name "zip" p2) [a,b] [] oj) X.env)]:=by rfl):
 PI X (.Tuple elts kk tpos) (.Call (.Name "enumerate" p) [.Call (.Name "zip" p2) [a,b] [] oj] [] pos) (SF ta):=by
 intro fJ s σ H R I h
 refine Call_ (kW I hg hm (show bootBuiltins "enumerate"=some (.type "enumerate") by decide +kernel) (a6 ?_ FR rfl))
 rw[FR]
 show wpAny _ _ (spliced ((false,eval (.Call (.Name "zip" p2) [a,b] [] oj) X.env)::backTo pos [])) _ _ s
 refine eK ?_
 refine Call_ (kW I OI Ic boot_zip (a6 (iN (ha oj fJ s σ H _ I h) λus s1 rZ=>?_) (by rw[hs,sY]) (by rw[sY];rfl)))
 obtain⟨vs,H1,I1,r1,q1⟩:=rZ
 try dsimp only at q1
 split at q1
 .rename_i l1 l2
  obtain⟨xs,ys,h1,h2,q⟩:=q1
  obtain⟨u1,u2,rfl,e1,e2⟩:=r1.two
  cases e1;cases e2
  obtain⟨_,i1,n1,v1,_,p1⟩:=I1.lZ h1
  obtain⟨_,i2,n2,v2,_,p2⟩:=I1.lZ h2
  have s1q:lA false s1.heap l1 i1.toArray:=⟨_,p1,rfl,n1,rfl⟩
  have s2q:lA false s1.heap l2 i2.toArray:=⟨_,p2,rfl,n2,rfl⟩
  have lt1:l1<s1.heap.objs.size:=jk p1
  have lt2:l2<s1.heap.objs.size:=jk p2
  refine sy s1q s2q λh' hz Bt Bs m1 m2 kp=>?_
  refine fh ?_
  refine sm (s:={ s1 with heap:=h'}) hz λh'' he hsz Qs=>eT he ?_
  have Q5:s1.heap.objs.size+4<h'.objs.size:=jk hz
  have I2:Inv X fJ σ H1 { s1 with heap:=h''}:=I1.iW (t':=s1.toks) λb o eo=>Qs b o (kp b o eo)
  have Z0:ZZ (s1.heap.objs.size+4) (s1.heap.objs.size+2) (s1.heap.objs.size+3) s1.heap.objs.size (s1.heap.objs.size+1) l1 l2 0 h':=⟨_,_,_,_,hz,.inl rfl,Bt,Bs,m1,m2⟩
  have ne:h'.objs.size∉[s1.heap.objs.size+4,s1.heap.objs.size+2,s1.heap.objs.size+3,s1.heap.objs.size,s1.heap.objs.size+1]:=by
   simp only[aR,aL,bQ]
   lia
  refine⟨h'.objs.size,_,_,_,H1,rfl,I2,Dv (zipApart_new lt1 lt2) ne,⟨⟨_,he⟩,Z0.keep λb _ o eo=>Qs b o eo⟩,λb hb=>?_,q⟩
  have Bq:s1.heap.objs.size<=b:=by
   simp only[aR,aL,bQ]at hb
   rcases hb with q|q|q|q|q|q
   .rw[q];exact eZ (cw (aT _ 4) Q5)
   .rw[q];exact aT _ _
   .rw[q];exact aT _ _
   .rw[q];exact aT _ _
   .rw[q];exact aw _
   .rw[q];exact aT _ _
  exact I1.Er Bq (I1.iF.fresh Bq)
 .exact q1.elim
def WD (w:DA):DI:=λρ μ K=>w ρ μ λds gy=>match ds with
 |[x,y]=>opt (lv gy x) λxs=>opt (lv gy y) λys=>K (nX (List.zipWith (λa b=>D.tup [a,b]) xs ys)) (λgq=>lc x xs gq/\lc y ys gq) gy
 |_=>False
def OA {elts:au Expr}{kk:Nat}{tpos p2 oj:Pos}{w:DA}{p:Pos}(hg:Gl X "enumerate")(hm:X.mg "enumerate"=none)(OI:Gl X "zip")(Ic:X.mg "zip"=none)(ha:wy X [a,b] w)(hs:starEach [a,b] X.env=[(false,eval a X.env),(false,eval b X.env)]:=by rfl)(sY:starEach [b] X.env=[(false,eval b X.env)]:=by rfl)
 (FR:starEach [.Call (.Name "zip" p2) [a,b] [] oj] X.env=[(false,eval (.Call (.Name "zip" p2) [a,b] [] oj) X.env)]:=by rfl):
 G4 X (.Tuple elts kk tpos) (.Call (.Name "enumerate" p) [.Call (.Name "zip" p2) [a,b] [] oj] [] pos) (WD w):=(Ka hg hm OI Ic ha hs sY FR).imp λσ H Q hq=>by
 obtain⟨φ,ρ,μ,K,A,M,k,L⟩:=hq
 refine⟨φ,ρ,μ,_,A,M,k,λds gy gT vs H1 k1 f1 M1 i1=>?_⟩
 split at k1
 .rename_i x y
  obtain⟨xs,ex,k1⟩:=iw k1
  obtain⟨ys,ey,k1⟩:=iw k1
  obtain⟨v,r,rfl,h1,u,r',rfl,h2,h3⟩:=i1
  cases(show r'=[]from h3)
  obtain⟨p1,vx,rfl,SQ,ax⟩:=kJ M1 h1 ex
  obtain⟨p2,vy,rfl,SO,ay⟩:=kJ M1 h2 ey
  refine⟨vx,vy,SQ,SO,L _ _ gy gT _ H1 k1 f1 M1 λgN H' gq f M' c i=>?_⟩
  obtain⟨vx,hx,ax⟩:=qK M1 h1 ex f M' c.1
  obtain⟨vy,hy,ay⟩:=qK M1 h2 ey f M' c.2
  have lx:=ax.len
  have ly:=ay.len
  refine⟨λd hd=>?_,λhi=>⟨vx,vy,hx,hy,by rw[mW,bG]at hi;lia⟩⟩
  obtain⟨q,hq,rfl⟩:=yX hd
  rw[bT]at hq
  cases e1:xs[i]? with
  |none=>rw[e1]at hq;cases hq
  | some dx =>
   cases e2:ys[i]? with
   |none=>rw[e1,e2]at hq;cases hq
   | some dy =>
    rw[e1,e2]at hq
    cases hq
    obtain⟨v1,g1,j1⟩:=ax.get e1
    obtain⟨v2,g2,j2⟩:=ay.get e2
    refine⟨⟨vx,vy,v1,v2,hx,hy,g1,g2⟩,λz Po OC=>?_⟩
    obtain⟨T1,T2,x',y',rfl,V1,Tb,rfl,q1,q2⟩:=OC
    have c1:=q1 vx hx
    have c2:=q2 vy hy
    rw[g1]at c1;cases c1
    rw[g2]at c2;cases c2
    have Z1:=Fr.new (φ:=gN) (o:=.tup [v1,v2]) V1
    have M1':=M'.same (iL.upd (o:=.tup [v1,v2]) V1)
    have fn2:=Fr.new (φ:=gN) (o:=.tup [.int i,.ref T1]) Tb
    have M2':=M1'.same (iL.upd (o:=.tup [.int i,.ref T1]) Tb)
    have d1:jE gN (upd H' T1 (.tup [v1,v2])) (.tup [dx,dy]) (.ref T1):=⟨T1,_,rfl,M'.fresh V1,gp,v1,_,rfl,j1.mono Z1,v2,_,rfl,j2.mono Z1,rfl⟩
    exact⟨Z1.trans fn2,M2',T2,_,rfl,M1'.fresh Tb,gp,.int i,_,rfl,rfl,.ref T1,_,rfl,d1.mono fn2,rfl⟩
 .exact k1.elim
end
def Qf:au V->Hp->VK->Prop:=λvs H Q=>∃ i j k,vs=[.int i,.int j,.int k]/\Q (.int (min i (min j k))) H
def Vv {X:Cx}(hc:X.gY=true):jm X (.builtin "min") Qf:=by
 intro fJ s σ H xs us Q I r h
 obtain⟨i,j,k,rfl,h⟩:=h
 cases r with
 | cons r1 r2 =>
  obtain⟨u,v,rfl,⟨t2,rfl⟩,⟨t3,rfl⟩⟩:=gD.two r2
  obtain⟨t1,rfl⟩:=r1
  refine min_three_ints (I.ok.hd hc) λh' tk kp=>⟨_,H,I.iW kp,?_,h⟩
  by_cases h1:j<i
  .by_cases h2:k<j
   .rw[aF h1,aF h2,show min i (min j k)=k by lia];exact⟨_,rfl⟩
   .rw[aF h1,aG h2,show min i (min j k)=j by lia];exact⟨_,rfl⟩
  .by_cases h2:k<i
   .rw[aG h1,aF h2,show min i (min j k)=k by lia];exact⟨_,rfl⟩
   .rw[aG h1,aG h2,show min i (min j k)=i by lia];exact⟨_,rfl⟩
def QJ:jP:=λds μ K=>match ds with|[.int i,.int j,.int k]=>K (.int (min i (min j k))) μ|_=>False
def Nt:mF Qf QJ:=λφ H vs ds μ K Q M h k L=>by
 unfold QJ at k
 split at k
 .obtain⟨v,r,rfl,h1,u,r',rfl,h2,w,r'',rfl,h3,h4⟩:=h
  cases(show r''=[]from h4);cases(show v=_ from h1);cases(show u=_ from h2);cases(show w=_ from h3);exact⟨_,_,_,rfl,L.val M k rfl⟩
 .exact k.elim
section
variable {X:Cx}{e:Expr}{pos:Pos}
def WH:De:=λ_ μ K=>K (.mr μ.length) (μ++[.jX [] []])
def Tr:PD X (.Dict [] [] pos) WH:=Kl.imp λσ H Q ⟨φ,ρ,μ,K,A,M,k,L⟩=>λp hp=>by
 obtain⟨M',f⟩:=M.snoc (o:=.dK []) (m:=.jX [] []) hp ⟨[],[],gp,rfl,rfl,rfl⟩
 exact L _ _ _ _ _ k f M' ⟨p,by rw[rF (by rw[M.len];exact aw _),M.len,a8];rfl,rfl⟩
def WL (w wo wi:De):Ds:=λN ρ μ=>w ρ μ λd gy=>wo ρ gy λo jb=>wi ρ jb λi uS=>match o with
 |.mr k=>∃ ks ds,uS[k]?=some (.jX ks ds)/\ks.length<sizeLine/\opt (K6 i) λkk=>kk∉ks/\N.nx ρ (uS.set k (.jX (ks++[kk]) (ds++[d])))
 |_=>False
def Rx {o i:Expr}{w wo wi:De}{pos':Pos}(hu:X.A.units+1<cLine)(he:PD X e w)(ho:PD X o wo)(hi:PD X i wi)(hs:swapsWith e (some (.Subscript o i pos')) pos.line X.env=pure false:=by rfl):
 zx X (.Assign [.Subscript o i pos'] e pos) (WL w wo wi):=(Fv hu ho hi he hs).imp λE σ H hq=>by
 obtain⟨φ,ρ,μ,N,A,M,w,L⟩:=hq
 refine⟨φ,ρ,μ,_,A,M,w,λd gy gT v1 H1 k1 f1 M1 i1=>?_⟩
 refine⟨gT,ρ,gy,_,A.mono f1,M1,k1,λd2 jb l8 v2 H2 k2 f2 M2 i2=>?_⟩
 refine⟨l8,ρ,jb,_,A.mono (f1.trans f2),M2,k2,λd3 uS Ha v3 H3 k3 f3 M3 i3=>?_⟩
 cases d2 with
 | mr k =>
  obtain⟨ks,ds,em,hl,k3⟩:=k3
  obtain⟨kk,ek,hn,k3⟩:=iw k3
  obtain⟨p,hp,rfl⟩:=i2.mono f3
  obtain⟨p',e1,fX,vs,hv,h1,h2,ha⟩:=M3.at_ k _ em
  rw[hp]at e1;cases e1
  cases vL ek i3
  have Zj:(fX.any λkv=>decide (kv.1=kk))=false:=by
   rw[fc]
   intro kv VP
   rw[bN]
   intro z
   exact hn (by rw[<- h1,<- z];exact List.mem_map_of_mem VP)
  have ep:putK fX kk v1=fX++[(kk,v1)]:=by unfold putK;rw[Zj];rfl
  have f4:Fr Ha H3 Ha (upd H3 p (.dK (putK fX kk v1))):=.put (kA hp)
  refine⟨p,_,rfl,Dc.k hv (by rw[<- h1,ia]at hl;exact hl),?_⟩
  have M4:=M3.put (k:=k) (p:=p) (o:=.dK (putK fX kk v1)) (m:=.jX (ks++[kk]) (ds++[d])) hp ⟨putK fX kk v1,vs++[v1],gp,by rw[ep,bS,h1];rfl,by rw[ep,bS,h2];rfl,
   (ha.mono f4).app ⟨v1,[],rfl,(i1.mono (f2.trans f3)).mono f4,rfl⟩⟩
  exact L.nx ρ _ Ha σ _ k3 ((f1.trans (f2.trans f3)).trans f4) (A.mono ((f1.trans (f2.trans f3)).trans f4)) M4
 |_=>exact k3.elim
end
def jD (L:Nat)(i j:Nat):Int:=if j<=i then 0 else(L:Int) - 1
def mJ (P:Nat->Nat->Int)(i j:Nat):au Int:=(List.range (j - (i+1))).map λx=>P i (i+1+x)+P (i+1+x) j+1
def iH (L:Nat)(es own:au Int)(P:Nat->Nat->Int)(i j:Nat):Int:=if es.getD j 0<=own.getD i 0 then 0 else(mJ P i j).foldl min ((L:Int) - 1)
def fZ (es:au Int)(ts:au Tk):Nat->Nat->Nat->Int
 |0=>jD es.length
 |a+1=>iH es.length es (jc es ts a) (fZ es ts a)
def lI {P:Nat->Nat->Int}{i j:Nat}{v:Int}:v∈mJ P i j↔∃ k,i<k/\k<j/\v=P i k+P k j+1:=by
 unfold mJ
 rw[List.mem_map]
 constructor
 .rintro⟨x,hx,rfl⟩
  rw[cf]at hx
  exact⟨i+1+x,by lia,by lia,rfl⟩
 .rintro⟨k,h1,h2,rfl⟩
  exact⟨k - (i+1),List.mem_range.mpr (by lia),by rw[show i+1+(k - (i+1))=k by lia]⟩
def HR {P P':Nat->Nat->Int}{L i j:Nat}(hi:i<L)(hj:j<L)(h:∀ a b,a<L->b<L->P a b=P' a b):mJ P i j=mJ P' i j:=by
 unfold mJ
 apply cm
 intro x hx
 rw[cf]at hx
 rw[h i _ hi (by lia),h _ j (by lia) hj]
def Hk {P P':Nat->Nat->Int}{L:Nat}{es own:au Int}{i j:Nat}(hi:i<L)(hj:j<L)(h:∀ a b,a<L->b<L->P a b=P' a b):iH L es own P i j=iH L es own P' i j:=by
 unfold iH;rw[HR hi hj h]
def CW (L:Nat)(T P:Nat->Nat->Int):Prop:=∀ i j,i<L->j<L->(j<=i->P i j=0)/\(i<j->(T i j=0/\P i j=(L:Int) - 1)\/(1<=T i j/\T i j<=((j - i:Nat):Int)/\P i j=T i j - 1))
def Hm {L:Nat}{es own:au Int}{T P:Nat->Nat->Int}(hs:∀ i j,i<L->j<=i->es.getD j 0<=own.getD i 0)(h:CW L T P):CW L (lD es own T) (iH L es own P):=by
 intro i j hi hj
 refine⟨λhji=>by unfold iH;rw[aF (hs i j hi hji)],λpV=>?_⟩
 unfold lD iH
 rw[aG (show ¬ j<=i by lia)]
 by_cases q:es.getD j 0<=own.getD i 0
 .rw[aF q,aF q];right;lia
 rw[aG q,aG q]
 obtain⟨a1,a2,a3⟩:=kr (mJ P i j) ((L:Int) - 1)
 generalize hm:(mJ P i j).foldl min ((L:Int) - 1)=m at a1 a2 a3 ⊢
 clear hm
 have kk:∀ k,i<k->k<j->(0<T i k*T k j/\1<=T i k/\1<=T k j/\T i k+T k j<=((j - i:Nat):Int)/\P i k+P k j+1=T i k+T k j - 1)\/(¬ 0<T i k*T k j/\(L:Int) - 1<P i k+P k j+1):=λk h1 h2=>by
  have x1:=(h i k hi (by lia)).2 h1
  have x2:=(h k j (by lia) hj).2 h2
  rcases x1 with⟨y1,y2⟩|⟨y1,y2,y3⟩
  .right;refine⟨by rw[y1,Int.zero_mul];lia,?_⟩
   rcases x2 with⟨z1,z2⟩|⟨z1,z2,z3⟩<;> lia
  .rcases x2 with⟨z1,z2⟩ | ⟨z1,z2,z3⟩
   .right;exact⟨by rw[z1,Int.mul_zero];lia,by lia⟩
   .left;exact⟨Int.mul_pos (by lia) (by lia),y1,z1,by lia,by lia⟩
 by_cases hn:pK T i j=[]
 .left
  rw[hn]
  refine⟨rfl,?_⟩
  rcases a1 with e|e
  .exact e
  .exfalso
   obtain⟨k,h1,h2,e⟩:=lI.mp e
   rcases kk k h1 h2 with⟨y,_⟩|⟨_,y⟩
   .have:=lK.mpr ⟨k,h1,h2,y,rfl⟩
    rw[hn]at this;cases this
   .lia
 .right
  obtain⟨b1,b2⟩:=qJ hn
  generalize Ci (pK T i j)=t at b1 b2 ⊢
  obtain⟨k,h1,h2,h3,e⟩:=lK.mp b1
  rcases kk k h1 h2 with⟨_,y1,y2,y3,y4⟩|⟨y,_⟩
  .have:=a3 _ (lI.mpr ⟨k,h1,h2,rfl⟩)
   refine⟨by lia,by lia,?_⟩
   rcases a1 with e'|e'
   .lia
   .obtain⟨k',g1,g2,e'⟩:=lI.mp e'
    rcases kk k' g1 g2 with⟨w0,w1,w2,w3,w4⟩|⟨_,w⟩
    .have:=b2 _ (lK.mpr ⟨k',g1,g2,w0,rfl⟩)
     lia
    .lia
  .exact absurd h3 y
def BK {es:au Int}{ts:au Tk}(hs:∀ a i j,i<es.length->j<=i->es.getD j 0<=(jc es ts a).getD i 0):∀ a,CW es.length (mO es ts a) (fZ es ts a)
 |0=>λi j hi hj=>⟨λh=>by show jD _ i j=0;unfold jD;rw[aF h],λh=>.inl ⟨rfl,by show jD _ i j=_;unfold jD;rw[aG (by lia)]⟩⟩
 |a+1=>Hm (hs a) (BK hs a)
def Kq {es:au Int}{ts:au Tk}{a:Int}(h:∀ t∈ts,t.2≠a):jc es ts a=jc es ts (a - 1):=by
 unfold jc
 apply cm
 intro e _
 rw[kM,kM]
 congr 2
 apply List.filter_congr
 intro t ht
 have:=h t ht
 exact decide_eq_decide.mpr ⟨λq=>by lia,λq=>by lia⟩
def Kt {es:au Int}{ts:au Tk}{a:Int}(h:∀ t∈ts,a<t.2):jc es ts a=es:=by
 unfold jc
 have:es.map (jU es ts a)=es.map id:=by
  apply cm
  intro e _
  rw[kM]
  have:(ts.filter λt=>decide (t.2<=a))=[]:=by
   rw[List.filter_eq_nil_iff]
   intro t ht
   have:=h t ht
   simp;lia
  rw[this];rfl
 rw[this,List.map_id]
def getD_some {xs:au Int}{i:Nat}(h:i<xs.length):xs[i]?=some (xs.getD i 0):=by rw[aC,iM h];rfl
def vB {es:au Int}(hu:es.Pairwise (·<·)){i j:Nat}(hi:i<es.length)(h:j<=i):es.getD j 0<=es.getD i 0:=oA hu j i _ _ h (getD_some (by lia)) (getD_some hi)
def Ks {es:au Int}{ts:au Tk}{a:Int}(hu:es.Pairwise (·<·))(i j:Nat)(hi:i<es.length)(h:j<=i):es.getD j 0<=(jc es ts a).getD i 0:=by
 have e:=ma (ts:=ts) (a:=a) (getD_some hi)
 rw[aC (l:=jc es ts a),e]
 have:=nU es ts a (es.getD i 0)
 have:=vB hu hi h
 show _<=jU es ts a (es.getD i 0)
 lia
def Mq {es:au Int}(hu:es.Pairwise (·<·)){i j:Nat}(hi:i<es.length)(hj:j<es.length):iH es.length es es (jD es.length) i j=jD es.length i j:=by
 unfold iH
 by_cases q:j<=i
 .rw[aF (vB hu hi q)];unfold jD;rw[aF q]
 .have pV:i<j:=by lia
  have:=List.pairwise_iff_getElem.mp hu i j hi hj pV
  rw[aG (by
   have e1:=getD_some hi
   have e2:=getD_some hj
   rw[iM hi]at e1
   rw[iM hj]at e2
   rw[<- aK e1,<- aK e2];lia)]
  obtain⟨a1,a2,a3⟩:=kr (mJ (jD es.length) i j) ((es.length:Int) - 1)
  have eb:jD es.length i j=(es.length:Int) - 1:=by unfold jD;rw[aG q]
  rw[eb]
  rcases a1 with e|e
  .exact e
  .exfalso
   obtain⟨k,h1,h2,e⟩:=lI.mp e
   have b1:jD es.length i k=(es.length:Int) - 1:=by unfold jD;rw[aG (by lia)]
   have b2:jD es.length k j=(es.length:Int) - 1:=by unfold jD;rw[aG (by lia)]
   lia
def Jy {L:Nat}{T T':Nat->Nat->Int}(h:∀ i j,i<L->j<L->T i j=T' i j):kG L T=kG L T':=by
 unfold kG
 apply cm
 intro i hi
 rw[JR λj hj=>h i j (List.mem_range.mp hi) hj]
def xx:∀ {xs ys:au D} {i:Nat} {x y:D},nq xs ys=true->xs[i]?=some x->ys[i]?=some y->mX x y=true
 |[],_,i,_,_,_,h1,_=>by simp at h1
 |_::_,[],i,_,_,_,_,h2=>by simp at h2
 | x::xs,y::ys,0,_,_,h,h1,h2=>by
  unfold nq at h;rw[bW]at h
  simp at h1 h2;subst h1;subst h2;exact h.1
 | x::xs,y::ys,i+1,_,_,h,h1,h2=>by
  unfold nq at h;rw[bW]at h
  exact xx h.2 (by simpa using h1) (by simpa using h2)
def OS {L:Nat}{S T:Nat->Nat->Int}(h:mX (.lst (kG L S)) (.lst (kG L T))=true):∀ i j,i<L->j<L->S i j=T i j:=λi j hi hj=>by
 unfold mX at h
 have h1:=xx h (p6 hi) (p6 hi)
 unfold mX at h1
 have h2:=xx h1 (ng hj) (ng hj)
 unfold mX at h2
 exact eq_of_beq h2
def Ly {es:au Int}{ts:au Tk}{k:Nat}(hf:∀ i j,i<es.length->j<es.length->iH es.length es (jc es ts ((k:Int) - 1)) (fZ es ts k) i j=fZ es ts k i j)(hn:∀ t∈ts,t.2≠(k:Int))(i j:Nat)(hi:i<es.length)(hj:j<es.length):fZ es ts (k+1) i j=fZ es ts k i j:=by
 show iH es.length es (jc es ts k) (fZ es ts k) i j=_
 rw[Kq hn];exact hf i j hi hj
def Cy {es:au Int}{ts:au Tk}{k:Nat}(h:∀ i j,i<es.length->j<es.length->fZ es ts (k+1) i j=fZ es ts k i j)(i j:Nat)(hi:i<es.length)(hj:j<es.length):iH es.length es (jc es ts (((k+1:Nat):Int) - 1)) (fZ es ts (k+1)) i j=fZ es ts (k+1) i j:=by
 rw[show((k+1:Nat):Int) - 1=(k:Int) by lia,Hk (P':=fZ es ts k) hi hj h];rfl
def Ik {n:Int}{cs:au Int}{ts:au Tk}(S:gM n cs ts)(i j:Nat)(hi:i<(fI n cs).length)(hj:j<(fI n cs).length):iH (fI n cs).length (fI n cs) (jc (fI n cs) ts (((0:Nat):Int) - 1)) (fZ (fI n cs) ts 0) i j=fZ (fI n cs) ts 0 i j:=by
 rw[Kt λt ht=>by have:=(S.takes.ok t ht).2.2.1;lia]
 exact Mq (ib S.n1 S.iK) hi hj
def CH {L i j:Nat}{f:Nat->Int}(hj:j<=L):cutD (jR L f) (some ((i:Int)+1)) (some (j:Int))=(List.range (j - (i+1))).map λx=>D.int (f (i+1+x)):=by
 unfold cutD
 rw[sH,show HT.oh L 0 (some ((i:Int)+1))=min (i+1) L from HT.lF L 0 (i+1),HT.lF,cb hj]
 rcases cz (i+1) j with q|q
 .rw[cb (aV (eZ q) hj)]
  apply cJ
  intro x
  rw[List.getElem?_take,nF]
  by_cases hx:x<j - (i+1)
  .rw[aF hx,cU,ba hx,ng (by lia)];rfl
  .rw[aG hx,List.getElem?_eq_none_iff.mpr (by rw[pW];exact Nat.not_lt.mp hx)];rfl
 .rw[Nat.sub_eq_zero_of_le q,Nat.sub_eq_zero_of_le (Nat.le_min.mpr ⟨q,hj⟩)];rfl
def Ji {L:Nat}{P:Nat->Nat->Int}{i j:Nat}:List.zipWith (λa b:Int=>a+b+1) ((List.range (j - (i+1))).map λx=>P i (i+1+x)) ((List.range (j - (i+1))).map λx=>P (i+1+x) j)=mJ P i j:=by
 unfold mJ
 rw[dP]
 generalize List.range (j - (i+1))=xs
 induction xs with
 |nil=>rfl
 |cons x xs ih=>rw[bE,ih];rfl
def yV {ds:au D}{L:Nat}(g:Nat->D)(hl:ds.length=L)(h:∀ i,i<L->ds[i]?=some (g i)):nX ds=(List.range L).map λi=>D.tup [.int (i:Nat),g i]:=by
 unfold nX
 apply cJ
 intro i
 rw[bT,nF,hl]
 by_cases hi:i<L
 .rw[ba hi,h i hi];rfl
 .rw[List.getElem?_eq_none_iff.mpr (by rw[pW];lia)];rfl
def OP {es:au Int}:nX (es.map D.int)=(List.range es.length).map λj=>D.tup [.int (j:Nat),.int (es.getD j 0)] :=
 yV _ (ia ..) λi hi=>by rw[nF,getD_some hi];rfl
def LL {L:Nat}{P:Nat->Nat->Int}{own:au Int}(hl:own.length=L):nX (List.zipWith (λa b=>D.tup [a,b]) (kG L P) (own.map D.int))=(List.range L).map λi=>D.tup [.int (i:Nat),.tup [.lst (jR L (P i)),.int (own.getD i 0)]] :=
 yV (λi=>.tup [.lst (jR L (P i)),.int (own.getD i 0)]) (by rw[bG,mY,ia];lia) λi hi=>by rw[bT,p6 hi,nF,getD_some (by lia)];rfl
def Hh {L k:Nat}{T:Nat->Nat->Int}:((List.range (k+1)).map λi=>D.lst (jR L (T i)))=((List.range k).map λi=>D.lst (jR L (T i)))++[.lst (jR L (T k))]:=by rw[eB,bS];rfl
def Oh {n:Nat}(L k:Nat)(f:Nat->Nat->Int):tX n ((List.range k).map λi=>D.lst (jR L (f i))):=xb λd hd=>by obtain⟨i,_,rfl⟩:=List.mem_map.mp hd;exact FJ L _
def Jj {ls rs:au Int}:List.zipWith (λa b=>D.tup [a,b]) (ls.map D.int) (rs.map D.int)=(ls.zip rs).map λp=>D.tup [.int p.1,.int p.2]:=by
 rw[dP,List.zip,List.map_zipWith]
def Jf {ls rs:au Int}:(ls.zip rs).map (λp=>D.int (p.1+p.2+1))=(List.zipWith (λa b=>a+b+1) ls rs).map D.int:=by
 rw[List.zip,List.map_zipWith,List.map_zipWith]
def Vh {i j k:Nat}{ρ:DE}{μ:MS}{K:Bool->MS->Prop}(ch:Bool)(now:Int)(Pg:au Int)(h8:ρ[i]?=some (some (.bl ch)))(h10:ρ[j]?=some (some (.int now)))(h6:ρ[k]?=some (some (.lst (Pg.map D.int))))(h:∀ c,(c=false->ch=false/\now∉Pg)->K c μ):LR (pv (vq i)) (pv (wm (dIn false) (vq j) (vq k))) ρ μ K:=by
 unfold LR pv wm vq
 rw[h8,h10,h6]
 show if ch=true then K true μ else _
 by_cases q:ch=true
 .rw[aF q];exact h true λz=>by cases z
 .rw[aG q]
  refine⟨rfl,by rw[List.all_map];exact List.all_eq_true.mpr λx _=>rfl,?_⟩
  refine h _ λz=>⟨by cases ch with|true=>exact absurd rfl q|false=>rfl,λhm=>?_⟩
  have z2:((Pg.map D.int).any λd=>mX d (.int now))=false:=by cases q2:((Pg.map D.int).any λd=>mX d (.int now))with|true=>rw[q2]at z;exact absurd z (by decide)|false=>rfl
  rw[fc]at z2
  exact z2 _ (List.mem_map_of_mem hm) (by unfold mX;exact beq_self_eq_true now)
def vV:jP:=λds μ K=>match ds with
 |[.lst b]=>b.length<=2000/\K (.int ((b.length:Int) - 1)) μ
 |_=>False
def AH:jP:=λds μ K=>match ds with
 |[.lst b]=>b.length<=2000/\K (.lst (kG b.length (jD b.length))) μ
 |_=>False
def tH:jP:=λds μ K=>match ds with
 |[.lst l,.lst r,.int m]=>∃ ls rs:au Int,l=ls.map D.int/\r=rs.map D.int/\ls.length<=2000/\rs.length<=2000/\K (.int ((List.zipWith (λa b=>a+b+1) ls rs).foldl min m)) μ
 |_=>False
def tG:jP:=λds μ K=>match ds with
 |[.lst b,.lst c,.lst l]=>∃(es own:au Int) (P:Nat->Nat->Int),b=es.map D.int/\c=own.map D.int/\own.length=es.length/\es.length<=2000/\l=kG es.length P/\K (.lst (kG es.length (iH es.length es own P))) μ
 |_=>False
def nJ (es:au Int)(ts:au Tk)(k:Nat):au D:=(List.range k).map λa=>D.lst (kG es.length (fZ es ts (a+1)))
def mI (k:Nat):au Key:=(List.range k).map λa=>(Sum.inl ((a:Nat):Int):Key)
def tI:jP:=λds μ K=>match ds with
 |[.int n,.lst x,.lst y,.int a]=>∃(cs:au Int) (ts:au Tk),x=cs.map D.int/\y=ts.map ny/\gM n cs ts/\0<=a/\a<=1000/\K (.jX (mI (a.toNat+1)) (nJ (fI n cs) ts (a.toNat+1))) μ
 |_=>False
def Th (m:Int)(L:Nat):D:=if m<=(L:Int)then .int m else .ic
def vY:jP:=λds μ K=>match ds with
 |[.int n,.lst x,.lst y,.int a]=>∃(cs:au Int) (ts:au Tk),x=cs.map D.int/\y=ts.map ny/\gM n cs ts/\0<=a/\a<=1000/\K (Th (fZ (fI n cs) ts (a.toNat+1) 0 (cs.length+1)) cs.length) μ
 |_=>False
def K5 (k:Nat):(Sum.inl ((k:Nat):Int):Key)∉mI k:=λh=>by
 obtain⟨a,ha,e⟩:=List.mem_map.mp h
 rw[cf]at ha
 have:=Sum.inl.inj e
 lia
def Eg (k:Nat):mI (k+1)=mI k++[Sum.inl ((k:Nat):Int)]:=by unfold mI;rw[eB,bS];rfl
def Dx (es:au Int)(ts:au Tk)(k:Nat):nJ es ts (k+1)=nJ es ts k++[.lst (kG es.length (fZ es ts (k+1)))]:=by unfold nJ;rw[eB,bS];rfl
def wj:∀ {xs:au Nat} {k:Nat} (g:Nat->D),k∈xs->uH ((xs.map λa=>(Sum.inl ((a:Nat):Int):Key)).zip (xs.map g)) (.inl (k:Int))=some (g k)
 | x::xs,k,g,h=>by
  rw[aB,aB,cQ]
  unfold uH
  rw[cj]
  by_cases e:x=k
  .subst e;simp
  .have:¬ (Sum.inl ((x:Nat):Int):Key)=Sum.inl ((k:Nat):Int):=λz=>e (by have:=Sum.inl.inj z;lia)
   simp only[this,decide_false]
   exact wj g (by rcases List.mem_cons.mp h with q|q;exact absurd q.symm e;exact q)
structure Q1 (es:List Int)(F:Int->Int):Prop where
 mem:∀ e∈es,F e∈es
 ge:∀ e,e<=F e
 mono:∀ a∈es,∀ b∈es,a<=b->F a<=F b
def wX {n:Int}{cs:au Int}{ts:au Tk}(S:gM n cs ts)(a:Int):Q1 (fI n cs) (jU (fI n cs) ts a):=by
 refine⟨λe he=>wZ he,λe=>nU _ _ _ _,λa' ha b hb IV=>?_⟩
 obtain⟨i,hi,e1⟩:=aM ha
 obtain⟨j,hj,e2⟩:=aM hb
 have g1:(fI n cs)[i]?=some a':=by rw[iM hi,e1]
 have g2:(fI n cs)[j]?=some b:=by rw[iM hj,e2]
 exact uz S i j _ _ (uT (ib S.n1 S.iK) g1 g2 IV) (ma g1) (ma g2)
def SE {es:au Int}(hu:es.Pairwise (·<·)){x:Int}(hx:x∈es)(g:Int->Int):rowAt es (es.map g) x=g x:=by
 unfold rowAt
 rw[nF,mQ hx];rfl
def KN {es:au Int}{ts:au Tk}{a:Int}(hu:es.Pairwise (·<·)){g:Int->Int}(hg:∀ e∈es,g e∈es):nh es ts (es.map g) a=es.map λe=>max (jU es ts a e) (g (g e)):=by
 apply cJ
 intro i
 by_cases hi:i<es.length
 .have he:es[i]?=some es[i]:=iM hi
  have hm:=bR hi
  rw[o5 (ma he) (by rw[nF,he];rfl:(es.map g)[i]?=some (g es[i])),nF,he,SE hu (hg _ hm)]
  rfl
 .rw[List.getElem?_eq_none_iff.mpr (by rw[(FH (⟨ia ..,λx hx=>by obtain⟨e,he,rfl⟩:=List.mem_map.mp hx;exact hg e he⟩:nv es (es.map g))).len];lia),List.getElem?_eq_none_iff.mpr (by rw[ia];lia)]
def O1 {l:au Nat}{a b:Int}{c:Nat}(ha:0<=a)(hb:0<=b)(h:c∈mE l a b):∃ k:Nat,a<=k/\(k:Int)<b/\l[k]?=some c:=by
 obtain⟨i,rfl⟩:=cG ha
 obtain⟨j,rfl⟩:=cG hb
 rw[xE]at h
 obtain⟨t,ht,e⟩:=aM h
 have g:((l.drop i).take (j - i))[t]?=some c:=by rw[iM ht,e]
 have ht:t<j - i:=aP ht (List.length_take_le ..)
 rw[bM ht,cU]at g
 exact⟨i+t,Int.ofNat_le.mpr (aT _ _),by lia,g⟩
def MP (l1 l2:au Nat)(p:Int):au Nat:=l1.take p.toNat++l2.drop p.toNat
def A7 (cs:au Int)(ts:au Tk):Nat->au Nat->Int->Prop
 |0,l,a=>(l,a)∈ts
 |r+1,l,a=>A7 cs ts r l a\/∃ l1 a1 l2 a2 p,A7 cs ts r l1 a1/\A7 cs ts r l2 a2/\p∈cs/\l=MP l1 l2 p/\a=max a1 a2+1
def A7.up {cs:au Int}{ts:au Tk}{l:au Nat}{a:Int}{r:Nat}(h:A7 cs ts r l a):∀ k,A7 cs ts (r+k) l a
 |0=>h
 |k+1=>.inl (A7.up h k)
def A7.le {cs:au Int}{ts:au Tk}{l:au Nat}{a:Int}{r r':Nat}(h:A7 cs ts r l a)(hr:r<=r'):A7 cs ts r' l a:=by
 have:=h.up (r' - r);rwa [show r+(r' - r)=r' by lia]at this
def sV {l1 l2:au Nat}{p:Int}{k:Nat}(h:p<=l1.length)(hk:(k:Int)<p):(MP l1 l2 p)[k]?=l1[k]?:=by
 unfold MP
 rw[t6 (by rw[bz];lia),List.getElem?_take,aF (by lia)]
def ql {l1 l2:au Nat}{p:Int}{k:Nat}(h0:0<=p)(h:p<=l1.length)(hk:p<=(k:Int)):(MP l1 l2 p)[k]?=l2[k]?:=by
 unfold MP
 rw[rF (by rw[bz];lia),bz,cU]
 congr 1;lia
def Ox {l1 l2:au Nat}{p:Int}(h0:0<=p)(h1:p<=l1.length)(h:l1.length=l2.length):(MP l1 l2 p).length=l1.length:=by
 unfold MP
 rw[l5,bz,bO];lia
def So {l1 l2:au Nat}{p:Int}(h1:OX l1)(h2:OX l2):OX (MP l1 l2 p):=λc hc=>by
 rcases List.mem_append.mp hc with q|q
 .exact h1 c (bj q)
 .exact h2 c (fF q)
def A7.good {n:Int}{cs:au Int}{ts:au Tk}(S:gM n cs ts):∀ {r:Nat} {l:au Nat} {a:Int},A7 cs ts r l a->(l.length:Int)=n/\OX l/\0<=a/\a<=60+r
 |0,l,a,h=>by have:=S.takes.ok (l,a) h;exact⟨this.1,this.2.1,this.2.2.1,by have:=this.2.2.2;simp at this ⊢;lia⟩
 | r+1,l,a,h=>by
  rcases h with h|⟨l1,a1,l2,a2,p,h1,h2,hp,rfl,rfl⟩
  .have:=A7.good S h;exact⟨this.1,this.2.1,this.2.2.1,by lia⟩
  .have g1:=A7.good S h1
   have g2:=A7.good S h2
   have Ib:=S.iK.Qw p hp
   exact⟨by rw[Ox (by lia) (by lia) (by lia)];exact g1.1,So g1.2.1 g2.2.1,by lia,by lia⟩
def Pp (l:au Nat)(e x:Int):Prop:=∀ k:Nat,e<=k->(k:Int)<x->l[k]?=some 111
def Gh {es:au Int}{l:au Nat}{e x:Int}(ho:OX l)(h0:0<=e)(he:e<=l.length)(hx:x<=jd es l e):Pp l e x:=λk h1 h2=>by
 have ct:=sj ho (e:=e.toNat) (by lia)
 have:jd es l e<=max e (sk l e.toNat:Int):=by
  unfold jd
  rcases kL (es.filter λx=>decide (x<=(sk l e.toNat:Int))) e with q|q
  .rw[q];lia
  .have:=cn (List.mem_filter.mp q).2;lia
 have c1:=ct.1
 exact ct.2.2.1 k (by lia) (by lia)
def AR {es:au Int}{l:au Nat}{e x:Int}(ho:OX l)(h0:0<=e)(hex:e<=x)(hx:x<=l.length)(hm:x∈es)(h:Pp l e x):x<=jd es l e:=by
 refine zf ho h0 hx hex hm λz=>?_
 obtain⟨k,k1,k2,k3⟩:=O1 h0 (by lia) z
 rw[h k k1 k2]at k3
 cases k3
def RF (es:au Int)(ts:au Tk):Nat->Int->Int
 |0=>jU es ts 0
 |a+1=>λe=>max (jU es ts ((a:Int)+1) e) (RF es ts a (RF es ts a e))
def mn {n:Int}{cs:au Int}{ts:au Tk}(S:gM n cs ts):∀ a,Q1 (fI n cs) (RF (fI n cs) ts a)
 |0=>wX S 0
 | a+1=>by
  have h:=mn S a
  have g:=wX S ((a:Int)+1)
  refine⟨λe he=>max_mem (g.mem e he) (h.mem _ (h.mem e he)),λe=>?_,λx hx y hy Y4=>?_⟩
  .have:=g.ge e
   show e<=max _ _
   lia
  .have g1:=g.mono x hx y hy Y4
   have g2:=h.mono _ (h.mem x hx) _ (h.mem y hy) (h.mono x hx y hy Y4)
   show max _ _<=max _ _
   lia
def Fo {n:Int}{cs:au Int}{ts:au Tk}(S:gM n cs ts):∀ a,gR (fI n cs) ts a=(fI n cs).map (RF (fI n cs) ts a)
 |0=>rfl
 | a+1=>by
  show nh (fI n cs) ts (gR (fI n cs) ts a) _=_
  rw[Fo S a,KN (ib S.n1 S.iK) (mn S a).mem]
  rfl
def WY {n:Int}{cs:au Int}{ts:au Tk}(S:gM n cs ts)(a:Nat)(e:Int):RF (fI n cs) ts a e<=RF (fI n cs) ts (a+1) e:=by
 have:=(mn S a).ge (RF (fI n cs) ts a e)
 show _<=max _ _
 lia
def TU {n:Int}{cs:au Int}{ts:au Tk}(a:Nat)(e:Int):jU (fI n cs) ts a e<=RF (fI n cs) ts a e:=by
 cases a with
 |zero=>exact bq _
 |succ a=>show jU (fI n cs) ts (((a+1:Nat):Int)) e<=max (jU (fI n cs) ts ((a:Int)+1) e) _;rw[show((a+1:Nat):Int)=(a:Int)+1 by lia];lia
def sR {n:Int}{cs:au Int}{ts:au Tk}(S:gM n cs ts):∀ {r:Nat} {l:au Nat} {b:Int} {a:Nat},A7 cs ts r l b->b<=a->∀ e x,e∈fI n cs->x∈fI n cs->e<=x->Pp l e x->x<=RF (fI n cs) ts a e
 | 0,l,b,a,h,hb,e,x,he,hx,hex,hc=>by
  have ok:=S.takes.ok (l,b) h
  have QB:=ig S.n1 S.iK he
  have hx2:=ig S.n1 S.iK hx
  have g1:=AR ok.2.1 QB.1 hex (by have:=ok.1;simp at this;lia) hx hc
  have g2:=nR (es:=fI n cs) (e:=e) h (show(l,b).2<=(a:Int)from hb)
  have g3:=TU (n:=n) (cs:=cs) (ts:=ts) a e
  exact bB g1 (bB g2 g3)
 | r+1,l,b,a,h,hb,e,x,he,hx,hex,hc=>by
  rcases h with h|⟨l1,a1,l2,a2,p,h1,h2,hp,rfl,rfl⟩
  .exact sR S h hb e x he hx hex hc
  .have g1:=A7.good S h1
   have g2:=A7.good S h2
   have Ib:=S.iK.Qw p hp
   cases a with
   |zero=>lia
   | succ a =>
    have hs:=mn S a
    have pm:p∈fI n cs:=by unfold fI;simp[hp]
    have up:=WY S a e
    have i1:=sR S (a:=a) h1 (by lia)
    have i2:=sR S (a:=a) h2 (by lia)
    by_cases q1:x<=p
    .have:=i1 e x he hx hex λk k1 k2=>by rw[<- sV (l2:=l2) (p:=p) (by lia) (by lia)];exact hc k k1 k2
     lia
    .by_cases q2:p<=e
     .have:=i2 e x he hx hex λk k1 k2=>by rw[<- ql (l1:=l1) (p:=p) (by lia) (by lia) (by lia)];exact hc k k1 k2
      lia
     .have j1:=i1 e p he pm (by lia) λk k1 k2=>by rw[<- sV (l2:=l2) (p:=p) (by lia) (by lia)];exact hc k k1 (by lia)
      have j2:=i2 p x pm hx (by lia) λk k1 k2=>by rw[<- ql (l1:=l1) (p:=p) (by lia) (by lia) (by lia)];exact hc k (by lia) k2
      have j3:=hs.mono p pm _ (hs.mem e he) j1
      show x<=max _ _
      lia
def O3 {l:au Nat}{n:Int}(hl:(l.length:Int)=n)(h:Pp l 0 n):l=List.replicate n.toNat 111:=by
 apply cJ
 intro k
 by_cases q:k<l.length
 .rw[h k (by lia) (by lia),c3,aF (by lia)]
 .rw[List.getElem?_eq_none_iff.mpr (by lia),List.getElem?_eq_none_iff.mpr (by rw[aZ];lia)]
def Pd (n e x:Int)(h:x<=n)(h0:0<=e):Pp (List.replicate n.toNat 111) e x:=λk k1 k2=>by
 rw[c3,aF (by lia)]
def AJ (n:Int)(cs:au Int):(fI n cs)[0]?=some 0:=rfl
def jS {es:au Int}{ts:au Tk}{a:Int}{i:Nat}{e:Int}(h:es[i]?=some e):(jc es ts a).getD i 0=jU es ts a e:=by rw[aC,ma h];rfl
def getD_at {es:au Int}{i:Nat}{e:Int}(h:es[i]?=some e):es.getD i 0=e:=by rw[aC,h];rfl
def r8 (n:Int)(cs:au Int):(fI n cs)[cs.length+1]?=some n:=by
 have:=yZ n cs
 rwa [gw]at this
def by_c {α G:Prop}(h:(Unit->G)->α)(r:G):α:=h λ_=>r
def N1 {es:au Int}{ts:au Tk}{a a' e:Int}(h:a<=a'):jU es ts a e<=jU es ts a' e:=by
 rw[kM es ts a]
 rcases kL ((ts.filter λt=>decide (t.2<=a)).map λt=>jd es t.1 e) e with q|q
 .rw[q];exact nU _ _ _ _
 .obtain⟨t,ht,et⟩:=List.mem_map.mp q
  obtain⟨t1,t2⟩:=List.mem_filter.mp ht
  rw[<- et]
  exact nR t1 (bB (cn t2) h)
end L2
namespace L2
open PySem PySem.Spec PyProof.Rows PySem.SeqAt
end L2
namespace L2
open PySem PySem.Spec PyProof.Rows
def EW (ts xS:au Tk):Prop:=∀ t∈ts,∃ t'∈xS,t'.2=t.2/\∀ k:Nat,t.1[k]?=some 111->t'.1[k]?=some 111
def EW.refl (ts:au Tk):EW ts ts:=λt ht=>⟨t,ht,rfl,λ_ h=>h⟩
structure More (n:Int)(cs:List Int)(ts:List Tk)(rj:List Int)(xS:List Tk):Prop where
 S:gM n cs ts
 S':gM n rj xS
 sub:∀ c∈cs,c∈rj
 good:EW ts xS
def More.refl {n:Int}{cs:au Int}{ts:au Tk}(S:gM n cs ts):More n cs ts cs ts:=⟨S,S,λ_ h=>h,.refl ts⟩
def More.ends {n:Int}{cs rj:au Int}{ts xS:au Tk}(h:More n cs ts rj xS){e:Int}(he:e∈fI n cs):e∈fI n rj:=by
 unfold fI at he ⊢
 rw[dR]at he ⊢
 rcases List.mem_cons.mp he with q|q
 .exact List.mem_cons.mpr (.inl q)
 .rcases List.mem_append.mp q with q | q
  .exact nE _ (List.mem_append.mpr (.inl (h.sub e q)))
  .exact nE _ (List.mem_append.mpr (.inr q))
def More.own {n:Int}{cs rj:au Int}{ts xS:au Tk}(h:More n cs ts rj xS){a a' e:Int}(ha:a<=a')(he:e∈fI n cs):jU (fI n cs) ts a e<=jU (fI n rj) xS a' e:=by
 rw[kM (fI n cs)]
 rcases kL ((ts.filter λt=>decide (t.2<=a)).map λt=>jd (fI n cs) t.1 e) e with q|q
 .rw[q];exact nU _ _ _ _
 .obtain⟨t,ht,et⟩:=List.mem_map.mp q
  obtain⟨t1,t2⟩:=List.mem_filter.mp ht
  rw[<- et]
  obtain⟨t',m',e2,hc⟩:=h.good t t1
  have ok:=h.S.takes.ok t t1
  have ok':=h.S'.takes.ok t' m'
  have QB:=ig h.S.n1 h.S.iK he
  have fm:=xr (l:=t.1) he
  have f2:=(ig h.S.n1 h.S.iK fm).2
  have hl:=ok.1
  have oJ:=ok'.1
  have c:=Gh (es:=fI n cs) ok.2.1 QB.1 (by lia) (bq _)
  exact bB (AR ok'.2.1 QB.1 (Gi _ _ _) (by lia) (h.ends fm) λk k1 k2=>hc k (c k k1 k2)) (nR m' (by rw[e2];exact bB (cn t2) ha))
def More.rf {n:Int}{cs rj:au Int}{ts xS:au Tk}(h:More n cs ts rj xS):∀(a:Nat) {e:Int},e∈fI n cs->RF (fI n cs) ts a e<=RF (fI n rj) xS a e
 |0,e,he=>h.own (bq _) he
 | a+1,e,he=>by
  have g:=mn h.S a
  have g':=mn h.S' a
  have i1:=h.rf a he
  have i2:=h.rf a (g.mem e he)
  have i3:=g'.mono _ (h.ends (g.mem e he)) _ (g'.mem e (h.ends he)) i1
  have i4:=h.own (a:=(a:Int)+1) (bq _) he
  show max _ _<=max _ _
  lia
def Qb {n:Int}{cs:au Int}{ts:au Tk}(S:gM n cs ts)(a:Nat){i:Nat}{e:Int}(he:(fI n cs)[i]?=some e):(gR (fI n cs) ts a)[i]?=some (RF (fI n cs) ts a e):=by rw[Fo S,nF,he];rfl
def More.least {n:Int}{cs rj:au Int}{ts xS:au Tk}(h:More n cs ts rj xS){a:Nat}(hl:iT (fI n cs) ts n a):RF (fI n rj) xS a 0=n:=by
 have e:=hl.at_
 rw[Qb h.S a (AJ n cs)]at e
 have e:=aK e
 have:=h.rf a (qQ n cs)
 have:=(ig h.S'.n1 h.S'.iK ((mn h.S' a).mem 0 (qQ n rj))).2
 lia
def least_le {n:Int}{cs:au Int}{ts:au Tk}(S:gM n cs ts){a b:Nat}(h:RF (fI n cs) ts a 0=n)(hl:iT (fI n cs) ts n b):b<=a:=by
 by_cases q:b<=a
 .exact q
 .exact absurd (by rw[Qb S a (AJ n cs),h]) (hl.low a (by lia))
def Cd {x y:Int}(hx:0<=x)(hy:0<=y)(h:0<x*y):0<x/\0<y:=by
 refine⟨?_,?_⟩
 .rcases Int.lt_or_le 0 x with q | q
  .exact q
  .rw[show x=0 by lia,Int.zero_mul]at h;exact absurd h (by decide)
 .rcases Int.lt_or_le 0 y with q | q
  .exact q
  .rw[show y=0 by lia,Int.mul_zero]at h;exact absurd h (by decide)
def yG {es own:au Int}{T:Nat->Nat->Int}{i j:Nat}{v:Int}(hT:∀ i j,0<=T i j)(pV:i<j)(hv:v∈pK T i j):0<lD es own T i j/\lD es own T i j<=v:=by
 have pos:∀ w∈pK T i j,2<=w:=λw hw=>by
  obtain⟨k,_,_,h3,rfl⟩:=lK.mp hw
  have:=Cd (hT i k) (hT k j) h3
  lia
 have v2:=pos v hv
 have m:=qJ (ns:=pK T i j) λz=>by rw[z]at hv;cases hv
 have m1:=pos _ m.1
 have m2:=m.2 v hv
 unfold lD
 rw[aG (by lia)]
 by_cases q:es.getD j 0<=own.getD i 0
 .rw[aF q];lia
 .rw[aG q];lia
def More.tab {n:Int}{cs rj:au Int}{ts xS:au Tk}(h:More n cs ts rj xS):∀(a a':Nat),a<=a'->∀(i j i' j':Nat) (x y:Int),(fI n cs)[i]?=some x->(fI n cs)[j]?=some y->(fI n rj)[i']?=some x->(fI n rj)[j']?=some y ->
 0<mO (fI n cs) ts a i j->0<mO (fI n rj) xS a' i' j'/\mO (fI n rj) xS a' i' j'<=mO (fI n cs) ts a i j
 |0,_,_,i,j,i',j',x,y,_,_,_,_,hp=>absurd hp (Int.lt_irrefl _)
 |a+1,0,ha,_,_,_,_,_,_,_,_,_,_,_=>absurd ha (by lia)
 | a+1,a'+1,ha,i,j,i',j',x,y,hi,hj,FT,xT,hp=>by
  have up:=ib h.S.n1 h.S.iK
  have X7:=ib h.S'.n1 h.S'.iK
  by_cases pV:j<=i
  .exact absurd (show 0<lD _ _ _ i j from hp) (by unfold lD;rw[aF pV];decide)
  have xy:=ky up hi hj (by lia)
  have Zu:i'<j':=by
   by_cases q:i'<j'
   .exact q
   .have:=oA X7 j' i' _ _ (by lia) xT FT;lia
  have bd:=zI (fI n cs) ts a
  have bd':=zI (fI n rj) xS a'
  by_cases q:y<=jU (fI n cs) ts a x
  .have q':=bB q (h.own (a':=(a':Int)) (by lia) (kA hi))
   have e':mO (fI n rj) xS (a'+1) i' j'=1:=by
    show lD _ _ _ i' j'=1
    unfold lD
    rw[aG (by lia),aF (by rw[getD_at xT,jS FT];exact q')]
   rw[e']
   exact⟨by decide,hp⟩
  .have e:mO (fI n cs) ts (a+1) i j=Ci (pK (mO (fI n cs) ts a) i j):=by
    show lD _ _ _ i j=_
    unfold lD
    rw[aG pV,aG (by rw[getD_at hj,jS hi];exact q)]
   rw[e]at hp ⊢
   have m:=qJ (ns:=pK (mO (fI n cs) ts a) i j) λz=>by rw[z]at hp;exact absurd hp (by decide)
   obtain⟨k,k1,k2,k3,ek⟩:=lK.mp m.1
   rw[ek]
   have kp:=Cd (bd i k).1 (bd k j).1 k3
   have hk:(fI n cs)[k]?=some ((fI n cs).getD k 0):=getD_some (du k2 (ka hj).1)
   have mk:=h.ends (kA hk)
   have Bp:=mQ mk
   have r1:=h.tab a a' (by lia) i k i' _ _ _ hi hk FT Bp kp.1
   have r2:=h.tab a a' (by lia) k j _ j' _ _ hk hj Bp xT kp.2
   have w1:=ky up hi hk k1
   have w2:=ky up hk hj k2
   have c1:i'<(fI n rj).idxOf ((fI n cs).getD k 0):=by
    by_cases q:i'<(fI n rj).idxOf ((fI n cs).getD k 0)
    .exact q
    .have:=oA X7 _ i' _ _ (by lia) Bp FT;lia
   have c2:(fI n rj).idxOf ((fI n cs).getD k 0)<j':=by
    by_cases q:(fI n rj).idxOf ((fI n cs).getD k 0)<j'
    .exact q
    .have:=oA X7 j' _ _ _ (by lia) xT Bp;lia
   have st:=yG (es:=fI n rj) (own:=jc (fI n rj) xS a') (λi j=>(bd' i j).1) Zu (lK.mpr ⟨_,c1,c2,Int.mul_pos r1.1 r2.1,rfl⟩)
   exact⟨st.1,bB st.2 (Int.add_le_add r1.2 r2.2)⟩
def Hg {n:Int}{cs:au Int}{ts:au Tk}(S:gM n cs ts):∀(a i j:Nat) (x y:Int),(fI n cs)[i]?=some x->(fI n cs)[j]?=some y->i<j->y<=RF (fI n cs) ts a x->0<mO (fI n cs) ts (a+1) i j:=by
 have own:∀(a i j:Nat) (x y:Int),(fI n cs)[i]?=some x->(fI n cs)[j]?=some y->i<j->y<=jU (fI n cs) ts a x->0<mO (fI n cs) ts (a+1) i j:=λa i j x y hi hj pV hy=>by
  show 0<lD _ _ _ i j
  unfold lD
  rw[aG (by lia),aF (by rw[getD_at hj,jS hi];exact hy)]
  decide
 intro a
 induction a with
 |zero=>exact own 0
 | succ a ih =>
  intro i j x y hi hj pV hy
  by_cases q:y<=jU (fI n cs) ts ((a+1:Nat):Int) x
  .exact own (a+1) i j x y hi hj pV q
  have hy:y<=max (jU (fI n cs) ts ((a:Int)+1) x) (RF (fI n cs) ts a (RF (fI n cs) ts a x)):=hy
  have HZ:y<=RF (fI n cs) ts a (RF (fI n cs) ts a x):=by
   have:((a+1:Nat):Int)=(a:Int)+1:=by lia
   rw[this]at q;lia
  have up:=ib S.n1 S.iK
  have mm:=(mn S a).mem x (kA hi)
  have ge:=(mn S a).ge x
  obtain⟨k,hk,ek⟩:=aM mm
  have gk:(fI n cs)[k]?=some (RF (fI n cs) ts a x):=by rw[iM hk,ek]
  by_cases q1:y<=RF (fI n cs) ts a x
  .exact((More.refl S).tab (a+1) (a+2) (by lia) i j i j x y hi hj hi hj (ih i j x y hi hj pV q1)).1
  have kj:k<j:=by
   by_cases z:k<j
   .exact z
   .exact absurd (oA up j k _ _ (by lia) hj gk) q1
  have ik:=uT up hi gk ge
  by_cases z:i=k
  .subst z
   rw[hi]at gk
   have gk:=aK gk
   rw[<- gk]at HZ q1
   rw[<- gk]at HZ
   exact absurd HZ q1
  have p1:=ih i k x _ hi gk (by lia) (bq _)
  have p2:=ih k j _ y gk hj kj HZ
  exact(yG (es:=fI n cs) (own:=jc (fI n cs) ts ((a+1:Nat):Int)) (λi j=>(zI (fI n cs) ts (a+1) i j).1) pV (lK.mpr ⟨k,by lia,kj,Int.mul_pos p1 p2,rfl⟩)).1
def yC {n:Int}{cs:au Int}{ts:au Tk}(S:gM n cs ts){a:Nat}(hl:iT (fI n cs) ts n a):0<mO (fI n cs) ts (a+1) 0 (cs.length+1):=by
 refine Hg S a 0 (cs.length+1) 0 n (AJ n cs) (r8 n cs) (by lia) ?_
 rw[(More.refl S).least hl]
 exact bq _
def goN (f:Nat->Int)(q:Int):Nat->Nat
 |0=>0
 |L+1=>if f L<=q then L else goN f q L
def Eo {f:Nat->Int}{q:Int}:∀ {L b:Nat},b<L->f b<=q->(∀ x,b<x->x<L->¬ f x<=q)->goN f q L=b
 |0,b,h,_,_=>absurd h (Nat.not_lt_zero _)
 | L+1,b,h,h1,h2=>by
  unfold goN
  by_cases e:b=L
  .subst e;rw[aF h1]
  .rw[aG (h2 L (by lia) (bF _))]
   exact Eo (by lia) h1 λx x1 x2=>h2 x x1 (by lia)
def Aw {f:Nat->Int}{q:Int}:∀ {L:Nat} {b:Nat},b<L->f b<=q->b<=goN f q L/\goN f q L<L/\f (goN f q L)<=q
 |0,b,h,_=>absurd h (Nat.not_lt_zero _)
 | L+1,b,h,h1=>by
  unfold goN
  by_cases e:f L<=q
  .rw[aF e];exact⟨by lia,bF _,e⟩
  .rw[aG e]
   have hb:b<L:=by
    rcases cz b L with z|z
    .exact z
    .have:b=L:=by lia
     subst this;exact absurd h1 e
   have:=Aw hb h1
   exact⟨this.1,by lia,this.2.2⟩
structure TabOk (L:Nat)(P:Nat->Nat->Int):Prop where
 nn:∀ i j,i<L->j<L->0<=P i j
 le:∀ i j,i<L->j<L->P i j<=(L:Int) - 1
 zero:∀ i j,i<L->j<L->j<=i->P i j=0
 mj:∀ i j j',i<L->j<=j'->j'<L->P i j<=P i j'
 mi:∀ i i' j,i<=i'->i'<L->j<L->P i' j<=P i j
 bd:∀ i j,i<j->j<L->P i j<(L:Int) - 1->P i j<=(j:Int) - i - 1
def lE {n:Int}{cs:au Int}{ts:au Tk}(S:gM n cs ts)(a:Nat):CW (fI n cs).length (mO (fI n cs) ts a) (fZ (fI n cs) ts a):=BK (λa i j hi h=>Ks (ib S.n1 S.iK) i j hi h) a
def l9 {L:Nat}{T P:Nat->Nat->Int}(h:CW L T P){i j:Nat}(hi:i<L)(hj:j<L):0<=P i j/\P i j<=(L:Int) - 1/\(i<j->P i j<(L:Int) - 1->P i j<=(j:Int) - i - 1):=by
 obtain⟨h1,h2⟩:=h i j hi hj
 rcases cz i j with q|q
 .rcases h2 q with⟨_,e⟩|⟨e1,e2,e⟩<;> lia
 .have:=h1 q;lia
def uj {L:Nat}{es own:au Int}{P:Nat->Nat->Int}{i j k:Nat}(h1:i<k)(h2:k<j)(h:0<=P i k+P k j+1):iH L es own P i j<=P i k+P k j+1:=by
 unfold iH
 by_cases q:es.getD j 0<=own.getD i 0
 .rw[aF q];exact h
 .rw[aG q];exact(kr (mJ P i j) ((L:Int) - 1)).2.2 _ (lI.mpr ⟨k,h1,h2,rfl⟩)
def p8 {L:Nat}{es own:au Int}{P:Nat->Nat->Int}{i j:Nat}(q:¬ es.getD j 0<=own.getD i 0):iH L es own P i j=(L:Int) - 1\/∃ k,i<k/\k<j/\iH L es own P i j=P i k+P k j+1:=by
 unfold iH
 rw[aG q]
 rcases(kr (mJ P i j) ((L:Int) - 1)).1 with e|e
 .exact .inl e
 .obtain⟨k,h1,h2,e'⟩:=lI.mp e
  exact .inr ⟨k,h1,h2,e'⟩
def E6 {n:Int}{cs:au Int}{ts:au Tk}(S:gM n cs ts):∀(a:Nat) {i j:Nat},i<(fI n cs).length->j<(fI n cs).length->fZ (fI n cs) ts (a+1) i j<=fZ (fI n cs) ts a i j:=by
 intro a
 induction a with
 | zero =>
  intro i j hi hj
  show _<=jD (fI n cs).length i j
  unfold jD
  by_cases q:j<=i
  .rw[aF q,(lE S 1 i j hi hj).1 q];exact bq _
  .rw[aG q];exact(l9 (lE S 1) hi hj).2.1
 | succ a ih =>
  intro i j hi hj
  have l:=l9 (lE S (a+2)) hi hj
  by_cases q:(fI n cs).getD j 0<=(jc (fI n cs) ts a).getD i 0
  .have g:=getD_some hi
   have e:fZ (fI n cs) ts (a+2) i j=0:=by
    show iH _ _ _ _ i j=0
    unfold iH
    rw[jS g]at q
    rw[aF (by rw[jS g];exact bB q (N1 (by lia)))]
   rw[e];exact(l9 (lE S (a+1)) hi hj).1
  .rcases p8 (L:=(fI n cs).length) (P:=fZ (fI n cs) ts a) q with e | ⟨k,k1,k2,e⟩
   .rw[show fZ (fI n cs) ts (a+1) i j=_ from e];exact l.2.1
   .rw[show fZ (fI n cs) ts (a+1) i j=_ from e]
    have hk:k<(fI n cs).length:=du k2 hj
    have n1:=(l9 (lE S (a+1)) hi hk).1
    have n2:=(l9 (lE S (a+1)) hk hj).1
    have t:fZ (fI n cs) ts (a+2) i j<=_:=uj (es:=fI n cs) (own:=jc (fI n cs) ts ((a+1:Nat):Int)) k1 k2 (Int.add_nonneg (Int.add_nonneg n1 n2) (by decide))
    exact bB t (Int.add_le_add_right (Int.add_le_add (ih hi hk) (ih hk hj)) 1)
def uh {n:Int}{cs:au Int}{ts:au Tk}(S:gM n cs ts):∀ a,TabOk (fI n cs).length (fZ (fI n cs) ts a):=by
 have fK:∀ a,(∀ i j j',i<(fI n cs).length->j<=j'->j'<(fI n cs).length->fZ (fI n cs) ts a i j<=fZ (fI n cs) ts a i j')->(∀ i i' j,i<=i'->i'<(fI n cs).length->j<(fI n cs).length->fZ (fI n cs) ts a i' j<=fZ (fI n cs) ts a i j)->TabOk (fI n cs).length (fZ (fI n cs) ts a):=λa mj mi =>
  ⟨λi j hi hj=>(l9 (lE S a) hi hj).1,λi j hi hj=>(l9 (lE S a) hi hj).2.1,λi j hi hj q=>(lE S a i j hi hj).1 q,mj,mi,λi j q hj=>(l9 (lE S a) (by lia) hj).2.2 q⟩
 intro a
 induction a with
 | zero =>
  refine fK 0 (λi j j' hi h hj=>?_) (λi i' j h hi hj=>?_)
  .show jD _ i j<=jD _ i j'
   unfold jD
   by_cases q:j<=i
   .rw[aF q]
    by_cases q':j'<=i
    .rw[aF q'];exact bq _
    .rw[aG q'];lia
   .rw[aG q,aG (by lia)];exact bq _
  .show jD _ i' j<=jD _ i j
   unfold jD
   by_cases q:j<=i
   .rw[aF q,aF (by lia)];exact bq _
   .rw[aG q]
    by_cases q':j<=i'
    .rw[aF q'];lia
    .rw[aG q'];exact bq _
 | succ a ih =>
  have up:=ib S.n1 S.iK
  have Xx:∀ {i j:Nat},i<(fI n cs).length->j<(fI n cs).length->0<=fZ (fI n cs) ts (a+1) i j/\fZ (fI n cs) ts (a+1) i j<=((fI n cs).length:Int) - 1:=λhi hj=>by have:=l9 (lE S (a+1)) hi hj;exact⟨this.1,this.2.1⟩
  have ag:∀ {i j:Nat},i<(fI n cs).length->j<(fI n cs).length->fZ (fI n cs) ts (a+1) i j<=fZ (fI n cs) ts a i j:=λhi hj=>E6 S a hi hj
  have two:∀ {i j k:Nat},i<k->k<j->j<(fI n cs).length->fZ (fI n cs) ts (a+1) i j<=fZ (fI n cs) ts a i k+fZ (fI n cs) ts a k j+1:=λ{i j k} h1 h2 hj=>by
   have:=ih.nn i k (by lia) (by lia)
   have:=ih.nn k j (by lia) hj
   exact uj h1 h2 (by lia)
  refine fK (a+1) (λi j j' hi h hj=>?_) (λi i' j h hi hj=>?_)
  .have l:=Xx hi (show j<(fI n cs).length by lia)
   by_cases q:(fI n cs).getD j' 0<=(jc (fI n cs) ts a).getD i 0
   .have e:fZ (fI n cs) ts (a+1) i j=0:=by
     show iH _ _ _ _ i j=0
     unfold iH;rw[aF (bB (vB up hj h) q)]
    rw[e];exact(Xx hi hj).1
   .rcases p8 (L:=(fI n cs).length) (P:=fZ (fI n cs) ts a) q with e | ⟨k,k1,k2,e⟩
    .rw[show fZ (fI n cs) ts (a+1) i j'=_ from e];exact l.2
    .rw[show fZ (fI n cs) ts (a+1) i j'=_ from e]
     have n1:=ih.nn k j' (by lia) hj
     rcases cz k j with z|z
     .have:=two k1 z (show j<_ by lia)
      have:=ih.mj k j j' (by lia) h hj
      lia
     .have:=ag hi (show j<(fI n cs).length by lia)
      have:=ih.mj i j k hi z (by lia)
      lia
  .have l:=Xx hi hj
   by_cases q:(fI n cs).getD j 0<=(jc (fI n cs) ts a).getD i 0
   .have e:fZ (fI n cs) ts (a+1) i' j=0:=by
     show iH _ _ _ _ i' j=0
     unfold iH
     have g1:=getD_some (show i<(fI n cs).length by lia)
     have g2:=getD_some hi
     rw[jS g1]at q
     rw[aF (by rw[jS g2];exact bB q ((wX S a).mono _ (kA g1) _ (kA g2) (vB up hi h)))]
    rw[e];exact(Xx (show i<_ by lia) hj).1
   .rcases p8 (L:=(fI n cs).length) (P:=fZ (fI n cs) ts a) q with e | ⟨k,k1,k2,e⟩
    .rw[show fZ (fI n cs) ts (a+1) i j=_ from e];exact l.2
    .rw[show fZ (fI n cs) ts (a+1) i j=_ from e]
     have n1:=ih.nn i k (by lia) (by lia)
     rcases cz i' k with z|z
     .have:=two z k2 hj
      have:=ih.mi i i' k h hi (by lia)
      lia
     .have:=ag hi hj
      have:=ih.mi k i' j z hi hj
      lia
def Nd {n:Int}{cs:au Int}{ts:au Tk}(S:gM n cs ts)(a:Nat){i k l:Nat}(hi:i<(fI n cs).length)(hk:k<(fI n cs).length)(hl:l<(fI n cs).length)(h1:fZ (fI n cs) ts a i k<((fI n cs).length:Int) - 1)(h2:fZ (fI n cs) ts a k l<((fI n cs).length:Int) - 1):
 fZ (fI n cs) ts (a+1) i l<=fZ (fI n cs) ts a i k+fZ (fI n cs) ts a k l+1/\fZ (fI n cs) ts (a+1) i l<((fI n cs).length:Int) - 1:=by
 have o:=uh S a
 have a1:=E6 S a hi hl
 have n1:=o.nn i k hi hk
 have n2:=o.nn k l hk hl
 rcases cz i k with z|z
 .rcases cz k l with w | w
  .have b1:=o.bd i k z hk h1
   have b2:=o.bd k l w hl h2
   have:fZ (fI n cs) ts (a+1) i l<=_:=uj z w (by lia)
   lia
  .have:=o.mj i l k hi w hk
   lia
 .have:=o.mi k i l z hi hl
  lia
def vH (L t:Nat):Int:=min (t:Int) ((L:Int) - 2)
def DQ {L:Nat}(h:2<=L)(t:Nat):0<=vH L t:=Int.le_min.mpr ⟨Int.natCast_nonneg _,by lia⟩
def DS (L t:Nat):vH L t<=t:=Int.min_le_left _ _
def DR (L t:Nat):vH L t<(L:Int) - 1:=Int.lt_of_le_of_lt (Int.min_le_right _ _) (by lia)
def K3 {L t:Nat}{x:Int}(h:x<=t)(hl:x<(L:Int) - 1):x<=vH L t:=Int.le_min.mpr ⟨h,by lia⟩
def J6 {L t u:Nat}(h:t<=u):vH L t<=vH L u:=K3 (bB (DS L t) (Int.ofNat_le.mpr h)) (DR L t)
def NJ {L t u:Nat}{x y z:Int}(h:u<t)(hy:y<=vH L u)(hz:z<=vH L (t - u - 1))(hx:x<=y+z+1)(hl:x<(L:Int) - 1):x<=vH L t:=by
 have h1:=bB hy (DS L u)
 have h2:=bB hz (DS L (t - u - 1))
 clear hy hz
 exact K3 (by lia) hl
def rV (es:au Int)(P:Nat->Nat->Int)(q:Int):au Int:=(List.range es.length).map λi=>es.getD (goN (P i) q es.length) 0
def ui (es:au Int)(P:Nat->Nat->Int)(m:Nat):au (au Int):=(List.range m).map λt=>rV es P (vH es.length t)
def BX (es:au Int)(ts:au Tk)(a m:Nat):au (au (au Int)):=(List.range (a+1)).map λk=>ui es (fZ es ts (k+1)) m
def map_range {α:Type}{f:Nat->α}{m i:Nat}{x:α}(h:((List.range m).map f)[i]?=some x):i<m/\x=f i:=by
 have hi:=(ka h).1
 rw[ia,pW]at hi
 rw[nF,ba hi]at h
 exact⟨hi,(aK h).symm⟩
def o4 {L:Nat}{es:au Int}{P:Nat->Nat->Int}{q:Int}(hL:L=es.length)(o:TabOk L P)(hq:0<=q){i:Nat}{x:Int}(h:(rV es P q)[i]?=some x):∃ b,i<L/\b<L/\es[b]?=some x/\P i b<=q/\∀ c,c<L->P i c<=q->c<=b:=by
 subst hL
 obtain⟨hi,rfl⟩:=map_range h
 have g:=Aw (f:=P i) (q:=q) hi (by rw[o.zero i i hi hi (aw _)];exact hq)
 exact⟨_,hi,g.2.1,getD_some g.2.1,g.2.2,λc hc h=>(Aw hc h).1⟩
def Hs {n:Int}{cs:au Int}{ts:au Tk}(S:gM n cs ts)(a:Nat){q:Int}(hq:0<=q):qW (fI n cs) ts a (rV (fI n cs) (fZ (fI n cs) ts (a+1)) q):=by
 have o:=uh S (a+1)
 have up:=ib S.n1 S.iK
 have at_:=λi x h=>o4 (i:=i) (x:=x) rfl o hq h
 refine⟨⟨by unfold rV;rw[ia,pW],λx hx=>?_⟩,λi j x y pV hx hy=>?_,λi x e hx he=>?_,λi x e hx he t ht Y9=>?_⟩
 .obtain⟨i,hi,rfl⟩:=aM hx
  obtain⟨b,_,_,eb,_⟩:=at_ i _ (iM hi)
  exact kA eb
 .obtain⟨b,hi,hb,eb,pb,_⟩:=at_ i x hx
  obtain⟨c,hj,hc,ec,_,mc⟩:=at_ j y hy
  have:=o.mi i j b pV hj hb
  exact oA up b c _ _ (mc b hb (by lia)) eb ec
 .obtain⟨b,hi,hb,eb,_,mb⟩:=at_ i x hx
  exact oA up i b _ _ (mb i hi (by rw[o.zero i i hi hi (aw _)];exact hq)) he eb
 .obtain⟨b,hi,hb,eb,_,mb⟩:=at_ i x hx
  refine bB (nR ht Y9) ?_
  obtain⟨k,hk,ek⟩:=aM (wZ (ts:=ts) (a:=a) (kA he))
  have gk:(fI n cs)[k]?=some (jU (fI n cs) ts a e):=by rw[iM hk,ek]
  have z:fZ (fI n cs) ts (a+1) i k=0:=by
   show iH _ _ _ _ i k=0
   unfold iH
   rw[aF (by rw[jS he,getD_at gk];exact bq _)]
  exact oA up k b _ _ (mb k hk (by rw[z];exact hq)) gk eb
def Lz {n:Int}{cs:au Int}{ts:au Tk}(S:gM n cs ts){a m:Nat}(hf:m=0\/mO (fI n cs) ts (a+1) 0 (cs.length+1)=0\/(m:Int)<mO (fI n cs) ts (a+1) 0 (cs.length+1)):G6 (fI n cs) ts n a m (BX (fI n cs) ts a m):=by
 have up:=ib S.n1 S.iK
 have hL:=gw n cs
 have q0:∀ t,0<=vH (fI n cs).length t:=DQ (by lia)
 refine⟨by unfold BX;rw[ia,pW];lia,λk tb hk=>?_,λk tb hk=>?_,?_⟩
 .obtain⟨_,rfl⟩:=map_range hk
  unfold ui;rw[ia,pW]
 .obtain⟨hka,rfl⟩:=map_range hk
  have o:=uh S (k+1)
  refine⟨λt r ht=>?_,λt r q h1 h2=>?_,λk0 t u r f s ht hu hfu hsu=>?_⟩
  .obtain⟨_,rfl⟩:=map_range ht
   exact Hs S k (q0 t)
  .obtain⟨_,rfl⟩:=map_range h1
   obtain⟨_,rfl⟩:=map_range h2
   intro i x y hx hy
   obtain⟨b,hi,hb,eb,_,mb⟩:=o4 rfl o (q0 _) hx
   obtain⟨c,_,hc,ec,pc,_⟩:=o4 rfl o (q0 _) hy
   exact oA up c b _ _ (mb c hc (bB pc (J6 (dr _)))) ec eb
  .obtain⟨k',rfl⟩:∃ k',k=k'+1:=⟨k - 1,by lia⟩
   have el:lastOf (BX (fI n cs) ts a m) (k'+1)=ui (fI n cs) (fZ (fI n cs) ts (k'+1)) m:=by
    show((BX (fI n cs) ts a m)[k']?).getD []=_
    unfold BX
    rw[nF,ba (by lia)];rfl
   rw[el]at hfu hsu
   obtain⟨_,rfl⟩:=map_range ht
   obtain⟨_,rfl⟩:=map_range hfu
   obtain⟨_,rfl⟩:=map_range hsu
   have o':=uh S (k'+1)
   intro i x y hx hy
   obtain⟨b,hi,hb,eb,_,mb⟩:=o4 rfl o (q0 _) hx
   obtain⟨c,_,hc,ec,pc,_⟩:=o4 rfl o' (q0 _) hy
   obtain⟨z,hz⟩:∃ z,(rV (fI n cs) (fZ (fI n cs) ts (k'+1)) (vH (fI n cs).length (t - u - 1)))[c]?=some z:=⟨_,iM (by unfold rV;rw[ia,pW];exact hc)⟩
   obtain⟨l,_,hl,el',pl,_⟩:=o4 rfl o' (q0 _) hz
   have e2:rowAt (fI n cs) (rV (fI n cs) (fZ (fI n cs) ts (k'+1)) (vH (fI n cs).length (t - u - 1))) y=z:=by
    unfold rowAt;rw[Ld up ec,hz];rfl
   rw[e2]
   have tw:=Nd S (k'+1) hi hc hl (Int.lt_of_le_of_lt pc (DR _ _)) (Int.lt_of_le_of_lt pl (DR _ _))
   exact oA up l b _ _ (mb l hl (NJ hu pc pl tw.1 tw.2)) el' eb
 .by_cases m0:m=0
  .exact .inl (by lia)
  .right
   refine⟨ui (fI n cs) (fZ (fI n cs) ts (a+1)) m,rV (fI n cs) (fZ (fI n cs) ts (a+1)) (vH (fI n cs).length (m - 1)),(rV (fI n cs) (fZ (fI n cs) ts (a+1)) (vH (fI n cs).length (m - 1)))[0]?.getD 0,?_,?_,?_,?_⟩
   .unfold BX;rw[ia,pW,nF,ba (by lia)];rfl
   .unfold ui;rw[ia,pW,nF,ba (by lia)];rfl
   .rw[iM (by unfold rV;rw[ia,pW];lia)];rfl
   .obtain⟨x,hx⟩:∃ x,(rV (fI n cs) (fZ (fI n cs) ts (a+1)) (vH (fI n cs).length (m - 1)))[0]?=some x:=⟨_,iM (by unfold rV;rw[ia,pW];lia)⟩
    rw[hx]
    obtain⟨b,_,hb,eb,pb,_⟩:=o4 rfl (uh S (a+1)) (q0 _) hx
    show x<n
    by_cases e:b=cs.length+1
    .exfalso
     subst e
     unfold vH at pb
     rcases(lE S (a+1) 0 (cs.length+1) (by lia) (by lia)).2 (by lia)with⟨z1,z2⟩|⟨z1,z2,z3⟩<;> lia
    .exact ky up eb (r8 n cs) (by lia)
structure ot (μ:MS)(n0:Nat)(j:Nat)(ks:List Nat)(tb:List (List Int)):Prop where
 len:ks.length=tb.length
 lst:mH μ j=some (ks.map D.mr)
 at_:∀(t k:Nat) (r:List Int),ks[t]?=some k->tb[t]?=some r->mH μ k=some (r.map D.int)
 YY:n0<=j
 new:∀ k∈ks,n0<=k/\k≠j
def ot.app {μ g:MS}{n0 n1 j:Nat}{ks:au Nat}{tb:au (au Int)}(h:ot μ n0 j ks tb)(hn:n1<=n0):ot (μ++g) n1 j ks tb :=
 ⟨h.len,KZ (x:=.mr j) h.lst,λt k r e1 e2=>KZ (x:=.mr k) (h.at_ t k r e1 e2),aV hn h.YY,λk hk=>⟨aV hn (h.new k hk).1,(h.new k hk).2⟩⟩
def ot.lt {μ:MS}{n0 j:Nat}{ks:au Nat}{tb:au (au Int)}(h:ot μ n0 j ks tb):j<μ.length/\∀ k∈ks,k<μ.length:=by
 refine⟨(ka (jA h.lst)).1,λk hk=>?_⟩
 obtain⟨t,ht,e⟩:=aM hk
 exact(ka (jA (h.at_ t k _ (by rw[iM ht,e]) (iM (by rw[<- h.len];exact ht))))).1
abbrev Us:=au (Nat×au Nat)
def IM (us:Us):au D:=us.map λu=>D.mr u.1
structure rA (μ:MS)(n0:Nat)(us:Us)(pp:List (List (List Int))):Prop where
 len:us.length=pp.length
 tab:∀(i:Nat) (u:Nat×List Nat) (tb:List (List Int)),us[i]?=some u->pp[i]?=some tb->ot μ n0 u.1 u.2 tb
 ord:us.Pairwise λx y=>x.1<y.1/\∀ k∈x.2,k<y.1
def rA.nil (μ:MS)(n0:Nat):rA μ n0 [] []:=⟨rfl,λi u tb e=>by simp at e,.nil⟩
def rA.snoc {μ g:MS}{n0 j:Nat}{us:Us}{pp:au (au (au Int))}{ks:au Nat}{tb:au (au Int)}(h:rA μ n0 us pp)(hn:n0<=μ.length)(t:ot (μ++g) μ.length j ks tb):rA (μ++g) n0 (us++[(j,ks)]) (pp++[tb]):=by
 have old:∀ u∈us,u.1<j/\∀ k∈u.2,k<j:=λu hu=>by
  obtain⟨i,hi,e⟩:=aM hu
  have l:=(h.tab i u _ (by rw[iM hi,e]) (iM (by rw[<- h.len];exact hi))).lt
  exact⟨aP l.1 t.YY,λk hk=>aP (l.2 k hk) t.YY⟩
 refine⟨by rw[l5,l5,h.len];rfl,λi u tb' e1 e2=>?_,?_⟩
 .rcases cz i us.length with q | q
  .rw[t6 q]at e1
   rw[t6 (by rw[<- h.len];exact q)]at e2
   exact(h.tab i u tb' e1 e2).app (aw _)
  .have hi:i=us.length:=by
    have:=(ka e1).1
    rw[l5,bJ]at this;lia
   subst hi
   rw[rF (aw _),a8]at e1
   rw[h.len,rF (aw _),a8]at e2
   cases e1
   cases e2
   have:=t.app (g:=[]) hn
   rwa [bZ]at this
 .rw[List.pairwise_append]
  exact⟨h.ord,List.pairwise_singleton _ _,λx hx y hy=>by rw[List.mem_singleton.mp hy];exact old x hx⟩
def Gq:jP:=λds μ K=>match ds with
 |[.lst r,.int b,.int q]=>∃(L:Nat) (f:Nat->Int) (c:Nat),r=jR L f/\L<=2000/\b=(c:Int)/\c<L/\(∀ x y,x<=y->y<L->f x<=f y)/\f c<=q/\K (.int (goN f q L:Nat)) μ
 |_=>False
def tJ:jP:=λds μ K=>match ds with
 |[.lst p,.lst t,.int m]=>∃(es:au Int) (P:Nat->Nat->Int),p=es.map D.int/\t=kG es.length P/\2<=es.length/\es.length<=2000/\TabOk es.length P/\0<=m/\m<=1000/\∀(j:Nat) (ks:au Nat) (g:MS),ot (μ++g) μ.length j ks (ui es P m.toNat)->K (.mr j) (μ++g)
 |_=>False
section
variable {X:Cx}{a b e:Expr}{es:au Expr}{pos:Pos}
def JS {acc:Array ar}{n:Nat}(h:ItemsOf (λi v=>∃ t,v=.int (0+(i:Int)*1) t) acc n):gD (((List.range n).map λi=>((i:Nat):Int)).map V.int) acc.toList:=by
 have key:∀(us:au ar) (k:Nat),(∀(j:Nat) (v:ar),us[j]?=some v->∃ t,v=.int ((k+j:Nat):Int) t)->gD (((List.range us.length).map λi=>((k+i:Nat):Int)).map V.int) us:=by
  intro us
  induction us with
  |nil=>intro k _;exact .nil
  | cons u us ih =>
   intro k h
   obtain⟨t,rfl⟩:=h 0 u rfl
   rw[a9,e9,aB,aB,bA (l:=List.range us.length)]
   refine .cons ⟨t,rfl⟩ ?_
   have:=ih (k+1) λj v e=>by
    obtain⟨t,e'⟩:=h (j+1) v (by simpa using e)
    exact⟨t,by rw[e',show k+(j+1)=k+1+j by lia]⟩
   have e2:((λi=>((k+i:Nat):Int)) ∘ Nat.succ)=λi=>((k+1+i:Nat):Int):=by
    funext i
    show((k+(i+1):Nat):Int)=_
    rw[show k+(i+1)=k+1+i by lia]
   rw[e2]
   exact this
 have hl:acc.toList.length=n:=by rw[Array.length_toList];exact h.1
 have:=key acc.toList 0 λj v e=>by
  obtain⟨t,e'⟩:=h.2 j v (by rw[<- Array.getElem?_toList];exact e)
  exact⟨t,by rw[e'];congr 1;lia⟩
 rw[hl]at this
 simpa using this
def Tw (w:DA):De:=λρ μ K=>w ρ μ λds gy=>match ds with
 |[.int j]=> -(2 ^ 62)<=j/\j<=100000/\K (.lst (((List.range j.toNat).map λi=>((i:Nat):Int)).map D.int)) gy
 |_=>False
def OU {w:DA}{p p2 oj:Pos}(gY:X.gY=true)(hg:Gl X "list")(hm:X.mg "list"=none)(OI:Gl X "range")(Ic:X.mg "range"=none)(ha:wy X [a] w)(hs:starEach [a] X.env=[(false,eval a X.env)]:=by rfl)
 (FR:starEach [.Call (.Name "range" p2) [a] [] oj] X.env=[(false,eval (.Call (.Name "range" p2) [a] [] oj) X.env)]:=by rfl):
 PD X (.Call (.Name "list" p) [.Call (.Name "range" p2) [a] [] oj] [] pos) (Tw w):=by
 intro fJ s σ H Q I h
 refine cP (kW I hg hm boot_list ?_)
 obtain⟨φ,ρ,μ,K,A,M,k,L⟩:=h
 refine a6 ?_ FR rfl
 rw[FR]
 show wpAny _ _ (spliced ((false,eval (.Call (.Name "range" p2) [a] [] oj) X.env)::backTo pos [])) _ _ s
 refine eK ?_
 have hq:Ua w σ H (λvs H1=>∃ j:Int,vs=[.int j] /\ -(2 ^ 62)<=j/\j<=100000/\∀ q,H1 q=none->Q (.ref q) (upd H1 q (.lst (((List.range j.toNat).map λi=>((i:Nat):Int)).map V.int)))):=by
  refine⟨φ,ρ,μ,_,A,M,k,λds gy gT vs H1 k1 f1 M1 i1=>?_⟩
  split at k1
  .rename_i j
   obtain⟨v,r,rfl,h1,h2⟩:=i1
   cases(show r=[]from h2);cases(show v=_ from h1)
   exact⟨j,rfl,k1.1,k1.2.1,λq hq=>Ms (L.mono f1) M1 (gh.ofInts _) k1.2.2 hq⟩
  .exact k1.elim
 refine Call_ (kW I OI Ic boot_range (a6 (iN (ha oj fJ s σ H _ I hq) λus s1 r6=>?_) hs rfl))
 obtain⟨vs,H1,I1,r1,q1⟩:=r6
 obtain⟨j,e,q1,q2,q⟩:=q1
 subst e
 obtain⟨u,rfl,t,rfl⟩:=gD.one r1
 refine call_range_1 (fh ?_)
 refine call_list_range (n:=j.toNat) (I1.ok.hd gY) (IsRange.new ..) ?_ (by rw[rangeSize_one];split<;>lia) (by lia) λh' tk acc' c' hk hS ZP=>?_
 .exact small_one (by decide) (by decide) q1 (by lia)
 .have hle:s1.heap.objs.size<=(s1.heap.push { cls:=.type "range",data:=.fields #[.int 0 s1.toks,.int j t,.int 1 (s1.toks+1)]}).objs.size:=by
   show _<=(s1.heap.objs.push _).size
   rw[Array.size_push];exact dr _
  refine⟨.ref _,_,I1.laid (o:=.lst (((List.range j.toNat).map λi=>((i:Nat):Int)).map V.int)) (λb o hb=>hk b o (j6 _ hb)) hle ⟨?_,acc'.toList,c',JS ZP,by rw[Array.toArray_toList];exact hS⟩,rfl,q _ (I1.iF.fresh hle)⟩
  rw[ia,ia,pW]
  exact sz (by lia)
end
def Bw {α:Type}(f g:α->D):∀ xs:au α,List.zipWith (λa b=>D.tup [a,b]) (xs.map f) (xs.map g)=xs.map λx=>D.tup [f x,g x]
 |[]=>rfl
 |x::xs=>by rw[aB,aB,bE,Bw f g xs];rfl
def QZ (L:Nat)(P:Nat->Nat->Int):Nat->Nat->Nat
 |0,x=>x
 |i+1,x=>goN (P x) (vH L i) L
def Mm {L:Nat}{P:Nat->Nat->Int}(o:TabOk L P)(hL:2<=L):∀(i:Nat) {x:Nat},x<L->QZ L P i x<L/\P x (QZ L P i x)<=vH L i
 |0,x,hx=>⟨hx,by show P x x<=_;rw[o.zero x x hx hx (aw _)];exact DQ hL 0⟩
 | i+1,x,hx=>by
  have g:=Aw (f:=P x) (q:=vH L i) hx (by rw[o.zero x x hx hx (aw _)];exact DQ hL i)
  exact⟨g.2.1,bB g.2.2 (J6 (dr i))⟩
def Hi (es:au Int)(P:Nat->Nat->Int)(i:Nat):ui es P (i+1)=ui es P i++[rV es P (vH es.length i)]:=by unfold ui;rw[eB,bS];rfl
def Jz (es:au Int)(P:Nat->Nat->Int)(i:Nat):(ui es P i).length=i:=by unfold ui;rw[ia,pW]
def ot.push {μ g:MS}{ks:au Nat}{tb:au (au Int)}(row:au Int)(h:ot (μ++g) μ.length μ.length ks tb):∃ g',(μ++g++[MO.lst (row.map D.int)]).set μ.length (.lst (ks.map D.mr++[D.mr (μ++g).length]))=μ++g'/\ot (μ++g') μ.length μ.length (ks++[(μ++g).length]) (tb++[row]):=by
 have lt:=h.lt
 have l0:μ.length<(μ++g).length:=lt.1
 refine⟨(g++[MO.lst (row.map D.int)]).set 0 (.lst (ks.map D.mr++[D.mr (μ++g).length])),?_,?_⟩
 .rw[bp,cM _ _ (aw _),a8]
 .rw[show μ++(g++[MO.lst (row.map D.int)]).set 0 (.lst (ks.map D.mr++[D.mr (μ++g).length]))=(μ++g++[MO.lst (row.map D.int)]).set μ.length (.lst (ks.map D.mr++[D.mr (μ++g).length])) by rw[bp,cM _ _ (aw _),a8]]
  refine⟨by rw[l5 (as:=ks),l5 (as:=tb),h.len];rfl,?_,λt k r e1 e2=>?_,aw _,λk hk=>?_⟩
  .rw[o7 (by rw[l5];lia),bS];rfl
  .rcases cz t ks.length with q | q
   .rw[t6 q]at e1
    rw[t6 (by rw[<- h.len];exact q)]at e2
    rw[rW (bD (h.new k (kA e1)).2)]
    exact o8 (h.at_ t k r e1 e2)
   .have ht:t=ks.length:=by
     have:=(ka e1).1
     rw[l5,bJ]at this;lia
    subst ht
    rw[rF (aw _),a8]at e1
    rw[h.len,rF (aw _),a8]at e2
    cases e1
    cases e2
    rw[rW (by lia)]
    exact kN
  .rcases List.mem_append.mp hk with q | q
   .exact h.new k q
   .rw[List.mem_singleton.mp q];exact⟨by lia,by lia⟩
def Gm:jP:=λds μ K=>match ds with
 |[.lst b,.lst f,.int a,.mr k]=>∃(es:au Int) (ts:au Tk) (row:au Int),b=es.map D.int/\f=ts.map (ju es)/\es.length<=2000/\(∀ e∈es,0<=e)/\mH μ k=some (row.map D.int)/\qW es ts a row/\K (.bl true) μ
 |_=>False
def wc:jP:=λds μ K=>match ds with
 |[.lst b,.mr x,.mr y,.mr z]=>∃ es row first second:au Int,b=es.map D.int/\es.length<=2000/\es.Nodup/\mH μ x=some (row.map D.int)/\mH μ y=some (first.map D.int)/\mH μ z=some (second.map D.int)/\nv es row/\nv es first/\nv es second/\Above es row first second/\K (.bl true) μ
 |_=>False
def vZ:jP:=λds μ K=>match ds with
 |[.mr x,.mr y]=>∃ xs ys:au Int,mH μ x=some (xs.map D.int)/\mH μ y=some (ys.map D.int)/\xs.length<=3000/\uR xs ys/\K (.bl false) μ
 |_=>False
def vT:jP:=λds μ K=>match ds with
 |[.lst b,.lst f,.int a,.mr j,y]=>∃(es:au Int) (ts:au Tk) (tb ls:au (au Int)) (ks:au Nat),b=es.map D.int/\f=ts.map (ju es)/\(∀ e∈es,0<=e)/\es.Nodup/\es.length<=2000/\tb.length<=2000/\0<=a/\ot μ 0 j ks tb/\(0<a->ls.length=tb.length/\(∀ r∈ls,nv es r)/\∃(j':Nat) (ow:au Nat),y=.mr j'/\ot μ 0 j' ow ls)/\zu es ts a ls tb/\K (.bl true) μ
 |_=>False
def ot.zero {μ:MS}{n0 j:Nat}{ks:au Nat}{tb:au (au Int)}(h:ot μ n0 j ks tb):ot μ 0 j ks tb:=⟨h.len,h.lst,h.at_,bh _,λk hk=>⟨bh _,(h.new k hk).2⟩⟩
def rA.zero {μ:MS}{n0:Nat}{us:Us}{pp:au (au (au Int))}(h:rA μ n0 us pp):rA μ 0 us pp:=⟨h.len,λi u tb e1 e2=>(h.tab i u tb e1 e2).zero,h.ord⟩
def ot.get {μ:MS}{n0 j:Nat}{ks:au Nat}{tb:au (au Int)}(h:ot μ n0 j ks tb){t:Nat}(ht:t<tb.length):∃ k r,tb[t]?=some r/\ks[t]?=some k/\lB (ks.map D.mr) (t:Int)=some (.mr k)/\mH μ k=some (r.map D.int):=by
 have hk:t<ks.length:=by rw[h.len];exact ht
 have e1:=iM hk
 have e2:=iM ht
 exact⟨_,_,e2,e1,iZ e1,h.at_ t _ _ e1 e2⟩
def any_none {xs ys:au Int}(h:uR xs ys):(List.zipWith (λa b=>decide (a<b)) xs ys).any id=false:=(GY xs ys).mpr h
def tE {g:DG}{b:Ds}{N:DN}{c:MS->Prop}{i:Int}(n:Nat)(hn:i=n)(Pv:au D->DE->MS->Prop){ρ:DE}{μ:MS}(h0:Pv (kz 0 n) ρ μ)(hs:∀ d ua ρ μ,Pv (d::ua) ρ μ->c μ/\∀(nx:DE->MS->Prop),(∀ kF gq,Pv ua kF gq->nx kF gq)->g d ρ μ λou jb=>b { N with nx:=nx,ct:=nx,bk:=N.nx} ou jb)(hd:∀ ρ μ,Pv [] ρ μ->c μ/\N.nx ρ μ):Ay g b N c (kz 0 i.toNat) ρ μ:=by
 subst hn
 rw[yh]
 exact i9 Pv h0 hs hd
inductive TgO (x0 x1 x2 x3 x4:Option D)(N:Nat)(μ:MS):List D->DE->MS->Prop
 |mk (k c:Nat) (u v:Option D) {ds:List D} (e:ds=kz k c) (h:k+c=N):TgO x0 x1 x2 x3 x4 N μ ds [x0,x1,x2,x3,x4,u,v] μ
inductive TgI (x0 x1 x2 x3 x4 x5:Option D)(N:Nat)(μ:MS):List D->DE->MS->Prop
 |mk (k c:Nat) (v:Option D) {ds:List D} (e:ds=kz k c) (h:k+c=N):TgI x0 x1 x2 x3 x4 x5 N μ ds [x0,x1,x2,x3,x4,x5,v] μ
inductive AbO (x0 x1 x2 x3:Option D)(N:Nat)(μ:MS):List D->DE->MS->Prop
 |mk (k c:Nat) (u:Option D) {ds:List D} (e:ds=kz k c) (h:k+c=N):AbO x0 x1 x2 x3 N μ ds [x0,x1,x2,x3,u] μ
inductive RgO (x0 x1 x2 x3:Option D)(row:List Int)(μ:MS):List D->DE->MS->Prop
 |mk (i c:Nat) (l:Int) (u v w:Option D) {ds:List D} (e:ds=kz i c) (h:i+c=row.length) (ll:∀ x,row[i]?=some x->l<=x):RgO x0 x1 x2 x3 row μ ds [x0,x1,x2,x3,some (.int l),u,v,w] μ
inductive RgI (x0 x1 x2 x3 x4 x5:Option D)(es:List Int)(ts:List Tk)(μ:MS):List D->DE->MS->Prop
 |mk (us:List Tk) (v w:Option D) {ds:List D} (e:ds=us.map (ju es)) (h:∀ t∈us,t∈ts):RgI x0 x1 x2 x3 x4 x5 es ts μ ds [x0,x1,x2,x3,x4,x5,v,w] μ
inductive FgO (x0 x1 x2 x3 x4 x5:Option D)(us:Us)(pp:List (List (List Int)))(μ:MS):List D->DE->MS->Prop
 |mk (k c:Nat) (ld:D) (v:Option D) {ds:List D} (e:ds=kz k c) (h:k+c=pp.length) (Zp:0<k->∃ u tb,us[k - 1]?=some u/\pp[k - 1]?=some tb/\ot μ 0 u.1 u.2 tb/\ld=.mr u.1):FgO x0 x1 x2 x3 x4 x5 us pp μ ds [x0,x1,x2,x3,x4,x5,some ld,v] μ
inductive FrO (x0 x1 x2 x3:Option D)(es:List Int)(P:Nat->Nat->Int)(M:Nat)(μ:MS):List D->DE->MS->Prop
 |mk (i c:Nat) (g:MS) (ks:List Nat) (u v:Option D) {ds:List D} (e:ds=kz i c) (h:i+c=M) (tm:ot (μ++g) μ.length μ.length ks (ui es P i)):FrO x0 x1 x2 x3 es P M μ ds [x0,x1,x2,x3,some (.lst ((List.range es.length).map λx=>D.int (QZ es.length P i x:Nat))),u,v] (μ++g)
inductive FtO (x0 x1 x2 x3 x4 x5 x6:Option D)(es:List Int)(ts:List Tk)(a:Int)(μ:MS):List D->DE->MS->Prop
 |mk (k c:Nat) (ch:Bool) (u v:Option D) {ds:List D} (e:ds=kz k c) (h:(k:Int)+c=a+1) (FU:ch=false->∀ i j,i<es.length->j<es.length->iH es.length es (jc es ts ((k:Int) - 1)) (fZ es ts k) i j=fZ es ts k i j):FtO x0 x1 x2 x3 x4 x5 x6 es ts a μ ds [x0,x1,x2,x3,x4,x5,x6,some (.lst (kG es.length (fZ es ts k))),some (.bl ch),some (.mr μ.length),u,v] (μ++[.jX (mI k) (nJ es ts k)])
inductive CrO (x0 x1 x2:Option D)(es:List Int)(ts:List Tk)(a:Int)(μ:MS):List D->DE->MS->Prop
 |mk (us:List Tk) (tl:List Int) (u v:Option D) {ds:List D} (e:ds=us.map (ju es)) (hf:us.foldl (si es a) tl=jc es ts a) (hl:tl.length<=2000):CrO x0 x1 x2 es ts a μ ds [x0,x1,x2,some (.lst (tl.map D.int)),u,v] μ
inductive NtO (x0 x1 x2 x3 x4:Option D)(L:Nat)(P Q:Nat->Nat->Int)(own:List Int)(μ:MS):List D->DE->MS->Prop
 |mk (k:Nat) (u v w:Option D) {ds:List D} (hk:k<=L) (e:ds=((List.range L).drop k).map (λi=>D.tup [.int (i:Nat),.tup [.lst (jR L (P i)),.int (own.getD i 0)]])) {t:List D} (ht:t=(List.range k).map λi=>D.lst (jR L (Q i))):NtO x0 x1 x2 x3 x4 L P Q own μ ds [x0,x1,x2,x3,x4,some (.mr μ.length),u,v,w] (μ++[.lst t])
def ye (C:ao)(μ:MS)(k:Nat):av (au Str×au D):=match μ[k]? with|some (.ins C' ns ds)=>if C'=C then some (ns,ds)else none|_=>none
def Aq {C:ao}{μ:MS}{k:Nat}{q:au Str×au D}(h:ye C μ k=some q):μ[k]?=some (.ins C q.1 q.2):=by
 unfold ye at h
 split at h
 .rename_i C' ns ds e
  by_cases z:C'=C
  .rw[aF z]at h;cases h;rw[e,z]
  .rw[aG z]at h;cases h
 .cases h
def pf {C:ao}{μ:MS}{k:Nat}{ns:au Str}{ds:au D}(h:μ[k]?=some (.ins C ns ds)):ye C μ k=some (ns,ds):=by unfold ye;rw[h];exact aF rfl
def kK (f:Str):au Str->au D->av D
 |n::ns,d::ds=>if n=f then some d else kK f ns ds
 |_,_=>none
def putN (f:Str)(d:D):au Str->au D->au Str×au D
 |n::ns,e::ds=>if n=f then(n::ns,d::ds)else(n::(putN f d ns ds).1,e::(putN f d ns ds).2)
 |_,_=>([f],[d])
def xg {φ:au ao}{H:Hp}{f:Str}{d:D}:∀ {fs:au (Str×V)} {ds:au D},gh φ H ds (fs.map (·.2))->kK f (fs.map (·.1)) ds=some d->∃ v,fs.lookup f=some v/\jE φ H d v
 |[],ds,h,e=>by cases ds<;>cases e
 | (n,x)::fs,ds,h,e=>by
  cases ds with
  |nil=>cases e
  | cons d0 ds =>
   obtain⟨v,r,e1,h1,h2⟩:=h
   simp only[aB,cE]at e1
   obtain⟨rfl,rfl⟩:=e1
   simp only[aB,kK]at e
   rw[dQ]
   by_cases q:n=f
   .rw[aF q]at e;cases e
    subst q
    exact⟨x,by simp,h1⟩
   .rw[aG q]at e
    have:(f==n)=false:=beq_eq_false_iff_ne.mpr λz=>q z.symm
    simp only[this]
    exact xg h2 e
def xf {φ:au ao}{H:Hp}{f:Str}:∀ {fs:au (Str×V)} {ds:au D},gh φ H ds (fs.map (·.2))->kK f (fs.map (·.1)) ds=none->fs.lookup f=none
 |[],ds,h,e=>rfl
 | (n,x)::fs,ds,h,e=>by
  cases ds with
  |nil=>cases(show _=_ from h)
  | cons d0 ds =>
   obtain⟨v,r,e1,h1,h2⟩:=h
   simp only[aB,cE]at e1
   obtain⟨rfl,rfl⟩:=e1
   simp only[aB,kK]at e
   rw[dQ]
   by_cases q:n=f
   .rw[aF q]at e;cases e
   .rw[aG q]at e
    have:(f==n)=false:=beq_eq_false_iff_ne.mpr λz=>q z.symm
    simp only[this]
    exact xf h2 e
def Ft {φ:au ao}{H:Hp}{f:Str}{d:D}{v:V}(hd:jE φ H d v):∀ {fs:au (Str×V)} {ds:au D},gh φ H ds (fs.map (·.2))->(oF f v fs).map (·.1)=(putN f d (fs.map (·.1)) ds).1/\gh φ H (putN f d (fs.map (·.1)) ds).2 ((oF f v fs).map (·.2))
 |[],ds,h=>by cases ds<;>exact⟨rfl,v,[],rfl,hd,rfl⟩
 | (n,x)::fs,ds,h=>by
  cases ds with
  |nil=>cases(show _=_ from h)
  | cons d0 ds =>
   obtain⟨v',r,e1,h1,h2⟩:=h
   simp only[aB,cE]at e1
   obtain⟨rfl,rfl⟩:=e1
   simp only[oF,aB,putN]
   by_cases q:n=f
   .rw[aF q,aF q]
    exact⟨rfl,_,_,rfl,hd,h2⟩
   .rw[aG q,aG q]
    obtain⟨i1,i2⟩:=Ft hd h2
    exact⟨by simp only[aB,i1],_,_,rfl,h1,i2⟩
section
variable {X:Cx}{a b e o:Expr}{es:au Expr}{pos:Pos}{C:ao}
def WE (C:ao)(f:Str)(w:De):De:=λρ μ K=>w ρ μ λx gy=>match x with
 |.mr k=>∃ d,(ye C gy k).bind (λq=>kK f q.1 q.2)=some d/\K d gy
 |.obj C' ns ds=>C'=C/\∃ d,kK f ns ds=some d/\K d gy
 |_=>False
def pH {f:Str}{w:De}(c:G7 X.K C)(n:qA X.K C f)(h:PD X e w)(hb:attributeBase e f X.env (eval e X.env)=eval e X.env:=by rfl):PD X (.Attribute e f pos) (WE C f w):=(RQ h hb).imp λσ H Q hq=>by
 obtain⟨φ,ρ,μ,K,A,M,k,L⟩:=hq
 refine⟨φ,ρ,μ,_,A,M,k,λd1 gy gT v1 H1 k1 f1 M1 i1=>?_⟩
 cases d1 with
 | mr j =>
  obtain⟨d,e1,k1⟩:=k1
  obtain⟨q,e2,e3⟩:=Option.bind_eq_some_iff.mp e1
  obtain⟨p,hp,rfl⟩:=i1
  obtain⟨p',e4,dx,fs,h1,h2,h3⟩:=M1.at_ j _ (Aq e2)
  rw[hp]at e4;cases e4
  rw[<- h2]at e3
  obtain⟨v,l,iv⟩:=xg h3 e3
  exact⟨p,C,dx,fs,v,rfl,h1,c,n,l,L _ gy gT v H1 k1 f1 M1 iv⟩
 | obj C' ns ds =>
  obtain⟨rfl,d,e3,k1⟩:=k1
  obtain⟨p,dx,fs,vs,rfl,_,h1,h2,rfl,h3⟩:=i1
  rw[<- h2]at e3
  obtain⟨v,l,iv⟩:=xg h3 e3
  exact⟨p,_,dx,fs,v,rfl,h1,c,n,l,L _ gy gT v H1 k1 f1 M1 iv⟩
 |_=>exact k1.elim
def Ws (C:ao)(f:Str)(w wo:De):Ds:=λN ρ μ=>w ρ μ λd gy=>wo ρ gy λx jb=>match x with
 |.mr k=>∃ q q':au Str×au D,ye C jb k=some q/\putN f d q.1 q.2=q'/\q.1.length<1000/\N.nx ρ (jb.set k (.ins C q'.1 q'.2))
 |_=>False
def BP {f:Str}{w wo:De}{pos':Pos}(c:G7 X.K C)(n:qA X.K C f)(he:PD X e w)(ho:PD X o wo)(hs:swapsWith e (some (.Attribute o f pos')) pos.line X.env=pure false:=by rfl):zx X (.Assign [.Attribute o f pos'] e pos) (Ws C f w wo) :=
 (RG ho he hs).imp λE σ H hq=>by
 obtain⟨φ,ρ,μ,N,A,M,k,L⟩:=hq
 refine⟨φ,ρ,μ,_,A,M,k,λd gy gT v1 H1 k1 f1 M1 i1=>?_⟩
 refine⟨gT,ρ,gy,_,A.mono f1,M1,k1,λd2 jb l8 v2 H2 k2 f2 M2 i2=>?_⟩
 cases d2 with
 | mr j =>
  obtain⟨q,_,e2,rfl,hl,k2⟩:=k2
  obtain⟨p,hp,rfl⟩:=i2
  obtain⟨p',e4,dx,fs,h1,h2,h3⟩:=M2.at_ j _ (Aq e2)
  rw[hp]at e4;cases e4
  have f4:Fr l8 H2 l8 (upd H2 p (.ins C dx (oF f v1 fs))):=.put (kA hp)
  obtain⟨g1,g2⟩:=Ft (f:=f) ((i1.mono f2).mono f4) (h3.mono f4)
  rw[h2]at g1 g2
  refine⟨p,C,dx,fs,rfl,h1,c,n,by rw[<- h2,ia]at hl;exact hl,?_⟩
  exact L.nx ρ _ l8 σ _ k2 ((f1.trans f2).trans f4) (A.mono ((f1.trans f2).trans f4)) (M2.put hp ⟨dx,_,gp,g1,g2⟩)
 |_=>exact k2.elim
structure xQ (P:ah)(w:ai)(K:aa)(mg:Str->Option ar)(fK:Heap)(C:ao)(m:Str)(k:Nat)(ps:List Str)(sp:Sp):Prop where
 ex:∃ f fd,gL P w K mg fK ku k f fd ps sp/\Meth K C m f/\Binds K fd ps []
def Qc (C:ao)(m:Str)(μ:MS):D->Prop
 |.mr k=>(ye C μ k).map (λq=>kK m q.1 q.2)=some none
 |.obj C' ns es=>C'=C/\kK m ns es=none
 |_=>False
def JV {m:Str}{φ:au ao}{H:Hp}{μ:MS}{d:D}{v:V}(M:gE φ H μ)(i:jE φ H d v)(h:Qc C m μ d):∃ p dx fs,v=.ref p/\H p=some (.ins C dx fs)/\fs.lookup m=none:=by
 cases d with
 | mr j =>
  obtain⟨q,e2,e3⟩:=Option.map_eq_some_iff.mp (show(ye C μ j).map (λq=>kK m q.1 q.2)=some none from h)
  obtain⟨p,hp,rfl⟩:=i
  obtain⟨p',e4,dx,fs,h1,h2,h3⟩:=M.at_ j _ (Aq e2)
  rw[hp]at e4;cases e4
  rw[<- h2]at e3
  exact⟨p,dx,fs,rfl,h1,xf h3 e3⟩
 | obj C' ns es =>
  obtain⟨rfl,e3⟩:=(show C'=C/\kK m ns es=none from h)
  obtain⟨p,dx,fs,vs0,rfl,_,h1,h2,rfl,h3⟩:=i
  rw[<- h2]at e3
  exact⟨p,dx,fs,rfl,h1,xf h3 e3⟩
 |_=>exact(show False from h).elim
def QT (C:ao)(m:Str)(f:jP)(wo:De)(w:DA):De:=λρ μ K=>wo ρ μ λx gy=>Qc C m gy x/\w ρ gy λds jb=>f (x::ds) jb K
def Ni {m:Str}{f:jP}{wo:De}{w:DA}{σ:St}{H:Hp}{Q:VK}(h:tD (QT C m f wo w) σ H Q):PN C m (iD f) [] E0 (tD wo) (Ua w) σ H Q:=by
 obtain⟨φ,ρ,μ,K,A,M,k,L⟩:=h
 refine⟨φ,ρ,μ,_,A,M,k,λd1 gy gT v1 H1 k1 f1 M1 i1=>?_⟩
 obtain⟨p,dx,fs,rfl,h1,h2⟩:=JV M1 i1 k1.1
 refine⟨p,dx,fs,rfl,h1,h2,gT,ρ,gy,_,A.mono f1,M1,k1.2,λds jb l8 vs H2 k2 f2 M2 i2=>?_⟩
 show iD f (.ref p::(vs++[])) H2 Q E0
 rw[bZ]
 exact⟨l8,d1::ds,jb,K,⟨_,vs,rfl,jE.mono f2 i1,i2⟩,M2,k2,L.mono (f1.trans f2)⟩
def kB {m:Str}{f:jP}{wo:De}{w:DA}{l7:Pos}{pl:Sem Bool}{k:Nat}{ps:au Str}(CM:xQ X.prog X.w X.K X.mg X.fK C m k ps (iD f))(c:G7 X.K C)(hr:jO k X.A)(ho:PD X o wo)(ha:wy X (e::es) w)
 (Li:starEach (e::es) X.env=(false,eval e X.env)::starEach es X.env:=by rfl) (qr:(backTo pos (starEach es X.env)).any (·.1)=false:=by rfl)
 (ht:eval (.Call (.Attribute o m l7) (e::es) [] pos) X.env=(do
   let ov <- eval o X.env
   standAt l7.atName
   let (f,first) <- holding [ov] (getMethod ov m pl)
   callWith pos f first (backTo pos (starEach (e::es) X.env)) (backToKw pos (keywordEach [] X.env))):=by rfl):
 PD X (.Call (.Attribute o m l7) (e::es) [] pos) (QT C m f wo w):=by
 obtain⟨f',fd,F,hm,hb⟩:=CM.ex
 exact(NX ho c hm F hr hb .nil Ko ha Li qr ht).imp λσ H Q hq=>Ni hq
structure T5 (P:ah)(w:ai)(K:aa)(mg:Str->Option ar)(fK:Heap)(x:Str)(C:ao)(k:Nat)(ps:List Str)(sp:Sp):Prop where
 ex:∃ f fd,gL P w K mg fK ku k f fd ps sp/\Mk K C f/\mg x=some (.ref C)/\Binds K fd ps []
def QU (C:ao)(f:jP)(w:DA):De:=λρ μ K=>w ρ μ λds gy=>f (.mr gy.length::ds) (gy++[.ins C [] []]) λd jb=>d=.ic/\K (.mr gy.length) jb
def Nj {f:jP}{w:DA}{σ:St}{H:Hp}{Q:VK}(h:tD (QU C f w) σ H Q):PQ C (iD f) [] E0 (Ua w) σ H Q:=by
 obtain⟨φ,ρ,μ,K,A,M,k,L⟩:=h
 refine⟨φ,ρ,μ,_,A,M,k,λds gy gT vs H1 k1 f1 M1 i1 x dx hx hdx ne=>?_⟩
 have S1:iL H1 (upd H1 dx (.own x)):=iL.upd hdx
 have Bo:upd H1 dx (.own x) x=none:=by rw[gB (bD ne)];exact hx
 have fa:Fr gT H1 gT (upd H1 dx (.own x)):=.same S1
 obtain⟨M2,f2⟩:=(M1.same S1).snoc (m:=.ins C [] []) (o:=.ins C dx []) Bo ⟨dx,[],gp,rfl,rfl⟩
 have f3:=fa.trans f2
 have Cq:jE (gT++[x]) (upd (upd H1 dx (.own x)) x (.ins C dx [])) (.mr gy.length) (.ref x):=⟨x,by rw[rF (by rw[M1.len];exact aw _),M1.len,a8];rfl,rfl⟩
 show iD f (.ref x::(vs++[])) _ _ E0
 rw[bZ]
 refine⟨gT++[x],.mr gy.length::ds,gy++[.ins C [] []],_,⟨_,vs,rfl,Cq,i1.mono f3⟩,M2,k1,λd uS Ha v H3 k3 f4 M3 i3=>?_⟩
 obtain⟨rfl,k3⟩:=k3
 exact⟨i3,L _ uS Ha _ H3 k3 ((f1.trans f3).trans f4) M3 (Cq.mono f4)⟩
def Tq {x:Str}{f:jP}{w:DA}{p:Pos}{k:Nat}{ps:au Str}(CI:T5 X.prog X.w X.K X.mg X.fK x C k ps (iD f))(hr:jO (k+1) X.A)(hg:Gl X x)(ha:wy X (e::es) w)
 (yf:(x==("__debug__" : Str))=false:=by decide) (he:starEach (e::es) X.env=(false,eval e X.env)::starEach es X.env:=by rfl) (qr:(backTo pos (starEach es X.env)).any (·.1)=false:=by rfl):
 PD X (.Call (.Name x p) (e::es) [] pos) (QU C f w):=by
 obtain⟨f',fd,F,M,hm,hb⟩:=CI.ex
 exact(NY M F hr hg hm hb .nil Ko ha yf he qr).imp λσ H Q hq=>Nj hq
def gG {P:ah}{w:ai}{K:aa}{mg:Str->av ar}{fK h:Heap}{x q:Str}{st:Stmt}{f:ao}{fd:aj}{k:Nat}{ps:au Str}{sp:Sp}(G:K.In h)(N:h.Ns mainGlobals mg)(F:j5 K x q st f fd)(ok:gL P w K mg fK ku k f fd ps sp)(hb:Binds K fd ps [])
 (a:W.nsIn K mainGlobals x=some (some (.ref f)):=by kernel_rfl):mM P w K mg fK x k ps sp:=⟨f,fd,ok,W.mg_of G N a,F.kp,hb⟩
def tN {P:ah}{w:ai}{K:aa}{mg:Str->av ar}{fK:Heap}{C:ao}{x q:Str}{st:Stmt}{f:ao}{fd:aj}{k:Nat}{ps:au Str}{sp:Sp}(F:j5 K x q st f fd)(ok:gL P w K mg fK ku k f fd ps sp)(hb:Binds K fd ps [])
 (a:W.findIn K (.ref C) x=some (some (.ref f)):=by kernel_rfl) (i:W.isFn K (.ref f)=true:=by kernel_rfl):xQ P w K mg fK C x k ps sp:=⟨f,fd,ok,⟨a,i,F.kp⟩,hb⟩
def O7 {P:ah}{w:ai}{K:aa}{mg:Str->av ar}{fK h:Heap}{C:ao}{y q:Str}{st:Stmt}{f:ao}{fd:aj}{k:Nat}{ps:au Str}{sp:Sp}(G:K.In h)(N:h.Ns mainGlobals mg)(F:j5 K "__init__" q st f fd)(ok:gL P w K mg fK ku k f fd ps sp)(hb:Binds K fd ps [])
 (n:W.nsIn K mainGlobals y=some (some (.ref C)):=by kernel_rfl) (a:W.findIn K (.ref C) "__init__"=some (some (.ref f)):=by kernel_rfl) (i:W.isFn K (.ref f)=true:=by kernel_rfl) (m:W.makesIn K C=true:=by kernel_rfl) (p:W.keepIn K (.ref C)=true:=by kernel_rfl):T5 P w K mg fK y C k ps sp:=⟨f,fd,ok,⟨m,a,i,p⟩,W.mg_of G N n,hb⟩
def FN:au D->av (au Key)
 |[]=>some []
 |d::ds=>(K6 d).bind λk=>(FN ds).map (k::·)
def Sn:D->av (au Key)
 |.tup ds=>FN ds
 |_=>none
def Cm {φ:au ao}{H:Hp}:∀ {ds:au D} {vs:au V} {ks:au Key},FN ds=some ks->gh φ H ds vs->vs=ks.map kV
 |[],_,ks,e,h=>by cases e;exact h
 | d::ds,_,ks,e,h=>by
  obtain⟨v,r,rfl,h1,h2⟩:=h
  unfold FN at e
  obtain⟨k,e1,e2⟩:=Option.bind_eq_some_iff.mp e
  obtain⟨ow,e3,rfl⟩:=Option.map_eq_some_iff.mp e2
  rw[vL e1 h1,Cm e3 h2];rfl
def FO {φ:au ao}{H:Hp}{d:D}{v:V}{ks:au Key}(e:Sn d=some ks)(h:jE φ H d v):∃ p,v=.ref p/\H p=some (.tup (ks.map kV)):=by
 cases d with
 |tup ds=>obtain⟨p,vs,rfl,_,hp,ha⟩:=h;exact⟨p,rfl,by rw[hp,Cm e ha]⟩
 |_=>cases e
def LP (μ:MS)(j:Nat):av (au (au Key)×au D):=match μ[j]? with|some (.nB ks ds)=>some (ks,ds)|_=>none
def OR {μ:MS}{j:Nat}{q:au (au Key)×au D}(h:LP μ j=some q):μ[j]?=some (.nB q.1 q.2):=by
 unfold LP at h
 split at h
 .rename_i e;cases h;exact e
 .cases h
def sD (ks:au (au Key))(ds:au D)(k:au Key):av D:=match ks,ds with
 |k'::ks,d::ds=>if k'=k then some d else sD ks ds k
 |_,_=>none
def zE (ks:au (au Key))(ds:au D)(k:au Key)(d:D):au (au Key)×au D:=if(ks.any λx=>decide (x=k))=true then(ks,(ks.zip ds).map λp=>if p.1=k then d else p.2)else(ks++[k],ds++[d])
def BF {φ:au ao}{H:Hp}(k:au Key):∀ {fX:au (au Key×V)} {ds:au D},gh φ H ds (fX.map (·.2))->(sD (fX.map (·.1)) ds k=none/\pR fX k=none)\/∃ d v,sD (fX.map (·.1)) ds k=some d/\pR fX k=some v/\jE φ H d v
 |[],ds,h=>.inl ⟨by cases ds<;>rfl,rfl⟩
 | p::fX,ds,h=>by
  cases ds with
  |nil=>cases(show _=_ from h)
  | cons d0 ds =>
   obtain⟨v,r,e,h4,h5⟩:=h
   simp only[aB,cE]at e
   obtain⟨rfl,rfl⟩:=e
   simp only[aB,sD]
   by_cases hk:p.1=k
   .rw[aF hk];exact .inr ⟨_,_,rfl,pX hk,h4⟩
   .rw[aG hk,pY hk];exact BF k h5
def Jt {φ:au ao}{H:Hp}{k:au Key}{d:D}{v:V}(hd:jE φ H d v){fX:au (au Key×V)}{ds:au D}(ha:gh φ H ds (fX.map (·.2))):
 (putK fX k v).map (·.1)=(zE (fX.map (·.1)) ds k d).1/\gh φ H (zE (fX.map (·.1)) ds k d).2 ((putK fX k v).map (·.2)):=by
 have ea:(fX.any λp=>decide (p.1=k))=(fX.map (·.1)).any λx=>decide (x=k):=by rw[List.any_map];rfl
 unfold putK zE
 rw[ea]
 by_cases q:((fX.map (·.1)).any λx=>decide (x=k))=true
 .rw[aF q,aF q]
  clear q ea
  induction fX generalizing ds with
  |nil=>cases(show ds=[] by cases ds with|nil=>rfl|cons _ _=>obtain⟨_,_,e,_⟩:=ha;cases e);exact⟨rfl,rfl⟩
  | cons p fX ih =>
   cases ds with
   |nil=>cases(show _=_ from ha)
   | cons d0 ds =>
    obtain⟨v0,r,e2,h4,h5⟩:=ha
    simp only[aB,cE]at e2
    obtain⟨rfl,rfl⟩:=e2
    obtain⟨i1,i2⟩:=ih h5
    simp only[aB,cQ]at i1 ⊢
    by_cases hk:p.1=k
    .rw[aF hk,aF hk];exact⟨by rw[i1],_,_,rfl,hd,i2⟩
    .rw[aG hk,aG hk];exact⟨by rw[i1],_,_,rfl,h4,i2⟩
 .rw[aG q,aG q,bS,bS]
  exact⟨rfl,ha.app ⟨v,[],rfl,hd,rfl⟩⟩
def Wv:De:=λ_ μ K=>K (.mr μ.length) (μ++[.nB [] []])
def OV:PD X (.Dict [] [] pos) Wv:=Kk.imp λσ H Q hq p hp=>by
 obtain⟨φ,ρ,μ,K,A,M,k,L⟩:=hq
 obtain⟨M',f'⟩:=M.snoc (m:=.nB [] []) (o:=.dT []) hp ⟨[],gp,rfl,rfl⟩
 exact L _ _ _ _ _ k f' M' ⟨p,by rw[rF (by rw[M.len];exact aw _),M.len,a8];rfl,rfl⟩
def Uk (μ:MS)(j:Nat)(y:D):av (av D):=(LP μ j).bind λq=>(Sn y).map λk=>sD q.1 q.2 k
def K8 {φ:au ao}{H:Hp}{μ:MS}{j:Nat}{y:D}{o:av D}{vx vy:V}(M:gE φ H μ)(ix:jE φ H (.mr j) vx)(iy:jE φ H y vy)(h:Uk μ j y=some o):
 ∃ p fX k b,vx=.ref p/\H p=some (.dT fX)/\vy=.ref b/\H b=some (.tup (k.map kV))/\((o=none/\pR fX k=none)\/∃ d v,o=some d/\pR fX k=some v/\jE φ H d v):=by
 obtain⟨q,e1,e2⟩:=Option.bind_eq_some_iff.mp h
 obtain⟨k,e3,rfl⟩:=Option.map_eq_some_iff.mp e2
 obtain⟨p,hp,rfl⟩:=ix
 obtain⟨p',e4,fX,h1,h2,h3⟩:=M.at_ j _ (OR e1)
 rw[hp]at e4;cases e4
 obtain⟨b,rfl,hb⟩:=FO e3 iy
 refine⟨p,fX,k,b,rfl,h1,rfl,hb,?_⟩
 rw[<- h2]
 exact BF k h3
def Wy:xP:=λx y μ K=>match x with
 |.mr j=>∃ d,Uk μ j y=some (some d)/\K d μ
 |_=>False
def Wr {wa wb:De}(hu:X.A.units+1<cLine)(ha:PD X a wa)(hb:PD X b wb)(hs:Pn b):PD X (.Subscript a b pos) (wm Wy wa wb):=(Fx hu ha hb hs).imp λσ H Q hq=>by
 obtain⟨φ,ρ,μ,K,A,M,k,L⟩:=hq
 refine⟨φ,ρ,μ,_,A,M,k,λd1 gy gT v1 H1 k1 f1 M1 i1=>?_⟩
 refine⟨gT,ρ,gy,_,A.mono f1,M1,k1,λd2 jb l8 v2 H2 k2 f2 M2 i2=>?_⟩
 cases d1 with
 | mr j =>
  obtain⟨d,ex,k2⟩:=k2
  obtain⟨p,fX,k,b,rfl,h1,rfl,hb,z⟩:=K8 M2 (i1.mono f2) i2 ex
  rcases z with⟨z,_⟩|⟨d',v,z,ev,iv⟩
  .cases z
  .cases z
   exact⟨p,v,rfl,by rw[<- ev];exact Ba.t h1 hb,L _ jb l8 _ H2 k2 (f1.trans f2) M2 iv⟩
 |_=>exact k2.elim
def GH:xP:=λx y μ K=>match y with
 |.mr j=>∃ o,Uk μ j x=some o/\K (.bl (!o.isSome)) μ
 |_=>False
def Hj {wa wb:De}{σ:St}{H:Hp}{Q:VK}(h:tD (wm GH wa wb) σ H Q):E9 (tD wa) (tD wb) σ H Q:=by
 obtain⟨φ,ρ,μ,K,A,M,k,L⟩:=h
 refine⟨φ,ρ,μ,_,A,M,k,λd1 gy gT v1 H1 k1 f1 M1 i1=>?_⟩
 refine⟨gT,ρ,gy,_,A.mono f1,M1,k1,λd2 jb l8 v2 H2 k2 f2 M2 i2=>?_⟩
 cases d2 with
 | mr j =>
  obtain⟨oo,ex,k2⟩:=k2
  obtain⟨p,fX,k,b,rfl,h1,rfl,hb,z⟩:=K8 M2 i2 (i1.mono f2) ex
  refine⟨p,pR fX k,rfl,Ba.t h1 hb,?_⟩
  have es:(pR fX k).isSome=oo.isSome:=by
   rcases z with⟨g1,g2⟩|⟨d,v,g1,g2,_⟩
   .rw[g1,g2];rfl
   .rw[g1,g2];rfl
  rw[es]
  exact L _ jb l8 _ H2 k2 (f1.trans f2) M2 rfl
 |_=>exact k2.elim
def JA {wa wb:De}(hu:X.A.units+1<cLine)(ha:PD X a wa)(hb:PD X b wb)(hmk:behindInMarks .NotIn b=false):II X (.Compare a [.NotIn] [b] pos) (pv (wm GH wa wb)):=(DT (Hy hu ha hb) hmk).imp λσ H Q hq=>by
 obtain⟨φ,ρ,μ,K,E,M,k,L⟩:=hq
 refine Hj ⟨φ,ρ,μ,_,E,M,k,λd gq gN v H' k' f M' i=>?_⟩
 cases d with
 |bl b=>cases(show v=_ from i);exact⟨b,rfl,L b gq gN H' k' f M'⟩
 |_=>exact k'.elim
def WJ (w wo wi:De):Ds:=λN ρ μ=>w ρ μ λd gy=>wo ρ gy λo jb=>wi ρ jb λi uS=>match o with
 |.mr j=>∃ ks ds k,uS[j]?=some (.nB ks ds)/\ks.length<sizeLine/\Sn i=some k/\N.nx ρ (uS.set j (.nB (zE ks ds k d).1 (zE ks ds k d).2))
 |_=>False
def Rv {i:Expr}{w wo wi:De}{pos':Pos}(hu:X.A.units+1<cLine)(he:PD X e w)(ho:PD X o wo)(hi:PD X i wi)(hs:swapsWith e (some (.Subscript o i pos')) pos.line X.env=pure false:=by rfl):
 zx X (.Assign [.Subscript o i pos'] e pos) (WJ w wo wi):=(Fv hu ho hi he hs).imp λE σ H hq=>by
 obtain⟨φ,ρ,μ,N,A,M,w,L⟩:=hq
 refine⟨φ,ρ,μ,_,A,M,w,λd gy gT v1 H1 k1 f1 M1 i1=>?_⟩
 refine⟨gT,ρ,gy,_,A.mono f1,M1,k1,λd2 jb l8 v2 H2 k2 f2 M2 i2=>?_⟩
 refine⟨l8,ρ,jb,_,A.mono (f1.trans f2),M2,k2,λd3 uS Ha v3 H3 k3 f3 M3 i3=>?_⟩
 cases d2 with
 | mr j =>
  obtain⟨ks,ds,k,em,hl,ek,k3⟩:=k3
  obtain⟨p,hp,rfl⟩:=i2.mono f3
  obtain⟨p',e1,fX,hv,h1,ha⟩:=M3.at_ j _ em
  rw[hp]at e1;cases e1
  obtain⟨b,rfl,hb⟩:=FO ek i3
  have f4:Fr Ha H3 Ha (upd H3 p (.dT (putK fX k v1))):=.put (kA hp)
  obtain⟨g1,g2⟩:=Jt (k:=k) ((i1.mono (f2.trans f3)).mono f4) (ha.mono f4)
  rw[h1]at g1 g2
  refine⟨p,_,rfl,Dc.t hv hb (by have:=cH List.length h1;rw[ia]at this;lia),?_⟩
  exact L.nx ρ _ Ha σ _ k3 ((f1.trans (f2.trans f3)).trans f4) (A.mono ((f1.trans (f2.trans f3)).trans f4)) (M3.put (k:=j) hp ⟨putK fX k v1,gp,g1,g2⟩)
 |_=>exact k3.elim
end
def vk (es:au Int)(ts:au Tk)(a:Int)(i j:Nat):au Nat:=(List.range ts.length).filter λx=>match ts[x]? with
 |some t=>decide (t.2<=a)&&decide (es.getD j 0<=jd es t.1 (es.getD i 0))
 |none=>false
def o6 (T U:Nat->Nat->Int)(i j:Nat):au Nat:=((List.range (j - (i+1))).map (i+1+·)).filter λk=>decide (U i k+U k j+1=T i j)
def j4 (es:au Int)(ts:au Tk):Nat->Nat->Nat->Int
 |0,_,_=>0
 |a+1,i,j=>if fZ es ts (a+1) i j=0 then((vk es ts a i j).length:Nat)else((o6 (fZ es ts (a+1)) (fZ es ts a) i j).map λk=>j4 es ts a i k*j4 es ts a k j).sum
def jW {T U:Nat->Nat->Int}{i j k:Nat}:k∈o6 T U i j↔i<k/\k<j/\U i k+U k j+1=T i j:=by
 unfold o6
 rw[fH,List.mem_map,bN]
 constructor
 .rintro⟨⟨x,hx,rfl⟩,h⟩
  rw[cf]at hx
  exact⟨by lia,by lia,h⟩
 .rintro⟨h1,h2,h3⟩
  exact⟨⟨k - (i+1),List.mem_range.mpr (by lia),by lia⟩,h3⟩
def Ol (T U:Nat->Nat->Int)(i j:Nat):(o6 T U i j).length<=j - (i+1):=by
 unfold o6
 refine aV (dG _ _) ?_
 rw[ia,pW];exact aw _
def Of (es:au Int)(ts:au Tk)(a:Int)(i j:Nat):(vk es ts a i j).length<=ts.length:=by
 unfold vk
 refine aV (dG _ _) ?_
 rw[pW];exact aw _
def JF {f:Nat->Int}{B:Int}(hB:0<=B):∀ {l:au Nat},(∀ x∈l,0<=f x/\f x<=B)->0<=(l.map f).sum/\(l.map f).sum<=(l.length:Int)*B
 |[],_=>by simp
 | x::l,h=>by
  have h1:=h x (by simp)
  have h2:=JF hB (l:=l) λy hy=>h y (by simp[hy])
  rw[aB,cx,a9]
  refine⟨by lia,?_⟩
  have e:(((l.length+1:Nat):Int))*B=(l.length:Int)*B+B:=by rw[Int.natCast_add,Int.add_mul];simp
  lia
def pJ {es:au Int}{ts:au Tk}(hL:es.length<=100)(ht:ts.length<=100):∀(a i j:Nat),i<j->j<es.length->0<=j4 es ts a i j/\j4 es ts a i j<=128 ^ (2*(j - i) - 1)
 |0,i,j,_,_=>⟨by show(0:Int)<=0;lia,by show(0:Int)<=_;exact dw (Int.pow_pos (by lia))⟩
 | a+1,i,j,pV,hj=>by
  have hp:∀ n:Nat,(0:Int)<128 ^ n:=λn=>Int.pow_pos (by lia)
  have e1:(128:Int) ^ (2*(j - i) - 1)=128 ^ (2*(j - i) - 2)*128:=by rw[<- Int.pow_succ,show(2*(j - i) - 2).succ=2*(j - i) - 1 by lia]
  have hq:=hp (2*(j - i) - 2)
  rw[e1]
  generalize hB:(128:Int) ^ (2*(j - i) - 2)=B at hq ⊢
  show 0<=(if fZ es ts (a+1) i j=0 then(((vk es ts a i j).length:Nat):Int)else _)/\(if fZ es ts (a+1) i j=0 then(((vk es ts a i j).length:Nat):Int)else _)<=_
  split
  .have:=Of es ts a i j
   refine⟨by lia,?_⟩
   lia
  .have hm:=Ol (fZ es ts (a+1)) (fZ es ts a) i j
   have key:∀ k∈o6 (fZ es ts (a+1)) (fZ es ts a) i j,0<=j4 es ts a i k*j4 es ts a k j/\j4 es ts a i k*j4 es ts a k j<=B:=λk hk=>by
    obtain⟨h1,h2,_⟩:=jW.mp hk
    have b1:=pJ hL ht a i k h1 (by lia)
    have b2:=pJ hL ht a k j h2 hj
    refine⟨Int.mul_nonneg b1.1 b2.1,?_⟩
    have:=Int.mul_le_mul b1.2 b2.2 b2.1 (dw (hp _))
    rw[<- Int.pow_add]at this
    rw[<- hB,show 2*(j - i) - 2=2*(k - i) - 1+(2*(j - k) - 1) by lia]
    exact this
   obtain⟨s1,s2⟩:=JF (dw hq) key
   refine⟨s1,bB s2 ?_⟩
   rw[Int.mul_comm B]
   exact Int.mul_le_mul_of_nonneg_right (by lia) (dw hq)
def GU {x:Int}{d:Nat}(h0:0<=x)(h:x<=128 ^ d)(hd:d<=2000):Builtin.Int.intBits x<=2 ^ 20:=by
 refine intBits_le_iff.mpr ?_
 have e:(128:Int) ^ d=((2 ^ (7*d):Nat):Int):=by rw[Nat.pow_mul];norm_cast
 have h1:x.natAbs<=2 ^ (7*d):=by lia
 refine cw h1 (Nat.pow_lt_pow_right (by lia) ?_)
 have:(2:Nat) ^ 20=1048576:=by decide
 lia
def EC {es:au Int}{ts:au Tk}(hL:es.length<=100)(ht:ts.length<=100)(a i k j:Nat)(h1:i<k)(h2:k<j)(hj:j<es.length):IntMulOk (j4 es ts a i k) (j4 es ts a k j):=by
 have b1:=pJ hL ht a i k h1 (by lia)
 have b2:=pJ hL ht a k j h2 hj
 exact .of_bits (GU b1.1 b1.2 (by lia)) (GU b2.1 b2.2 (by lia))
section
variable {X:Cx}
def R9:lC X (binaryOp .Mult) (rI IntMulOk λi j=>.int (i*j)):=Uh λ_ _ _ _ _ _ _ hc q=>mul_int q hc
end
def QS:xP:=λx y μ K=>match x,y with
 |.int i,.int j=>IntMulOk i j/\K (.int (i*j)) μ
 |_,_=>False
def zN:rp (rI IntMulOk λi j=>.int (i*j)) QS:=λφ H x y dx dy μ K Q M hx hy k L=>by
 unfold QS at k
 split at k
 .cases(show x=_ from hx);cases(show y=_ from hy);exact⟨_,_,rfl,rfl,k.1,L.val M k.2 rfl⟩
 .exact k.elim
def vh (a:Int)(i j:Nat):D:=.tup [.int a,.int i,.int j]
def stK (a i j:Nat):au Key:=[.inl (a:Int),.inl (i:Int),.inl (j:Int)]
def Fd {a i j b k l:Nat}(h:stK a i j=stK b k l):a=b/\i=k/\j=l:=by
 unfold stK at h
 simp only[cE,Sum.inl.injEq,and_true]at h
 lia
def EG:au Str:=["places","rows","tables","whole","counts"]
def IC (es:au Int)(ts:au Tk)(A j:Nat):au D:=[.lst (es.map D.int),.lst (ts.map (ju es)),.jX (mI (A+1)) (nJ es ts (A+1)),vh A 0 (es.length - 1),.mr j]
inductive Memo (es:List Int)(ts:List Tk)(A:Nat):List (List Key)->List D->Prop
 |nil:Memo es ts A [] []
 |add {ks:List (List Key)} {ds:List D} (h:Memo es ts A ks ds) {a i j:Nat} (ha:a<=A) (hi:i<es.length) (hj:j<es.length) (hn:stK a i j∉ks):Memo es ts A (ks++[stK a i j]) (ds++[.int (j4 es ts (a+1) i j)])
def Memo.len {es:au Int}{ts:au Tk}{A:Nat}{ks:au (au Key)}{ds:au D}(h:Memo es ts A ks ds):ds.length=ks.length:=by
 induction h with
 |nil=>rfl
 |add h ha hi hj hn ih=>simp[ih]
def Js {ks ow:au (au Key)}{ds ua:au D}(k:au Key)(hl:ds.length=ks.length):sD (ks++ow) (ds++ua) k=match sD ks ds k with | some d=>some d | none=>sD ow ua k:=by
 induction ks generalizing ds with
 | nil=>cases ds with
  |nil=>rfl
  |cons _ _=>cases hl
 | cons k0 ks ih =>
  cases ds with
  |nil=>cases hl
  | cons d ds =>
   simp only[dR,sD]
   by_cases h:k0=k
   .rw[aF h,aF h]
   .rw[aG h,aG h];exact ih (by simpa using hl)
def Memo.get {es:au Int}{ts:au Tk}{A:Nat}{ks:au (au Key)}{ds:au D}(h:Memo es ts A ks ds)(a i j:Nat):(stK a i j∉ks/\sD ks ds (stK a i j)=none)\/(stK a i j∈ks/\sD ks ds (stK a i j)=some (.int (j4 es ts (a+1) i j))):=by
 induction h with
 |nil=>exact .inl ⟨by simp,rfl⟩
 | @add ks ds h b k l ha hi hj hn ih =>
  rw[Js _ h.len]
  rcases ih with⟨h1,h2⟩|⟨h1,h2⟩
  .rw[h2]
   by_cases e:stK b k l=stK a i j
   .obtain⟨rfl,rfl,rfl⟩:=Fd e
    right
    exact⟨by simp,by simp[sD]⟩
   .left
    refine⟨λz=>?_,by simp only[sD];rw[aG e]⟩
    rcases List.mem_append.mp z with z|z
    .exact h1 z
    .exact e (List.mem_singleton.mp z).symm
  .rw[h2];right;exact⟨dM _ h1,rfl⟩
def stN (L a i j:Nat):Nat:=(a*L+i)*L+j
def Cc:∀(N:Nat) (l:au Nat),l.Nodup->(∀ x∈l,x<N)->l.length<=N
 | 0,l,_,h=>by
  cases l with
  |nil=>exact aw _
  |cons x l=>exact absurd (h x (by simp)) (Nat.not_lt_zero _)
 | N+1,l,nd,h=>by
  have h1:=Cc N (l.filter λx=>decide (x≠N)) (nd.sublist dU) λx hx=>by
   rw[fH,bN]at hx
   have:=h x hx.1;lia
  have h2:l.length<=(l.filter λx=>decide (x≠N)).length+1:=by
   clear h1 h
   induction l with
   |nil=>simp
   | cons x l ih =>
    rw[List.nodup_cons]at nd
    rw[cF]
    by_cases e:x=N
    .subst e
     have:l.filter (λy=>decide (y≠x))=l:=List.filter_eq_self.mpr λy hy=>by
      rw[bN];rintro rfl;exact nd.1 hy
     rw[aG (by simp),this,a9]
     lia
    .rw[aF (by simp[e]),a9,a9]
     have:=ih nd.2;lia
  lia
def Memo.codes {es:au Int}{ts:au Tk}{A:Nat}{ks:au (au Key)}{ds:au D}(h:Memo es ts A ks ds):∃ cs:au (Nat×Nat×Nat),cs.Nodup/\(∀ c∈cs,c.1<=A/\c.2.1<es.length/\c.2.2<es.length)/\ks=cs.map λc=>stK c.1 c.2.1 c.2.2:=by
 induction h with
 |nil=>exact⟨[],by simp,by simp,rfl⟩
 | @add ks ds h a i j ha hi hj hn ih =>
  obtain⟨cs,h1,h2,rfl⟩:=ih
  refine⟨cs++[(a,i,j)],?_,?_,by simp⟩
  .rw[fb]
   refine⟨h1,by simp,λx hx y hy=>?_⟩
   rw[List.mem_singleton.mp hy]
   rintro rfl
   exact hn (List.mem_map.mpr ⟨_,hx,rfl⟩)
  .intro c hc
   rcases List.mem_append.mp hc with hc|hc
   .exact h2 c hc
   .rw[List.mem_singleton.mp hc];exact⟨ha,hi,hj⟩
def Rj {L a i j A:Nat}(ha:a<=A)(hi:i<L)(hj:j<L):stN L a i j<(A+1)*L*L:=by
 unfold stN
 have h1:a*L+i<(A+1)*L:=by
  have:(a+1)*L<=(A+1)*L:=Nat.mul_le_mul_right L (by lia)
  rw[Nat.add_mul]at this;lia
 have h2:(a*L+i+1)*L<=(A+1)*L*L:=Nat.mul_le_mul_right L h1
 rw[Nat.add_mul]at h2;lia
def E5 {L x y x' y':Nat}(hy:y<L)(OC:y'<L)(h:x*L+y=x'*L+y'):x=x'/\y=y':=by
 have hL:0<L:=by lia
 have q:∀ u v:Nat,v<L->(u*L+v) / L=u:=λu v hv=>by rw[Nat.mul_comm,Nat.mul_add_div hL,Nat.div_eq_of_lt hv,Nat.add_zero]
 have e:x=x':=by rw[<- q x y hy,h,q x' y' OC]
 subst e
 exact⟨rfl,by lia⟩
def Nq {L a i j b k l:Nat}(hi:i<L)(hj:j<L)(hk:k<L)(hl:l<L)(h:stN L a i j=stN L b k l):a=b/\i=k/\j=l:=by
 obtain⟨h1,h2⟩:=E5 hj hl h
 obtain⟨h3,h4⟩:=E5 hi hk h1
 exact⟨h3,h4,h2⟩
def Memo.bd {es:au Int}{ts:au Tk}{A:Nat}{ks:au (au Key)}{ds:au D}(h:Memo es ts A ks ds):ks.length<=(A+1)*es.length*es.length:=by
 obtain⟨cs,h1,h2,rfl⟩:=h.codes
 rw[ia]
 have:=Cc ((A+1)*es.length*es.length) (cs.map λc=>stN es.length c.1 c.2.1 c.2.2) ?_ ?_
 .rwa [ia]at this
 .refine List.pairwise_map.mpr (List.Pairwise.imp_of_mem (λ{x y} hx hy ne e=>ne ?_) h1)
  obtain⟨x1,x2,x3⟩:=h2 _ hx
  obtain⟨y1,y2,y3⟩:=h2 _ hy
  obtain⟨e1,e2,e3⟩:=Nq x2 x3 y2 y3 e
  exact Prod.ext e1 (Prod.ext e2 e3)
 .intro x hx
  obtain⟨c,hc,rfl⟩:=List.mem_map.mp hx
  obtain⟨a1,a2,a3⟩:=h2 c hc
  exact Rj a1 a2 a3
structure Bm (C:ao)(μ:MS)(k:Nat)(es:List Int)(ts:List Tk)(A j a i b:Nat):Prop where
 at_:μ[k]?=some (.ins C EG (IC es ts A j))
 ha:a<=A
 Ig:i<b
 hb:b<es.length
 hl:es.length<=100
 ht:ts.length<=100
 hA:A<=100
 ok:fZ es ts (a+1) i b<(es.length:Int) - 1
def vp {C:ao}{μ:MS}{k:Nat}{ns:au Str}{ds:au D}{f:Str}{d:D}(h:μ[k]?=some (.ins C ns ds))(e:kK f ns ds=some d):(ye C μ k).bind (λq=>kK f q.1 q.2)=some d:=by rw[pf h];exact e
def qZ {C:ao}{μ:MS}{k:Nat}{ns:au Str}{ds:au D}{f:Str}(h:μ[k]?=some (.ins C ns ds))(e:kK f ns ds=none):(ye C μ k).map (λq=>kK f q.1 q.2)=some none:=by rw[pf h];exact cH some e
section
variable {es:au Int}{ts:au Tk}{A j:Nat}
def zi:kK "places" EG (IC es ts A j)=some (.lst (es.map D.int)):=by kernel_rfl
def Pa:kK "rows" EG (IC es ts A j)=some (.lst (ts.map (ju es))):=by kernel_rfl
def uM:kK "tables" EG (IC es ts A j)=some (.jX (mI (A+1)) (nJ es ts (A+1))):=by kernel_rfl
def CT:kK "whole" EG (IC es ts A j)=some (vh A 0 (es.length - 1)):=by kernel_rfl
def uN:kK "counts" EG (IC es ts A j)=some (.mr j):=by kernel_rfl
def rm {f:Str}(h:f∈([("is_take" : Str), "clean_takes","halves","counted","count_anew","numbered","rank"]:au Str)):kK f EG (IC es ts A j)=none:=by
 simp only[aR,aL,bQ]at h
 rcases h with rfl|rfl|rfl|rfl|rfl|rfl|rfl<;>kernel_rfl
def zF {a:Nat}(ha:a<=A):uH ((mI (A+1)).zip (nJ es ts (A+1))) (.inl (a:Int))=some (.lst (kG es.length (fZ es ts (a+1)))) :=
 wj (xs:=List.range (A+1)) (k:=a) (λk=>D.lst (kG es.length (fZ es ts (k+1)))) (List.mem_range.mpr (by lia))
def zJ {T:Nat->Nat->Int}{L i:Nat}(h:i<L):lB (kG L T) (i:Int)=some (.lst (jR L (T i))):=kO (p6 h)
def zX {f:Nat->Int}{L i:Nat}(h:i<L):lB (jR L f) (i:Int)=some (.int (f i)):=kO (ng h)
end
def vW (C:ao):jP:=λds μ K=>match ds with
 |[.mr k,s]=>∃(es:au Int) (ts:au Tk) (A j a i b:Nat),Bm C μ k es ts A j a i b/\s=vh a i b/\K (.bl (decide (fZ es ts (a+1) i b=0))) μ
 |_=>False
def v7 (C:ao):jP:=λds μ K=>match ds with
 |[.mr k,s]=>∃(es:au Int) (ts:au Tk) (A j a i b:Nat),Bm C μ k es ts A j a i b/\s=vh a i b/\K (.lst ((vk es ts a i b).map λx=>.int (x:Nat))) μ
 |_=>False
def FW (es:au Int)(a i b k:Nat):D:=.tup [.int (es.getD k 0),vh ((a:Int) - 1) i k,vh ((a:Int) - 1) k b]
def vX (C:ao):jP:=λds μ K=>match ds with
 |[.mr k,s]=>∃(es:au Int) (ts:au Tk) (A j a i b:Nat),Bm C μ k es ts A j a i b/\s=vh a i b/\1<=a/\K (.lst ((o6 (fZ es ts (a+1)) (fZ es ts a) i b).map (FW es a i b))) μ
 |_=>False
structure TR (es:List Int)(ts:List Tk):Prop where
 nn:∀ a x y,x<es.length->y<es.length->0<=fZ es ts a x y
 z:∀ x y,x<es.length->y<es.length->fZ es ts 1 x y<(es.length:Int) - 1->fZ es ts 1 x y=0
def uG (C:ao)(n:Nat):jP:=λds μ K=>match ds with
 | [.mr k,s]=>∃(es:au Int) (ts:au Tk) (A j a i b:Nat) (ks:au (au Key)) (dd:au D),Bm C μ k es ts A j a i b/\s=vh a i b/\a<n/\TR es ts/\k≠j/\μ[j]?=some (.nB ks dd)/\Memo es ts A ks dd /\
  ∀ ow oP,Memo es ts A ow oP->K (.int (j4 es ts (a+1) i b)) (μ.set j (.nB ow oP))
 |_=>False
def Bm.put {C:ao}{μ:MS}{k:Nat}{es:au Int}{ts:au Tk}{A j a i b:Nat}{m:MO}(h:Bm C μ k es ts A j a i b)(hk:k≠j):Bm C (μ.set j m) k es ts A j a i b:=⟨by rw[bo (bD hk)];exact h.at_,h.ha,h.Ig,h.hb,h.hl,h.ht,h.hA,h.ok⟩
def gL.never {P:ah}{w:ai}{K:aa}{mg:Str->av ar}{fK:Heap}{CX:G8}{k:Nat}{f:ao}{fd:aj}{ps:au Str}{sp:Sp}(h:∀ vs H Q E,¬ sp vs H Q E):gL P w K mg fK CX k f fd ps sp :=
 ⟨λvs H Q E q=>(h vs H Q E q).elim,λA fV s H args us vs Q E _ _ _ _ q=>(h vs H Q E q).elim⟩
def Il {C:ao}(vs:au V)(H:Hp)(Q:VK)(E:XK):¬ iD (uG C 0) vs H Q E:=λh=>by
 obtain⟨φ,ds,μ,K,_,_,h,_⟩:=h
 unfold uG at h
 split at h
 .obtain⟨es,ts,A,j,a,i,b,ks,dd,_,_,h,_⟩:=h;lia
 .exact h
def Gp (C:ao):jP:=λds μ K=>match ds with
 | [.mr k,.int n,.lst x,.lst y]=>∃(cs:au Int) (ts:au Tk),x=cs.map D.int/\y=ts.map ny/\gM n cs ts/\cs.length<=60/\jZ (fI n cs) ts=none/\μ[k]?=some (.ins C [] []) /\
  ∀ A:Nat,A<=66->iT (fI n cs) ts n A->K .ic (μ.set k (.ins C EG (IC (fI n cs) ts A μ.length))++[.nB [] []])
 |_=>False
def yD {n:Int}{cs:au Int}{ts:au Tk}(S:gM n cs ts)(x y:Nat)(hx:x<(fI n cs).length)(hy:y<(fI n cs).length)(h:fZ (fI n cs) ts 1 x y<((fI n cs).length:Int) - 1):fZ (fI n cs) ts 1 x y=0:=by
 have s0:=lE S 0
 have s1:=lE S 1 x y hx hy
 by_cases q:y<=x
 .exact s1.1 q
 .rcases s1.2 (by lia)with⟨_,e⟩ | ⟨g1,g2,g3⟩
  .lia
  .rw[g3]
   have:mO (fI n cs) ts 1 x y<=1:=by
    show lD (fI n cs) (jc (fI n cs) ts (0:Nat)) (mO (fI n cs) ts 0) x y<=1
    unfold lD
    split
    .lia
    .split
     .lia
     .have:pK (mO (fI n cs) ts 0) x y=[]:=List.eq_nil_iff_forall_not_mem.mpr λv hv=>by
       obtain⟨k,_,_,z,_⟩:=lK.mp hv
       exact absurd z (by show ¬ (0:Int)<0*0;lia)
      rw[this];show(0:Int)<=1;lia
   lia
def Gb {α:Type}(p:α->Bool)(f:α->D):∀ xs:au α,xs.filterMap (λx=>if p x=true then some (f x)else none)=(xs.filter p).map f
 |[]=>rfl
 | x::xs=>by
  rw[c7,cF]
  by_cases h:p x=true
  .rw[aF h,aF h];show _::_=_;rw[Gb p f xs];rfl
  .rw[aG h,aG h];exact Gb p f xs
def Ez (ds:au D):nX ds=(List.range ds.length).map λx=>D.tup [.int (x:Nat),ds.getD x .ic]:=by
 apply cJ
 intro i
 rw[nF]
 by_cases h:i<ds.length
 .rw[ba h]
  unfold nX
  rw[bT,ba h,iM h]
  simp[aC,iM h]
 .rw[fw (by rw[mW];lia),fw (by rw[pW];lia)];rfl
def ND (i:Int)(n:Nat):kz i n=(List.range n).map λx=>D.int (i+(x:Nat)):=rfl
def JQ {es:au Int}{ts:au Tk}{x:Nat}{t:Tk}(h:ts[x]?=some t):(ts.map (ju es)).getD x .ic=ju es t:=by rw[aC,nF,h];rfl
def BH {n:Int}{cs:au Int}{ts:au Tk}(S:gM n cs ts):TR (fI n cs) ts:=by
 refine⟨λa x y hx hy=>?_,λx y hx hy h=>yD S x y hx hy h⟩
 have s:=lE S a x y hx hy
 by_cases q:y<=x
 .rw[s.1 q];lia
 .rcases s.2 (by lia)with⟨_,e⟩|⟨_,_,e⟩<;> lia
def FV (es:au Int)(a i b:Nat):FW es (a+1) i b=λk=>D.tup [.int (es.getD k 0),vh a i k,vh a k b]:=by
 funext k
 unfold FW
 rw[show((a+1:Nat):Int) - 1=(a:Int) by lia]
def BJ {f:Nat->Int}{M:au Nat}{z:Nat}(h:z<M.length):((M.take (z+1)).map f).sum=((M.take z).map f).sum+f M[z]:=by
 rw[List.take_succ,iM h,bS,List.sum_append]
 simp
def D6 (T U:Nat->Nat->Int)(i b:Nat):o6 T U i b=((List.range (b - (i+1))).filter λx=>decide (U i (i+1+x)+U (i+1+x) b+1=T i b)).map (i+1+·):=by
 unfold o6
 rw[List.filter_map];rfl
def Memo.same {es:au Int}{ts:au Tk}{A:Nat}{ks:au (au Key)}{ds:au D}(h:Memo es ts A ks ds)(a i b:Nat):∀ p∈ks.zip ds,p.1=stK a i b->p.2=.int (j4 es ts (a+1) i b):=by
 induction h with
 |nil=>intro p hp;cases hp
 | @add ks ds h b' k' l' ha hi hj hn ih =>
  intro p hp e
  rw[List.zip_append h.len.symm]at hp
  rcases List.mem_append.mp hp with hp|hp
  .exact ih p hp e
  .simp only[cQ,List.zip_nil_right,List.mem_singleton]at hp
   subst hp
   obtain⟨rfl,rfl,rfl⟩:=Fd e
   rfl
def Memo.put {es:au Int}{ts:au Tk}{A:Nat}{ks:au (au Key)}{ds:au D}(h:Memo es ts A ks ds){a i b:Nat}(ha:a<=A)(hi:i<es.length)(hb:b<es.length):
 Memo es ts A (zE ks ds (stK a i b) (.int (j4 es ts (a+1) i b))).1 (zE ks ds (stK a i b) (.int (j4 es ts (a+1) i b))).2/\stK a i b∈(zE ks ds (stK a i b) (.int (j4 es ts (a+1) i b))).1:=by
 have em:(ks.any λx=>decide (x=stK a i b))=true↔stK a i b∈ks:=by simp only[fE,bN];exact⟨λq9=>by obtain⟨x,h1,h2⟩:=q9;exact h2▸h1,λh=>⟨_,h,rfl⟩⟩
 unfold zE
 by_cases q:stK a i b∈ks
 .rw[aF (em.mpr q)]
  refine⟨?_,q⟩
  have e:(ks.zip ds).map (λp=>if p.1=stK a i b then D.int (j4 es ts (a+1) i b)else p.2)=ds:=by
   have e1:(ks.zip ds).map (λp=>if p.1=stK a i b then D.int (j4 es ts (a+1) i b)else p.2)=(ks.zip ds).map (·.2):=cm λp hp=>by
    by_cases z:p.1=stK a i b
    .rw[aF z,h.same a i b p hp z]
    .rw[aG z]
   rw[e1,List.map_snd_zip (by rw[h.len];exact aw _)]
  rw[e];exact h
 .rw[aG λz=>q (em.mp z)]
  exact⟨h.add ha hi hb q,by simp⟩
inductive My (es:List Int)(ts:List Tk)(n:Int):Int->Prop
 |no (h:jZ es ts≠none):My es ts n 0
 |yes (a:Nat) (ha:a<=66) (hb:jZ es ts=none) (h:iT es ts n a):My es ts n (j4 es ts (a+1) 0 (es.length - 1))
def My.uniq {es:au Int}{ts:au Tk}{n c c':Int}(h:My es ts n c)(h':My es ts n c'):c'=c:=by
 cases h with
 | no h =>
  cases h' with
  |no _=>rfl
  |yes a ha hb _=>exact absurd hb h
 | yes a ha hb la =>
  cases h' with
  |no h=>exact absurd hb h
  |yes b _ _ lb=>rw[la.uniq lb]
abbrev At (g:Heap)(b:ao):Prop:=∃ u,g.get? b=some u
structure Kp (g:Heap)(l:List Env)(h h':Heap):Prop where
 other:∀ b o,h.get? b=some o->At g b->b∉Ax l->h'.get? b=some o
 slot:∀ b o,h.get? b=some o->At g b->b∈Ax l->∃ sl,h'.get? b=some { o with slots:=sl}
def Kp.trans {g:Heap}{l:au Env}{h1 h2 h3:Heap}(a:Kp g l h1 h2)(b:Kp g l h2 h3):Kp g l h1 h3 :=
 ⟨λc o q lt hc=>b.other c o (a.other c o q lt hc) lt hc,λc o q lt hc=>by
  obtain⟨sl,e⟩:=a.slot c o q lt hc
  obtain⟨U1,e'⟩:=b.slot c _ e lt hc
  exact⟨U1,e'⟩⟩
def Kp.any {g:Heap}{l:au Env}{h h':Heap}(a:Kp g l h h'){b:ao}{o:Obj}(q:h.get? b=some o)(lt:At g b):∃ sl,h'.get? b=some { o with slots:=sl}:=by
 by_cases hb:b∈Ax l
 .exact a.slot b o q lt hb
 .exact⟨o.slots,a.other b o q lt hb⟩
def Kp.of {g:Heap}{l:au Env}{h h':Heap}(k:∀ b o,h.get? b=some o->At g b->h'.get? b=some o):Kp g l h h':=⟨λb o q lt _=>k b o q lt,λb o q lt _=>⟨o.slots,k b o q lt⟩⟩
abbrev Gk (g h:Heap):Prop:=∀ b,At g b->At h b
def Kp.gk {g:Heap}{l:au Env}{h h':Heap}(a:Kp g l h h')(k:Gk g h):Gk g h':=λb hb=>by
 obtain⟨o,e⟩:=k b hb
 obtain⟨sl,e'⟩:=a.any e hb
 exact⟨_,e'⟩
def Gk.fresh {g h:Heap}(k:Gk g h):g.get? h.objs.size=none:=by
 cases q:g.get? h.objs.size with
 |none=>rfl
 |some o=>obtain⟨o',e⟩:=k _ ⟨o,q⟩;exact absurd (jk e) (b8 _)
def GX {g:Heap}{b c:ao}(h:At g b)(hc:g.get? c=none):c≠b:=λz=>by obtain⟨u,e⟩:=h;rw[<- z,hc]at e;cases e
def EO (g:Heap)(e:ao)(cls fl:ar)(h:Heap):Prop:=∃(oe:Obj) (vs:Array ar) (T:ao) (oT:Obj) (ts:Array ar),(h.get? e=some oe/\(oe.cls=cls/\oe.dict=none)/\oe.data=.fields vs/\vs[1]?=some (.ref T)/\vs[2]?=some .none)/\(g.get? T=none/\T≠e/\h.get? T=some oT/\oT.data=.fields ts/\ts[3]?=some fl)/\g.get? e=none
section
variable {M:Model}{A:Around}{E:ar->ak->Prop}{s:ak}
def yY {fK:Heap}{env:Env}{fV:au Env}{L e:ao}{oe:Obj}{vs:Array ar}{head:ar}{OK:Bool}{g:Heap}{Q:Unit->ak->Prop}
 (OJ:A.frames=some (env::fV)) (hl:s.heap.FunFrames fK (env::fV)) (hf:env.frame=some L) (he:s.heap.get? e=some oe) (ZD:oe.dict=none) (hd:oe.data=.fields vs) (h1:1<vs.size) (h2:vs[2]?=some .none) (hn:g.get? e=none) (hs:Gk g s.heap)
 (h:∀ h',EO g e oe.cls (rawInt L) h'->Kp g (env::fV) s.heap h'->Q () {s with heap:=h'}):
 wpAny M A (do let a <- frameOf env;let pl <- entryPlaceOf L OK;let b <- EntryCells.newEntry head a .none (rawInt L) .none pl;setField (.ref e) 1 b) Q E s:=by
 have Zx:e∉(env::fV).filterMap (·.frame):=λhm=>by
  obtain⟨_,o,ho,hnf⟩:=hl.mem hm
  rw[he]at ho;injection ho with ho;subst ho;exact hnf vs hd
 refine f9 (wpAny_frameOf_fun OJ hl hf λm x=>?_)
 refine f9 (wpAny_entryPlaceOf λpl qr=>?_)
 unfold EntryCells.newEntry newFields
 refine f9 (dk ?_ (qr.sizeOk5 _ _ _ _ _))
 obtain⟨rec,SN⟩:∃ rec:Obj,rec={ cls:=.type "traceback",dict:=none,data:=.fields ([head,.ref L,.none,rawInt L,.none]++(if pl.isEmpty then List.replicate 6 Value.none else pl)).toArray}:=⟨_,rfl⟩
 rw[<- SN]
 have e1:m.get? e=some oe:=(x.2.1 e Zx).trans he
 have e2:=j6 rec e1
 have hT:(m.push rec).get? m.objs.size=some rec:=aI m (by rw[SN];rfl)
 have Ta:m.objs.size≠e:=bw (jk e1)
 have VV:=eG hd (·.setIfInBounds 1 (Value.ref m.objs.size))
 have e3:=bL (Obj.mapFields (·.setIfInBounds 1 (Value.ref m.objs.size))) e2 (fv VV)
 refine dq e2 hd h1 (h _ ⟨_,_,m.objs.size,rec,_,⟨e3,⟨Obj.cls_mapFields _ _,by show(Obj.mapFields _ oe).dict=none;unfold Obj.mapFields;split<;>exact ZD⟩,VV,by simp[h1],by rw[Array.getElem?_setIfInBounds_ne (by decide)];exact h2⟩,⟨by rw[x.1];exact hs.fresh,Ta,?_,by rw[SN],?_⟩,hn⟩ ⟨λb o q lt hb=>?_,λb o q lt hb=>?_⟩)
 .rw[aX _ _ (bD Ta)];exact hT
 .first|(simp;done)|(rcases qr with rfl|⟨_,_,_,_,_,_,_,rfl⟩<;> simp)
 .rw[aX _ _ (GX lt hn)]
  exact j6 _ ((x.2.1 b hb).trans q)
 .obtain⟨sl,q'⟩:=x.2.2 b o q
  exact⟨sl,by rw[aX _ _ (GX lt hn)];exact j6 _ q'⟩
def D3 {fK:Heap}{env:Env}{fV:au Env}{L e:ao}{oe:Obj}{vs:Array ar}{g:Heap}{Q:Unit->ak->Prop}
 (OJ:A.frames=some (env::fV)) (hl:s.heap.FunFrames fK (env::fV)) (hf:env.frame=some L) (he:s.heap.get? e=some oe) (ZD:oe.dict=none) (hd:oe.data=.fields vs) (h1:vs[1]?=some .none) (h2:vs[2]?=some .none) (hn:g.get? e=none) (hs:Gk g s.heap)
 (h:∀ h',EO g e oe.cls (rawInt L) h'->Kp g (env::fV) s.heap h'->Q () {s with heap:=h'}):wpAny M A (noteFrame (.ref e) env) Q E s:=by
 unfold noteFrame
 simp only[hf]
 refine f9 (aO he hd h1 ?_)
 rw[aG (by decide)]
 exact yY OJ hl hf he ZD hd (Array.getElem?_eq_some_iff.mp h1).1 h2 hn hs h
def HH {fK:Heap}{env:Env}{fV:au Env}{L e:ao}{cls:ar}{g:Heap}{Q:Unit->ak->Prop}
 (OJ:A.frames=some (env::fV)) (hl:s.heap.FunFrames fK (env::fV)) (hf:env.frame=some L) (hs:Gk g s.heap) (x:EO g e cls .none s.heap)
 (h:∀ h',EO g e cls (rawInt L) h'->Kp g (env::fV) s.heap h'->Q () {s with heap:=h'}):wpAny M A (noteFrame (.ref e) env) Q E s:=by
 obtain⟨oe,vs,T,oT,ts,⟨he,hc,hd,h1,h2⟩,⟨hn,Ta,hT,SY,h3⟩,Ll⟩:=x
 unfold noteFrame
 simp only[hf]
 refine f9 (aO he hd h1 ?_)
 rw[aF (show(Value.ref T != Value.none)=true from by simp)]
 refine f9 (aO hT SY h3 ?_)
 rw[aG (show ¬ ((Value.none==rawInt L)=true)from by simp[rawInt])]
 refine f9 (dq hT SY (Array.getElem?_eq_some_iff.mp h3).1 ?_)
 have other:∀ b,b≠T->(s.heap.update T (Obj.mapFields (·.setIfInBounds 3 Value.none))).get? b=s.heap.get? b:=λb hb=>aX _ _ (bD hb)
 have ff:(s.heap.update T (Obj.mapFields (·.setIfInBounds 3 Value.none))).FunFrames fK (env::fV):=hl.of_keeps λb o q nf=>⟨o,(other b λz=>by rw[z,hT]at q;cases q;exact nf _ SY).trans q,rfl⟩
 have k0:Kp g (env::fV) s.heap (s.heap.update T (Obj.mapFields (·.setIfInBounds 3 Value.none))):=Kp.of λb o q lt=>(other b (bD (GX lt hn))).trans q
 exact yY (g:=g) OJ ff hf ((other e (bD Ta)).trans he) hc.2 hd (Array.getElem?_eq_some_iff.mp h1).1 h2 Ll (k0.gk hs) λh' a k=>h h' (hc.1▸a) (k0.trans k)
def va {l:au Env}{e:ao}{cls fl:ar}{g:Heap}{Q:Unit->ak->Prop}(x:EO g e cls fl s.heap)
 (h:∀ h',EO g e cls .none h'->Kp g l s.heap h'->(∀ b o,s.heap.get? b=some o->(∀ vs,o.data≠.fields vs)->h'.get? b=some o)->Q () {s with heap:=h'}):wpAny M A (setFlight (.ref e) none) Q E s:=by
 obtain⟨oe,vs,T,oT,ts,⟨he,hc,hd,h1,h2⟩,⟨hn,Ta,hT,SY,h3⟩,Ll⟩:=x
 unfold setFlight
 refine f9 (aO he hd h1 ?_)
 rw[aF (show(Value.ref T != Value.none)=true from by simp)]
 have h3s:=(Array.getElem?_eq_some_iff.mp h3).1
 have VV:=eG SY (·.setIfInBounds 3 ((none:av ao).elim Value.none λf=>rawInt f))
 have other:∀ b,b≠T->(s.heap.update T (Obj.mapFields (·.setIfInBounds 3 ((none:av ao).elim Value.none λf=>rawInt f)))).get? b=s.heap.get? b:=λb hb=>aX _ _ (bD hb)
 refine dq hT SY h3s (h _ ⟨oe,vs,T,_,_,⟨(other e (bD Ta)).trans he,hc,hd,h1,h2⟩,⟨hn,Ta,bL _ hT (fv VV),VV,by simp[h3s]⟩,Ll⟩ (Kp.of λb o q lt=>(other b (bD (GX lt hn))).trans q) λb o q nf=>(other b λz=>by rw[z,hT]at q;cases q;exact nf _ SY).trans q)
end
def G9 (P:ah)(w:ai):G8:=λfV H s E ev s'=>∃(e:ao) (cls:ar) (H':Hp) (g:Heap),ev=.ref e/\s'.os=s.os/\AllBare s'.gens/\Un (Ax fV) [] H H' s.heap s'.heap/\pQ P w H' s'.heap/\(Gk s.heap g/\(∀ b,H' b≠none->At g b)/\Gk g s'.heap)/\EO g e cls .none s'.heap/\E cls none H'
def at_of {P:ah}{w:ai}{H:Hp}{h:Heap}{a:ao}{o:HO}(x:pQ P w H h)(e:H a=some o):At h a:=by
 have x:=x a o e
 cases o with
 |lst xs=>obtain⟨_,_,_,_,e⟩:=x;exact⟨_,e⟩
 |tup xs=>obtain⟨_,_,_,_,e,_⟩:=x;exact⟨_,e⟩
 |dK fX=>obtain⟨_,_,_,_,o,_,_,e,_⟩:=x;exact⟨_,e⟩
 |dT fX=>obtain⟨_,_,_,_,o,_,_,e,_⟩:=x;exact⟨_,e⟩
 |set S n=>obtain⟨o,_,_,_,e,_⟩:=x;exact⟨_,e⟩
 |ins C dx fs=>obtain⟨_,_,_,e,_⟩:=x;exact⟨_,e⟩
 |own y=>obtain⟨_,e⟩:=x;exact⟨_,e⟩
 |xd fs=>obtain⟨_,⟨_,_,_,e,_⟩,_⟩:=x;exact⟨_,e⟩
 |Xr lo hi=>obtain⟨_,_,_,e⟩:=x;exact⟨_,e⟩
 |Cv ob u=>obtain⟨e,_⟩:=x;exact⟨_,e⟩
 |PJ ps=>exact⟨_,(show h.get? a=some _ from x)⟩
 |met f y=>exact⟨_,(show h.get? a=some _ from x)⟩
 |ext φ=>obtain⟨_,⟨_,e⟩,_⟩:=x;exact⟨_,e⟩
def Lk {P:ah}{w:ai}{g h h':Heap}{l:au Env}{H:Hp}(x:pQ P w H h)(hb:∀ b,H b≠none->At g b/\b∉Ax l)(k:Kp g l h h'):pQ P w H h':=λa o e =>
 (x a o e).zL (λb u Bq q=>by
   have hn:H b≠none:=by rcases Bq with rfl|z<;>intro y<;>simp_all
   exact k.other b u q (hb b hn).1 (hb b hn).2) (λ_ q=>q) λ_ _ q=>q
section
variable {X:Cx}{fJ:au (ao×Obj)}{σ:St}{H H':Hp}{s:ak}{g h1 h2:Heap}
def Inv.exit (I:Inv X fJ σ H s)(hx:X.ex=[])(u:Un (Ax X.stack) [] H H' s.heap h1)(hg:Gk s.heap g)(k:Kp g X.stack h1 h2):Un X.fs [] X.H₀ H' X.s₀.heap h2:=by
 have nx:∀ b,b∉X.ex:=λb z=>by rw[hx]at z;cases z
 have nn:∀ b:ao,b∉([]:au ao):=λb z=>by cases z
 have atg:∀ b o,X.s₀.heap.get? b=some o->At g b:=λb o e=>by
  obtain⟨o',e'⟩:=I.fK.there b o e (nx b)
  exact hg b ⟨o',e'⟩
 refine⟨λb o e n hb _=>?_,λb o e n hb _=>?_,λb o e n _=>?_,λb o e _=>?_,λb xs e=>u.ub b xs (I.fK.ub b xs e),λb o xs e=>u.tx b o xs (I.fK.tx b o xs e),λb ps e=>?_⟩
 .have e1:=I.fK.keep b o e n hb (nx b)
  have n1:=I.fK.free b o e n (nx b)
  have hs:b∉Ax X.stack:=λz=>by
   rcases List.mem_cons.mp (I.wF b z)with y|y
   .exact absurd y (aE (aP (jk e) I.ok.above))
   .exact hb y
  exact k.other b o (u.keep b o e1 n1 hs (nn b)) (atg b o e) hs
 .obtain⟨sl,e1⟩:=I.fK.slot b o e n hb (nx b)
  have n1:=I.fK.free b o e n (nx b)
  obtain⟨sl2,e2⟩:=u.any e1 n1 (nn b)
  obtain⟨sl3,e3⟩:=k.any e2 (atg b o e)
  exact⟨sl3,e3⟩
 .obtain⟨o',e1⟩:=I.fK.there b o e (nx b)
  exact u.free b o' e1 (I.fK.free b o e n (nx b)) (nn b)
 .obtain⟨o',e1⟩:=I.fK.there b o e (nx b)
  obtain⟨o2,e2⟩:=u.there b o' e1 (nn b)
  obtain⟨sl,e3⟩:=k.any e2 (atg b o e)
  exact⟨_,e3⟩
 .obtain⟨m1,e1⟩:=I.fK.ug b ps e
  obtain⟨m2,e2⟩:=u.ug b _ e1
  exact⟨m1++m2,by rw[e2,Array.append_assoc]⟩
end
section
variable {P:ah}{w:ai}{K:aa}{mg:Str->av ar}{fK:Heap}{N:au Str}{qual:Str}{scope:Scope}{f:ao}{cd:ar}{A:Around}{fV:au Env}{s₀ s:ak}{H₀ H:Hp}{E:XK}{fJ:au (ao×Obj)}{σ:St}
def V6:Passes (G9 P w) (rh (G9 P w) P w K mg fK N qual scope f cd A fV s₀ H₀ E) E:=λfJ σ H s ev s' I c=>by
 obtain⟨e,cls,H',g,rfl,os,bare,un,iF,⟨g1,g2,g3⟩,ex,hE⟩:=c
 have I2:=I.Mc (s':=s') (ch:=[]) os un iF bare (λb z=>absurd z (by simp))
 have OJ:(rh (G9 P w) P w K mg fK N qual scope f cd A fV s₀ H₀ E).A.frames=some (envOfC qual scope s₀.heap.objs.size f cd::fV):=I.ok.frames
 show wpAny _ _ (leaving _ (.ref e)) _ _ s'
 unfold leaving
 refine f9 (HH OJ I2.stack rfl g3 ex λh1 x1 k1=>?_)
 refine va (l:=envOfC qual scope s₀.heap.objs.size f cd::fV) x1 λh2 x2 k2 _=>?_
 have k:=k1.trans k2
 exact⟨e,cls,H',g,rfl,os.trans I.os,bare,I.exit rfl un g1 k,Lk iF (λb hb=>⟨g2 b hb,λz=>hb (I2.sE b z)⟩) k,⟨λb hb=>by
  obtain⟨o,e0⟩:=hb
  obtain⟨o',e1⟩:=I.fK.there b o e0 (by simp[rh])
  exact g1 b ⟨o',e1⟩,g2,k.gk g3⟩,x2,hE⟩
def raises {h':Heap}{e:ao}{cls:ar}{vs:au ar}(I:Inv (rh (G9 P w) P w K mg fK N qual scope f cd A fV s₀ H₀ E) fJ σ H s)(x:Heap.MadeExcOf s.heap h' e cls vs)(hE:E cls none H):(rh (G9 P w) P w K mg fK N qual scope f cd A fV s₀ H₀ E).xe (.ref e) { s with heap:=h'}:=by
 have OJ:(rh (G9 P w) P w K mg fK N qual scope f cd A fV s₀ H₀ E).A.frames=some (envOfC qual scope s₀.heap.objs.size f cd::fV):=I.ok.frames
 obtain⟨t,he,htn,ht⟩:=x.there
 have ff:h'.FunFrames fK (envOfC qual scope s₀.heap.objs.size f cd::fV):=(show s.heap.FunFrames fK _ from I.stack).of_keeps λb o q _=>⟨o,x.keeps b o q,rfl⟩
 have gk:Gk s.heap h':=λb qo=>by obtain⟨o,q⟩:=qo;exact⟨o,x.keeps b o q⟩
 show wpAny _ _ (leaving _ (.ref e)) _ _ _
 unfold leaving
 refine f9 (D3 (s:={s with heap:=h'}) (g:=s.heap) OJ ff rfl he rfl rfl rfl rfl x.new gk λh1 x1 k1=>?_)
 refine va (l:=envOfC qual scope s₀.heap.objs.size f cd::fV) x1 λh2 x2 k2 _=>?_
 have k:=k1.trans k2
 have un:Un (Ax (envOfC qual scope s₀.heap.objs.size f cd::fV)) [] H H s.heap h':=Un.iW x.keeps
 have iF:pQ P w H h':=(show pQ P w H s.heap from I.iF).iW x.keeps
 refine⟨e,cls,H,s.heap,rfl,I.os,I.bare,I.exit rfl un (λb hb=>hb) k,Lk iF (λb hb=>⟨?_,λz=>hb (I.sE b z)⟩) k,⟨λb hb=>?_,λb hb=>?_,k.gk gk⟩,x2,hE⟩
 .cases q:H b with
  |none=>exact absurd q hb
  |some o=>exact at_of (show pQ P w H s.heap from I.iF) q
 .obtain⟨o,e0⟩:=hb
  obtain⟨o',e1⟩:=I.fK.there b o e0 (by simp[rh])
  exact⟨o',e1⟩
 .cases q:H b with
  |none=>exact absurd q hb
  |some o=>exact at_of (show pQ P w H s.heap from I.iF) q
end
abbrev DX:=ar->MS->Prop
def CY (φ:au ao)(H:Hp)(Kx:DX)(E:XK):Prop:=∀ c gq gN H',Kx c gq->Fr φ H gN H'->gE gN H' gq->E c none H'
abbrev A9:=au D->MS->DK->DX->Prop
def UY (f:A9):Sp:=λvs H Q E=>∃ φ ds μ K Kx,gh φ H ds vs/\gE φ H μ/\f ds μ K Kx/\wz φ H K Q/\CY φ H Kx E
structure T4 (P:ah)(w:ai)(K:aa)(mg:Str->Option ar)(fK:Heap)(x:Str)(k:Nat)(ps:List Str)(sp:Sp):Prop where
 ex:∃ f fd,gL P w K mg fK (G9 P w) k f fd ps sp/\mg x=some (.ref f)/\W.keepIn K (.ref f)=true/\Binds K fd ps []
structure Rm (X:Cx)(lq:List ao)(H0:Hp)(Kx:DX):Prop where
 ex:∃ E:XK,CY lq H0 Kx E/\Passes (G9 X.prog X.w) X E/\∀(fJ:List (ao×Obj)) (σ:St) (H:Hp) (s:ak) (h':Heap) (e:ao) (cls:ar) (vs:List ar),Inv X fJ σ H s->Heap.MadeExcOf s.heap h' e cls vs->E cls none H->X.xe (.ref e) {s with heap:=h'}
def gE.Zt {φ lq:au ao}{H H0:Hp}{μ:MS}(M:gE φ H μ)(e:μ[0]?=some (.gx lq H0)):Fr lq H0 φ H:=let ⟨_,_,h⟩:=M.at_ 0 _ e;h.1
def yr.nt {φ:au ao}{H:Hp}{m:MO}{p:ao}(h:yr φ H m p)(zs:au V):H p≠some (.tup zs):=λe=>by
 cases m with
 |box=>obtain⟨q,ns,i,r,z,h1,_⟩:=h;rw[e]at h1;cases h1
 |lst ds=>obtain⟨vs,h1,_⟩:=h;rw[e]at h1;cases h1
 |jX ks ds=>obtain⟨fX,vs,h1,_⟩:=h;rw[e]at h1;cases h1
 |xq o fX ds=>have h1:=h.1;rw[e]at h1;cases h1
 |ins C ns ds=>obtain⟨dx,fs,h1,_⟩:=h;rw[e]at h1;cases h1
 |nB ks ds=>obtain⟨fX,h1,_⟩:=h;rw[e]at h1;cases h1
 |gx lq H0=>exact h.2.2.2 zs e
 |exc c=>rw[show _=_ from h]at e;cases e
def gE.ghost {φ:au ao}{H:Hp}{μ:MS}{m:MO}(M:gE φ H μ)(e:μ[0]?=some m):gE φ H (μ.set 0 (.gx φ H)):=by
 have h0:0<μ.length:=(ka e).1
 refine⟨M.nd,by rw[cg];exact M.len,λk n en=>?_⟩
 by_cases hk:k=0
 .subst hk
  rw[aW h0]at en
  cases en
  obtain⟨p,e1,e2⟩:=M.at_ 0 m e
  exact⟨p,e1,.refl _ _,rfl,e2.ex,e2.nt⟩
 .rw[bo (bD hk)]at en
  exact M.at_ k n en
def gE.back {φ gN:au ao}{H H':Hp}{μ gq:MS}{m:MO}(M:gE φ H μ)(e:μ[0]?=some m)(M':gE gN H' gq)(e':gq[0]?=some (.gx φ H)):gE gN H' (gq.set 0 m):=by
 have h0:0<gq.length:=(ka e').1
 refine⟨M'.nd,by rw[cg];exact M'.len,λk n en=>?_⟩
 by_cases hk:k=0
 .subst hk
  rw[aW h0]at en
  cases en
  obtain⟨p',e1,f,hp,_⟩:=M'.at_ 0 _ e'
  obtain⟨p,e2,im⟩:=M.at_ 0 m e
  have:=f.get e2
  rw[e1]at this
  cases this
  exact⟨p',e1,im.mono f λo q=>hp.trans q⟩
 .rw[bo (bD hk)]at en
  exact M'.at_ k n en
def gK (lq:au ao)(H0:Hp)(m:MO)(K:DK):DK:=λd gq=>gq[0]?=some (.gx lq H0)/\K d (gq.set 0 m)
def gX (lq:au ao)(H0:Hp)(m:MO)(K:DX):DX:=λc gq=>gq[0]?=some (.gx lq H0)/\K c (gq.set 0 m)
def wz.ghost {φ:au ao}{H:Hp}{μ:MS}{m:MO}{K:DK}{Q:VK}(L:wz φ H K Q)(M:gE φ H μ)(e:μ[0]?=some m):wz φ H (gK φ H m K) Q:=λd gq gN v H' ⟨e',k⟩ f M' i=>L d _ gN v H' k f (M.back e M' e') i
def CY.ghost {φ:au ao}{H:Hp}{μ:MS}{m:MO}{K:DX}{Q:XK}(L:CY φ H K Q)(M:gE φ H μ)(e:μ[0]?=some m):CY φ H (gX φ H m K) Q:=λc gq gN H' ⟨e',k⟩ f M'=>L c _ gN H' k f (M.back e M' e')
section
variable {X:Cx}{e:Expr}{es:au Expr}{pos:Pos}{lq:au ao}{H0:Hp}{Kx:DX}
def Tv (lq:au ao)(H0:Hp)(Kx:DX)(C:ao)(w:DA):Ds:=λ_ ρ μ=>w ρ μ λds gy=>ds.length<=sizeLine/\gy[0]?=some (.gx lq H0)/\Kx (.ref C) gy
def Fl {w:DA}{x:Str}{C:ao}{bm EG:au ar}{B Bn newId nid SA inN:String}{np kD:Pos}(Z:Rm X lq H0 Kx)(hc:X.gY=true)(O:OwnCls x C bm newId X.mg X.fK)(Fn:ExcBaseFacts Bn newId inN EG)(hBn:bm.contains (.type Bn)=true)
 (FB:ExcBaseFacts B nid SA bm) (hg:Gl X x) (ha:wy X (e::es) w) (hd:(x==("__debug__" : Str))=false:=by decide)
 (he:starEach (e::es) X.env=(false,eval e X.env)::starEach es X.env:=by rfl) (qr:(backTo kD (starEach es X.env)).any (·.1)=false:=by rfl):
 zx X (.Raise (some (.Call (.Name x np) (e::es) [] kD)) none pos) (Tv lq H0 Kx C w):=λfJ s σ H D I hq=>by
 obtain⟨φ,ρ,μ,N,A,M,k,L⟩:=hq
 obtain⟨E,LX,hp,mk⟩:=Z.ex
 obtain⟨tl,Na,nm,q,bs,hdct,sn,sub,ab,col,dd,k0,k1,k2,k3,k5,mN,hC,hN,XC,T⟩:=O.obj
 refine wpAny_Raise_call_subU (C:=C) (nm:=nm) (q:=q) (N:=Na) (bs:=bs) (bm:=tl) (hdct:=hdct) (sn:=sn) (sub:=sub) (ab:=ab) (col:=col) (dd:=dd) (k0:=k0) (k1:=k1) (k2:=k2) (k3:=k3) (k5:=k5)
  Fn hBn FB (mN:=mN) (T.hasType FB.hasBase) (I.ok.hd hc) (by rw[he];show(false||(backTo kD (starEach es X.env)).any (·.1))=false;rw[qr];rfl) XC (Am I hg O.bound ⟨rfl,?_⟩ hd)
 have h:=ha kD fJ s σ H (λvs H1=>vs.length<=sizeLine/\E (.ref C) none H1) I ⟨φ,ρ,μ,_,A,M,k,λds gy gT vs H1 k1 f1 M1 i1=>⟨by rw[i1.len];exact k1.1,LX (.ref C) gy gT H1 k1.2.2 (M1.Zt k1.2.1) M1⟩⟩
 rw[he]at h ⊢
 refine Calls.evalArgs_plain (b7 h (λus s2 qm=>by obtain⟨vs,H1,I1,r1,q1⟩:=qm;exact⟨rfl,by rw[<- r1.length];exact q1.1,I1.bk _ _ hC,hN.keeps I1.bk,T.keeps I1.bk,λh' e' mx=>mk fJ σ H1 s2 h' e' _ _ I1 mx q1.2⟩) λ_ _ y=>y)
end
def FX (n:Nat)(K:DX):DX:=λc gq=>K c gq\/((∀(j:Nat) (m:MO),j<n->gq[j]?=some m->Aj n m)/\K c (gq.take n))
def CY.fx {φ:au ao}{H:Hp}{μ:MS}{K:DX}{E:XK}(M:gE φ H μ)(L:CY φ H K E):CY φ H (FX μ.length K) E:=λc gq gN H' k f M'=>by
 rcases k with k|⟨hm,k⟩
 .exact L c gq gN H' k f M'
 .have Gx:gN.take μ.length=φ:=by
   obtain⟨⟨ψ,rfl,_⟩,_,_⟩:=f
   rw[<- M.len,cZ]
  have f0:Fr φ H (gN.take μ.length) H':=by
   rw[Gx]
   exact⟨⟨[],by simp,λ_ h=>nomatch h⟩,f.keep,f.XS⟩
  exact L c _ _ H' k f0 (M'.kC hm)
section
variable {P:ah}{w:ai}{K:aa}{mg:Str->av ar}{fK:Heap}
def j5.okX {x qual:Str}{st:Stmt}{f:ao}{fd:aj}{N ps:au Str}{k:Nat}{fs:A9}(F:j5 K x qual st f fd)(S:gg N ps (fR st))(len:∀ ds μ Kd Kx,fs ds μ Kd Kx->ds.length=ps.length/\∃ m,μ[0]?=some m)
 (xj:∀(je:ar) (A:Around) (fV:au Env) (s:ak) (H:Hp) (E:XK),jO k (A.deeper (envOfC qual (fR st) s.heap.objs.size f je))->∀(lq:au ao) (Kb:DX),Rm (rh (G9 P w) P w K mg fK N qual (fR st) f je A fV s H E) lq H Kb ->
   ∃ W,Jb (rh (G9 P w) P w K mg fK N qual (fR st) f je A fV s H E) (jB st) W/\∀ ds μ m Kd Kx,(∀(j:Nat) (m':MO),(μ.set 0 (.gx lq H))[j]?=some m'->Aj (μ.set 0 (.gx lq H)).length m')->tX (μ.set 0 (.gx lq H)).length ds->μ[0]?=some m->fs ds μ Kd Kx->Kb=FX (μ.set 0 (.gx lq H)).length (gX lq H m Kx) ->
    W (JU (μ.set 0 (.gx lq H)).length (gK lq H m Kd)) (uk N ds) (μ.set 0 (.gx lq H))):gL P w K mg fK (G9 P w) (k+1) f fd ps (UY fs):=by
 obtain⟨oc,od,kV,doc,pm,an,je,ct,N3,rfl,lk,En⟩:=F.ex
 refine QF lk En S (λvs H Q E h=>?_) λA fV s H vs Q E hr MQ=>?_
 .obtain⟨φ,ds,μ,Kd,Kx,ha,M,hf,L,LX⟩:=h
  rw[ha.len];exact(len ds μ Kd Kx hf).1
 .obtain⟨φ,ds,μ,Kd,Kx,ha,M,hf,L,LX⟩:=MQ
  obtain⟨_,m,em⟩:=len ds μ Kd Kx hf
  have Mg:=M.ghost em
  have Lg:=(L.ghost M em).fz Mg
  obtain⟨W,hW,q⟩:=xj je A fV s H E hr φ (FX (μ.set 0 (.gx φ H)).length (gX φ H m Kx)) ⟨E,(LX.ghost M em).fx Mg,V6,λfJ σ H' s' h' e cls vs I x hE=>raises I x hE⟩
  refine⟨_,hW,φ,uk N ds,μ.set 0 (.gx φ H),JU (μ.set 0 (.gx φ H)).length (gK φ H m Kd),.start ha,Mg,q ds μ m Kd Kx Mg.bound (by rw[<- Mg.len];exact ha.bound) em hf rfl,⟨λkF gq gN jo H' k' f' A' M'=>?_,Lg,λ_ _ _ _ _ k' _ _ _=>k'.elim,λ_ _ _ _ _ k' _ _ _=>k'.elim⟩⟩
  exact Lg .ic gq gN .ic H' k' f' M' rfl
end
abbrev hC (lq:au ao)(H0:Hp)(k:Nat):MS->Prop:=λμ=>μ[0]?=some (.gx lq H0)/\∃ c,μ[k]?=some (.exc c)
abbrev X6:au ar:=[.type "ValueError",.type "Exception",.type "BaseException",.type "object"]
def TK {K:aa}{C:ao}{bmB:au ar}{newId:String}(q:W.excIn K C bmB newId=true):∃(bm:au ar) (ns:ao) (nm qn:Str) (bs:au ar) (hd:Bool) (sn:au Str) (sub:au ar) (ab:Bool) (col:av Bool) (dd:av ao) (k0 k1 k2 k3 k5:av ar),
 K.lookup C=some (excClassObj nm qn C ns bs bm hd sn sub ab col dd k0 k1 k2 k3 k5 newId)/\W.nsOkIn K ns=true/\W.nsIn K ns "__init__"=some none/\W.tailIn K bmB bm=true:=by
 unfold W.excIn at q
 split at q
 .rename_i dd cd sl ho
  split at q
  .rename_i C' bm k0 k1 k2 k3 n k5 hm hs
   simp only[bW,beq_iff_eq,Bool.not_eq_true']at q
   obtain⟨⟨⟨⟨⟨rfl,rfl⟩,VU⟩,ht⟩,iF⟩,XC⟩:=q
   obtain⟨nm,bs,mro,ns,qn,hd,sn,sub,ab,col,del⟩:=cd
   dsimp only at hm VU iF XC
   subst hm VU
   have hsl:sl=#[k0,k1,k2,k3,some (.builtin n),k5]:=by
    obtain⟨l⟩:=sl
    simp only at hs
    rw[hs]
   subst hsl
   exact⟨bm,ns,nm,qn,bs,hd,sn,sub,ab,col,dd,k0,k1,k2,k3,k5,ho,iF,XC,ht⟩
  .cases q
 .cases q
def RU {K:aa}{h:Heap}{mg:Str->av ar}{x:Str}{C:ao}(X:K.In h)(G:h.Ns mainGlobals mg)(e:W.nsIn K mainGlobals x=some (some (.ref C)))(q:W.excIn K C X6 "ValueError.__new__"=true):OwnCls x C X6 "ValueError.__new__" mg h:=by
 obtain⟨bm,ns,nm,qn,bs,hd,sn,sub,ab,col,dd,k0,k1,k2,k3,k5,h1,h2,h3,h4⟩:=TK q
 exact⟨W.mg_of X G e,bm,ns,nm,qn,bs,hd,sn,sub,ab,col,dd,k0,k1,k2,k3,k5,_,X _ _ h1,.of_isNs (W.isNs_of_in X h2),W.nsMap_none_of_in X h2 h3,W.tail_of_in X h4⟩
def O6 {P:ah}{w:ai}{K:aa}{mg:Str->av ar}{fK h:Heap}{x q:Str}{st:Stmt}{f:ao}{fd:aj}{k:Nat}{ps:au Str}{sp:Sp}(G:K.In h)(N:h.Ns mainGlobals mg)(F:j5 K x q st f fd)(ok:gL P w K mg fK (G9 P w) k f fd ps sp)(hb:Binds K fd ps [])
 (a:W.nsIn K mainGlobals x=some (some (.ref f)):=by kernel_rfl):T4 P w K mg fK x k ps sp:=⟨f,fd,ok,W.mg_of G N a,F.kp,hb⟩
def Cs {μ:MS}{m n:MO}(em:μ[0]?=some m):(μ.set 0 n)[0]?=some n:=aW (ka em).1
def Av {μ:MS}{m n:MO}(em:μ[0]?=some m):(μ.set 0 n).set 0 m=μ:=by
 cases μ with
 |nil=>cases em
 |cons a r=>cases em;rfl
def V2 {μ:MS}{m:MO}{n:Nat}{lq:au ao}{H:Hp}{c:ar}{Kb Kx:DX}(hK:Kb=FX n (gX lq H m Kx))(em:μ[0]?=some m)(k:Kx c μ):(μ.set 0 (.gx lq H))[0]?=some (.gx lq H)/\Kb c (μ.set 0 (.gx lq H)):=⟨Cs em,by rw[hK];exact .inl ⟨Cs em,by rw[Av em];exact k⟩⟩
def V3 {μ:MS}{m:MO}{lq:au ao}{H:Hp}{d:D}{K:DK}(em:μ[0]?=some m)(k:K d μ):gK lq H m K d (μ.set 0 (.gx lq H)):=⟨Cs em,by rw[Av em];exact k⟩
def Qa (n e a b:Int):Prop:=e<a/\a<b/\b<=n
instance (n e a b:Int):Decidable (Qa n e a b):=by unfold Qa;infer_instance
section
variable {X:Cx}{a b e o:Expr}{es:au Expr}{pos:Pos}
def Qh:au V->Hp->VK->Prop:=λvs H Q=>match vs with
 |[.ref a]=>∃ fX,Rd H a (.dK fX)/\Q (.int fX.length) H
 |_=>False
def YS:jm X (.builtin "len") Qh:=by
 intro fJ s σ H xs us Q I r h
 unfold Qh at h
 split at h
 .obtain⟨fX,rd,q⟩:=h
  obtain⟨u,rfl,ru⟩:=r.one
  cases ru
  exact Wq I rd λt s' I'=>⟨.int _,H,I',⟨t,rfl⟩,q⟩
 .cases h
end
def cX (f:A9):jP:=λds μ K=>f ds μ K λ_ _=>False
def Vf {X:Cx}:Passes (G9 X.prog X.w) X (λ_ _ _=>False):=λfJ σ H s e s' I c=>by
 obtain⟨_,_,_,_,_,_,_,_,_,_,_,z⟩:=c
 exact z.elim
section
variable {X:Cx}{a b e o:Expr}{es:au Expr}{pos:Pos}{C:ao}{lq:au ao}{H0:Hp}{Kx:DX}
def L4 {f:A9}{w:DA}{x:Str}{p:Pos}{k:Nat}{ps:au Str}(C:T4 X.prog X.w X.K X.mg X.fK x k ps (UY f))(hr:jO k X.A)(hg:Gl X x)(ha:wy X (e::es) w)
 (yf:(x==("__debug__" : Str))=false:=by decide) (he:starEach (e::es) X.env=(false,eval e X.env)::starEach es X.env:=by rfl) (qr:(backTo pos (starEach es X.env)).any (·.1)=false:=by rfl):
 PD X (.Call (.Name x p) (e::es) [] pos) (vd (cX f) w):=by
 obtain⟨f',fd,F,hm,hk,hb⟩:=C.ex
 exact(FA F hr hg hm hk hb .nil Vf ha yf he qr).imp λσ H Q ⟨φ,ρ,μ,K,Ee,M,w,L⟩ =>
  ⟨φ,ρ,μ,_,Ee,M,w,λds gy gT vs H1 k1 f1 M1 i1=>by show UY f (vs++[]) H1 Q _;rw[bZ];exact⟨gT,ds,gy,K,_,i1,M1,k1,L.mono f1,λ_ _ _ _ z _ _=>z.elim⟩⟩
end
inductive Pt where
 |fst (b:List Nat) (a:Int)
 |jn (l r:Str) (p:Int)
structure RS where
 n:Int
 iW:List (Str×Pt)
 Yx:List (Int×Unit)
inductive Dd where
 |put (nm b:Str) (a:Int)|join (nm l r:Str) (p:Int)|found (nm:Str) (bar:Int) (sg:Str)|aged (nm:Str) (a:Int)|drop (nm:Str)|free (p:Int)|Yx (p:Int)
section
variable {α β:Type}[DecidableEq α]
def yp (l:au (α×β))(k:α):av β:=(l.find? λp=>decide (p.1=k)).map (·.2)
def zr (l:au (α×β))(k:α):au (α×β):=l.filter λp=>decide (p.1≠k)
def uQ {p:α×β}{l:au (α×β)}{k:α}:yp (p::l) k=if p.1=k then some p.2 else yp l k:=by
 unfold yp
 rw[cj]
 by_cases h:p.1=k
 .rw[aJ h,aF h];rfl
 .rw[aS h,aG h]
def Mt {l:au (α×β)}{k:α}{v:β}(h:yp l k=some v):(k,v)∈l:=by
 induction l with
 |nil=>cases h
 | cons p l ih =>
  rw[uQ]at h
  by_cases q:p.1=k
  .rw[aF q]at h;cases h
   rw[<- q];exact aH
  .rw[aG q]at h;exact nE _ (ih h)
def IF {l:au (α×β)}{k j:α}(h:j≠k):yp (zr l k) j=yp l j:=by
 unfold zr
 induction l with
 |nil=>rfl
 | cons p l ih =>
  rw[cF,uQ]
  by_cases q:p.1=k
  .rw[aG (by simp[q]),ih,aG (λy=>h (by rw[<- y,q]))]
  .rw[aF (by simp[q]),uQ,ih]
end
section
variable {α β:Type}[DecidableEq α]{κ:α->Key}(hi:∀ a b,κ a=κ b->a=b)(f:β->D)
include hi
end
def Z7 {γ:Type}(gf:Str->au Nat->Int->γ)(gj:γ->γ->Int->γ)(z:γ)(iW:au (Str×Pt)):Nat->Str->γ
 |0,_=>z
 | f+1,nm=>match yp iW nm with
  |some (.fst b a)=>gf nm b a
  |some (.jn l r p)=>gj (Z7 gf gj z iW f l) (Z7 gf gj z iW f r) p
  |none=>z
def Le (iW:au (Str×Pt))(nm:Str):Nat:=(iW.map (·.1)).idxOf nm
structure Kpt (iW:List (Str×Pt)):Prop where
 nd:(iW.map (·.1)).Nodup
 low:∀ nm l r p,yp iW nm=some (.jn l r p)->Le iW l<Le iW nm/\Le iW r<Le iW nm
section
variable {γ:Type}{gf:Str->au Nat->Int->γ}{gj:γ->γ->Int->γ}{z:γ}{iW:au (Str×Pt)}
def ev (gf:Str->au Nat->Int->γ)(gj:γ->γ->Int->γ)(z:γ)(iW:au (Str×Pt))(nm:Str):γ:=Z7 gf gj z iW iW.length nm
end
def rY {p:Str->Bool}{a b:Str}:∀ {l:au Str},p a=true->p b=true->l.idxOf a<l.idxOf b->(l.filter p).idxOf a<(l.filter p).idxOf b
 |[],_,_,h=>by simp at h
 | x::t,ha,hb,h=>by
  by_cases e1:x=a
  .subst e1
   have e2:¬ x=b:=λe2=>by subst e2;exact absurd h (b8 _)
   rw[cF,aF ha,cK,cK,show(x==x)=true from beq_self_eq_true _,show(x==b)=false from dh e2]
   simp
  .have e2:¬ x=b:=λe2=>by
    subst e2
    rw[cK,cK,show(x==x)=true from beq_self_eq_true _]at h
    simp at h
   rw[cK,cK,show(x==a)=false from dh e1,show(x==b)=false from dh e2]at h
   have h':t.idxOf a<t.idxOf b:=by simpa using h
   have ih:=rY ha hb h'
   rw[cF]
   split
   .rw[cK,cK,show(x==a)=false from dh e1,show(x==b)=false from dh e2]
    simpa using ih
   .exact ih
def Kpt.drop {l:au (Str×Pt)}(h:Kpt l){nm:Str}(hx:∀ z a b p,yp l z=some (.jn a b p)->a≠nm/\b≠nm):Kpt (zr l nm):=by
 have hk:(zr l nm).map (·.1)=(l.map (·.1)).filter λz=>decide (z≠nm):=by
  unfold zr
  rw[List.filter_map]
  rfl
 refine⟨by rw[hk];exact h.nd.sublist (dU),λz a b p e=>?_⟩
 have hz:z≠nm:=λy=>by
  subst y
  have:=Mt e
  unfold zr at this
  rw[fH]at this
  simpa using this.2
 rw[IF hz]at e
 obtain⟨h1,h2⟩:=h.low z a b p e
 obtain⟨n1,n2⟩:=hx z a b p e
 unfold Le at h1 h2 ⊢
 rw[hk]
 exact⟨rY (aJ n1) (aJ hz) h1,rY (aJ n2) (aJ hz) h2⟩
section
variable {α β:Type}[DecidableEq α]{κ:α->Key}(hi:∀ a b,κ a=κ b->a=b)(f:β->D)
include hi
end
open PySem PySem.Spec PyProof.Rows PyProof
def TV (c:Dt)(ρ:DE)(μ:MS)(b:Bool):Prop:=∀ K:Bool->MS->Prop,K b μ->c ρ μ K
section
variable {a c:Dt}{t u:Ds}{N:DN}{ρ:DE}{μ:MS}{x y b:Bool}{e:De}
def TV.M9 (h:∀ K:DK,K (.bl b) μ->e ρ μ K):TV (pv e) ρ μ b:=λK k=>h _ k
def TV.or (h1:TV a ρ μ x)(h2:x=false->TV c ρ μ y):TV (LR a c) ρ μ (x||y):=λK k=>h1 _ (by
 cases x with
 |true=>rw[aF rfl];exact k
 |false=>rw[aG (by decide)];exact h2 rfl K k)
def TV.not (h1:TV a ρ μ x):TV (QO a) ρ μ (!x):=λK k=>h1 _ k
def xC (b:Bool)(h:TV c ρ μ b)(ht:b=true->t N ρ μ)(hu:b=false->u N ρ μ):TB c t u N ρ μ:=h _ (by
 cases b with
 |true=>rw[aF rfl];exact ht rfl
 |false=>rw[aG (by decide)];exact hu rfl)
end
def xB {N:DN}{ρ:DE}{μ:MS}(h:N.nx ρ μ):dNx N ρ μ:=h
section
variable {α β:Type}[DecidableEq α]{κ:α->Key}(hi:∀ a b,κ a=κ b->a=b){f:β->D}{μ:MS}{j:Nat}{l:au (α×β)}
include hi
end
end L2
namespace L2
open PySem PySem.W PyProof.Rows
end L2
namespace L2
open PySem PySem.Spec PyProof.Rows PyProof PySem.W
end L2
namespace L2
open PySem PySem.Spec PyProof.Rows PyProof
section
variable {iW:au (Str×Pt)}{z:Str}{b b':au Nat}{a:Int}(h:yp iW z=some (.fst b a))
include h
end
def zs {n:Nat}(h:Nat.ble n 100=true:=by rfl):n<=sizeLine:=aV (Nat.le_of_ble_eq_true h) (sz (by decide))
section
variable {X:Cx}{a b e e1 e2 e3:Expr}{wa wb w w1 w2 w3:De}{pos p:Pos}
def a1 (h:PD X e w)(s:starEach [e] X.env=(false,eval e X.env)::starEach [] X.env:=by rfl):wy X [e] (tM w EA):=fQ h iG s
def a2 (h:PD X e w)(h1:PD X e1 w1)(s:starEach [e,e1] X.env=(false,eval e X.env)::starEach [e1] X.env:=by rfl)(s1:starEach [e1] X.env=(false,eval e1 X.env)::starEach [] X.env:=by rfl):wy X [e,e1] (tM w (tM w1 EA)):=fQ h (a1 h1 s1) s
def a3 (h:PD X e w)(h1:PD X e1 w1)(h2:PD X e2 w2)(s:starEach [e,e1,e2] X.env=(false,eval e X.env)::starEach [e1,e2] X.env:=by rfl)(s1:starEach [e1,e2] X.env=(false,eval e1 X.env)::starEach [e2] X.env:=by rfl)(s2:starEach [e2] X.env=(false,eval e2 X.env)::starEach [] X.env:=by rfl):wy X [e,e1,e2] (tM w (tM w1 (tM w2 EA))):=fQ h (a2 h1 h2 s1 s2) s
def iX (ha:PD X a wa)(hb:PD X b wb)(hs:A4 b:=by exact λ_ _=>rfl):PD X (.Subscript a b pos) (wm WA wa wb):=d_ix K9 UZ ha hb hs
def pI (ha:PD X a wa)(hb:PD X b wb):PD X (.BinOp a .Add b pos) (wm (TC false) wa wb):=rg Mu Rp ha hb
def Bu (ha:PD X a wa)(hb:PD X b wb):PD X (.BinOp a .Sub b pos) (wm (vw λi j=>.int (i - j)) wa wb):=rg Yt Ro ha hb
def NL (ha:PD X a wa)(hb:PD X b wb):PT X (.Compare a [.Lt] [b] pos) (xX (pv (wm (vw λi j=>.bl (decide (i<j))) wa wb))):=mf Vy qa ha hb (iQ _)
def MJ (ha:PD X a wa)(hb:PD X b wb):PT X (.Compare a [.LtE] [b] pos) (xX (pv (wm (vw λi j=>.bl (decide (i<=j))) wa wb))):=mf leC qa ha hb (iQ _)
def Ug (ha:PD X a wa)(hb:PD X b wb):PT X (.Compare a [.Gt] [b] pos) (xX (pv (wm (vw λi j=>.bl (decide (j<i))) wa wb))):=mf ZU qa ha hb (iQ _)
def YE (ha:PD X a wa)(hb:PD X b wb):PT X (.Compare a [.GtE] [b] pos) (xX (pv (wm (vw λi j=>.bl (decide (j<=i))) wa wb))):=mf geC qa ha hb (iQ _)
def J7 (ha:PD X a wa)(hb:PD X b wb):PT X (.Compare a [.Eq] [b] pos) (xX (pv (wm (L7 false) wa wb))):=mf Tj rL ha hb (iQ _)
def NK (ha:PD X a wa)(hb:PD X b wb):PT X (.Compare a [.NotEq] [b] pos) (xX (pv (wm (L7 true) wa wb))):=mf Dj rL ha hb (iQ _)
def vt (T:lM X.mg)(h:PD X e w)(hg:Gl X "len":=by rfl)(he:starEach [e] X.env=(false,eval e X.env)::starEach [] X.env:=by rfl)(qr:(backTo pos (starEach [] X.env)).any (·.1)=false:=by rfl):PD X (.Call (.Name "len" p) [e] [] pos) (vd ON (tM w EA)):=oM Ot Rn hg T.len PySem.boot_len (a1 h he) (by decide) (by decide) he qr
section
variable {es:au Expr}{x:Str}{k k0:Nat}{ps:au Str}{f:jP}{fx:A9}{u:DA}
def qC (C:mM X.prog X.w X.K X.mg X.fK x k ps (iD f))(hr:jO k0 X.A)(ha:wy X (e::es) u)(hk:k<=k0:=by first | decide | exact aw _ | lia)(hg:Gl X x:=by rfl)(yf:(x==("__debug__" : Str))=false:=by decide)(he:starEach (e::es) X.env=(false,eval e X.env)::starEach es X.env:=by rfl)(qr:(backTo pos (starEach es X.env)).any (·.1)=false:=by rfl):
 PD X (.Call (.Name x p) (e::es) [] pos) (vd f u):=Tt C (hr.mono hk) hg ha yf he qr
end
def qS (i:Nat){x:Str}{pos':Pos}(hN:X.N.Nodup)(he:PD X e w)(hi:X.N[i]?=some x:=by rfl)(hx:Loc X.env.scope x:=by first | exact Or.inl rfl | exact Or.inr rfl)(hf:X.fn x=true\/X.env.scope.names.lookup x=some .local:=by first | exact .inl rfl | exact .inr rfl | assumption)
 (Lh:swapsWith e (some (.Name x pos')) pos.line X.env=pure false:=by rfl):zx X (.Assign [.Name x pos'] e pos) (L5 i w):=U3 hN hi hx he hf Lh
def qN (i:Nat){x:Str}(hN:X.N.Nodup)(hi:X.N[i]?=some x:=by rfl)(hx:Loc X.env.scope x:=by first|exact Or.inl rfl|exact Or.inr rfl)(hf:X.fn x=true\/X.env.scope.names.lookup x=some .local:=by first|exact .inl rfl|exact .inr rfl|assumption):PG X (.Name x pos) (tq i):=vJ hN hi hx hf
def qT (i:Nat){x:Str}(hN:X.N.Nodup)(hi:X.N[i]?=some x:=by rfl)(hx:Loc X.env.scope x:=by first|exact Or.inl rfl|exact Or.inr rfl)(hf:X.fn x=true\/X.env.scope.names.lookup x=some .local:=by first|exact .inl rfl|exact .inr rfl|assumption):Tg X (.Name x pos) (tq i) (AL i) [i]:=⟨vJ hN hi hx hf,gb i,fL i⟩
def tT {N0 ps N:au Str}{js:au (av Nat)}{sc Uc:Scope}(S:gg N0 ps Uc)(h:wu N0 Uc N js sc=true)(hN:X.N=N0:=by rfl)(hs:X.env.scope=Uc:=by rfl):kc X N js sc:=ED h hN hs
section
variable {tg iter elt:Expr}{ifs:au Expr}{sc:Scope}{N:au Str}{js:au (av Nat)}{g:TG}{y:DG}{S:au Nat}{t:Dt}{wi:DI}
def Xq (i:Nat)(m:Bool){pos' wH:Pos}{x:Str}(hN:X.N.Nodup)(hc:kc X N js sc)(so:Mv g y S)(mo:pP g)(hi:G4 X tg iter wi)(hg:∀ fp s H,N.Nodup->PG (oy X N sc fp s H) tg g)
 (ht:∀ fp s H,A6 (oy X N sc fp s H) ifs t) (he:∀ fp s H,PD (oy X N sc fp s H) elt w) (ho:rB S js=true:=by rfl) (gY:X.gY=true:=by rfl) (Bo:X.N[i]?=some x:=by rfl) (hx:Loc X.env.scope x:=by first|exact Or.inl rfl|exact Or.inr rfl) (Lh:swapsWith (.ListComp elt [⟨tg,iter,ifs,0⟩] sc pos) (some (.Name x pos')) wH.line X.env=pure true:=by rfl)
 (hs:∀ x,foldedSetIterable iter X.env x=pure x:=by intro _;rfl) (hf:X.fn x=true\/X.env.scope.names.lookup x=some .local:=by first|exact .inl rfl|exact .inr rfl|assumption):
 zx X (.Assign [.Name x pos'] (.ListComp elt [⟨tg,iter,ifs,0⟩] sc pos) wH) (L5 i (xD m wi js y t w)):=Hq m hc gY so mo ho hN Bo hx hi (λfp s H=>hg fp s H hc.nd) ht he Lh hs hf
def IW (m:Bool)(hc:kc X N js sc)(so:Mv g y S)(mo:pP g)(hi:G4 X tg iter wi)(hg:∀ fp s H,N.Nodup->PG (oy X N sc fp s H) tg g)(ht:∀ fp s H,A6 (oy X N sc fp s H) ifs t)(he:∀ fp s H,PD (oy X N sc fp s H) elt w)(ho:rB S js=true:=by rfl)(gY:X.gY=true:=by rfl)
 (hs:∀ x,foldedSetIterable iter X.env x=pure x:=by intro _;rfl):PD X (.ListComp elt [⟨tg,iter,ifs,0⟩] sc pos) (xD m wi js y t w):=Ts m hc gY so mo ho hi (λfp s H=>hg fp s H hc.nd) ht he hs
def sC1 (i:Nat)(m:Bool){pos' wH:Pos}{x:Str}(hN:X.N.Nodup)(hc:kc X N js sc)(hi:G4 X tg iter wi)(hg:∀ fp s H,N.Nodup->PG (oy X N sc fp s H) tg (tq 0))
 (ht:∀ fp s H,A6 (oy X N sc fp s H) ifs t) (he:∀ fp s H,PD (oy X N sc fp s H) elt w) (ho:rB [0] js=true:=by rfl) (gY:X.gY=true:=by rfl) (Bo:X.N[i]?=some x:=by rfl) (hx:Loc X.env.scope x:=by first|exact Or.inl rfl|exact Or.inr rfl) (Lh:swapsWith (.ListComp elt [⟨tg,iter,ifs,0⟩] sc pos) (some (.Name x pos')) wH.line X.env=pure true:=by rfl)
 (hs:∀ x,foldedSetIterable iter X.env x=pure x:=by intro _;rfl) (hf:X.fn x=true\/X.env.scope.names.lookup x=some .local:=by first|exact .inl rfl|exact .inr rfl|assumption):
 zx X (.Assign [.Name x pos'] (.ListComp elt [⟨tg,iter,ifs,0⟩] sc pos) wH) (L5 i (xD m wi js (AL 0) t w)):=Xq i m hN hc (gb 0) (fL 0) hi hg ht he ho gY Bo hx Lh hs hf
def Dn (m:Bool)(hc:kc X N js sc)(hi:G4 X tg iter wi)(hg:∀ fp s H,N.Nodup->PG (oy X N sc fp s H) tg (tq 0))(ht:∀ fp s H,A6 (oy X N sc fp s H) ifs t)(he:∀ fp s H,PD (oy X N sc fp s H) elt w)(ho:rB [0] js=true:=by rfl)(gY:X.gY=true:=by rfl)
 (hs:∀ x,foldedSetIterable iter X.env x=pure x:=by intro _;rfl):PD X (.ListComp elt [⟨tg,iter,ifs,0⟩] sc pos) (xD m wi js (AL 0) t w):=IW m hc (gb 0) (fL 0) hi hg ht he ho gY hs
end
end
end L2
namespace L2
open PySem PySem.Spec PyProof.Rows PyProof PySem.W
abbrev pA (s:Stmt):au Str:=(jY s).args.map (·.arg)
def i8 {N P:au Str}{sc:Scope}(h1:sc.kind=.function:=by rfl)(h2:sc.isCoroutine=false:=by rfl)(h3:sc.isGenerator=false:=by rfl)(h4:N.Nodup:=by decide +kernel)(h5:N.take P.length=P:=by rfl)
 (h6:∀ x∈P,sc.names.lookup x=some .local\/sc.names.lookup x=some .cell:=by decide +kernel) (h7:∀ y∈sc.names,y.2≠.free:=by decide +kernel):gg N P sc:=⟨h1,h2,h3,h4,h5,h6,h7⟩
def kf (f c:ao)(x q:Str)(s:Stmt)(pm:ar)(t l a r1 r2:Nat)(v1 v2:ar)(r3 t2:Nat):au (ao×Obj):=[ko f (XM x q s pm c),ko c (coQ x q t l a r1 r2 v1 v2 r3 t2)]
def nV (f c:ao)(x:Str)(s:Stmt)(pm:ar)(t l a r1 r2:Nat)(v1 v2:ar)(r3 t2:Nat):au (ao×Obj):=kf f c x x s pm t l a r1 r2 v1 v2 r3 t2
def kx (P:Params)(a n h:ao)(x:Str)(sl:av ar)(t u:Nat)(m:ar)(i l:Nat)(st:ao)(sub:au ar:=[])(bs:au ar:=[.ref h])(mro:au ar:=[.ref a,.ref h,.type "ValueError",.type "Exception",.type "BaseException",.type "object"]):au (ao×Obj) :=
 [ko a ⟨.type "type",none,.cls ⟨x,bs,mro,n,x,true,[],sub,false,none,false⟩,#[sl,none,some (.str x t),some (.str x u),some (.builtin "ValueError.__new__"),some (.bool true)]⟩,
  ko n ⟨.type "dict",none,.dict #[wg P "__module__" i m,wg P "__firstlineno__" (i+4) (.int l (i+3)),wg P "__static_attributes__" (i+5) (.ref st),wg P "__doc__" (i+6) .none] 2,#[]⟩]
section
variable {K:Frag}{x q:Str}{s:Stmt}{f:ao}{fd:aj}{ps:au Str}(F:j5 K x q s f fd)
include F
def MT (hl:ps.length=1:=by rfl)(h:∀(kV doc pm:ar) (an:av ao) (je ct a:ar),bindArgs (fnOf x q (jY s) (jB s) (fR s) .none kV doc pm an je ct) ⟨[a],[]⟩=pure (ps.zip [a]):=by intros;rfl):Binds K fd ps []:=F.binds λk d p n c t=>by rw[hl];exact Q0 λa=>h k d p n c t a
def EH (hl:ps.length=2:=by rfl)(h:∀(kV doc pm:ar) (an:av ao) (je ct a b:ar),bindArgs (fnOf x q (jY s) (jB s) (fR s) .none kV doc pm an je ct) ⟨[a,b],[]⟩=pure (ps.zip [a,b]):=by intros;rfl):Binds K fd ps []:=F.binds λk d p n c t=>by rw[hl];exact GR λa=>Q0 λb=>h k d p n c t a b
def IE (hl:ps.length=3:=by rfl)(h:∀(kV doc pm:ar) (an:av ao) (je ct a b e:ar),bindArgs (fnOf x q (jY s) (jB s) (fR s) .none kV doc pm an je ct) ⟨[a,b,e],[]⟩=pure (ps.zip [a,b,e]):=by intros;rfl):Binds K fd ps []:=F.binds λk d p n c t=>by rw[hl];exact GR λa=>GR λb=>Q0 λe=>h k d p n c t a b e
def Ja (hl:ps.length=4:=by rfl)(h:∀(kV doc pm:ar) (an:av ao) (je ct a b e g:ar),bindArgs (fnOf x q (jY s) (jB s) (fR s) .none kV doc pm an je ct) ⟨[a,b,e,g],[]⟩=pure (ps.zip [a,b,e,g]):=by intros;rfl):Binds K fd ps []:=F.binds λk d p n c t=>by rw[hl];exact GR λa=>GR λb=>GR λe=>Q0 λg=>h k d p n c t a b e g
def bd5 (hl:ps.length=5:=by rfl)(h:∀(kV doc pm:ar) (an:av ao) (je ct a b e g i:ar),bindArgs (fnOf x q (jY s) (jB s) (fR s) .none kV doc pm an je ct) ⟨[a,b,e,g,i],[]⟩=pure (ps.zip [a,b,e,g,i]):=by intros;rfl):Binds K fd ps []:=F.binds λk d p n c t=>by rw[hl];exact GR λa=>GR λb=>GR λe=>GR λg=>Q0 λi=>h k d p n c t a b e g i
end
end L2
namespace L2
open PySem PySem.Spec PyProof.Rows PyProof
def OZ {c:Dt}{t u:Ds}{N:DN}{ρ:DE}{μ:MS}(B:Bool->Prop)(h:∀ K:Bool->MS->Prop,(∀ b,B b->K b μ)->c ρ μ K)(ht:B true->t N ρ μ)(hu:B false->u N ρ μ):TB c t u N ρ μ:=h _ λb hb=>by
 cases b with
 |true=>rw[aF rfl];exact ht hb
 |false=>rw[aG (by decide)];exact hu hb
structure WZ (S0:RS)(ps:List (RS×Dd))(ss:List RS)(rs:List Dd)(d:Nat):Prop where
 hs:ss.take (d+1)=S0::ps.map (·.1)
 hr:rs.take d=ps.map (·.2)
section
variable {cR cS:ao}{μ:MS}{k j1 j2:Nat}{ss:au RS}{rs:au Dd}{d:Nat}{S0 S:RS}{ps:au (RS×Dd)}
def WZ.len (h:WZ S0 ps ss rs d)(hle:d<=rs.length):ps.length=d:=by
 have:=cH List.length h.hr
 rw[bz,ia]at this
 lia
end
def w0 (n:Nat):Bool:=n==0
def w1 (n:Nat):Bool:=n==1
structure Later (qs:List (RS×Dd))(ss:List RS)(rs:List Dd)(d:Nat):Prop where
 hs:ss.drop (d+1)=qs.map (·.1)
 hr:rs.drop d=qs.map (·.2)
section
variable {ss:au RS}{rs:au Dd}{d:Nat}{S0:RS}{ps qs:au (RS×Dd)}{x:RS×Dd}
def Later.len (h:Later qs ss rs d):qs.length=rs.length - d:=by
 have:=cH List.length h.hr
 rw[bO,ia]at this
 lia
end
open PySem PySem.Spec PyProof.Rows
def kZ.vo (cs:au Int)(ts:au Tk):kZ->av Tk
 |.num n=>if 0<=n then ts[n.toNat]? else none
 | .uc p l r=>match l.vo cs ts,r.vo cs ts with
  |some a,some b=>if p∈cs then some (rD a b p)else none
  |_,_=>none
def kZ.yz {cs:au Int}{ts:au Tk}:∀ {t:kZ} {v:Tk},t.vo cs ts=some v->t.ok cs ts.length/\t.val ts=v
 | .num n,v,h=>by
  have h:(if 0<=n then ts[n.toNat]? else none)=some v:=h
  split at h
  .have:=(ka h).1
   exact⟨⟨by lia,by lia⟩,by show(ts[n.toNat]?).getD ([],0)=v;rw[h];rfl⟩
  .cases h
 | .uc p l r,v,h=>by
  have h:(match l.vo cs ts,r.vo cs ts with|some a,some b=>if p∈cs then some (rD a b p)else none|_,_=>none)=some v:=h
  cases el:l.vo cs ts with
  |none=>rw[el]at h;cases h
  | some a =>
   cases er:r.vo cs ts with
   |none=>rw[el,er]at h;cases h
   | some b =>
    rw[el,er]at h
    have h:(if p∈cs then some (rD a b p)else none)=some v:=h
    split at h
    .rename_i hp
     cases h
     obtain⟨l1,l2⟩:=yz el
     obtain⟨r1,r2⟩:=yz er
     exact⟨⟨hp,l1,r1⟩,by show rD (l.val ts) (r.val ts) p=_;rw[l2,r2]⟩
    .cases h
def kZ.Ky {cs:au Int}{ts:au Tk}:∀ {t:kZ},t.ok cs ts.length->t.vo cs ts=some (t.val ts)
 | .num n,h=>by
  obtain⟨h0,h1⟩:0<=n/\n<ts.length:=h
  show(if 0<=n then ts[n.toNat]? else none)=some ((ts[n.toNat]?).getD ([],0))
  rw[aF h0,iM (by lia)];rfl
 | .uc p l r,h=>by
  show(match l.vo cs ts,r.vo cs ts with|some a,some b=>if p∈cs then some (rD a b p)else none|_,_=>none)=_
  rw[Ky h.2.1,Ky h.2.2]
  exact aF h.1
def XQ (cB:ao):A9:=λds μ K Kx=>match ds with
 |[.lst y,.int p]=>(∃ m,μ[0]?=some m)/\∃ cs:au Int,y=cs.map D.int/\(p∈cs->K (.int p) μ)/\(¬ p∈cs->Kx (.ref cB) μ)
 |_=>False
def Z5 (cB:ao):A9:=λds μ K Kx=>match ds with
 |[.int n,.lst x,.lst y,d]=>(∃ m,μ[0]?=some m)/\∃(cs:au Int) (ts:au Tk) (t:kZ),x=cs.map D.int/\y=ts.map ny/\d=FL t/\t.cnt<=1000/\(∀ p∈cs,0<=p)/\n<=1000/\(∀ t∈ts,A3 n t)/\(match t.vo cs ts with|some v=>K (ny v) μ|none=>Kx (.ref cB) μ)
 |_=>False
def UL (o:av Tk):D:=match o with
 |some v=>ny v
 |none=>.ic
def uF (n:Nat):jP:=λds μ K=>match ds with
 |[.lst c,.lst y,d]=>∃(cs:au Int) (ts:au Tk) (t:kZ) (z:Int),c=cs.map D.int/\y=ts.map ny/\d=FL t/\t.dep<=n/\(∀ p∈cs,0<=p)/\z<=1000/\(∀ t∈ts,A3 z t)/\K (UL (t.vo cs ts)) μ
 |_=>False
def uY (f:Nat->Int):au Nat->Int->av (Nat×Int)
 |[],_=>none
 |k::M,r=>if r<f k then some (k,r)else uY f M (r - f k)
def GS (es:au Int)(ts:au Tk):Nat->Nat->Nat->Int->kZ
 |0,_,_,_=>.num 0
 | a+1,i,j,r=>if fZ es ts (a+1) i j=0 then .num ((vk es ts a i j).getD r.toNat 0:Nat)else
  match uY (λk=>j4 es ts a i k*j4 es ts a k j) (o6 (fZ es ts (a+1)) (fZ es ts a) i j) r with
  |some (k,q)=>.uc (es.getD k 0) (GS es ts a i k (q / j4 es ts a k j)) (GS es ts a k j (q%j4 es ts a k j))
  |none=>.num 0
def yw (es:au Int)(ts:au Tk):Nat->Nat->Nat->kZ->Prop
 |0,_,_,_=>False
 | a+1,i,j,t=>if fZ es ts (a+1) i j=0 then ∃ x∈vk es ts a i j,t=.num (x:Nat)else
  ∃ k∈o6 (fZ es ts (a+1)) (fZ es ts a) i j,∃ l r,t=.uc (es.getD k 0) l r/\yw es ts a i k l/\yw es ts a k j r
def pD (es:au Int)(f:Nat->Int)(p:Int):au Nat->av (Nat×Int)
 |[]=>none
 |k::M=>if es.getD k 0=p then some (k,0)else(pD es f p M).map λq=>(q.1,f k+q.2)
def rkT (l:au Nat):kZ->av Int
 |.num n=>(l.findIdx? λx:Nat=>decide ((x:Int)=n)).map λi=>((i:Nat):Int)
 |.uc _ _ _=>none
def NF (es:au Int)(ts:au Tk):Nat->Nat->Nat->kZ->av Int
 |0,_,_,_=>none
 | a+1,i,j,t=>if fZ es ts (a+1) i j=0 then rkT (vk es ts a i j) t else
  match t with
  |.num _=>none
  | .uc p l r=>match pD es (λk=>j4 es ts a i k*j4 es ts a k j) p (o6 (fZ es ts (a+1)) (fZ es ts a) i j)with
   |none=>none
   | some (k,h)=>match NF es ts a i k l,NF es ts a k j r with
    |some x,some y=>some (h+x*j4 es ts a k j+y)
    |_,_=>none
def yL {f:Nat->Int}:∀ {M:au Nat} {r:Int},0<=r->r<(M.map f).sum->∃ z k,M[z]?=some k/\uY f M r=some (k,r - ((M.take z).map f).sum)/\0<=r - ((M.take z).map f).sum/\r - ((M.take z).map f).sum<f k
 |[],r,h0,h=>by simp at h;lia
 | k::M,r,h0,h=>by
  by_cases q:r<f k
  .exact⟨0,k,rfl,by unfold uY;rw[aF q];simp,by simpa using h0,by simpa using q⟩
  .rw[aB,cx]at h
   obtain⟨z,k',h1,h2,h3,h4⟩:=yL (f:=f) (M:=M) (r:=r - f k) (by lia) (by lia)
   refine⟨z+1,k',h1,?_,?_,?_⟩
   .unfold uY;rw[aG q,h2,c6,aB,cx];congr 2;lia
   .rw[c6,aB,cx];lia
   .rw[c6,aB,cx];lia
def xM {es:au Int}{f:Nat->Int}{p:Int}:∀ {M:au Nat} {k:Nat} {h:Int},pD es f p M=some (k,h)->∃ z,M[z]?=some k/\es.getD k 0=p/\h=((M.take z).map f).sum
 |[],k,h,e=>by cases e
 | k'::M,k,h,e=>by
  unfold pD at e
  by_cases q:es.getD k' 0=p
  .rw[aF q]at e;cases e;exact⟨0,rfl,q,rfl⟩
  .rw[aG q]at e
   cases e2:pD es f p M with
   |none=>rw[e2]at e;cases e
   | some x =>
    rw[e2]at e
    obtain⟨k2,h2⟩:=x
    cases e
    obtain⟨z,h1,h3,h4⟩:=xM e2
    exact⟨z+1,h1,h3,by rw[c6,aB,cx,h4]⟩
def xN {es:au Int}{f:Nat->Int}:∀ {M:au Nat} {z k:Nat},(∀ x∈M,∀ y∈M,es.getD x 0=es.getD y 0->x=y)->M.Nodup->M[z]?=some k->pD es f (es.getD k 0) M=some (k,((M.take z).map f).sum)
 |[],z,k,_,_,h=>by cases h
 |k'::M,0,k,hi,nd,h=>by cases h;unfold pD;rw[aF rfl];rfl
 | k'::M,z+1,k,hi,nd,h=>by
  have hk:k∈M:=kA (show M[z]?=some k from h)
  obtain⟨n1,n2⟩:=List.nodup_cons.mp nd
  unfold pD
  rw[aG λe=>n1 (by rw[hi k' aH k (nE _ hk) e];exact hk),xN (z:=z) (λx hx y hy=>hi x (nE _ hx) y (nE _ hy)) n2 h,c6,aB,cx]
  rfl
def z6 {f:Nat->Int}:∀ {M:au Nat} {z k:Nat} {q:Int},(∀ x∈M,0<=f x)->M[z]?=some k->0<=q->q<f k->uY f M (((M.take z).map f).sum+q)=some (k,q)/\((M.take z).map f).sum+q<(M.map f).sum/\0<=((M.take z).map f).sum
 |[],z,k,q,_,h,_,_=>by cases h
 | k'::M,0,k,q,hn,h,h0,h1=>by
  cases h
  have:=(Dy (f:=f) (l:=M) λx hx=>hn x (nE _ hx))
  refine⟨?_,?_,?_⟩
  .unfold uY;rw[List.take_zero,List.map_nil,List.sum_nil,Int.zero_add,aF h1]
  .rw[List.take_zero,List.map_nil,List.sum_nil,aB,cx];lia
  .rw[List.take_zero,List.map_nil,List.sum_nil];exact bq _
 | k'::M,z+1,k,q,hn,h,h0,h1=>by
  obtain⟨g1,g2,g3⟩:=z6 (M:=M) (z:=z) (λx hx=>hn x (nE _ hx)) h h0 h1
  have:=hn k' aH
  rw[c6,aB,cx,aB,cx]
  refine⟨?_,by lia,by lia⟩
  unfold uY
  rw[aG (by lia),show f k'+(List.map f (M.take z)).sum+q - f k'=(List.map f (M.take z)).sum+q by lia]
  exact g1
where Dy {f:Nat->Int}:∀ {l:au Nat},(∀ x∈l,0<=f x)->0<=(l.map f).sum
 |[],_=>bq _
 | x::l,h=>by
  have:=h x aH
  have:=Dy (l:=l) λy hy=>h y (nE _ hy)
  rw[aB,cx];lia
def KU (T U:Nat->Nat->Int)(i j:Nat):(o6 T U i j).Nodup:=by
 unfold o6
 exact List.Pairwise.sublist dU (List.pairwise_map.mpr (List.Pairwise.imp (λ{a b} (q:a<b)=>by lia) List.pairwise_lt_range))
def R8 (es:au Int)(ts:au Tk)(a:Int)(i j:Nat):(vk es ts a i j).Nodup:=by
 unfold vk
 exact List.Pairwise.sublist dU List.nodup_range
section
variable {es:au Int}{ts:au Tk}(hu:es.Pairwise (·<·))(hL:es.length<=100)(ht:ts.length<=100)
def LI (hu:es.Pairwise (·<·)){x y:Nat}(hx:x<es.length)(hy:y<es.length)(e:es.getD x 0=es.getD y 0):x=y:=by
 rcases eY x y with q|q|q
 .have:=ky hu (getD_some hx) (getD_some hy) q;lia
 .exact q
 .have:=ky hu (getD_some hy) (getD_some hx) q;lia
include hu hL ht
def DL:∀(a i j:Nat) (r:Int),i<j->j<es.length->0<=r->r<j4 es ts a i j->NF es ts a i j (GS es ts a i j r)=some r
 |0,i,j,r,_,_,h0,h=>by have:r<0:=h;lia
 | a+1,i,j,r,pV,hj,h0,h=>by
  unfold j4 at h
  unfold NF GS
  by_cases q:fZ es ts (a+1) i j=0
  .rw[aF q]at h
   rw[aF q,aF q]
   have hr:r.toNat<(vk es ts a i j).length:=by lia
   show((vk es ts a i j).findIdx? _).map _=_
   have e:(vk es ts a i j).findIdx? (λx:Nat=>decide ((x:Int)=(((vk es ts a i j).getD r.toNat 0:Nat):Int)))=some r.toNat:=by
    rw[List.findIdx?_eq_some_iff_getElem]
    refine⟨hr,aJ (by rw[aC,iM hr];rfl),λk hk=>?_⟩
    rw[bN]
    intro e
    rw[aC,iM hr]at e
    have e:(vk es ts a i j)[k]=(vk es ts a i j)[r.toNat]:=Int.ofNat_inj.mp (by simpa using e)
    exact absurd ((List.getElem_inj (R8 es ts a i j)).mp e) (by lia)
   rw[e]
   show some ((r.toNat:Nat):Int)=some r
   rw[cA h0]
  .rw[aG q]at h
   rw[aG q,aG q]
   obtain⟨z,k,e1,e2,e3,e4⟩:=yL (f:=λk=>j4 es ts a i k*j4 es ts a k j) h0 h
   obtain⟨k1,k2,k3⟩:=jW.mp (kA e1)
   generalize hq:r - ((List.take z (o6 (fZ es ts (a+1)) (fZ es ts a) i j)).map λk=>j4 es ts a i k*j4 es ts a k j).sum=v at e2 e3 e4
   rw[e2]
   dsimp only
   rw[xN (z:=z) (λx hx y hy e=>LI hu (by have:=jW.mp hx;lia) (by have:=jW.mp hy;lia) e) (KU _ _ i j) e1]
   dsimp only
   have b1:=pJ hL ht a i k k1 (by lia)
   have b2:=pJ hL ht a k j k2 hj
   have pos:0<j4 es ts a k j:=by
    rcases Int.lt_or_eq_of_le b2.1 with q|q
    .exact q
    .rw[<- q,Int.mul_zero]at e4;lia
   have d1:0<=v / j4 es ts a k j:=Int.ediv_nonneg e3 b2.1
   have d2:v / j4 es ts a k j<j4 es ts a i k:=Int.ediv_lt_of_lt_mul pos e4
   have m1:=eF v (show j4 es ts a k j≠0 by lia)
   have m2:=eJ v pos
   rw[DL a i k _ k1 (by lia) d1 d2,DL a k j _ k2 hj m1 m2]
   dsimp only
   congr 1
   have:=Int.mul_ediv_add_emod v (j4 es ts a k j)
   rw[Int.mul_comm]at this
   lia
end
section
variable {es:au Int}{ts:au Tk}(hL:es.length<=100)(ht:ts.length<=100)
include hL ht
end
section
variable {es:au Int}{ts:au Tk}(hu:es.Pairwise (·<·))
include hu
def sI:∀(a i j:Nat) (t:kZ),i<j->j<es.length->((NF es ts a i j t).isSome=true↔yw es ts a i j t)
 |0,i,j,t,_,_=>⟨λh=>(by cases h),λh=>h.elim⟩
 | a+1,i,j,t,pV,hj=>by
  unfold NF yw
  by_cases q:fZ es ts (a+1) i j=0
  .rw[aF q,aF q]
   cases t with
   |uc _ _ _=>exact⟨λh=>(by cases h),λ⟨x,_,e⟩=>by cases e⟩
   | num n =>
    show(((vk es ts a i j).findIdx? λx:Nat=>decide ((x:Int)=n)).map (λi=>((i:Nat):Int))).isSome=true↔_
    rw[Option.isSome_map,List.findIdx?_isSome,fE]
    constructor
    .rintro⟨x,hx,e⟩
     exact⟨x,hx,by rw[cn e]⟩
    .rintro⟨x,hx,e⟩
     cases e
     exact⟨x,hx,aJ rfl⟩
  .rw[aG q,aG q]
   cases t with
   |num _=>exact⟨λh=>(by cases h),λ⟨x,_,_,_,e,_⟩=>by cases e⟩
   | uc p l r =>
    dsimp only
    constructor
    .intro h
     cases ea:pD es (λk=>j4 es ts a i k*j4 es ts a k j) p (o6 (fZ es ts (a+1)) (fZ es ts a) i j)with
     |none=>rw[ea]at h;cases h
     | some x =>
      obtain⟨k,hd⟩:=x
      rw[ea]at h
      dsimp only at h
      obtain⟨z,e1,e2,e3⟩:=xM ea
      have km:=kA e1
      obtain⟨k1,k2,k3⟩:=jW.mp km
      refine⟨k,km,l,r,by rw[e2],(sI a i k l k1 (by lia)).mp ?_,(sI a k j r k2 hj).mp ?_⟩
      .cases el:NF es ts a i k l with
       |none=>rw[el]at h;cases h
       |some x=>rfl
      .cases er:NF es ts a k j r with
       |none=>rw[er]at h;cases el:NF es ts a i k l<;>(rw[el]at h;cases h)
       |some x=>rfl
    .rintro⟨k,km,l',r',e,bl,br⟩
     cases e
     obtain⟨k1,k2,k3⟩:=jW.mp km
     obtain⟨z,hz,ez⟩:=aM km
     have e1:(o6 (fZ es ts (a+1)) (fZ es ts a) i j)[z]?=some k:=by rw[iM hz,ez]
     rw[xN (z:=z) (λx hx y hy e=>LI hu (by have:=jW.mp hx;lia) (by have:=jW.mp hy;lia) e) (KU _ _ i j) e1]
     dsimp only
     obtain⟨x,hx⟩:=Option.isSome_iff_exists.mp ((sI a i k l k1 (by lia)).mpr bl)
     obtain⟨y,hy⟩:=Option.isSome_iff_exists.mp ((sI a k j r k2 hj).mpr br)
     rw[hx,hy];rfl
end
def Ag {es:au Int}{ts:au Tk}{a:Int}{i j x:Nat}:x∈vk es ts a i j↔∃ t,ts[x]?=some t/\t.2<=a/\es.getD j 0<=jd es t.1 (es.getD i 0):=by
 unfold vk
 rw[fH,cf]
 constructor
 .rintro⟨h1,h2⟩
  rw[iM h1]at h2 ⊢
  dsimp only at h2
  rw[bW,bN,bN]at h2
  exact⟨_,rfl,h2⟩
 .rintro⟨t,e,h1,h2⟩
  refine⟨(ka e).1,?_⟩
  rw[e]
  dsimp only
  rw[aJ h1,aJ h2];rfl
def OQ {n:Int}{cs:au Int}{k:Nat}(h0:0<k)(h1:k<cs.length+1):(fI n cs).getD k 0∈cs:=by
 obtain⟨k,rfl⟩:∃ x,k=x+1:=⟨k - 1,by lia⟩
 have e:(fI n cs)[k+1]?=some cs[k]:=by
  unfold fI
  rw[dR,eR,t6 (by lia),iM]
 rw[aC,e]
 exact bR _
def O0 {n:Int}{cs:au Int}{p:Int}(h:p∈cs):∃ k,k<(fI n cs).length/\(fI n cs).getD k 0=p:=by
 have:p∈fI n cs:=by unfold fI;simp[h]
 obtain⟨k,hk,e⟩:=aM this
 exact⟨k,hk,by rw[aC,iM hk,e];rfl⟩
def Py {es:au Int}(hu:es.Pairwise (·<·)){x y:Nat}(hx:x<es.length)(hy:y<es.length)(h:es.getD x 0<es.getD y 0):x<y:=by
 rcases eY x y with q|q|q
 .exact q
 .subst q;lia
 .have:=ky hu (getD_some hy) (getD_some hx) q;lia
def Jw {n:Int}{cs:au Int}{ts:au Tk}{a i j:Nat}(hi:i<(fI n cs).length)(h:(fI n cs).getD j 0<=jU (fI n cs) ts a ((fI n cs).getD i 0)):fZ (fI n cs) ts (a+1) i j=0:=by
 show iH _ _ _ _ i j=0
 unfold iH
 rw[aF]
 rw[jS (getD_some hi)];exact h
def Ak {cs:au Int}{ts:au Tk}:∀ {t:kZ},t.ok cs ts.length->A7 cs ts t.dep (t.val ts).1 (t.val ts).2
 | .num x,ok=>by
  obtain⟨t,e⟩:∃ t,ts[x.toNat]?=some t:=⟨_,iM (by have:=ok.1;have:=ok.2;lia)⟩
  rw[kZ.zB e]
  exact kA e
 |.uc p l r,ok=>.inr ⟨_,_,_,_,p,(Ak ok.2.1).le (Nat.le_max_left _ _),(Ak ok.2.2).le (Nat.le_max_right _ _),ok.1,rfl,rfl⟩
section
variable {n:Int}{cs:au Int}{ts:au Tk}(S:gM n cs ts)
include S
def Jx {a i j k:Nat}(h1:i<k)(h2:k<j)(hj:j<(fI n cs).length):fZ (fI n cs) ts (a+1) i j<=fZ (fI n cs) ts a i k+fZ (fI n cs) ts a k j+1:=by
 have tb:=BH S
 have n1:=tb.nn a i k (by lia) (by lia)
 have n2:=tb.nn a k j (by lia) hj
 show iH _ _ _ _ i j<=_
 unfold iH
 split
 .lia
 .exact(kr _ _).2.2 _ (lI.mpr ⟨k,h1,h2,rfl⟩)
def uf:∀ t∈ts,A3 n t:=λt h=>⟨(S.takes.ok t h).1,(S.takes.ok t h).2.2.1⟩
def uO:∀(a i j:Nat) (t:kZ),i<j->j<(fI n cs).length->yw (fI n cs) ts a i j t->t.ok cs ts.length/\(t.cnt:Int)=fZ (fI n cs) ts a i j+1/\(t.val ts).2+1<=a/\Pp (t.val ts).1 ((fI n cs).getD i 0) ((fI n cs).getD j 0)
 |0,i,j,t,_,_,h=>h.elim
 | a+1,i,j,t,pV,hj,h=>by
  unfold yw at h
  have pF:=gw n cs
  by_cases q:fZ (fI n cs) ts (a+1) i j=0
  .rw[aF q]at h
   obtain⟨x,hx,rfl⟩:=h
   obtain⟨t,e,h1,h2⟩:=Ag.mp hx
   have hxl:=(ka e).1
   have ok:=S.takes.ok t (kA e)
   have ev:(kZ.num (x:Nat)).val ts=t:=kZ.zB (by rw[yh];exact e)
   have ei:=ig S.n1 S.iK (kA (getD_some (show i<(fI n cs).length by lia)))
   refine⟨⟨by lia,by lia⟩,by rw[q];rfl,by rw[ev];lia,?_⟩
   rw[ev]
   exact Gh ok.2.1 ei.1 (by have:=ok.1;lia) h2
  .rw[aG q]at h
   obtain⟨k,hk,l,r,rfl,bl,br⟩:=h
   obtain⟨k1,k2,k3⟩:=jW.mp hk
   obtain⟨l1,l2,l3,l4⟩:=uO a i k l k1 (by lia) bl
   obtain⟨r1,r2,r3,r4⟩:=uO a k j r k2 hj br
   have hc:=OQ (n:=n) (cs:=cs) (k:=k) (by lia) (by lia)
   have hp:=S.iK.Qw _ hc
   have vl:=(kZ.oQ (uf S) l1).1
   refine⟨⟨hc,l1,r1⟩,?_,?_,?_⟩
   .show((l.cnt+r.cnt:Nat):Int)=_
    lia
   .show max (l.val ts).2 (r.val ts).2+1+1<=_
    lia
   .intro x x1 x2
    show(MP (l.val ts).1 (r.val ts).1 _)[x]?=_
    by_cases z:(x:Int)<(fI n cs).getD k 0
    .rw[sV (by lia) z];exact l4 x x1 z
    .rw[ql (by lia) (by lia) (by lia)];exact r4 x (by lia) x2
def nu:∀(t:kZ) (a i j:Nat),i<j->j<(fI n cs).length->t.ok cs ts.length->(t.val ts).2<=a->Pp (t.val ts).1 ((fI n cs).getD i 0) ((fI n cs).getD j 0)->fZ (fI n cs) ts (a+1) i j+1<=t.cnt/\((t.cnt:Int)=fZ (fI n cs) ts (a+1) i j+1->yw (fI n cs) ts (a+1) i j t)
 | .num x,a,i,j,pV,hj,ok,ha,hc=>by
  obtain⟨x,rfl⟩:∃ y:Nat,x=y:=⟨x.toNat,by have:=ok.1;lia⟩
  have hx:x<ts.length:=by have:=ok.2;lia
  obtain⟨t,e⟩:∃ t,ts[x]?=some t:=⟨_,iM hx⟩
  have ev:(kZ.num (x:Nat)).val ts=t:=kZ.zB (by rw[yh];exact e)
  rw[ev]at ha hc
  have tk:=S.takes.ok t (kA e)
  have hu:=ib S.n1 S.iK
  have gi:=getD_some (show i<(fI n cs).length by lia)
  have gj:=getD_some hj
  have ei:=ig S.n1 S.iK (kA gi)
  have ej:=ig S.n1 S.iK (kA gj)
  have lt:=ky hu gi gj pV
  have QH:=AR (es:=fI n cs) tk.2.1 ei.1 (by lia) (by have:=tk.1;lia) (kA gj) hc
  have t0:=Jw (n:=n) (cs:=cs) (ts:=ts) (a:=a) (i:=i) (j:=j) (by lia) (bB QH (nR (kA e) ha))
  refine⟨by rw[t0];show(0:Int)+1<=((1:Nat):Int);decide,λ_=>?_⟩
  unfold yw
  rw[aF t0]
  exact⟨x,Ag.mpr ⟨t,e,ha,QH⟩,rfl⟩
 | .uc p l r,a,i,j,pV,hj,ok,ha,hc=>by
  obtain⟨pc,ol,or⟩:=ok
  have hp:=S.iK.Qw p pc
  have hu:=ib S.n1 S.iK
  have vl:=kZ.oQ (uf S) ol
  have vr:=kZ.oQ (uf S) or
  have hl1:=vl.1
  have ha:max (l.val ts).2 (r.val ts).2+1<=(a:Int):=ha
  have hc:Pp (MP (l.val ts).1 (r.val ts).1 p) ((fI n cs).getD i 0) ((fI n cs).getD j 0):=hc
  have cp:=l.AQ
  have cr:=r.AQ
  have ec:(((kZ.uc p l r).cnt:Nat):Int)=(l.cnt:Int)+r.cnt:=by show((l.cnt+r.cnt:Nat):Int)=_;lia
  rw[ec]
  by_cases q1:(fI n cs).getD j 0<=p
  .have:=(nu l a i j pV hj ol (by lia) λk k1 k2=>by rw[<- sV (l2:=(r.val ts).1) (p:=p) (by lia) (by lia)];exact hc k k1 k2).1
   exact⟨by lia,λe=>by lia⟩
  by_cases q2:p<=(fI n cs).getD i 0
  .have:=(nu r a i j pV hj or (by lia) λk k1 k2=>by rw[<- ql (l1:=(l.val ts).1) (p:=p) (by lia) (by lia) (by lia)];exact hc k k1 k2).1
   exact⟨by lia,λe=>by lia⟩
  obtain⟨k,hk,ek⟩:=O0 (n:=n) pc
  have k1:i<k:=Py hu (by lia) hk (by lia)
  have k2:k<j:=Py hu hk hj (by lia)
  have v0:=vl.2
  have v1:=vr.2
  obtain⟨a,rfl⟩:∃ x,a=x+1:=⟨a - 1,by lia⟩
  have il:=nu l a i k k1 hk ol (by lia) λx x1 x2=>by rw[<- sV (l2:=(r.val ts).1) (p:=p) (by lia) (by lia)];exact hc x x1 (by lia)
  have ir:=nu r a k j k2 hj or (by lia) λx x1 x2=>by rw[<- ql (l1:=(l.val ts).1) (p:=p) (by lia) (by lia) (by lia)];exact hc x (by lia) x2
  have tj:=Jx S (a:=a+1) k1 k2 hj
  refine⟨by lia,λe=>?_⟩
  have tb:=BH S
  have n1:=tb.nn (a+1) i k (by lia) (by lia)
  have n2:=tb.nn (a+1) k j (by lia) hj
  unfold yw
  rw[aG (by lia)]
  exact⟨k,jW.mpr ⟨k1,k2,by lia⟩,l,r,by rw[ek],il.2 (by lia),ir.2 (by lia)⟩
def Ir {t:kZ}{A:Nat}(hl:iT (fI n cs) ts n A)(ok:t.ok cs ts.length)(hc:Pp (t.val ts).1 0 n):(A:Int)<=(t.val ts).2:=by
 have v:=kZ.oQ (uf S) ok
 have v2:=v.2
 have n1:=S.n1
 have nm:n∈fI n cs:=by unfold fI;simp
 have h:=sR S (a:=(t.val ts).2.toNat) (Ak ok) (by lia) 0 n (qQ n cs) nm (by lia) hc
 have h2:=ig S.n1 S.iK ((mn S (t.val ts).2.toNat).mem 0 (qQ n cs))
 have:=least_le S (a:=(t.val ts).2.toNat) (by lia) hl
 lia
def Mo {t:kZ}{A:Nat}(hl:iT (fI n cs) ts n A):yw (fI n cs) ts (A+1) 0 (cs.length+1) t↔(t.ok cs ts.length/\t.val ts=(List.replicate n.toNat 111,(A:Int))/\(t.cnt:Int)=fZ (fI n cs) ts (A+1) 0 (cs.length+1)+1):=by
 have pF:=gw n cs
 have g0:(fI n cs).getD 0 0=0:=by rw[aC,AJ];rfl
 have gn:(fI n cs).getD (cs.length+1) 0=n:=by rw[aC,r8];rfl
 constructor
 .intro h
  obtain⟨h1,h2,h3,h4⟩:=uO S _ _ _ _ (by lia) (by lia) h
  rw[g0,gn]at h4
  have:=Ir S hl h1 h4
  have v:=kZ.oQ (uf S) h1
  exact⟨h1,Prod.ext (O3 v.1 h4) (by show(t.val ts).2=(A:Int);lia),h2⟩
 .rintro⟨h1,h2,h3⟩
  refine(nu S t A 0 (cs.length+1) (by lia) (by lia) h1 (by rw[h2];exact bq _) ?_).2 h3
  rw[g0,gn,h2]
  exact Pd n 0 n (bq _) (bq _)
end
section
variable {es:au Int}{ts:au Tk}(hu:es.Pairwise (·<·))(hL:es.length<=100)(ht:ts.length<=100)
include hu hL ht
end
def vc (C:ao)(n:Nat):jP:=λds μ K=>match ds with
 | [.mr k,s,.int r]=>∃(es:au Int) (ts:au Tk) (A j a i b:Nat) (ks:au (au Key)) (dd:au D),Bm C μ k es ts A j a i b/\s=vh a i b/\a<n/\TR es ts/\k≠j/\μ[j]?=some (.nB ks dd)/\Memo es ts A ks dd/\0<=r/\r<j4 es ts (a+1) i b /\
  ∀ ow oP,Memo es ts A ow oP->K (FL (GS es ts (a+1) i b r)) (μ.set j (.nB ow oP))
 |_=>False
def Eu {C:ao}(vs:au V)(H:Hp)(Q:VK)(E:XK):¬ iD (vc C 0) vs H Q E:=λh=>by
 obtain⟨φ,ds,μ,K,_,_,h,_⟩:=h
 unfold vc at h
 split at h
 .obtain⟨es,ts,A,j,a,i,b,ks,dd,_,_,h,_⟩:=h;lia
 .exact h
def Oz {X:Cx}:TX X .Sub (VE λi j=>i - j):=by
 intro fJ s σ H x y v u Q I r1 r2 h
 unfold VE at h
 split at h
 .exact Sx fJ s σ H _ _ v u Q I r1 r2 ⟨_,_,rfl,rfl,h⟩
 .cases h
def Dh (_ j:Int):Prop:=0<j/\∃ d:Nat,d<=1000/\j<=128 ^ d
def YJ {i j:Int}(h:Dh i j):Builtin.divisionGoesByPylong i j=false:=by
 obtain⟨h0,d,hd,h⟩:=h
 have e:(128:Int) ^ d=((2 ^ (7*d):Nat):Int):=by rw[Nat.pow_mul];norm_cast
 have h1:j.natAbs<2 ^ (7*d+1):=by rw[Nat.pow_succ];lia
 have h2:j.natAbs.log2<7*d+1:=(Nat.log2_lt (by lia)).mpr h1
 unfold Builtin.divisionGoesByPylong
 dsimp only
 rw[Bool.and_eq_false_iff]
 left
 rw[decide_eq_false_iff_not]
 split<;>lia
section
variable {X:Cx}
def Ku:lC X (binaryOp .FloorDiv) (rI Dh λi j=>.int (i / j)):=Uh λi j _ _ _ _ _ hc q=>by
 have h1:(0:Int)<j:=hc.1
 exact floordiv_int (by lia) (by rw[Int.fdiv_eq_ediv_of_nonneg i (by lia)];exact q) (.inl (YJ hc))
end
def QW:xP:=λx y μ K=>match x,y with
 |.int i,.int j=>Dh i j/\K (.int (i / j)) μ
 |_,_=>False
def Nv:rp (rI Dh λi j=>.int (i / j)) QW:=λφ H x y dx dy μ K Q M hx hy k L=>by
 unfold QW at k
 split at k
 .cases(show x=_ from hx);cases(show y=_ from hy);exact⟨_,_,rfl,rfl,k.1,L.val M k.2 rfl⟩
 .exact k.elim
def TH {es:au Int}{ts:au Tk}(hL:es.length<=100)(ht:ts.length<=100){a i j:Nat}(h1:i<j)(hj:j<es.length){v:Int}(h:0<j4 es ts a i j):Dh v (j4 es ts a i j):=⟨h,_,by lia,(pJ hL ht a i j h1 hj).2⟩
def Z3:jP:=λds μ K=>match ds with
 |[.mr k,.int n]=>μ[k]?=some .box/\0<n/\(∃ d:Nat,d<=1000/\n<=128 ^ d)/\∀ v,0<=v->v<n->K (.int v) μ
 |_=>False
structure BmG (C:ao)(ν g:MS)(es:List Int)(ts:List Tk)(a:Nat):Prop where
 e0:∀ ks dd,(g.set (ν.length+1) (.nB ks dd))[ν.length]?=some (.ins C EG (IC es ts a (ν.length+1)))
 e1:∀ ks dd,(g.set (ν.length+1) (.nB ks dd))[ν.length+1]?=some (.nB ks dd)
 ol:∀ ks dd j m',j<ν.length->(g.set (ν.length+1) (.nB ks dd))[j]?=some m'->Aj ν.length m'
 tk:∀ ks dd,(g.set (ν.length+1) (.nB ks dd)).take ν.length=ν
 z0:∀ ks dd m,ν[0]?=some m->(g.set (ν.length+1) (.nB ks dd))[0]?=some m
 nw:g=g.set (ν.length+1) (.nB [] [])
def bmG {C:ao}{ν g:MS}{es:au Int}{ts:au Tk}{a:Nat}(hm:∀(j:Nat) (m':MO),ν[j]?=some m'->Aj ν.length m')(hg:g=(ν++[MO.ins C [] []]).set ν.length (.ins C EG (IC es ts a (ν++[MO.ins C [] []]).length))++[.nB [] []]):BmG C ν g es ts a:=by
 have eg:g=ν++[.ins C EG (IC es ts a (ν.length+1)),.nB [] []]:=by
  rw[hg,cM _ _ (aw _),a8,bp,l5];rfl
 have gl:ν.length+1<g.length:=by rw[eg,l5];show _<_+2;lia
 refine⟨λks dd=>?_,λks dd=>aW gl,λks dd j m' hj e=>?_,λks dd=>?_,λks dd m hz=>?_,?_⟩
 .rw[bo (by lia),eg,rF (aw _),a8];rfl
 .rw[bo (by lia),eg,t6 hj]at e
  exact hm j m' e
 .rw[List.take_set_of_le (by lia),eg,cZ]
 .have:=(ka hz).1
  rw[bo (by lia),eg,t6 this];exact hz
 .exact(mZ (by rw[eg,rF (by lia),show ν.length+1 - ν.length=1 by lia];rfl)).symm
def UA (cB:ao):A9:=λds μ K Kx=>match ds with
 |[.lst y,x]=>(∃ m,μ[0]?=some m)/\∃(l:au Nat) (t:kZ),y=l.map (λx=>.int (x:Nat))/\l.length<=1000/\x=FL t/\(match rkT l t with|some r=>K (.int r) μ|none=>Kx (.ref cB) μ)
 |_=>False
def Mp (es:au Int)(ts:au Tk)(n:Int)(r:Int)(μ:MS)(K:DK)(X:Prop):Prop:=match jZ es ts with
 |some _=>X
 |none=>∀ a:Nat,a<=66->iT es ts n a->if 0<=r/\r<j4 es ts (a+1) 0 (es.length - 1)then K (FL (GS es ts (a+1) 0 (es.length - 1) r)) μ else X
def tK (cN:ao):A9:=λds μ K Kx=>match ds with
 |[.int n,.lst x,.lst y,.int r]=>(∃ m,μ[0]?=some m)/\∃(cs:au Int) (ts:au Tk),x=cs.map D.int/\y=ts.map ny/\gM n cs ts/\cs.length<=60/\Mp (fI n cs) ts n r μ K (Kx (.ref cN) μ)
 |_=>False
def Cz {cN:ao}{ds:au D}{μ:MS}{K:DK}{Kx:DX}(h:tK cN ds μ K Kx):ds.length=4/\∃ m,μ[0]?=some m:=by
 unfold tK at h
 split at h
 .exact⟨rfl,h.1⟩
 .cases h
def vS:jP:=λds μ K=>match ds with
 |[d]=>∃ t:kZ,d=FL t/\K (.bl (!Qq t)) μ
 |_=>False
def yU (n:Nat):jP:=λds μ K=>match ds with
 |[d]=>∃ t:kZ,d=FL t/\t.dep<=n/\K (.bl true) μ
 |_=>False
def kZ.AM:∀ t:kZ,t.dep+1<=t.cnt
 |.num _=>aw _
 | .uc _ l r=>by
  have:=l.AM
  have:=r.AM
  show max l.dep r.dep+1+1<=l.cnt+r.cnt
  lia
def Fc {f:Nat->Int}:∀ {l:au Nat} {x:Nat},(∀ y∈l,0<=f y)->x∈l->0<f x->0<(l.map f).sum
 |[],x,_,h,_=>by cases h
 | y::l,x,hn,h,hx=>by
  have h0:=hn y aH
  have h1:=z6.Dy (f:=f) (l:=l) λz hz=>hn z (nE _ hz)
  rw[aB,cx]
  rcases List.mem_cons.mp h with rfl|h
  .lia
  .have:=Fc (f:=f) (l:=l) (x:=x) (λz hz=>hn z (nE _ hz)) h hx;lia
section
variable {n:Int}{cs:au Int}{ts:au Tk}(S:gM n cs ts)
include S
def GJ (a i j:Nat)(pV:i<j)(hj:j<(fI n cs).length)(h0:fZ (fI n cs) ts (a+1) i j=0):0<j4 (fI n cs) ts (a+1) i j:=by
 have pF:=gw n cs
 have tb:=BH S
 have hu:=ib S.n1 S.iK
 unfold j4
 rw[aF h0]
 have e:fZ (fI n cs) ts (a+1) i j=iH (fI n cs).length (fI n cs) (jc (fI n cs) ts (a:Int)) (fZ (fI n cs) ts a) i j:=rfl
 unfold iH at e
 split at e
 .rename_i q
  have lt:=ky hu (getD_some (show i<(fI n cs).length by lia)) (getD_some hj) pV
  rw[jS (getD_some (show i<(fI n cs).length by lia)),kM]at q
  rcases kL ((ts.filter λt=>decide (t.2<=(a:Int))).map λt=>jd (fI n cs) t.1 ((fI n cs).getD i 0)) ((fI n cs).getD i 0)with z|z
  .lia
  .obtain⟨t,ht,et⟩:=List.mem_map.mp z
   obtain⟨t1,t2⟩:=List.mem_filter.mp ht
   obtain⟨x,hx,ex⟩:=aM t1
   have:x∈vk (fI n cs) ts a i j:=Ag.mpr ⟨t,by rw[iM hx,ex],cn t2,by rw[et];exact q⟩
   have:=List.length_pos_of_mem this
   lia
 .exfalso
  rcases(kr (mJ (fZ (fI n cs) ts a) i j) (((fI n cs).length:Int) - 1)).1 with z|z
  .lia
  .obtain⟨k,k1,k2,k3⟩:=lI.mp z
   have n1:=tb.nn a i k (by lia) (by lia)
   have n2:=tb.nn a k j (by lia) hj
   lia
def TF (Cr:cs.length<=60):∀(a i j:Nat),i<j->j<(fI n cs).length->fZ (fI n cs) ts (a+1) i j<((fI n cs).length:Int) - 1->0<j4 (fI n cs) ts (a+1) i j:=by
 intro a
 have pF:=gw n cs
 have ft:=S.takes.mD
 have tb:=BH S
 have hu:=ib S.n1 S.iK
 induction a with
 | zero =>
  intro i j pV hj h
  have h0:=yD S i j (by lia) hj h
  exact GJ S 0 i j pV hj h0
 | succ a ih =>
  intro i j pV hj h
  by_cases q:fZ (fI n cs) ts (a+1+1) i j=0
  .exact GJ S (a+1) i j pV hj q
  .unfold j4
   rw[aG q]
   have e:fZ (fI n cs) ts (a+1+1) i j=iH (fI n cs).length (fI n cs) (jc (fI n cs) ts ((a+1:Nat):Int)) (fZ (fI n cs) ts (a+1)) i j:=rfl
   unfold iH at e
   split at e
   .exact absurd e q
   .rcases(kr (mJ (fZ (fI n cs) ts (a+1)) i j) (((fI n cs).length:Int) - 1)).1 with z | z
    .lia
    .obtain⟨k,k1,k2,k3⟩:=lI.mp z
     have n1:=tb.nn (a+1) i k (by lia) (by lia)
     have n2:=tb.nn (a+1) k j (by lia) hj
     refine Fc (x:=k) (λy hy=>?_) (jW.mpr ⟨k1,k2,by lia⟩) (Int.mul_pos (ih i k k1 (by lia) (by lia)) (ih k j k2 hj (by lia)))
     obtain⟨y1,y2,_⟩:=jW.mp hy
     exact Int.mul_nonneg (pJ (by lia) (by lia) (a+1) i y y1 (by lia)).1 (pJ (by lia) (by lia) (a+1) y j y2 hj).1
def zG {A:Nat}(la:iT (fI n cs) ts n A):fZ (fI n cs) ts (A+1) 0 (cs.length+1)=mO (fI n cs) ts (A+1) 0 (cs.length+1) - 1/\fZ (fI n cs) ts (A+1) 0 (cs.length+1)<((fI n cs).length:Int) - 1:=by
 have pF:=gw n cs
 have tl:=yC S la
 rcases(lE S (A+1) 0 (cs.length+1) (by lia) (by lia)).2 (by lia)with⟨z,_⟩|⟨z1,z2,z3⟩
 .lia
 .exact⟨z3,by lia⟩
def Mn {A:Nat}(Cr:cs.length<=60)(la:iT (fI n cs) ts n A){r:Int}(r0:0<=r)(r1:r<j4 (fI n cs) ts (A+1) 0 (cs.length+1)):(GS (fI n cs) ts (A+1) 0 (cs.length+1) r).ok cs ts.length/\(GS (fI n cs) ts (A+1) 0 (cs.length+1) r).val ts=(List.replicate n.toNat 111,(A:Int))/\((GS (fI n cs) ts (A+1) 0 (cs.length+1) r).cnt:Int)=mO (fI n cs) ts (A+1) 0 (cs.length+1)/\(GS (fI n cs) ts (A+1) 0 (cs.length+1) r).dep<=cs.length:=by
 have pF:=gw n cs
 have ft:=S.takes.mD
 have rk:=DL (ib S.n1 S.iK) (by lia) (by lia) (A+1) 0 (cs.length+1) r (by lia) (by lia) r0 r1
 have b:=(Mo S la).mp ((sI (ib S.n1 S.iK) (A+1) 0 (cs.length+1) _ (by lia) (by lia)).mp (by rw[rk];rfl))
 obtain⟨t1,t2⟩:=zG S la
 have d:=(GS (fI n cs) ts (A+1) 0 (cs.length+1) r).AM
 exact⟨b.1,b.2.1,by lia,by have:=b.2.2;lia⟩
end
def Z4 (n:Nat):jP:=λds μ K=>match ds with
 |[x,y]=>∃ d,Lu μ x=some d/\Lu μ y=some d/\nM n d/\K (.bl true) μ
 |_=>False
def oK (n:Nat):jP:=λds μ K=>match ds with
 |[d]=>∃ t:kZ,d=FL t/\t.dep<=n/\K (.int ((t.cnt:Int) - 1)) μ
 |_=>False
end L2
namespace L2
open PySem PySem.Spec PyProof.Rows PyProof PySem.W
end L2
namespace L2
open PySem PySem.Spec PyProof.Rows PyProof
section
variable {n:Int}{cs:au Int}{ts:au Tk}(S:gM n cs ts)(Cr:cs.length<=60)
include S Cr
end
section
variable {n:Int}{cs:au Int}{ts:au Tk}(S:gM n cs ts)(Cr:cs.length<=60)
include S Cr
end
open PySem PySem.Spec PyProof.Rows
structure zt (μ:MS)(m0:Nat)(es:List Int)(ts:List Tk)(a j:Nat)(js:List Nat):Prop where
 len:js.length=a
 lst:mH μ j=some (js.map D.mr)
 row:∀(i k:Nat),js[i]?=some k->mH μ k=some ((gR es ts i).map D.int)
 ge:m0<=j
 new:∀ k∈js,m0<=k/\k≠j
def zt.app {μ g:MS}{m0 a j:Nat}{es:au Int}{ts:au Tk}{js:au Nat}(h:zt μ m0 es ts a j js):zt (μ++g) m0 es ts a j js:=⟨h.len,o8 h.lst,λi k e=>o8 (h.row i k e),h.ge,h.new⟩
def rA.app {μ g:MS}{n0 n1:Nat}{us:Us}{pp:au (au (au Int))}(h:rA μ n0 us pp)(hn:n1<=n0):rA (μ++g) n1 us pp:=⟨h.len,λi u tb e1 e2=>(h.tab i u tb e1 e2).app hn,h.ord⟩
structure Q2 (n:Int)(cs:List Int)(ts:List Tk)(a:Nat)(t:kZ):Prop where
 Vq:jZ (fI n cs) ts=none
 least:iT (fI n cs) ts n a
 age:a<=66
 ok:t.ok cs ts.length
 val:t.val ts=(List.replicate n.toNat 111,(a:Int))
 cnt:(t.cnt:Int)=mO (fI n cs) ts (a+1) 0 (cs.length+1)
 dep:t.dep<=63
inductive G1 (μ:MS)(m0:Nat)(n:Int)(cs:List Int)(ts:List Tk):D->Prop
 |bar (p:Int×Int) (hb:jZ (fI n cs) ts=some p):G1 μ m0 n cs ts (.tup [.str "bar",.int p.1,.int p.2])
 |make (a:Nat) (t:kZ) (j:Nat) (js:List Nat) (j2:Nat) (us:Us) (M:Q2 n cs ts a t) (y:zt μ m0 (fI n cs) ts a j js) (f:mH μ j2=some (IM us)) (f1:m0<=j2) (pm:rA μ m0 us (BX (fI n cs) ts a (t.cnt - 1))):G1 μ m0 n cs ts (.tup [.str "make",FL t,.mr j,.mr j2])
def pq:jP:=λds μ K=>match ds with
 |[.int n,.lst x,.lst y,.int a,.int m]=>∃(cs:au Int) (ts:au Tk),x=cs.map D.int/\y=ts.map ny/\gM n cs ts/\0<=a/\a<=1000/\0<=m/\m<=1000/\∀(j:Nat) (us:Us) (g:MS),rA (μ++g) μ.length us (BX (fI n cs) ts a.toNat m.toNat)->mH (μ++g) j=some (IM us)->μ.length<=j->K (.mr j) (μ++g)
 |_=>False
def vQ:jP:=λds μ K=>match ds with
 |[.lst b,.lst y,.int z,.mr j]=>∃(n:Int) (cs:au Int) (ts:au Tk) (a m0:Nat) (js:au Nat),b=(fI n cs).map D.int/\y=ts.map ny/\z=(a:Int)/\gM n cs ts/\iT (fI n cs) ts n a/\a<=1000/\zt μ m0 (fI n cs) ts a j js/\K (.bl true) μ
 |_=>False
def AG:jP:=λds μ K=>match ds with
 |[.lst b,.lst y,.int a,.int m,.mr j]=>∃(n:Int) (cs:au Int) (ts:au Tk) (us:Us) (pp:au (au (au Int))),b=(fI n cs).map D.int/\y=ts.map ny/\mH μ j=some (IM us)/\gM n cs ts/\rA μ 0 us pp/\0<=a/\a<=1000/\0<=m/\m<=1000/\G6 (fI n cs) ts n a m pp/\K (.bl true) μ
 |_=>False
def v9:jP:=λds μ K=>match ds with
 |[.int n,.lst x,.lst y]=>(∃ m,μ[0]?=some m)/\∃(cs:au Int) (ts:au Tk),x=cs.map D.int/\y=ts.map ny/\gM n cs ts/\cs.length<=60/\∀(d:D) (g:MS),G1 (μ++g) μ.length n cs ts d->K d (μ++g)
 |_=>False
def AF:jP:=λds μ K=>match ds with
 |[.int n,.lst x,.lst y,d]=>∃(cs:au Int) (ts:au Tk) (m0:Nat),x=cs.map D.int/\y=ts.map ny/\gM n cs ts/\G1 μ m0 n cs ts d/\K (.bl true) μ
 |_=>False
end L2
namespace Pf
open PySem L2 PyProof.Rows
def top (i:Nat):Stmt:=PySem.Challenge.pw_hissroom_k23_whole_answer_shown.main.body.getD i (.Pass ⟨0,0,0,0⟩)
def met (i j:Nat):Stmt:=(O2 (top i)).getD j (.Pass ⟨0,0,0,0⟩)
abbrev wO:Stmt:=top 32
abbrev rM:Stmt:=top 33
abbrev rT:Stmt:=top 34
abbrev rS:Stmt:=top 35
abbrev lS:Stmt:=top 36
abbrev oX:Stmt:=top 37
abbrev s_same:Stmt:=top 52
abbrev rR:Stmt:=top 2
abbrev m5:Stmt:=top 3
abbrev m8:Stmt:=top 5
abbrev kU:Stmt:=top 4
abbrev jG:Stmt:=top 12
abbrev j9:Stmt:=top 13
abbrev jK:Stmt:=top 14
abbrev kQ:Stmt:=top 11
abbrev j7:Stmt:=top 10
abbrev lT:Stmt:=top 17
abbrev jt:Stmt:=top 18
abbrev i0:Stmt:=top 20
abbrev jr:Stmt:=top 19
abbrev jL:Stmt:=top 16
abbrev m6:Stmt:=top 22
abbrev hZ:Stmt:=met 24 1
abbrev gJ:Stmt:=met 24 2
abbrev iq:Stmt:=met 24 3
abbrev gO:Stmt:=met 24 5
abbrev h9:Stmt:=met 24 4
abbrev hJ:Stmt:=met 24 0
abbrev hG:Stmt:=met 24 6
abbrev lU:Stmt:=top 23
abbrev jz:Stmt:=top 26
abbrev oY:Stmt:=top 29
abbrev kS:Stmt:=top 28
abbrev j8:Stmt:=top 27
abbrev rN:Stmt:=top 38
abbrev wN:Stmt:=top 41
abbrev qe:Stmt:=top 43
abbrev m7:Stmt:=top 40
abbrev kR:Stmt:=top 44
abbrev o3:Stmt:=top 45
abbrev oZ:Stmt:=top 47
abbrev jJ:Stmt:=top 48
abbrev jI:Stmt:=top 46
abbrev kT:Stmt:=top 49
abbrev oW:Stmt:=top 50
abbrev rO:Stmt:=top 39
abbrev rQ:Stmt:=top 51
abbrev m4:Stmt:=top 53
abbrev m9:Stmt:=top 30
abbrev rP:Stmt:=top 54
abbrev nO:Stmt:=top 55
structure jh (K:aa)(C:ao):Prop where
 cl:G7 K C
 sP:W.findIn K (.ref C) "places"=some none
 KP:W.findIn K (.ref C) "rows"=some none
 sO:W.findIn K (.ref C) "tables"=some none
 Af:W.findIn K (.ref C) "whole"=some none
 sQ:W.findIn K (.ref C) "counts"=some none
def Ru:gg ["_law_script"] (pA wO) (fR wO):=i8
def sF:gg ["_law_box_here","_law_many","_law_rest","_law_cell","_law_one","_law_two"] (pA rM) (fR rM):=i8
def oV:gg ["_law_box_here","_law_size","_law_kind","_law_first","_law_behind"] (pA rT) (fR rT):=i8
def vG:gg ["_law_box_here","_law_size","_law_kind"] (pA rS) (fR rS):=i8
def lR:gg ["_law_box_here","_law_size","_law_cuts_here","_law_texts","_law_border","_law_k","_law_at","_law_old","_law_clean"] (pA lS) (fR lS):=i8
def jQ:gg ["_law_box_here","_law_most","_law_size","_law_cuts_here","_law_many","_law_texts","_law_kind","_law_low","_law_ages"] (pA oX) (fR oX):=i8
def NA:gg ["_law_found","_law_due"] (pA s_same) (fR s_same):=i8
def NC:gg ["size","cuts"] (pA rR) (fR rR):=i8
def yI:gg ["size","cuts","places"] (pA m5) (fR m5):=i8
def qI:gg ["size","cuts","takes","first","behind"] (pA m8) (fR m8):=i8
def nN:gg ["size","cuts","text","end","spoilt","clean_to"] (pA kU) (fR kU):=i8
def oU:gg ["size","cuts","takes","places"] (pA jG) (fR jG):=i8
def ki:gg ["places","rows","age","told","take_age","row"] (pA j9) (fR j9):=i8
def kH:gg ["places","rows","before","age","where","clean"] (pA jK) (fR jK):=i8
def uW:gg ["takes"] (pA kQ) (fR kQ):=i8
def jH:gg ["size","cuts","takes","places","rows","age","told"] (pA j7) (fR j7):=i8
def DF:gg ["places"] (pA lT) (fR lT):=i8
def og:gg ["places","none"] (pA jt) (fR jt):=i8
def oC:gg ["lefts","rights","none"] (pA i0) (fR i0):=i8
def iS:gg ["places","clean","before","columns","none","told","first","row","far"] (pA jr) (fR jr):=i8
def hU:gg ["size","cuts","takes","age","places","rows","ages","table","changing","told","now","before"] (pA jL) (fR jL):=i8
def yJ:gg ["size","cuts","takes","age","many"] (pA m6) (fR m6):=i8
def jq:gg ["self","stretch","age","first","behind"] (pA hZ) (fR hZ):=i8
def gU:gg ["self","stretch","age","first","behind","end"] (pA gJ) (fR gJ):=i8
def hX:gg ["self","stretch","age","first","behind","many","before"] (pA iq) (fR iq):=i8
def gZ:gg ["self","stretch","many","place","left","right"] (pA gO) (fR gO):=i8
def qd:gg ["self","stretch"] (pA h9) (fR h9):=i8
def lN:gg ["self","size","cuts","takes","least"] (pA hJ) (fR hJ):=i8
def gW:gg ["self","stretch","number","rest","place","left","right","many"] (pA hG) (fR hG):=i8
def wM:gg ["size","cuts","takes","number","best"] (pA lU) (fR lU):=i8
def jf:gg ["size","cuts","takes","age","places","rows","told","row","now"] (pA jz) (fR jz):=i8
def BM:gg ["row","behind","joins"] (pA oY) (fR oY):=i8
def jF:gg ["places","table","many","told","behinds","joins","enough"] (pA kS) (fR kS):=i8
def mP:gg ["size","cuts","takes","age","many","places","tables"] (pA j8) (fR j8):=i8
def Fi:gg ["_law_takes"] (pA rN) (fR rN):=i8
def zU:gg ["_law_border","_law_text","_law_end","_law_at"] (pA wN) (fR wN):=i8
def Fj:gg ["_law_border","_law_takes"] (pA qe) (fR qe):=i8
def qH:gg ["_law_border","_law_takes","_law_k","_law_part"] (pA m7) (fR m7):=i8
def lg:gg ["_law_border","_law_fars_here","_law_age","_law_row","_law_last","_law_k","_law_old","_law_far_here"] (pA kR) (fR kR):=i8
def BO:gg ["_law_border","_law_row","_law_first","_law_second","_law_k"] (pA o3) (fR o3):=i8
def BN:gg ["_law_row","_law_ahead"] (pA oZ) (fR oZ):=i8
def n9:gg ["_law_border","_law_fars_here","_law_age","_law_table","_law_last","_law_t","_law_u"] (pA jJ) (fR jJ):=i8
def n8:gg ["_law_border","_law_takes","_law_age","_law_paper","_law_fars_here","_law_k"] (pA jI) (fR jI):=i8
def mq:gg ["_law_border","_law_takes","_law_age","_law_many","_law_paper","_law_fars_here","_law_last","_law_old"] (pA kT) (fR kT):=i8
def JL:gg ["_law_found"] (pA oW) (fR oW):=i8
def zT:gg ["_law_cuts_here","_law_takes","_law_make","_law_left","_law_right"] (pA rO) (fR rO):=i8
def NB:gg ["_law_make"] (pA rQ) (fR rQ):=i8
def Ho:gg ["_law_make"] (pA m4) (fR m4):=i8
def oE:gg ["size","cuts","takes","bar","age","many","make"] (pA m9) (fR m9):=i8
def vF:gg ["_law_size","_law_cuts_here","_law_takes","_law_told","_law_border","_law_bar","_law_take_here"] (pA rP) (fR rP):=i8
def oa:gg ["_law_script","_law_box_here","_law_most","_law_size","_law_cuts_here","_law_takes","_law_given","_law_told","_law_row"] (pA nO) (fR nO):=i8
def fU:ao:=200
def l6:ao:=68
def TL:ao:=55
section
variable (P:ah)(w:ai)(K:aa)(mg:Str->av ar)(fK:Heap)
abbrev QY:Prop:=mM P w K mg fK "_law_box" 1 (pA wO) (zM K)
abbrev uL:Prop:=mM P w K mg fK "_law_take" 1 (pA rM) (iD Gj)
abbrev Ml:Prop:=mM P w K mg fK "_law_bars" 2 (pA rT) (iD Gv)
abbrev Mj:Prop:=mM P w K mg fK "_law_cuts" 2 (pA rS) (iD Gu)
abbrev zg:Prop:=mM P w K mg fK "_law_patched" 2 (pA lS) (iD tF)
abbrev GL:Prop:=mM P w K mg fK "_law_shelf" 3 (pA oX) (iD AB)
abbrev Md:Prop:=mM P w K mg fK "_law_same" 6 (pA s_same) (iD LB)
abbrev pB:Prop:=mM P w K mg fK "ends" 1 (pA rR) (iD Gs)
abbrev CO:Prop:=mM P w K mg fK "pieces" 2 (pA m5) (iD vU)
abbrev tS:Prop:=mM P w K mg fK "bar_of" 3 (pA m8) (iD AI)
abbrev xI:Prop:=mM P w K mg fK "farthest" 2 (pA kU) (iD qO)
abbrev my:Prop:=mM P w K mg fK "take_rows" 3 (pA jG) (iD qM)
abbrev qy:Prop:=mM P w K mg fK "clean_row" 1 (pA j9) (iD qP)
abbrev pz:Prop:=mM P w K mg fK "next_reach" 2 (pA jK) (iD AD)
abbrev sq:Prop:=mM P w K mg fK "youngest" 1 (pA kQ) (iD qL)
abbrev qx:Prop:=mM P w K mg fK "least_age" 4 (pA j7) (iD AE)
abbrev qV:Prop:=mM P w K mg fK "no_make" 1 (pA lT) (iD vV)
abbrev tR:Prop:=mM P w K mg fK "bare_table" 2 (pA jt) (iD AH)
abbrev pL:Prop:=mM P w K mg fK "fewest_joined" 1 (pA i0) (iD tH)
abbrev tQ:Prop:=mM P w K mg fK "next_table" 2 (pA jr) (iD tG)
abbrev mT:Prop:=mM P w K mg fK "few_tables" 4 (pA jL) (iD tI)
abbrev CP:Prop:=mM P w K mg fK "fewest" 5 (pA m6) (iD vY)
abbrev ja:Prop:=xQ P w K mg fK fU "is_take" 1 (pA hZ) (iD (vW fU))
abbrev iC:Prop:=xQ P w K mg fK fU "clean_takes" 1 (pA gJ) (iD (v7 fU))
abbrev jg:Prop:=xQ P w K mg fK fU "halves" 1 (pA iq) (iD (vX fU))
abbrev AY:Prop:=xQ P w K mg fK fU "count_anew" 143 (pA gO) (iD (uG fU 71))
abbrev jC:Prop:=xQ P w K mg fK fU "counted" 144 (pA h9) (iD (uG fU 71))
abbrev mC:Prop:=T5 P w K mg fK "BestMakes" fU 5 (pA hJ) (iD (Gp fU))
abbrev mB:Prop:=xQ P w K mg fK fU "numbered" 216 (pA hG) (iD (vc fU 71))
abbrev zh:Prop:=T4 P w K mg fK "best_of" 217 (pA lU) (UY (tK l6))
abbrev rH:Prop:=mM P w K mg fK "young_paper" 4 (pA jz) (iD vR)
abbrev GN:Prop:=mM P w K mg fK "go_on" 1 (pA oY) (iD Gq)
abbrev xG:Prop:=mM P w K mg fK "few_rows" 2 (pA kS) (iD tJ)
abbrev ve:Prop:=mM P w K mg fK "few_paper" 5 (pA j8) (iD pq)
abbrev Me:Prop:=mM P w K mg fK "_law_near" 1 (pA rN) (iD Gn)
abbrev QX:Prop:=mM P w K mg fK "_law_far" 1 (pA wN) (iD OO)
abbrev EF:Prop:=mM P w K mg fK "_law_fars" 2 (pA qe) (iD Gr)
abbrev CQ:Prop:=mM P w K mg fK "_law_barred" 1 (pA m7) (iD v8)
abbrev su:Prop:=mM P w K mg fK "_law_row_good" 1 (pA kR) (iD Gm)
abbrev AX:Prop:=mM P w K mg fK "_law_above" 1 (pA o3) (iD wc)
abbrev GO:Prop:=mM P w K mg fK "_law_falls" 1 (pA oZ) (iD vZ)
abbrev tP:Prop:=mM P w K mg fK "_law_table_good" 2 (pA jJ) (iD vT)
abbrev tO:Prop:=mM P w K mg fK "_law_young_good" 3 (pA jI) (iD vQ)
abbrev xH:Prop:=mM P w K mg fK "_law_few_good" 3 (pA kT) (iD AG)
abbrev AW:Prop:=mM P w K mg fK "_law_whole" 1 (pA oW) (iD vS)
abbrev Mf:Prop:=mM P w K mg fK "_law_made" 64 (pA rO) (iD (uF 63))
abbrev Mi:Prop:=mM P w K mg fK "_law_form" 65 (pA rQ) (iD (yU 63))
abbrev CN:Prop:=mM P w K mg fK "_law_tuples" 64 (pA m4) (iD (oK 63))
abbrev CS:Prop:=mM P w K mg fK "answer" 218 (pA m9) (iD v9)
abbrev Mh:Prop:=mM P w K mg fK "_law_good" 67 (pA rP) (iD AF)
end
section
variable {P:ah}{w:ai}{K:aa}{mg:Str->av ar}{fK:Heap}{f:ao}{fd:aj}
def R5 (F:j5 K "_law_box" "_law_box" wO f fd)(T:lM mg)  : gL P w K mg fK ku 1 f fd (pA wO) (zM K):=by
 refine F.ok Ru (λvs H Q E h=>?_) (λje A fV s H vs Q E hr h=>?_)
 .unfold zM at h;split at h
  .rfl
  .cases h
 .unfold zM at h;split at h
  .rename_i a
   obtain⟨ns,hs,k⟩:=h
   refine⟨_,(lG (oi (Ki (gz (yM Cj (by rfl) T.list bC (gz (lP 0) iV)) (gz iu (gz iu (gz iu iV))))))),?_⟩
   refine⟨_,hs,λl hl=>?_⟩
   refine⟨(zs),λb hb=>?_⟩
   have Zq:l≠b:=gP (o:=.lst (ns.map V.int)) gp hb
   have ZM:H b=none:=by rw[gB Zq.symm]at hb;exact hb
   refine k b l _ ⟨ns,0,0,1,gp,by rw[gB Zq];exact gp,Zq,by decide,by decide,by decide⟩ ZM hl λc o e=>?_
   rw[gB (gP e ZM),gB (gP e hl)]
   exact e
  .cases h
def N6 (F:j5 K "_law_take" "_law_take" rM f fd)(T:lM mg)  : gL P w K mg fK ku 1 f fd (pA rM) (iD Gj):=by
 refine gL.imp (sp:=vC) ?_ λvs H Q E h=>Ju h
 refine F.ok sF (λvs H Q E h=>?_) (λje A fV s H vs Q E hr h=>?_)
 .obtain⟨b,n,q,rfl,_⟩:=uV h;rfl
 .obtain⟨b,n,q,rfl,⟨ns,i,r,z,hb,hq,Xu,hi,hz,Dk⟩,hn,IS,k⟩:=uV h
  refine⟨_,(iU (uX (nP ZU (qg K9 (lP 0) iu (λ_ _=>rfl)) iu (iQ _))
   (iU (uw (i:=2) sF.nd rfl (by first|exact Or.inl rfl|exact Or.inr rfl) (qg K9 (lP 0) iu (λ_ _=>rfl)))
   (iU (ux (lh divC (lP 2) (lP 1)) (wV (lP 0) iu setC))
   (lG (oi (lh Ai (lP 2) (lP 1))))))
   nQ)
   (iU (ux (lh Ai (lh Mu (lh mulC (qg K9 (lP 0) iu (λ_ _=>rfl)) iu) iu) iu) (wV (lP 0) iu setC))
   (NN (uX (nP Vy (qg K9 (lP 0) iu (λ_ _=>rfl)) (iB Ot (by rfl) T.len PySem.boot_len (gz (qg K9 (lP 0) iu (λ_ _=>rfl)) iV)) (iQ _))
   (iU (uw (i:=3) sF.nd rfl (by first|exact Or.inl rfl|exact Or.inr rfl) (qg K9 (qg K9 (lP 0) iu (λ_ _=>rfl)) (qg K9 (lP 0) iu (λ_ _=>rfl)) (λ_ _=>rfl)))
   (iU (NP (lP 0) iu ZV iu sW setC)
   (iU (uX (nP geC (lP 3) (lh powC iu iu) (iQ _))
   (iU (ux (lh divC (lP 3) (lP 1)) (wV (lP 0) iu setC))
   (lG (oi (lh Ai (lP 3) (lP 1)))))
   nQ)
   (lG (ux (lh Ai (lh Mu (qg K9 (lP 0) iu (λ_ _=>rfl)) (lh mulC (lP 3) iu)) iu) (wV (lP 0) iu setC))))))
   nQ)
   (iU (uw (i:=4) sF.nd rfl (by first|exact Or.inl rfl|exact Or.inr rfl) (qg K9 (lP 0) iu (λ_ _=>rfl)))
   (iU (uw (i:=5) sF.nd rfl (by first|exact Or.inl rfl|exact Or.inr rfl) (lh Ai (lh Mu (lh mulC (lP 4) (lP 4)) (lh divC (lP 4) iu)) iu))
   (lG (oi (lh Ai (lh Ai (lh Mu (lh mulC (lP 5) iu) (lP 4)) iu) (lP 1))))))))),?_⟩
  have fin:∀(v:Int) (H':Hp) (i' r' z':Int),OB b H H'->H' b=some (.lst [.ref q,.int i',.int r',.int z'])->0<=i'->0<=z'->z'<2147483647->Q (.int (v%n)) H':=λv H' i' r' z' ob Bq h1 h2 h3 =>
   k _ _ (eF _ (by lia)) (eJ _ hn) ⟨ns,i',r',z',Bq,(ob q Xu).trans hq,Xu,h1,h2,h3⟩ ob
  have md:∀ x:Int,0<=x%2147483647/\x%2147483647<2147483647:=λx=>⟨eF _ (by decide),eJ _ (by decide)⟩
  refine⟨_,.inl hb,?_⟩
  refine kq (λh1=>?_) (λh1=>?_)
  .refine⟨_,.inl hb,⟨hn,IS⟩,_,hb,hn,?_⟩
   exact fin _ _ _ _ _ OB.refl.upd gp hi hz Dk
  .refine⟨_,.inl hb,.inr ⟨by decide,by decide⟩,pM,_,hb,?_⟩
   have ob1:∀ o,OB b H (upd H b o):=λo=>OB.refl.upd
   refine⟨λjo H'=>∃(c:av V) (i' r' z':Int),jo=[some (.ref b),some (.int n),none,c,none,none]/\OB b H H'/\H' b=some (.lst [.ref q,.int i',.int r',.int z'])/\0<=i'/\0<=z'/\z'<2147483647,?_,?_⟩
   .refine⟨_,.inl gp,_,.inl gp,_,.inl ((ob1 _ q Xu).trans hq),?_⟩
    refine kq (λh2=>?_) (λh2=>?_)
    .have ZT:i<(ns.length:Int):=by simpa using h2
     obtain⟨c,hc⟩:∃ c,ns[i.toNat]?=some c:=⟨ns[i.toNat]'(by lia),iM _⟩
     have e:lB (ns.map V.int) i=some (.int c):=by
      have q:=kO (xs:=ns.map V.int) (j:=i.toNat) (v:=.int c) (by rw[nF,hc];rfl)
      rwa [cA hi]at q
     refine⟨_,.inl gp,_,.inl gp,_,.inl ((ob1 _ q Xu).trans hq),fN e ?_⟩
     refine⟨_,gp,by decide,_,gp,?_⟩
     refine⟨⟨by decide,by decide,by decide⟩,?_⟩
     refine kq (λh3=>?_) (λh3=>?_)
     .refine⟨⟨hn,IS⟩,_,gp,hn,?_⟩
      exact fin _ _ (i+1) _ _ OB.refl.upd.upd.upd gp (by lia) (md _).1 (md _).2
     .refine⟨_,.inl gp,.inr ⟨by decide,by decide⟩,pM,_,gp,?_⟩
      exact⟨_,i+1,_,_,rfl,OB.refl.upd.upd.upd,gp,by lia,(md _).1,(md _).2⟩
    .exact⟨_,i,_,_,rfl,OB.refl.upd,gp,hi,(md _).1,(md _).2⟩
   .rintro jo H' ⟨c,i',r',z',rfl,ob,Bq,h1,h2,h3⟩
    refine⟨_,.inl Bq,.inl ⟨by lia,by lia⟩,⟨by decide,by decide⟩,pN,.inr ⟨by decide,by decide⟩,pM,hn,?_⟩
    exact fin _ _ i' _ _ ob Bq h1 h2 h3
def Ob (F:j5 K "_law_cuts" "_law_cuts" rS f fd)(T:lM mg)(ji:uL P w K mg fK):gL P w K mg fK ku 2 f fd (pA rS) (iD Gu):=by
 refine F.nA vG (λds μ Kd h=>by unfold Gu at h;split at h <;> first | rfl | exact h.elim) (λje A fV s H E hr=>⟨_,(fO (qS 2 vG.nd (qC ji hr (a2 (dv 0) fT)))
  (fO (jj (J7 (dv 2) fT)
  (fY (gv (mw false iG)))
  hV)
  (fO (jj (J7 (dv 2) fT)
  (fY (gv (Dn false (tT (N:=["_law_place"]) (js:=[none]) vG (by decide +kernel)) (sX rfl T.range (a2 fT (dv 1))) (λ_ _ _ nd=>(qN 0 nd)) (λ_ _ _=>iI) (λ_ _ _=>(dv 0)))))
  hV)
  (fY (gv (Dn false (tT (N:=["_law_place","_law_box_here"]) (js:=[none,some 0]) vG (by decide +kernel)) (sX rfl T.range (a2 fT (dv 1))) (λ_ _ _ nd=>(qN 0 nd)) (λ_ _ _=>(wC (Ug (qC ji hr (a2 (dv 1) fT)) fT))) (λ_ _ _=>(dv 0)))))))),λds μ Kd hm hl h=>?_⟩)
 unfold Gu at h
 split at h
 .rename_i k n
  obtain⟨hb,h1,h2,kk⟩:=h
  refine⟨hb,by decide,by decide,λv v0 v1=>?_⟩
  refine oI (λhv=>?_) (λhv=>?_)
  .exact⟨bh _,.keep (kk [] (bh _) ⟨(λ_ q=>nomatch q),.nil⟩)⟩
  refine oI (λVM=>?_) (λVM=>?_)
  .refine⟨⟨by decide,by decide,by lia,by lia⟩,sz (by rw[iJ];lia),?_⟩
   refine iR trivial (λd=>some d) (λd hd K' k'=>k') ?_
   rw[List.filterMap_some,Fp]
   obtain⟨c1,c2⟩:=BR h1 (List.Sublist.refl _)
   exact .keep (kk _ c1 c2)
  .refine⟨⟨by decide,by decide,by lia,by lia⟩,sz (by rw[iJ];lia),?_⟩
   refine uK trivial (λd hd K' k1 k2=>?_) λzs hz=>?_
   .refine⟨hb,by decide,by decide,λv v0 v1=>?_⟩
    exact kq (λ_=>k1) (λ_=>k2)
   .rw[Fp]at hz
    obtain⟨bs,hs,rfl⟩:=Nm hz
    obtain⟨c1,c2⟩:=BR h1 hs
    exact .keep (kk _ c1 c2)
 .cases h
def uP {μ:MS}{n:Nat}{it:D->MS->(av D->MS->Prop)->Prop}{K:DK}(hn:n<=1000)(hit:∀(d:D) (K':av D->MS->Prop),(∀ c:Nat,(c=111\/c=120)->K' (some (.str ⟨#[c]⟩)) μ)->it d μ K')(k:∀ l:au Nat,l.length=n->OX l->K (.str (txt l)) μ):
 rG it (λ_=>True) (kz 0 n) μ λys jb=>nL false ys jb λx uS=>LC (.str (Str.ofString "")) [x] uS K:=by
 refine qU (λc:Nat=>D.str ⟨#[c]⟩) (λc=>c=111\/c=120) trivial (λd hd K' k'=>hit d K' k') λl hl ho=>?_
 rw[iJ]at hl
 refine⟨rfl,l.map (λc=>⟨#[c]⟩),by unfold lv;rw[bA];rfl,by rw[yE];lia,?_⟩
 rw[xp]
 exact k l hl λc hc=>ho c hc
def Oc (F:j5 K "_law_bars" "_law_bars" rT f fd)(T:lM mg)(ji:uL P w K mg fK):gL P w K mg fK ku 2 f fd (pA rT) (iD Gv):=by
 refine F.nA oV (λds μ Kd h=>by unfold Gv at h;split at h <;> first | rfl | exact h.elim) (λje A fV s H E hr=>⟨_,(fO (qS 2 oV.nd (qC ji hr (a2 (dv 0) fT)))
  (fO (jj (J7 (dv 2) fT)
  (fY (gv (CG dt fo fk K7 zP kb (a1 (Dn false (tT (N:=["_law_k","_law_box_here"]) (js:=[none,some 0]) oV (by decide +kernel)) (iE rfl T.range (a1 (dv 1))) (λ_ _ _ nd=>(qN 0 nd)) (λ_ _ _=>iI) (λ_ _ _=>(iX kb (qC ji hr (a2 (dv 1) fT)))))))))
  hV)
  (fO (jj (J7 (dv 2) fT)
  (fY (gv (CG dt fo fk K7 zP kb (a1 (Dn false (tT (N:=["_law_k","_law_box_here"]) (js:=[none,some 0]) oV (by decide +kernel)) (iE rfl T.range (a1 (dv 1))) (λ_ _ _ nd=>(qN 0 nd)) (λ_ _ _=>iI) (λ_ _ _=>(iX kb (qC ji hr (a2 (dv 1) fT)))))))))
  hV)
  (fO (jj (J7 (dv 2) fT)
  (fO (qS 3 oV.nd (qC ji hr (a2 (dv 0) (dv 1))))
  (fO (qS 4 oV.nd (pI (pI (dv 3) fT) (qC ji hr (a2 (dv 0) (Bu (dv 1) (dv 3))))))
  (fY (gv (pI (pI (rg mulC p9 kb (dv 3)) (rg mulC p9 kb (Bu (dv 4) (dv 3)))) (rg mulC p9 kb (Bu (dv 1) (dv 4))))))))
  hV)
  (fO (jj (J7 (dv 2) fT)
  (fY (gv (CG dt fo fk K7 zP kb (a1 (Dn false (tT (N:=["_law_k","_law_box_here"]) (js:=[none,some 0]) oV (by decide +kernel)) (iE rfl T.range (a1 (dv 1))) (λ_ _ _ nd=>(qN 0 nd)) (λ_ _ _=>iI) (λ_ _ _=>(iX kb (qC ji hr (a2 (dv 1) fT)))))))))
  hV)
  (fY (gv (rg mulC p9 (iX kb (qC ji hr (a2 (dv 0) fT))) (dv 1))))))))),λds μ Kd hm hl h=>?_⟩)
 unfold Gv at h
 split at h
 .rename_i k n
  obtain⟨hb,h1,h2,kk⟩:=h
  refine⟨hb,by decide,by decide,λv v0 v1=>?_⟩
  refine oI (λhv=>?_) (λhv=>?_)
  .refine⟨rfl,by lia,by lia,sz (by rw[iJ];lia),?_⟩
   refine uP (n:=n.toNat) (by lia) (λd K' k'=>?_) λl hl ho=>.keep (kk l hl ho)
   refine⟨hb,by decide,by decide,λv v0 v1=>⟨by decide,?_⟩⟩
   obtain⟨c,e,hc⟩:=AZ (l:=(Str.ofString "ox").cps.toList) v0 v1
   exact fN e (k' c ((OX.of (l:=(Str.ofString "ox").cps.toList) (by decide +kernel)) c hc))
  refine oI (λhv=>?_) (λhv=>?_)
  .refine⟨rfl,by lia,by lia,sz (by rw[iJ];lia),?_⟩
   refine uP (n:=n.toNat) (by lia) (λd K' k'=>?_) λl hl ho=>.keep (kk l hl ho)
   refine⟨hb,by decide,by decide,λv v0 v1=>⟨by decide,?_⟩⟩
   obtain⟨c,e,hc⟩:=AZ (l:=(Str.ofString "ooooox").cps.toList) v0 v1
   exact fN e (k' c ((OX.of (l:=(Str.ofString "ooooox").cps.toList) (by decide +kernel)) c hc))
  refine oI (λhv=>?_) (λhv=>?_)
  .refine⟨hb,by lia,by lia,λp p0 p1=>⟨hb,by lia,by lia,λg g0 g1=>?_⟩⟩
   refine⟨120,rfl,by lia,by lia,111,rfl,by lia,by lia,?_,120,rfl,by lia,by lia,?_,?_⟩
   .rw[HM,HM,aZ,aZ];exact sz (by lia)
   .rw[pC,HM,HM,l5,aZ,aZ,aZ];exact sz (by lia)
   rw[pC,pC]
   refine .keep (kk _ ?_ (((OX.rep (.inr rfl)).app (OX.rep (.inl rfl))).app (OX.rep (.inr rfl))))
   rw[l5,l5,aZ,aZ,aZ];lia
  refine oI (λhv=>?_) (λhv=>?_)
  .refine⟨rfl,by lia,by lia,sz (by rw[iJ];lia),?_⟩
   refine uP (n:=n.toNat) (by lia) (λd K' k'=>?_) λl hl ho=>.keep (kk l hl ho)
   refine⟨hb,by decide,by decide,λv v0 v1=>⟨by decide,?_⟩⟩
   obtain⟨c,e,hc⟩:=AZ (l:=(Str.ofString "xxxo").cps.toList) v0 v1
   exact fN e (k' c ((OX.of (l:=(Str.ofString "xxxo").cps.toList) (by decide +kernel)) c hc))
  refine⟨hb,by decide,by decide,λp p0 p1=>⟨by decide,?_⟩⟩
  obtain⟨c,e,hc⟩:=AZ (l:=(Str.ofString "ox").cps.toList) p0 p1
  exact fN e ⟨c,rfl,by lia,by lia,.keep (kk _ (aZ ..) (OX.rep ((OX.of (l:=(Str.ofString "ox").cps.toList) (by decide +kernel)) c hc)))⟩
 .cases h
def D0 (F:j5 K "_law_patched" "_law_patched" lS f fd)(T:lM mg)(ji:uL P w K mg fK):gL P w K mg fK ku 2 f fd (pA lS) (iD tF):=by
 refine F.nA lR (λds μ Kd h=>by unfold tF at h;split at h <;> first | rfl | exact h.elim) (λje A fV s H E hr=>⟨_,(fO (qS 4 lR.nd (pI (pI (mw false (a1 fT)) (dv 2)) (mw false (a1 (dv 1)))))
  (fO (lO bg rfl (iE rfl T.range (a1 (Bu (vt T (dv 4)) fT))) (qT 5 lR.nd)
  (fO (qS 6 lR.nd (qC ji hr (a2 (dv 0) (vt T (dv 3)))))
  (fO (qS 7 lR.nd (iX (dv 3) (dv 6)))
  (fO (qS 8 lR.nd (rg mulC p9 kb (Bu (iX (dv 4) (pI (dv 5) fT)) (iX (dv 4) (dv 5)))))
  (fY (Rw (pI (pI (mR false (dv 7) KH (lW (iX (dv 4) (dv 5)))) (dv 8)) (mR false (dv 7) (lW (iX (dv 4) (pI (dv 5) fT))) KH)) (dv 3) (dv 6)))))))
  (fY (gv (dv 3))))),λds μ Kd hm hl h=>?_⟩)
 unfold tF at h
 split at h
 .rename_i k n cs0 t
  obtain⟨hb,hkt,h1,h2,cs,ls,rfl,Cr,hc,ht,Ll,hll,hg,kk⟩:=h
  have lt:t<μ.length:=(ka ht).1
  refine⟨zs,?_⟩
  refine⟨by rw[ia];exact sz (by show 1+cs.length<=_;lia),?_⟩
  refine⟨zs,?_⟩
  refine⟨by rw[l5,ia];exact sz (by show 1+cs.length+1<=_;lia),?_⟩
  rw[qt n cs]
  obtain⟨es,he⟩:∃ es,es=fI n cs:=⟨_,rfl⟩
  rw[<- he]
  have Y8:es.Pairwise (·<·):=by rw[he];exact ib h1 hc
  have Cq:∀ x∈es,0<=x/\x<=n:=λx hx=>ig h1 hc (by rw[<- he];exact hx)
  have pF:es.length=cs.length+2:=by rw[he,gw]
  have o9:((es.map D.int).length:Int)=(es.length:Nat):=by rw[ia]
  refine⟨by rw[o9];lia,by rw[o9];lia,?_⟩
  refine i9 (λds ρ gq=>(∀ d∈ds,∃ j:Nat,j+1<es.length/\d=.int j)/\∃ vm a b c d,ρ=[some (.mr k),some (.int n),some (.lst (cs.map D.int)),some (.mr t),some (.lst (es.map D.int)),a,b,c,d]/\gq=μ.set t (.lst (vm.map Jr))/\vm.length=ls.length/\Good n vm) ⟨λd hd=>?_,ls,none,none,none,none,rfl,?_,rfl,hg⟩ ?_ ?_
  .obtain⟨j,hj,rfl⟩:=JT hd
   rw[o9]at hj
   exact⟨j,by lia,by rw[Int.zero_add]⟩
  .exact(mZ ht).symm
  .rintro d ua ρ gq ⟨hd,vm,a,b,c,e,rfl,rfl,oJ,Qx⟩
   refine⟨trivial,λnx rb=>?_⟩
   obtain⟨j,hj,rfl⟩:=hd d aH
   have hbx:(μ.set t (.lst (vm.map Jr)))[k]?=some .box:=by rw[bo (bD hkt)];exact hb
   have lls:0<vm.length:=by rw[oJ];exact List.length_pos_iff.mpr Ll
   refine fN (o7 lt) ⟨hbx,by rw[ia];lia,by rw[ia];lia,λv v0 v1=>?_⟩
   rw[ia]at v1
   obtain⟨l,tZ⟩:∃ l,vm[v.toNat]?=some l:=⟨vm[v.toNat]'(by lia),iM _⟩
   obtain⟨hll2,Zg⟩:=Qx l (kA tZ)
   have ev:lB (vm.map Jr) v=some (Jr l):=by have:=iZ (g:=Jr) tZ;rwa [cA v0]at this
   refine fN (o7 lt) (fN ev ?_)
   obtain⟨x,hx⟩:∃ x,es[j]?=some x:=⟨es[j]'(by lia),iM _⟩
   obtain⟨y,hy⟩:∃ y,es[j+1]?=some y:=⟨es[j+1]'(by lia),iM _⟩
   have Y4:=ky Y8 hx hy (bF _)
   have hx2:=Cq x (kA hx)
   have HZ:=Cq y (kA hy)
   have e1:lB (es.map D.int) (j:Int)=some (.int x):=iZ hx
   have e2:lB (es.map D.int) ((j:Int)+1)=some (.int y):=iZ (i:=j+1) hy
   refine fN e2 (fN e1 ⟨111,rfl,by lia,by lia,?_⟩)
   have lz:(txt l).length<=sizeLine:=by rw[kh];exact sz (by lia)
   refine fN e1 ⟨lz,?_⟩
   have c1:=wq l none (some x)
   have c2:=wq l (some y) none
   refine⟨?_,?_⟩
   .show(txt (kX l none (some x))).length+(txt (List.replicate (y - x).toNat 111)).length<=sizeLine
    rw[kh,kh,aZ];exact sz (by lia)
   refine fN e2 ⟨lz,?_,?_⟩
   .show(txt (kX l none (some x))++txt (List.replicate (y - x).toNat 111)).length+(txt (kX l (some y) none)).length<=sizeLine
    rw[pC,HM,kh,l5,aZ];exact sz (by lia)
   have ei:FQ (vm.map Jr).length v=some v.toNat:=by
    unfold FQ;rw[aF v0,aF (by rw[ia];lia)]
   refine fN (o7 lt) (fN ei (rb _ _ ⟨λd IU=>hd d (nE _ IU),vm.set v.toNat (l.take x.toNat++List.replicate (y - x).toNat 111++l.drop y.toNat),_,_,_,_,rfl,?_,by rw[cg];exact oJ,λl' hl3=>?_⟩))
   .rw[cq,List.map_set]
    congr 3
    show D.str (txt (kX l none (some x))++txt (List.replicate (y - x).toNat 111)++txt (kX l (some y) none))=_
    rw[pC,pC,GI hx2.1,zc HZ.1]
    rfl
   .rcases List.mem_or_eq_of_mem_set hl3 with q | q
    .exact Qx l' q
    .rw[q]
     refine⟨?_,((show OX (l.take x.toNat)from λc hc=>Zg c (bj hc)).app (OX.rep (.inl rfl))).app (show OX (l.drop y.toNat)from λc hc=>Zg c (fF hc))⟩
     rw[l5,l5,bz,aZ,bO]
     lia
  .rintro ρ gq ⟨_,vm,a,b,c,e,rfl,rfl,oJ,Qx⟩
   exact⟨trivial,.keep (kk vm oJ Qx)⟩
 .cases h
def Kz (F:j5 K "_law_shelf" "_law_shelf" oX f fd)(T:lM mg)(ji:uL P w K mg fK)(T8:Ml P w K mg fK)(T7:Mj P w K mg fK)(IJ:zg P w K mg fK):gL P w K mg fK ku 3 f fd (pA oX) (iD AB):=by
 refine F.nA jQ (λds μ Kd h=>by unfold AB at h;split at h <;> first | rfl | exact h.elim) (λje A fV s H E hr=>⟨_,(fO (qS 2 jQ.nd (pI fT (qC ji hr (a2 (dv 0) (dv 1)))))
  (fO (qS 3 jQ.nd (qC T7 hr (a2 (dv 0) (dv 2))))
  (fO (qS 4 jQ.nd (qC ji hr (a2 (dv 0) fT)))
  (zq (jj (J7 (qC ji hr (a2 (dv 0) fT)) fT)
  (fY (qS 4 jQ.nd fT))
  hV)
  (fO (sC1 5 true jQ.nd (tT (N:=["_law_k","_law_box_here","_law_size"]) (js:=[none,some 0,some 2]) jQ (by decide +kernel)) (iE rfl T.range (a1 (dv 4))) (λ_ _ _ nd=>(qN 0 nd)) (λ_ _ _=>iI) (λ_ _ _=>(qC T8 hr (a2 (dv 1) (dv 2)))))
  (zq (jj (PW.pt (uU (Ug (dv 4) fT) (p7 (Ug (qC ji hr (a2 (dv 0) fT)) fT))))
  (fY (qS 5 jQ.nd (qC IJ hr (fQ (dv 0) (fQ (dv 2) (fQ (dv 3) (fQ (dv 5) iG)))))))
  hV)
  (fO (qS 6 jQ.nd (qC ji hr (a2 (dv 0) fT)))
  (fO (qS 7 jQ.nd (qC ji hr (a2 (dv 0) fT)))
  (fO (sC1 8 false jQ.nd (tT (N:=["_law_k","_law_low","_law_box_here","_law_kind"]) (js:=[none,some 7,some 0,some 6]) jQ (by decide +kernel)) (iE rfl T.range (a1 (dv 4))) (λ_ _ _ nd=>(qN 0 nd)) (λ_ _ _=>iI) (λ_ _ _=>(pI (dv 1) (qC ji hr (a2 (dv 2) (iX (mw false (fQ fT (fQ fT (fQ fT (fQ fT iG))))) (dv 3)))))))
  (fY (gv (nr (a3 (dv 2) (dv 3) (y9 false rfl (by rfl) T.list (by rfl) T.zip (a2 (dv 5) (dv 8)))))))))))))))),λds μ Kd hm hl h=>?_⟩)
 unfold AB at h
 split at h
 .rename_i k m
  obtain⟨hb,h1,h2,kk⟩:=h
  refine⟨hb,by lia,by lia,λv v0 v1=>?_⟩
  refine⟨hb,by lia,by lia,λcs Cr hc=>?_⟩
  refine⟨hb,by decide,by decide,λw w0 w1=>?_⟩
  refine⟨λkF gq=>∃ many:Int,0<=many/\many<=20/\kF=[some (.mr k),some (.int m),some (.int (1+v)),some (.lst (cs.map D.int)),some (.int many),none,none,none,none]/\gq=μ,?_,?_⟩
  .refine⟨hb,by decide,by decide,λu u0 u1=>?_⟩
   exact oI (λ_=>⟨20,by decide,by decide,rfl,rfl⟩) (λ_=>⟨w,w0,by lia,rfl,rfl⟩)
  rintro kF gq ⟨many,m0,m1,rfl,rfl⟩
  refine⟨by lia,by lia,sz (by rw[iJ];lia),?_⟩
  refine qU Jr (λl=>(l.length:Int)=1+v/\OX l) trivial (λd hd K' k'=>⟨hb,by lia,by lia,λl hl ho=>k' l ⟨by lia,ho⟩⟩) λls Ut hg=>?_
  rw[iJ]at Ut
  have kl:k<gq.length:=(ka hb).1
  have VY:∀ x:MO,(gq++[x])[k]?=some .box:=λx=>by rw[t6 kl];exact hb
  refine⟨λUI UK=>∃ vm:au (au Nat),vm.length=many.toNat/\Good (1+v) vm/\UI=[some (.mr k),some (.int m),some (.int (1+v)),some (.lst (cs.map D.int)),some (.int many),some (.mr gq.length),none,none,none]/\UK=gq++[.lst (vm.map Jr)],?_,?_⟩
  .refine kq (λhp=>?_) (λhp=>⟨ls,Ut,hg,rfl,rfl⟩)
   refine⟨VY _,by decide,by decide,λu u0 u1=>?_⟩
   refine kq (λ_=>?_) (λ_=>⟨ls,Ut,hg,rfl,rfl⟩)
   refine⟨VY _,aE kl,by lia,by lia,cs,ls,rfl,by lia,hc,jA kN,?_,by lia,hg,λvm oJ Qx=>⟨vm,oJ.trans Ut,Qx,rfl,vE⟩⟩
   intro e
   rw[e]at Ut
   simp at Ut
   lia
  rintro UI UK ⟨vm,oJ,Qx,rfl,rfl⟩
  refine⟨VY _,by decide,by decide,λkd k0 k1=>⟨VY _,by decide,by decide,λlw l0 l1=>?_⟩⟩
  refine⟨by lia,by lia,sz (by rw[iJ];lia),?_⟩
  obtain⟨mm,em,mm1,Sb⟩:=WT k0 k1
  refine qU D.int (λa=>0<=a/\a<=60) trivial (λd hd K' k'=>⟨zs,fN em ⟨VY _,by lia,by lia,λa a0 a1=>k' (lw+a) ⟨by lia,by lia⟩⟩⟩) λas has hag=>?_
  rw[iJ]at has
  refine fN kN ⟨zs,?_⟩
  rw[Je]
  refine .drop ⟨True.intro,KS cs,Sa _,True.intro⟩ (R1 (n:=0) hm) ?_
  rw[Jv]
  refine kk (1+v) cs (vm.zip as) (by lia) (by lia) Cr hc ⟨by rw[List.length_zip];lia,λt ht=>?_⟩
  have z1:=Qx t.1 (eE ht).1
  have z2:=hag t.2 (eE ht).2
  exact⟨z1.1,z1.2,z2.1,z2.2⟩
 .cases h
def Oa (F:j5 K "ends" "ends" rR f fd)(T:lM mg)  : gL P w K mg fK ku 1 f fd (pA rR) (iD Gs):=by
 refine F.nA NC (λds μ Kd h=>by unfold Gs at h;split at h<;>first|rfl|exact h.elim) (λje A fV s H E hr=>⟨_,(fY (gv (pI (pI (mw false (a1 fT)) (Io Cj (vD (m:=false)) (by rfl) T.list bC (a1 (dv 1)))) (mw false (a1 (dv 0)))))),λds μ Kd hm hl h=>?_⟩)
 unfold Gs at h
 split at h
 .rename_i n x
  obtain⟨cs,ex,hc,kk⟩:=h
  refine⟨zs,fN ex ⟨by rw[ia];exact sz (by show 1+cs.length<=_;lia),zs,by rw[l5,ia];exact sz (by show 1+cs.length+1<=_;lia),?_⟩⟩
  rw[qt]
  exact .keep kk
 .cases h
def NQ (es:au Int):List.zipWith (λa b=>D.tup [a,b]) (es.map D.int) (L2.cutD (es.map D.int) (some 1) none)=(Bi es).map Vc:=by
 have e:L2.cutD (es.map D.int) (some 1) none=es.tail.map D.int:=by
  unfold L2.cutD
  rw[show(1:Int)=((1:Nat):Int)from rfl,HT.lF,HT.wQ,ia]
  cases es with
  |nil=>rfl
  |cons a es=>rw[a9,cb (by lia)];simp[b9]
 rw[e]
 unfold Bi
 have key:∀(xs ys:au Int),List.zipWith (λa b=>D.tup [a,b]) (xs.map D.int) (ys.map D.int)=(xs.zip ys).map Vc:=by
  intro xs
  induction xs with
  |nil=>intro ys;simp
  | cons x xs ih =>
   intro ys
   cases ys with
   |nil=>simp
   |cons y ys=>rw[aB,aB,bE,ih,cQ,aB];rfl
 exact key es es.tail
def HB (F:j5 K "pieces" "pieces" m5 f fd)(T:lM mg)(k9:pB P w K mg fK):gL P w K mg fK ku 2 f fd (pA m5) (iD vU):=by
 refine F.nA yI (λds μ Kd h=>by unfold vU at h;split at h <;> first | rfl | exact h.elim) (λje A fV s H E hr=>⟨_,(fO (qS 2 yI.nd (qC k9 hr (a2 (dv 0) (dv 1))))
  (fY (gv (y9 false rfl (by rfl) T.list (by rfl) T.zip (a2 (dv 2) (mR false (dv 2) (lW fT) KH)))))),λds μ Kd hm hl h=>?_⟩)
 unfold vU at h
 split at h
 .rename_i n x
  obtain⟨cs,ex,hc,kk⟩:=h
  refine⟨cs,ex,hc,?_⟩
  show Fz _ _ (.lst (List.zipWith (λa b=>D.tup [a,b]) ((fI n cs).map D.int) (L2.cutD ((fI n cs).map D.int) (some 1) none))) μ
  rw[NQ]
  exact .keep kk
 .cases h
def HE (F:j5 K "bar_of" "bar_of" m8 f fd)(T:lM mg)(Mz:CO P w K mg fK):gL P w K mg fK ku 3 f fd (pA m8) (iD AI):=by
 refine F.nA qI (λds μ Kd h=>by unfold AI at h;split at h <;> first | rfl | exact h.elim) (λje A fV s H E hr=>⟨_,(fO (lO bg rfl (jN (qC Mz hr (a2 (dv 0) (dv 1)))) ⟨(g9 (n:=2) rfl (fS (qN 3 qI.nd) (fS (qN 4 qI.nd) gF))),(iO (gc (gb 3) (fL 3) (gc (gb 4) (fL 4) iP fW) (fP (fL 4) fW))),(iz (fP (fL 3) (fP (fL 4) fW)))⟩
  (fY (jj (ij (oM (WR rfl) Dz (by rfl) T.all PyProof.Rows.boot_all (a1 (IW false (tT (N:=["text","age","first","behind"]) (js:=[none,none,some 3,some 4]) qI (by decide +kernel)) (iO (gc (gb 0) (fL 0) (gc (gb 1) (fL 1) iP fW) (fP (fL 1) fW))) (iz (fP (fL 0) (fP (fL 1) fW))) (jN (dv 2)) (λ_ _ _ nd=>(g9 (n:=2) rfl (fS (qN 0 nd) (fS (qN 1 nd) gF)))) (λ_ _ _=>iI) (λ_ _ _=>(qw inC Ff kb (mR false (dv 0) (lW (dv 2)) (lW (dv 3))) (by with_unfolding_all rfl)))))))
  (fY (gv (nr (a2 (dv 3) (dv 4)))))
  hV)))
  (fY (gv y7))),λds μ Kd hm hl h=>?_⟩)
 unfold AI at h
 split at h
 .rename_i n x y
  obtain⟨cs,ts,ex,ey,hc,ht,hn,kk⟩:=h
  refine⟨cs,ex,hc,?_⟩
  refine i9 (λds ρ gq=>∃(ps:au (Int×Int)) (a b:av D),ds=ps.map Vc/\jZ (fI n cs) ts=ps.find? (bad ts)/\ρ=[some (.int n),some x,some y,a,b]/\gq=μ) ⟨_,none,none,rfl,rfl,rfl,rfl⟩ ?_ ?_
  .rintro d ua ρ gq ⟨ps,a,b,e,hf,rfl,rfl⟩
   refine⟨trivial,λnx rb=>?_⟩
   cases ps with
   |nil=>cases e
   | cons p ps =>
    cases e
    refine⟨rfl,?_⟩
    refine fN ey ⟨by rw[ia];exact sz (by have:=ht.mD;lia),?_⟩
    refine iR (rC ey) (λd=>match d with|.tup [.str z,_]=>some (.bl (decide (120∈kX z.cps.toList (some p.1) (some p.2))))|_=>none) (λd hd K' k'=>?_) ?_
    .obtain⟨t,Cp,rfl⟩:=List.mem_map.mp hd
     have hz:=ht.ok t Cp
     refine⟨rfl,?_⟩
     refine⟨by rw[kh];exact sz (by lia),120,rfl,?_⟩
     rw[Uz]
     exact k'
    .refine⟨ts.map λt=>decide (120∈mE t.1 p.1 p.2),?_,?_⟩
     .show some _=_
      rw[List.filterMap_map,bA]
      congr 1
      rw[<- fA]
      rfl
     .have eb:(ts.map λt=>decide (120∈mE t.1 p.1 p.2)).all id=bad ts p:=by unfold bad;rw[List.all_map];rfl
      rw[cj,<- eb]at hf
      refine Su (b:=(ts.map λt=>decide (120∈mE t.1 p.1 p.2)).all id) (λhb=>?_) (λhb=>?_)
      .refine⟨zs,.keep ?_⟩
       rw[hb]at hf
       rw[hf]at kk
       exact kk
      .rw[hb]at hf
       exact rb _ _ ⟨ps,_,_,rfl,hf,rfl,rfl⟩
  .rintro ρ gq ⟨ps,a,b,e,hf,rfl,rfl⟩
   cases ps with
   | nil =>
    rw[hf]at kk
    exact⟨trivial,.keep kk⟩
   |cons p ps=>cases e
 .cases h
def B3 (n:Nat){f:ao}{fd:aj}(F:j5 K "_law_same" "_law_same" s_same f fd)(T:lM mg)(ER:mM P w K mg fK "_law_same" n ["_law_found","_law_due"] (spS n)):gL P w K mg fK ku (n+1) f fd ["_law_found","_law_due"] (um n):=by
 refine F.ok NA (λvs H Q E h=>?_) (λje A fV s H vs Q E hr h=>?_)
 .unfold um at h;split at h
  .rfl
  .cases h
 .unfold um at h;split at h
  .rename_i x y
   obtain⟨d,hd,hw,hx,hy,k⟩:=h
   refine⟨_,(iU (uX (PW.pt (pw_or (sL (iB rX (by rfl) T.isinstance aQ (gz (lP 1) (gz (jM (v:=.ty "bool") rfl T.bool cI rfl) iV)))) (pw_or1 (sL (iB rX (by rfl) T.isinstance aQ (gz (lP 0) (gz (jM (v:=.ty "bool") rfl T.bool cI rfl) iV)))))))
   (lG (oi (vK (iB rX (by rfl) T.isinstance aQ (gz (lP 1) (gz (jM (v:=.ty "bool") rfl T.bool cI rfl) iV))) (vK (iB rX (by rfl) T.isinstance aQ (gz (lP 0) (gz (jM (v:=.ty "bool") rfl T.bool cI rfl) iV))) (DW (sN eqN (lP 0) (lP 1) (iQ _)))))))
   nQ)
   (iU (uX (PW.pt (pw_or (sL (iB rX (by rfl) T.isinstance aQ (gz (lP 1) (gz (jM (v:=.ty "list") rfl T.list bC rfl) iV)))) (pw_or1 (sL (iB rX (by rfl) T.isinstance aQ (gz (lP 1) (gz (jM (v:=.ty "tuple") rfl T.tuple c0 rfl) iV)))))))
   (iU (uX (PW.pt (pw_or (nP Dj (iB rX (by rfl) T.isinstance aQ (gz (lP 1) (gz (jM (v:=.ty "list") rfl T.list bC rfl) iV))) (iB rX (by rfl) T.isinstance aQ (gz (lP 0) (gz (jM (v:=.ty "list") rfl T.list bC rfl) iV))) (iQ _)) (pw_or1 (nP Dj (iB rX (by rfl) T.isinstance aQ (gz (lP 1) (gz (jM (v:=.ty "tuple") rfl T.tuple c0 rfl) iV))) (iB rX (by rfl) T.isinstance aQ (gz (lP 0) (gz (jM (v:=.ty "tuple") rfl T.tuple c0 rfl) iV))) (iQ _)))))
   (lG (oi Kn))
   nQ)
   (lG (oi (vK (sN Tj (iB Ot (by rfl) T.len PySem.boot_len (gz (lP 0) iV)) (iB Ot (by rfl) T.len PySem.boot_len (gz (lP 1) iV)) (iQ _)) (DW (iB (WR rfl) (by rfl) T.all PyProof.Rows.boot_all (gz (Fy (ED (XN:=["_law_found","_law_due"]) (xsc:=(fR s_same)) (N:=["_law_one","_law_other"]) (js:=[none,none]) (by decide +kernel)) rfl (RK rfl T.zip (gz (lP 0) (gz (lP 1) iV))) (λ_ _ _=>(g9 (n:=2) rfl (fS (vJ (i:=0) (show List.Nodup (["_law_one","_law_other"]:au Str) by decide +kernel) rfl (by first|exact Or.inl rfl|exact Or.inr rfl)) (fS (vJ (i:=1) (show List.Nodup (["_law_one","_law_other"]:au Str) by decide +kernel) rfl (by first|exact Or.inl rfl|exact Or.inr rfl)) gF)))) (λ_ _ _=>Fu) (λ_ _ _=>(wW ER (hr.mono (by first|decide|exact aw _|lia)) rfl (gz (lP 0) (gz (lP 1) iV))))) iV)))))))
   nQ)
   (iU (uX (PW.pt (pw_or (nP Dj (iB rX (by rfl) T.isinstance aQ (gz (lP 1) (gz (jM (v:=.ty "str") rfl T.str PyProof.Rows.boot_str rfl) iV))) (iB rX (by rfl) T.isinstance aQ (gz (lP 0) (gz (jM (v:=.ty "str") rfl T.str PyProof.Rows.boot_str rfl) iV))) (iQ _)) (pw_or1 (nP Dj (iB rX (by rfl) T.isinstance aQ (gz (lP 1) (gz (jM (v:=.ty "int") rfl T.int cD rfl) iV))) (iB rX (by rfl) T.isinstance aQ (gz (lP 0) (gz (jM (v:=.ty "int") rfl T.int cD rfl) iV))) (iQ _)))))
   (lG (oi Kn))
   nQ)
   (lG (oi (sN eqN (lP 0) (lP 1) (iQ _))))))),?_⟩
   cases d with
   | bl b =>
    obtain rfl:x=.bl b:=hx
    obtain rfl:y=.bl b:=hy
    refine⟨_,true,kE.bl b,jv K _,_,true,kE.bl b,jv K _,_,true,kE.bl b,jv K _,?_⟩
    show Q (.bl (decide (b=b))) H
    rw[aJ rfl]
    exact k H (iL.refl H)
   | int i =>
    obtain rfl:x=.int i:=hx
    obtain rfl:y=.int i:=hy
    refine⟨_,false,.int i,rfl,_,false,.int i,rfl,_,false,.int i,rfl,_,false,.int i,rfl,_,false,.int i,rfl,_,false,.int i,rfl,_,true,.int i,jv K _,_,true,.int i,jv K _,?_⟩
    show Q (.bl (decide (i=i))) H
    rw[aJ rfl]
    exact k H (iL.refl H)
   | str z =>
    obtain rfl:x=.str z:=hx
    obtain rfl:y=.str z:=hy
    refine⟨_,false,.str z,rfl,_,false,.str z,rfl,_,false,.str z,rfl,_,false,.str z,rfl,_,true,.str z,jv K _,_,true,.str z,jv K _,_,false,.str z,rfl,_,false,.str z,rfl,?_⟩
    show Q (.bl (decide (z=z))) H
    rw[aJ rfl]
    exact k H (iL.refl H)
   | ic =>
    obtain rfl:x=.ic:=hx
    obtain rfl:y=.ic:=hy
    refine⟨_,false,.ic,rfl,_,false,.ic,rfl,_,false,.ic,rfl,_,false,.ic,rfl,_,false,.ic,rfl,_,false,.ic,rfl,_,false,.ic,rfl,_,false,.ic,rfl,?_⟩
    exact k H (iL.refl H)
   | lst ds =>
    obtain⟨p,vs,rfl,hp,qp⟩:=hx
    obtain⟨q,ws,rfl,hq,qq⟩:=hy
    obtain⟨m,rfl⟩:∃ m,n=m+1:=⟨n - 1,by unfold dep at hd;lia⟩
    have IU:yi ds<=m:=by unfold dep at hd;lia
    have hw1:ds.length<sizeLine:=by unfold MG at hw;lia
    have Y6:xW ds<sizeLine:=by unfold MG at hw;lia
    have len:vs.length=ws.length:=by rw[qp.len,qq.len]
    refine⟨_,false,kE.lst hq,rfl,_,false,kE.lst hp,rfl,_,true,kE.lst hq,jv K _,_,true,kE.lst hq,jv K _,_,true,kE.lst hp,jv K _,_,false,kE.lst hq,rfl,_,false,kE.lst hp,rfl,?_⟩
    refine⟨_,.inl hp,_,.inl hq,?_⟩
    refine oI (λ_=>?_) (λh=>(h (by rw[len])).elim)
    refine⟨false,_,_,hp,hq,?_⟩
    refine GK len (λi ys H'=>ys=List.replicate i (V.bl true)/\iL H H') ⟨rfl,iL.refl H⟩ (λi ys H' h=>⟨h.2 _ _ hp,h.2 _ _ hq⟩) ?_ ?_
    .rintro i x' y' ys H' T' hi ex ey ⟨rfl,S⟩ hT
     refine⟨_,gp,rfl,Ext.Vg,?_⟩
     obtain⟨d1,e1,i1⟩:=qp.get ex
     obtain⟨d2,e2,i2⟩:=qq.get ey
     rw[e1]at e2;cases e2
     have S2:iL H (upd H' T' (.tup [x',y'])):=S.trans (iL.upd hT)
     refine⟨d1,aV (xA e1) IU,cw (wB e1) Y6,i1.mono S2 _ _,i2.mono S2 _ _,λH3 S3=>?_⟩
     exact cnx hi (by rw[aZ];have:=qp.len;lia) ⟨by rw[List.replicate_succ'],S2.trans S3⟩
    .rintro ys H' ⟨rfl,S⟩ D hD
     refine⟨List.replicate vs.length true,by rw[gp,List.map_replicate],?_⟩
     have e:(List.replicate vs.length true).all id=true:=by rw[c9];intro b hb;rw[(List.mem_replicate.mp hb).2];rfl
     show Q (.bl ((List.replicate vs.length true).all id)) (upd H' D (.lst (List.replicate vs.length (V.bl true))))
     rw[e]
     exact k _ (S.trans (iL.upd hD))
   | tup ds =>
    obtain⟨p,vs,rfl,hp,qp⟩:=hx
    obtain⟨q,ws,rfl,hq,qq⟩:=hy
    obtain⟨m,rfl⟩:∃ m,n=m+1:=⟨n - 1,by unfold dep at hd;lia⟩
    have IU:yi ds<=m:=by unfold dep at hd;lia
    have hw1:ds.length<sizeLine:=by unfold MG at hw;lia
    have Y6:xW ds<sizeLine:=by unfold MG at hw;lia
    have len:vs.length=ws.length:=by rw[qp.len,qq.len]
    refine⟨_,false,kE.tup hq,rfl,_,false,kE.tup hp,rfl,_,false,kE.tup hq,rfl,_,true,kE.tup hq,jv K _,_,false,kE.tup hq,rfl,_,false,kE.tup hp,rfl,_,true,kE.tup hq,jv K _,_,true,kE.tup hp,jv K _,?_⟩
    refine⟨_,.inr hp,_,.inr hq,?_⟩
    refine oI (λ_=>?_) (λh=>(h (by rw[len])).elim)
    refine⟨true,_,_,hp,hq,?_⟩
    refine GK len (λi ys H'=>ys=List.replicate i (V.bl true)/\iL H H') ⟨rfl,iL.refl H⟩ (λi ys H' h=>⟨h.2 _ _ hp,h.2 _ _ hq⟩) ?_ ?_
    .rintro i x' y' ys H' T' hi ex ey ⟨rfl,S⟩ hT
     refine⟨_,gp,rfl,Ext.Vg,?_⟩
     obtain⟨d1,e1,i1⟩:=qp.get ex
     obtain⟨d2,e2,i2⟩:=qq.get ey
     rw[e1]at e2;cases e2
     have S2:iL H (upd H' T' (.tup [x',y'])):=S.trans (iL.upd hT)
     refine⟨d1,aV (xA e1) IU,cw (wB e1) Y6,i1.mono S2 _ _,i2.mono S2 _ _,λH3 S3=>?_⟩
     exact cnx hi (by rw[aZ];have:=qp.len;lia) ⟨by rw[List.replicate_succ'],S2.trans S3⟩
    .rintro ys H' ⟨rfl,S⟩ D hD
     refine⟨List.replicate vs.length true,by rw[gp,List.map_replicate],?_⟩
     have e:(List.replicate vs.length true).all id=true:=by rw[c9];intro b hb;rw[(List.mem_replicate.mp hb).2];rfl
     show Q (.bl ((List.replicate vs.length true).all id)) (upd H' D (.lst (List.replicate vs.length (V.bl true))))
     rw[e]
     exact k _ (S.trans (iL.upd hD))
  .cases h
def FC {f:ao}{fd:aj}(F:j5 K "_law_same" "_law_same" s_same f fd)(T:lM mg)(hm:mg "_law_same"=some (.ref f))(hk:W.keepIn K (.ref f)=true)(hb:Binds K fd ["_law_found","_law_due"] []):∀ n,gL P w K mg fK ku (n+1) f fd ["_law_found","_law_due"] (um n)
 |0=>B3 0 F T ⟨f,fd,⟨λ_ _ _ _ h=>h.elim,λ_ _ _ _ _ _ _ _ _ _ _ _ _ h=>h.elim⟩,hm,hk,hb⟩
 |n+1=>B3 (n+1) F T ⟨f,fd,FC F T hm hk hb n,hm,hk,hb⟩
def HD (F:j5 K "_law_barred" "_law_barred" m7 f fd)(T:lM mg)  : gL P w K mg fK ku 1 f fd (pA m7) (iD v8):=by
 refine F.nA qH (λds μ Kd h=>by unfold v8 at h;split at h <;> first | rfl | exact h.elim) (λje A fV s H E hr=>⟨_,(fO (lO bg rfl (iE rfl T.range (a1 (Bu (vt T (dv 0)) fT))) (qT 2 qH.nd)
  (fO (qS 3 qH.nd (rg mulC p9 kb (Bu (iX (dv 0) (pI (dv 2) fT)) (iX (dv 0) (dv 2)))))
  (fY (jj (mG (ij (oM (anyC rfl) Dz (by rfl) T.any PyProof.Rows.boot_any (a1 (IW false (tT (N:=["_law_text","_law_old","_law_border","_law_k","_law_part"]) (js:=[none,none,some 0,some 2,some 3]) qH (by decide +kernel)) (iO (gc (gb 0) (fL 0) (gc (gb 1) (fL 1) iP fW) (fP (fL 1) fW))) (iz (fP (fL 0) (fP (fL 1) fW))) (jN (dv 1)) (λ_ _ _ nd=>(g9 (n:=2) rfl (fS (qN 0 nd) (fS (qN 1 nd) gF)))) (λ_ _ _=>iI) (λ_ _ _=>(qw Tj rL (mR false (dv 0) (lW (iX (dv 2) (dv 3))) (lW (iX (dv 2) (pI (dv 3) fT)))) (dv 4) (iQ _))))))))
  (fY (gv (nr (a2 (iX (dv 0) (dv 2)) (iX (dv 0) (pI (dv 2) fT))))))
  hV))))
  (fY (gv y7))),λds μ Kd hm hl h=>?_⟩)
 unfold v8 at h
 split at h
 .rename_i bd y
  obtain⟨n,cs,ts,rfl,ey,hc,h1,h2,hcu,ht,kk⟩:=h
  obtain⟨es,he⟩:∃ es,es=fI n cs:=⟨_,rfl⟩
  rw[<- he]at kk ⊢
  have Y8:es.Pairwise (·<·):=by rw[he];exact ib h1 hcu
  have Cq:∀ x∈es,0<=x/\x<=n:=λx hx=>ig h1 hcu (by rw[<- he];exact hx)
  have pF:es.length=cs.length+2:=by rw[he,gw]
  have o9:((es.map D.int).length:Int)=(es.length:Nat):=by rw[ia]
  refine⟨by rw[o9];lia,by rw[o9];lia,?_⟩
  have OH:(((es.map D.int).length:Int) - 1).toNat=(Bi es).length:=by unfold Bi;rw[o9,List.length_zip,List.length_tail];lia
  rw[OH]
  refine i9 (λds ρ gq=>∃(i:Nat) (a b:av D),ds=(kz 0 (Bi es).length).drop i/\jZ es ts=((Bi es).drop i).find? (bad ts)/\ρ=[some (.lst (es.map D.int)),some y,a,b]/\gq=μ) ⟨0,none,none,rfl,rfl,rfl,rfl⟩ ?_ ?_
  .rintro d ua ρ gq ⟨i,a,b,e,hf,rfl,rfl⟩
   refine⟨trivial,λnx rb=>?_⟩
   have hi:i<(Bi es).length:=by
    by_cases q:i<(Bi es).length
    .exact q
    .rw[bX (by rw[iJ];lia)]at e;cases e
   rw[bU (by rw[iJ];exact hi)]at e
   cases e
   have ed:(kz 0 (Bi es).length)[i]'(by rw[iJ];exact hi)=.int i:=by unfold kz;simp
   rw[ed]
   have hlz:(Bi es).length=es.length - 1:=by unfold Bi;rw[List.length_zip,List.length_tail];lia
   obtain⟨u,hu⟩:∃ u,es[i]?=some u:=⟨es[i]'(by lia),iM _⟩
   obtain⟨v,hv⟩:∃ v,es[i+1]?=some v:=⟨es[i+1]'(by lia),iM _⟩
   have hp:(Bi es)[i]=(u,v):=by
    have q:=vI (es:=es) (i:=i)
    rw[hu,hv,iM hi]at q
    exact aK q
   have Y7:=ky Y8 hu hv (bF _)
   have SI:=Cq u (kA hu)
   have Ia:=Cq v (kA hv)
   have e1:lB (es.map D.int) (i:Int)=some (.int u):=iZ hu
   have e2:lB (es.map D.int) ((i:Int)+1)=some (.int v):=iZ (i:=i+1) hv
   refine fN e2 (fN e1 ⟨111,rfl,by lia,by lia,?_⟩)
   refine fN ey ⟨by rw[ia];exact sz (by have:=ht.mD;lia),?_⟩
   refine jT (rC ey) ny (λt=>.bl (!decide (120∈mE t.1 u v))) (λt Cp K' k'=>?_) ?_
   .have hz:=ht.ok t Cp
    refine⟨rfl,?_⟩
    refine fN e1 (fN e2 ⟨by rw[kh];exact sz (by lia),?_⟩)
    show K' (some (.bl (false != decide (txt (mE t.1 u v)=txt (List.replicate (v - u).toNat 111))))) gq
    rw[Uz,zb hz.2.1 SI.1 (by lia) (by lia)]
    exact k'
   .refine⟨ts.map λt=>!decide (120∈mE t.1 u v),by show some _=_;rw[bA];rfl,?_⟩
    .have eb:(!(ts.map λt=>!decide (120∈mE t.1 u v)).any id)=bad ts (u,v):=by
      unfold bad
      rw[List.any_map,List.not_any_eq_all_not]
      congr 1
      funext t
      simp
     rw[bU hi,cj,hp,<- eb]at hf
     refine Su (b:=!(ts.map λt=>!decide (120∈mE t.1 u v)).any id) (λhb=>?_) (λhb=>?_)
     .refine fN e1 (fN e2 ⟨zs,.keep ?_⟩)
      rw[hb]at hf
      rw[hf]at kk
      exact kk
     .rw[hb]at hf
      exact rb _ _ ⟨i+1,_,_,rfl,hf,rfl,rfl⟩
  .rintro ρ gq ⟨i,a,b,e,hf,rfl,rfl⟩
   refine⟨trivial,.keep ?_⟩
   have hi:(Bi es).length<=i:=by
    have:=cH List.length e
    rw[bO,iJ]at this
    simp at this
    lia
   rw[bX hi]at hf
   rw[hf]at kk
   exact kk
 .cases h
def B9 (F:j5 K "farthest" "farthest" kU f fd)(T:lM mg)(k9:pB P w K mg fK):gL P w K mg fK ku 2 f fd (pA kU) (iD qO):=by
 refine F.nA nN (λds μ Kd h=>by unfold qO at h;split at h <;> first | rfl | exact h.elim) (λje A fV s H E hr=>⟨_,(fO (qS 4 nN.nd (CG dt PySem.F.slot_str_find PySem.F.type_str_find V7 Nu (dv 2) (a2 kb (dv 3))))
  (fO (qS 5 nN.nd (L1 (NL (dv 4) fT) (dv 0) (dv 4)))
  (fY (gv (oM (Vw rfl) Fe (by rfl) T.max cL (a1 (pI (mw false (a1 (dv 3))) (Dn false (tT (N:=["place","clean_to"]) (js:=[none,some 5]) nN (by decide +kernel)) (jN (qC k9 hr (a2 (dv 0) (dv 1)))) (λ_ _ _ nd=>(qN 0 nd)) (λ_ _ _=>(wC (MJ (dv 0) (dv 1)))) (λ_ _ _=>(dv 0)))))))))),λds μ Kd hm hl h=>?_⟩)
 unfold qO at h
 split at h
 .rename_i n x z e
  obtain⟨cs,ex,hc,hn,IS,ho,h0,h1,SV,kk⟩:=h
  have len:(z.cps.toList.length:Int)=n:=by rw[<- hn];simp[Str.length]
  refine⟨rfl,120,rfl,h0,by lia,λr hr=>?_⟩
  obtain⟨q1,q2⟩:=hr.cl ho (by lia)
  have pF:(fI n cs).length=cs.length+2:=gw n cs
  refine kq (λIQ=>?_) (λIQ=>?_)
  all_goals
   refine⟨zs,cs,ex,hc,by rw[ia];exact sz (by lia),?_⟩
  .have ct:=q1 IQ
   refine iR trivial (sT λi=>decide (i<=n)) (λd hd K' k'=>?_) ?_
   .obtain⟨i,hi,rfl⟩:=List.mem_map.mp hd
    refine kq (λg=>?_) (λg=>?_)
    .exact Ao (aJ g) k'
    .exact vM (by simp[g]) k'
   .rw[xo]
    have fl:=dG (λi=>decide (i<=n)) (fI n cs)
    refine⟨by rw[ia];exact sz (by show 1+_<=_;lia),?_⟩
    refine⟨e::(fI n cs).filter λi=>decide (i<=n),rfl,by simp,λm a b=>.keep ?_⟩
    rw[Et ho h0 (by lia) SV (m:=m) ⟨_,ct,?_,?_,?_⟩]
    .exact kk
    .rcases List.mem_cons.mp a with q | q
     .rw[q];exact SV
     .exact(List.mem_filter.mp q).1
    .rcases List.mem_cons.mp a with q | q
     .lia
     .have:=cn (List.mem_filter.mp q).2;lia
    .exact λy hy HZ=>b y (nE _ (List.mem_filter.mpr ⟨hy,aJ (by lia)⟩))
  .obtain⟨ct,hrt⟩:=q2 IQ
   refine iR trivial (sT λi=>decide (i<=r)) (λd hd K' k'=>?_) ?_
   .obtain⟨i,hi,rfl⟩:=List.mem_map.mp hd
    refine kq (λg=>?_) (λg=>?_)
    .exact Ao (aJ g) k'
    .exact vM (by simp[g]) k'
   .rw[xo]
    have fl:=dG (λi=>decide (i<=r)) (fI n cs)
    refine⟨by rw[ia];exact sz (by show 1+_<=_;lia),?_⟩
    refine⟨e::(fI n cs).filter λi=>decide (i<=r),rfl,by simp,λm a b=>.keep ?_⟩
    rw[Et ho h0 (by lia) SV (m:=m) ⟨_,ct,?_,?_,?_⟩]
    .exact kk
    .rcases List.mem_cons.mp a with q | q
     .rw[q];exact SV
     .exact(List.mem_filter.mp q).1
    .rcases List.mem_cons.mp a with q | q
     .have:=ct.1;lia
     .have:=cn (List.mem_filter.mp q).2;lia
    .exact λy hy HZ=>b y (nE _ (List.mem_filter.mpr ⟨hy,aJ (by lia)⟩))
 .cases h
def Ab (F:j5 K "take_rows" "take_rows" jG f fd)(T:lM mg)(k9:pB P w K mg fK)(EU:xI P w K mg fK):gL P w K mg fK ku 3 f fd (pA jG) (iD qM):=by
 refine F.nA oU (λds μ Kd h=>by unfold qM at h;split at h <;> first | rfl | exact h.elim) (λje A fV s H E hr=>⟨_,(fO (qS 3 oU.nd (qC k9 hr (a2 (dv 0) (dv 1))))
  (fY (gv (IW false (tT (N:=["text","age","places","size","cuts"]) (js:=[none,none,some 3,some 0,some 1]) oU (by decide +kernel)) (iO (gc (gb 0) (fL 0) (gc (gb 1) (fL 1) iP fW) (fP (fL 1) fW))) (iz (fP (fL 0) (fP (fL 1) fW))) (jN (dv 2)) (λ_ _ _ nd=>(g9 (n:=2) rfl (fS (qN 0 nd) (fS (qN 1 nd) gF)))) (λ_ _ _=>iI) (λ_ _ _=>(nr (a2 (dv 1) (Dn false (wt (xsc:=(fR jG)) (N:=["end","size","cuts","text"]) (js:=[none,some 3,some 4,some 0]) rfl (by decide +kernel)) (jN (dv 2)) (λ_ _ _ nd=>(qN 0 nd)) (λ_ _ _=>iI) (λ_ _ _=>(qC EU hr (fQ (dv 1) (fQ (dv 2) (fQ (dv 3) (fQ (dv 0) iG)))))))))))))),λds μ Kd hm hl h=>?_⟩)
 unfold qM at h
 split at h
 .rename_i n x y
  obtain⟨cs,ts,ex,ey,S,kk⟩:=h
  have pF:(fI n cs).length=cs.length+2:=gw n cs
  have mD:=S.mD
  have ft:=S.takes.mD
  refine⟨cs,ex,S.mD,?_⟩
  refine fN ey ⟨by rw[ia];exact sz (by lia),?_⟩
  refine iR (rC ey) (KW (ju (fI n cs))) (λd hd K' k'=>?_) ?_
  .obtain⟨t,ht,rfl⟩:=List.mem_map.mp hd
   have hz:=S.takes.ok t ht
   refine⟨rfl,by rw[ia];exact sz (by lia),?_⟩
   refine iR trivial (Sd λe=>.int (jd (fI n cs) t.1 e)) (λd hd K'' YX=>?_) ?_
   .obtain⟨e,he,rfl⟩:=List.mem_map.mp hd
    have Cq:=ig S.n1 S.iK he
    exact⟨cs,ex,S.mD,by rw[kh];exact hz.1,S.n2,by rw[sC];exact hz.2.1,Cq.1,Cq.2,he,by rw[sC];exact YX⟩
   .refine⟨zs,?_⟩
    rw[Ga,show(fI n cs).map (λe=>D.int (jd (fI n cs) t.1 e))=(sG (fI n cs) t).map D.int by unfold sG;rw[bA];rfl]
    exact k'
  .refine .keep ?_
   rw[vP]
   exact kk
 .cases h
def ya (F:j5 K "next_reach" "next_reach" jK f fd)(T:lM mg)(qE:qy P w K mg fK):gL P w K mg fK ku 2 f fd (pA jK) (iD AD):=by
 refine F.nA kH (λds μ Kd h=>by unfold AD at h;split at h <;> first | rfl | exact h.elim) (λje A fV s H E hr=>⟨_,(fO (qS 4 kH.nd (OW (tT (N:=["at","end"]) (js:=[none,none]) kH (by decide +kernel)) rfl (iO (gc (gb 0) (fL 0) (gc (gb 1) (fL 1) iP fW) (fP (fL 1) fW))) (iz (fP (fL 0) (fP (fL 1) fW))) rfl (Ar rfl T.enumerate (a1 (dv 0))) (λ_ _ _=>(g9 (n:=2) rfl (fS (qN 0 (show List.Nodup (["at","end"]:au Str) by decide +kernel)) (fS (qN 1 (show List.Nodup (["at","end"]:au Str) by decide +kernel)) gF)))) (λ_ _ _=>iI) (λ_ _ _=>(dv 1)) (λ_ _ _=>(dv 0))))
  (fO (qS 5 kH.nd (qC qE hr (a3 (dv 0) (dv 1) (dv 3))))
  (fY (gv (IW true (tT (N:=["far","middle","before","where"]) (js:=[none,none,some 2,some 4]) kH (by decide +kernel)) (iO (gc (gb 0) (fL 0) (gc (gb 1) (fL 1) iP fW) (fP (fL 1) fW))) (iz (fP (fL 0) (fP (fL 1) fW))) (Co rfl T.zip (a2 (dv 5) (dv 2))) (λ_ _ _ nd=>(g9 (n:=2) rfl (fS (qN 0 nd) (fS (qN 1 nd) gF)))) (λ_ _ _=>iI) (λ_ _ _=>(oM (Om rfl) zO (by rfl) T.max cL (a2 (dv 0) (iX (dv 2) (za (rE hr) (dv 3) (dv 1) (λ_ _=>rfl))))))))))),λds μ Kd hm hl h=>?_⟩)
 unfold AD at h
 split at h
 .rename_i x r y a
  obtain⟨es,ts,bf,ex,rfl,pF,XB,nd,ey,ok,kk⟩:=h
  have lb:=ok.len
  refine fN ex ⟨by rw[mW,ia];exact sz (by lia),?_⟩
  rw[LM]
  refine BD (λm=>rC (Se ex)) (λi e gq K' k'=>⟨rfl,k'⟩) es 0 [] nd (λ_ h=>nomatch h) ?_
  refine⟨es,ts,ex,rfl,pF,XB,?_⟩
  refine fN ey ⟨by rw[bG,ia,ia];exact sz (by lia),?_⟩
  refine iR ⟨trivial,rC ey⟩ (D8 λf m=>.int (max f (rowAt es bf m))) (λd hd K' k'=>?_) ?_
  .obtain⟨f,hf,m,Ur,rfl⟩:=zz hd
   refine⟨rfl,?_⟩
   have OG:=ok.mem m Ur
   have e1:uH (((rJ 0 es).map (·.1)).zip ((rJ 0 es).map (·.2))) (kI m)=some (.int (es.idxOf m:Nat)):=by
    rw[zip_parts,yx OG,eX]
   have e2:lB (bf.map D.int) ((es.idxOf m:Nat):Int)=some (.int (rowAt es bf m)):=iZ (lV ok OG)
   exact fN e1 (Tx ey e2 k')
  .rw[Az,show List.zipWith (λf m=>D.int (max f (rowAt es bf m))) (jc es ts a) bf=(nh es ts bf a).map D.int from(zy D.int (λf m=>max f (rowAt es bf m)) _ _).symm]
   exact .keep kk
 .cases h
def B1 (F:j5 K "youngest" "youngest" kQ f fd)(T:lM mg)  : gL P w K mg fK ku 1 f fd (pA kQ) (iD qL):=by
 refine F.nA uW (λds μ Kd h=>by unfold qL at h;split at h<;>first|rfl|exact h.elim) (λje A fV s H E hr=>⟨_,(fY (gv (Tp rfl (by rfl) T.min (IW false (tT (N:=["text","age"]) (js:=[none,none]) uW (by decide +kernel)) (iO (gc (gb 0) (fL 0) (gc (gb 1) (fL 1) iP fW) (fP (fL 1) fW))) (iz (fP (fL 0) (fP (fL 1) fW))) (jN (dv 0)) (λ_ _ _ nd=>(g9 (n:=2) rfl (fS (qN 0 nd) (fS (qN 1 nd) gF)))) (λ_ _ _=>iI) (λ_ _ _=>(dv 1))) fT))),λds μ Kd hm hl h=>?_⟩)
 unfold qL at h
 split at h
 .rename_i y
  obtain⟨ts,ey,XB,kk⟩:=h
  refine fN ey ⟨by rw[ia];exact sz (by lia),?_⟩
  refine iR (rC ey) (KW λt=>.int t.2) (λd hd K' k'=>?_) ?_
  .obtain⟨t,ht,rfl⟩:=List.mem_map.mp hd
   exact⟨rfl,k'⟩
  .rw[vP]
   refine⟨ts.map (·.2),by unfold lv;rw[bA];rfl,?_⟩
   split
   .rename_i e
    refine .keep ?_
    have:kP ts=0:=by unfold kP;rw[e]
    rw[this]at kk
    exact kk
   .exact λm a b=>.keep (by rw[Jl a b];exact kk)
 .cases h
def R4 (F:j5 K "_law_far" "_law_far" wN f fd)(T:lM mg)  : gL P w K mg fK ku 1 f fd (pA wN) (iD OO):=by
 refine F.nA zU (λds μ Kd h=>by unfold OO at h;split at h <;> first | rfl | exact h.elim) (λje A fV s H E hr=>⟨_,(fO (qS 3 zU.nd (dv 2))
  (fO (zV bg (PW.pt (uU (NL (dv 3) (vt T (dv 1))) (p7 (J7 (iX (dv 1) (dv 3)) kb))))
  (fY (BQ (i:=3) zU.nd rfl lo fT sW wI)))
  (fY (gv (oM (Vw rfl) Fe (by rfl) T.max cL (a1 (Dn false (tT (N:=["_law_one","_law_end","_law_at"]) (js:=[none,some 2,some 3]) zU (by decide +kernel)) (jN (dv 0)) (λ_ _ _ nd=>(qN 0 nd)) (λ_ _ _=>(wC (PW.pt (uU (MJ (dv 1) (dv 0)) (p7 (MJ (dv 0) (dv 2))))))) (λ_ _ _=>(dv 0))))))))),λds μ Kd hm hl h=>?_⟩)
 unfold OO at h
 split at h
 .rename_i b z e
  obtain⟨es,rfl,pF,hz,ho,h0,h1,he,kk⟩:=h
  have len:z.cps.toList.length=z.length:=by simp[Str.length]
  have ct:=sj ho (e:=e.toNat) (by lia)
  refine⟨λm ρ gq=>∃ at_:Nat,m=sk z.cps.toList e.toNat - at_/\e.toNat<=at_/\at_<=sk z.cps.toList e.toNat/\ρ=[some (.lst (es.map D.int)),some (.str z),some (.int e),some (.int (at_:Int))]/\gq=μ,⟨_,e.toNat,rfl,aw _,ct.1,by rw[cA h0];rfl,rfl⟩,?_⟩
  rintro m ρ gq ⟨at_,rfl,g1,g2,rfl,rfl⟩
  have test:∀ K:Bool->MS->Prop,K (decide (at_<sk z.cps.toList e.toNat)) gq->LS (pv (wm (vw λi j=>D.bl (decide (i<j))) (vq 3) (vd ON (tM (vq 1) EA))))
   (pv (wm (L7 false) (wm WA (vq 1) (vq 3)) (dC (D.str (Str.ofString "o")))))
   [some (D.lst (List.map D.int es)),some (D.str z),some (D.int e),some (D.int ↑at_)] gq K:=by
   intro K k
   refine⟨sz (by lia),kq (c:=(at_:Int)<(z.length:Nat)) (λmK=>?_) (λmK=>?_)⟩
   .have hat:at_<z.cps.toList.length:=by lia
    have ga:z.cps.toList[at_]?=some (z.cps.toList[at_]):=iM hat
    have ea:lB z.cps.toList (at_:Int)=some (z.cps.toList[at_]):=kO ga
    refine⟨sz (by lia),fN ea ?_⟩
    by_cases q:at_<sk z.cps.toList e.toNat
    .have:=ct.2.2.1 at_ g1 q
     rw[ga]at this
     rw[aK this]
     rw[aJ q]at k
     exact k
    .have eat:sk z.cps.toList e.toNat=at_:=by lia
     have:=ct.2.2.2
     rw[eat,ga]at this
     rcases this with z'|z'
     .lia
     .rw[aK z']
      rw[aS q]at k
      exact k
   .rw[aS (by have:=ct.2.1;lia)]at k
    exact k
  refine test _ ?_
  refine kq (λmK=>?_) (λmK=>?_)
  .exact⟨_,by lia,at_+1,rfl,by lia,by lia,rfl,rfl⟩
  .refine⟨by rw[ia];exact sz (by lia),?_⟩
   refine iR trivial (sT λi=>decide (e<=i)&&decide (i<=(at_:Int))) (λd hd K' k'=>?_) ?_
   .obtain⟨i,hi,rfl⟩:=List.mem_map.mp hd
    refine kq (c:=e<=i) (λp1=>?_) (λp1=>?_)
    .refine kq (c:=i<=(at_:Int)) (λp2=>?_) (λp2=>?_)
     .exact Ao (by simp[p1,p2]) k'
     .exact vM (by simp[p2]) k'
    .exact vM (by simp[p1]) k'
   .rw[xo]
    have XR:e∈es.filter λi=>decide (e<=i)&&decide (i<=(at_:Int)):=List.mem_filter.mpr ⟨he,by simp;lia⟩
    refine⟨_,rfl,(λq=>by rw[q]at XR;cases XR),λm a b=>.keep ?_⟩
    have eat:sk z.cps.toList e.toNat=at_:=by lia
    rw[eat]at ct
    obtain⟨a1,a2⟩:=List.mem_filter.mp a
    simp only[bW,bN]at a2
    rw[Et ho h0 (by lia) he (m:=m) ⟨_,ct,a1,a2.2,λy hy HZ=>?_⟩]
    .exact kk
    .by_cases q:e<=y
     .exact b y (List.mem_filter.mpr ⟨hy,by simp;lia⟩)
     .lia
 .cases h
def Ac (F:j5 K "least_age" "least_age" j7 f fd)(T:lM mg)(qF:tS P w K mg fK)(k9:pB P w K mg fK)(ke:my P w K mg fK)(sv:sq P w K mg fK)(mV:pz P w K mg fK):gL P w K mg fK ku 4 f fd (pA j7) (iD AE):=by
 refine F.nA jH (λds μ Kd h=>by unfold AE at h;split at h <;> first | rfl | exact h.elim) (λje A fV s H E hr=>⟨_,(fO (jj (zK (qC qF hr (a3 (dv 0) (dv 1) (dv 2))))
  (fY (gv y7))
  hV)
  (fO (qS 3 jH.nd (qC k9 hr (a2 (dv 0) (dv 1))))
  (fO (qS 4 jH.nd (qC ke hr (a3 (dv 0) (dv 1) (dv 2))))
  (fO (qS 5 jH.nd (qC sv hr (a1 (dv 2))))
  (fO (qS 6 jH.nd (qC mV hr (fQ (dv 3) (fQ (dv 4) (fQ (dv 3) (fQ (dv 5) iG))))))
  (fO (zV bg (NK (iX (dv 6) fT) (dv 0))
  (fO (BQ (i:=5) jH.nd rfl lo fT sW wI)
  (fY (qS 6 jH.nd (qC mV hr (fQ (dv 3) (fQ (dv 4) (fQ (dv 6) (fQ (dv 5) iG)))))))))
  (fY (gv (dv 5))))))))),λds μ Kd hm hl h=>?_⟩)
 unfold AE at h
 split at h
 .rename_i n x y
  obtain⟨cs,ts,ex,ey,S,Cr,kk⟩:=h
  have mD:=S.mD
  have ft:=S.takes.mD
  have n2:=S.n2
  have nd:=we S.n1 S.iK
  have pF:(fI n cs).length=cs.length+2:=gw n cs
  refine⟨cs,ts,ex,ey,by lia,S.takes,by lia,?_⟩
  unfold Al at kk
  cases hb:jZ (fI n cs) ts with
  | some p =>
   rw[hb]at kk
   exact .keep kk
  | none =>
   rw[hb]at kk
   obtain⟨a,ha,la⟩:=Ec S Cr hb
   have ly:=Ck S la
   have kk:=kk a ha la
   refine⟨cs,ex,S.mD,?_⟩
   refine⟨cs,ts,ex,ey,S,?_⟩
   refine⟨ts,ey,by lia,?_⟩
   have yn:=BA S.takes
   have yl:=BB (ts:=ts)
   obtain⟨y0,hy0⟩:∃ y0:Nat,kP ts=(y0:Int):=⟨(kP ts).toNat,by lia⟩
   rw[hy0]at yn yl ly ⊢
   obtain⟨es,he⟩:∃ es,es=fI n cs:=⟨_,rfl⟩
   rw[<- he]at nd pF la ⊢
   refine⟨es,ts,es,rfl,rfl,by lia,by lia,nd,rfl,Gz es,?_⟩
   have e0:nh es ts es (y0:Int)=gR es ts y0:=by
    have:=CU es ts y0
    rwa [ID (b:=y0) yl]at this
   rw[e0]
   refine⟨λm ρ gq=>∃(b j:Nat) (g:MS),m=a - b/\b<=a/\ρ=[some (.int n),some x,some y,some (.lst (es.map D.int)),some (.lst (ts.map (ju es))),some (.int b),some (.mr j)]/\gq=μ++g/\mH gq j=some ((gR es ts b).map D.int),⟨_,y0,_,[.lst ((gR es ts y0).map D.int)],rfl,by lia,rfl,rfl,kN⟩,?_⟩
   rintro m ρ gq ⟨b,j,g,rfl,hba,rfl,rfl,el⟩
   have rok:=jV es ts b
   obtain⟨z,hz⟩:∃ z,(gR es ts b)[0]?=some z:=⟨_,iM (by rw[rok.len];lia)⟩
   refine fN (show lv _ (.mr j)=_ from el) (fN (show lB _ (0:Int)=_ from iZ (i:=0) hz) ?_)
   refine yT (λq=>?_) (λq=>?_)
   .have mK:b<a:=by
     rcases cz b a with z'|z'
     .exact z'
     .have e:b=a:=by lia
      rw[e,la.at_]at hz
      exact absurd (aK hz).symm q
    refine⟨es,ts,gR es ts b,rfl,rfl,by lia,by lia,nd,el,rok,?_⟩
    exact⟨_,by lia,b+1,_,g++[.lst ((gR es ts (b+1)).map D.int)],rfl,by lia,rfl,by rw[bp];rfl,kN⟩
   .have e:b=a:=by
     rcases cz b a with z'|z'
     .rw[q]at hz
      exact absurd hz (la.low b z')
     .lia
    refine Fz.drop True.intro (Aa hm) ?_
    rw[cZ,e]
    exact kk
 .cases h
def N7 (F:j5 K "_law_near" "_law_near" rN f fd)(T:lM mg)  : gL P w K mg fK ku 1 f fd (pA rN) (iD Gn):=by
 refine F.nA Fi (λds μ Kd h=>by unfold Gn at h;split at h<;>first|rfl|exact h.elim) (λje A fV s H E hr=>⟨_,(fY (gv (IW false (tT (N:=["_law_text","_law_old"]) (js:=[none,none]) Fi (by decide +kernel)) (iO (gc (gb 0) (fL 0) (gc (gb 1) (fL 1) iP fW) (fP (fL 1) fW))) (iz (fP (fL 0) (fP (fL 1) fW))) (jN (dv 0)) (λ_ _ _ nd=>(g9 (n:=2) rfl (fS (qN 0 nd) (fS (qN 1 nd) gF)))) (λ_ _ _=>iI) (λ_ _ _=>(nr (a2 (dv 0) (rg Ai P0 (dv 1) fT))))))),λds μ Kd hm hl h=>?_⟩)
 unfold Gn at h
 split at h
 .rename_i y
  obtain⟨ts,ey,XB,kk⟩:=h
  refine fN ey ⟨by rw[ia];exact sz (by lia),?_⟩
  refine iR (rC ey) (KW λt=>ny (FI t)) (λd hd K' k'=>?_) ?_
  .obtain⟨t,ht,rfl⟩:=List.mem_map.mp hd
   exact⟨rfl,(by show(0:Int)<9;decide),zs,k'⟩
  .rw[vP]
   rw[bA]at kk
   exact .keep kk
 .cases h
def N9 (F:j5 K "_law_fars" "_law_fars" qe f fd)(T:lM mg)(Xd:QX P w K mg fK):gL P w K mg fK ku 2 f fd (pA qe) (iD Gr):=by
 refine F.nA Fj (λds μ Kd h=>by unfold Gr at h;split at h<;>first|rfl|exact h.elim) (λje A fV s H E hr=>⟨_,(fY (gv (IW false (tT (N:=["_law_text","_law_old","_law_border"]) (js:=[none,none,some 0]) Fj (by decide +kernel)) (iO (gc (gb 0) (fL 0) (gc (gb 1) (fL 1) iP fW) (fP (fL 1) fW))) (iz (fP (fL 0) (fP (fL 1) fW))) (jN (dv 1)) (λ_ _ _ nd=>(g9 (n:=2) rfl (fS (qN 0 nd) (fS (qN 1 nd) gF)))) (λ_ _ _=>iI) (λ_ _ _=>(nr (a2 (dv 1) (Dn false (wt (xsc:=(fR qe)) (N:=["_law_end","_law_border","_law_text"]) (js:=[none,some 2,some 0]) rfl (by decide +kernel)) (jN (dv 2)) (λ_ _ _ nd=>(qN 0 nd)) (λ_ _ _=>iI) (λ_ _ _=>(qC Xd hr (a3 (dv 1) (dv 2) (dv 0))))))))))),λds μ Kd hm hl h=>?_⟩)
 unfold Gr at h
 split at h
 .rename_i b y
  obtain⟨n,cs,ts,rfl,ey,S,kk⟩:=h
  have pF:(fI n cs).length=cs.length+2:=gw n cs
  have mD:=S.mD
  have ft:=S.takes.mD
  have n2:=S.n2
  refine fN ey ⟨by rw[ia];exact sz (by lia),?_⟩
  refine iR (rC ey) (KW (ju (fI n cs))) (λd hd K' k'=>?_) ?_
  .obtain⟨t,ht,rfl⟩:=List.mem_map.mp hd
   have hz:=S.takes.ok t ht
   refine⟨rfl,by rw[ia];exact sz (by lia),?_⟩
   refine iR trivial (Sd λe=>.int (jd (fI n cs) t.1 e)) (λd hd K'' YX=>?_) ?_
   .obtain⟨e,he,rfl⟩:=List.mem_map.mp hd
    have Cq:=ig S.n1 S.iK he
    exact⟨_,rfl,by lia,by rw[kh];lia,by rw[sC];exact hz.2.1,Cq.1,by rw[kh];lia,he,by rw[sC];exact YX⟩
   .refine⟨zs,?_⟩
    rw[Ga,show(fI n cs).map (λe=>D.int (jd (fI n cs) t.1 e))=(sG (fI n cs) t).map D.int by unfold sG;rw[bA];rfl]
    exact k'
  .refine .keep ?_
   rw[vP]
   exact kk
 .cases h
def Fh {μ g:MS}{y:MO}:(μ++g).set μ.length y=μ++g.set 0 y:=by
 rw[cM _ _ (aw _),a8]
def w5 (F:j5 K "young_paper" "young_paper" jz f fd)(T:lM mg)(k9:pB P w K mg fK)(ke:my P w K mg fK)(mV:pz P w K mg fK):gL P w K mg fK ku 4 f fd (pA jz) (iD vR):=by
 refine F.nA jf (λds μ Kd h=>by unfold vR at h;split at h <;> first | rfl | exact h.elim) (λje A fV s H E hr=>⟨_,(fO (qS 4 jf.nd (qC k9 hr (a2 (dv 0) (dv 1))))
  (fO (qS 5 jf.nd (qC ke hr (a3 (dv 0) (dv 1) (dv 2))))
  (fO (qS 6 jf.nd (mw true iG))
  (fO (qS 7 jf.nd (dv 4))
  (fO (lO bg rfl (iE rfl T.range (a1 (dv 3))) (qT 8 jf.nd)
  (fO (qS 7 jf.nd (qC mV hr (fQ (dv 4) (fQ (dv 5) (fQ (dv 7) (fQ (dv 8) iG))))))
  (fY (uq (CG cv d8 d7 A1 uo (dv 6) (a1 (dv 7)))))))
  (fY (gv (dv 6)))))))),λds μ Kd hm hl h=>?_⟩)
 unfold vR at h
 split at h
 .rename_i n x y a
  obtain⟨cs,ts,ex,ey,S,XI,VZ,kk⟩:=h
  have mD:=S.mD
  have ft:=S.takes.mD
  have pF:(fI n cs).length=cs.length+2:=gw n cs
  have nd:=we S.n1 S.iK
  refine⟨cs,ex,S.mD,?_⟩
  refine⟨cs,ts,ex,ey,S,?_⟩
  refine⟨zs,?_⟩
  refine⟨by lia,by lia,?_⟩
  obtain⟨es,he⟩:∃ es,es=fI n cs:=⟨_,rfl⟩
  rw[<- he]at kk nd pF ⊢
  refine i9 (λds ρ gq=>∃(i c:Nat) (g:MS) (js:au Nat) (rd:D) (v:av D),ds=kz i c/\i+c=a.toNat/\ρ=[some (.int n),some x,some y,some (.int a),some (.lst (es.map D.int)),some (.lst (ts.map (ju es))),some (.mr μ.length),some rd,v]/\gq=μ++g/\js.length=i/\mH (μ++g) μ.length=some (js.map D.mr)/\(∀ i k,js[i]?=some k->mH (μ++g) k=some ((gR es ts i).map D.int))/\(∀ k∈js,μ.length<=k/\k≠μ.length)/\lv (μ++g) rd=some ((vz es ts i).map D.int)/\((∃ k,rd=.mr k/\k≠μ.length)\/∃ q,rd=.lst q)) ⟨0,a.toNat,[.lst []],[],.lst (es.map D.int),none,rfl,by lia,rfl,rfl,rfl,kN,λi k e=>(by simp at e),λk hk=>(nomatch hk),rfl,.inr ⟨_,rfl⟩⟩ ?_ ?_
  .rintro d ua ρ gq ⟨i,c,g,js,rd,v,e,IT,rfl,rfl,Uu,oJ,SM,XE,Ze,Bp⟩
   refine⟨trivial,λnx rb=>?_⟩
   cases c with
   |zero=>cases e
   | succ c =>
    rw[iY]at e
    cases e
    refine⟨es,ts,vz es ts i,rfl,rfl,by lia,by lia,nd,Ze,TM es ts i,?_⟩
    rw[CU]
    have gl:0<g.length:=by
     have:=(ka (jA oJ)).1
     rw[l5]at this;lia
    refine⟨uB (o8 oJ),fN (o8 oJ) ⟨Xo (by rw[ia];lia),?_⟩⟩
    have sl:μ.length<(μ++(g++[MO.lst ((vz es ts (i+1)).map D.int)])).length:=by rw[l5,l5];lia
    have QN:((μ++g++[MO.lst ((vz es ts (i+1)).map D.int)]).set μ.length (.lst (js.map D.mr++[D.mr (μ++g).length])))=μ++(g++[MO.lst ((vz es ts (i+1)).map D.int)]).set 0 (.lst (js.map D.mr++[D.mr (μ++g).length])):=by
     rw[bp];exact Fh
    have other:∀ {k:Nat} {ds:au D},k≠μ.length->mH (μ++g) k=some ds->mH ((μ++g++[MO.lst ((vz es ts (i+1)).map D.int)]).set μ.length (.lst (js.map D.mr++[D.mr (μ++g).length]))) k=some ds:=λhk e=>by
     rw[rW (bD hk)];exact o8 e
    have Vs:mH ((μ++g++[MO.lst ((vz es ts (i+1)).map D.int)]).set μ.length (.lst (js.map D.mr++[D.mr (μ++g).length]))) (μ++g).length=some ((vz es ts (i+1)).map D.int):=by
     rw[rW (by rw[l5];lia)];exact kN
    refine rb _ _ ⟨i+1,c,_,js++[(μ++g).length],.mr (μ++g).length,_,rfl,by lia,rfl,QN,by rw[l5,Uu];rfl,?_,λi' k ek=>?_,λk hk=>?_,?_,.inl ⟨_,rfl,by rw[l5];lia⟩⟩
    .rw[<- QN,bS]
     exact o7 (by rw[l5,l5];lia)
    .rw[<- QN]
     rcases cz i' js.length with q|q
     .rw[t6 q]at ek
      exact other (XE k (kA ek)).2 (SM i' k ek)
     .have FT:i'=js.length:=by
       have:=(ka ek).1
       rw[l5,bJ]at this;lia
      rw[FT,rF (aw _),a8]at ek
      cases ek
      rw[FT,Uu]
      exact Vs
    .rcases List.mem_append.mp hk with q | q
     .exact XE k q
     .rw[List.mem_singleton.mp q,l5];lia
    .rw[<- QN];exact Vs
  .rintro ρ gq ⟨i,c,g,js,rd,v,e,IT,rfl,rfl,Uu,oJ,SM,XE,Ze,Bp⟩
   cases c with
   |succ c=>rw[iY]at e;cases e
   |zero=>exact⟨trivial,.keep (kk μ.length js g (by lia) oJ SM (aw _) XE)⟩
 .cases h
def D1 (F:j5 K "no_make" "no_make" lT f fd)(T:lM mg)  : gL P w K mg fK ku 1 f fd (pA lT) (iD vV):=by
 refine F.nA DF (λds μ Kd h=>by unfold vV at h;split at h<;>first|rfl|exact h.elim) (λje A fV s H E hr=>⟨_,(fY (gv (Bu (vt T (dv 0)) fT))),λds μ Kd hm hl h=>?_⟩)
 unfold vV at h
 split at h
 .rename_i b
  obtain⟨hl,kk⟩:=h
  exact .keep kk
 .cases h
def yc (F:j5 K "bare_table" "bare_table" jt f fd)(T:lM mg)(oO:qV P w K mg fK):gL P w K mg fK ku 2 f fd (pA jt) (iD AH):=by
 refine F.nA og (λds μ Kd h=>by unfold AH at h;split at h <;> first | rfl | exact h.elim) (λje A fV s H E hr=>⟨_,(fO (qS 1 og.nd (qC oO hr (a1 (dv 0))))
  (fY (gv (Dn false (tT (N:=["first","places","none"]) (js:=[none,some 0,some 1]) og (by decide +kernel)) (iE rfl T.range (a1 (vt T (dv 0)))) (λ_ _ _ nd=>(qN 0 nd)) (λ_ _ _=>iI) (λ_ _ _=>(Dn false (wt (xsc:=(fR jt)) (N:=["behind","first","none"]) (js:=[none,some 0,some 2]) rfl (by decide +kernel)) (iE rfl T.range (a1 (vt T (dv 1)))) (λ_ _ _ nd=>(qN 0 nd)) (λ_ _ _=>iI) (λ_ _ _=>(L1 (MJ (dv 0) (dv 1)) fT (dv 2))))))))),λds μ Kd hm hl h=>?_⟩)
 unfold AH at h
 split at h
 .rename_i b
  obtain⟨hl,kk⟩:=h
  refine⟨hl,?_⟩
  refine⟨by lia,by lia,?_⟩
  rw[yh]
  refine⟨sz (by rw[iJ];lia),?_⟩
  refine jT trivial (λi:Nat=>D.int (0+(i:Nat))) (λi=>D.lst (jR b.length (jD b.length i))) (λi hi K' k'=>?_) (.keep kk)
  refine⟨by lia,by lia,?_⟩
  rw[yh]
  refine⟨sz (by rw[iJ];lia),?_⟩
  refine jT trivial (λj:Nat=>D.int (0+(j:Nat))) (λj=>D.int (jD b.length i j)) (λj hj K' k'=>?_) k'
  unfold jD at k'
  refine kq (c:=(0+(j:Nat):Int)<=0+(i:Nat)) (λq=>?_) (λq=>?_)
  .rw[aF (by lia)]at k';exact k'
  .rw[aG (by lia)]at k';exact k'
 .cases h
def uA (F:j5 K "fewest_joined" "fewest_joined" i0 f fd)(T:lM mg)  : gL P w K mg fK ku 1 f fd (pA i0) (iD tH):=by
 refine F.nA oC (λds μ Kd h=>by unfold tH at h;split at h<;>first|rfl|exact h.elim) (λje A fV s H E hr=>⟨_,(fY (gv (oM (YN rfl) Nr (by rfl) T.min dF (a1 (pI (mw false (a1 (dv 2))) (IW false (tT (N:=["left","right"]) (js:=[none,none]) oC (by decide +kernel)) (iO (gc (gb 0) (fL 0) (gc (gb 1) (fL 1) iP fW) (fP (fL 1) fW))) (iz (fP (fL 0) (fP (fL 1) fW))) (Co rfl T.zip (a2 (dv 0) (dv 1))) (λ_ _ _ nd=>(g9 (n:=2) rfl (fS (qN 0 nd) (fS (qN 1 nd) gF)))) (λ_ _ _=>iI) (λ_ _ _=>(pI (pI (dv 0) (dv 1)) fT)))))))),λds μ Kd hm hl h=>?_⟩)
 unfold tH at h
 split at h
 .rename_i l r m
  obtain⟨ls,rs,rfl,rfl,h1,h2,kk⟩:=h
  refine⟨zs,?_⟩
  refine⟨by rw[bG,ia,ia];exact sz (by lia),?_⟩
  rw[Jj]
  refine jT ⟨trivial,trivial⟩ (λp:Int×Int=>D.tup [.int p.1,.int p.2]) (λp=>D.int (p.1+p.2+1)) (λp hp K' k'=>⟨rfl,k'⟩) ?_
  rw[Jf]
  refine⟨by rw[ia,bG];exact sz (by show 1+_<=_;lia),?_⟩
  obtain⟨b1,b2,b3⟩:=kr (List.zipWith (λa b=>a+b+1) ls rs) m
  refine⟨m::List.zipWith (λa b=>a+b+1) ls rs,rfl,by simp,λv hv Ia=>.keep ?_⟩
  have e:v=(List.zipWith (λa b=>a+b+1) ls rs).foldl min m:=by
   have g1:=Ia m aH
   rcases b1 with q|q
   .rcases List.mem_cons.mp hv with z | z
    .lia
    .have:=b3 v z;lia
   .have:=Ia _ (nE _ q)
    rcases List.mem_cons.mp hv with z|z
    .lia
    .have:=b3 v z;lia
  rw[e];exact kk
 .cases h
def HC (F:j5 K "fewest" "fewest" m6 f fd)(T:lM mg)(lL:mT P w K mg fK):gL P w K mg fK ku 5 f fd (pA m6) (iD vY):=by
 refine F.nA yJ (λds μ Kd h=>by unfold vY at h;split at h <;> first | rfl | exact h.elim) (λje A fV s H E hr=>⟨_,(fO (qS 4 yJ.nd (iX (iX (za (rE hr) (qC lL hr (fQ (dv 0) (fQ (dv 1) (fQ (dv 2) (fQ (dv 3) iG))))) (dv 3) (λ_ _=>rfl)) fT) (y8 fT)))
  (fY (gv (L1 (MJ (dv 4) (vt T (dv 1))) (dv 4) y7)))),λds μ Kd hm hl h=>?_⟩)
 unfold vY at h
 split at h
 .rename_i n x y a
  obtain⟨cs,ts,rfl,rfl,S,a0,a1,kk⟩:=h
  refine⟨cs,ts,rfl,rfl,S,a0,a1,?_⟩
  have pF:(fI n cs).length=cs.length+2:=gw n cs
  have e1:uH ((mI (a.toNat+1)).zip (nJ (fI n cs) ts (a.toNat+1))) (.inl a)=some (.lst (kG (fI n cs).length (fZ (fI n cs) ts (a.toNat+1)))):=by
   have:=wj (xs:=List.range (a.toNat+1)) (k:=a.toNat) (λk=>D.lst (kG (fI n cs).length (fZ (fI n cs) ts (k+1)))) (List.mem_range.mpr (by lia))
   rw[cA a0]at this
   exact this
  have e2:lB (kG (fI n cs).length (fZ (fI n cs) ts (a.toNat+1))) 0=some (.lst (jR (fI n cs).length (fZ (fI n cs) ts (a.toNat+1) 0))):=kO (j:=0) (p6 (by lia))
  have e3:lB (jR (fI n cs).length (fZ (fI n cs) ts (a.toNat+1) 0)) (-1)=some (.int (fZ (fI n cs) ts (a.toNat+1) 0 (cs.length+1))):=wx (by rw[sH,pF];exact ng (by lia))
  refine fN e1 (fN e2 (fN e3 ?_))
  unfold Th at kk
  refine kq (c:=fZ (fI n cs) ts (a.toNat+1) 0 (cs.length+1)<=((cs.map D.int).length:Int)) (λq=>?_) (λq=>?_)
  .rw[ia]at q;rw[aF q]at kk;exact .keep kk
  .rw[ia]at q;rw[aG q]at kk;exact .keep kk
 .cases h
def qh (F:j5 K "is_take" "BestMakes.is_take" hZ f fd)(T:lM mg)(fM:jh K fU):gL P w K mg fK ku 1 f fd (pA hZ) (iD (vW fU)):=by
 refine F.nA jq (λds μ Kd h=>by unfold vW at h;split at h <;> first | rfl | exact h.elim) (λje A fV s H E hr=>⟨_,(fO (Fm (dv 1) ⟨(g9 (n:=3) rfl (fS (qN 2 jq.nd) (fS (qN 3 jq.nd) (fS (qN 4 jq.nd) gF)))),(iO (gc (gb 2) (fL 2) (gc (gb 3) (fL 3) (gc (gb 4) (fL 4) iP fW) (fP (fL 4) fW)) (fP (fL 3) (fP (fL 4) fW)))),(iz (fP (fL 2) (fP (fL 3) (fP (fL 4) fW))))⟩)
  (fY (gv (qw Tj rL (iX (iX (za (rE hr) (pH fM.cl fM.sO (dv 0)) (dv 2) (λ_ _=>rfl)) (dv 3)) (dv 4)) fT (iQ _))))),λds μ Kd hm hl h=>?_⟩)
 unfold vW at h
 split at h
 .rename_i k s
  obtain⟨es,ts,A,j,a,i,b,B,rfl,kk⟩:=h
  have Ig:=B.Ig
  have hb:=B.hb
  refine⟨rfl,_,vp B.at_ uM,?_⟩
  refine fN (zF B.ha) ?_
  refine fN (zJ (by lia)) ?_
  refine fN (zX hb) (.keep ?_)
  generalize decide (fZ es ts (a+1) i b=0)=c at kk ⊢
  cases c<;>exact kk
 .cases h
def om (F:j5 K "clean_takes" "BestMakes.clean_takes" gJ f fd)(T:lM mg)(fM:jh K fU):gL P w K mg fK ku 1 f fd (pA gJ) (iD (v7 fU)):=by
 refine F.nA gU (λds μ Kd h=>by unfold v7 at h;split at h <;> first | rfl | exact h.elim) (λje A fV s H E hr=>⟨_,(fO (Fm (dv 1) ⟨(g9 (n:=3) rfl (fS (qN 2 gU.nd) (fS (qN 3 gU.nd) (fS (qN 4 gU.nd) gF)))),(iO (gc (gb 2) (fL 2) (gc (gb 3) (fL 3) (gc (gb 4) (fL 4) iP fW) (fP (fL 4) fW)) (fP (fL 3) (fP (fL 4) fW)))),(iz (fP (fL 2) (fP (fL 3) (fP (fL 4) fW))))⟩)
  (fO (qS 5 gU.nd (iX (pH fM.cl fM.sP (dv 0)) (dv 4)))
  (fY (gv (IW false (tT (N:=["number","old","row","age","first","end"]) (js:=[none,none,none,some 2,some 3,some 5]) gU (by decide +kernel)) (iO (gc (gb 0) (fL 0) (gc (iO (gc (gb 1) (fL 1) (gc (gb 2) (fL 2) iP fW) (fP (fL 2) fW))) (iz (fP (fL 1) (fP (fL 2) fW))) iP fW) (fP (iz (fP (fL 1) (fP (fL 2) fW))) fW))) (iz (fP (fL 0) (fP (iz (fP (fL 1) (fP (fL 2) fW))) fW))) (Ar rfl T.enumerate (a1 (pH fM.cl fM.KP (dv 0)))) (λ_ _ _ nd=>(g9 (n:=2) rfl (fS (qN 0 nd) (fS (g9 (n:=2) rfl (fS (qN 1 nd) (fS (qN 2 nd) gF))) gF)))) (λ_ _ _=>(wC (PW.pt (uU (MJ (dv 1) (dv 3)) (p7 (YE (iX (dv 2) (dv 4)) (dv 5))))))) (λ_ _ _=>(dv 0))))))),λds μ Kd hm hl h=>?_⟩)
 unfold v7 at h
 split at h
 .rename_i k s
  obtain⟨es,ts,A,j,a,i,b,B,rfl,kk⟩:=h
  have Ig:=B.Ig
  have hb:=B.hb
  have oJ:=B.hl
  have Cp:=B.ht
  have eb:(es.map D.int)[b]?=some (.int (es.getD b 0)):=by rw[nF,getD_some hb];rfl
  refine⟨rfl,_,vp B.at_ zi,fN (kO eb) ?_⟩
  refine⟨_,vp B.at_ Pa,?_⟩
  refine⟨by rw[mW,ia];exact sz (by lia),?_⟩
  rw[Ez,ia]
  refine qR trivial _ (λx=>if(match ts[x]? with|some t=>decide (t.2<=(a:Int))&&decide (es.getD b 0<=jd es t.1 (es.getD i 0))|none=>false)=true then some (D.int (x:Nat))else none) (λx hx K' k'=>?_) ?_
  .rw[cf]at hx
   obtain⟨t,et⟩:∃ t,ts[x]?=some t:=⟨_,iM hx⟩
   rw[JQ et]
   rw[et]at k'
   dsimp only at k'
   refine⟨rfl,rfl,?_⟩
   refine kq (c:=t.2<=(a:Int)) (λq=>?_) (λq=>?_)
   .have er:((sG es t).map D.int)[i]?=some (.int (jd es t.1 (es.getD i 0))):=by
     unfold sG
     rw[nF,nF,getD_some (by lia)];rfl
    refine fN (kO er) ?_
    refine kq (c:=es.getD b 0<=jd es t.1 (es.getD i 0)) (λq2=>?_) (λq2=>?_)
    .rw[aF (by rw[aJ q,aJ q2];rfl)]at k';exact k'
    .rw[aG (by rw[aS q2,fj];exact aN)]at k';exact k'
   .rw[aG (by rw[aS q];exact aN)]at k';exact k'
  .rw[Gb]
   exact .keep kk
 .cases h
def qY (F:j5 K "halves" "BestMakes.halves" iq f fd)(T:lM mg)(fM:jh K fU):gL P w K mg fK ku 1 f fd (pA iq) (iD (vX fU)):=by
 refine F.nA hX (λds μ Kd h=>by unfold vX at h;split at h <;> first | rfl | exact h.elim) (λje A fV s H E hr=>⟨_,(fO (Fm (dv 1) ⟨(g9 (n:=3) rfl (fS (qN 2 hX.nd) (fS (qN 3 hX.nd) (fS (qN 4 hX.nd) gF)))),(iO (gc (gb 2) (fL 2) (gc (gb 3) (fL 3) (gc (gb 4) (fL 4) iP fW) (fP (fL 4) fW)) (fP (fL 3) (fP (fL 4) fW)))),(iz (fP (fL 2) (fP (fL 3) (fP (fL 4) fW))))⟩)
  (fO (qS 5 hX.nd (iX (iX (za (rE hr) (pH fM.cl fM.sO (dv 0)) (dv 2) (λ_ _=>rfl)) (dv 3)) (dv 4)))
  (fO (qS 6 hX.nd (za (rE hr) (pH fM.cl fM.sO (dv 0)) (Bu (dv 2) fT) (λ_ _=>rfl)))
  (fY (gv (Dn false (tT (N:=["middle","self","age","first","behind","before","many"]) (js:=[none,some 0,some 2,some 3,some 4,some 6,some 5]) hX (by decide +kernel)) (sX rfl T.range (a2 (pI (dv 3) fT) (dv 4))) (λ_ _ _ nd=>(qN 0 nd)) (λ_ _ _=>(wC (J7 (pI (pI (iX (iX (dv 5) (dv 3)) (dv 0)) (iX (iX (dv 5) (dv 0)) (dv 4))) fT) (dv 6)))) (λ_ _ _=>(nr (a3 (iX (pH fM.cl fM.sP (dv 1)) (dv 0)) (nr (a3 (Bu (dv 2) fT) (dv 3) (dv 0))) (nr (a3 (Bu (dv 2) fT) (dv 0) (dv 4)))))))))))),λds μ Kd hm hl h=>?_⟩)
 unfold vX at h
 split at h
 .rename_i k s
  obtain⟨es,ts,A,j,a,i,b,B,rfl,h1,kk⟩:=h
  have Ig:=B.Ig
  have hb:=B.hb
  have ha:=B.ha
  have oJ:=B.hl
  obtain⟨a',rfl⟩:∃ a',a=a'+1:=⟨a - 1,by lia⟩
  refine⟨rfl,_,vp B.at_ uM,fN (zF ha) (fN (zJ (by lia)) (fN (zX hb) ?_))⟩
  have ek:uH ((mI (A+1)).zip (nJ es ts (A+1))) (.inl (((a'+1:Nat):Int) - 1))=some (.lst (kG es.length (fZ es ts (a'+1)))):=by
   rw[show((a'+1:Nat):Int) - 1=(a':Int) by lia];exact zF (by lia)
  refine⟨_,vp B.at_ uM,fN ek ?_⟩
  refine⟨⟨by lia,by lia,by lia,by lia⟩,?_⟩
  refine⟨by unfold kz;rw[ia,pW];exact sz (by lia),?_⟩
  rw[ND]
  refine qR trivial _ (λx=>if decide (fZ es ts (a'+1) i (i+1+x)+fZ es ts (a'+1) (i+1+x) b+1=fZ es ts (a'+1+1) i b)=true then some (FW es (a'+1) i b (i+1+x))else none) (λx hx K' k'=>?_) ?_
  .rw[cf]at hx
   have hx1:i+1+x<b:=by lia
   rw[show(i:Int)+1+(x:Nat)=((i+1+x:Nat):Int) by lia]
   generalize i+1+x=m at hx1 k' ⊢
   refine fN (zJ (by lia)) (fN (zX (by lia)) (fN (zJ (by lia)) (fN (zX hb) ?_)))
   refine oI (λq=>?_) (λq=>?_)
   .rw[aF (aJ q)]at k'
    have ep:(es.map D.int)[m]?=some (.int (es.getD m 0)):=by rw[nF,getD_some (by lia)];rfl
    refine⟨_,vp B.at_ zi,fN (kO ep) ⟨zs,zs,zs,?_⟩⟩
    exact k'
   .rw[aG (by rw[aS q];exact aN)]at k';exact k'
  .rw[Gb]
   rw[D6,bA]at kk
   rw[show((b:Int) - ((i:Int)+1)).toNat=b - (i+1) by lia]
   exact .keep kk
 .cases h
def pU (F:j5 K "__init__" "BestMakes.__init__" hJ f fd)(T:lM mg)(fM:jh K fU)(k9:pB P w K mg fK)(ke:my P w K mg fK)(qD:qx P w K mg fK)(lL:mT P w K mg fK):gL P w K mg fK ku 5 f fd (pA hJ) (iD (Gp fU)):=by
 refine F.nA lN (λds μ Kd h=>by unfold Gp at h;split at h <;> first | rfl | exact h.elim) (λje A fV s H E hr=>⟨_,(fO (BP fM.cl fM.sP (qC k9 hr (a2 (dv 1) (dv 2))) (dv 0))
  (fO (BP fM.cl fM.KP (qC ke hr (a3 (dv 1) (dv 2) (dv 3))) (dv 0))
  (fO (qS 4 lN.nd (qC qD hr (a3 (dv 1) (dv 2) (dv 3))))
  (fO (BP fM.cl fM.sO (qC lL hr (fQ (dv 1) (fQ (dv 2) (fQ (dv 3) (fQ (dv 4) iG))))) (dv 0))
  (fO (BP fM.cl fM.Af (nr (a3 (dv 4) fT (Bu (vt T (pH fM.cl fM.sP (dv 0))) fT))) (dv 0))
  (fY (BP fM.cl fM.sQ OV (dv 0)))))))),λds μ Kd hm hl h=>?_⟩)
 unfold Gp at h
 split at h
 .rename_i k n x y
  obtain⟨cs,ts,rfl,rfl,S,Cr,hb,hk,kk⟩:=h
  have mD:=S.mD
  have XD:k<μ.length:=(ka hk).1
  have at_:∀ {m:MO},(μ.set k m)[k]?=some m:=aW XD
  have pF:(fI n cs).length=cs.length+2:=gw n cs
  obtain⟨es,he⟩:∃ es,es=fI n cs:=⟨_,rfl⟩
  refine⟨cs,rfl,mD,_,(["places"],[.lst (es.map D.int)]),pf hk,by rw[<- he];kernel_rfl,by decide,?_⟩
  refine⟨cs,ts,rfl,rfl,S,_,(["places","rows"],[.lst (es.map D.int),.lst (ts.map (ju es))]),pf at_,by rw[<- he];kernel_rfl,by show 1<1000;decide,?_⟩
  rw[cq]
  refine⟨cs,ts,rfl,rfl,S,Cr,?_⟩
  unfold Al
  rw[hb]
  intro a ha la
  refine⟨cs,ts,rfl,rfl,S,by lia,by lia,_,(["places","rows","tables"],[.lst (es.map D.int),.lst (ts.map (ju es)),.jX (mI (a+1)) (nJ es ts (a+1))]),pf at_,by rw[<- he];kernel_rfl,by show 2<1000;decide,?_⟩
  rw[cq]
  refine⟨_,vp at_ (d:=.lst (es.map D.int)) (by kernel_rfl),fN rfl ⟨zs,?_⟩⟩
  have el:((es.map D.int).length:Int) - 1=((es.length - 1:Nat):Int):=by rw[ia,he];lia
  refine⟨_,(["places","rows","tables","whole"],[.lst (es.map D.int),.lst (ts.map (ju es)),.jX (mI (a+1)) (nJ es ts (a+1)),vh a 0 (es.length - 1)]),pf at_,by show putN "whole" (.tup [.int a,.int 0,.int (((es.map D.int).length:Int) - 1)]) _ _=_;rw[el];kernel_rfl,by show 3<1000;decide,?_⟩
  rw[cq]
  have at2:∀ {m m':MO},(μ.set k m++[m'])[k]?=some m:=λ{m m'}=>by rw[t6 (by rw[cg];exact XD)];exact at_
  refine⟨_,(EG,IC es ts a μ.length),pf at2,by rw[cg];kernel_rfl,by show 4<1000;decide,.keep ?_⟩
  have kk:=kk a ha (he▸la)
  rw[List.set_append_left _ _ (by rw[cg];exact XD),cq,he]
  exact kk
 .cases h
def oG {f:ao}{fd:aj}(F:j5 K "count_anew" "BestMakes.count_anew" gO f fd)(T:lM mg)(fM:jh K fU){l n:Nat}(hl:1<=l)(gI:ja P w K mg fK)(gA:iC P w K mg fK)(gQ:jg P w K mg fK)(gC:xQ P w K mg fK fU "counted" l ["self","stretch"] (iD (uG fU n))):gL P w K mg fK ku (l+1) f fd ["self","stretch"] (iD (uG fU (n+1))):=by
 refine F.nA gZ (λds μ Kd h=>by unfold uG at h;split at h <;> first | rfl | exact h.elim) (λje A fV s H E hr=>⟨_,(fO (jj (ij (kB gI fM.cl hr.le (dv 0) (a1 (dv 1))))
  (fY (gv (vt T (kB gA fM.cl hr.le (dv 0) (a1 (dv 1))))))
  hV)
  (fO (qS 2 gZ.nd fT)
  (fO (lO bg rfl (jN (kB gQ fM.cl hr.le (dv 0) (a1 (dv 1)))) ⟨(g9 (n:=3) rfl (fS (qN 3 gZ.nd) (fS (qN 4 gZ.nd) (fS (qN 5 gZ.nd) gF)))),(iO (gc (gb 3) (fL 3) (gc (gb 4) (fL 4) (gc (gb 5) (fL 5) iP fW) (fP (fL 5) fW)) (fP (fL 4) (fP (fL 5) fW)))),(iz (fP (fL 3) (fP (fL 4) (fP (fL 5) fW))))⟩
  (fY (BQ (i:=2) gZ.nd rfl lo (rg R9 zN (kB gC fM.cl hr.le (dv 0) (a1 (dv 4))) (kB gC fM.cl hr.le (dv 0) (a1 (dv 5)))) sW wI)))
  (fY (gv (dv 2)))))),λds μ Kd hm hl h=>?_⟩)
 unfold uG at h
 split at h
 .rename_i k s
  obtain⟨es,ts,A,j,a,i,b,ks,dd,B,rfl,ZN,h1,Dm,hj,mm,kk⟩:=h
  have Ig:=B.Ig
  have hb:=B.hb
  have ha:=B.ha
  have oJ:=B.hl
  have Cp:=B.ht
  have hA:=B.hA
  have iF:=B.ok
  refine⟨qZ B.at_ (rm (by simp)),es,ts,A,j,a,i,b,B,rfl,?_⟩
  refine kq (c:=fZ es ts (a+1) i b=0) (λq=>?_) (λq=>?_)
  .refine⟨qZ B.at_ (rm (by simp)),es,ts,A,j,a,i,b,B,rfl,fN rfl (.keep ?_)⟩
   have kk:=kk ks dd mm
   rw[mZ hj]at kk
   unfold j4 at kk
   rw[aF q]at kk
   rw[ia]
   exact kk
  .have VZ:a≠0:=λz=>by subst z;exact q (h1.z i b (by lia) hb iF)
   obtain⟨a',rfl⟩:∃ a',a=a'+1:=⟨a - 1,by lia⟩
   refine⟨qZ B.at_ (rm (by simp)),es,ts,A,j,a'+1,i,b,B,rfl,by lia,?_⟩
   rw[FV]
   obtain⟨M,hM⟩:∃ M,M=o6 (fZ es ts (a'+1+1)) (fZ es ts (a'+1)) i b:=⟨_,rfl⟩
   rw[<- hM]
   obtain⟨g,hg⟩:∃ g:Nat->Int,g=λx=>j4 es ts (a'+1) i x*j4 es ts (a'+1) x b:=⟨_,rfl⟩
   have Xz:∀ x∈M,i<x/\x<b/\fZ es ts (a'+1) i x+fZ es ts (a'+1) x b+1=fZ es ts (a'+1+1) i b:=λx hx=>jW.mp (hM▸hx)
   refine fN rfl ?_
   refine i9 (λds ρ gq=>∃(z:Nat) (ow:au (au Key)) (oP:au D) (u v w:av D),ds=(M.drop z).map (λk=>D.tup [.int (es.getD k 0),vh a' i k,vh a' k b])/\Memo es ts A ow oP/\ρ=[some (.mr k),some (vh ((a'+1:Nat):Int) i b),some (.int ((M.take z).map g).sum),u,v,w]/\gq=μ.set j (.nB ow oP)) ⟨0,ks,dd,none,none,none,rfl,mm,rfl,(mZ hj).symm⟩ ?_ ?_
   .rintro d ua ρ gq ⟨z,ow,oP,u,v,w,e,Uj,rfl,rfl⟩
    refine⟨trivial,λnx rb=>?_⟩
    have hz:z<M.length:=by
     by_cases y:z<M.length
     .exact y
     .rw[bX (by lia)]at e;cases e
    rw[bU hz,aB,cE]at e
    obtain⟨rfl,rfl⟩:=e
    obtain⟨x1,x2,x3⟩:=Xz _ (bR hz)
    have UC:=BJ (f:=g) hz
    generalize M[z]=x at x1 x2 x3 UC ⊢
    have n1:=h1.nn (a'+1) i x (by lia) (by lia)
    have n2:=h1.nn (a'+1) x b (by lia) hb
    have xT:j<μ.length:=(ka hj).1
    have B':=B.put (m:=.nB ow oP) Dm
    have Bl:Bm fU (μ.set j (.nB ow oP)) k es ts A j a' i x:=⟨B'.at_,by lia,x1,by lia,oJ,Cp,hA,by lia⟩
    refine⟨rfl,qZ B'.at_ (rm (by simp)),es,ts,A,j,a',i,x,ow,oP,Bl,rfl,by lia,h1,Dm,aW xT,Uj,λMK MR Sb=>?_⟩
    rw[cq]
    have B2:=B.put (m:=.nB MK MR) Dm
    have Br:Bm fU (μ.set j (.nB MK MR)) k es ts A j a' x b:=⟨B2.at_,by lia,x2,hb,oJ,Cp,hA,by lia⟩
    refine⟨qZ B2.at_ (rm (by simp)),es,ts,A,j,a',x,b,MK,MR,Br,rfl,by lia,h1,Dm,aW xT,Sb,λVC Wm Xv=>?_⟩
    rw[cq]
    refine⟨EC oJ Cp (a'+1) i x b x1 x2 hb,?_⟩
    refine rb _ _ ⟨z+1,VC,Wm,some (.int (es.getD x 0)),some (vh a' i x),some (vh a' x b),rfl,Xv,?_,rfl⟩
    rw[UC,hg]
    rfl
   .rintro ρ gq ⟨z,ow,oP,u,v,w,e,Uj,rfl,rfl⟩
    refine⟨trivial,?_⟩
    have hz:M.length<=z:=by
     have:=cH List.length e
     rw[ia,bO]at this
     simp at this
     lia
    rw[b9 hz]
    have kk:=kk ow oP Uj
    unfold j4 at kk
    rw[aG q,<- hM]at kk
    rw[hg]
    exact .keep kk
 .cases h
def mv {f:ao}{fd:aj}(F:j5 K "counted" "BestMakes.counted" h9 f fd)(T:lM mg)(fM:jh K fU){l n:Nat}(pE:xQ P w K mg fK fU "count_anew" l ["self","stretch"] (iD (uG fU n))):gL P w K mg fK ku (l+1) f fd ["self","stretch"] (iD (uG fU n)):=by
 refine F.nA qd (λds μ Kd h=>by unfold uG at h;split at h <;> first | rfl | exact h.elim) (λje A fV s H E hr=>⟨_,(zq (jj (JA (rE hr) (dv 1) (pH fM.cl fM.sQ (dv 0)) (by with_unfolding_all rfl))
  (fY (Rv (rE hr) (kB pE fM.cl hr.le (dv 0) (a1 (dv 1))) (pH fM.cl fM.sQ (dv 0)) (dv 1)))
  hV)
  (fY (gv (Wr (rE hr) (pH fM.cl fM.sQ (dv 0)) (dv 1) (λ_ _=>rfl))))),λds μ Kd hm hl h=>?_⟩)
 unfold uG at h
 split at h
 .rename_i k s
  obtain⟨es,ts,A,j,a,i,b,ks,dd,B,rfl,ZN,h1,Dm,hj,mm,kk⟩:=h
  have ha:=B.ha
  have Ig:=B.Ig
  have hb:=B.hb
  have oJ:=B.hl
  have hA:=B.hA
  have xT:j<μ.length:=(ka hj).1
  have bd:∀ {ow:au (au Key)} {oP:au D},Memo es ts A ow oP->ow.length<sizeLine:=λm=>by
   have h2:=m.bd
   have h3:(A+1)*es.length*es.length<=101*100*100:=Nat.mul_le_mul (Nat.mul_le_mul (by lia) oJ) oJ
   exact cw (aV h2 h3) (by decide)
  have fin:∀ {ow:au (au Key)} {oP:au D},Memo es ts A ow oP->stK a i b∈ow->Wt (wm Wy (WE fU "counts" (vq 0)) (vq 1)) (JU μ.length Kd) [some (.mr k),some (vh a i b)] (μ.set j (.nB ow oP)):=λ{ow oP} m Cq=>by
   have B':=B.put (m:=.nB ow oP) Dm
   rcases m.get a i b with⟨z,_⟩|⟨_,z⟩
   .exact absurd Cq z
   .refine⟨_,vp B'.at_ uN,_,?_,.keep (kk ow oP m)⟩
    unfold Uk LP
    rw[aW xT]
    exact cH some z
  refine⟨λkF gq=>∃ ow oP,Memo es ts A ow oP/\stK a i b∈ow/\kF=[some (.mr k),some (vh a i b)]/\gq=μ.set j (.nB ow oP),?_,?_⟩
  .have ei:Uk μ j (vh a i b)=some (sD ks dd (stK a i b)):=by
    unfold Uk LP
    rw[hj];rfl
   refine⟨_,vp B.at_ uN,_,ei,?_⟩
   rcases mm.get a i b with⟨z1,z2⟩|⟨z1,z2⟩
   .rw[z2]
    refine YZ ?_
    refine⟨qZ B.at_ (rm (by simp)),es,ts,A,j,a,i,b,ks,dd,B,rfl,ZN,h1,Dm,hj,mm,λMK MR Sb=>?_⟩
    have B2:=B.put (m:=.nB MK MR) Dm
    refine⟨_,vp B2.at_ uN,MK,MR,stK a i b,aW xT,bd Sb,rfl,?_⟩
    rw[cq]
    obtain⟨m1,m2⟩:=Sb.put (i:=i) ha (by lia) hb
    exact⟨_,_,m1,m2,rfl,rfl⟩
   .rw[z2]
    refine Y0 ?_
    exact⟨ks,dd,mm,z1,rfl,(mZ hj).symm⟩
  .rintro kF gq ⟨ow,oP,m,Cq,rfl,rfl⟩
   exact fin m Cq
 .cases h
def yO {f1 f2:ao}{OL XO:aj}(F1:j5 K "counted" "BestMakes.counted" h9 f1 OL)(F2:j5 K "count_anew" "BestMakes.count_anew" gO f2 XO)(T:lM mg)(fM:jh K fU)(m1:Meth K fU "counted" f1)(m2:Meth K fU "count_anew" f2)(b1:Binds K OL ["self","stretch"] [])(b2:Binds K XO ["self","stretch"] [])(gI:ja P w K mg fK)(gA:iC P w K mg fK)(gQ:jg P w K mg fK):∀ n,gL P w K mg fK ku (2*n+2) f1 OL ["self","stretch"] (iD (uG fU n))
 |0=>mv F1 T fM (l:=1) ⟨f2,XO,.never Il,m2,b2⟩
 |n+1=>mv F1 T fM (l:=2*n+3) ⟨f2,XO,oG F2 T fM (by lia) gI gA gQ ⟨f1,OL,yO F1 F2 T fM m1 m2 b1 b2 gI gA gQ n,m1,b1⟩,m2,b2⟩
def pT {f:ao}{fd:aj}(F:j5 K "numbered" "BestMakes.numbered" hG f fd)(T:lM mg)(fM:jh K fU){l n:Nat}(hl:144<=l)(hn:n<=70)(gI:ja P w K mg fK)(gA:iC P w K mg fK)(gQ:jg P w K mg fK)(gC:jC P w K mg fK)(jy:xQ P w K mg fK fU "numbered" l ["self","stretch","number"] (iD (vc fU n))):gL P w K mg fK ku (l+1) f fd ["self","stretch","number"] (iD (vc fU (n+1))):=by
 refine F.nA gW (λds μ Kd h=>by unfold vc at h;split at h <;> first | rfl | exact h.elim) (λje A fV s H E hr=>⟨_,(fO (jj (ij (kB gI fM.cl hr.le (dv 0) (a1 (dv 1))))
  (fY (gv (iX (kB gA fM.cl hr.le (dv 0) (a1 (dv 1))) (dv 2))))
  hV)
  (fO (qS 3 gW.nd (dv 2))
  (fY (lO bg rfl (jN (kB gQ fM.cl hr.le (dv 0) (a1 (dv 1)))) ⟨(g9 (n:=3) rfl (fS (qN 4 gW.nd) (fS (qN 5 gW.nd) (fS (qN 6 gW.nd) gF)))),(iO (gc (gb 4) (fL 4) (gc (gb 5) (fL 5) (gc (gb 6) (fL 6) iP fW) (fP (fL 6) fW)) (fP (fL 5) (fP (fL 6) fW)))),(iz (fP (fL 4) (fP (fL 5) (fP (fL 6) fW))))⟩
  (fO (qS 7 gW.nd (kB gC fM.cl hr.le (dv 0) (a1 (dv 6))))
  (fO (jj (NL (dv 3) (rg R9 zN (kB gC fM.cl hr.le (dv 0) (a1 (dv 5))) (dv 7)))
  (fY (gv (nr (a3 (dv 4) (kB jy fM.cl hr.le (dv 0) (a2 (dv 5) (rg Ku Nv (dv 3) (dv 7)))) (kB jy fM.cl hr.le (dv 0) (a2 (dv 6) (rg Ai P0 (dv 3) (dv 7))))))))
  hV)
  (fY (BQ (i:=3) gW.nd rfl lo (rg R9 zN (kB gC fM.cl hr.le (dv 0) (a1 (dv 5))) (dv 7)) Oz wI)))))))),λds μ Kd hm hl h=>?_⟩)
 unfold vc at h
 split at h
 .rename_i k s r
  obtain⟨es,ts,A,j,a,i,b,ks,dd,B,rfl,ZN,h1,Dm,hj,mm,r0,r1,kk⟩:=h
  have Ig:=B.Ig
  have hb:=B.hb
  have ha:=B.ha
  have oJ:=B.hl
  have Cp:=B.ht
  have hA:=B.hA
  have iF:=B.ok
  refine⟨qZ B.at_ (rm (by simp)),es,ts,A,j,a,i,b,B,rfl,?_⟩
  refine kq (c:=fZ es ts (a+1) i b=0) (λq=>?_) (λq=>?_)
  .refine⟨qZ B.at_ (rm (by simp)),es,ts,A,j,a,i,b,B,rfl,?_⟩
   have kk:=kk ks dd mm
   rw[mZ hj]at kk
   unfold j4 at r1
   rw[aF q]at r1
   unfold GS at kk
   rw[aF q]at kk
   have e1:(vk es ts a i b)[r.toNat]?=some ((vk es ts a i b).getD r.toNat 0):=by rw[aC,iM (by lia)];rfl
   have e2:lB ((vk es ts a i b).map λx=>D.int (x:Nat)) r=some (.int ((vk es ts a i b).getD r.toNat 0:Nat)):=by
    have:=xJ (g:=λx:Nat=>D.int (x:Nat)) e1
    rwa [cA r0]at this
   exact fN e2 (.keep kk)
  .have VZ:a≠0:=λz=>by subst z;exact q (h1.z i b (by lia) hb iF)
   obtain⟨a',rfl⟩:∃ a',a=a'+1:=⟨a - 1,by lia⟩
   refine⟨qZ B.at_ (rm (by simp)),es,ts,A,j,a'+1,i,b,B,rfl,by lia,?_⟩
   rw[FV]
   obtain⟨M,hM⟩:∃ M,M=o6 (fZ es ts (a'+1+1)) (fZ es ts (a'+1)) i b:=⟨_,rfl⟩
   rw[<- hM]
   obtain⟨g,hg⟩:∃ g:Nat->Int,g=λx=>j4 es ts (a'+1) i x*j4 es ts (a'+1) x b:=⟨_,rfl⟩
   have Xz:∀ x∈M,i<x/\x<b/\fZ es ts (a'+1) i x+fZ es ts (a'+1) x b+1=fZ es ts (a'+1+1) i b:=λx hx=>jW.mp (hM▸hx)
   have gnn:∀ x∈M,0<=g x:=λx hx=>by
    have:=Xz x hx
    rw[hg]
    exact Int.mul_nonneg (pJ oJ Cp (a'+1) i x this.1 (by lia)).1 (pJ oJ Cp (a'+1) x b this.2.1 hb).1
   unfold j4 at r1
   rw[aG q,<- hM,<- hg]at r1
   unfold GS at kk
   rw[aG q,<- hM,<- hg]at kk
   refine fN rfl ?_
   refine i9 (λds ρ gq=>∃(z:Nat) (ow:au (au Key)) (oP:au D) (u v w m:av D),ds=(M.drop z).map (λk=>D.tup [.int (es.getD k 0),vh a' i k,vh a' k b])/\Memo es ts A ow oP/\0<=r - ((M.take z).map g).sum/\ρ=[some (.mr k),some (vh ((a'+1:Nat):Int) i b),some (.int r),some (.int (r - ((M.take z).map g).sum)),u,v,w,m]/\gq=μ.set j (.nB ow oP)) ⟨0,ks,dd,none,none,none,none,rfl,mm,by simpa using r0,by simp;rfl,(mZ hj).symm⟩ ?_ ?_
   .rintro d ua ρ gq ⟨z,ow,oP,u,v,w,m,e,Uj,rn,rfl,rfl⟩
    refine⟨trivial,λnx rb=>?_⟩
    have hz:z<M.length:=by
     by_cases y:z<M.length
     .exact y
     .rw[bX (by lia)]at e;cases e
    rw[bU hz,aB,cE]at e
    obtain⟨rfl,rfl⟩:=e
    obtain⟨x1,x2,x3⟩:=Xz _ (bR hz)
    have UC:=BJ (f:=g) hz
    have ez:M[z]?=some M[z]:=iM hz
    generalize M[z]=x at x1 x2 x3 UC ez ⊢
    have n1:=h1.nn (a'+1) i x (by lia) (by lia)
    have n2:=h1.nn (a'+1) x b (by lia) hb
    have xT:j<μ.length:=(ka hj).1
    have Bl:∀ {ks:au (au Key)} {dd:au D},Bm fU (μ.set j (.nB ks dd)) k es ts A j a' i x:=λ{ks dd}=>⟨(B.put (m:=.nB ks dd) Dm).at_,by lia,x1,by lia,oJ,Cp,hA,by lia⟩
    have Br:∀ {ks:au (au Key)} {dd:au D},Bm fU (μ.set j (.nB ks dd)) k es ts A j a' x b:=λ{ks dd}=>⟨(B.put (m:=.nB ks dd) Dm).at_,by lia,x2,hb,oJ,Cp,hA,by lia⟩
    have at_:∀ {m:MO},(μ.set j m)[j]?=some m:=aW xT
    have c2:=pJ oJ Cp (a'+1) x b x2 hb
    refine⟨rfl,qZ Br.at_ (rm (by simp)),es,ts,A,j,a',x,b,ow,oP,Br,rfl,by lia,h1,Dm,at_,Uj,λMK MR Sb=>?_⟩
    rw[cq]
    refine⟨qZ Bl.at_ (rm (by simp)),es,ts,A,j,a',i,x,MK,MR,Bl,rfl,by lia,h1,Dm,at_,Sb,λVC Wm Xv=>?_⟩
    rw[cq]
    refine⟨EC oJ Cp (a'+1) i x b x1 x2 hb,?_⟩
    obtain⟨v,hv⟩:∃ v,v=r - ((M.take z).map g).sum:=⟨_,rfl⟩
    rw[<- hv]at rn ⊢
    have gx:g x=j4 es ts (a'+1) i x*j4 es ts (a'+1) x b:=by rw[hg]
    refine kq (c:=v<j4 es ts (a'+1) i x*j4 es ts (a'+1) x b) (λq2=>?_) (λq2=>?_)
    .have pos:0<j4 es ts (a'+1) x b:=by
      rcases Int.lt_or_eq_of_le c2.1 with y|y
      .exact y
      .rw[<- y,Int.mul_zero]at q2;lia
     have d1:0<=v / j4 es ts (a'+1) x b:=Int.ediv_nonneg rn c2.1
     have d2:v / j4 es ts (a'+1) x b<j4 es ts (a'+1) i x:=Int.ediv_lt_of_lt_mul pos q2
     have m1:=eF v (show j4 es ts (a'+1) x b≠0 by lia)
     have m2:=eJ v pos
     have pk:=(z6 (f:=g) gnn ez rn (by rw[gx];exact q2)).1
     rw[show((M.take z).map g).sum+v=r by lia]at pk
     rw[pk]at kk
     dsimp only at kk
     refine⟨qZ Bl.at_ (rm (by simp)),TH oJ Cp x2 hb pos,es,ts,A,j,a',i,x,VC,Wm,Bl,rfl,by lia,h1,Dm,at_,Xv,d1,d2,λYU dd4 YM=>?_⟩
     rw[cq]
     refine⟨qZ Br.at_ (rm (by simp)),pos,es,ts,A,j,a',x,b,YU,dd4,Br,rfl,by lia,h1,Dm,at_,YM,m1,m2,λks5 dd5 mm5=>?_⟩
     rw[cq]
     exact⟨zs,.keep (kk ks5 dd5 mm5)⟩
    .refine xB ?_
     refine⟨qZ Bl.at_ (rm (by simp)),es,ts,A,j,a',i,x,VC,Wm,Bl,rfl,by lia,h1,Dm,at_,Xv,λYU dd4 YM=>?_⟩
     rw[cq]
     refine⟨EC oJ Cp (a'+1) i x b x1 x2 hb,?_⟩
     refine rb _ _ ⟨z+1,YU,dd4,some (.int (es.getD x 0)),some (vh a' i x),some (vh a' x b),some (.int (j4 es ts (a'+1) x b)),rfl,YM,by rw[UC,gx];lia,?_,rfl⟩
     rw[UC,gx,show r - (((M.take z).map g).sum+j4 es ts (a'+1) i x*j4 es ts (a'+1) x b)=v - j4 es ts (a'+1) i x*j4 es ts (a'+1) x b by lia]
     rfl
   .rintro ρ gq ⟨z,ow,oP,u,v,w,m,e,Uj,rn,rfl,rfl⟩
    exfalso
    have hz:M.length<=z:=by
     have:=cH List.length e
     rw[ia,bO]at this
     simp at this
     lia
    rw[b9 hz]at rn
    lia
 .cases h
def FD {f1:ao}{OL:aj}(F1:j5 K "numbered" "BestMakes.numbered" hG f1 OL)(T:lM mg)(fM:jh K fU)(m1:Meth K fU "numbered" f1)(b1:Binds K OL ["self","stretch","number"] [])(gI:ja P w K mg fK)(gA:iC P w K mg fK)(gQ:jg P w K mg fK)(gC:jC P w K mg fK)   : ∀ n,n<=71->gL P w K mg fK ku (n+145) f1 OL ["self","stretch","number"] (iD (vc fU n))
 |0,_=>.never Eu
 |n+1,h=>pT F1 T fM (l:=n+145) (by lia) (by lia) gI gA gQ gC ⟨f1,OL,FD F1 T fM m1 b1 gI gA gQ gC n (by lia),m1,b1⟩
def D2 (F:j5 K "best_of" "best_of" lU f fd)(T:lM mg)(fM:jh K fU)(nY:OwnCls "BadNumber" l6 X6 "ValueError.__new__" mg fK)(qF:tS P w K mg fK)(qG:mC P w K mg fK)(gC:jC P w K mg fK)(jy:mB P w K mg fK):gL P w K mg fK (G9 P w) 217 f fd (pA lU) (UY (tK l6)):=by
 refine F.okX wM (λds μ Kd Kx h=>Cz h) (λje A fV s H E hr lq Kb Z=>⟨_,(fO (jj (zK (qC qF hr (a3 (dv 0) (dv 1) (dv 2))))
  (fY (Fl Z rfl nY dc (by decide) dc rfl (a1 kb)))
  hV)
  (fO (qS 4 wM.nd (Tq qG hr.le rfl (a3 (dv 0) (dv 1) (dv 2))))
  (fO (jj (PW.pt (pS (NL (dv 3) fT) (nK (YE (dv 3) (kB gC fM.cl hr.le (dv 4) (a1 (pH fM.cl fM.Af (dv 4))))))))
  (fY (Fl Z rfl nY dc (by decide) dc rfl (a1 kb)))
  hV)
  (fY (gv (kB jy fM.cl hr.le (dv 4) (a2 (pH fM.cl fM.Af (dv 4)) (dv 3)))))))),λds μ m Kd Kx hm hl em h hK=>?_⟩)
 unfold tK at h
 split at h
 .rename_i n x y r
  obtain⟨_,cs,ts,rfl,rfl,S,Cr,kk⟩:=h
  have mD:=S.mD
  have pF:(fI n cs).length=cs.length+2:=gw n cs
  have ft:=S.takes.mD
  obtain⟨ν,Um⟩:∃ ν,ν=μ.set 0 (.gx lq H):=⟨_,rfl⟩
  have g0:ν[0]?=some (.gx lq H):=by rw[Um];exact Cs em
  have l0:0<ν.length:=(ka g0).1
  rw[<- Um]at hm ⊢
  refine⟨cs,ts,rfl,rfl,mD,S.takes,S.n2,?_⟩
  unfold Mp at kk
  cases hb:jZ (fI n cs) ts with
  | some p =>
   rw[hb]at kk
   exact⟨zs,by rw[Um];exact V2 hK em kk⟩
  | none =>
   rw[hb]at kk
   dsimp only at kk
   refine⟨cs,ts,rfl,rfl,S,Cr,hb,by rw[rF (aw _),a8];rfl,λa ha la=>⟨rfl,?_⟩⟩
   have kk:=kk a ha la
   obtain⟨es,he⟩:∃ es,es=fI n cs:=⟨_,rfl⟩
   have tl:=yC S la
   have sd:=(lE S (a+1) 0 (cs.length+1) (by lia) (by lia)).2 (by lia)
   have tb:=BH S
   rw[<- he]at tl sd tb kk pF ⊢
   obtain⟨g,hg⟩:∃ g,g=(ν++[MO.ins fU [] []]).set ν.length (.ins fU EG (IC es ts a (ν++[MO.ins fU [] []]).length))++[.nB [] []]:=⟨_,rfl⟩
   rw[<- hg]
   have G:=bmG hm hg
   have B:∀ {ks:au (au Key)} {dd:au D},Bm fU (g.set (ν.length+1) (.nB ks dd)) ν.length es ts a (ν.length+1) a 0 (es.length - 1):=λ{ks dd}=>⟨G.e0 ks dd,aw _,by lia,by lia,by lia,by lia,by lia,by rw[show es.length - 1=cs.length+1 by lia];lia⟩
   have bad:∀ {ks:au (au Key)} {dd:au D},Kx (.ref l6) μ->Kb (.ref l6) (g.set (ν.length+1) (.nB ks dd)):=λ{ks dd} kx=>by
    rw[hK,<- Um]
    refine .inr ⟨G.ol ks dd,?_⟩
    rw[G.tk,Um]
    exact⟨Cs em,by rw[Av em];exact kx⟩
   rw[G.nw]
   refine kq (c:=r<0) (λq=>?_) (λq=>?_)
   .rw[aG (by lia)]at kk
    exact⟨zs,G.z0 _ _ _ g0,bad kk⟩
   refine⟨qZ B.at_ (rm (by simp)),_,vp B.at_ CT,es,ts,a,ν.length+1,a,0,es.length - 1,[],[],B,rfl,by lia,tb,by lia,G.e1 _ _,.nil,λMK MR m2=>?_⟩
   rw[cq]
   refine kq (c:=j4 es ts (a+1) 0 (es.length - 1)<=r) (λq2=>?_) (λq2=>?_)
   .rw[aG (by lia)]at kk
    exact⟨zs,G.z0 _ _ _ g0,bad kk⟩
   rw[aF (by lia)]at kk
   refine⟨qZ B.at_ (rm (by simp)),_,vp B.at_ CT,es,ts,a,ν.length+1,a,0,es.length - 1,MK,MR,B,rfl,by lia,tb,by lia,G.e1 _ _,m2,by lia,by lia,λVC Wm m3=>?_⟩
   rw[cq]
   refine .drop (D5 _) (G.ol _ _) ?_
   rw[G.tk,Um]
   exact V3 em kk
 .cases h
def KA (F:j5 K "go_on" "go_on" oY f fd)(T:lM mg)  : gL P w K mg fK ku 1 f fd (pA oY) (iD Gq):=by
 refine F.nA BM (λds μ Kd h=>by unfold Gq at h;split at h <;> first | rfl | exact h.elim) (λje A fV s H E hr=>⟨_,(fO (zV bg (PW.pt (uU (NL (pI (dv 1) fT) (vt T (dv 0))) (p7 (MJ (iX (dv 0) (pI (dv 1) fT)) (dv 2)))))
  (fY (BQ (i:=1) BM.nd rfl lo fT sW wI)))
  (fY (gv (dv 1)))),λds μ Kd hm hl h=>?_⟩)
 unfold Gq at h
 split at h
 .rename_i r b q
  obtain⟨L,f,c,rfl,hL,rfl,hc,mono,hq,kk⟩:=h
  have o9:((jR L f).length:Int)=(L:Int):=by rw[sH]
  refine⟨λm' ρ gq=>∃ d:Nat,m'=L - d/\d<L/\f d<=q/\ρ=[some (.lst (jR L f)),some (.int (d:Int)),some (.int q)]/\gq=μ,⟨_,c,rfl,hc,hq,rfl,rfl⟩,?_⟩
  rintro m' ρ gq ⟨d,rfl,hd,hf,rfl,rfl⟩
  refine kq (c:=(d:Int)+1<((jR L f).length:Nat)) (λz=>?_) (λz=>?_)
  .rw[o9]at z
   have e:lB (jR L f) ((d:Int)+1)=some (.int (f (d+1))):=kO (j:=d+1) (ng (by lia))
   refine fN e ?_
   refine kq (c:=f (d+1)<=q) (λw=>?_) (λw=>?_)
   .exact⟨L - (d+1),by lia,d+1,rfl,by lia,w,rfl,rfl⟩
   .rw[Eo hd hf λx x1 x2 y=>w (bB (mono _ _ x1 x2) y)]at kk
    exact .keep kk
  .rw[o9]at z
   rw[Eo hd hf λx x1 x2=>absurd x2 (by lia)]at kk
   exact .keep kk
 .cases h
def x8 (F:j5 K "_law_table_good" "_law_table_good" jJ f fd)(T:lM mg)(sx:su P w K mg fK)(Pu:GO P w K mg fK)(Bh:AX P w K mg fK):gL P w K mg fK ku 2 f fd (pA jJ) (iD vT):=by
 refine F.nA n9 (λds μ Kd h=>by unfold vT at h;split at h <;> first | rfl | exact h.elim) (λje A fV s H E hr=>⟨_,(fO (lO bg rfl (iE rfl T.range (a1 (vt T (dv 3)))) (qT 5 n9.nd)
  (fO (jj (mG (ij (qC sx hr (fQ (dv 0) (fQ (dv 1) (fQ (dv 2) (fQ (iX (dv 3) (dv 5)) iG)))))))
  (fY (gv mS))
  hV)
  (fO (jj (PW.pt (uU (Ug (dv 5) fT) (p7 (ij (qC Pu hr (a2 (iX (dv 3) (dv 5)) (iX (dv 3) (Bu (dv 5) fT))))))))
  (fY (gv mS))
  hV)
  (fY (lO bg rfl (iE rfl T.range (a1 (rg mulC p9 (dv 5) (Io VF JH (by rfl) T.int cD (a1 (qw ZU qa (dv 2) fT (iQ _))))))) (qT 6 n9.nd)
  (fY (jj (mG (ij (qC Bh hr (fQ (dv 0) (fQ (iX (dv 3) (dv 5)) (fQ (iX (dv 4) (dv 6)) (fQ (iX (dv 4) (Bu (Bu (dv 5) (dv 6)) fT)) iG)))))))
  (fY (gv mS))
  hV)))))))
  (fY (gv mS))),λds μ Kd hm hl h=>?_⟩)
 unfold vT at h
 split at h
 .rename_i b f a j y
  obtain⟨es,ts,tb,ls,ks,rfl,rfl,Ek,nd,pF,SK,XI,tm,hy,g,kk⟩:=h
  have o9:((ks.map D.mr).length:Int)=(tb.length:Nat):=by rw[ia,tm.len]
  refine fN tm.lst ?_
  refine⟨by lia,by lia,?_⟩
  refine tE tb.length o9 (TgO (some (.lst (es.map D.int))) (some (.lst (ts.map (ju es)))) (some (.int a)) (some (.mr j)) (some y) tb.length μ) (.mk 0 tb.length none none rfl (eX _)) ?_ ?_
  .intro d ua ρ gq hI
   cases hI with|mk k c u v e Lm=>?_
   refine⟨trivial,λnx rb=>?_⟩
   cases c with
   |zero=>cases e
   | succ c =>
    rw[iY]at e
    cases e
    obtain⟨p,r,IQ,_,ap,lp⟩:=tm.get (t:=k) (by lia)
    have gr:=g.row k r IQ
    have hrl:=gr.ok.len
    refine fN tm.lst (fN ap ⟨es,ts,r,rfl,rfl,pF,Ek,lp,gr,?_⟩)
    apply by_c
    .intro rest
     refine kq (c:=(0:Int)<k) (λk1=>?_) (λ_=>?_)
     .obtain⟨p0,r0,hr0,_,UE,Xw⟩:=tm.get (t:=k - 1) (by lia)
      rw[show((k - 1:Nat):Int)=(k:Int) - 1 by lia]at UE
      refine fN tm.lst (fN ap (fN tm.lst (fN UE ⟨r,r0,lp,Xw,by lia,g.up (k - 1) r r0 (by rw[show k - 1+1=k by lia];exact IQ) hr0,?_⟩)))
      exact rest ()
     .exact rest ()
    have eN:((k:Int)*(if(decide (0<a))=true then 1 else 0))=((if 0<a then k else 0:Nat):Int):=by
     by_cases pa:0<a
     .simp[pa]
     .simp[pa]
    refine⟨(by unfold IL;by_cases pa:0<a<;>simp[pa]<;> lia),by rw[eN];split<;>lia,by rw[eN];split<;>lia,?_⟩
    refine tE _ eN (TgI (some (.lst (es.map D.int))) (some (.lst (ts.map (ju es)))) (some (.int a)) (some (.mr j)) (some y) (some (.int (k:Int))) (if 0<a then k else 0) μ) (.mk 0 _ v rfl (eX _)) ?_ ?_
    .intro d2 ds2 ou jb hI
     cases hI with|mk i c' w2 e2 IT=>?_
     refine⟨trivial,λnx2 OF=>?_⟩
     cases c' with
     |zero=>cases e2
     | succ c' =>
      rw[iY]at e2
      cases e2
      have pa:0<a:=by
       by_cases z:0<a
       .exact z
       .rw[aG z]at IT;lia
      rw[aF pa]at IT
      obtain⟨hll,Zn,j',ow,rfl,Ra⟩:=hy pa
      obtain⟨q1,f1,VT,_,a1,l1⟩:=Ra.get (t:=i) (by lia)
      obtain⟨q2,f2,VS,_,a2,l2⟩:=Ra.get (t:=k - i - 1) (by lia)
      rw[show((k - i - 1:Nat):Int)=(k:Int) - (i:Int) - 1 by lia]at a2
      refine fN tm.lst (fN ap (fN Ra.lst (fN a1 (fN Ra.lst (fN a2 ⟨es,r,f1,f2,rfl,pF,nd,lp,l1,l2,gr.ok,Zn f1 (kA VT),Zn f2 (kA VS),g.two pa k i r f1 f2 IQ (by lia) VT VS,?_⟩)))))
      exact OF _ _ (.mk (i+1) c' _ rfl (by rw[aF pa];lia))
    .intro ou jb hI
     cases hI with|mk i c' w2 e2 IT=>?_
     exact⟨trivial,rb _ _ (.mk (k+1) c _ _ rfl (by lia))⟩
  .intro ρ gq hI
   cases hI with|mk k c u v e Lm=>?_
   exact⟨trivial,.keep kk⟩
 .cases h
def KD (F:j5 K "_law_above" "_law_above" o3 f fd)(T:lM mg)  : gL P w K mg fK ku 1 f fd (pA o3) (iD wc):=by
 refine F.nA BO (λds μ Kd h=>by unfold wc at h;split at h <;> first | rfl | exact h.elim) (λje A fV s H E hr=>⟨_,(fO (lO bg rfl (iE rfl T.range (a1 (vt T (dv 0)))) (qT 4 BO.nd)
  (fY (jj (NL (iX (dv 1) (dv 4)) (iX (dv 3) (CG cv PySem.F.slot_list_index PySem.F.type_list_index SD JI (dv 0) (a1 (iX (dv 2) (dv 4))))))
  (fY (gv mS))
  hV)))
  (fY (gv mS))),λds μ Kd hm hl h=>?_⟩)
 unfold wc at h
 split at h
 .rename_i b x y z
  obtain⟨es,row,fi,se,rfl,pF,nd,ex,ey,ez,ok1,ok2,ok3,ab,kk⟩:=h
  have o9:((es.map D.int).length:Int)=(es.length:Nat):=by rw[ia]
  refine⟨by lia,by lia,?_⟩
  refine tE es.length o9 (AbO (some (.lst (es.map D.int))) (some (.mr x)) (some (.mr y)) (some (.mr z)) es.length μ) (.mk 0 es.length none rfl (eX _)) ?_ ?_
  .intro d ua ρ gq hI
   cases hI with|mk k c u e Lm=>?_
   refine⟨trivial,λnx rb=>?_⟩
   cases c with
   |zero=>cases e
   | succ c =>
    rw[iY]at e
    cases e
    obtain⟨p,hp⟩:∃ p,row[k]?=some p:=⟨_,iM (by rw[ok1.len];lia)⟩
    obtain⟨m,Ur⟩:∃ m,fi[k]?=some m:=⟨_,iM (by rw[ok2.len];lia)⟩
    have OG:=ok2.mem m (kA Ur)
    have a1:lB (row.map D.int) (k:Int)=some (.int p):=iZ hp
    have a2:lB (fi.map D.int) (k:Int)=some (.int m):=iZ Ur
    have a3:lB (se.map D.int) ((es.idxOf m:Nat):Int)=some (.int (rowAt es se m)):=iZ (lV ok3 OG)
    refine fN ex (fN a1 ⟨rfl,?_⟩)
    refine fN ey (fN a2 ⟨es,es.idxOf m,rfl,mQ OG,HX nd OG,?_⟩)
    refine fN ez (fN a3 ?_)
    exact kq (c:=p<rowAt es se m) (λlt=>absurd lt (Int.not_lt.mpr (ab k p m hp Ur))) (λ_=>rb _ _ (.mk (k+1) c _ rfl (by lia)))
  .intro ρ gq hI
   cases hI with|mk k c u e Lm=>?_
   exact⟨trivial,.keep kk⟩
 .cases h
def B4 (F:j5 K "_law_row_good" "_law_row_good" kR f fd)(T:lM mg)  : gL P w K mg fK ku 1 f fd (pA kR) (iD Gm):=by
 refine F.nA lg (λds μ Kd h=>by unfold Gm at h;split at h <;> first | rfl | exact h.elim) (λje A fV s H E hr=>⟨_,(fO (jj (PW.pt (pS (mG (ij (qv (T := "list") (by simp) (by rfl) T.isinstance (by rfl) T.list bC (dv 3)))) (nK (NK (vt T (dv 3)) (vt T (dv 0))))))
  (fY (gv mS))
  hV)
  (fO (qS 4 lg.nd fT)
  (fO (lO bg rfl (iE rfl T.range (a1 (vt T (dv 3)))) (qT 5 lg.nd)
  (fO (jj (PW.pt (pS (ij (qv (T:= "bool") (by simp) (by rfl) T.isinstance (by rfl) T.bool cI (iX (dv 3) (dv 5)))) (nK (mf KJ Ff (iX (dv 3) (dv 5)) (dv 0) (by with_unfolding_all rfl)))))
  (fY (gv mS))
  hV)
  (fO (jj (NL (iX (dv 3) (dv 5)) (oM (Om rfl) zO (by rfl) T.max cL (a2 (iX (dv 0) (dv 5)) (dv 4))))
  (fY (gv mS))
  hV)
  (fO (qS 4 lg.nd (iX (dv 3) (dv 5)))
  (fY (lO bg rfl (jN (dv 1)) ⟨(g9 (n:=2) rfl (fS (qN 6 lg.nd) (fS (qN 7 lg.nd) gF))),(iO (gc (gb 6) (fL 6) (gc (gb 7) (fL 7) iP fW) (fP (fL 7) fW))),(iz (fP (fL 6) (fP (fL 7) fW)))⟩
  (fY (jj (PW.pt (uU (MJ (dv 6) (dv 2)) (p7 (NL (iX (dv 3) (dv 5)) (iX (dv 7) (dv 5))))))
  (fY (gv mS))
  hV))))))))
  (fY (gv mS))))),λds μ Kd hm hl h=>?_⟩)
 unfold Gm at h
 split at h
 .rename_i b f a k0
  obtain⟨es,ts,row,rfl,rfl,pF,Ek,lk,g,kk⟩:=h
  have hle:=g.ok.len
  have o9:((row.map D.int).length:Int)=(row.length:Nat):=by rw[ia]
  have ty:PB (.mr k0) μ=some "list":=zD (x:=.mr k0) lk
  refine fN ty ?_
  rw[Ap]
  refine fN lk ?_
  refine yT (c:=((row.map D.int).length:Int)=(es.map D.int).length) (λq=>absurd (by rw[ia,ia,hle]) q) (λ_=>?_)
  refine fN lk ?_
  refine⟨by lia,by lia,?_⟩
  refine tE row.length o9 (RgO (some (.lst (es.map D.int))) (some (.lst (ts.map (ju es)))) (some (.int a)) (some (.mr k0)) row μ) (.mk 0 row.length 0 none none none rfl (eX _) λx hx=>?_) ?_ ?_
  .obtain⟨e,he⟩:∃ e,es[0]?=some e:=⟨_,iM (by rw[<- hle];exact(ka hx).1)⟩
   exact bB (Ek e (kA he)) (g.ge 0 x e hx he)
  .intro d ua ρ gq hI
   cases hI with|mk i c l u v w' e IT ll=>?_
   refine⟨trivial,λnx rb=>?_⟩
   cases c with
   |zero=>cases e
   | succ c =>
    rw[iY]at e
    cases e
    obtain⟨x,hx⟩:∃ x,row[i]?=some x:=⟨_,iM (by lia)⟩
    obtain⟨e,he⟩:∃ e,es[i]?=some e:=⟨_,iM (by lia)⟩
    have ax:lB (row.map D.int) (i:Int)=some (.int x):=iZ hx
    have ae:lB (es.map D.int) (i:Int)=some (.int e):=iZ he
    have xm:=g.ok.mem x (kA hx)
    refine fN lk (fN ax ?_)
    refine fN (show PB (.int x) _=some "int" from rfl) ?_
    rw[Sv]
    refine fN lk (fN ax ⟨rfl,Cw es,?_⟩)
    rw[GZ]
    refine yT (λnm=>absurd xm nm) (λ_=>?_)
    refine fN lk (fN ax (fN ae ?_))
    have h1:=g.ge i x e hx he
    have h2:=ll x hx
    refine kq (c:=x<max e l) (λlt=>absurd lt (by lia)) (λ_=>?_)
    refine fN lk (fN ax ?_)
    refine i9 (RgI (some (.lst (es.map D.int))) (some (.lst (ts.map (ju es)))) (some (.int a)) (some (.mr k0)) (some (.int x)) (some (.int i)) es ts μ) (.mk ts _ _ rfl λ_ h=>h) ?_ ?_
    .intro d2 ds2 ou jb hI
     cases hI with|mk us v2 w2 e2 SH=>?_
     refine⟨trivial,λnx2 OF=>?_⟩
     cases us with
     |nil=>cases e2
     | cons t us =>
      cases e2
      refine⟨rfl,?_⟩
      have af:lB ((sG es t).map D.int) (i:Int)=some (.int (jd es t.1 e)):=iZ (by unfold sG;rw[nF,he];rfl)
      have sub:=λu hu=>SH u (nE t hu)
      refine kq (c:=t.2<=a) (λha=>?_) (λ_=>OF _ _ (.mk us _ _ rfl sub))
      refine fN lk (fN ax (fN af ?_))
      exact kq (c:=x<jd es t.1 e) (λlt=>absurd lt (Int.not_lt.mpr (g.QH i x e hx he t (SH t aH) ha))) (λ_=>OF _ _ (.mk us _ _ rfl sub))
    .intro ou jb hI
     cases hI with|mk us v2 w2 e2 SH=>?_
     exact⟨trivial,rb _ _ (.mk (i+1) c x _ _ _ rfl (by lia) λy hy=>g.up i (i+1) x y (dr i) hx hy)⟩
  .intro ρ gq hI
   cases hI with|mk i c l u v w' e IT ll=>?_
   exact⟨trivial,.keep kk⟩
 .cases h
def B7 (F:j5 K "few_rows" "few_rows" kS f fd)(T:lM mg)(oO:qV P w K mg fK)(Pr:GN P w K mg fK):gL P w K mg fK ku 2 f fd (pA kS) (iD tJ):=by
 refine F.nA jF (λds μ Kd h=>by unfold tJ at h;split at h <;> first | rfl | exact h.elim) (λje A fV s H E hr=>⟨_,(fO (qS 3 jF.nd (mw true iG))
  (fO (qS 4 jF.nd (OU rfl (by rfl) T.list (by rfl) T.range (a1 (vt T (dv 0)))))
  (fO (lO bg rfl (iE rfl T.range (a1 (dv 2))) (qT 5 jF.nd)
  (fO (qS 6 jF.nd (oM (YO rfl) Rl (by rfl) T.min dF (a2 (dv 5) (Bu (qC oO hr (a1 (dv 0))) fT))))
  (fO (Xq 4 false jF.nd (tT (N:=["row","behind","enough"]) (js:=[none,none,some 6]) jF (by decide +kernel)) (iO (gc (gb 0) (fL 0) (gc (gb 1) (fL 1) iP fW) (fP (fL 1) fW))) (iz (fP (fL 0) (fP (fL 1) fW))) (Co rfl T.zip (a2 (dv 1) (dv 4))) (λ_ _ _ nd=>(g9 (n:=2) rfl (fS (qN 0 nd) (fS (qN 1 nd) gF)))) (λ_ _ _=>iI) (λ_ _ _=>(qC Pr hr (a3 (dv 0) (dv 1) (dv 2)))))
  (fY (uq (CG cv d8 d7 A1 uo (dv 3) (a1 (Dn true (tT (N:=["behind","places"]) (js:=[none,some 0]) jF (by decide +kernel)) (jN (dv 4)) (λ_ _ _ nd=>(qN 0 nd)) (λ_ _ _=>iI) (λ_ _ _=>(iX (dv 1) (dv 0)))))))))))
  (fY (gv (dv 3)))))),λds μ Kd hm hl h=>?_⟩)
 unfold tJ at h
 split at h
 .rename_i p t m
  obtain⟨es,P,rfl,rfl,hL,hL2,o,Zl,OH,kk⟩:=h
  have o9:((es.map D.int).length:Int)=(es.length:Int):=by rw[ia]
  refine⟨zs,?_⟩
  refine⟨by lia,by lia,?_⟩
  rw[o9,yh]
  refine⟨by lia,by lia,?_⟩
  refine i9 (FrO (some (.lst (es.map D.int))) (some (.lst (kG es.length P))) (some (.int m)) (some (.mr μ.length)) es P m.toNat μ) ?_ ?_ ?_
  .rw[bA]
   exact .mk 0 m.toNat [.lst []] [] none none rfl (eX _) ⟨rfl,kN,λt k r e=>(by simp at e),aw _,λk hk=>nomatch hk⟩
  .intro d ua ρ gq hI
   cases hI with|mk i c g ks u v e IT tm=>?_
   refine⟨trivial,λnx rb=>?_⟩
   cases c with
   |zero=>cases e
   | succ c =>
    rw[iY]at e
    cases e
    refine⟨by rw[ia];exact hL2,?_⟩
    have eq:min (i:Int) (((es.map D.int).length:Int) - 1 - 1)=vH es.length i:=by rw[o9];unfold vH;lia
    refine⟨by rw[bG,mY,ia,pW];exact sz (by lia),?_⟩
    unfold kG
    rw[Bw]
    refine jT ⟨trivial,trivial⟩ (λx:Nat=>D.tup [.lst (jR es.length (P x)),.int (QZ es.length P i x:Nat)]) (λx=>D.int (QZ es.length P (i+1) x:Nat)) (λx hx K' k'=>?_) ?_
    .rw[cf]at hx
     have b:=Mm o hL i hx
     refine⟨rfl,es.length,P x,QZ es.length P i x,rfl,hL2,rfl,b.1,λu v h1 h2=>o.mj x u v hx h1 h2,by rw[eq];exact b.2,?_⟩
     rw[eq]
     exact k'
    refine⟨uB tm.lst,?_⟩
    refine⟨by rw[ia,pW];exact sz (by lia),?_⟩
    refine jT trivial (λx:Nat=>D.int (QZ es.length P (i+1) x:Nat)) (λx=>D.int (es.getD (QZ es.length P (i+1) x) 0)) (λx hx K' k'=>?_) ?_
    .rw[cf]at hx
     exact fN (iZ (g:=D.int) (getD_some (Mm o hL (i+1) hx).1)) k'
    obtain⟨g',eg,Ra⟩:=tm.push (rV es P (vH es.length i))
    rw[<- Hi]at Ra
    refine fN (o8 tm.lst) ⟨by rw[ia,tm.len,Jz];exact Xo (by lia),?_⟩
    unfold rV at eg
    rw[bA]at eg
    refine(show ∀ gq,gq=μ++g'->_ from λgq e=>?_) _ eg
    subst e
    exact rb _ _ (.mk (i+1) c g' (ks++[(μ++g).length]) _ _ rfl (by lia) Ra)
  .intro ρ gq hI
   cases hI with|mk i c g ks u v e IT tm=>?_
   cases c with
   |succ c=>rw[iY]at e;cases e
   | zero =>
    have:i=m.toNat:=by lia
    subst this
    exact⟨trivial,.keep (kk _ ks g tm)⟩
 .cases h
def yb (F:j5 K "few_tables" "few_tables" jL f fd)(T:lM mg)(k9:pB P w K mg fK)(ke:my P w K mg fK)(Bg:tR P w K mg fK)(sv:sq P w K mg fK)(Bd:tQ P w K mg fK)(qE:qy P w K mg fK):gL P w K mg fK ku 4 f fd (pA jL) (iD tI):=by
 refine F.nA hU (λds μ Kd h=>by unfold tI at h;split at h <;> first | rfl | exact h.elim) (λje A fV s H E hr=>⟨_,(fO (qS 4 hU.nd (qC k9 hr (a2 (dv 0) (dv 1))))
  (fO (qS 5 hU.nd (qC ke hr (a3 (dv 0) (dv 1) (dv 2))))
  (fO (Xq 6 false hU.nd (tT (N:=["text","old"]) (js:=[none,none]) hU (by decide +kernel)) (iO (gc (gb 0) (fL 0) (gc (gb 1) (fL 1) iP fW) (fP (fL 1) fW))) (iz (fP (fL 0) (fP (fL 1) fW))) (jN (dv 2)) (λ_ _ _ nd=>(g9 (n:=2) rfl (fS (qN 0 nd) (fS (qN 1 nd) gF)))) (λ_ _ _=>iI) (λ_ _ _=>(dv 1)))
  (fO (qS 7 hU.nd (qC Bg hr (a1 (dv 4))))
  (fO (qS 8 hU.nd mS)
  (fO (qS 9 hU.nd Tr)
  (fO (lO bg rfl (sX rfl T.range (a2 (oM (Vv rfl) Nt (by rfl) T.min dF (a3 (qC sv hr (a1 (dv 2))) fT (dv 3))) (pI (dv 3) fT))) (qT 10 hU.nd)
  (zq (jj (PW.pt (pS (ij (dv 8)) (nK (mf inC Ff (dv 10) (dv 6) (by with_unfolding_all rfl)))))
  (fO (qS 11 hU.nd (dv 7))
  (fO (qS 7 hU.nd (qC Bd hr (a3 (dv 4) (qC qE hr (a3 (dv 4) (dv 5) (dv 10))) (dv 11))))
  (fY (qS 8 hU.nd (qw (KO (n:=4) (Pz hr (by decide))) JJ (dv 7) (dv 11) (iQ _))))))
  hV)
  (fY (Rx (rE hr) (dv 7) (dv 9) (dv 10)))))
  (fY (gv (dv 9)))))))))),λds μ Kd hm hl h=>?_⟩)
 unfold tI at h
 split at h
 .rename_i n x y a
  obtain⟨cs,ts,rfl,rfl,S,a0,a1,kk⟩:=h
  have mD:=S.mD
  have ft:=S.takes.mD
  have pF:(fI n cs).length=cs.length+2:=gw n cs
  refine⟨cs,rfl,mD,cs,ts,rfl,rfl,S,?_⟩
  refine⟨sz (by rw[ia];lia),?_⟩
  refine jT trivial ny (λt=>D.int t.2) (λt ht K' k'=>⟨rfl,k'⟩) ?_
  have Wf:ts.map (λt=>D.int t.2)=(ts.map (·.2)).map D.int:=by rw[bA];rfl
  rw[Wf]
  refine⟨by rw[ia];lia,?_⟩
  rw[ia]
  have fs:=Ik S
  obtain⟨es,he⟩:∃ es,es=fI n cs:=⟨_,rfl⟩
  rw[<- he]at kk pF fs ⊢
  refine⟨ts,rfl,by lia,?_⟩
  have yn:=BA S.takes
  have ym:min (kP ts) (min 0 a)=0:=by lia
  refine⟨⟨by lia,by lia,by lia,by lia⟩,?_⟩
  rw[ym]
  refine i9 (FtO (some (.int n)) (some (.lst (cs.map D.int))) (some (.lst (ts.map ny))) (some (.int a)) (some (.lst (es.map D.int))) (some (.lst (ts.map (ju es)))) (some (.lst ((ts.map (·.2)).map D.int))) es ts a μ) (.mk 0 (a+1).toNat false none none (by rw[Int.sub_zero];rfl) (by lia) λ_=>fs) ?_ ?_
  .intro d ua ρ gq hI
   cases hI with|mk k c ch u v e Lm FU=>?_
   refine⟨trivial,λnx rb=>?_⟩
   cases c with
   |zero=>cases e
   | succ c =>
    rw[iY]at e
    cases e
    refine⟨λkF gq=>∃(XT:Bool) (v':av D),(XT=false->∀ i j,i<es.length->j<es.length->iH es.length es (jc es ts (((k+1:Nat):Int) - 1)) (fZ es ts (k+1)) i j=fZ es ts (k+1) i j)/\kF=[some (.int n),some (.lst (cs.map D.int)),some (.lst (ts.map ny)),some (.int a),some (.lst (es.map D.int)),some (.lst (ts.map (ju es))),some (.lst ((ts.map (·.2)).map D.int)),some (.lst (kG es.length (fZ es ts (k+1)))),some (.bl XT),some (.mr μ.length),some (.int (k:Int)),v']/\gq=μ++[.jX (mI k) (nJ es ts k)],?_,?_⟩
    .refine Vh (i:=8) (j:=10) (k:=6) ch (k:Int) (ts.map (·.2)) rfl rfl rfl λb hb=>?_
     refine Su (b:=b) (λhbT=>?_) (λhbF=>?_)
     .refine⟨es,ts,rfl,rfl,by lia,by lia,?_⟩
      refine⟨es,jc es ts k,fZ es ts k,rfl,rfl,(wY _ _ _).len,by lia,rfl,?_⟩
      refine⟨yH (Fg _ _ (by lia)),yH (Fg _ _ (by lia)),rfl,?_⟩
      refine⟨_,_,λhf=>Cy (OS ?_),rfl,rfl⟩
      exact(show ∀ b:Bool,(true != b)=false->b=true by decide) _ hf
     .obtain⟨h1,h2⟩:=hb hbF
      have fx:=Ly (FU h1) λt ht et=>h2 (by rw[<- et];exact List.mem_map_of_mem ht)
      rw[Jy fx]
      refine⟨ch,_,λ_=>Cy fx,rfl,rfl⟩
    .rintro kF gq ⟨XT,v',ZJ,rfl,rfl⟩
     refine⟨_,_,(by rw[rF (aw _),a8];rfl),Xo (by unfold mI;rw[ia,pW];lia),K5 k,?_⟩
     rw[vE,<- Eg,<- Dx]
     exact rb _ _ (.mk (k+1) c XT _ _ rfl (by lia) ZJ)
  .intro ρ gq hI
   cases hI with|mk k c ch u v e Lm FU=>?_
   refine⟨trivial,?_⟩
   cases c with
   |succ c=>rw[iY]at e;cases e
   | zero =>
    have hk:k=a.toNat+1:=by lia
    subst hk
    refine Fz.jX (aw _) (by rw[rF (aw _),a8];rfl) (xb λd hd=>by obtain⟨i,_,rfl⟩:=List.mem_map.mp hd;exact Oi _ _) (Aa hm) ?_
    rw[cZ]
    exact kk
 .cases h
def Ae (F:j5 K "clean_row" "clean_row" j9 f fd)(T:lM mg)  : gL P w K mg fK ku 1 f fd (pA j9) (iD qP):=by
 refine F.nA ki (λds μ Kd h=>by unfold qP at h;split at h <;> first | rfl | exact h.elim) (λje A fV s H E hr=>⟨_,(fO (qS 3 ki.nd (Io Cj (vD (m:=false)) (by rfl) T.list bC (a1 (dv 0))))
  (fO (lO bg rfl (jN (dv 1)) ⟨(g9 (n:=2) rfl (fS (qN 4 ki.nd) (fS (qN 5 ki.nd) gF))),(iO (gc (gb 4) (fL 4) (gc (gb 5) (fL 5) iP fW) (fP (fL 5) fW))),(iz (fP (fL 4) (fP (fL 5) fW)))⟩
  (fY (jj (MJ (dv 4) (dv 2))
  (fY (Xq 3 false ki.nd (tT (N:=["far","other"]) (js:=[none,none]) ki (by decide +kernel)) (iO (gc (gb 0) (fL 0) (gc (gb 1) (fL 1) iP fW) (fP (fL 1) fW))) (iz (fP (fL 0) (fP (fL 1) fW))) (Co rfl T.zip (a2 (dv 3) (dv 5))) (λ_ _ _ nd=>(g9 (n:=2) rfl (fS (qN 0 nd) (fS (qN 1 nd) gF)))) (λ_ _ _=>iI) (λ_ _ _=>(oM (Om rfl) zO (by rfl) T.max cL (a2 (dv 0) (dv 1))))))
  hV)))
  (fY (gv (dv 3))))),λds μ Kd hm hl h=>?_⟩)
 unfold qP at h
 split at h
 .rename_i x r a
  obtain⟨es,ts,ex,rfl,pF,XB,kk⟩:=h
  refine fN ex ?_
  refine i9 (CrO (some x) (some (.lst (ts.map (ju es)))) (some (.int a)) es ts a μ) (.mk ts es none none rfl (Ma es ts a) pF) ?_ ?_
  .intro d ua ρ gq hI
   cases hI with|mk us tl u v e hf oJ=>?_
   refine⟨trivial,λnx rb=>?_⟩
   cases us with
   |nil=>cases e
   | cons t us =>
    cases e
    refine⟨rfl,?_⟩
    rw[c5]at hf
    refine kq (λg=>?_) (λg=>?_)
    .unfold si at hf
     rw[aF g]at hf
     have lr:(sG es t).length=es.length:=by unfold sG;rw[ia]
     refine⟨by rw[bG,ia,ia];exact sz (by lia),?_⟩
     refine iR ⟨trivial,trivial⟩ (D8 λa b=>.int (max a b)) (λd hd K' k'=>?_) ?_
     .obtain⟨p,hp,q,hq,rfl⟩:=zz hd
      exact⟨rfl,k'⟩
     .rw[Az,<- zy D.int max]
      exact rb _ _ (.mk us (List.zipWith max tl (sG es t)) _ _ rfl hf (by rw[bG];lia))
    .unfold si at hf
     rw[aG g]at hf
     exact rb _ _ (.mk us tl _ _ rfl hf oJ)
  .intro ρ gq hI
   cases hI with|mk us tl u v e hf oJ=>?_
   cases us with
   | nil =>
    refine⟨trivial,.keep ?_⟩
    rw[show jc es ts a=tl from hf.symm]at kk
    exact kk
   |cons t us=>cases e
 .cases h
def x9 (F:j5 K "next_table" "next_table" jr f fd)(T:lM mg)(oO:qV P w K mg fK)(vA:pL P w K mg fK):gL P w K mg fK ku 2 f fd (pA jr) (iD tG):=by
 refine F.nA iS (λds μ Kd h=>by unfold tG at h;split at h <;> first | rfl | exact h.elim) (λje A fV s H E hr=>⟨_,(fO (qS 3 iS.nd (Dn false (tT (N:=["at","before"]) (js:=[none,some 2]) iS (by decide +kernel)) (iE rfl T.range (a1 (vt T (dv 2)))) (λ_ _ _ nd=>(qN 0 nd)) (λ_ _ _=>iI) (λ_ _ _=>(Dn false (wt (xsc:=(fR jr)) (N:=["row","at"]) (js:=[none,some 0]) rfl (by decide +kernel)) (jN (dv 1)) (λ_ _ _ nd=>(qN 0 nd)) (λ_ _ _=>iI) (λ_ _ _=>(iX (dv 0) (dv 1)))))))
  (fO (qS 4 iS.nd (qC oO hr (a1 (dv 0))))
  (fO (qS 5 iS.nd (mw true iG))
  (fO (lO bg rfl (OA rfl T.enumerate rfl T.zip (a2 (dv 2) (dv 1))) ⟨(g9 (n:=2) rfl (fS (qN 6 iS.nd) (fS (g9 (n:=2) rfl (fS (qN 7 iS.nd) (fS (qN 8 iS.nd) gF))) gF))),(iO (gc (gb 6) (fL 6) (gc (iO (gc (gb 7) (fL 7) (gc (gb 8) (fL 8) iP fW) (fP (fL 8) fW))) (iz (fP (fL 7) (fP (fL 8) fW))) iP fW) (fP (iz (fP (fL 7) (fP (fL 8) fW))) fW))),(iz (fP (fL 6) (fP (iz (fP (fL 7) (fP (fL 8) fW))) fW)))⟩
  (fY (uq (CG cv d8 d7 A1 uo (dv 5) (a1 (IW false (tT (N:=["behind","end","far","row","first","columns","none"]) (js:=[none,none,some 8,some 7,some 6,some 3,some 4]) iS (by decide +kernel)) (iO (gc (gb 0) (fL 0) (gc (gb 1) (fL 1) iP fW) (fP (fL 1) fW))) (iz (fP (fL 0) (fP (fL 1) fW))) (Ar rfl T.enumerate (a1 (dv 0))) (λ_ _ _ nd=>(g9 (n:=2) rfl (fS (qN 0 nd) (fS (qN 1 nd) gF)))) (λ_ _ _=>iI) (λ_ _ _=>(L1 (MJ (dv 1) (dv 2)) fT (qC vA hr (a3 (mR false (dv 3) (lW (pI (dv 4) fT)) (lW (dv 0))) (mR false (iX (dv 5) (dv 0)) (lW (pI (dv 4) fT)) (lW (dv 0))) (dv 6)))))))))))
  (fY (gv (dv 5))))))),λds μ Kd hm hl h=>?_⟩)
 unfold tG at h
 split at h
 .rename_i b c l
  obtain⟨es,own,P,rfl,rfl,Uo,pF,rfl,kk⟩:=h
  obtain⟨L,hL⟩:∃ L,L=es.length:=⟨_,rfl⟩
  rw[<- hL]at Uo pF kk ⊢
  refine⟨by rw[mY];lia,by rw[mY];lia,?_⟩
  rw[mY,yh]
  refine⟨sz (by rw[iJ];lia),?_⟩
  refine jT trivial (λj:Nat=>D.int (0+(j:Nat))) (λj=>D.lst (jR L λi=>P i j)) (λj hj K' k'=>?_) ?_
  .rw[cf]at hj
   refine⟨sz (by rw[mY];lia),?_⟩
   refine jT trivial (λi:Nat=>D.lst (jR L (P i))) (λi=>D.int (P i j)) (λi hi K' k'=>?_) k'
   have a1:lB (jR L (P i)) (0+(j:Nat):Int)=some (.int (P i j)):=by rw[Int.zero_add];exact kO (ng hj)
   exact fN a1 k'
  refine⟨by rw[ia];lia,?_⟩
  rw[ia,<- hL]
  refine⟨zs,?_⟩
  obtain⟨Q,hQ⟩:∃ Q,Q=iH L es own P:=⟨_,rfl⟩
  rw[<- hQ]at kk
  refine i9 (NtO (some (.lst (es.map D.int))) (some (.lst (own.map D.int))) (some (.lst (kG L P))) (some (.lst ((List.range L).map λj=>D.lst (jR L λi=>P i j)))) (some (.int ((L:Int) - 1))) L P Q own μ) (.mk 0 none none none (bh _) (LL Uo) rfl) ?_ ?_
  .intro d ua ρ gq hI
   cases hI with|mk k u v w hk e ht=>?_
   subst ht
   refine⟨⟨trivial,trivial⟩,λnx rb=>?_⟩
   have hi:k<(List.range L).length:=by
    by_cases q:k<(List.range L).length
    .exact q
    .rw[bX (by lia)]at e;cases e
   have hkL:k<L:=by rwa [pW]at hi
   rw[bU hi,List.getElem_range]at e
   cases e
   refine⟨rfl,rfl,?_⟩
   refine⟨uB kN,?_⟩
   refine⟨by rw[mW,ia];exact sz (by lia),?_⟩
   rw[OP,<- hL]
   refine jT trivial (λj:Nat=>D.tup [.int (j:Nat),.int (es.getD j 0)]) (λj=>D.int (Q k j)) (λj hj K' k'=>?_) ?_
   .rw[cf]at hj
    refine⟨rfl,?_⟩
    have eQ:Q k j=if es.getD j 0<=own.getD k 0 then 0 else(mJ P k j).foldl min ((L:Int) - 1):=by rw[hQ];rfl
    refine kq (c:=es.getD j 0<=own.getD k 0) (λq=>?_) (λq=>?_)
    .rw[aF q]at eQ;rw[eQ]at k';exact k'
    .rw[aG q]at eQ;rw[eQ]at k'
     have ac:lB ((List.range L).map λj=>D.lst (jR L λi=>P i j)) (j:Int)=some (.lst (jR L λi=>P i j)):=xJ (g:=λj=>D.lst (jR L λi=>P i j)) (ba hj)
     refine fN ac ?_
     refine⟨(List.range (j - (k+1))).map λx=>P k (k+1+x),(List.range (j - (k+1))).map λx=>P (k+1+x) j,?_,?_,?_,?_,?_⟩
     .rw[CH (by lia),bA];rfl
     .rw[CH (by lia),bA];rfl
     .rw[ia,pW];lia
     .rw[ia,pW];lia
     .rw[Ji (L:=L)];exact k'
   .refine fN kN ⟨Xo (by rw[ia,pW];lia),?_⟩
    rw[vE]
    exact rb _ _ (.mk (k+1) _ _ _ (by lia) rfl (by rw[Hh];rfl))
  .intro ρ gq hI
   cases hI with|mk k u v w hk e ht=>?_
   subst ht
   refine⟨⟨trivial,trivial⟩,?_⟩
   have hkL:k=L:=by
    have:=cH List.length e
    rw[ia,bO,pW]at this
    simp at this
    lia
   subst hkL
   refine Fz.lst (aw _) (jA kN) (Oh _ _ _) (Aa hm) ?_
   rw[cZ]
   exact kk
 .cases h
def Kw (F:j5 K "_law_whole" "_law_whole" oW f fd)(T:lM mg)  : gL P w K mg fK ku 1 f fd (pA oW) (iD vS):=by
 refine F.nA JL (λds μ Kd h=>by unfold vS at h;split at h<;>first|rfl|exact h.elim) (λje A fV s H E hr=>⟨_,(fY (gv (QR (qv (T:= "int") (by simp) (by rfl) T.isinstance (by rfl) T.int cD (dv 0)) (GG (Wo (qv (T:= "bool") (by simp) (by rfl) T.isinstance (by rfl) T.bool cI (dv 0))))))),λds μ Kd hm hl h=>?_⟩)
 unfold vS at h
 split at h
 .rename_i d
  obtain⟨t,rfl,kk⟩:=h
  refine fN (Jp t _) ?_
  cases t with
  |num _=>exact .keep kk
  |uc _ _ _=>exact .keep kk
 .cases h
def B6 (n:Nat){f:ao}{fd:aj}(F:j5 K "_law_form" "_law_form" rQ f fd)(T:lM mg)(qX:AW P w K mg fK)(Bf:mM P w K mg fK "_law_form" (n+1) ["_law_make"] (iD (Ti yU n))):gL P w K mg fK ku (n+2) f fd ["_law_make"] (iD (yU n)):=by
 refine F.nA NB (λds μ Kd h=>by unfold yU at h;split at h <;> first | rfl | exact h.elim) (λje A fV s H E hr=>⟨_,(fO (jj (ij (qC qX hr (a1 (dv 0))))
  (fY (gv mS))
  hV)
  (fO (jj (PW.pt (pS (mG (ij (qv (T:= "tuple") (by simp) (by rfl) T.isinstance (by rfl) T.tuple c0 (dv 0)))) (pS (NK (vt T (dv 0)) fT) (nK (mG (ij (qC qX hr (a1 (iX (dv 0) fT)))))))))
  (fY (gv mS))
  hV)
  (fY (gv (QR (qC Bf hr (a1 (iX (dv 0) fT))) (GG (qC Bf hr (a1 (iX (dv 0) fT))))))))),λds μ Kd hm hl h=>?_⟩)
 unfold yU at h
 split at h
 .rename_i d
  obtain⟨t,rfl,hd,kk⟩:=h
  cases t with
  |num v=>exact⟨.num v,rfl,.keep kk⟩
  | uc p l r =>
   have IU:max l.dep r.dep+1<=n:=hd
   obtain⟨n,rfl⟩:∃ n',n=n'+1:=⟨n - 1,by lia⟩
   refine⟨.uc p l r,rfl,?_⟩
   refine⟨.num p,rfl,?_⟩
   exact⟨l,rfl,by lia,r,rfl,by lia,.keep kk⟩
 .cases h
def FF {f:ao}{fd:aj}(F:j5 K "_law_form" "_law_form" rQ f fd)(T:lM mg)(hm:mg "_law_form"=some (.ref f))(hk:W.keepIn K (.ref f)=true)(hb:Binds K fd ["_law_make"] [])(qX:AW P w K mg fK):∀ n,gL P w K mg fK ku (n+2) f fd ["_law_make"] (iD (yU n))
 |0=>B6 0 F T qX ⟨f,fd,⟨λ_ _ _ _ uE=>by obtain⟨_,_,_,_,_,_,h,_⟩:=uE;exact h.elim,λ_ _ _ _ _ _ _ _ _ _ _ _ _ r6=>by obtain⟨_,_,_,_,_,_,h,_⟩:=r6;exact h.elim⟩,hm,hk,hb⟩
 |n+1=>B6 (n+1) F T qX ⟨f,fd,FF F T hm hk hb qX n,hm,hk,hb⟩
def B5 (n:Nat){f:ao}{fd:aj}(F:j5 K "_law_made" "_law_made" rO f fd)(T:lM mg)(Be:mM P w K mg fK "_law_made" n ["_law_cuts_here","_law_takes","_law_make"] (iD (Ti uF n))):gL P w K mg fK ku (n+1) f fd ["_law_cuts_here","_law_takes","_law_make"] (iD (uF n)):=by
 refine F.nA zT (λds μ Kd h=>by unfold uF at h;split at h <;> first | rfl | exact h.elim) (λje A fV s H E hr=>⟨_,(fO (jj (ij (qv (T := "int") (by simp) (by rfl) T.isinstance (by rfl) T.int cD (dv 2)))
  (fO (jj (PW.pt (pS (NL (dv 2) fT) (nK (YE (dv 2) (vt T (dv 1))))))
  (fY (gv y7))
  hV)
  (fY (gv (iX (dv 1) (dv 2)))))
  hV)
  (fO (qS 3 zT.nd (qC Be hr (a3 (dv 0) (dv 1) (iX (dv 2) fT))))
  (fO (qS 4 zT.nd (qC Be hr (a3 (dv 0) (dv 1) (iX (dv 2) fT))))
  (fO (jj (PW.pt (pS (mf KJ Ff (iX (dv 2) fT) (dv 0) (by with_unfolding_all rfl)) (pS (JB (dv 3)) (nK (JB (dv 4))))))
  (fY (gv y7))
  hV)
  (fY (gv (nr (a2 (pI (mR false (iX (dv 3) fT) KH (lW (iX (dv 2) fT))) (mR false (iX (dv 4) fT) (lW (iX (dv 2) fT)) KH)) (pI (oM (Om rfl) zO (by rfl) T.max cL (a2 (iX (dv 3) fT) (iX (dv 4) fT))) fT))))))))),λds μ Kd hm hl h=>?_⟩)
 unfold uF at h
 split at h
 .rename_i c y d
  obtain⟨cs,ts,t,z,rfl,rfl,rfl,hd,ZF,hz,XA,kk⟩:=h
  refine fN (Jp t _) ?_
  cases t with
  | num k =>
   have kk:Kd (UL (if 0<=k then ts[k.toNat]? else none)) μ:=kk
   refine kq (c:=k<0) (λq=>?_) (λq0=>?_)
   .rw[aG (by lia)]at kk;exact .keep kk
   rw[aF (by lia)]at kk
   refine kq (c:=((ts.map ny).length:Int)<=k) (λq=>?_) (λq=>?_)
   .rw[ia]at q
    rw[fw (by lia)]at kk;exact .keep kk
   .rw[ia]at q
    have hx:ts[k.toNat]?=some ts[k.toNat]:=iM (by lia)
    have a1:lB (ts.map ny) k=some (ny ts[k.toNat]):=by have:=xJ (g:=ny) hx;rwa [cA (by lia)]at this
    rw[hx]at kk
    exact fN a1 (.keep kk)
  | uc p l r =>
   have IU:max l.dep r.dep+1<=n:=hd
   obtain⟨n,rfl⟩:∃ n',n=n'+1:=⟨n - 1,by lia⟩
   refine⟨cs,ts,l,z,rfl,rfl,rfl,by lia,ZF,hz,XA,?_⟩
   refine⟨cs,ts,r,z,rfl,rfl,rfl,by lia,ZF,hz,XA,?_⟩
   have kk:Kd (UL (match l.vo cs ts,r.vo cs ts with|some a,some b=>if p∈cs then some (rD a b p)else none|_,_=>none)) μ:=kk
   dsimp only
   refine xC ((true != decide (p∈cs))||((l.vo cs ts).isNone||(r.vo cs ts).isNone)) ?_ (λq=>?_) (λq=>?_)
   .refine .or (.M9 λK k=>⟨rfl,Cw cs,by rw[GZ];exact k⟩) λ_=>.or (.M9 λK k=>?_) λ_=>.M9 λK k=>?_
    .cases e:l.vo cs ts with
     |none=>rw[e]at k;exact k
     |some v=>rw[e]at k;exact k
    .cases e:r.vo cs ts with
     |none=>rw[e]at k;exact k
     |some v=>rw[e]at k;exact k
   .refine .keep (d:=.ic) ?_
    cases el:l.vo cs ts with
    |none=>rw[el]at kk;exact kk
    | some a =>
     cases er:r.vo cs ts with
     |none=>rw[el,er]at kk;exact kk
     | some b =>
      rw[el,er]at kk q
      have kk:Kd (UL (if p∈cs then some (rD a b p)else none)) μ:=kk
      rw[aG (λhp=>by rw[aJ hp]at q;cases q)]at kk
      exact kk
   .cases el:l.vo cs ts with
    |none=>rw[el]at q;simp at q
    | some a =>
     cases er:r.vo cs ts with
     |none=>rw[el,er]at q;simp at q
     | some b =>
      rw[el,er]at kk q
      have hp:p∈cs:=by
       by_cases hp:p∈cs
       .exact hp
       .rw[aS hp]at q;cases q
      have kk:Kd (UL (if p∈cs then some (rD a b p)else none)) μ:=kk
      rw[aF hp]at kk
      have vl:=(kZ.yz el).2▸kZ.oQ XA (kZ.yz el).1
      have vr:=(kZ.yz er).2▸kZ.oQ XA (kZ.yz er).1
      have wl:=vl.1
      have wr:=vr.1
      have p0:=ZF p hp
      have lz1:(txt a.1).length<=sizeLine:=by rw[kh];exact sz (by lia)
      have lz2:(txt b.1).length<=sizeLine:=by rw[kh];exact sz (by lia)
      have c1:=wq a.1 none (some p)
      have c2:=wq b.1 (some p) none
      refine⟨lz1,lz2,?_,zs,.keep ?_⟩
      .show(txt (kX a.1 none (some p))).length+(txt (kX b.1 (some p) none)).length<=sizeLine
       rw[kh,kh];exact sz (by lia)
      .show Kd (.tup [.str (txt (kX a.1 none (some p))++txt (kX b.1 (some p) none)),.int (max a.2 b.2+1)]) μ
       rw[pC,GI p0,zc p0]
       exact kk
 .cases h
def FE {f:ao}{fd:aj}(F:j5 K "_law_made" "_law_made" rO f fd)(T:lM mg)(hm:mg "_law_made"=some (.ref f))(hk:W.keepIn K (.ref f)=true)(hb:Binds K fd ["_law_cuts_here","_law_takes","_law_make"] []):∀ n,gL P w K mg fK ku (n+1) f fd ["_law_cuts_here","_law_takes","_law_make"] (iD (uF n))
 |0=>B5 0 F T ⟨f,fd,⟨λ_ _ _ _ q9=>by obtain⟨_,_,_,_,_,_,h,_⟩:=q9;exact h.elim,λ_ _ _ _ _ _ _ _ _ _ _ _ _ qo=>by obtain⟨_,_,_,_,_,_,h,_⟩:=qo;exact h.elim⟩,hm,hk,hb⟩
 |n+1=>B5 (n+1) F T ⟨f,fd,FE F T hm hk hb n,hm,hk,hb⟩
def xa (n:Nat){f:ao}{fd:aj}(F:j5 K "_law_tuples" "_law_tuples" m4 f fd)(T:lM mg)(tW:mM P w K mg fK "_law_tuples" n ["_law_make"] (iD (Ti oK n))):gL P w K mg fK ku (n+1) f fd ["_law_make"] (iD (oK n)):=by
 refine F.nA Ho (λds μ Kd h=>by unfold oK at h;split at h<;>first|rfl|exact h.elim) (λje A fV s H E hr=>⟨_,(fY (gv (L1 (ij (qv (T:= "int") (by simp) (by rfl) T.isinstance (by rfl) T.int cD (dv 0))) fT (pI (pI fT (qC tW hr (a1 (iX (dv 0) fT)))) (qC tW hr (a1 (iX (dv 0) fT))))))),λds μ Kd hm hl h=>?_⟩)
 unfold oK at h
 split at h
 .rename_i d
  obtain⟨t,rfl,hd,kk⟩:=h
  refine fN (Jp t _) ?_
  cases t with
  |num _=>exact .keep kk
  | uc p l r =>
   have IU:max l.dep r.dep+1<=n:=hd
   obtain⟨n,rfl⟩:∃ n',n=n'+1:=⟨n - 1,by lia⟩
   refine⟨l,rfl,by lia,r,rfl,by lia,.keep ?_⟩
   have kk':Kd (.int (((l.cnt+r.cnt:Nat):Int) - 1)) μ:=kk
   rw[show((l.cnt+r.cnt:Nat):Int) - 1=1+((l.cnt:Int) - 1)+((r.cnt:Int) - 1) by lia]at kk'
   exact kk'
 .cases h
def yN {f:ao}{fd:aj}(F:j5 K "_law_tuples" "_law_tuples" m4 f fd)(T:lM mg)(hm:mg "_law_tuples"=some (.ref f))(hk:W.keepIn K (.ref f)=true)(hb:Binds K fd ["_law_make"] []):∀ n,gL P w K mg fK ku (n+1) f fd ["_law_make"] (iD (oK n))
 |0=>xa 0 F T ⟨f,fd,⟨λ_ _ _ _ qm=>by obtain⟨_,_,_,_,_,_,h,_⟩:=qm;exact h.elim,λ_ _ _ _ _ _ _ _ _ _ _ _ _ rZ=>by obtain⟨_,_,_,_,_,_,h,_⟩:=rZ;exact h.elim⟩,hm,hk,hb⟩
 |n+1=>xa (n+1) F T ⟨f,fd,yN F T hm hk hb n,hm,hk,hb⟩
def KC (F:j5 K "_law_falls" "_law_falls" oZ f fd)(T:lM mg)  : gL P w K mg fK ku 1 f fd (pA oZ) (iD vZ):=by
 refine F.nA BN (λds μ Kd h=>by unfold vZ at h;split at h<;>first|rfl|exact h.elim) (λje A fV s H E hr=>⟨_,(fY (gv (oM (anyC rfl) Dz (by rfl) T.any PyProof.Rows.boot_any (a1 (IW false (tT (N:=["_law_one","_law_other"]) (js:=[none,none]) BN (by decide +kernel)) (iO (gc (gb 0) (fL 0) (gc (gb 1) (fL 1) iP fW) (fP (fL 1) fW))) (iz (fP (fL 0) (fP (fL 1) fW))) (Co rfl T.zip (a2 (dv 0) (dv 1))) (λ_ _ _ nd=>(g9 (n:=2) rfl (fS (qN 0 nd) (fS (qN 1 nd) gF)))) (λ_ _ _=>iI) (λ_ _ _=>(qw Vy qa (dv 0) (dv 1) (iQ _)))))))),λds μ Kd hm hl h=>?_⟩)
 unfold vZ at h
 split at h
 .rename_i x y
  obtain⟨xs,ys,ex,ey,oJ,by_,kk⟩:=h
  refine fN ex (fN ey ⟨sz (by rw[bG,ia,ia];lia),?_⟩)
  refine iR ⟨rC (d:=.mr x) ex,rC (d:=.mr y) ey⟩ (D8 λa b=>.bl (decide (a<b))) (λd hd K' k'=>?_) ?_
  .obtain⟨p,hp,q,hq,rfl⟩:=zz hd
   exact⟨rfl,k'⟩
  .rw[Az,<- zy D.bl (λa b=>decide (a<b))]
   refine⟨_,rfl,.keep ?_⟩
   show Kd (.bl ((List.zipWith (λa b=>decide (a<b)) xs ys).any id)) μ
   rw[any_none by_]
   exact kk
 .cases h
def Ad (F:j5 K "few_paper" "few_paper" j8 f fd)(T:lM mg)(k9:pB P w K mg fK)(lL:mT P w K mg fK)(ES:xG P w K mg fK):gL P w K mg fK ku 5 f fd (pA j8) (iD pq):=by
 refine F.nA mP (λds μ Kd h=>by unfold pq at h;split at h <;> first | rfl | exact h.elim) (λje A fV s H E hr=>⟨_,(fO (qS 5 mP.nd (qC k9 hr (a2 (dv 0) (dv 1))))
  (fO (qS 6 mP.nd (qC lL hr (fQ (dv 0) (fQ (dv 1) (fQ (dv 2) (fQ (dv 3) iG))))))
  (fY (gv (Dn true (tT (N:=["now","places","tables","many"]) (js:=[none,some 5,some 6,some 4]) mP (by decide +kernel)) (iE rfl T.range (a1 (pI (dv 3) fT))) (λ_ _ _ nd=>(qN 0 nd)) (λ_ _ _=>iI) (λ_ _ _=>(qC ES hr (a3 (dv 1) (za (rE hr) (dv 2) (dv 0) (λ_ _=>rfl)) (dv 3))))))))),λds μ Kd hm hl h=>?_⟩)
 unfold pq at h
 split at h
 .rename_i n x y a m
  obtain⟨cs,ts,rfl,rfl,S,XI,VZ,Zl,OH,kk⟩:=h
  have mD:=S.mD
  have pF:(fI n cs).length=cs.length+2:=gw n cs
  refine⟨cs,rfl,S.mD,?_⟩
  refine⟨cs,ts,rfl,rfl,S,XI,VZ,?_⟩
  refine⟨by lia,by lia,sz (by rw[iJ];lia),?_⟩
  refine zd (λds ys gq=>∃(i c:Nat) (us:Us) (g:MS),ds=kz i c/\i+c=a.toNat+1/\ys=IM us/\gq=μ++g/\rA (μ++g) μ.length us ((List.range i).map λk=>ui (fI n cs) (fZ (fI n cs) ts (k+1)) m.toNat)) (ys:=[]) ⟨0,a.toNat+1,[],[],by rw[show(a+1).toNat=a.toNat+1 by lia];rfl,by lia,rfl,by rw[bZ],rA.nil _ _⟩ ?_ ?_ ?_
  .rintro d ua ys gq ⟨i,c,us,g,e,IT,rfl,rfl,pm⟩
   refine⟨trivial,λK' k'=>?_⟩
   cases c with
   |zero=>cases e
   | succ c =>
    rw[iY]at e
    cases e
    have e1:uH ((mI (a.toNat+1)).zip (nJ (fI n cs) ts (a.toNat+1))) (.inl (i:Int))=some (.lst (kG (fI n cs).length (fZ (fI n cs) ts (i+1)))) :=
     wj (xs:=List.range (a.toNat+1)) (k:=i) (λk=>D.lst (kG (fI n cs).length (fZ (fI n cs) ts (k+1)))) (List.mem_range.mpr (by lia))
    refine fN e1 ?_
    refine⟨_,_,rfl,rfl,by lia,by lia,uh S (i+1),Zl,OH,λj ks g' tm=>?_⟩
    rw[bp]at tm ⊢
    refine k' _ _ ⟨i+1,c,us++[(j,ks)],g++g',rfl,by lia,by unfold IM;rw[bS];rfl,rfl,?_⟩
    rw[<- bp]at tm ⊢
    rw[eB,bS]
    exact pm.snoc (by rw[l5];lia) tm
  .rintro ys gq ⟨i,c,us,g,e,IT,rfl,rfl,pm⟩
   exact trivial
  .rintro zs gq ⟨i,c,us,g,e,IT,ez,rfl,pm⟩
   cases c with
   |succ c=>rw[iY]at e;cases e
   | zero =>
    have:i=a.toNat+1:=by lia
    subst this
    cases ez
    have k2:=kk (μ++g).length us (g++[.lst (IM us)]) (by rw[<- bp];exact pm.app (aw _)) (by rw[<- bp];exact kN) (by rw[l5];lia)
    rw[<- bp]at k2
    exact Fz.keep k2
 .cases h
def xZ (F:j5 K "_law_young_good" "_law_young_good" jI f fd)(T:lM mg)(EV:EF P w K mg fK)(sx:su P w K mg fK)(Bh:AX P w K mg fK):gL P w K mg fK ku 3 f fd (pA jI) (iD vQ):=by
 refine F.nA n8 (λds μ Kd h=>by unfold vQ at h;split at h <;> first | rfl | exact h.elim) (λje A fV s H E hr=>⟨_,(fO (qS 4 n8.nd (qC EV hr (a2 (dv 0) (dv 1))))
  (fO (jj (PW.pt (pS (mG (ij (qv (T:= "list") (by simp) (by rfl) T.isinstance (by rfl) T.list bC (dv 3)))) (nK (NK (vt T (dv 3)) (dv 2)))))
  (fY (gv mS))
  hV)
  (fO (lO bg rfl (iE rfl T.range (a1 (vt T (dv 3)))) (qT 5 n8.nd)
  (fO (jj (mG (ij (qC sx hr (fQ (dv 0) (fQ (dv 4) (fQ (dv 5) (fQ (iX (dv 3) (dv 5)) iG)))))))
  (fY (gv mS))
  hV)
  (fY (jj (PW.pt (uU (Ug (dv 5) fT) (p7 (mG (ij (qC Bh hr (fQ (dv 0) (fQ (iX (dv 3) (dv 5)) (fQ (iX (dv 3) (Bu (dv 5) fT)) (fQ (iX (dv 3) (Bu (dv 5) fT)) iG))))))))))
  (fY (gv mS))
  hV))))
  (fY (gv (Wn (qw Tj rL (dv 2) fT (iQ _)) (GG (qw Vy qa (iX (iX (dv 3) (y8 fT)) fT) (iX (dv 0) (y8 fT)) (iQ _))))))))),λds μ Kd hm hl h=>?_⟩)
 unfold vQ at h
 split at h
 .rename_i b y z j
  obtain⟨n,cs,ts,a,m0,js,rfl,rfl,rfl,S,la,ha,Y,kk⟩:=h
  have mD:=S.mD
  have pF:(fI n cs).length=cs.length+2:=gw n cs
  have nd:=we S.n1 S.iK
  have Ek:∀ e∈fI n cs,0<=e:=λe he=>(ig S.n1 S.iK he).1
  have LN:lB ((fI n cs).map D.int) (-1)=some (.int n):=by
   rw[<- qt]
   exact xK _ _
  have yg:=Dq S (a:=a) (by lia) (BL S la (by lia))
  rw[yh]at yg
  have ex:=Y.lst
  have yl:=Y.len
  have at_:∀ k,k<a->∃ p,lB (js.map D.mr) (k:Int)=some (.mr p)/\mH μ p=some ((gR (fI n cs) ts k).map D.int)/\((List.range a).map (gR (fI n cs) ts))[k]?=some (gR (fI n cs) ts k):=λk hk=>by
   have e:=iM (show k<js.length by lia)
   exact⟨_,iZ e,Y.row k _ e,by rw[nF,ba hk];rfl⟩
  refine⟨n,cs,ts,rfl,rfl,S,?_⟩
  refine fN (zD (x:=.mr j) ex) ?_
  rw[Ap]
  refine fN ex ?_
  refine yT (c:=((js.map D.mr).length:Int)=(a:Int)) (λq=>absurd (by rw[ia,yl]) q) (λ_=>?_)
  refine fN ex ⟨by lia,by lia,?_⟩
  rw[yh,ia,yl]
  refine i9 (λds ρ gq=>∃(k c:Nat) (u:av D),ds=kz k c/\k+c=a/\ρ=[some (.lst ((fI n cs).map D.int)),some (.lst (ts.map ny)),some (.int a),some (.mr j),some (.lst (ts.map (ju (fI n cs)))),u]/\gq=μ) ⟨0,a,none,rfl,by lia,rfl,rfl⟩ ?_ ?_
  .rintro d ua ρ gq ⟨k,c,u,e,Lm,rfl,rfl⟩
   refine⟨trivial,λnx rb=>?_⟩
   cases c with
   |zero=>cases e
   | succ c =>
    rw[iY]at e
    cases e
    obtain⟨p,ap,lp,hp⟩:=at_ k (by lia)
    have gr:=yg.row k _ hp
    refine fN ex (fN ap ⟨fI n cs,ts,_,rfl,rfl,by lia,Ek,lp,gr,?_⟩)
    refine kq (c:=(0:Int)<k) (λk1=>?_) (λk1=>rb _ _ ⟨k+1,c,_,rfl,by lia,rfl,rfl⟩)
    obtain⟨i,rfl⟩:∃ i,k=i+1:=⟨k - 1,by lia⟩
    obtain⟨p0,UE,Xw,hp0⟩:=at_ i (by lia)
    have gr0:=yg.row i _ hp0
    rw[show(i:Int)=((i+1:Nat):Int) - 1 by lia]at UE
    refine fN ex (fN ap (fN ex (fN UE (fN ex (fN UE ⟨fI n cs,_,_,_,rfl,by lia,nd,lp,Xw,Xw,gr.ok,gr0.ok,gr0.ok,yg.above i _ _ hp hp0,?_⟩)))))
    exact rb _ _ ⟨i+1+1,c,_,rfl,by lia,rfl,rfl⟩
  .rintro ρ gq ⟨k,c,u,e,Lm,rfl,rfl⟩
   refine⟨trivial,?_⟩
   refine oI (c:=(a:Int)=0) (λa0=>.keep kk) (λa0=>?_)
   obtain⟨p,ap,lp,hp⟩:=at_ (a - 1) (by lia)
   rcases yg.last with q1|⟨r,x,q1,q2,q3⟩
   .exact absurd q1 a0
   rw[ia,pW,hp]at q1
   cases q1
   have e:=iM (show a - 1<js.length by lia)
   have am:lB (js.map D.mr) (-1)=some (.mr _):=wx (by rw[ia,yl,nF,e];rfl)
   refine fN ex (fN am (fN (Y.row _ _ e) (fN (iZ (i:=0) q2) (fN LN (.keep ?_)))))
   show Kd (.bl (decide (x<n))) _
   rw[aJ q3]
   exact kk
 .cases h
def B8 (F:j5 K "_law_few_good" "_law_few_good" kT f fd)(T:lM mg)(EV:EF P w K mg fK)(Bc:tP P w K mg fK):gL P w K mg fK ku 3 f fd (pA kT) (iD AG):=by
 refine F.nA mq (λds μ Kd h=>by unfold AG at h;split at h <;> first | rfl | exact h.elim) (λje A fV s H E hr=>⟨_,(fO (qS 5 mq.nd (qC EV hr (a2 (dv 0) (dv 1))))
  (fO (jj (PW.pt (pS (mG (ij (qv (T:= "list") (by simp) (by rfl) T.isinstance (by rfl) T.list bC (dv 4)))) (nK (NK (vt T (dv 4)) (pI (dv 2) fT)))))
  (fY (gv mS))
  hV)
  (fO (qS 6 mq.nd (mw false iG))
  (fO (lO bg rfl (iE rfl T.range (a1 (pI (dv 2) fT))) (qT 7 mq.nd)
  (fO (jj (PW.pt (pS (mG (ij (qv (T:= "list") (by simp) (by rfl) T.isinstance (by rfl) T.list bC (iX (dv 4) (dv 7))))) (nK (NK (vt T (iX (dv 4) (dv 7))) (dv 3)))))
  (fY (gv mS))
  hV)
  (fO (jj (mG (ij (qC Bc hr (fQ (dv 0) (fQ (dv 5) (fQ (dv 7) (fQ (iX (dv 4) (dv 7)) (fQ (dv 6) iG))))))))
  (fY (gv mS))
  hV)
  (fY (qS 6 mq.nd (iX (dv 4) (dv 7)))))))
  (fY (gv (Wn (qw Tj rL (dv 3) fT (iQ _)) (GG (qw Vy qa (iX (iX (iX (dv 4) (y8 fT)) (y8 fT)) fT) (iX (dv 0) (y8 fT)) (iQ _)))))))))),λds μ Kd hm hl h=>?_⟩)
 unfold AG at h
 split at h
 .rename_i b y a m j
  obtain⟨n,cs,ts,us,pp,rfl,rfl,ex,S,pm,XI,VZ,Zl,OH,g,kk⟩:=h
  have mD:=S.mD
  have pF:(fI n cs).length=cs.length+2:=gw n cs
  have nd:=we S.n1 S.iK
  have Ek:∀ e∈fI n cs,0<=e:=λe he=>(ig S.n1 S.iK he).1
  have LN:lB ((fI n cs).map D.int) (-1)=some (.int n):=by
   rw[<- qt]
   exact xK _ _
  have gl:=g.len
  have ul:((IM us).length:Int)=a+1:=by unfold IM;rw[ia,pm.len];exact gl
  have at_:∀ k,k<pp.length->∃ u tb,us[k]?=some u/\pp[k]?=some tb/\ot μ 0 u.1 u.2 tb:=λk hk=>by
   have hu:k<us.length:=by rw[pm.len];exact hk
   exact⟨_,_,iM hu,iM hk,pm.tab k _ _ (iM hu) (iM hk)⟩
  refine⟨n,cs,ts,rfl,rfl,S,?_⟩
  refine fN (zD (x:=.mr j) ex) ?_
  rw[Ap]
  refine fN ex ?_
  refine yT (c:=((IM us).length:Int)=a+1) (λq=>absurd ul q) (λ_=>?_)
  refine⟨zs,by lia,by lia,?_⟩
  refine i9 (FgO (some (.lst ((fI n cs).map D.int))) (some (.lst (ts.map ny))) (some (.int a)) (some (.int m)) (some (.mr j)) (some (.lst (ts.map (ju (fI n cs))))) us pp μ) (.mk 0 (a+1).toNat (.lst []) none rfl (by lia) λz=>absurd z (b8 _)) ?_ ?_
  .intro d ua ρ gq hI
   cases hI with|mk k c ld v e Lm Zp=>?_
   refine⟨trivial,λnx rb=>?_⟩
   cases c with
   |zero=>cases e
   | succ c =>
    rw[iY]at e
    cases e
    obtain⟨u,tb,hu,SK,tm⟩:=at_ k (by lia)
    have aq:lB (IM us) (k:Int)=some (.mr u.1):=iZ (g:=λu:Nat×au Nat=>D.mr u.1) hu
    have gm:=g.many k tb SK
    have ty:PB (.mr u.1) μ=some "list":=zD (x:=.mr u.1) tm.lst
    refine fN ex (fN aq (fN ty ?_))
    rw[Ap]
    refine fN ex (fN aq (fN tm.lst ?_))
    refine yT (c:=((u.2.map D.mr).length:Int)=m) (λq=>absurd (by rw[ia,tm.len];exact gm) q) (λ_=>?_)
    refine fN ex (fN aq ⟨fI n cs,ts,tb,lastOf pp k,u.2,rfl,rfl,Ek,nd,by lia,by lia,by lia,tm,λk0=>?_,g.tab k tb SK,?_⟩)
    .obtain⟨i,rfl⟩:∃ i,k=i+1:=⟨k - 1,by lia⟩
     obtain⟨u0,t0,h1,h2,tm0,rfl⟩:=Zp (Nat.succ_pos i)
     rw[Nat.add_sub_cancel]at h1 h2
     have el:lastOf pp (i+1)=t0:=by show(pp[i]?).getD []=t0;rw[h2];rfl
     rw[el]
     have:=g.many i t0 h2
     refine⟨by lia,λr IQ=>?_,u0.1,u0.2,rfl,tm0⟩
     obtain⟨i',FT,e'⟩:=aM IQ
     exact((g.tab i t0 h2).row i' r (by rw[iM FT,e'])).ok
    .exact fN ex (fN aq (rb _ _ (.mk (k+1) c (.mr u.1) _ rfl (by lia) λ_=>⟨u,tb,hu,SK,tm,rfl⟩)))
  .intro ρ gq hI
   cases hI with|mk k c ld v e Lm Zp=>?_
   refine⟨trivial,?_⟩
   refine oI (c:=m=0) (λm0=>.keep kk) (λm0=>?_)
   rcases g.last with q1|⟨tb,r,x,q1,q2,q3,q4⟩
   .exact absurd q1 m0
   obtain⟨u,tb',hu,SK,tm⟩:=at_ (pp.length - 1) (by lia)
   rw[q1]at SK
   cases SK
   have tl:=g.many _ tb q1
   obtain⟨p,r',IQ,hp,_,lp⟩:=tm.get (t:=tb.length - 1) (by lia)
   rw[q2]at IQ
   cases IQ
   have aq:lB (IM us) (-1)=some (.mr u.1):=wx (by unfold IM;rw[ia,pm.len,nF,hu];rfl)
   have ap':lB (u.2.map D.mr) (-1)=some (.mr p):=wx (by rw[ia,tm.len,nF,hp];rfl)
   have ax:lB (r.map D.int) 0=some (.int x):=iZ (i:=0) q3
   refine fN ex (fN aq (fN tm.lst (fN ap' (fN lp (fN ax (fN LN (.keep ?_)))))))
   show Kd (.bl (decide (x<n))) μ
   rw[aJ q4]
   exact kk
 .cases h
def HF (F:j5 K "answer" "answer" m9 f fd)(T:lM mg)(qF:tS P w K mg fK)(qD:qx P w K mg fK)(MB:CP P w K mg fK)(IK:zh P w K mg fK)(yu:rH P w K mg fK)(Df:ve P w K mg fK):gL P w K mg fK ku 218 f fd (pA m9) (iD v9):=by
 refine F.nA oE (λds μ Kd h=>by unfold v9 at h;split at h <;> first | rfl | exact h.elim) (λje A fV s H E hr=>⟨_,(fO (qS 3 oE.nd (qC qF hr (a3 (dv 0) (dv 1) (dv 2))))
  (fO (jj (zK (dv 3))
  (fY (gv (nr (a3 kb (iX (dv 3) fT) (iX (dv 3) fT)))))
  hV)
  (fO (qS 4 oE.nd (qC qD hr (a3 (dv 0) (dv 1) (dv 2))))
  (fO (qS 5 oE.nd (qC MB hr (fQ (dv 0) (fQ (dv 1) (fQ (dv 2) (fQ (dv 4) iG))))))
  (fO (qS 6 oE.nd (L4 IK hr.le rfl (fQ (dv 0) (fQ (dv 1) (fQ (dv 2) (fQ fT iG))))))
  (fY (gv (nr (fQ kb (fQ (dv 6) (fQ (qC yu hr (fQ (dv 0) (fQ (dv 1) (fQ (dv 2) (fQ (dv 4) iG))))) (fQ (qC Df hr (fQ (dv 0) (fQ (dv 1) (fQ (dv 2) (fQ (dv 4) (fQ (dv 5) iG)))))) iG)))))))))))),λds μ Kd hm hl h=>?_⟩)
 unfold v9 at h
 split at h
 .rename_i n x y
  obtain⟨h0,cs,ts,rfl,rfl,S,XU,kk⟩:=h
  have mD:=S.mD
  have ft:=S.takes.mD
  have pF:(fI n cs).length=cs.length+2:=gw n cs
  have el:(fI n cs).length - 1=cs.length+1:=by lia
  refine⟨cs,ts,rfl,rfl,S.mD,S.takes,S.n2,?_⟩
  cases hb:jZ (fI n cs) ts with
  | some p =>
   have k2:=kk _ [] (.bar p hb)
   rw[bZ]at k2
   exact⟨zs,.keep k2⟩
  | none =>
   refine⟨cs,ts,rfl,rfl,S,XU,?_⟩
   unfold Al
   rw[hb]
   intro a ha la
   obtain⟨tf1,tf2⟩:=zG S la
   refine⟨cs,ts,rfl,rfl,S,by lia,by lia,?_⟩
   rw[yh,show Th (fZ (fI n cs) ts (a+1) 0 (cs.length+1)) cs.length=.int (fZ (fI n cs) ts (a+1) 0 (cs.length+1))from aF (by lia)]
   have tp:=(l9 (lE S (a+1)) (i:=0) (j:=cs.length+1) (by lia) (by lia)).1
   have cp:=TF S XU a 0 (cs.length+1) (by lia) (by lia) tf2
   refine⟨h0,cs,ts,rfl,rfl,S,XU,?_⟩
   unfold Mp
   rw[hb]
   intro a' _ la'
   obtain rfl:=la.uniq la'
   rw[el,aF ⟨bq 0,cp⟩]
   obtain⟨t1,t2,t3,t4⟩:=Mn S XU la (bq 0) cp
   generalize GS (fI n cs) ts (a+1) 0 (cs.length+1) 0=t at t1 t2 t3 t4
   have M:Q2 n cs ts a t:=⟨hb,la,ha,t1,t2,t3,by lia⟩
   have tc:fZ (fI n cs) ts (a+1) 0 (cs.length+1)=(t.cnt:Int) - 1:=by lia
   have ep:(fZ (fI n cs) ts (a+1) 0 (cs.length+1)).toNat=t.cnt - 1:=by lia
   refine⟨cs,ts,rfl,rfl,S,by lia,by lia,λj js g y1 y2 y3 y4 y5=>?_⟩
   refine⟨cs,ts,rfl,rfl,S,by lia,by lia,by lia,by lia,λj2 us g2 pm f f1=>?_⟩
   rw[yh]at y1
   rw[yh,ep,bp]at pm
   rw[bp]at f
   have yy:zt (μ++g) μ.length (fI n cs) ts a j js:=⟨y1,y2,y3,y4,y5⟩
   have yy2:=yy.app (g:=g2)
   rw[bp]at yy2
   have tZ:μ.length<=(μ++g).length:=by rw[l5];lia
   have pm2:=pm.app (g:=[]) tZ
   rw[bZ]at pm2
   have k2:=kk _ (g++g2) (.make a t j js j2 us M yy2 f (by lia) pm2)
   rw[<- bp]at k2
   exact⟨zs,.keep k2⟩
 .cases h
def N8 (F:j5 K "_law_good" "_law_good" rP f fd)(T:lM mg)(MC:CQ P w K mg fK)(ER:Md P w K mg fK)(Bf:Mi P w K mg fK)(Be:Mf P w K mg fK)(Bb:tO P w K mg fK)(ET:xH P w K mg fK)(tW:CN P w K mg fK):gL P w K mg fK ku 67 f fd (pA rP) (iD AF):=by
 refine F.nA vF (λds μ Kd h=>by unfold AF at h;split at h <;> first | rfl | exact h.elim) (λje A fV s H E hr=>⟨_,(fO (qS 4 vF.nd (pI (pI (mw false (a1 fT)) (dv 1)) (mw false (a1 (dv 0)))))
  (fO (qS 5 vF.nd (qC MC hr (a2 (dv 4) (dv 2))))
  (fO (jj (zK (dv 5))
  (fY (gv (qC ER hr (a2 (dv 3) (nr (a3 kb (iX (dv 5) fT) (iX (dv 5) fT)))))))
  hV)
  (fO (jj (PW.pt (pS (mG (ij (qv (T:= "tuple") (by simp) (by rfl) T.isinstance (by rfl) T.tuple c0 (dv 3)))) (pS (NK (vt T (dv 3)) fT) (pS (NK (iX (dv 3) fT) kb) (nK (mG (ij (qC Bf hr (a1 (iX (dv 3) fT))))))))))
  (fY (gv mS))
  hV)
  (fO (qS 6 vF.nd (qC Be hr (a3 (dv 1) (dv 2) (iX (dv 3) fT))))
  (fO (jj (PW.pt (pS (JB (dv 6)) (nK (NK (iX (dv 6) fT) (rg mulC p9 kb (dv 0))))))
  (fY (gv mS))
  hV)
  (fO (jj (mG (ij (qC Bb hr (fQ (dv 4) (fQ (dv 2) (fQ (iX (dv 6) fT) (fQ (iX (dv 3) fT) iG)))))))
  (fY (gv mS))
  hV)
  (fY (gv (qC ET hr (fQ (dv 4) (fQ (dv 2) (fQ (iX (dv 6) fT) (fQ (qC tW hr (a1 (iX (dv 3) fT))) (fQ (iX (dv 3) fT) iG))))))))))))))),λds μ Kd hm hl h=>?_⟩)
 unfold AF at h
 split at h
 .rename_i n x y d
  obtain⟨cs,ts,m0,rfl,rfl,S,ht,kk⟩:=h
  have mD:=S.mD
  have pF:(fI n cs).length=cs.length+2:=gw n cs
  refine⟨zs,by rw[ia];exact sz (by show 1+cs.length<=_;lia),zs,by rw[l5,ia];exact sz (by show 1+cs.length+1<=_;lia),?_⟩
  rw[qt]
  refine⟨n,cs,ts,rfl,rfl,S.mD,S.n1,S.n2,S.iK,S.takes,?_⟩
  cases ht with
  | bar p hb =>
   rw[hb]
   exact⟨zs,_,rfl,rfl,JK (by simp) (λd hd=>by simp only[aR,aL,bQ]at hd;rcases hd with rfl|rfl|rfl<;>trivial),.keep kk⟩
  | make a t j js j2 us M y f f1 pm =>
   rw[M.Vq]
   have m1:=M.dep
   have m2:=M.age
   obtain⟨tf1,tf2⟩:=zG S M.least
   have n1:=S.n1
   have n2:=S.n2
   have cp:0<t.cnt:=by have:=M.cnt;have:=(lE S (a+1) 0 (cs.length+1) (by lia) (by lia)).2 (by lia);lia
   have fg:=Lz S (a:=a) (m:=t.cnt - 1) (by have:=M.cnt;lia)
   rw[show((t.cnt - 1:Nat):Int)=(t.cnt:Int) - 1 by lia]at fg
   have cu:(t.cnt:Int) - 1<=1000:=by have:=M.cnt;lia
   refine⟨t,rfl,m1,?_⟩
   refine⟨cs,ts,t,n,rfl,rfl,rfl,m1,λp hp=>by have:=S.iK.Qw p hp;lia,S.n2,uf S,?_⟩
   rw[kZ.Ky M.ok,M.val]
   dsimp only
   refine xC (false||(true != decide (txt (List.replicate n.toNat 111)=txt (List.replicate n.toNat 111)))) (.or (.M9 λK k=>k) λ_=>.M9 λK k=>⟨111,rfl,by lia,by lia,k⟩) (λq=>by rw[aJ rfl]at q;cases q) (λ_=>xB ?_)
   dsimp only
   refine⟨n,cs,ts,a,m0,js,rfl,rfl,rfl,S,M.least,by lia,y,?_⟩
   refine⟨t,rfl,m1,n,cs,ts,us,_,rfl,rfl,f,S,pm.zero,by lia,by lia,by lia,by lia,fg,.keep kk⟩
 .cases h
set_option maxHeartbeats 8000000 in
def R3 (F:j5 K "law" "law" nO f fd)(T:lM mg)(Xe:QY P w K mg fK)(ji:uL P w K mg fK)(Pq:GL P w K mg fK)(T6:Me P w K mg fK)(Dg:CS P w K mg fK)(MA:Mh P w K mg fK):gL P w K mg fK ku 220 f fd (pA nO) (PZ K):=by
 refine F.ok oa (λvs H Q E h=>?_) (λje A fV s H vs Q E hr h=>?_)
 .obtain⟨a,ns,rfl,_⟩:=h;rfl
 .obtain⟨a,ns,rfl,hs,hl,k⟩:=h
  refine⟨_,iU (uw (i:=1) oa.nd rfl (by first | exact Or.inl rfl | exact Or.inr rfl) (wW Xe (hr.mono (by first | decide | exact aw _ | lia)) rfl (gz (lP 0) iV))) (fO (qS 2 oa.nd (iX (mw false (a2 fT fT)) (Io VF JH (by rfl) T.int cD (a1 (qw Tj rL (qC ji hr (a2 (dv 1) fT)) fT (iQ _))))))
   (fO (Fm (qC Pq hr (a2 (dv 1) (dv 2))) ⟨(g9 (n:=3) rfl (fS (qN 3 oa.nd) (fS (qN 4 oa.nd) (fS (qN 5 oa.nd) gF)))),(iO (gc (gb 3) (fL 3) (gc (gb 4) (fL 4) (gc (gb 5) (fL 5) iP fW) (fP (fL 5) fW)) (fP (fL 4) (fP (fL 5) fW)))),(iz (fP (fL 3) (fP (fL 4) (fP (fL 5) fW))))⟩)
   (zq (jj (PW.pt (pS (J7 (dv 2) fT) (nK (Ug (qC ji hr (a2 (dv 1) fT)) fT))))
   (fY (qS 5 oa.nd (qC T6 hr (a1 (dv 5)))))
   hV)
   (fO (qS 6 oa.nd (mw false (a2 (Io Cj (vD (m:=false)) (by rfl) T.list bC (a1 (dv 4))) (Io Cj (vD (m:=false)) (by rfl) T.list bC (a1 (dv 5))))))
   (fO (qS 7 oa.nd (qC Dg hr (a3 (dv 3) (iX (dv 6) fT) (iX (dv 6) fT))))
   (fO (jj (PW.pt (pS (mG (ij (qC MA hr (fQ (dv 3) (fQ (dv 4) (fQ (dv 5) (fQ (dv 7) iG))))))) (nK (mf (KO (n:=5) (Pz hr (by decide))) JJ (dv 6) (mw false (a2 (dv 4) (dv 5))) (iQ _)))))
   (fY (gv mS))
   hV)
   (zq (jj (J7 (iX (dv 7) fT) kb)
   (fO (lO bg rfl (jN (iX (dv 7) fT)) (qT 8 oa.nd)
   (fY (uq (L0 cv eP eO EE wJ (dv 8)))))
   (fO (uq (L0 cv eP eO EE wJ (iX (dv 7) fT)))
   (fY (uq (L0 cv eP eO EE wJ (iX (dv 7) fT))))))
   hV)
   (fY (gv (qC MA hr (fQ (dv 3) (fQ (dv 4) (fQ (dv 5) (fQ (qC Dg hr (a3 (dv 3) (iX (dv 6) fT) (iX (dv 6) fT))) iG)))))))))))))),?_⟩
  refine⟨ns,hs,λb q H0 B0 ZM tY S0=>?_⟩
  refine Sh (m:=7) B0 ?_ k
  refine⟨zs,rfl,by decide,by decide,λv v0 v1=>?_⟩
  obtain⟨mm,em,Ur⟩:∃ mm,lB [D.int 10,D.int 16] (if(false != decide (v=0))=true then 1 else 0)=some (.int mm)/\(mm=10\/mm=16):=by
   by_cases q:v=0
   .rw[aJ q];exact⟨16,rfl,.inr rfl⟩
   .rw[aS q];exact⟨10,rfl,.inl rfl⟩
  refine fN em ⟨rfl,by lia,by lia,λn cs X9 h1 h2 Cr hc Zb=>?_⟩
  have lts:=Zb.mD
  refine⟨rfl,?_⟩
  refine⟨λkF gq=>∃ ts:au Tk,tV n ts/\kF=[none,some (.mr 0),some (.int mm),some (.int n),some (.lst (cs.map D.int)),some (.lst (ts.map ny)),none,none,none]/\gq=[.box],?_,?_⟩
  .refine OZ (λ_=>True) (λK k=>?_) (λ_=>⟨X9,rfl,by lia,X9.map FI,Oe Zb,rfl,rfl⟩) (λ_=>xB ⟨X9,Zb,rfl,rfl⟩)
   exact oI (c:=mm=16) (λq=>k _ trivial) (λq=>⟨rfl,by decide,by decide,λu _ _=>k _ trivial⟩)
  rintro kF gq ⟨ts,ht,rfl,rfl⟩
  have S:gM n cs ts:=⟨h1,by lia,by lia,hc,ht⟩
  have ft:=ht.mD
  have Yw:nM 5 (.lst [.lst (cs.map D.int),.lst (ts.map ny)]):=wK (by simp) λd hd=>by
   simp only[aR,aL,bQ]at hd
   rcases hd with rfl|rfl
   .exact Nx (by lia)
   .exact Rq (by lia)
  refine⟨zs,nLf ?_⟩
  refine⟨⟨_,rfl⟩,cs,ts,rfl,rfl,S,by lia,λd g ht=>?_⟩
  dsimp only
  refine xC (!true||false) (.or (.not (.M9 λK k=>⟨cs,ts,_,rfl,rfl,S,ht,k⟩)) λ_=>.M9 λK k=>⟨zs,nLf ⟨yH Yw,yH Yw,rfl,by rw[GB _ 5 (yH Yw)];exact k⟩⟩) (λq=>by cases q) (λ_=>xB ?_)
  dsimp only
  refine⟨λkF gq=>∃(u:av D) (g':MS),kF=[none,some (.mr 0),some (.int mm),some (.int n),some (.lst (cs.map D.int)),some (.lst (ts.map ny)),some (.lst [.lst (cs.map D.int),.lst (ts.map ny)]),some d,u]/\gq=[.box]++g',?_,?_⟩
  .cases ht with
   |bar p hb=>exact xC false (.M9 λK k=>k) (λq=>by cases q) (λ_=>xB ⟨_,_,rfl,rfl⟩)
   | make a t j js j2 us M y f f1 pm =>
    refine xC true (.M9 λK k=>k) (λ_=>?_) (λq=>by cases q)
    refine fN y.lst ?_
    refine i9 (λds ρ gq=>∃(ks:au Nat) (u:av D),ds=ks.map D.mr/\(∀ k∈ks,k∈js)/\ρ=[none,some (.mr 0),some (.int mm),some (.int n),some (.lst (cs.map D.int)),some (.lst (ts.map ny)),some (.lst [.lst (cs.map D.int),.lst (ts.map ny)]),some (.tup [.str "make",FL t,.mr j,.mr j2]),u]/\gq.take 1=[.box]/\mH gq j=some (js.map D.mr)/\∀ k,k∈js\/k=j2->∃ ds,mH gq k=some ds) ⟨js,none,rfl,λ_ h=>h,rfl,rfl,y.lst,λk hk=>?_⟩ ?_ ?_
    .rcases hk with hk | rfl
     .obtain⟨i,hi,e⟩:=aM hk
      exact⟨_,y.row i k (by rw[iM hi,e])⟩
     .exact⟨_,f⟩
    .rintro d ua ρ gq ⟨ks,u,e,Zr,rfl,ht,xT,XH⟩
     refine⟨xT,λnx rb=>?_⟩
     cases ks with
     |nil=>cases e
     | cons k ks =>
      cases e
      have Qt:=Zr k aH
      obtain⟨ds,ZA⟩:=XH k (.inl Qt)
      have kl:=(ka (jA ZA)).1
      have km:=y.new k Qt
      refine⟨uB ZA,fN ZA ?_⟩
      refine rb _ _ ⟨ks,_,rfl,λk' Bp=>Zr k' (nE _ Bp),rfl,by rw[take_set (show 1<=k from km.1)];exact ht,by rw[rW km.2];exact xT,λk' Bp=>?_⟩
      by_cases q:k=k'
      .subst q;exact⟨_,o7 kl⟩
      .rw[rW q];exact XH k' Bp
    .rintro ρ gq ⟨ks,u,e,Zr,rfl,ht,xT,XH⟩
     have jl:=(ka (jA xT)).1
     obtain⟨ds2,ZT⟩:∃ ds,mH (gq.set j (.lst [])) j2=some ds:=by
      by_cases q:j=j2
      .subst q;exact⟨_,o7 jl⟩
      .rw[rW q];exact XH j2 (.inr rfl)
     refine⟨xT,uB xT,fN xT ?_⟩
     refine⟨uB ZT,fN ZT ?_⟩
     refine⟨_,((gq.set j (.lst [])).set j2 (.lst [])).drop 1,rfl,?_⟩
     have e1:((gq.set j (.lst [])).set j2 (.lst [])).take 1=[.box]:=by rw[take_set (show 1<=j2 from f1),take_set (show 1<=j from y.ge)];exact ht
     rw[<- e1,List.take_append_drop]
  .rintro kF gq ⟨u,g',rfl,rfl⟩
   refine⟨⟨_,rfl⟩,cs,ts,rfl,rfl,S,by lia,λd2 g2 Za=>?_⟩
   exact⟨cs,ts,_,rfl,rfl,S,Za,rfl⟩
end
def kM0:ar:=(.str "hissroom.errors" 225)
def ni:ar:=(.str "law_hissroom_k23_whole_answer_shown" 510)
def Qv:ar:=(.str "hissroom.ends" 194)
def MN:ar:=(.str "hissroom.reach" 261)
def MM:ar:=(.str "hissroom.tables" 300)
def Bj:ar:=(.str "hissroom.few" 333)
def ML:ar:=(.str "hissroom.papers" 459)
def kk (P:Params):aa:=List.flatten [[ko 3 (Vx P "law_hissroom_k23_whole_answer_shown" 510 [me "_wall" 193 (.ref 21),me "ends" 203 (.ref 28),me "pieces" 212 (.ref 35),me "farthest" 218 (.ref 40),me "bar_of" 224 (.ref 45),me "HissError" 244 (.ref 55),me "BadNumber" 260 (.ref 68),me "least_age" 275 (.ref 77),me "youngest" 281 (.ref 82),me "take_rows" 287 (.ref 87),me "clean_row" 293 (.ref 92),me "next_reach" 299 (.ref 97),me "few_tables" 307 (.ref 102),me "no_make" 314 (.ref 109),me "bare_table" 320 (.ref 114),me "next_table" 326 (.ref 119),me "fewest_joined" 332 (.ref 124),me "fewest" 345 (.ref 131),me "best_of" 356 (.ref 138),me "BestMakes" 458 (.ref 200),me "young_paper" 475 (.ref 211),me "few_paper" 481 (.ref 216),me "few_rows" 487 (.ref 221),me "go_on" 496 (.ref 228),me "answer" 509 (.ref 235),me "_law_box" 518 (.ref 242),me "_law_take" 530 (.ref 249),me "_law_bars" 536 (.ref 254),me "_law_cuts" 542 (.ref 259),me "_law_patched" 557 (.ref 266),me "_law_shelf" 563 (.ref 271),me "_law_near" 569 (.ref 276),me "_law_made" 580 (.ref 283),me "_law_barred" 586 (.ref 288),me "_law_far" 592 (.ref 293),me "_law_own" 598 (.ref 298),me "_law_fars" 604 (.ref 303),me "_law_row_good" 618 (.ref 310),me "_law_above" 629 (.ref 317),me "_law_young_good" 641 (.ref 324),me "_law_falls" 647 (.ref 329),me "_law_table_good" 660 (.ref 336),me "_law_few_good" 674 (.ref 343),me "_law_whole" 681 (.ref 350),me "_law_form" 688 (.ref 357),me "_law_same" 694 (.ref 362),me "_law_tuples" 701 (.ref 369),me "_law_good" 714 (.ref 376),me "law" 729 (.ref 383)])],[ko 200 ⟨.type "type",none,(.cls ⟨"BestMakes",[.type "object"],[.ref 200,.type "object"],199, "BestMakes",true,[],[],false,none,false⟩),#[none,none,(some (.str "BestMakes" 357)),(some (.str "BestMakes" 365)),(some (.builtin "object.__new__")),(some (.bool true))]⟩,ko 199 ⟨.type "dict",none,(.dict #[wg P "__module__" 364 (.str "hissroom.few" 333),wg P "__firstlineno__" 368 (.int 91 367),wg P "__init__" 379 (.ref 152),wg P "is_take" 390 (.ref 159),wg P "clean_takes" 396 (.ref 164),wg P "halves" 402 (.ref 169),wg P "counted" 410 (.ref 176),wg P "count_anew" 422 (.ref 183),wg P "numbered" 436 (.ref 190),wg P "rank" 445 (.ref 197),wg P "__static_attributes__" 451 (.ref 198),wg P "__dict__" 453 (.ref 201),wg P "__weakref__" 455 (.ref 202),wg P "__doc__" 456 (.none)] 4),#[]⟩],kx P 68 67 55 "BadNumber" (some (.ref 59)) 245 253 kM0 252 22 66,[ko 55 ⟨.type "type",none,(.cls ⟨"HissError",[.type "ValueError"],[.ref 55,.type "ValueError",.type "Exception",.type "BaseException",.type "object"],54, "HissError",true,[],[.ref 68],false,none,false⟩),#[(some (.ref 46)),none,(some (.str "HissError" 227)),(some (.str "HissError" 235)),(some (.builtin "ValueError.__new__")),(some (.bool true))]⟩,ko 54 ⟨.type "dict",none,(.dict #[wg P "__module__" 234 (.str "hissroom.errors" 225),wg P "__firstlineno__" 238 (.int 20 237),wg P "__static_attributes__" 239 (.ref 53),wg P "__weakref__" 241 (.ref 56),wg P "__doc__" 242 (.none)] 3),#[]⟩],nV 242 241 "_law_box" wO ni 512 176 1 236 237 (.ref 238) (.ref 239) 240 516,nV 249 248 "_law_take" rM ni 519 178 2 243 244 (.ref 245) (.ref 246) 247 528,nV 254 253 "_law_bars" rT ni 531 194 2 250 251 .none .none 252 534,nV 259 258 "_law_cuts" rS ni 537 207 2 255 256 .none .none 257 540,nV 266 265 "_law_patched" lS ni 543 214 4 260 261 (.ref 262) (.ref 263) 264 555,nV 271 270 "_law_shelf" oX ni 558 222 2 267 268 .none .none 269 561,nV 362 361 "_law_same" s_same ni 689 326 2 358 359 .none .none 360 692,nV 28 27 "ends" rR Qv 196 5 2 22 23 (.ref 24) (.ref 25) 26 201,nV 35 34 "pieces" m5 Qv 204 7 2 29 30 (.ref 31) (.ref 32) 33 210,nV 45 44 "bar_of" m8 Qv 219 14 3 41 42 .none .none 43 222,nV 40 39 "farthest" kU Qv 213 10 4 36 37 .none .none 38 216,nV 87 86 "take_rows" jG MN 282 38 3 83 84 .none .none 85 285,nV 92 91 "clean_row" j9 MN 288 41 3 88 89 .none .none 90 291,nV 97 96 "next_reach" jK MN 294 47 4 93 94 .none .none 95 297,nV 82 81 "youngest" kQ MN 276 36 1 78 79 .none .none 80 279,nV 77 76 "least_age" j7 MN 263 25 3 71 72 (.ref 73) (.ref 74) 75 273,nV 109 108 "no_make" lT MM 308 66 1 103 104 (.ref 105) (.ref 106) 107 312,nV 114 113 "bare_table" jt MM 315 68 1 110 111 .none .none 112 318,nV 124 123 "fewest_joined" i0 MM 327 78 3 120 121 .none .none 122 330,nV 119 118 "next_table" jr MM 321 71 3 115 116 .none .none 117 324,nV 102 101 "few_tables" jL MM 302 52 4 98 99 .none .none 100 305,nV 131 130 "fewest" m6 Bj 335 81 4 125 126 (.ref 127) (.ref 128) 129 343,kf 159 158 "is_take" "BestMakes.is_take" hZ Bj 380 101 2 153 154 (.ref 155) (.ref 156) 157 388,kf 164 163 "clean_takes" "BestMakes.clean_takes" gJ Bj 391 105 2 160 161 .none .none 162 394,kf 169 168 "halves" "BestMakes.halves" iq Bj 397 110 2 165 166 .none .none 167 400,kf 183 182 "count_anew" "BestMakes.count_anew" gO Bj 411 121 2 177 178 (.ref 179) (.ref 180) 181 420,kf 176 175 "counted" "BestMakes.counted" h9 Bj 403 116 2 170 171 (.ref 172) (.ref 173) 174 408,kf 152 151 "__init__" "BestMakes.__init__" hJ Bj 369 93 4 146 147 (.ref 148) (.ref 149) 150 377,kf 190 189 "numbered" "BestMakes.numbered" hG Bj 423 129 3 184 185 (.ref 186) (.ref 187) 188 434,nV 138 137 "best_of" lU Bj 346 84 4 132 133 (.ref 134) (.ref 135) 136 354,nV 211 210 "young_paper" jz ML 461 142 4 205 206 (.ref 207) (.ref 208) 209 473,nV 228 227 "go_on" oY ML 488 163 3 222 223 (.ref 224) (.ref 225) 226 494,nV 221 220 "few_rows" kS ML 482 155 3 217 218 .none .none 219 485,nV 216 215 "few_paper" j8 ML 476 151 5 212 213 .none .none 214 479,nV 276 275 "_law_near" rN ni 564 235 1 272 273 .none .none 274 567,nV 293 292 "_law_far" wN ni 587 253 3 289 290 .none .none 291 590,nV 303 302 "_law_fars" qe ni 599 263 2 299 300 .none .none 301 602,nV 288 287 "_law_barred" m7 ni 581 247 2 284 285 .none .none 286 584,nV 310 309 "_law_row_good" kR ni 605 265 4 304 305 (.ref 306) (.ref 307) 308 616,nV 317 316 "_law_above" o3 ni 619 279 4 311 312 (.ref 313) (.ref 314) 315 627,nV 329 328 "_law_falls" oZ ni 642 294 2 325 326 .none .none 327 645,nV 336 335 "_law_table_good" jJ ni 648 296 5 330 331 (.ref 332) (.ref 333) 334 658,nV 324 323 "_law_young_good" jI ni 630 284 4 318 319 (.ref 320) (.ref 321) 322 639,nV 343 342 "_law_few_good" kT ni 661 306 5 337 338 (.ref 339) (.ref 340) 341 672,nV 350 349 "_law_whole" oW ni 675 318 1 344 345 (.ref 346) (.ref 347) 348 679,nV 283 282 "_law_made" rO ni 570 237 3 277 278 (.ref 279) (.ref 280) 281 578,nV 357 356 "_law_form" rQ ni 682 320 1 351 352 (.ref 353) (.ref 354) 355 686,nV 369 368 "_law_tuples" m4 ni 695 336 1 363 364 (.ref 365) (.ref 366) 367 699,nV 235 234 "answer" m9 ML 497 167 3 229 230 (.ref 231) (.ref 232) 233 507,nV 376 375 "_law_good" rP ni 702 338 4 370 371 (.ref 372) (.ref 373) 374 712,nV 383 382 "law" nO ni 715 351 1 377 378 (.ref 379) (.ref 380) 381 727]
def hk:W.Hook:=W.kHook kk [3,200,199,68,67,55,54,242,241,249,248,254,253,259,258,266,265,271,270,362,361,28,27,35,34,45,44,40,39,87,86,92,91,97,96,82,81,77,76,109,108,114,113,124,123,119,118,102,101,131,130,159,158,164,163,169,168,183,182,176,175,152,151,190,189,138,137,211,210,228,227,221,220,216,215,276,275,293,292,303,302,288,287,310,309,317,316,329,328,336,335,324,323,343,342,350,349,283,282,357,356,369,368,235,234,376,375,383,382] (λ_=>by kernel_rfl)
def lw:W.OpenLaw:=PySem.Challenge.rw_hissroom_k23_whole_answer_shown
def qq:ah:={ lw.prog with main:={ lw.prog.main with body:=[nO]}}
def ll:au Str:=[sS "_wall",sS "ends",sS "pieces",sS "farthest",sS "bar_of",sS "HissError",sS "BadNumber",sS "least_age",sS "youngest",sS "take_rows",sS "clean_row",sS "next_reach",sS "few_tables",sS "no_make",sS "bare_table",sS "next_table",sS "fewest_joined",sS "fewest",sS "best_of",sS "BestMakes",sS "young_paper",sS "few_paper",sS "few_rows",sS "go_on",sS "answer",sS "_law_box",sS "_law_take",sS "_law_bars",sS "_law_cuts",sS "_law_patched",sS "_law_shelf",sS "_law_near",sS "_law_made",sS "_law_barred",sS "_law_far",sS "_law_own",sS "_law_fars",sS "_law_row_good",sS "_law_above",sS "_law_young_good",sS "_law_falls",sS "_law_table_good",sS "_law_few_good",sS "_law_whole",sS "_law_form",sS "_law_same",sS "_law_tuples",sS "_law_good"]
def xt (s:ak):Bool:=W.xlAt qq [] s&&W.recOk (W.RowW.records lw.row.toRowW) s
def left:W.LeftO lw.prog qq ll xt hk.obs hk.val 2297:=Ou (M:=2297) (by kernel_rfl) rfl (λs=>by kernel_rfl) rfl (λw os=>by kernel_rfl)
def Yy:lw.wellSaid=true:=(congrFun W.Fast.te9446332074065402090 lw).trans (by kernel_rfl)
def dd:DefRec:=⟨"law",jY nO,jB nO,fR nO,To nO⟩
def holds (F:W.WalkO qq ll (W.XL qq []) hk.says lw.row.toRowW dd [] (λf vs=>PySem.call f vs)):lw.Holds:=W.holds_law Yy λk1=>W.holds_open (q:=qq) (loose:=ll) (Xt:=xt) (XP:=W.XL qq []) (d:=dd) (kwd:=[]) left hk.of hk.keeps (λs e=>W.xl_of s (Bool.and_eq_true_iff.mp e).1) W.XL.keeps (by kernel_rfl) (by kernel_rfl) rfl (λs e=>W.recFacts_of (Bool.and_eq_true_iff.mp e).2) rfl k1 (by kernel_rfl) ⟨rfl,rfl,rfl,rfl,rfl,by kernel_rfl⟩ ⟨[.list []],by kernel_rfl,by kernel_rfl⟩ F
abbrev lx (f:ah->ai->aa->(Str->av ar)->Heap->Prop)(w:ai)(mg:Str->av ar)(fK:Heap):Prop:=f lw.prog w (kk w.params) mg fK
def fq (w:ai)(x q:Str)(s:Stmt)(f:ao)(pm:ar)(c:ao)(l:(kk w.params).lookup f=some (XM x q s pm c):=by kernel_rfl)(c':W.codeIn (kk w.params) (.ref c) q=true:=by kernel_rfl)(k:W.keepIn (kk w.params) (.ref f)=true:=by kernel_rfl):=Ls l c' k
def nW (w:ai)(x:Str)(s:Stmt)(f:ao)(pm:ar)(c:ao)(l:(kk w.params).lookup f=some (XM x x s pm c):=by kernel_rfl)(c':W.codeIn (kk w.params) (.ref c) x=true:=by kernel_rfl)(k:W.keepIn (kk w.params) (.ref f)=true:=by kernel_rfl):=Ls l c' k
set_option maxHeartbeats 40000000 in
def fin:W.WalkO qq ll (W.XL qq []) hk.says lw.row.toRowW dd [] (λf vs=>PySem.call f vs):=by
 refine L2.M8 (l:=lw) (d:=dd) (n:=63) (k:=220) (x:= "_law_script") (K:=kk) (CX:=λ_=>ku) (sp:=λw=>PZ (kk w.params)) rfl (by decide) rfl ⟨rfl,by decide,by decide⟩ (λw h Y=>W.kIn_of Y) (λw mg fa h X G hfa=>?_) (λ_ _ a ns hl _ hS=>⟨a,ns,rfl,hS,hl,λ_=>rfl⟩) λ_ _ _ _ _ z=>z
 have e:=hfa.symm.trans (W.mg_of X G (show W.nsIn (kk w.params) mainGlobals "law"=sr 383 by kernel_rfl))
 cases e
 have T:lM mg:=⟨bY X G (by kernel_rfl),bY X G (by kernel_rfl),bY X G (by kernel_rfl),bY X G (by kernel_rfl),bY X G (by kernel_rfl),bY X G (by kernel_rfl),bY X G (by kernel_rfl),bY X G (by kernel_rfl),bY X G (by kernel_rfl),bY X G (by kernel_rfl),bY X G (by kernel_rfl),bY X G (by kernel_rfl),bY X G (by kernel_rfl),bY X G (by kernel_rfl),bY X G (by kernel_rfl),bY X G (by kernel_rfl),bY X G (by kernel_rfl)⟩
 have fM:jh (kk w.params) fU:=⟨⟨by kernel_rfl,by kernel_rfl,by kernel_rfl,by kernel_rfl⟩,by kernel_rfl,by kernel_rfl,by kernel_rfl,by kernel_rfl,by kernel_rfl⟩
 have F0:=nW w "_law_box" wO 242 ni 241
 have F1:=nW w "_law_take" rM 249 ni 248
 have F2:=nW w "_law_bars" rT 254 ni 253
 have F3:=nW w "_law_cuts" rS 259 ni 258
 have F4:=nW w "_law_patched" lS 266 ni 265
 have F5:=nW w "_law_shelf" oX 271 ni 270
 have F6:=nW w "_law_same" s_same 362 ni 361
 have F7:=nW w "ends" rR 28 Qv 27
 have F8:=nW w "pieces" m5 35 Qv 34
 have F9:=nW w "bar_of" m8 45 Qv 44
 have F10:=nW w "farthest" kU 40 Qv 39
 have F11:=nW w "take_rows" jG 87 MN 86
 have F12:=nW w "clean_row" j9 92 MN 91
 have F13:=nW w "next_reach" jK 97 MN 96
 have F14:=nW w "youngest" kQ 82 MN 81
 have F15:=nW w "least_age" j7 77 MN 76
 have F16:=nW w "no_make" lT 109 MM 108
 have F17:=nW w "bare_table" jt 114 MM 113
 have F18:=nW w "fewest_joined" i0 124 MM 123
 have F19:=nW w "next_table" jr 119 MM 118
 have F20:=nW w "few_tables" jL 102 MM 101
 have F21:=nW w "fewest" m6 131 Bj 130
 have F22:=fq w "is_take" "BestMakes.is_take" hZ 159 Bj 158
 have F23:=fq w "clean_takes" "BestMakes.clean_takes" gJ 164 Bj 163
 have F24:=fq w "halves" "BestMakes.halves" iq 169 Bj 168
 have F25:=fq w "count_anew" "BestMakes.count_anew" gO 183 Bj 182
 have X2:=fq w "counted" "BestMakes.counted" h9 176 Bj 175
 have F27:=fq w "__init__" "BestMakes.__init__" hJ 152 Bj 151
 have X1:=fq w "numbered" "BestMakes.numbered" hG 190 Bj 189
 have F29:=nW w "best_of" lU 138 Bj 137
 have F30:=nW w "young_paper" jz 211 ML 210
 have F31:=nW w "go_on" oY 228 ML 227
 have F32:=nW w "few_rows" kS 221 ML 220
 have F33:=nW w "few_paper" j8 216 ML 215
 have F34:=nW w "_law_near" rN 276 ni 275
 have F35:=nW w "_law_far" wN 293 ni 292
 have F36:=nW w "_law_fars" qe 303 ni 302
 have F37:=nW w "_law_barred" m7 288 ni 287
 have F38:=nW w "_law_row_good" kR 310 ni 309
 have F39:=nW w "_law_above" o3 317 ni 316
 have F40:=nW w "_law_falls" oZ 329 ni 328
 have F41:=nW w "_law_table_good" jJ 336 ni 335
 have F42:=nW w "_law_young_good" jI 324 ni 323
 have F43:=nW w "_law_few_good" kT 343 ni 342
 have F44:=nW w "_law_whole" oW 350 ni 349
 have Xb:=nW w "_law_made" rO 283 ni 282
 have Xa:=nW w "_law_form" rQ 357 ni 356
 have W9:=nW w "_law_tuples" m4 369 ni 368
 have F48:=nW w "answer" m9 235 ML 234
 have F49:=nW w "_law_good" rP 376 ni 375
 have F50:=nW w "law" nO 383 ni 382
 refine⟨W.fnOf "law" "law" (jY nO) (jB nO) (fR nO) .none .none .none ni none (.ref 382) .none,λs v=>.of_eq rfl,λfK X0 G0=>?_⟩
 have nY:=RU (x:= "BadNumber") (C:=l6) (h:=fK) X0 G0 (by kernel_rfl) (by kernel_rfl)
 have C0:lx QY w mg fK:=gG X G F0 (R5 F0 T ) (MT F0)
 have C1:lx uL w mg fK:=gG X G F1 (N6 F1 T ) (EH F1)
 have C2:lx Ml w mg fK:=gG X G F2 (Oc F2 T  C1) (EH F2)
 have C3:lx Mj w mg fK:=gG X G F3 (Ob F3 T  C1) (EH F3)
 have C4:lx zg w mg fK:=gG X G F4 (D0 F4 T  C1) (Ja F4)
 have C5:lx GL w mg fK:=gG X G F5 (Kz F5 T  C1 C2 C3 C4) (EH F5)
 have C6:lx Md w mg fK:=gG X G F6 ((FC F6 T  (W.mg_of X G (by kernel_rfl)) F6.kp (EH F6)  5).imp λvs H Q E h=>JM h) (EH F6)
 have C7:lx pB w mg fK:=gG X G F7 (Oa F7 T ) (EH F7)
 have C8:lx CO w mg fK:=gG X G F8 (HB F8 T  C7) (EH F8)
 have C9:lx tS w mg fK:=gG X G F9 (HE F9 T  C8) (IE F9)
 have C10:lx xI w mg fK:=gG X G F10 (B9 F10 T  C7) (Ja F10)
 have X3:lx my w mg fK:=gG X G F11 (Ab F11 T  C7 C10) (IE F11)
 have C12:lx qy w mg fK:=gG X G F12 (Ae F12 T ) (IE F12)
 have C13:lx pz w mg fK:=gG X G F13 (ya F13 T  C12) (Ja F13)
 have C14:lx sq w mg fK:=gG X G F14 (B1 F14 T ) (MT F14)
 have C15:lx qx w mg fK:=gG X G F15 (Ac F15 T  C9 C7 X3 C14 C13) (IE F15)
 have C16:lx qV w mg fK:=gG X G F16 (D1 F16 T ) (MT F16)
 have C17:lx tR w mg fK:=gG X G F17 (yc F17 T  C16) (MT F17)
 have C18:lx pL w mg fK:=gG X G F18 (uA F18 T ) (IE F18)
 have C19:lx tQ w mg fK:=gG X G F19 (x9 F19 T  C16 C18) (IE F19)
 have C20:lx mT w mg fK:=gG X G F20 (yb F20 T  C7 X3 C17 C14 C19 C12) (Ja F20)
 have C21:lx CP w mg fK:=gG X G F21 (HC F21 T  C20) (Ja F21)
 have C22:lx ja w mg fK:=tN F22 (qh F22 T fM) (EH F22)
 have C23:lx iC w mg fK:=tN F23 (om F23 T fM) (EH F23)
 have C24:lx jg w mg fK:=tN F24 (qY F24 T fM) (EH F24)
 have C26:lx jC w mg fK:=tN X2 (yO X2 F25 T fM ⟨by kernel_rfl,by kernel_rfl,by kernel_rfl⟩ ⟨by kernel_rfl,by kernel_rfl,by kernel_rfl⟩ (X2.binds λ_ _ _ _ _ _=>GR λ_=>Q0 λ_=>rfl) (F25.binds λ_ _ _ _ _ _=>GR λ_=>Q0 λ_=>rfl) C22 C23 C24 71) (EH X2)
 have C27:lx mC w mg fK:=O7 X G F27 (pU F27 T fM C7 X3 C15 C20) (Ja F27)
 have C28:lx mB w mg fK:=tN X1 (FD X1 T fM ⟨by kernel_rfl,by kernel_rfl,by kernel_rfl⟩ (X1.binds λ_ _ _ _ _ _=>GR λ_=>GR λ_=>Q0 λ_=>rfl) C22 C23 C24 C26 71 (by decide)) (IE X1)
 have C29:lx zh w mg fK:=O6 X G F29 (D2 F29 T fM nY C9 C27 C26 C28) (Ja F29)
 have C30:lx rH w mg fK:=gG X G F30 (w5 F30 T  C7 X3 C13) (Ja F30)
 have C31:lx GN w mg fK:=gG X G F31 (KA F31 T ) (IE F31)
 have C32:lx xG w mg fK:=gG X G F32 (B7 F32 T  C16 C31) (IE F32)
 have C33:lx ve w mg fK:=gG X G F33 (Ad F33 T  C7 C20 C32) (bd5 F33)
 have C34:lx Me w mg fK:=gG X G F34 (N7 F34 T ) (MT F34)
 have C35:lx QX w mg fK:=gG X G F35 (R4 F35 T ) (IE F35)
 have C36:lx EF w mg fK:=gG X G F36 (N9 F36 T  C35) (EH F36)
 have C37:lx CQ w mg fK:=gG X G F37 (HD F37 T ) (EH F37)
 have C38:lx su w mg fK:=gG X G F38 (B4 F38 T ) (Ja F38)
 have C39:lx AX w mg fK:=gG X G F39 (KD F39 T ) (Ja F39)
 have C40:lx GO w mg fK:=gG X G F40 (KC F40 T ) (EH F40)
 have C41:lx tP w mg fK:=gG X G F41 (x8 F41 T  C38 C40 C39) (bd5 F41)
 have C42:lx tO w mg fK:=gG X G F42 (xZ F42 T  C36 C38 C39) (Ja F42)
 have C43:lx xH w mg fK:=gG X G F43 (B8 F43 T  C36 C41) (bd5 F43)
 have C44:lx AW w mg fK:=gG X G F44 (Kw F44 T ) (MT F44)
 have C45:lx Mf w mg fK:=gG X G Xb (FE Xb T  (W.mg_of X G (by kernel_rfl)) Xb.kp (IE Xb)  63) (IE Xb)
 have C46:lx Mi w mg fK:=gG X G Xa (FF Xa T  (W.mg_of X G (by kernel_rfl)) Xa.kp (MT Xa) C44 63) (MT Xa)
 have C47:lx CN w mg fK:=gG X G W9 (yN W9 T  (W.mg_of X G (by kernel_rfl)) W9.kp (MT W9)  63) (MT W9)
 have C48:lx CS w mg fK:=gG X G F48 (HF F48 T  C9 C15 C21 C29 C30 C33) (IE F48)
 have C49:lx Mh w mg fK:=gG X G F49 (N8 F49 T  C37 C6 C46 C45 C42 C43 C47) (Ja F49)
 exact R3 F50 T  C0 C1 C5 C34 C48 C49
end Pf
theorem PySem.Challenge.cw_hissroom_k23_whole_answer_shown_holds : PySem.Challenge.rw_hissroom_k23_whole_answer_shown.Holds :=
 Pf.holds Pf.fin