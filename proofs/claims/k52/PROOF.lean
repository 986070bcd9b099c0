import PyProof.Rows.All
import Wide.All
import OpenK.AllK
import Wide.FinOn
import Lean
import PyProof.EqAt
import PyProof.EqKinds
import PyProof.TupleCall
import PyProof.NeKinds
import PyProof.ListRange
import PyProof.MaxThree
import PyProof.DictWalks
import PyProof.Rows.SortWalk
import PyProof.Rows.TopTwo
import PyProof.RangeIter
import PyProof.ExcArgsOwn
import PyProof.ExcBaseAll.ValueError
import PyProof.ExcAttrAll.ValueError
import KE.KIsAll
import OpenK.KOwn
import PyProof.StrBlock
import PyProof.DictItems
import PyProof.DictItemsLoops
import PyProof.DictValues
import KE.KRevSl
import KE.KxWritten
import KE.KIntText
import KE.KWords
import PyProof.Rows.StrStrike
import PyProof.Rows.RegReprOcc
import PyProof.MeetsStr2
import PyProof.Rows.StrSplitAre
import PyProof.AttrMissHeap
import PySem.Challenge.RW_hissroom_k52_whole_answers_of_longer_son
set_option autoImplicit true
set_option Elab.async false
set_option linter.all false
set_option maxRecDepth 100000
set_option genSizeOf false
set_option compiler.extract_closed false
set_option bootstrap.genMatcherCode false
set_option maxHeartbeats 4000000
theorem iD {α:Type _}{l:List α}{i:Nat}(h:i<l.length):l[i]?=some l[i]:=List.getElem?_eq_getElem h
theorem kB {α:Type _}{l:List α}{i:Nat}{a:α}(h:l[i]?=some a):∃ h:i<l.length,l[i]=a:=List.getElem?_eq_some_iff.mp h
theorem gP {α β:Type _}{as:List α}(f:α->β):(as.map f).length=as.length:=List.length_map f
theorem kq {α:Type _}{l:List α}{i:Nat}{a:α}(e:l[i]?=some a):a∈l:=List.mem_of_getElem? e
theorem lP {α:Type _}{as bs:List α}:(as++bs).length=as.length+bs.length:=List.length_append
theorem vd {α:Type _}{l₁ l₂:List α}{i:Nat}(h:i<l₁.length):(l₁++l₂)[i]?=l₁[i]?:=List.getElem?_append_left h
theorem qV {α:Type _}{l₁ l₂:List α}{i:Nat}(h:l₁.length<=i):(l₁++l₂)[i]?=l₂[i - l₁.length]?:=List.getElem?_append_right h
theorem ny {α:Type _}{a:α}(b:α){l:List α}(h:a∈l):a∈b::l:=List.mem_cons_of_mem b h
theorem pF {n:Nat}:(List.range n).length=n:=List.length_range
theorem sx (n:Nat):(n:Int).toNat=n:=Int.toNat_natCast n
theorem jw {h:PySem.Heap}{a:PySem.Addr}{u:PySem.Obj}(v:PySem.Obj)(e:h.get? a=some u):(h.push v).get? a=some u:=PySem.Heap.get?_push_of_some v e
theorem fW {α β:Type}{M:PySem.Model}{A:PySem.Around}{E:PySem.Value->PySem.Shared->Prop}{s:PySem.Shared}{m:PySem.Sem α}{f:α->PySem.Sem β}{Q:β->PySem.Shared->Prop}(h:PySem.wpAny M A m (λa s=>PySem.wpAny M A (f a) Q E s) E s):PySem.wpAny M A (m>>=f) Q E s:=PySem.wpAny_bind h
theorem jd {h:PySem.Heap}{a:PySem.Addr}{o:PySem.Obj}(e:h.get? a=some o):a<h.objs.size:=PySem.Heap.lt_size e
theorem mS {α β:Type _}{f:α->β}{l:List α}{i:Nat}:(l.map f)[i]?=(l[i]?).map f:=List.getElem?_map ..
abbrev aa:=PySem.W.Frag
abbrev ah:=PySem.Program
abbrev ai:=PySem.World
abbrev aj:=PySem.FuncData
abbrev ak:=PySem.Shared
abbrev ao:=PySem.Addr
abbrev ar:=PySem.Value
abbrev au:=List.{0}
abbrev av:=Option.{0}
abbrev aw:=@Nat.le_refl
abbrev az:=@PySem.wpAny_pure
abbrev aA:=@List.getD_eq_getElem?_getD
abbrev aB:=@List.map_cons
abbrev aC:=@Nat.ne_of_lt
abbrev aD:=@PySem.Heap.get?_push_size
abbrev aE:=@if_pos
abbrev aF:=@if_neg
abbrev aG:=@List.size_toArray
abbrev aH:=@List.mem_cons_self
abbrev aI:=@decide_eq_true
abbrev aJ:=@List.getElem_of_mem
abbrev aK:=@Option.some.inj
abbrev aL:=@Nat.lt_of_lt_of_le
abbrev aM:=@Bool.false_ne_true
abbrev aN:=@List.not_mem_nil
abbrev aO:=@decide_eq_false
abbrev aP:=@PyProof.Rows.boot_isinstance
abbrev aQ:=@List.map_map
abbrev aR:=@PySem.Heap.size_push
abbrev aS:=@PyProof.Rows.callWith_type1
abbrev aT:=@PySem.wpAny_field
abbrev aU:=@List.mem_append_right
abbrev aV:=@Nat.le_trans
abbrev aW:=@List.getElem?_set_self
abbrev aX:=@PySem.Heap.get?_update_other
abbrev aY:=@List.getElem?_range
abbrev aZ:=@Nat.sub_self
abbrev a6:=@List.mem_cons
abbrev a8:=@List.length_cons
abbrev a9:=@List.length_replicate
abbrev ba:=@PySem.PassesOwn.never
abbrev bc:=@Nat.le_add_right
abbrev bg:=@List.length_take
abbrev bh:=@PyProof.Rows.boot_list
abbrev bj:=@PySem.wpAny_setField_rec
abbrev bo:=@List.mem_of_mem_take
abbrev bp:=@List.getElem?_set_ne
abbrev bq:=@List.append_assoc
abbrev bu:=@Int.le_trans
abbrev bw:=@Int.le_refl
abbrev bx:=@List.length_singleton
abbrev bz:=@PySem.wpAny_seqItems
abbrev bA:=@Nat.zero_le
abbrev bB:=@List.map_append
abbrev bC:=@Nat.lt_succ_of_lt
abbrev bD:=@Nat.lt_succ_self
abbrev bE:=@Nat.ne_of_gt
abbrev bF:=@PySem.Heap.get?_update_self
abbrev bG:=@List.length_drop
abbrev bH:=@List.length_zipWith
abbrev bI:=@List.getElem?_take_of_lt
abbrev bJ:=@List.getElem_mem
abbrev bL:=@List.drop_eq_getElem_cons
abbrev bM:=@List.drop_of_length_le
abbrev bN:=@PySem.wpAny_holding
abbrev bO:=@List.forIn_cons
abbrev bP:=@PyProof.Rows.boot_max
abbrev bQ:=@List.getElem?_zipWith
abbrev bR:=@of_decide_eq_true
abbrev bS:=@decide_eq_true_eq
abbrev bT:=@List.zipWith_cons_cons
abbrev bU:=@List.take_of_length_le
abbrev bV:=@PySem.wpAny_mono
abbrev bW:=@PySem.W.mg_none_of
abbrev bX:=@Ne.symm
abbrev bY:=@List.map_congr_left
abbrev bZ:=@Nat.min_eq_left
abbrev b7:=@List.find?_cons
abbrev b8:=@List.append_nil
abbrev b9:=@PySem.wpAny_callSpecial?_slot
abbrev cb:=@or_false
abbrev cc:=@List.mem_range
abbrev cf:=@Nat.lt_irrefl
abbrev cg:=@Nat.lt_or_ge
abbrev cj:=@Nat.lt_of_le_of_lt
abbrev ck:=@List.length_set
abbrev cm:=@List.set_set
abbrev cn:=@PySem.F.plainAttrs_list
abbrev cq:=@List.sum_cons
abbrev cu:=@List.filter_cons
abbrev cv:=@Bool.and_eq_true
abbrev cw:=@Int.toNat_of_nonneg
abbrev cx:=@PySem.wpAny_truthy_bool
abbrev cy:=@List.ext_getElem?
abbrev cz:=@PyProof.Rows.boot_int
abbrev cA:=@PySem.wpAny_Call_Name_kw
abbrev cC:=@PySem.Calls.spliced_cons
abbrev cD:=@congrArg
abbrev cE:=@Int.eq_ofNat_of_zero_le
abbrev cF:=@PyProof.Rows.boot_bool
abbrev cG:=@List.take_left
abbrev cH:=@List.filterMap_cons
abbrev cI:=@List.set_append_right
abbrev cJ:=@PySem.wpAny_pyIter_zip
abbrev cK:=@List.zip_cons_cons
abbrev cL:=@List.getElem?_drop
abbrev cM:=@PySem.F.type_list_append
abbrev cO:=@PySem.F.slot_list_append
abbrev cP:=@PySem.wpAny_pyIter_list
abbrev cQ:=@PyProof.Rows.boot_tuple
abbrev cU:=@List.getElem?_replicate
abbrev cV:=@PySem.Calls.spliced_nil
abbrev cW:=@List.range_succ
abbrev cY:=@List.idxOf_cons
abbrev cZ:=@List.foldl_cons
abbrev c0:=@List.take_succ_cons
abbrev c3:=@PySem.F.plain_min_loop
abbrev c4:=@Int.zero_add
abbrev c5:=@PySem.wpAny_letGo
abbrev c6:=@List.any_cons
abbrev c7:=@PySem.wpAny_call_entry
abbrev c8:=@List.all_eq_true
abbrev c9:=@PySem.F.excBase_ValueError
abbrev da:=@PySem.F.slot_tuple_iterator_next
abbrev dc:=@List.length_filter_le
abbrev de:=@PySem.wpAny_updateSeq
abbrev df:=@PySem.wpAny_passesOwn
abbrev dg:=@PySem.codeAny_builtin
abbrev dh:=@beq_false_of_ne
abbrev dj:=@PySem.wpAny_updateSeq_pair
abbrev dk:=@PySem.wpAny_newObj_type
abbrev dm:=@PySem.Around.under_plainId
abbrev dn:=@PySem.wpAny_onRaise
abbrev dq:=@PySem.plainId_quiet
abbrev dr:=@PySem.mem_of_lookup
abbrev dt:=@Nat.le_succ
abbrev du:=@PySem.F.plainAttrs_str
abbrev dw:=@Nat.zero_add
abbrev dz:=@Nat.lt_trans
abbrev dA:=@Int.le_of_lt
abbrev dD:=@PySem.F.slot_zip_next
abbrev dE:=@Bool.eq_iff_iff
abbrev dF:=@PySem.W.kia_one
abbrev dG:=@List.all_cons
abbrev dH:=@PyProof.Rows.boot_min
abbrev dJ:=@PySem.F.slot_enumerate_next
abbrev dM:=@PySem.wpAny_tryCatch
abbrev dN:=@PySem.wpAny_rule
abbrev dP:=@List.mem_append_left
abbrev dQ:=@List.lookup_cons
abbrev dR:=@List.mem_of_find?_eq_some
abbrev dU:=@List.filter_sublist
abbrev dW:=@PySem.Heap.SameBut.update
abbrev dX:=@PySem.F.plain_extend_loop
abbrev dY:=@PySem.wpAny_standAt
abbrev dZ:=@PySem.wpAny_comprehension_free
abbrev d4:=@List.eq_of_mem_replicate
abbrev d7:=@PySem.pushCells_keeps
abbrev d8:=@PySem.Obj.data_mapFields
abbrev d9:=@List.lookup_append
abbrev eh:=@Int.emod_lt_of_pos
abbrev eA:=@Bool.false_eq_true
abbrev eB:=@Array.forIn_toList
abbrev eE:=@PySem.F.slot_list_index
abbrev eF:=@List.getElem?_cons_succ
abbrev eG:=@PySem.wpAny_setField
abbrev eI:=@PySem.wpAny_pyIter_enum
abbrev eJ:=@PySem.wpAny_newTuple
abbrev eK:=@PySem.F.entry_min_loop
abbrev eL:=@Nat.lt_trichotomy
abbrev eM:=@Nat.le_of_lt
abbrev eO:=@List.range_succ_eq_map
abbrev eP:=@List.nodup_append
abbrev eR:=@List.any_eq_false
abbrev eS:=@Bool.and_false
abbrev eT:=@PySem.F.type_str_join
abbrev eV:=@PySem.F.slot_str_join
abbrev eW:=@PyProof.Rows.boot_any
abbrev eX:=@PySem.Obj.isFreed_of_fields
abbrev eY:=@List.getElem?_eq_none
abbrev eZ:=@List.filterMap_eq_map
abbrev e9:=@PySem.wpAny_isInstance
abbrev fb:=@Nat.min_eq_right
abbrev fc:=@List.any_eq_true
abbrev fh:=@List.mem_of_mem_drop
abbrev fj:=@PySem.wpAny_execs_nil
abbrev fk:=@List.mem_filter
abbrev fo:=@List.cons.injEq
abbrev fv:=@Int.emod_nonneg
namespace L2
open PySem PySem.Spec PyProof.Rows
abbrev Key:=Sum Int Str
def y9:Key->ar->Bool
 |.inl k,v=>Value.isInt k v
 |.inr x,v=>Value.isStrOf x v
def Ze (w:ai):Key->Int
 |.inl k=>hashInt k
 |.inr x=>hashStr w x
def jo:∀ {k:Key} {v:ar},y9 k v=true->(∃ i t,k=Sum.inl i/\v=Value.int i t)\/(∃ x t,k=Sum.inr x/\v=Value.str x t)
 | .inl i,v,h=>by obtain⟨t,e⟩:=Value.isInt_shape (k:=i) (v:=v) h;exact .inl ⟨i,t,rfl,e⟩
 | .inr x,v,h=>by obtain⟨t,e⟩:=Value.isStrOf_shape (x:=x) (v:=v) h;exact .inr ⟨x,t,rfl,e⟩
def Ie (i:Int)(t:Tok):y9 (.inl i) (.int i t)=true:=by simp[y9,Value.isInt]
def Ic (x:Str)(t:Tok):y9 (.inr x) (.str x t)=true:=by simp[y9,Value.isStrOf]
def SX (a b:Int):decide ((Sum.inl a:Key)=Sum.inl b)=(a==b):=by
 by_cases e:a=b
 .subst e;simp
 .have h:¬ (Sum.inl a:Key)=Sum.inl b:=λq=>e<|Sum.inl.inj q;rw[aO h];exact(beq_eq_false_iff_ne.mpr e).symm
def SU (a b:Str):decide ((Sum.inr a:Key)=Sum.inr b)=decide (a=b):=by
 by_cases e:a=b
 .subst e;simp
 .have h:¬ (Sum.inr a:Key)=Sum.inr b:=λq=>e<|Sum.inr.inj q;rw[aO h,aO e]
def SW (a:Int)(b:Str):decide ((Sum.inl a:Key)=Sum.inr b)=false:=aO (λq=>nomatch q)
def SV (a:Str)(b:Int):decide ((Sum.inr a:Key)=Sum.inl b)=false:=aO (λq=>nomatch q)
def kA (prog:ah)(w:ai):PySem.KeyKind prog w Key where
 is:=y9
 hash:=Ze w
 inj:=λv a b ha hb=>by
  rcases jo ha with⟨i,t,rfl,rfl⟩|⟨x,t,rfl,rfl⟩
  .rcases jo hb with⟨j,u,rfl,e⟩ | ⟨y,u,rfl,e⟩
   .injection e with e1 _;rw[e1]
   .exact nomatch e
  .rcases jo hb with⟨j,u,rfl,e⟩ | ⟨y,u,rfl,e⟩
   .exact nomatch e
   .injection e with e1 _;rw[e1]
 byValue:=λk v h=>by rcases jo h with⟨i,t,rfl,rfl⟩|⟨x,t,rfl,rfl⟩<;> rfl
 pyHash:=λhv h=>by
  rcases jo hv with⟨i,t,rfl,rfl⟩|⟨x,t,rfl,rfl⟩
  .exact wpAny_pyHash_int h
  .exact wpAny_pyHash_str h
 eqBool:=λhu hv h=>by
  rcases jo hu with⟨i,t,rfl,rfl⟩|⟨x,t,rfl,rfl⟩
  .rcases jo hv with⟨j,u,rfl,rfl⟩ | ⟨y,u,rfl,rfl⟩
   .rw[SX]at h;exact wpAny_eqBool_int h
   .rw[SW]at h;exact SeqAt.EqAt.int_str i t y u _ _ _ _ h
  .rcases jo hv with⟨j,u,rfl,rfl⟩ | ⟨y,u,rfl,rfl⟩
   .rw[SV]at h;exact SeqAt.EqAt.str_int x t j u _ _ _ _ h
   .rw[SU]at h;exact wpAny_eqBool_str h
 «strs»:=λk x t v h=>by
  rcases jo h with⟨i,u,rfl,e⟩|⟨y,u,rfl,e⟩
  .exact nomatch e
  .injection e with e1 _;subst e1;cases v<;>rfl
def Cv (prog:ah)(w:ai)(i:Int)(t:Tok):(kA prog w).is (.inl i) (.int i t)=true:=Ie i t
def Cu (prog:ah)(w:ai)(x:Str)(t:Tok):(kA prog w).is (.inr x) (.str x t)=true:=Ic x t
inductive V where
 |iC|bl (b:Bool)|int (i:Int)|str (x:Str)|IQ (b:Array UInt8)|Rh (b:UInt64)|ref (a:ao)|ty (n:String)
 deriving DecidableEq
def gB:V->ar->Prop
 |.iC,u=>u=Value.none
 |.bl b,u=>u=Value.bool b
 |.int i,u=>∃ t,u=Value.int i t
 |.str x,u=>∃ t,u=Value.str x t
 |.IQ b,u=>∃ t,u=Value.bytes b t
 |.Rh b,u=>∃ t,u=Value.float b t
 |.ref a,u=>u=Value.ref a
 |.ty n,u=>u=Value.type n
abbrev gC:au V->au ar->Prop:=Paired gB
theorem gC.length {xs:au V}{us:au ar}(r:gC xs us):xs.length=us.length:=Paired.length r
theorem gC.get:∀ {xs:au V} {us:au ar} {i:Nat} {x:V},gC xs us->xs[i]?=some x->∃ u,us[i]?=some u/\gB x u
 |_,_,_,_,.nil,e=>by simp at e
 |_,_,0,_,.cons r _,e=>by simp at e;subst e;exact⟨_,rfl,r⟩
 | _,_,i+1,x,.cons _ t,e=>by obtain⟨u,h1,h2⟩:=gC.get (i:=i) (x:=x) t (by simpa using e);exact⟨u,by simpa using h1,h2⟩
theorem gC.set {x:V}{u:ar}(r:gB x u):∀ {xs:au V} {us:au ar} (i:Nat),gC xs us->gC (xs.set i x) (us.set i u)
 |_,_,_,.nil=>.nil
 |_,_,0,.cons _ t=>.cons r t
 |_,_,i+1,.cons q t=>.cons q (gC.set r i t)
def gC.append {xs ys:au V}{us ws:au ar}(h:gC xs us)(s:gC ys ws):gC (xs++ys) (us++ws):=by
 induction h with
 |nil=>exact s
 |cons r t ih=>exact .cons r ih
theorem gC.take:∀ {xs:au V} {us:au ar} (n:Nat),gC xs us->gC (xs.take n) (us.take n)
 |_,_,0,_=>.nil
 |_,_,_+1,.nil=>.nil
 |_,_,n+1,.cons r t=>.cons r (gC.take n t)
theorem gC.drop:∀ {xs:au V} {us:au ar} (n:Nat),gC xs us->gC (xs.drop n) (us.drop n)
 |_,_,0,r=>r
 |_,_,_+1,.nil=>.nil
 |_,_,n+1,.cons _ t=>gC.drop n t
def gC.none_of:∀ {xs:au V} {us:au ar} {i:Nat},gC xs us->xs[i]?=none->us[i]?=none:=λ{xs us i} r e=>by have h1:=r.length;have h2:xs.length<=i:=List.getElem?_eq_none_iff.mp e;exact List.getElem?_eq_none_iff.mpr (by lia)
def q9:av V->av ar->Prop
 |some v,some u=>gB v u
 |none,none=>True
 |_,_=>False
def KV {κ:Type}:au (κ×V)->au (κ×ar)->Prop:=Paired λ(p:κ×V) (q:κ×ar)=>p.1=q.1/\gB p.2 q.2
def kV:Key->V
 |.inl i=>.int i
 |.inr x=>.str x
inductive HO where
 |lst (xs:List V)
 |tup (xs:List V)
 |dK (fO:List (Key×V))|dT (fO:List (List Key×V))
 |set (S:Int->Bool) (n:Nat)
 |ins (C dx:ao) (fs:List (Str×V))
 |own (x:ao)
 |xd (fs:List (Str×V))
 |met (f x:ao)
 |XU (lo hi:Int)
 |CN (o:Obj) (u:HO)
 |Qy (ps:Array ar)
 |ext (φ:Heap->Prop)
abbrev Hp:=ao->av HO
def upd (H:Hp)(a:ao)(o:HO):Hp:=λb=>if b=a then some o else H b
def fX {H:Hp}{a:ao}{o:HO}:upd H a o a=some o:=by unfold upd;rw[aE rfl]
def gp {H:Hp}{a b:ao}{o:HO}(h:b≠a):upd H a o b=H b:=by unfold upd;rw[aF h]
def VR {H:Hp}{a b:ao}{o u:HO}(h:H a=some o)(h':H b=some u)(d:o≠u):a≠b:=by intro e;subst e;rw[h]at h';exact d (aK h')
def gG {H:Hp}{a b:ao}{o:HO}(h:H a=some o)(h':H b=none):a≠b:=by intro e;subst e;rw[h]at h';cases h'
section
variable (P:ah)(w:ai)
def jE (H:Hp)(h:Heap)(a:ao):HO->Prop
 |.lst xs=>xs.length<=sizeLine/\∃(gb:au ar) (n:Nat),gC xs gb/\h.get? a=some { cls:=.type "list",data:=.seq gb.toArray n}
 |.tup xs=>xs.length<=sizeLine/\∃ gb:au ar,gC xs gb/\IsTup h a gb.toArray
 |.dK fO=>fO.length<=sizeLine/\(a==sysModules)=false/\∃ vs,KV fO vs/\h.DictOf (kA P w) a vs
 | .dT fO=>fO.length<=sizeLine/\(a==sysModules)=false/\∃ xs:au (au Key×ao×ar),
  Paired (λ(p:au Key×V) (q:au Key×ao×ar)=>p.1=q.1/\H q.2.1=some (.tup<|p.1.map kV)/\gB p.2 q.2.2) fO xs /\
  ∃ o es ep,h.get? a=some o/\o.ExactDict/\o.data=.dict es ep/\es.toList=xs.map (entryOfKey<|tupleKind<|kA P w)/\(xs.map (·.1)).Nodup
 |.set S n=>h.SetOf (intKind P w) a S n
 | .ins C dx fs=>H dx=some (.own a)/\fs.length<=1000/\dx≠a/\h.get? a=some (W.instObj C dx) /\
  ∃ mA,h.Ns1 dx mA/\(∀ f,q9 (fs.lookup f) (mA f))/\PySem.Within mA (fs.map (·.1))
 |.own _=>∃ o,h.get? a=some o
 |.xd fs=>∃ mA,h.Ns1 a mA/\∀ f,q9 (fs.lookup f) (mA f)
 |.XU lo hi=>∃ t u v,h.get? a=some { cls:=.type "range",data:=.fields #[.int lo t,.int hi u,.int 1 v]}
 |.CN o u=>h.get? a=some o/\jE H h a u
 |.Qy ps=>h.get? a=some { cls:=.none,data:=.fields ps}
 |.met f x=>h.get? a=some (W.methodObj (.ref f)<|.ref x)
 |.ext φ=>φ h/\(∃ o,h.get? a=some o)/\∀ h1 h2:Heap,φ h1->(∀ o,h1.get? a=some o->h2.get? a=some o)->φ h2
def qO (H:Hp)(h:Heap):Prop:=∀ a o,H a=some o->jE P w H h a o
end
section
variable {P:ah}{w:ai}{H H':Hp}{h h':Heap}{a:ao}{o:HO}
theorem jE.lt (x:jE P w H h a o):a<h.objs.size:=by
 cases o with
 |lst xs=>obtain⟨_,_,_,_,e⟩:=x;exact jd e
 |tup xs=>obtain⟨_,_,_,p⟩:=x;exact p.lt
 |dK fO=>obtain⟨_,_,_,_,o,_,_,e,_⟩:=x;exact jd e
 |dT fO=>obtain⟨_,_,_,_,o,_,_,e,_⟩:=x;exact jd e
 |set S n=>obtain⟨o,_,_,_,e,_⟩:=x;exact jd e
 |ins C dx fs=>obtain⟨_,_,_,e,_⟩:=x;exact jd e
 |own y=>obtain⟨_,e⟩:=x;exact jd e
 |xd fs=>obtain⟨_,⟨_,_,_,e,_⟩,_⟩:=x;exact jd e
 |XU lo hi=>obtain⟨_,_,_,e⟩:=x;exact jd e
 |CN ob u=>obtain⟨e,_⟩:=x;exact jd e
 |Qy ps=>exact jd (show h.get? a=some _ from x)
 |met f y=>exact jd (show h.get? a=some _ from x)
 |ext φ=>obtain⟨_,⟨_,e⟩,_⟩:=x;exact jd e
def Paired.Ew {α β:Type}{F G:α->β->Prop}{l₁:au α}{l₂:au β}(h:Paired F l₁ l₂)(f:∀ a b,F a b->G a b):Paired G l₁ l₂:=by
 induction h with
 |nil=>exact .nil
 |cons r t ih=>exact .cons (f _ _ r) ih
def jE.zX (x:jE P w H h a o)(k:∀ b u,(b=a\/H b=some (.own a))->h.get? b=some u->h'.get? b=some u)
 (ho:∀ b,H b=some (.own a)->H' b=some (.own a)) (ht:∀ b xs,H b=some (.tup xs)->H' b=some (.tup xs)):jE P w H' h' a o:=by
 induction o with
 |lst xs=>obtain⟨z,gb,n,r,e⟩:=x;exact⟨z,gb,n,r,k _ _ (.inl rfl) e⟩
 |tup xs=>obtain⟨z,gb,r,ob,e,c⟩:=x;exact⟨z,gb,r,ob,k _ _ (.inl rfl) e,c⟩
 |dK fO=>obtain⟨z,y,vs,r,ob,es,ep,e,c⟩:=x;exact⟨z,y,vs,r,ob,es,ep,k _ _ (.inl rfl) e,c⟩
 | dT fO =>obtain⟨z,y,xs,r,ob,es,ep,e,c⟩:=x;exact⟨z,y,xs,Paired.Ew r λp q z=>⟨z.1,ht _ _ z.2.1,z.2.2⟩,ob,es,ep,k _ _ (.inl rfl) e,c⟩
 |set S n=>obtain⟨ob,es,ep,t,e,c⟩:=x;exact⟨ob,es,ep,t,k _ _ (.inl rfl) e,c⟩
 | ins C dx fs =>obtain⟨d,z,ne,e,mA,⟨od,es,ep,e2,c⟩,r⟩:=x;exact⟨ho _ d,z,ne,k _ _ (.inl rfl) e,mA,⟨od,es,ep,k _ _ (.inr d) e2,c⟩,r⟩
 |own y=>obtain⟨ob,e⟩:=x;exact⟨ob,k _ _ (.inl rfl) e⟩
 |xd fs=>obtain⟨mA,⟨od,es,ep,e,c⟩,r⟩:=x;exact⟨mA,⟨od,es,ep,k _ _ (.inl rfl) e,c⟩,r⟩
 |XU lo hi=>obtain⟨t,u,v,e⟩:=x;exact⟨t,u,v,k _ _ (.inl rfl) e⟩
 |CN ob u ih=>obtain⟨e,q⟩:=x;exact⟨k _ _ (.inl rfl) e,ih q⟩
 | Qy ps =>have e:h.get? a=some { cls:=.none,data:=.fields ps}:=x;show h'.get? a=some { cls:=.none,data:=.fields ps};exact k a _ (.inl rfl) e
 | met f y =>have e:h.get? a=some (W.methodObj (.ref f)<|.ref y):=x;show h'.get? a=some (W.methodObj (.ref f)<|.ref y);exact k a _ (.inl rfl) e
 |ext φ=>obtain⟨p,⟨o,e⟩,st⟩:=x;exact⟨st _ _ p λo q=>k _ _ (.inl rfl) q,⟨o,k _ _ (.inl rfl) e⟩,st⟩
theorem qO.lt (x:qO P w H h)(e:H a=some o):a<h.objs.size:=(x a o e).lt
def qO.fresh (x:qO P w H h)(e:h.objs.size<=a):H a=none:=by
 cases q:H a with
 |none=>rfl
 |some u=>exact absurd (aL (x.lt q) e) (cf _)
def qO.iR (x:qO P w H h)(k:∀ b u,h.get? b=some u->h'.get? b=some u):qO P w H h':=λa o e =>(x a o e).zX (λb u _ q=>k b u q) (λ_ q=>q) λ_ _ q=>q
def qO.laid (x:qO P w H h)(k:∀ b u,h.get? b=some u->h'.get? b=some u)(hp:h.objs.size<=a)(new:jE P w (upd H a o) h' a o):qO P w (upd H a o) h':=λb u e=>by
 have hn:=x.fresh hp;by_cases hb:b=a
 .subst hb;rw[fX]at e;cases e;exact new
 .rw[gp hb]at e;exact(x b u e).zX (λc v _ q=>k c v q) (λc q=>by rw[gp (gG q hn)];exact q) λc xs q=>by rw[gp (gG q hn)];exact q
end
def Rd (H:Hp)(a:ao)(u:HO):Prop:=H a=some u\/∃ o,H a=some (.CN o u)
def Rd.ok {P:ah}{w:ai}{H:Hp}{h:Heap}{a:ao}{u:HO}(r:Rd H a u)(x:qO P w H h):jE P w H h a u:=by
 rcases r with r|⟨o,r⟩
 .exact x a u r
 .obtain⟨_,q⟩:=x a _ r;exact q
def Xs:av HO->Prop
 |some (.lst _)=>True
 |some (.dK _)=>True
 |some (.dT _)=>True
 |some (.set _ _)=>True
 |some (.ins _ _ _)=>True
 |some (.ext _)=>True
 |_=>False
section
variable {P:ah}{w:ai}{H:Hp}{h h':Heap}{x e:ao}{o':HO}
def qO.write (ok:qO P w H h)(mu:Xs (H x))(he:e=x\/H e=some (.own x))(k:∀ b u,b≠e->h.get? b=some u->h'.get? b=some u)(UU:∃ u,h'.get? e=some u)
 (new:jE P w (upd H x o') h' x o'):qO P w (upd H x o') h':=λb u q=>by
 have VO:∀ c y,H c=some (.own y)->c≠x:=λc y r z=>by subst z;rw[r]at mu;exact mu
 have Y2:∀ c xs,H c=some (.tup xs)->c≠x:=λc xs r z=>by subst z;rw[r]at mu;exact mu
 by_cases hb:b=x
 .subst hb;rw[fX]at q;cases q;exact new
 .rw[gp hb]at q;by_cases TC:b=e
  .have q':H b=some (.own x):=by
    rcases he with z|z
    .exact absurd (TC.trans z) hb
    .rw[TC];exact z
   rw[q]at q';cases q'
   obtain⟨v,hv⟩:=UU
   exact⟨v,by rw[TC];exact hv⟩
  .refine(ok b u q).zX (λc v hc r=>k c v ?_ r) (λc r=>by rw[gp (VO c b r)];exact r) λc xs r=>by rw[gp (Y2 c xs r)];exact r
   rcases hc with rfl|hc
   .exact TC
   .rintro rfl;rcases he with z|z
    .exact VO c b hc z
    .rw[hc]at z;cases z;exact hb rfl
end
structure Un (fs ex:List ao)(H H':Hp)(h h':Heap):Prop where
 keep:∀ b o,h.get? b=some o->H b=none->b∉fs->b∉ex->h'.get? b=some o
 slot:∀ b o,h.get? b=some o->H b=none->b∈fs->b∉ex->∃ sl,h'.get? b=some { o with slots:=sl}
 free:∀ b o,h.get? b=some o->H b=none->b∉ex->H' b=none
 there:∀ b o,h.get? b=some o->b∉ex->∃ o',h'.get? b=some o'
 uf:∀ b xs,H b=some (.tup xs)->H' b=some (.tup xs)
 tI:∀ b o u,H b=some (.CN o u)->H' b=some (.CN o u)
 ui:∀ b ps,H b=some (.Qy ps)->∃ more,H' b=some (.Qy<|ps++more)
section
variable {fs fs' ex ex':au ao}{H H1 H2:Hp}{h h1 h2 h':Heap}{a x e:ao}{o:HO}
def Un.any (u:Un fs ex H H1 h h1){b:ao}{ob:Obj}(q:h.get? b=some ob)(n:H b=none)(hx:b∉ex):∃ sl,h1.get? b=some { ob with slots:=sl}:=by
 by_cases hb:b∈fs
 .exact u.slot b ob q n hb hx
 .exact⟨ob.slots,u.keep b ob q n hb hx⟩
def Un.trans (a:Un fs ex H H1 h h1)(b:Un fs ex H1 H2 h1 h2):Un fs ex H H2 h h2 where
 keep:=λc ob q n hc hx=>b.keep c ob (a.keep c ob q n hc hx) (a.free c ob q n hx) hc hx
 slot:=λc ob q n hc hx=>by obtain⟨sl,e1⟩:=a.slot c ob q n hc hx;obtain⟨Vr,e2⟩:=b.slot c _ e1 (a.free c ob q n hx) hc hx;exact⟨Vr,e2⟩
 free:=λc ob q n hx=>by obtain⟨o',e1⟩:=a.there c ob q hx;exact b.free c o' e1 (a.free c ob q n hx) hx
 there:=λc ob q hx=>by obtain⟨o',e1⟩:=a.there c ob q hx;exact b.there c o' e1 hx
 uf:=λc xs q=>b.uf c xs (a.uf c xs q)
 tI:=λc ob xs q=>b.tI c ob xs (a.tI c ob xs q)
 ui:=λc ps q=>by obtain⟨m1,e1⟩:=a.ui c ps q;obtain⟨m2,e2⟩:=b.ui c _ e1;exact⟨m1++m2,by rw[e2,Array.append_assoc]⟩
def Un.iR (k:∀ b u,h.get? b=some u->h'.get? b=some u):Un fs ex H H h h' :=
 ⟨λb ob q _ _ _=>k b ob q,λb ob q _ _ _=>⟨ob.slots,k b ob q⟩,λ_ _ _ n _=>n,λb ob q _=>⟨ob,k b ob q⟩,λ_ _ q=>q,λ_ _ _ q=>q,λ_ ps q=>⟨#[],by rw[q];simp⟩⟩
def Un.refl:Un fs ex H H h h:=Un.iR λ_ _ q=>q
def Un.laid (k:∀ b u,h.get? b=some u->h'.get? b=some u)(hp:h.objs.size<=a)(hn:H a=none):Un fs ex H (upd H a o) h h' where
 keep:=λb u q _ _ _=>k b u q
 slot:=λb u q _ _ _=>⟨u.slots,k b u q⟩
 free:=λb u q n _=>by rw[gp (aC<|aL (jd q) hp)];exact n
 there:=λb u q _=>⟨u,k b u q⟩
 uf:=λb xs q=>by rw[gp (gG q hn)];exact q
 tI:=λb u xs q=>by rw[gp (gG q hn)];exact q
 ui:=λb ps q=>⟨#[],by rw[gp (gG q hn),q];simp⟩
def Un.write (mu:Xs (H x))(he:e=x\/H e=some (.own x))(k:∀ b u,b≠e->h.get? b=some u->h'.get? b=some u)(UU:∃ u,h'.get? e=some u):Un fs ex H (upd H x o) h h':=by
 have hx:∀ b,H b=none->b≠x:=λb n z=>by subst z;rw[n]at mu;exact mu
 have hb:∀ b,H b=none->b≠e:=λb n z=>by
  subst z;rcases he with r|r
  .exact hx b n r
  .rw[n]at r;cases r
 have hm:∀ b u,H b=some u->¬ Xs (some u)->b≠x:=λb u q nm z=>by subst z;rw[q]at mu;exact nm mu
 refine⟨λb u q n _ _=>k b u (hb b n) q,λb u q n _ _=>⟨u.slots,k b u (hb b n) q⟩,λb u q n _=>by rw[gp (hx b n)];exact n,λb u q _=>?_,
  λb xs q=>by rw[gp (hm b _ q λz=>z)];exact q,λb u xs q=>by rw[gp (hm b _ q λz=>z)];exact q,λb ps q=>⟨#[],by rw[gp (hm b _ q λz=>z),q];simp⟩⟩
 by_cases TC:b=e
 .subst TC;exact UU
 .exact⟨u,k b u TC q⟩
end
def XI (h:Heap)(H:Hp):au ao:=(List.range h.objs.size).filter λa=>(H a).isSome
def AH (h:Heap)(H:Hp):Heap:=W.hideAll h (XI h H)
def Iu (h:Heap)(H:Hp):(AH h H).objs.size=h.objs.size:=W.hideAll_size _ _
def LL {h:Heap}{H:Hp}{b:ao}{o:Obj}(e:h.get? b=some o)(n:H b=none):(AH h H).get? b=some o :=
 W.hideAll_get _ e λhm=>by have q:(H b).isSome=true:=(List.mem_filter.mp hm).2;rw[n]at q;simp at q
def OR {h:Heap}{H:Hp}{b:ao}{o:Obj}(e:(AH h H).get? b=some o):h.get? b=some o/\H b=none:=by
 have e':h.get? b=some o:=W.of_hideAll (XI h H) e;refine⟨e',?_⟩;cases q:H b with
 |none=>rfl
 | some x =>have hm:b∈XI h H:=List.mem_filter.mpr ⟨List.mem_range.mpr<|jd e',by simp[q]⟩;have z:(AH h H).get? b=none:=W.hideAll_none (XI h H) hm;rw[z]at e;cases e
def Qe (g h:Heap)(L:ao):au (ao×Obj):=(List.range h.objs.size).filterMap λa=>if a=L\/(g.get? a).isSome=true then none else(h.get? a).map λo=>(a,o)
def rest (g h:Heap)(L d:ao):au (ao×Obj):=(Qe g h L).filter λp=>decide (p.1≠d)
structure Mod (K:aa)(mg:Str->Option ar)(fB:Heap):Prop where
 V3:K.In fB
 glob:fB.Ns mainGlobals mg
 blt:∃ mb,fB.Ns builtinsNs mb/\∀ x:Str,x ≠ "__name__"->mb x=bootBuiltins x
 nolimit:fB.NoLimit
structure Cx where
 prog:ah
 w:ai
 K:aa
 mg:Str->Option ar
 fB:Heap
 A:Around
 N:List Str
 s₀:ak
 H₀:Hp
 env:Env
 fY:List Env
 stack:List Env
 ex:List ao
 fn:Str->Bool
 gH:Bool
 pn:List (ao×Obj)
 xe:ar->ak->Prop
def AK (l:au Env):au ao:=l.filterMap (·.frame)
abbrev Cx.fs (X:Cx):au ao:=AK X.fY
def Xl (sc:Scope)(x:Str):Prop:=sc.names.lookup x=some .local\/sc.names.lookup x=some .cell\/sc.names.lookup x=some .free
def Loc (sc:Scope)(x:Str):Prop:=sc.names.lookup x=some .local\/sc.names.lookup x=some .cell
def Look (env:Env)(h:Heap)(m:Str->av ar)(x:Str)(u:ar):Prop :=
 (env.kindOf x=some .local/\m x=some u)\/((env.kindOf x=some .cell\/env.kindOf x=some .free)/\∃ c,env.cells.lookup x=some c/\h.IsCell c (some u))
structure Cx.Ok (X:Cx):Prop where
 mod:Mod X.K X.mg X.fB
 kind:X.env.scope.kind=.function
 glob:X.env.globals=mainGlobals
 blt:X.env.builtins=builtinsNs
 above:X.s₀.heap.objs.size<=X.env.locals
 inj:∀ x y c,X.env.cells.lookup x=some c->X.env.cells.lookup y=some c->x=y
 has:∀ x,(X.env.kindOf x=some .cell\/X.env.kindOf x=some .free)->∃ c,X.env.cells.lookup x=some c
 Xf:∀ x c,X.fn x=true->X.env.cells.lookup x=some c->X.s₀.heap.objs.size<=c
 hd:X.gH=true->X.A.handled=none
 frames:X.A.frames=some X.stack
 XR:X.stack=X.fY\/(X.stack=X.env::X.fY/\X.env.frame=some X.env.locals)
 U1:∀ b∈X.ex,b≠X.env.locals/\∀ x c,X.env.cells.lookup x=some c->c≠b
 bs:∀ b o,X.fB.get? b=some o->X.s₀.heap.get? b=some o/\X.H₀ b=none
 IS:X.fB.objs.size<=X.s₀.heap.objs.size
 HW:∀ b o,X.fB.get? b=some o->b∉X.ex
 IC:∀ b∈X.ex,b∉X.fs
 tH:X.s₀.heap.FunFrames X.fB X.fY
 Rc:∀ b∈X.fs,X.H₀ b=none
structure Inv (X:Cx)(fA:List (ao×Obj))(σ:List (Option V))(H:Hp)(s:ak):Prop where
 ok:X.Ok
 os:s.os=X.s₀.os
 bare:AllBare s.gens
 fB:Un X.fs X.ex X.H₀ H X.s₀.heap s.heap
 loc:∃ m,s.heap.Ns X.env.locals m/\∀(i:Nat) (x:Str) (v:V),X.N[i]?=some x->σ[i]?=some (some v)->Xl X.env.scope x->∃ u,gB v u/\Look X.env s.heap m x u
 cell:∀ x c,X.env.cells.lookup x=some c->∃ v,s.heap.IsCell c v
 free:H X.env.locals=none
 pG:∀ x c,X.env.cells.lookup x=some c->H c=none
 pin:∀ p∈X.pn++fA,s.heap.get? p.1=some p.2/\H p.1=none/\p.1≠X.env.locals/\p.1∉X.fs/\∀ v,p.2.data≠.cell v
 iH:qO X.prog X.w H s.heap
 len:σ.length=X.N.length
section
variable {X:Cx}{fA:au (ao×Obj)}{σ:au (av V)}{H H':Hp}{s:ak}{h':Heap}
def Cx.Ok.Y5 (ok:X.Ok){b:ao}{o:Obj}(e:X.fB.get? b=some o):b∉X.fs:=λhb=>by have:=(ok.tH.mem hb).1;rw[e]at this;cases this
theorem Inv.bs (I:Inv X fA σ H s):∀ b o,X.fB.get? b=some o->s.heap.get? b=some o/\H b=none:=λb o e =>⟨I.fB.keep b o (I.ok.bs b o e).1 (I.ok.bs b o e).2 (I.ok.Y5 e)<|I.ok.HW b o e,I.fB.free b o (I.ok.bs b o e).1 (I.ok.bs b o e).2<|I.ok.HW b o e⟩
def Inv.bk (I:Inv X fA σ H s):∀ b o,X.fB.get? b=some o->s.heap.get? b=some o:=λb o e=>(I.bs b o e).1
theorem Inv.mod (I:Inv X fA σ H s):Mod X.K X.mg X.fB:=I.ok.mod
def Inv.vS (I:Inv X fA σ H s):X.K.In s.heap:=I.ok.mod.V3.keeps I.bk
def Inv.fr (I:Inv X fA σ H s):∃ m,Fr X.fB X.env.locals s.heap m :=
 let ⟨m,hn,_⟩:=I.loc
 ⟨m,hn,I.bk,aV I.ok.IS I.ok.above⟩
theorem Inv.lt (I:Inv X fA σ H s):X.env.locals<s.heap.objs.size:=let ⟨_,hn,_⟩:=I.loc;hn.lt
def Inv.sz (I:Inv X fA σ H s):X.s₀.heap.objs.size<=s.heap.objs.size:=aV I.ok.above (eM I.lt)
def Inv.Y4 (I:Inv X fA σ H s){a:ao}(h:s.heap.objs.size<=a):a∉X.fs:=λhb=>by obtain⟨_,o,ho,_⟩:=I.ok.tH.mem hb;exact absurd (aL (jd ho)<|aV I.sz h) (cf _)
def Inv.Ue (I:Inv X fA σ H s):∀ x c,X.env.cells.lookup x=some c->c≠X.env.locals:=λx c e z=>by obtain⟨v,o,ho,hd⟩:=I.cell x c e;obtain⟨m,⟨o',es,ep,Tv,Jq,_⟩,_⟩:=I.loc;rw[z,Tv]at ho;cases ho;rw[Jq]at hd;cases hd
theorem Inv.tH (I:Inv X fA σ H s):s.heap.FunFrames X.fB X.fY:=by
 have all:∀(l:au Env),(∀ b∈AK l,b∈X.fs)->X.s₀.heap.FunFrames X.fB l->s.heap.FunFrames X.fB l:=by
  intro l;induction l with
  |nil=>intro _ _;trivial
  | cons env r ih =>intro hs hl;obtain⟨hk,⟨L,o,hf,hn,ho,hd⟩,hr⟩:=hl;have hL:L∈X.fs:=hs L (by unfold AK;rw[cH,hf];exact aH);obtain⟨sl,e⟩:=I.fB.slot L o ho (I.ok.Rc L hL) hL λz=>I.ok.IC L z hL;exact⟨hk,⟨L,_,hf,hn,e,hd⟩,ih (λb hb=>hs b (by unfold AK;rw[cH,hf];exact ny _ hb)) hr⟩
 exact all X.fY (λ_ hb=>hb) I.ok.tH
theorem Inv.stack (I:Inv X fA σ H s):s.heap.FunFrames X.fB X.stack:=by
 rcases I.ok.XR with e|⟨e,hf⟩
 .rw[e];exact I.tH
 .rw[e];obtain⟨m,hn,_⟩:=I.loc;refine .cons (by rw[I.ok.kind];decide) hf hn ?_ I.tH;exact Heap.get?_none_of_le (aV I.ok.IS I.ok.above)
def Inv.wx (I:Inv X fA σ H s):∀ b∈AK X.stack,b∈X.env.locals::X.fs:=λb hb=>by
 rcases I.ok.XR with e|⟨e,hf⟩
 .rw[e]at hb;exact ny _ hb
 .rw[e]at hb;unfold AK at hb;rw[cH,hf]at hb;exact hb
def Inv.sF (I:Inv X fA σ H s):∀ b∈AK X.stack,H b=none:=λb hb=>by
 rcases List.mem_cons.mp (I.wx b hb)with e|hb
 .rw[e];exact I.free
 .obtain⟨_,o,ho,_⟩:=I.ok.tH.mem hb;exact I.fB.free b o ho (I.ok.Rc b hb) λz=>I.ok.IC b z hb
def Inv.step {g':Array GenState}{t':Nat}{d':Drawn}{ch:au ao}(I:Inv X fA σ H s)
 (Gu:∀ b∈ch,(b∈X.ex\/X.s₀.heap.objs.size<=b)/\b≠X.env.locals/\(∀ x c,X.env.cells.lookup x=some c->c≠b)/\∀ p∈X.pn++fA,p.1≠b)
 (keep:∀ b o,b≠X.env.locals->b∉X.fs->b∉ch->s.heap.get? b=some o->H b=none->h'.get? b=some o)
 (slot:∀ b o,b≠X.env.locals->b∈X.fs->b∉ch->s.heap.get? b=some o->H b=none->∃ sl,h'.get? b=some { o with slots:=sl}) (free:∀ b o,b∉ch->s.heap.get? b=some o->H b=none->H' b=none)
 (there:∀ b o,b∉ch->s.heap.get? b=some o->∃ o',h'.get? b=some o')
 (uf:∀ b xs,H b=some (.tup xs)->H' b=some (.tup xs)) (tI:∀ b o u,H b=some (.CN o u)->H' b=some (.CN o u)) (ui:∀ b ps,H b=some (.Qy ps)->∃ more,H' b=some (.Qy<|ps++more))
 (ns:∀ m,s.heap.Ns X.env.locals m->h'.Ns X.env.locals m) (iH:qO X.prog X.w H' h') (hg:AllBare g'):
 Inv X fA σ H' {s with heap:=h',gens:=g',drawn:=d',toks:=t'}:=by
 have neL:∀ b o,X.s₀.heap.get? b=some o->b≠X.env.locals:=λb o e=>aC<|aL (jd e) I.ok.above;have DL:∀ b o,X.s₀.heap.get? b=some o->b∉X.ex->b∉ch:=λb o e hx hb=>by
  rcases(Gu b hb).1 with z|z
  .exact hx z
  .exact absurd (aL (jd e) z) (cf _)
 have cellK:∀ x c,X.env.cells.lookup x=some c->∀ v,s.heap.IsCell c v->h'.IsCell c v:=λx c e v ⟨o,ho,hd⟩=>by
  have VS:c∉ch:=λz=>(Gu c z).2.2.1 x c e rfl;by_cases hc:c∈X.fs
  .obtain⟨sl,q⟩:=slot c o (I.Ue x c e) hc VS ho<|I.pG x c e;exact⟨_,q,hd⟩
  .exact⟨o,keep c o (I.Ue x c e) hc VS ho<|I.pG x c e,hd⟩
 refine⟨I.ok,I.os,hg,⟨λb o e n hb hx=>?_,λb o e n hb hx=>?_,λb o e n hx=>?_,λb o e hx=>?_,λb xs e=>uf b xs<|I.fB.uf b xs e,λb o xs e=>tI b o xs<|I.fB.tI b o xs e,λb ps e=>?_⟩,?_,λx c e=>?_,?_,λx c e=>?_,λp hp=>?_,iH,I.len⟩
 .exact keep b o (neL b o e) hb (DL b o e hx) (I.fB.keep b o e n hb hx) (I.fB.free b o e n hx)
 .obtain⟨sl,e1⟩:=I.fB.slot b o e n hb hx;obtain⟨Vr,e2⟩:=slot b _ (neL b o e) hb (DL b o e hx) e1<|I.fB.free b o e n hx;exact⟨Vr,e2⟩
 .obtain⟨o',e1⟩:=I.fB.there b o e hx;exact free b o' (DL b o e hx) e1 (I.fB.free b o e n hx)
 .obtain⟨o',e1⟩:=I.fB.there b o e hx;exact there b o' (DL b o e hx) e1
 .obtain⟨m1,e1⟩:=I.fB.ui b ps e;obtain⟨m2,e2⟩:=ui b _ e1;exact⟨m1++m2,by rw[e2,Array.append_assoc]⟩
 .obtain⟨m,hn,hl⟩:=I.loc;refine⟨m,ns m hn,λi x v e1 e2 e3=>?_⟩;obtain⟨u,r,l⟩:=hl i x v e1 e2 e3;refine⟨u,r,?_⟩;rcases l with l|⟨k,c,e,z⟩
  .exact .inl l
  .exact .inr ⟨k,c,e,cellK x c e _ z⟩
 .obtain⟨v,z⟩:=I.cell x c e;exact⟨v,cellK x c e v z⟩
 .obtain⟨m,⟨o,_,_,ho,_⟩,_⟩:=I.loc;exact free _ o (λz=>(Gu _ z).2.1 rfl) ho I.free
 .obtain⟨v,o,ho,hd⟩:=I.cell x c e;exact free c o (λz=>(Gu c z).2.2.1 x c e rfl) ho (I.pG x c e)
 .obtain⟨e,n,ne,nf,d⟩:=I.pin p hp;have VS:p.1∉ch:=λz=>(Gu p.1 z).2.2.2 p hp rfl;exact⟨keep p.1 p.2 ne nf VS e n,free p.1 p.2 VS e n,ne,nf,d⟩
def Inv.un {t':Nat}(I:Inv X fA σ H s)(u:Un X.fs [] H H' s.heap h')(iH:qO X.prog X.w H' h'):Inv X fA σ H' { s with heap:=h',toks:=t'}:=by
 obtain⟨m,⟨o,es,ep,ho,r⟩,_⟩:=id I.loc;obtain⟨sl,hL⟩:=u.any ho I.free (by simp);exact I.step (g':=s.gens) (d':=s.drawn) (ch:=[]) (λ_ z=>nomatch z) (λb o _ hb _ e n=>u.keep b o e n hb<|by simp) (λb o _ hb _ e n=>u.slot b o e n hb<|by simp) (λb o _ e n=>u.free b o e n<|by simp) (λb o _ e=>u.there b o e<|by simp) u.uf u.tI u.ui (λm' hm=>by
  obtain⟨o',Rp,ep',Tv,r'⟩:=hm
  rw[ho]at Tv;cases Tv
  exact⟨_,Rp,ep',hL,r'⟩) iH I.bare
def Inv.call {g':Array GenState}{t':Nat}{d':Drawn}{ch:au ao}(I:Inv X fA σ H s)(u:Un (AK X.stack) ch H H' s.heap h')(iH:qO X.prog X.w H' h')(hg:AllBare g')
 (Gu:∀ b∈ch,(b∈X.ex\/X.s₀.heap.objs.size<=b)/\b≠X.env.locals/\(∀ x c,X.env.cells.lookup x=some c->c≠b)/\∀ p∈X.pn++fA,p.1≠b):
 Inv X fA σ H' {s with heap:=h',gens:=g',drawn:=d',toks:=t'}:=by
 obtain⟨m,⟨o,es,ep,ho,r⟩,_⟩:=id I.loc;obtain⟨sl,hL⟩:=u.any ho I.free λz=>(Gu _ z).2.1 rfl;exact I.step (ch:=ch) Gu (λb o hL hb hc e n=>u.keep b o e n (λz=>(List.mem_cons.mp<|I.wx b z).elim hL hb) hc) (λb o _ _ hc e n=>u.any e n hc) (λb o hc e n=>u.free b o e n hc) (λb o hc e=>u.there b o e hc) u.uf u.tI u.ui (λm' hm=>by
  obtain⟨o',Rp,ep',Tv,r'⟩:=hm
  rw[ho]at Tv;cases Tv
  exact⟨_,Rp,ep',hL,r'⟩) iH hg
def Inv.turned {t':Nat}{it:ao}(I:Inv X fA σ H s)(k:∀ b o,b≠it->s.heap.get? b=some o->h'.get? b=some o)(hn:H it=none)(hL:it≠X.env.locals)
 (h1:it∈X.ex\/X.s₀.heap.objs.size<=it) (h2:∀ x c,X.env.cells.lookup x=some c->c≠it) (h3:∀ p∈X.pn++fA,p.1≠it):Inv X fA σ H {s with heap:=h',toks:=t'}:=by
 have nit:∀ b u,H b=some u->b≠it:=λb u e z=>by rw[z,hn]at e;cases e
 refine I.step (g':=s.gens) (d':=s.drawn) (ch:=[it]) (λb hb=>?_) (λb o _ _ hc e _=>k b o (λz=>hc<|by simp[z]) e) (λb o _ _ hc e _=>⟨o.slots,k b o (λz=>hc<|by simp[z]) e⟩) (λ_ _ _ _ n=>n)
  (λb o hc e=>⟨o,k b o (λz=>hc<|by simp[z]) e⟩) (λ_ _ e=>e) (λ_ _ _ e=>e) (λb ps e=>⟨#[],by rw[e];simp⟩) (λm hm=>?_) (λb u e=>?_) I.bare
 .have e:b=it:=by simpa using hb
  subst e
  exact⟨h1,hL,h2,h3⟩
 .obtain⟨o,es,ep,ho,r⟩:=hm;exact⟨o,es,ep,k _ o (bX hL) ho,r⟩
 .refine(I.iH b u e).zX (λc v hc q=>k c v ?_ q) (λ_ q=>q) λ_ _ q=>q;rcases hc with z|z
  .rw[z];exact nit b u e
  .exact nit c _ z
def Inv.tok (I:Inv X fA σ H s)(t:Nat):Inv X fA σ H {s with toks:=t}:=I.un (h':=s.heap) (t':=t) Un.refl I.iH
theorem Inv.iR {t':Nat}(I:Inv X fA σ H s)(k:∀ b u,s.heap.get? b=some u->h'.get? b=some u):Inv X fA σ H {s with heap:=h',toks:=t'}:=I.un (Un.iR k) (I.iH.iR k)
theorem Inv.laid {a:ao}{o:HO}{t':Nat}(I:Inv X fA σ H s)(k:∀ b u,s.heap.get? b=some u->h'.get? b=some u)(hp:s.heap.objs.size<=a)(new:jE X.prog X.w (upd H a o) h' a o):
 Inv X fA σ (upd H a o) {s with heap:=h',toks:=t'}:=I.un (Un.laid k hp<|I.iH.fresh hp) (I.iH.laid k hp new)
theorem Inv.write {x e:ao}{o:HO}{t':Nat}(I:Inv X fA σ H s)(mu:Xs (H x))(he:e=x\/H e=some (.own x))(k:∀ b u,b≠e->s.heap.get? b=some u->h'.get? b=some u)(UU:∃ u,h'.get? e=some u)
 (new:jE X.prog X.w (upd H x o) h' x o):Inv X fA σ (upd H x o) {s with heap:=h',toks:=t'}:=I.un (Un.write mu he k UU) (I.iH.write mu he k UU new)
def Inv.weak {jb:au (av V)}(I:Inv X fA σ H s)(hl:jb.length=σ.length)(w:∀(i:Nat) v,jb[i]?=some (some v)->σ[i]?=some (some v)):Inv X fA jb H s :=
 ⟨I.ok,I.os,I.bare,I.fB,let ⟨m,hn,oN⟩:=I.loc;⟨m,hn,λi x v e1 e2 e3=>oN i x v e1 (w i v e2) e3⟩,I.cell,I.free,I.pG,I.pin,I.iH,hl.trans I.len⟩
def Inv.sQ {pins':au (ao×Obj)}(I:Inv X fA σ H s)(h:∀ p∈pins',s.heap.get? p.1=some p.2/\H p.1=none/\p.1≠X.env.locals/\p.1∉X.fs/\∀ v,p.2.data≠.cell v):Inv X pins' σ H s :=
 ⟨I.ok,I.os,I.bare,I.fB,I.loc,I.cell,I.free,I.pG,λp hp=>(List.mem_append.mp hp).elim (λz=>I.pin p<|dP _ z)<|h p,I.iH,I.len⟩
def Cp {N:au Str}(hN:N.Nodup){i j:Nat}{x:Str}(a:N[i]?=some x)(b:N[j]?=some x):i=j:=by obtain⟨h1,e1⟩:=kB a;obtain⟨h2,e2⟩:=kB b;exact(List.getElem_inj hN).mp (e1.trans e2.symm)
def yN {M:Model}{A:Around}{E:ar->ak->Prop}{i:Nat}{x:Str}{v:V}{u:ar}{Q:Unit->ak->Prop}(I:Inv X fA σ H s)(hN:X.N.Nodup)(hi:X.N[i]?=some x)(hx:Loc X.env.scope x)(r:gB v u)
 (h:∀ s',Inv X fA (σ.set i<|some v) H s'->(∃ a,Heap.SameBut a s.heap s'.heap/\(a=X.env.locals\/X.env.cells.lookup x=some a))->Q () s') (hf:X.fn x=true\/X.env.scope.names.lookup x=some .local:=by first|exact .inl rfl|exact .inr rfl|assumption):wpAny M A (storeName X.env x u) Q E s:=by
 obtain⟨m,hn,hl⟩:=id I.loc;have Z9:(X.env.scope.kind==.class||(X.env.scope.kind==.module&&X.env.locals != X.env.globals))=false:=by rw[I.ok.kind];rfl
 have Wj:i<σ.length:=by rw[I.len];exact(kB hi).1
 have Ue:=I.Ue;have tracked:∀ {a:ao} {h':Heap},(∃ o,s.heap.get? a=some o/\H a=none)->Heap.SameBut a s.heap h'->qO X.prog X.w H h':=λ{a h'} ha hs b ob e=>by
  obtain⟨_,_,Q7⟩:=ha;refine(I.iH b ob e).zX (λc w' hc q=>(hs.2 c ?_).trans q) (λ_ q=>q) λ_ _ q=>q;rintro rfl;rcases hc with rfl|hc
  .rw[Q7]at e;cases e
  .rw[Q7]at hc;cases hc
 rcases hx with hk|hk
 .refine wpAny_storeName_local hk hn (λh' ZH hs=>?_) Z9;obtain⟨oL,_,_,hoL,_⟩:=id hn;refine h _ ⟨I.ok,I.os,I.bare,⟨λb o e n hb hx=>?_,λb o e n hb hx=>?_,I.fB.free,λb o e hx=>?_,I.fB.uf,I.fB.tI,I.fB.ui⟩,⟨_,ZH,λj y v' e1 e2 e3=>?_⟩,λy c e=>?_,I.free,I.pG,λp hp=>?_,tracked ⟨oL,hoL,I.free⟩ hs,by simpa using I.len⟩ ⟨_,hs,.inl rfl⟩
  .exact(hs.2 b<|aC<|aL (jd e) I.ok.above).trans (I.fB.keep b o e n hb hx)
  .obtain⟨sl,e1⟩:=I.fB.slot b o e n hb hx;exact⟨sl,(hs.2 b<|aC<|aL (jd e) I.ok.above).trans e1⟩
  .obtain⟨o',e1⟩:=I.fB.there b o e hx;exact⟨o',(hs.2 b<|aC<|aL (jd e) I.ok.above).trans e1⟩
  .by_cases hj:j=i
   .subst hj;rw[hi]at e1;cases e1;rw[aW Wj]at e2;cases e2;exact⟨u,r,.inl ⟨hk,by simp⟩⟩
   .rw[bp (bX hj)]at e2;obtain⟨u',r',q⟩:=hl j y v' e1 e2 e3;refine⟨u',r',?_⟩;rcases q with⟨k,e⟩|⟨k,c,e,z⟩
    .refine .inl ⟨k,?_⟩;have:y≠x:=λe=>hj<|Cp hN e1<|e▸hi;simp[this,e]
    .exact .inr ⟨k,c,e,z.sameBut hs<|Ue y c e⟩
  .obtain⟨w',z⟩:=I.cell y c e;exact⟨w',z.sameBut hs<|Ue y c e⟩
  .obtain⟨e,n,ne,nf,d⟩:=I.pin p hp;exact⟨(hs.2 p.1 ne).trans e,n,ne,nf,d⟩
 .have ZV:X.fn x=true:=by
   rcases hf with z|z
   .exact z
   .rw[z]at hk;cases hk
  obtain⟨c,hc⟩:=I.ok.has x (.inl hk)
  obtain⟨w',z⟩:=I.cell x c hc
  refine wpAny_storeName_cell I.ok.kind hk hc z (λh' ub hs=>?_)
  obtain⟨oc,hoc,ZE⟩:=id z
  refine h {s with heap:=h'} ⟨I.ok,I.os,I.bare,⟨λb o e n hb hx=>?_,λb o e n hb hx=>?_,I.fB.free,λb o e hx=>?_,I.fB.uf,I.fB.tI,I.fB.ui⟩,⟨m,hn.sameBut hs<|bX<|Ue x c hc,λj y v' e1 e2 e3=>?_⟩,λy c' e=>?_,I.free,I.pG,λp hp=>?_,tracked ⟨oc,hoc,I.pG x c hc⟩ hs,by simpa using I.len⟩ ⟨c,hs,.inr hc⟩
  .exact(hs.2 b<|aC<|aL (jd e)<|I.ok.Xf x c ZV hc).trans (I.fB.keep b o e n hb hx)
  .obtain⟨sl,e1⟩:=I.fB.slot b o e n hb hx;exact⟨sl,(hs.2 b<|aC<|aL (jd e)<|I.ok.Xf x c ZV hc).trans e1⟩
  .obtain⟨o',e1⟩:=I.fB.there b o e hx;exact⟨o',(hs.2 b<|aC<|aL (jd e)<|I.ok.Xf x c ZV hc).trans e1⟩
  .by_cases hj:j=i
   .subst hj;rw[hi]at e1;cases e1;rw[aW Wj]at e2;cases e2;exact⟨u,r,.inr ⟨.inl hk,c,hc,ub⟩⟩
   .rw[bp (bX hj)]at e2;obtain⟨u',r',q⟩:=hl j y v' e1 e2 e3;refine⟨u',r',?_⟩;rcases q with q|⟨k,c',e,z'⟩
    .exact .inl q
    .refine .inr ⟨k,c',e,z'.sameBut hs ?_⟩;rintro rfl;exact hj (Cp hN e1<|I.ok.inj _ _ _ e hc▸hi)
  .by_cases UW:c'=c
   .subst UW;exact⟨_,ub⟩
   .obtain⟨w2,z2⟩:=I.cell y c' e;exact⟨w2,z2.sameBut hs UW⟩
  .obtain⟨e,n,ne,nf,d⟩:=I.pin p hp;refine⟨(hs.2 p.1 ?_).trans e,n,ne,nf,d⟩;intro q;rw[q,hoc]at e;have q':oc=p.2:=aK e;exact d w' (by rw[<- q'];exact ZE)
def wu {M:Model}{A:Around}{E:ar->ak->Prop}{i:Nat}{x:Str}{v:V}{u:ar}{Q:Unit->ak->Prop}(I:Inv X fA σ H s)(hN:X.N.Nodup)(hi:X.N[i]?=some x)(hx:Loc X.env.scope x)(r:gB v u)
 (h:∀ s',Inv X fA (σ.set i<|some v) H s'->Q () s') (hf:X.fn x=true\/X.env.scope.names.lookup x=some .local:=by first|exact .inl rfl|exact .inr rfl|assumption):wpAny M A (storeName X.env x u) Q E s:=
 yN I hN hi hx r (λs' I' _=>h s' I') hf
def Inv.ML {s':ak}{ch:au ao}(I:Inv X fA σ H s)(ho:s'.os=s.os)(u:Un (AK X.stack) ch H H' s.heap s'.heap)(iH:qO X.prog X.w H' s'.heap)(hg:AllBare s'.gens)
 (Gu:∀ b∈ch,(b∈X.ex\/X.s₀.heap.objs.size<=b)/\b≠X.env.locals/\(∀ x c,X.env.cells.lookup x=some c->c≠b)/\∀ p∈X.pn++fA,p.1≠b):Inv X fA σ H' s':=by
 obtain⟨h',g',d',t',o'⟩:=s';have e:o'=s.os:=ho;subst e;exact I.call (g':=g') (t':=t') (d':=d') u iH hg Gu
end
abbrev XK:=ar->av ao->Hp->Prop
abbrev St:=au (av V)
abbrev VK:=V->Hp->Prop
abbrev TE:=St->Hp->VK->Prop
abbrev TT:=St->Hp->(Bool->Hp->Prop)->Prop
abbrev TA:=St->Hp->(au V->Hp->Prop)->Prop
structure Ends where
 nx:St->Hp->Prop
 rt:VK
 bk:St->Hp->Prop:=λ_ _=>False
 ct:St->Hp->Prop:=λ_ _=>False
abbrev TS:=Ends->St->Hp->Prop
def EP (X:Cx)(fA:au (ao×Obj))(σ:St)(Q:VK)(u:ar)(s':ak):Prop:=∃ v H',Inv X fA σ H' s'/\gB v u/\Q v H'
def TP (X:Cx)(fA:au (ao×Obj))(σ:St)(Q:Bool->Hp->Prop)(b:Bool)(s':ak):Prop:=∃ H',Inv X fA σ H' s'/\Q b H'
def AP (X:Cx)(fA:au (ao×Obj))(σ:St)(Q:au V->Hp->Prop)(us:au ar)(s':ak):Prop:=∃ vs H',Inv X fA σ H' s'/\gC vs us/\Q vs H'
def SP (X:Cx)(fA:au (ao×Obj))(D:Ends)(f:Flow)(s':ak):Prop :=
 match f with
 |.next=>∃ jb H',Inv X fA jb H' s'/\D.nx jb H'
 |.brk=>∃ jb H',Inv X fA jb H' s'/\D.bk jb H'
 |.cont=>∃ jb H',Inv X fA jb H' s'/\D.ct jb H'
 |.ret u=>∃ v jb H',Inv X fA jb H' s'/\gB v u/\D.rt v H'
def PE (X:Cx)(e:Expr)(t:TE):Prop :=
 ∀(fA:au (ao×Obj)) (s:ak) (σ:St) (H:Hp) (Q:VK),Inv X fA σ H s->t σ H Q->wpAny (model X.prog X.w) X.A (eval e X.env) (EP X fA σ Q) X.xe s
def PT (X:Cx)(e:Expr)(t:TT):Prop :=
 ∀(fA:au (ao×Obj)) (s:ak) (σ:St) (H:Hp) (Q:Bool->Hp->Prop),Inv X fA σ H s->t σ H Q->wpAny (model X.prog X.w) X.A (isTrue e X.env<|eval e X.env) (TP X fA σ Q) X.xe s
def PW (X:Cx)(e:Expr)(t:TT):Prop :=
 ∀(whole:Sem ar) (fA:au (ao×Obj)) (s:ak) (σ:St) (H:Hp) (Q:Bool->Hp->Prop),Inv X fA σ H s->t σ H Q->wpAny (model X.prog X.w) X.A (isTrue e X.env whole) (TP X fA σ Q) X.xe s
def PW.pt {X:Cx}{e:Expr}{t:TT}(h:PW X e t):PT X e t:=h _
def PA (X:Cx)(es:au Expr)(t:TA):Prop :=
 ∀(pos:Pos) (fA:au (ao×Obj)) (s:ak) (σ:St) (H:Hp) (Q:au V->Hp->Prop),Inv X fA σ H s->t σ H Q->wpAny (model X.prog X.w) X.A (spliced<|backTo pos<|starEach es X.env) (AP X fA σ Q) X.xe s
def PS (X:Cx)(st:Stmt)(t:TS):Prop :=
 ∀(fA:au (ao×Obj)) (s:ak) (σ:St) (H:Hp) (D:Ends),Inv X fA σ H s->t D σ H->wpAny (model X.prog X.w) X.A (exec st X.env) (SP X fA D) X.xe s
def Bt (X:Cx)(st:au Stmt)(t:TS):Prop :=
 ∀(fA:au (ao×Obj)) (s:ak) (σ:St) (H:Hp) (D:Ends),Inv X fA σ H s->t D σ H->wpAny (model X.prog X.w) X.A (execs st X.env) (SP X fA D) X.xe s
def iN {α:Type}{t:Sem α}{Q Q':α->ak->Prop}{M:Model}{A:Around}{E:ar->ak->Prop}{s:ak}(h:wpAny M A t Q E s)(hQ:∀ a s,Q a s->Q' a s):wpAny M A t Q' E s:=bV h hQ λ_ _ x=>x
section
variable {X:Cx}
def bin {a b:Expr}{ta tb:TE}(ha:PE X a ta)(hb:PE X b tb){fA:au (ao×Obj)}{s:ak}{σ:St}{H:Hp}{R:V->V->Hp->Prop}(I:Inv X fA σ H s)(h:ta σ H λx H1=>tb σ H1 λy H2=>R x y H2)
 {α:Type} {Q:α->ak->Prop} {f:ar->ar->Sem α}
 (hf:∀ v u s2 x y H2,Inv X fA σ H2 s2->gB x v->gB y u->R x y H2->wpAny (model X.prog X.w) X.A (f v u) Q X.xe s2):
 wpAny (model X.prog X.w) X.A (eval a X.env) (λv s₁=>wpAny (model X.prog X.w) X.A (eval b X.env) (λu s₂=>wpAny (model X.prog X.w) X.A (f v u) Q X.xe s₂) X.xe s₁) X.xe s:=by
 refine iN (ha fA s σ H _ I h) λv s1 tE=>?_;obtain⟨x,H1,I1,r1,q1⟩:=tE;refine iN (hb fA s1 σ H1 _ I1 q1) λu s2 qU=>?_;obtain⟨y,H2,I2,r2,q2⟩:=qU;exact hf v u s2 x y H2 I2 r1 r2 q2
def YB (i:Nat):TE:=λσ H Q=>∃ v,σ[i]?=some (some v)/\Q v H
def tC (v:V):TE:=λ_ H Q=>Q v H
def Kw {i:Nat}{x:Str}{pos:Pos}(hN:X.N[i]?=some x)(hv:Xl X.env.scope x)(hd:(x==("__debug__" : Str))=false:=by decide)(EL:(x==("__classdict__" : Str))=false:=by decide):PE X (.Name x pos) (YB i):=by
 intro fA s σ H Q I h;obtain⟨v,e,h⟩:=h;obtain⟨m,hn,hl⟩:=I.loc;obtain⟨u,r,l⟩:=hl i x v hN e hv;have fin:EP X fA σ Q u s:=⟨v,H,I,r,h⟩;rcases l with⟨hk,hm⟩|⟨hk,c,hc,vc⟩
 .exact wpAny_Name (wpAny_loadName_local I.ok.kind hk hn hm fin) hd
 .rcases hk with hk | hk
  .exact wpAny_Name (wpAny_loadName_cell I.ok.kind hk hc vc fin) hd
  .exact wpAny_Name (wpAny_loadName_free I.ok.kind hk hc vc fin EL) hd
def ip {i j pos}:PE X (.Constant (.int i) j pos) (tC<|.int i):=λ_ _ _ H _ I h=>wpAny_Constant_int ⟨.int i,H,I.tok _,⟨_,rfl⟩,h⟩
def KH {b j pos}:PE X (.Constant (.bool b) j pos) (tC<|.bl b):=λ_ _ _ H _ I h=>Constant_bool ⟨.bl b,H,I,rfl,h⟩
def Sr {j pos}:PE X (.Constant .none j pos) (tC .iC):=λ_ _ _ H _ I h=>Constant_none ⟨.iC,H,I,rfl,h⟩
def So {x j pos}:PE X (.Constant (.str x) j pos) (tC<|.str x):=λ_ _ _ H _ I h=>Calls.Constant_str ⟨.str x,H,I.tok _,⟨_,rfl⟩,h⟩
def Gl (X:Cx)(x:Str):Prop:=X.env.kindOf x=some .globalImplicit
def Ay {E:ar->ak->Prop}{fA:au (ao×Obj)}{s:ak}{σ:St}{H:Hp}{x:Str}{u:ar}{pos:Pos}{Q:ar->ak->Prop}(I:Inv X fA σ H s)(hg:Gl X x)(hm:X.mg x=some u)(h:Q u s)
 (hd:(x==("__debug__" : Str))=false:=by decide):wpAny (model X.prog X.w) X.A (eval (.Name x pos) X.env) Q E s:=
 Calls.Name_function_global I.ok.kind hg (Calls.loadGlobal_global (by rw[I.ok.glob];exact I.mod.glob.keeps I.bk) hm h) hd
def kc {E:ar->ak->Prop}{fA:au (ao×Obj)}{s:ak}{σ:St}{H:Hp}{x:Str}{u:ar}{pos:Pos}{Q:ar->ak->Prop}(I:Inv X fA σ H s)(hg:Gl X x)(hm:X.mg x=none)(hv:bootBuiltins x=some u)(h:Q u s)
 (hn:x ≠ "__name__":=by decide) (hd:(x==("__debug__" : Str))=false:=by decide):wpAny (model X.prog X.w) X.A (eval (.Name x pos) X.env) Q E s:=by
 obtain⟨mb,h1,h2⟩:=I.mod.blt;exact Calls.Name_function_global I.ok.kind hg (Calls.loadGlobal_builtin (by rw[I.ok.glob];exact I.mod.glob.keeps I.bk) hm (by rw[I.ok.blt];exact h1.keeps I.bk) ((h2 x hn).trans hv) h) hd
def jN {x:Str}{v:V}{u:ar}{pos:Pos}(hg:Gl X x)(hm:X.mg x=none)(hv:bootBuiltins x=some u)(r:gB v u)(hn:x ≠ "__name__":=by decide)(hd:(x==("__debug__" : Str))=false:=by decide):PE X (.Name x pos) (tC v) :=
 λ_ _ _ H _ I h=>kc I hg hm hv ⟨v,H,I,r,h⟩ hn hd
variable {a b:Expr}{ta tb:TE}{pos:Pos}
def PC (X:Cx)(op:CmpOp)(a b:Expr)(t:TE):Prop :=
 ∀(fA:au (ao×Obj)) (s:ak) (σ:St) (H:Hp) (Q:VK),Inv X fA σ H s->t σ H Q ->
  wpAny (model X.prog X.w) X.A (eval a X.env) (λv s₁=>wpAny (model X.prog X.w) X.A (eval b X.env) (λu s₂=>wpAny (model X.prog X.w) X.A (compareOp op v u) (EP X fA σ Q) X.xe s₂) X.xe s₁) X.xe s
def K4 (b:Expr){op:CmpOp}(h:op≠.In)(h2:op≠.NotIn):behindInMarks op b=false:=by
 have e1:(op==CmpOp.In)=false:=by cases op<;>first|rfl|exact absurd rfl h
 have e2:(op==CmpOp.NotIn)=false:=by cases op<;>first|rfl|exact absurd rfl h2
 cases b<;>simp[behindInMarks,e1,e2]
def Vg (ta:TE):TE:=λσ H Q=>ta σ H λx H1=>Q (.bl<|decide (x=.iC)) H1
def QA (ta:TE):TE:=λσ H Q=>ta σ H λx H1=>Q (.bl<|!decide (x=.iC)) H1
def gB.Co {x:V}{v:ar}(r:gB x v):(v==Value.none)=decide (x=.iC):=by
 cases x with
 |iC=>cases r;rfl
 |bl _=>cases r;rfl
 |int _=>obtain⟨t,rfl⟩:=r;rfl
 |str _=>obtain⟨t,rfl⟩:=r;rfl
 |IQ _=>obtain⟨t,rfl⟩:=r;rfl
 |Rh _=>obtain⟨t,rfl⟩:=r;rfl
 |ref _=>cases r;rfl
 |ty _=>cases r;rfl
def Su {j pos'}(ha:PE X a ta):PC X .Is a (.Constant .none j pos') (Vg ta):=by intro fA s σ H Q I h;refine iN (ha fA s σ H _ I h) λv s1 pT=>?_;obtain⟨x,H1,I1,r1,q1⟩:=pT;exact Constant_none (is_none_gen ⟨.bl _,H1,I1,by rw[r1.Co];rfl,q1⟩)
def OF {j pos'}(ha:PE X a ta):PC X .IsNot a (.Constant .none j pos') (QA ta):=by intro fA s σ H Q I h;refine iN (ha fA s σ H _ I h) λv s1 pS=>?_;obtain⟨x,H1,I1,r1,q1⟩:=pS;exact Constant_none (isnot_none_gen ⟨.bl _,H1,I1,by rw[r1.Co];rfl,q1⟩)
def tB (t:TE):TT:=λσ H Q=>t σ H λx H1=>∃ c,x=.bl c/\Q c H1
def Eg {op:CmpOp}{t:TE}(h:PC X op a b t)(h1:behindInMarks op b=false:=by first | exact K4 _ (by decide) (by decide) | rfl):PT X (.Compare a [op] [b] pos) (tB t):=by intro fA s σ H Q I hw;refine wpAny_isTrue_Compare1 (iN (h fA s σ H _ I hw) λv s1 h1=>iN h1 λu s2 h2=>iN h2 λc s3 qk=>?_) h1;obtain⟨x,H1,I1,r1,q1⟩:=qk;obtain⟨d,rfl,q⟩:=q1;cases r1;exact cx ⟨H1,I1,q⟩
variable {tA XQ:TT}{rest:au Expr}
def Vk (t u:TT):TT:=λσ H Q=>t σ H λc H1=>if c=true then u σ H1 Q else Q false H1
def tOr (t u:TT):TT:=λσ H Q=>t σ H λc H1=>if c=true then Q true H1 else u σ H1 Q
def YF (t:TT):TT:=λσ H Q=>t σ H λc H1=>Q (!c) H1
def pw_and1 (ha:PT X a tA):PW X (.BoolOp .And [a] pos) tA:=by
 intro wh fA s σ H Q I h;refine isTrue_and (iN (ha fA s σ H Q I h) λc s1 e=>?_);cases c with
 |true=>exact isTrue_and_nil e
 |false=>exact e
def pw_or1 (ha:PT X a tA):PW X (.BoolOp .Or [a] pos) tA:=by
 intro wh fA s σ H Q I h;refine isTrue_or (iN (ha fA s σ H Q I h) λc s1 e=>?_);cases c with
 |false=>exact isTrue_or_nil e
 |true=>exact e
def pw_and (ha:PT X a tA)(hb:PW X (.BoolOp .And (b::rest) pos) XQ):PW X (.BoolOp .And (a::b::rest) pos) (Vk tA XQ):=by
 intro wh fA s σ H Q I h;refine isTrue_and (iN (ha fA s σ H _ I h) λc s1 rp=>?_);obtain⟨H1,I1,q1⟩:=rp;cases c with
 |true=>exact hb wh fA s1 σ H1 Q I1 q1
 |false=>exact⟨H1,I1,q1⟩
def pw_or (ha:PT X a tA)(hb:PW X (.BoolOp .Or (b::rest) pos) XQ):PW X (.BoolOp .Or (a::b::rest) pos) (tOr tA XQ):=by
 intro wh fA s σ H Q I h;refine isTrue_or (iN (ha fA s σ H _ I h) λc s1 uD=>?_);obtain⟨H1,I1,q1⟩:=uD;cases c with
 |true=>exact⟨H1,I1,q1⟩
 |false=>exact hb wh fA s1 σ H1 Q I1 q1
def Sg (ha:PT X a tA):PT X (.UnaryOp .Not a pos) (YF tA):=by intro fA s σ H Q I h;exact isTrue_not (ha fA s σ H (λc H1=>Q (!c) H1) I h)
def Ej {op}{t:TE}(h:PE X a t):PE X (.BoolOp op [a] pos) t:=λfA s σ H Q I hw=>BoolOp_one (h fA s σ H Q I hw)
def tIf (t:TT)(ta tb:TE):TE:=λσ H Q=>t σ H λc H1=>if c=true then ta σ H1 Q else tb σ H1 Q
def KA {c:Expr}(hc:PT X c tA)(ha:PE X a ta)(hb:PE X b tb):PE X (.IfExp c a b pos) (tIf tA ta tb):=by
 intro fA s σ H Q I h;refine wpAny_IfExp (iN (hc fA s σ H _ I h) λd s1 tE=>?_);obtain⟨H1,I1,q1⟩:=tE;cases d with
 |true=>exact ha fA s1 σ H1 Q I1 q1
 |false=>exact hb fA s1 σ H1 Q I1 q1
end
def qu (K:aa)(H:Hp)(a:ao)(xs:au V):Prop :=
 Rd H a (.lst xs) \/
  ∃(o:Obj) (gb:Array ar) (n:Nat),K.lookup a=some o/\o.cls=.type "list"/\o.dict=none/\o.data=.seq gb n/\gb.size<=sizeLine/\gC xs gb.toList
def Jc (K:aa)(H:Hp)(a:ao)(xs:au V):Prop :=
 Rd H a (.tup xs) \/
  ∃(o:Obj) (gb:Array ar) (n:Nat),K.lookup a=some o/\o.cls=.type "tuple"/\o.data=.seq gb n/\gb.size<=sizeLine/\gC xs gb.toList
def absV:ar->av V
 |.none=>some .iC
 |.bool b=>some (.bl b)
 |.int i _=>some (.int i)
 |.str x _=>some (.str x)
 |.bytes b _=>some (.IQ b)
 |.float b _=>some (.Rh b)
 |.ref a=>some (.ref a)
 |.type n=>some (.ty n)
 |_=>none
def gB.abs {x:V}{u:ar}(r:gB x u):absV u=some x:=by
 cases x with
 |iC=>cases r;rfl
 |bl _=>cases r;rfl
 |int _=>obtain⟨t,rfl⟩:=r;rfl
 |str _=>obtain⟨t,rfl⟩:=r;rfl
 |IQ _=>obtain⟨t,rfl⟩:=r;rfl
 |Rh _=>obtain⟨t,rfl⟩:=r;rfl
 |ref _=>cases r;rfl
 |ty _=>cases r;rfl
theorem gB.inj {x y:V}{u:ar}(r:gB x u)(q:gB y u):x=y:=aK (r.abs.symm.trans q.abs)
theorem gC.inj {xs ys:au V}{us:au ar}(h:gC xs us)(g:gC ys us):xs=ys:=by
 induction h generalizing ys with
 |nil=>cases g;rfl
 | cons r t ih =>
  cases g with
  |cons r' t'=>rw[r.inj r',ih t']
section
variable {X:Cx}{fA:au (ao×Obj)}{σ:St}{H:Hp}{s:ak}{a:ao}{xs ys:au V}
def qu.of {K:aa}(h:H a=some (.lst xs)):qu K H a xs:=.inl (.inl h)
def Jc.of {K:aa}(h:H a=some (.tup xs)):Jc K H a xs:=.inl (.inl h)
def Inv.list (I:Inv X fA σ H s)(h:qu X.K H a xs):∃ gb:au ar,gC xs gb/\PlainL s.heap a gb.toArray/\xs.length<=sizeLine:=by
 rcases h with h|⟨o,gb,n,hk,hc,hd,hs,hz,r⟩
 .obtain⟨z,gb,n,r,e⟩:=h.ok I.iH;exact⟨gb,r,⟨_,n,e,rfl,rfl,rfl⟩,z⟩
 .refine⟨gb.toList,r,⟨o,n,I.vS a o hk,hc,hd,by simpa using hs⟩,?_⟩;have e:=r.length;simp only[Array.length_toList]at e;lia
def Inv.tuple (I:Inv X fA σ H s)(h:Jc X.K H a xs):∃ gb:au ar,gC xs gb/\IsTup s.heap a gb.toArray/\xs.length<=sizeLine:=by
 rcases h with h|⟨o,gb,n,hk,hc,hs,hz,r⟩
 .obtain⟨z,gb,r,p⟩:=h.ok I.iH;exact⟨gb,r,p,z⟩
 .refine⟨gb.toList,r,⟨o,I.vS a o hk,hc,n,by simpa using hs⟩,?_⟩;have e:=r.length;simp only[Array.length_toList]at e;lia
def Inv.Lj (I:Inv X fA σ H s)(h:qu X.K H a xs)(h':qu X.K H a ys):xs=ys:=by
 obtain⟨gb,r,⟨o,n,e,_,_,d⟩,_⟩:=I.list h;obtain⟨its',r',⟨o',n',e',_,_,d'⟩,_⟩:=I.list h';rw[e]at e';cases e';rw[d]at d';injection d' with d1 _;have:gb=its':=by simpa using cD Array.toList d1
 subst this;exact r.inj r'
end
abbrev Cx.yb (X:Cx)(E:ar->ak->Prop):Cx:={ X with xe:=E}
abbrev Cx.UG (X:Cx):Cx:=X.yb λ_ _=>False
theorem Cx.Ok.yb {X:Cx}(ok:X.Ok)(E:ar->ak->Prop):(X.yb E).Ok :=
 ⟨ok.mod,ok.kind,ok.glob,ok.blt,ok.above,ok.inj,ok.has,ok.Xf,ok.hd,ok.frames,ok.XR,ok.U1,ok.bs,ok.IS,ok.HW,ok.IC,ok.tH,ok.Rc⟩
def Cx.Ok.pW {X:Cx}{E:ar->ak->Prop}(ok:(X.yb E).Ok):X.Ok :=
 ⟨ok.mod,ok.kind,ok.glob,ok.blt,ok.above,ok.inj,ok.has,ok.Xf,ok.hd,ok.frames,ok.XR,ok.U1,ok.bs,ok.IS,ok.HW,ok.IC,ok.tH,ok.Rc⟩
section
variable {X:Cx}{fA:au (ao×Obj)}{σ:St}{H:Hp}{s:ak}{E:ar->ak->Prop}
theorem Inv.yb (I:Inv X fA σ H s)(E:ar->ak->Prop):Inv (X.yb E) fA σ H s:=⟨I.ok.yb E,I.os,I.bare,I.fB,I.loc,I.cell,I.free,I.pG,I.pin,I.iH,I.len⟩
theorem Inv.pW (I:Inv (X.yb E) fA σ H s):Inv X fA σ H s:=⟨I.ok.pW,I.os,I.bare,I.fB,I.loc,I.cell,I.free,I.pG,I.pin,I.iH,I.len⟩
theorem SP.pW {D:Ends}{f:Flow}{s':ak}(h:SP (X.yb E) fA D f s'):SP X fA D f s':=by
 cases f with
 |next=>obtain⟨jb,H',I,q⟩:=h;exact⟨jb,H',I.pW,q⟩
 |brk=>obtain⟨jb,H',I,q⟩:=h;exact⟨jb,H',I.pW,q⟩
 |cont=>obtain⟨jb,H',I,q⟩:=h;exact⟨jb,H',I.pW,q⟩
 |ret u=>obtain⟨v,jb,H',I,r,q⟩:=h;exact⟨v,jb,H',I.pW,r,q⟩
theorem Bt.UG {st:au Stmt}{t:TS}(h:Bt X.UG st t):Bt X st t:=λfA s σ H D I hw =>bV (h fA s σ H D (I.yb _) hw) (λ_ _ q=>q.pW) λ_ _ z=>False.elim z
end
section
variable {X:Cx}{st:Stmt}{rest:au Stmt}{t u:TS}{e:Expr}{te:TE}{pos:Pos}
def Vf:TS:=λD σ H=>D.nx σ H
def YD (t u:TS):TS:=λD σ H=>t { D with nx:=u D} σ H
def nN:Bt X [] Vf:=λ_ _ σ H _ I h=>fj ⟨σ,H,I,h⟩
def iU (h1:PS X st t)(h2:Bt X rest u):Bt X (st::rest) (YD t u):=by
 intro fA s σ H D I h;refine wpAny_execs_cons (iN (h1 fA s σ H { D with nx:=u D} I h) λf s1 q=>?_);cases f with
 | next =>obtain⟨jb,H',I',q⟩:=q;exact h2 fA s1 jb H' D I' q
 |ret v=>exact q
 |brk=>exact q
 |cont=>exact q
def lE (h1:PS X st t):Bt X [st] t:=by
 intro fA s σ H D I h;refine wpAny_execs_cons (iN (h1 fA s σ H D I h) λf s1 q=>?_);cases f with
 |next=>exact fj q
 |ret v=>exact q
 |brk=>exact q
 |cont=>exact q
def Inv.quiet {fA:au (ao×Obj)}{σ:St}{H:Hp}{s:ak}(I:Inv X fA σ H s):interactive X.env=false:=by simp[interactive,I.ok.kind]
def Vh (te:TE):TS:=λD σ H=>te σ H λ_ H1=>D.nx σ H1
def Ou (he:PE X e te)(hs:swapsWith e none pos.line X.env=pure false:=by rfl):PS X (.Expr e pos) (Vh te):=by intro fA s σ H D I h;exact wpAny_Expr_any (iN (he fA s σ H _ I h) λv s1 qU=>by obtain⟨x,H1,I1,r1,q1⟩:=qU;exact⟨σ,H1,I1,q1⟩) I.quiet hs
def YE (te:TE):TS:=λD σ H=>te σ H D.rt
def n8 (he:PE X e te):PS X (.Return (some e) pos) (YE te):=by intro fA s σ H D I h;exact wpAny_Return_some (iN (he fA s σ H _ I h) λv s1 pT=>by obtain⟨x,H1,I1,r1,q1⟩:=pT;exact⟨x,σ,H1,I1,r1,q1⟩)
def YH (c:TT)(t u:TS):TS:=λD σ H=>c σ H λb H1=>if b=true then t D σ H1 else u D σ H1
def uZ {c:Expr}{a b:au Stmt}{tc:TT}(hc:PT X c tc)(ha:Bt X a t)(hb:Bt X b u):PS X (.If c a b pos) (YH tc t u):=by
 intro fA s σ H D I h;refine wpAny_If (iN (hc fA s σ H _ I h) λd s1 pS=>?_);obtain⟨H1,I1,q1⟩:=pS;cases d with
 |true=>exact ha fA s1 σ H1 D I1 q1
 |false=>exact hb fA s1 σ H1 D I1 q1
end
abbrev TG:=V->St->Hp->(St->Hp->Prop)->Prop
abbrev Hf:=au V->St->Hp->(St->Hp->Prop)->Prop
def PG (X:Cx)(target:Expr)(t:TG):Prop :=
 ∀(fA:au (ao×Obj)) (s:ak) (σ:St) (H:Hp) (v:V) (u:ar) (Q:St->Hp->Prop),Inv X fA σ H s->gB v u->t v σ H Q ->
  wpAny (model X.prog X.w) X.A (assign target X.env u) (λ_ s'=>∃ jb H',Inv X fA jb H' s'/\Q jb H') X.xe s
def Nh (X:Cx)(ts:au Expr)(t:Hf):Prop :=
 ∀(fA:au (ao×Obj)) (s:ak) (σ:St) (H:Hp) (vs:au V) (us:au ar) (Q:St->Hp->Prop),Inv X fA σ H s->gC vs us->t vs σ H Q ->
  wpAny (model X.prog X.w) X.A (assignInOrder ((assignEach ts X.env).map (·.2)) us) (λ_ s'=>∃ jb H',Inv X fA jb H' s'/\Q jb H') X.xe s
abbrev Fj:=V->V->V->Hp->(Hp->Prop)->Prop
def Qj (X:Cx)(t:Fj):Prop :=
 ∀(fA:au (ao×Obj)) (s:ak) (σ:St) (H:Hp) (o i v:V) (ov iv u:ar) (Q:Hp->Prop),Inv X fA σ H s->gB o ov->gB i iv->gB v u->t o i v H Q ->
  wpAny (model X.prog X.w) X.A (setItem ov iv u) (λ_ s'=>∃ H',Inv X fA σ H' s'/\Q H') X.xe s
abbrev RD:=V->V->Hp->VK->Prop
def Um (X:Cx)(op:Operator)(t:RD):Prop :=
 ∀(fA:au (ao×Obj)) (s:ak) (σ:St) (H:Hp) (x y:V) (v u:ar) (Q:VK),Inv X fA σ H s->gB x v->gB y u->t x y H Q ->
  wpAny (model X.prog X.w) X.A (inplaceOp op v u) (EP X fA σ Q) X.xe s
section
variable {X:Cx}{pos:Pos}
def tG (i:Nat):TG:=λv σ H Q=>Q (σ.set i<|some v) H
def vM {i:Nat}{x:Str}(hN:X.N.Nodup)(hi:X.N[i]?=some x)(hx:Loc X.env.scope x)(hf:X.fn x=true\/X.env.scope.names.lookup x=some .local:=by first | exact .inl rfl | exact .inr rfl | assumption):PG X (.Name x pos) (tG i):=by intro fA s σ H v u Q I r h;exact wpAny_assign_Name (wu I hN hi hx r (λs' I'=>⟨_,H,I',h⟩) hf)
def gNil:Hf:=λvs σ H Q=>vs=[]/\Q σ H
def Wx (t:TG)(u:Hf):Hf:=λvs σ H Q=>∃ v r,vs=v::r/\t v σ H λjb H'=>u r jb H' Q
def OA:Nh X [] gNil:=by intro fA s σ H vs us Q I r h;obtain⟨e,h⟩:=h;subst e;cases r;exact assignInOrder_nil ⟨σ,H,I,h⟩
def Kv {e:Expr}{es:au Expr}{t:TG}{u:Hf}(h1:PG X e t)(h2:Nh X es u)
 (hs:(assignEach (e::es) X.env).map (·.2)=assign e X.env::(assignEach es X.env).map (·.2):=by rfl):Nh X (e::es) (Wx t u):=by
 intro fA s σ H vs us Q I r h;obtain⟨v,vr,e1,h⟩:=h;subst e1;cases r with
 | cons r rr =>rw[hs];refine assignInOrder_cons (iN (h1 fA s σ H _ _ _ I r h) λ_ s1 qk=>?_);obtain⟨Qr,H1,I1,q1⟩:=qk;exact h2 fA s1 Qr H1 _ _ Q I1 rr q1
def gTup (K:aa)(n:Nat)(t:Hf):TG:=λv σ H Q=>∃ a xs,v=.ref a/\Jc K H a xs/\xs.length=n/\t xs σ H Q
def Sm {es:au Expr}{k:Nat}{t:Hf}{n:Nat}(hc:X.gH=true)(h:Nh X es t)
 (hn:(assignEach es X.env).length=n:=by rfl) (LG:(assignEach es X.env).findIdx? (·.1)=none:=by rfl):PG X (.Tuple es k pos) (gTup X.K n t):=by
 intro fA s σ H v u Q I r hw;obtain⟨a,xs,e1,hq,hl,hw⟩:=hw;subst e1;cases r;obtain⟨gb,rv,ht,hz⟩:=I.tuple hq;refine assign_Tuple_tuple (I.ok.hd hc) ht (by simp[hn,<- hl,rv.length]) LG λh' hx=>?_;have I1:Inv X fA σ H {s with heap:=h'}:=I.iR (t':=s.toks) λb o e=>hx b o (aC<|jd e) e;exact h fA _ σ H xs _ Q I1 (by simpa using rv) hw
def gSub (to ti:TE)(t:Fj):TG:=λv σ H Q=>to σ H λo H1=>ti σ H1 λi H2=>t o i v H2 λH3=>Q σ H3
def wM {o i:Expr}{to ti:TE}{t:Fj}(ho:PE X o to)(hi:PE X i ti)(hs:Qj X t)
 (ha:∀ v,assign (.Subscript o i pos) X.env v=(do
   let ov <- holding [v] (eval o X.env)
   let iv <- holding [v,ov] (eval i X.env)
   standAt pos
   holding [v,ov,iv] (setItem ov iv v)
   release [v,ov,iv] []):=by intro _;rfl):PG X (.Subscript o i pos) (gSub to ti t):=by
 intro fA s σ H v u Q I r h
 rw[ha]
 refine fW (bN<|iN (ho fA s σ H _ I h) λov s1 rp=>?_)
 obtain⟨x,H1,I1,r1,q1⟩:=rp
 refine fW (bN<|iN (hi fA s1 σ H1 _ I1 q1) λiv s2 uD=>?_)
 obtain⟨y,H2,I2,r2,q2⟩:=uD
 refine fW (dY<|fW<|bN<|iN (hs fA s2 σ H2 x y v ov iv u _ I2 r1 r2 r q2) λ_ s3 tE=>?_)
 obtain⟨H3,I3,q3⟩:=tE
 exact wpAny_release ⟨σ,H3,I3,q3⟩
def RV (te:TE)(g:TG):TS:=λD σ H=>te σ H λx H1=>g x σ H1 D.nx
def uw {tg e:Expr}{te:TE}{g:TG}(he:PE X e te)(hg:PG X tg g)(hs:swapsWithSole [tg] e pos.line X.env=pure false:=by rfl)(hw:swappedStores [tg] e X.env=pure none:=by rfl)
 (h1:(assignEach [tg] X.env).map (·.2)=[assign tg X.env]:=by rfl):PS X (.Assign [tg] e pos) (RV te g):=by
 intro fA s σ H D I h;refine wpAny_Assign_stores (iN (he fA s σ H _ I h) λv s1 qU=>?_) hs hw;obtain⟨x,H1,I1,r1,q1⟩:=qU;rw[h1];exact iN (hg fA s1 σ H1 x v _ I1 r1 q1) λ_ s2 q=>q
def uv {i:Nat}{x:Str}{e:Expr}{te:TE}{pos':Pos}(hN:X.N.Nodup)(hi:X.N[i]?=some x)(hx:Loc X.env.scope x)(he:PE X e te)(hs:swapsWith e (some<|.Name x pos') pos.line X.env=pure false:=by rfl)(hf:X.fn x=true\/X.env.scope.names.lookup x=some .local:=by first | exact .inl rfl | exact .inr rfl | assumption):
 PS X (.Assign [.Name x pos'] e pos) (RV te<|tG i):=by
 intro fA s σ H D I h;refine wpAny_Assign_Name (iN (he fA s σ H _ I h) λv s1 pT=>?_) hs;obtain⟨y,H1,I1,r1,q1⟩:=pT;exact wu I1 hN hi hx r1 (λs2 I2=>⟨_,H1,I2,q1⟩) hf
def YO (i:Nat)(te:TE)(ti:RD):TS:=λD σ H=>∃ x,σ[i]?=some (some x)/\te σ H λy H1=>ti x y H1 λz H2=>D.nx (σ.set i<|some z) H2
def Sj {i:Nat}{x:Str}{e:Expr}{te:TE}{op:Operator}{ti:RD}{pos':Pos}(hN:X.N.Nodup)(hi:X.N[i]?=some x)(hx:Loc X.env.scope x)(he:PE X e te)(ho:Um X op ti)(hf:X.fn x=true\/X.env.scope.names.lookup x=some .local:=by first | exact .inl rfl | exact .inr rfl | assumption):
 PS X (.AugAssign (.Name x pos') op e pos) (YO i te ti):=by
 intro fA s σ H D I h;obtain⟨v,e1,h⟩:=h;obtain⟨m,hn,hl⟩:=I.loc;have vis:Xl X.env.scope x:=by rcases hx with k|k;exact .inl k;exact .inr (.inl k)
 obtain⟨u,r,l⟩:=hl i x v hi e1 vis;refine wpAny_AugAssign_Name ?_;have go:wpAny (model X.prog X.w) X.A (eval e X.env) (λw s₂=>wpAny (model X.prog X.w) X.A (inplaceOp op u w) (λr s₃=>wpAny (model X.prog X.w) X.A (storeName X.env x r) (λ_=>SP X fA D .next) X.xe s₃) X.xe s₂) X.xe s:=by refine iN (he fA s σ H _ I h) λw s1 pS=>?_;obtain⟨y,H1,I1,r1,q1⟩:=pS;refine iN (ho fA s1 σ H1 v y u w _ I1 r r1 q1) λz s2 qk=>?_;obtain⟨zv,H2,I2,r2,q2⟩:=qk;exact wu I2 hN hi hx r2 (λs3 I3=>⟨_,H2,I3,q2⟩) hf
 rcases l with⟨hk,hm⟩|⟨hk,c,hc,vc⟩
 .exact wpAny_loadName_local I.ok.kind hk hn hm go
 .rcases hk with hk | hk
  .exact wpAny_loadName_cell I.ok.kind hk hc vc go
  .rcases hx with k | k
   .have:X.env.scope.names.lookup x=some .free:=hk;rw[k]at this;cases this
   .have:X.env.scope.names.lookup x=some .free:=hk;rw[k]at this;cases this
def Vj (to ti te:TE)(NR:V->V->Hp->VK->Prop)(XM:RD)(NQ:Fj):TS:=λD σ H=>to σ H λo H1=>ti σ H1 λi H2=>NR o i H2 λx H3=>te σ H3 λy H4=>XM x y H4 λz H5=>NQ o i z H5 λH6=>D.nx σ H6
def Xr (X:Cx)(t:V->V->Hp->VK->Prop):Prop :=
 ∀(fA:au (ao×Obj)) (s:ak) (σ:St) (H:Hp) (o i:V) (ov iv:ar) (Q:VK),Inv X fA σ H s->gB o ov->gB i iv->t o i H Q ->
  wpAny (model X.prog X.w) X.A (getItem ov iv) (EP X fA σ Q) X.xe s
def Ov {o i e:Expr}{to ti te:TE}{NR:V->V->Hp->VK->Prop}{XM:RD}{NQ:Fj}{op:Operator}{nW:Pos}(ho:PE X o to)(hi:PE X i ti)(hg:Xr X NR)(he:PE X e te)(hp:Um X op XM)(hs:Qj X NQ)
 (ha:∀ ov iv new,augStore i ov iv new=(do holding [new,ov,iv] (setItem ov iv new);release [new,ov,iv] [];pure .next):=by intros;rfl):PS X (.AugAssign (.Subscript o i nW) op e pos) (Vj to ti te NR XM NQ):=by
 intro fA s σ H D I h;refine wpAny_AugAssign_SubscriptAny (iN (ho fA s σ H _ I h) λov s1 rp=>?_) ha;obtain⟨x1,H1,I1,r1,q1⟩:=rp;refine iN (hi fA s1 σ H1 _ I1 q1) λiv s2 uD=>?_;obtain⟨x2,H2,I2,r2,q2⟩:=uD;refine iN (hg fA s2 σ H2 x1 x2 ov iv _ I2 r1 r2 q2) λold s3 tE=>?_;obtain⟨x3,H3,I3,r3,q3⟩:=tE;refine iN (he fA s3 σ H3 _ I3 q3) λv s4 qU=>?_;obtain⟨x4,H4,I4,r4,q4⟩:=qU;refine iN (hp fA s4 σ H4 x3 x4 old v _ I4 r3 r4 q4) λnew s5 pT=>?_;obtain⟨x5,H5,I5,r5,q5⟩:=pT;exact iN (hs fA s5 σ H5 x1 x2 x5 ov iv new _ I5 r1 r2 r5 q5) λ_ s6 pS=>by obtain⟨H6,I6,q6⟩:=pS;exact⟨σ,H6,I6,q6⟩
def ipI (f:Int->Int->Int):RD:=λx y H Q=>∃ i j,x=.int i/\y=.int j/\Q (.int<|f i j) H
def Th:Um X .Add (ipI λi j=>i+j):=by intro fA s σ H x y v u Q I r1 r2 h;obtain⟨i,j,e1,e2,q⟩:=h;subst e1;subst e2;obtain⟨t,rfl⟩:=r1;obtain⟨t',rfl⟩:=r2;exact iadd_int ⟨.int _,H,I.tok _,⟨_,rfl⟩,q⟩
def Tf:Um X .Sub (ipI λi j=>i - j):=by intro fA s σ H x y v u Q I r1 r2 h;obtain⟨i,j,e1,e2,q⟩:=h;subst e1;subst e2;obtain⟨t,rfl⟩:=r1;obtain⟨t',rfl⟩:=r2;exact isub_int ⟨.int _,H,I.tok _,⟨_,rfl⟩,q⟩
end
section
variable {X:Cx}{pos:Pos}
def RP (c:TT)(tb:TS):TS:=λD σ H=>∃ W:Nat->St->Hp->Prop,(∃ m,W m σ H)/\∀ m σ H,W m σ H ->
 c σ H λb H1=>if b=true then ∃ N:St->Hp->Prop,(∀ jb H',N jb H'->∃ m',m'<m/\W m' jb H')/\tb { D with nx:=N,ct:=N,bk:=D.nx} σ H1 else D.nx σ H1
def Kq {c:Expr}{body:au Stmt}{tc:TT}{tb:TS}(hp:PassesOwn (model X.prog X.w) X.A X.env X.xe)(hc:PT X c tc)(hb:Bt X body tb):PS X (.While c body [] pos) (RP tc tb):=by
 intro fA s σ H D I h;obtain⟨W,⟨m0,w0⟩,turn⟩:=h;refine wpAny_While (codeAny_whileLoop (λn s'=>∃ jb H',Inv X fA jb H' s'/\W n jb H') ?_ m0 ⟨σ,H,I,w0⟩);rintro n s1 ⟨Qr,H1,I1,w1⟩;refine df hp (iN (hc fA s1 Qr H1 _ I1<|turn n Qr H1 w1) λb s2 qk=>?_);obtain⟨H2,I2,q2⟩:=qk;cases b with
 | true =>
  obtain⟨N,hN,q2⟩:=q2;rw[aE rfl];refine df hp (iN (hb fA s2 Qr H2 _ I2 q2) λf s3 q3=>?_);cases f with
  | next =>obtain⟨Ft,H3,I3,n3⟩:=q3;obtain⟨m',hm,w3⟩:=hN Ft H3 n3;exact⟨m',hm,Ft,H3,I3,w3⟩
  | cont =>obtain⟨Ft,H3,I3,n3⟩:=q3;obtain⟨m',hm,w3⟩:=hN Ft H3 n3;exact⟨m',hm,Ft,H3,I3,w3⟩
  |brk=>exact q3
  |ret v=>exact q3
 | false =>rw[aF aM];exact fj ⟨Qr,H2,I2,q2⟩
end
structure It where
 go:Nat->Hp->Prop
 JB:Nat->Hp->V->Hp->Prop
 stop:Nat->Hp->Prop
def mE (X:Cx)(fA:au (ao×Obj))(H:Hp)(b:ao):Prop :=
 H b=none/\b≠X.env.locals/\b∉X.fs/\(b∈X.ex\/X.s₀.heap.objs.size<=b)/\(∀ x c,X.env.cells.lookup x=some c->c≠b)/\∀ p∈X.pn++fA,p.1≠b
def Inv.ES {X:Cx}{fA:au (ao×Obj)}{σ:St}{H H':Hp}{s:ak}{b:ao}(I:Inv X fA σ H s)(hb:s.heap.objs.size<=b)(hn:H' b=none):mE X fA H' b:=by
 refine⟨hn,bE<|aL I.lt hb,I.Y4 hb,.inr<|aV I.sz hb,λx c e z=>?_,λp hp z=>?_⟩
 .obtain⟨v,q⟩:=I.cell x c e;exact absurd (aL q.lt (by rw[z];exact hb)) (cf _)
 .exact absurd (aL (jd (I.pin p hp).1) (by rw[z];exact hb)) (cf _)
structure Turn (P:ah)(w:ai)(K:aa)(tg:Expr)(J:It)(fp:List ao)(it:ao)(tn:Nat->Heap->Prop)(CM:Cx->Prop:=λX=>X.gH=true):Prop where
 mem:it∈fp
 obj:∀ i h,tn i h->∀ b∈fp,∃ o,h.get? b=some o/\∀ v,o.data≠.cell v
 keep:∀ i h h',tn i h->(∀ b∈fp,∀ o,h.get? b=some o->h'.get? b=some o)->tn i h'
 item:∀(X:Cx),X.prog=P->X.w=w->X.K=K->CM X->∀(i:Nat) (fA:List (ao×Obj)) (s:ak) (σ:St) (H:Hp) (E:ar->ak->Prop),Inv X fA σ H s->(∀ b∈fp,mE X fA H b)->tn i s.heap->J.go i H ->
  wpAny (model P w) X.A (pyNext<|.ref it) (λr s1=>∃ u,r=some u /\
   wpAny (model P w) X.A (letOwnedTupleGo tg (.ref it) u) (λ_ s2=>∃ x H',Inv X fA σ H' s2/\gB x u/\J.JB i H x H'/\tn (i+1) s2.heap/\∀ b∈fp,H' b=none) E s1) E s
 done:∀(X:Cx),X.prog=P->X.w=w->X.K=K->CM X->∀(i:Nat) (fA:List (ao×Obj)) (s:ak) (σ:St) (H:Hp) (E:ar->ak->Prop),Inv X fA σ H s->(∀ b∈fp,mE X fA H b)->tn i s.heap->J.stop i H ->
  wpAny (model P w) X.A (pyNext<|.ref it) (λr s1=>r=none/\Inv X fA σ H s1) E s
 self:∀(A:Around) (i:Nat) (s:ak) (Q:ar->ak->Prop) (E:ar->ak->Prop),tn i s.heap->Q (.ref it) s->wpAny (model P w) A (pyIter<|.ref it) Q E s
abbrev TI:=St->Hp->(It->Hp->Prop)->Prop
def PIE (X:Cx)(fA:au (ao×Obj))(σ:St)(tg:Expr)(R:It->Hp->Prop)(V4:ar)(s2:ak):Prop :=
 ∃(it:ao) (fp:au ao) (tn:Nat->Heap->Prop) (J:It) (H':Hp),V4=.ref it/\Inv X fA σ H' s2/\Turn X.prog X.w X.K tg J fp it tn/\tn 0 s2.heap/\(∀ b∈fp,mE X fA H' b)/\R J H'
def PI (X:Cx)(tg iter:Expr)(wi:TI):Prop :=
 ∀(fA:au (ao×Obj)) (s:ak) (σ:St) (H:Hp) (R:It->Hp->Prop),Inv X fA σ H s->wi σ H R ->
  wpAny (model X.prog X.w) X.A (eval iter X.env) (λv s1=>wpAny (model X.prog X.w) X.A (pyIter v) (PIE X fA σ tg R) X.xe s1) X.xe s
def Rb {M:Model}{A:Around}{E:ar->ak->Prop}{s:ak}{tg:Expr}{it:ao}{u:ar}{o:Obj}{n:String}{vs:Array ar}{Q:Unit->ak->Prop}(ho:s.heap.get? it=some o)(hc:o.cls=.type n)(hd:o.data=.fields vs)
 (hn:["enumerate","zip","dict_itemiterator","dict_reverseitemiterator","odict_iterator","itertools.zip_longest","itertools.pairwise"].contains n=false) (hQ:Q () s):wpAny M A (letOwnedTupleGo tg (.ref it) u) Q E s:=by
 unfold letOwnedTupleGo;cases tg <;> first
  |exact az hQ
  | (cases u <;> first
      |exact az hQ
      | (refine fW (wpAny_load ho ?_)
         rw[hc,hd]
         show wpAny M A (if(["enumerate","zip","dict_itemiterator","dict_reverseitemiterator","odict_iterator","itertools.zip_longest","itertools.pairwise"].contains n&&vs[0]?==some (rawInt _))=true then _ else _) Q E s
         rw[aF (by intro h;rw[hn,Bool.false_and]at h;cases h)]
         exact az hQ))
def Itl (K:aa)(a:ao):It :=
 ⟨λi H=>∃ xs x,qu K H a xs/\xs[i]?=some x,λi H x H'=>H'=H/\∀ xs,qu K H a xs->xs[i]?=some x,λi H=>∃ xs,qu K H a xs/\xs.length<=i⟩
def Xu (lo:Int)(n:Nat):It:=⟨λi _=>i<n,λi H x H'=>H'=H/\x=.int (lo+i),λi _=>n<=i⟩
def Hs {P:ah}{w:ai}{K:aa}{tg:Expr}(a it:ao):Turn P w K tg (Itl K a) [it] it (λi h=>h.IsListIter it a i) where
 mem:=by simp
 obj:=λi h st b hb=>by
  have e:b=it:=by simpa using hb
  subst e;obtain⟨o,e,c,d⟩:=st;exact⟨o,e,λv z=>by rw[d]at z;cases z⟩
 keep:=λi h h' st k=>st.at λo e=>k it (by simp) o e
 item:=by intro X hP hw hK hc i fA s σ H E I hf st hg;subst hP hw hK;obtain⟨xs,x,hq,hx⟩:=hg;obtain⟨gb,rv,p,hz⟩:=I.list hq;obtain⟨u,hu,ru⟩:=rv.get hx;obtain⟨f0,f1,f2,f3,f4,f5⟩:=hf it (by simp);refine wpAny_pyNext_list_item st p.isList (x:=u) (by simpa using hu) λh' Vm sb=>?_;have I1:Inv X fA σ H {s with heap:=h'}:=I.turned (t':=s.toks) (λb o hb e=>(sb.2 b hb).trans e) f0 f1 f3 f4 f5;obtain⟨o,e,c,d⟩:=id Vm;exact⟨u,rfl,Rb (s:={s with heap:=h'}) e c d (by decide) ⟨x,H,I1,ru,⟨rfl,λys hy=>by rw[I.Lj hy hq];exact hx⟩,Vm,λb hb=>(hf b hb).1⟩⟩
 done:=by intro X hP hw hK hc i fA s σ H E I hf st hg;subst hP hw hK;obtain⟨xs,hq,hx⟩:=hg;obtain⟨gb,rv,p,hz⟩:=I.list hq;obtain⟨f0,f1,f2,f3,f4,f5⟩:=hf it (by simp);have hl:=rv.length;exact wpAny_pyNext_list_end (I.ok.hd hc) st p.isList (by simp;lia) λh' eb=>⟨rfl,I.turned (t':=s.toks) (λb o hb e=>eb b o hb e) f0 f1 f3 f4 f5⟩
 self:=λ_ _ _ _ _ st h=>wpAny_pyIter_listiter st h
def DU {P:ah}{w:ai}{K:aa}{tg:Expr}(it:ao)(lo:Int)(n:Nat):Turn P w K tg (Xu lo n) [it] it (λi h=>IsRangeIter h it (lo+(i:Nat)*1) ((n:Int) - (i:Nat)) 1) where
 mem:=by simp
 obj:=λi h st b hb=>by
  have e:b=it:=by simpa using hb
  subst e;exact⟨_,st,λv z=>by
   have z':Data.fields _=Data.cell v:=z
   cases z'⟩
 keep:=λi h h' st k=>k it (by simp) _ st
 item:=by intro X hP hw hK hc i fA s σ H E I hf st hg;subst hP hw hK;obtain⟨f0,f1,f2,f3,f4,f5⟩:=hf it (by simp);have W:=Walks.range (prog:=X.prog) (w:=X.w) (I.ok.hd hc) it lo 1 n;refine W.item i s _ _ hg st λv h' tk hv Vm kk=>?_;obtain⟨t,rfl⟩:=hv;have I1:Inv X fA σ H {s with heap:=h',toks:=tk}:=I.turned (λb o hb e=>kk b o (by simpa using hb) e) f0 f1 f3 f4 f5;refine⟨_,rfl,Rb (s:={s with heap:=h',toks:=tk}) (n:= "range_iterator") Vm rfl rfl (by decide) ⟨.int<|lo+i,H,I1,⟨t,?_⟩,⟨rfl,rfl⟩,Vm,λb hb=>(hf b hb).1⟩⟩;rw[Int.mul_one]
 done:=by intro X hP hw hK hc i fA s σ H E I hf st hg;subst hP hw hK;obtain⟨f0,f1,f2,f3,f4,f5⟩:=hf it (by simp);exact wpAny_pyNext_range_end (I.ok.hd hc) st (by have:n<=i:=hg;lia) λh' eb=>⟨rfl,I.turned (t':=s.toks) (λb o hb e=>eb b o hb e) f0 f1 f3 f4 f5⟩
 self:=λ_ _ _ _ _ st h=>wpAny_pyIter_rangeiter st h
section
variable {X:Cx}{tg:Expr}
def V9 (K:aa)(tl:TE):TI:=λσ H R=>tl σ H λx H1=>∃ a,x=.ref a/\(∃ xs,qu K H1 a xs)/\R (Itl K a) H1
def Oz {l:Expr}{tl:TE}(hl:PE X l tl):PI X tg l (V9 X.K tl):=by
 intro fA s σ H R I h;refine iN (hl fA s σ H _ I h) λv s1 rp=>?_;obtain⟨x,H1,I1,r1,q1⟩:=rp;obtain⟨a,e,⟨xs,hq⟩,q⟩:=q1;subst e;cases r1;obtain⟨gb,rv,p,hz⟩:=I1.list hq;refine cP p.isList ?_;refine⟨s1.heap.objs.size,[s1.heap.objs.size],_,_,H1,rfl,I1.iR (t':=s1.toks) λb o e=>jw _ e,Hs a _,⟨_,aD _ rfl,rfl,rfl⟩,λb hb=>?_,q⟩;have e:b=s1.heap.objs.size:=by simpa using hb
 subst e;exact I1.ES (aw _) (I1.iH.fresh<|aw _)
def B8 {fA:au (ao×Obj)}{σ:St}{H:Hp}{s:ak}{R:It->Hp->Prop}{E:ar->ak->Prop}{lo hi:Int}{t u v:Tok}{tk:Nat}(I:Inv X fA σ H s)(h1:-(2 ^ 62)<=lo)(h2:lo<2 ^ 62)(h3:-(2 ^ 62)<=hi)(h4:hi<2 ^ 62)
 (q:R (Xu lo (hi - lo).toNat) H):wpAny (model X.prog X.w) X.A (pyIter<|.ref s.heap.objs.size) (PIE X fA σ tg R) E {s with heap:=s.heap.push { cls:=.type "range",data:=.fields #[.int lo t,.int hi u,.int 1 v]},toks:=tk}:=by
 refine wpAny_pyIter_range (IsRange.new ..) (small_one h1 h2 h3 h4) ?_;have I1:Inv X fA σ H {s with heap:=s.heap.push { cls:=.type "range",data:=.fields #[.int lo t,.int hi u,.int 1 v]},toks:=tk}:=I.iR λb o e=>jw _ e;refine⟨(s.heap.push { cls:=.type "range",data:=.fields #[.int lo t,.int hi u,.int 1 v]}).objs.size,[(s.heap.push { cls:=.type "range",data:=.fields #[.int lo t,.int hi u,.int 1 v]}).objs.size],_,_,H,rfl,
  I1.iR (t':=tk) λb o e=>jw _ e,DU _ lo (hi - lo).toNat,?_,λb hb=>?_,q⟩
 .have e1:lo+((0:Nat):Int)*1=lo:=by simp
  have e2:(((hi - lo).toNat:Nat):Int) - ((0:Nat):Int)=Builtin.Range.rangeSize lo hi 1:=by rw[rangeSize_one];split<;>lia
  show IsRangeIter _ _ (lo+((0:Nat):Int)*1) ((((hi - lo).toNat:Nat):Int) - ((0:Nat):Int)) 1
  rw[e1,e2]
  exact aD _ rfl
 .have e:b=(s.heap.push { cls:=.type "range",data:=.fields #[.int lo t,.int hi u,.int 1 v]}).objs.size:=by simpa using hb
  subst e
  exact I1.ES (aw _) (I1.iH.fresh<|aw _)
def V8 (ta:TA):TI:=λσ H R=>ta σ H λvs H1=>∃ j:Int,vs=[.int j] /\ -(2 ^ 62)<=j/\j<2 ^ 62/\R (Xu 0 j.toNat) H1
def V7 (ta:TA):TI:=λσ H R=>ta σ H λvs H1=>∃ i j:Int,vs=[.int i,.int j]/\(-(2 ^ 62)<=i/\i<2 ^ 62 /\ -(2 ^ 62)<=j/\j<2 ^ 62)/\R (Xu i (j - i).toNat) H1
def HJ {a:Expr}{ta:TA}{p pos:Pos}(hg:Gl X "range")(hm:X.mg "range"=none)(ha:PA X [a] ta)(hs:starEach [a] X.env=[(false,eval a X.env)]:=by rfl):PI X tg (.Call (.Name "range" p) [a] [] pos) (V8 ta):=by
 intro fA s σ H R I h;refine Call_ (kc I hg hm boot_range<|aS (iN (ha pos fA s σ H _ I h) λus s1 uD=>?_) hs rfl);obtain⟨vs,H1,I1,r1,q1⟩:=uD;obtain⟨j,e,q1,q2,q⟩:=q1;subst e;cases r1 with
 | cons r rr =>cases rr;obtain⟨t,rfl⟩:=r;exact call_range_1 (B8 I1 (by lia) (by lia) q1 q2<|by simpa using q)
def HI {a b:Expr}{ta:TA}{p pos:Pos}(hg:Gl X "range")(hm:X.mg "range"=none)(ha:PA X [a,b] ta)(hs:starEach [a,b] X.env=[(false,eval a X.env),(false,eval b X.env)]:=by rfl)(rm:starEach [b] X.env=[(false,eval b X.env)]:=by rfl):
 PI X tg (.Call (.Name "range" p) [a,b] [] pos) (V7 ta):=by
 intro fA s σ H R I h;refine Call_ (kc I hg hm boot_range<|aS (iN (ha pos fA s σ H _ I h) λus s1 tE=>?_) (by rw[hs,rm]) (by rw[rm];rfl));obtain⟨vs,H1,I1,r1,q1⟩:=tE;obtain⟨i,j,e,⟨q1,q2,q3,q4⟩,q⟩:=q1;subst e;cases r1 with
 | cons r rr =>
  cases rr with
  | cons r' rr =>cases rr;obtain⟨t,rfl⟩:=r;obtain⟨t',rfl⟩:=r';exact call_range_2 (B8 I1 q1 q2 q3 q4 q)
def YI (wi:TI)(g:TG)(tb:TS):TS:=λD σ H=>wi σ H λJ H1=>∃ W:Nat->Nat->St->Hp->Prop,(∃ m,W 0 m σ H1)/\∀ i m σ H,W i m σ H ->
 (J.stop i H/\D.nx σ H)\/(J.go i H/\∃ N:St->Hp->Prop,(∀ jb H',N jb H'->∃ m',m'<m/\W (i+1) m' jb H')/\∀ x H',J.JB i H x H'->g x σ H' λoM H2=>tb { D with nx:=N,ct:=N,bk:=D.nx} oM H2)
def ux (fp:au ao)(h:Heap):au (ao×Obj):=fp.filterMap λb=>(h.get? b).map λo=>(b,o)
def lZ {fp:au ao}{h:Heap}{b:ao}{o:Obj}(hb:b∈fp)(e:h.get? b=some o):(b,o)∈ux fp h:=List.mem_filterMap.mpr ⟨b,hb,by rw[e];rfl⟩
def HU {fp:au ao}{h:Heap}{p:ao×Obj}(hp:p∈ux fp h):p.1∈fp/\h.get? p.1=some p.2:=by
 obtain⟨b,hb,e⟩:=List.mem_filterMap.mp hp;cases q:h.get? b with
 |none=>rw[q]at e;cases e
 | some o =>rw[q]at e;have e':(b,o)=p:=aK e;subst e';exact⟨hb,q⟩
def Inv.pinned {fA:au (ao×Obj)}{σ:St}{H:Hp}{s:ak}{fp:au ao}(I:Inv X fA σ H s)(hf:∀ b∈fp,mE X fA H b)(ho:∀ b∈fp,∃ o,s.heap.get? b=some o/\∀ v,o.data≠.cell v):Inv X (fA++ux fp s.heap) σ H s :=
 I.sQ λp hp=>(List.mem_append.mp hp).elim (λz=>I.pin p<|aU _ z) λz=>by obtain⟨hb,e⟩:=HU z;obtain⟨f0,f1,f2,_⟩:=hf p.1 hb;obtain⟨o,e',d⟩:=ho p.1 hb;rw[e]at e';cases e';exact⟨e,f0,f1,f2,d⟩
def Inv.pX {fA pl:au (ao×Obj)}{σ:St}{H:Hp}{s:ak}(I:Inv X (fA++pl) σ H s):Inv X fA σ H s:=I.sQ λp hp=>I.pin p (aU _<|dP _ hp)
def Sh {iter:Expr}{body:au Stmt}{wi:TI}{g:TG}{tb:TS}{pos:Pos}(hp:PassesOwn (model X.prog X.w) X.A X.env X.xe)(hc:X.gH=true)(hi:PI X tg iter wi)(hg:PG X tg g)(hb:Bt X body tb)
 (hs:∀ x,foldedSetIterable iter X.env x=pure x:=by intro _;rfl):PS X (.For tg iter body [] pos) (YI wi g tb):=by
 intro fA s σ H D I h;refine wpAny_For (iN (hi fA s σ H _ I h) λv s1 h1=>iN h1 λV4 s2 h2=>?_) hs;obtain⟨it,fp,tn,J,H2,e,I2,T,QG,f2,W,⟨m0,w0⟩,turn⟩:=h2;subst e;have wy:∀ {H':Hp},(∀ b∈fp,H' b=none)->∀ b∈fp,mE X fA H' b:=λhn b hb=>⟨hn b hb,(f2 b hb).2⟩;refine codeAny_forLoop_any (λn s'=>∃ i jb H',Inv X fA jb H' s'/\tn i s'.heap/\(∀ b∈fp,H' b=none)/\W i n jb H') ?_ m0 ⟨0,σ,H2,I2,QG,λb hb=>(f2 b hb).1,w0⟩;rintro n s3 ⟨i,Ft,H3,I3,Nt,Rf,w3⟩;rcases turn i n Ft H3 w3 with⟨stop,qn⟩|⟨go,N,hN,step⟩
 .refine df hp (iN (T.done X rfl rfl rfl hc i fA s3 Ft H3 X.xe I3 (wy Rf) Nt stop) λr s4 qU=>?_);obtain⟨hr,I4⟩:=qU;subst hr;exact fj ⟨Ft,H3,I4,qn⟩
 .refine df hp (iN (T.item X rfl rfl rfl hc i fA s3 Ft H3 X.xe I3 (wy Rf) Nt go) λr s4 pT=>?_);obtain⟨u,hr,h4⟩:=pT;subst hr;refine df hp (iN h4 λ_ s5 pS=>?_);obtain⟨x,H5,I5,r5,y5,JT,Wy⟩:=pS;have Xx:=I5.pinned (wy Wy)<|T.obj _ _ JT;refine df hp (iN (hg _ s5 Ft H5 x u _ Xx r5<|step x H5 y5) λ_ s6 qk=>?_);obtain⟨Nm,H6,I6,q6⟩:=qk;refine df hp (iN (hb _ s6 Nm H6 _ I6 q6) λf s7 q7=>?_);have again:∀ {Js:St} {H7:Hp},Inv X (fA++ux fp s5.heap) Js H7 s7->N Js H7->∃ m,m<n/\∃ i jb H',Inv X fA jb H' s7/\tn i s7.heap/\(∀ b∈fp,H' b=none)/\W i m jb H':=λ{Js H7} I7 n7=>by obtain⟨m',hm,w7⟩:=hN Js H7 n7;refine⟨m',hm,i+1,Js,H7,I7.pX,T.keep _ _ _ JT λb hb o e=>(I7.pin (b,o)<|aU _<|aU _<|lZ hb e).1,λb hb=>?_,w7⟩;obtain⟨o,e,d⟩:=T.obj _ _ JT b hb;exact(I7.pin (b,o)<|aU _<|aU _<|lZ hb e).2.1
  cases f with
  |next=>obtain⟨Js,H7,I7,n7⟩:=q7;exact again I7 n7
  |cont=>obtain⟨Js,H7,I7,n7⟩:=q7;exact again I7 n7
  |brk=>obtain⟨Js,H7,I7,q7⟩:=q7;exact⟨Js,H7,I7.pX,q7⟩
  |ret v=>obtain⟨x7,Js,H7,I7,r7,q7⟩:=q7;exact⟨x7,Js,H7,I7.pX,r7,q7⟩
end
abbrev R2:=V->V->Hp->VK->Prop
def lq (X:Cx)(f:ar->ar->Sem ar)(r:R2):Prop :=
 ∀(fA:au (ao×Obj)) (s:ak) (σ:St) (H:Hp) (x y:V) (v u:ar) (Q:VK),Inv X fA σ H s->gB x v->gB y u->r x y H Q ->
  wpAny (model X.prog X.w) X.A (f v u) (EP X fA σ Q) X.xe s
def UnR (X:Cx)(f:ar->Sem ar)(r:V->Hp->VK->Prop):Prop :=
 ∀(fA:au (ao×Obj)) (s:ak) (σ:St) (H:Hp) (x:V) (v:ar) (Q:VK),Inv X fA σ H s->gB x v->r x H Q ->
  wpAny (model X.prog X.w) X.A (f v) (EP X fA σ Q) X.xe s
def jr (X:Cx)(f:ar)(r:au V->Hp->VK->Prop):Prop :=
 ∀(fA:au (ao×Obj)) (s:ak) (σ:St) (H:Hp) (xs:au V) (us:au ar) (Q:VK),Inv X fA σ H s->gC xs us->r xs H Q ->
  wpAny (model X.prog X.w) X.A (call f us) (EP X fA σ Q) X.xe s
def Ve (r:R2)(ta tb:TE):TE:=λσ H Q=>ta σ H λx H1=>tb σ H1 λy H2=>r x y H2 Q
def tUn (r:V->Hp->VK->Prop)(ta:TE):TE:=λσ H Q=>ta σ H λx H1=>r x H1 Q
def rI (C:Int->Int->Prop)(g:Int->Int->V):R2:=λx y H Q=>∃ i j,x=.int i/\y=.int j/\C i j/\Q (g i j) H
def Oj (g:Int->Int->V):R2:=λx y H Q=>∃ i j,x=.int i/\y=.int j/\Q (g i j) H
def rU (g:Int->V):V->Hp->VK->Prop:=λx H Q=>∃ i,x=.int i/\Q (g i) H
section
variable {X:Cx}{a b c:Expr}{ta tb tc:TE}{pos:Pos}
def Qa (ha:PE X a ta)(hb:PE X b tb){fA:au (ao×Obj)}{s:ak}{σ:St}{H:Hp}{R:V->V->Hp->Prop}(I:Inv X fA σ H s)
 (h:ta σ H λx H1=>tb σ H1 λy H2=>R x y H2) {Q:ar->ak->Prop} {f:ar->ar->Sem ar}
 (hf:∀ v u s2 x y H2,Inv X fA σ H2 s2->gB x v->gB y u->R x y H2->wpAny (model X.prog X.w) X.A (f v u) Q X.xe s2):
 wpAny (model X.prog X.w) X.A (eval a X.env) (λv s₁=>wpAny (model X.prog X.w) X.A (eval b X.env) (λu s₂=>wpAny (model X.prog X.w) X.A (f v u) Q X.xe s₂) X.xe s₁) X.xe s:=by
 refine iN (ha fA s σ H _ I h) λv s1 rp=>?_;obtain⟨x,H1,I1,r1,q1⟩:=rp;refine iN (hb fA s1 σ H1 _ I1 q1) λu s2 uD=>?_;obtain⟨y,H2,I2,r2,q2⟩:=uD;exact hf v u s2 x y H2 I2 r1 r2 q2
def k9 {op:Operator}{r:R2}(ho:lq X (binaryOp op) r)(ha:PE X a ta)(hb:PE X b tb):PE X (.BinOp a op b pos) (Ve r ta tb):=by intro fA s σ H Q I h;exact wpAny_BinOp (Qa ha hb I h λv u s2 x y H2 I2 rx ry q=>ho fA s2 σ H2 x y v u Q I2 rx ry q)
def VC {op:UnaryOp}{r:V->Hp->VK->Prop}(ho:UnR X (unaryOp op) r)(ha:PE X a ta):PE X (.UnaryOp op a pos) (tUn r ta):=by intro fA s σ H Q I h;exact UnaryOp_ (iN (ha fA s σ H _ I h) λv s1 tE=>by obtain⟨x,H1,I1,r1,q1⟩:=tE;exact ho fA s1 σ H1 x v Q I1 r1 q1)
def UE {f:ar->ar->Sem ar}{C:Int->Int->Prop}{g:Int->Int->Int}
 (rule:∀(i j:Int) (t u:Tok) (s:ak) (Q:ar->ak->Prop) (E:ar->ak->Prop),C i j->Q (.int (g i j) s.toks) {s with toks:=s.toks+1}->wpAny (model X.prog X.w) X.A (f (.int i t)<|.int j u) Q E s):
 lq X f (rI C λi j=>.int<|g i j):=by
 intro fA s σ H x y v u Q I rx ry h;obtain⟨i,j,rfl,rfl,hc,q⟩:=h;obtain⟨t,rfl⟩:=rx;obtain⟨t',rfl⟩:=ry;exact rule i j t t' s _ _ hc ⟨.int<|g i j,H,I.tok _,⟨_,rfl⟩,q⟩
def VN {f:ar->ar->Sem ar}{g:Int->Int->Int}
 (rule:∀(i j:Int) (t u:Tok) (s:ak) (Q:ar->ak->Prop) (E:ar->ak->Prop),Q (.int (g i j) s.toks) {s with toks:=s.toks+1}->wpAny (model X.prog X.w) X.A (f (.int i t)<|.int j u) Q E s):
 lq X f (Oj λi j=>.int<|g i j):=by
 intro fA s σ H x y v u Q I rx ry h;obtain⟨i,j,rfl,rfl,q⟩:=h;obtain⟨t,rfl⟩:=rx;obtain⟨t',rfl⟩:=ry;exact rule i j t t' s _ _ ⟨.int<|g i j,H,I.tok _,⟨_,rfl⟩,q⟩
def OK {f:ar->ar->Sem ar}{g:Int->Int->Bool}
 (rule:∀(i j:Int) (t u:Tok) (s:ak) (Q:ar->ak->Prop) (E:ar->ak->Prop),Q (.bool<|g i j) s->wpAny (model X.prog X.w) X.A (f (.int i t)<|.int j u) Q E s):
 lq X f (Oj λi j=>.bl<|g i j):=by
 intro fA s σ H x y v u Q I rx ry h;obtain⟨i,j,rfl,rfl,q⟩:=h;obtain⟨t,rfl⟩:=rx;obtain⟨t',rfl⟩:=ry;exact rule i j t t' s _ _ ⟨.bl<|g i j,H,I,rfl,q⟩
def XH (i j:Int):Prop:=0<j/\j<1073741824
def XG (i j:Int):Prop:=0<=j/\j<=1000000/\i.natAbs<2 ^ 64
def Jh (i j:Int):Prop:=(-(2 ^ 64)<i/\i<2 ^ 64)\/(-(2 ^ 64)<j/\j<2 ^ 64)
def Jh.ok {i j:Int}(h:Jh i j):IntMulOk i j:=by
 rcases h with⟨h1,h2⟩|⟨h1,h2⟩
 .exact .of_left (intBits_le_64 h1 h2)
 .exact .of_right (intBits_le_64 h1 h2)
def SE:lq X (binaryOp .Add) (Oj λi j=>.int<|i+j):=VN λ_ _ _ _ _ _ _ q=>add_int q
def Sx:lq X (binaryOp .Sub) (Oj λi j=>.int<|i - j):=VN λ_ _ _ _ _ _ _ q=>sub_int q
def Sz:lq X (binaryOp .Mult) (rI Jh λi j=>.int<|i*j):=UE λ_ _ _ _ _ _ _ hc q=>mul_int q hc.ok
def OJ:lq X (binaryOp .FloorDiv) (rI XH λi j=>.int<|i / j):=UE λi j _ _ _ _ _ hc q=>by have h1:(0:Int)<j:=hc.1;have h2:j<1073741824:=hc.2;exact floordiv_int (by lia) (by rw[Int.fdiv_eq_ediv_of_nonneg i (by lia)];exact q) (.inl<|PyProof.noPylong_small<|by lia)
def SA:lq X (binaryOp .Mod) (rI (λ_ j=>0<j) λi j=>.int<|i%j):=UE λi j _ _ _ _ _ hc q=>by have h1:(0:Int)<j:=hc;exact mod_int' (by lia) (by rw[Int.fmod_eq_emod_of_nonneg i (by lia)];exact q)
def Sy:lq X (binaryOp .Pow) (rI XG λi j=>.int<|i ^ j.toNat):=UE λ_ _ _ _ _ _ _ hc q=>pow_int_small hc.1 hc.2.1 hc.2.2 q
def unI {f:ar->Sem ar}{g:Int->Int}
 (rule:∀(i:Int) (t:Tok) (s:ak) (Q:ar->ak->Prop) (E:ar->ak->Prop),Q (.int (g i) s.toks) {s with toks:=s.toks+1}->wpAny (model X.prog X.w) X.A (f<|.int i t) Q E s):
 UnR X f (rU λi=>.int<|g i):=by
 intro fA s σ H x v Q I rx h;obtain⟨i,rfl,q⟩:=h;obtain⟨t,rfl⟩:=rx;exact rule i t s _ _ ⟨.int<|g i,H,I.tok _,⟨_,rfl⟩,q⟩
def RK:UnR X (unaryOp .USub) (rU λi=>.int<|-i):=unI λ_ _ _ _ _ q=>neg_int q
end
def Vs:V->V->Bool
 |.iC,.iC=>true|.iC,.int _=>true|.int _,.iC=>true|.iC,.bl _=>true|.bl _,.iC=>true|.iC,.str _=>true|.str _,.iC=>true
 |.int _,.int _=>true|.bl _,.bl _=>true|.str _,.str _=>true|.IQ _,.IQ _=>true
 |.int _,.str _=>true|.str _,.int _=>true|.bl _,.str _=>true|.str _,.bl _=>true
 |_,_=>false
def rEq:R2:=λx y H Q=>Vs x y=true/\Q (.bl<|decide (x=y)) H
def rNe:R2:=λx y H Q=>Vs x y=true/\Q (.bl<|!decide (x=y)) H
def GR {i j:Int}:decide (V.int i=V.int j)=(i==j):=by rw[dE];simp
def Mx {i j:Bool}:decide (V.bl i=V.bl j)=(i==j):=by rw[dE];simp
def GQ {i j:Str}:decide (V.str i=V.str j)=(i==j):=by rw[dE];simp
def GS {i j:Array UInt8}:decide (V.IQ i=V.IQ j)=(i.toList==j.toList):=by rw[dE];cases i;cases j;simp
section
variable {X:Cx}{a b c:Expr}{ta tb tc:TE}{pos:Pos}
def iq {fA:au (ao×Obj)}{σ:St}{H:Hp}{s:ak}{Q:VK}{k k':Bool}(I:Inv X fA σ H s)(q:Q (.bl k) H)(e:k=k'):EP X fA σ Q (.bool k') s:=by subst e;exact⟨.bl k,H,I,rfl,q⟩
def QW:lq X (compareOp .Eq) rEq:=by
 intro fA s σ H x y v u Q I rx ry h;obtain⟨hs,q⟩:=h;cases x with
 | iC =>
  cases rx;cases y with
  |iC=>cases ry;exact PySem.EqNone.eq_none_none (iq I q<|by simp)
  |bl j=>cases ry;exact PySem.EqNone.eq_none_bool (iq I q<|by simp)
  |int j=>obtain⟨t',rfl⟩:=ry;exact PySem.EqNone.eq_none_int (iq I q<|by simp)
  |str j=>obtain⟨t',rfl⟩:=ry;exact PySem.EqNone.eq_none_str (iq I q<|by simp)
  |_=>exact absurd (show false=true from hs) aM
 | bl i =>
  cases rx;cases y with
  |iC=>cases ry;exact PySem.EqNone.eq_bool_none (iq I q<|by simp)
  |bl j=>cases ry;exact eq_bool (iq I q Mx)
  |str j=>obtain⟨t',rfl⟩:=ry;exact PySem.EqMixed.eq_bool_str (iq I q<|by simp)
  |_=>exact absurd (show false=true from hs) aM
 | int i =>
  obtain⟨t,rfl⟩:=rx;cases y with
  |iC=>cases ry;exact PySem.EqNone.eq_int_none (iq I q<|by simp)
  |int j=>obtain⟨t',rfl⟩:=ry;exact eq_int (iq I q GR)
  |str j=>obtain⟨t',rfl⟩:=ry;exact PySem.EqMixed.eq_int_str (iq I q<|by simp)
  |_=>exact absurd (show false=true from hs) aM
 | str i =>
  obtain⟨t,rfl⟩:=rx;cases y with
  |iC=>cases ry;exact PySem.EqNone.eq_str_none (iq I q<|by simp)
  |bl j=>cases ry;exact PySem.EqMixed.eq_str_bool (iq I q<|by simp)
  |int j=>obtain⟨t',rfl⟩:=ry;exact PySem.EqMixed.eq_str_int (iq I q<|by simp)
  |str j=>obtain⟨t',rfl⟩:=ry;exact eq_str (iq I q GQ)
  |_=>exact absurd (show false=true from hs) aM
 | IQ i =>
  obtain⟨t,rfl⟩:=rx;cases y with
  |IQ j=>obtain⟨t',rfl⟩:=ry;exact W.eq_bytes (iq I q GS)
  |_=>exact absurd (show false=true from hs) aM
 |_=>cases y<;>exact absurd (show false=true from hs) aM
def VH:lq X (compareOp .NotEq) rNe:=by
 intro fA s σ H x y v u Q I rx ry h;obtain⟨hs,q⟩:=h;cases x with
 | iC =>
  cases rx;cases y with
  |iC=>cases ry;exact PySem.EqNone.ne_none_none (iq I q<|by simp)
  |bl j=>cases ry;exact PySem.EqNone.ne_none_bool (iq I q<|by simp)
  |int j=>obtain⟨t',rfl⟩:=ry;exact PySem.EqNone.ne_none_int (iq I q<|by simp)
  |str j=>obtain⟨t',rfl⟩:=ry;exact PySem.EqNone.ne_none_str (iq I q<|by simp)
  |_=>exact absurd (show false=true from hs) aM
 | bl i =>
  cases rx;cases y with
  |iC=>cases ry;exact PySem.EqNone.ne_bool_none (iq I q<|by simp)
  |bl j=>cases ry;exact ne_bool (iq I q<|cD not Mx)
  |str j=>obtain⟨t',rfl⟩:=ry;exact PySem.EqMixed.ne_bool_str (iq I q<|by simp)
  |_=>exact absurd (show false=true from hs) aM
 | int i =>
  obtain⟨t,rfl⟩:=rx;cases y with
  |iC=>cases ry;exact PySem.EqNone.ne_int_none (iq I q<|by simp)
  |int j=>obtain⟨t',rfl⟩:=ry;exact ne_int (iq I q<|cD not GR)
  |str j=>obtain⟨t',rfl⟩:=ry;exact PySem.EqMixed.ne_int_str (iq I q<|by simp)
  |_=>exact absurd (show false=true from hs) aM
 | str i =>
  obtain⟨t,rfl⟩:=rx;cases y with
  |iC=>cases ry;exact PySem.EqNone.ne_str_none (iq I q<|by simp)
  |bl j=>cases ry;exact PySem.EqMixed.ne_str_bool (iq I q<|by simp)
  |int j=>obtain⟨t',rfl⟩:=ry;exact PySem.EqMixed.ne_str_int (iq I q<|by simp)
  |str j=>obtain⟨t',rfl⟩:=ry;exact ne_str (iq I q<|cD not GQ)
  |_=>exact absurd (show false=true from hs) aM
 | IQ i =>
  obtain⟨t,rfl⟩:=rx;cases y with
  |IQ j=>obtain⟨t',rfl⟩:=ry;exact W.ne_bytes (iq I q<|cD not GS)
  |_=>exact absurd (show false=true from hs) aM
 |_=>cases y<;>exact absurd (show false=true from hs) aM
def VI:lq X (compareOp .Lt) (Oj λi j=>.bl<|decide (i<j)):=OK λ_ _ _ _ _ _ _ q=>lt_int q
def VJ:lq X (compareOp .LtE) (Oj λi j=>.bl<|decide (i<=j)):=OK λ_ _ _ _ _ _ _ q=>le_int q
def VL:lq X (compareOp .Gt) (Oj λi j=>.bl<|decide (j<i)):=OK λ_ _ _ _ _ _ _ q=>gt_int q
def VM:lq X (compareOp .GtE) (Oj λi j=>.bl<|decide (j<=i)):=OK λ_ _ _ _ _ _ _ q=>ge_int q
def HL:lq X (compareOp .In) (λx y H Q=>∃ i j,x=.str i/\y=.str j/\Q (.bl<|!(Builtin.Str.occurrences j i 0 j.length 1).isEmpty) H):=by intro fA s σ H x y v u Q I rx ry h;obtain⟨i,j,rfl,rfl,q⟩:=h;obtain⟨t,rfl⟩:=rx;obtain⟨t',rfl⟩:=ry;exact in_str (iq I q rfl)
def lq.or {f:ar->ar->Sem ar}{r r':R2}(h:lq X f r)(h':lq X f r'):lq X f (λx y H Q=>r x y H Q\/r' x y H Q):=by
 intro fA s σ H x y v u Q I rx ry q;rcases q with q|q
 .exact h fA s σ H x y v u Q I rx ry q
 .exact h' fA s σ H x y v u Q I rx ry q
def iG (b:Expr){op:CmpOp}(h:op≠.In:=by decide)(h2:op≠.NotIn:=by decide):behindInMarks op b=false:=by
 have e1:(op==CmpOp.In)=false:=by cases op<;>first|rfl|exact absurd rfl h
 have e2:(op==CmpOp.NotIn)=false:=by cases op<;>first|rfl|exact absurd rfl h2
 cases b<;>simp[behindInMarks,e1,e2]
def vN {op:CmpOp}{r:R2}(ho:lq X (compareOp op) r)(ha:PE X a ta)(hb:PE X b tb)(hm:behindInMarks op b=false):PE X (.Compare a [op] [b] pos) (Ve r ta tb):=by intro fA s σ H Q I h;exact wpAny_Compare1 (Qa ha hb I h λv u s2 x y H2 I2 rx ry q=>ho fA s2 σ H2 x y v u Q I2 rx ry q) hm
def qg:(sizeLine:Nat)<2 ^ 63:=by rw[sizeLine_eq];decide
def El:lq X (binaryOp .Add) (λx y H Q=>∃ i j,x=.str i/\y=.str j/\i.length+j.length<=sizeLine/\Q (.str<|i++j) H):=by intro fA s σ H x y v u Q I rx ry h;obtain⟨i,j,rfl,rfl,hz,q⟩:=h;obtain⟨t,rfl⟩:=rx;obtain⟨t',rfl⟩:=ry;exact add_str (λt' tk=>⟨.str<|i++j,H,I.tok _,⟨_,rfl⟩,q⟩) hz
def vals1 {x:V}{us:au ar}(r:gC [x] us):∃ u,us=[u]/\gB x u:=by
 cases r with
 |cons r1 r2=>cases r2;exact⟨_,rfl,r1⟩
def vals2 {x y:V}{us:au ar}(r:gC [x,y] us):∃ u w',us=[u,w']/\gB x u/\gB y w':=by
 cases r with
 | cons r1 r2 =>
  cases r2 with
  |cons r3 r4=>cases r4;exact⟨_,_,rfl,r1,r3⟩
def IM (hc:X.gH=true):jr X (.builtin "max") (λxs H Q=>∃ i j,xs=[.int i,.int j]/\Q (.int<|if j>i then j else i) H):=by
 intro fA s σ H xs us Q I r h;obtain⟨i,j,rfl,q⟩:=h;obtain⟨u,w',rfl,⟨t,rfl⟩,⟨t',rfl⟩⟩:=vals2 r;refine max_two_ints (I.ok.hd hc) λh' tk k=>⟨_,H,I.iR k,?_,q⟩;by_cases hj:j>i
 .rw[aE hj,aE hj];exact⟨_,rfl⟩
 .rw[aF hj,aF hj];exact⟨_,rfl⟩
def IL (hc:X.gH=true):jr X (.builtin "min") (λxs H Q=>∃ i j,xs=[.int i,.int j]/\Q (.int<|if j<i then j else i) H):=by
 intro fA s σ H xs us Q I r h;obtain⟨i,j,rfl,q⟩:=h;obtain⟨u,w',rfl,⟨t,rfl⟩,⟨t',rfl⟩⟩:=vals2 r;refine min_two_ints (I.ok.hd hc) λh' tk k=>⟨_,H,I.iR k,?_,q⟩;by_cases hj:j<i
 .rw[aE hj,aE hj];exact⟨_,rfl⟩
 .rw[aF hj,aF hj];exact⟨_,rfl⟩
def IP:jr X (.type "int") (λxs H Q=>(∃ i,xs=[.int i]/\Q (.int i) H)\/∃ k,xs=[.bl k]/\Q (.int<|if k then 1 else 0) H):=by
 intro fA s σ H xs us Q I r h;rcases h with⟨i,rfl,q⟩|⟨k,rfl,q⟩
 .obtain⟨u,rfl,t,rfl⟩:=vals1 r;exact call_int_int ⟨.int i,H,I,⟨_,rfl⟩,q⟩
 .obtain⟨u,rfl,r1⟩:=vals1 r;cases r1;exact call_int_bool ⟨.int<|if k then 1 else 0,H,I.tok _,⟨_,rfl⟩,q⟩
end
structure Fl (h:Heap)(x dx C:ao)(mA:Str->Option ar):Prop where
 obj:h.get? x=some (W.instObj C dx)
 ns:h.Ns1 dx mA
 ne:dx≠x
def Ia {h:Heap}{dx:ao}{mA:Str->av ar}(n:h.Ns1 dx mA):∃ od,h.get? dx=some od/\∀ name,W.lookIn name od=some (mA name):=by
 obtain⟨o,es,ep,ho,hd,hk,_,hm⟩:=n;refine⟨o,ho,λname=>?_⟩;have e:=hm name;unfold nsFind findBy at e;rw[<- Array.find?_toList]at e;unfold W.lookIn;rw[hd];dsimp only;split
 .rename_i y q;rw[q]at e;exact cD some e
 .rename_i q;rw[q]at e;have a:es.toList.any (·.refKey)=false:=by rw[eR];intro y hy;obtain⟨z,t,ZQ⟩:=hk y<|Array.mem_toList_iff.mp hy;simp[DictEntry.refKey,ZQ]
  have a':¬ es.toList.any (·.refKey)=true:=by rw[a];exact aM
  rw[aF a'];exact cD some e
def Fl.look {h:Heap}{x dx C:ao}{mA:Str->av ar}(I:Fl h x dx C mA):∃ od,W.InstAt h x (W.instObj C dx) C (some od)/\∀ name,W.lookIn name od=some (mA name) :=
 let ⟨od,ho,hl⟩:=Ia I.ns
 ⟨od,⟨I.obj,rfl,rfl,ho⟩,hl⟩
section
variable {prog:ah}{w:ai}{A:Around}{E:ar->ak->Prop}{s:ak}{K:aa}{x dx C f:ao}{mA:Str->av ar}{name:Str}{v:ar}
def get_map {expr:Bool}{Q:ar->ak->Prop}(X:K.In s.heap)(I:Fl s.heap x dx C mA)(hg:W.plainGet K C name=true)(hh:W.hasDictIn K C=true)
 (ha:W.findIn K (.ref C) name=some none) (hv:mA name=some v) (DM:W.handedIn v=true) (h:Q v {s with toks:=s.toks+1}):
 wpAny (model prog w) A (getAttr (.ref x) name expr) Q E s:=by
 obtain⟨od,J,hl⟩:=I.look;exact W.get_value X J (W.plainGet_of hg).1 (W.findObj_own hh ha rfl (by rw[hl,hv])) DM h
def LQ {pl:Sem Bool}{Q:ar×au ar->ak->Prop}(X:K.In s.heap)(I:Fl s.heap x dx C mA)(hg:W.plainGet K C name=true)
 (hf:W.findIn K (.ref C) name=some (some<|.ref f)) (ht:W.isFn K (.ref f)=true) (hv:mA name=none) (h:Q (.ref f,[.ref x]) s):
 wpAny (model prog w) A (getMethod (.ref x) name pl) Q E s:=by
 obtain⟨od,J,hl⟩:=I.look;exact W.method_fn X J (W.plainGet_of hg).1 (W.plainGet_of hg).2 hf (beq_iff_eq.mp ht) (by show(W.lookIn name od).map (·.isSome)=some false;rw[hl,hv];rfl) h
def Oc {ns:au Str}{Q:Unit->ak->Prop}(X:K.In s.heap)(I:Fl s.heap x dx C mA)
 (hs:W.findIn K (.ref C) "__setattr__"=some (some<|.builtin "object.__setattr__")) (hp:W.plainOver K C=true) (ht:W.takerIn K C name=some none) (hh:W.hasDictIn K C=true)
 (hw:PySem.Within mA ns) (hsz:ns.length<=sizeLine)
 (h:∀ h',Fl h' x dx C (λy=>if y=name then some v else mA y)->Heap.SameBut dx s.heap h'->Q () {s with heap:=h',toks:=s.toks+2}):
 wpAny (model prog w) A (setAttr (.ref x) name v) Q E s:=by
 obtain⟨od,J,hl⟩:=I.look;refine W.set_plain X J hs (W.osa_open (s:={s with toks:=s.toks+1}) (r:=none) X J hp ht λb=>?_);obtain⟨cd,hc,Jq⟩:=W.any_some hh;have hx:s.heap.get? x=some ⟨.ref C,some dx,.plain,#[]⟩:=I.obj;refine fW<|az<|fW<|fW<|wpAny_loadPart hx<|fW<|W.Looks.here (s:={s with toks:=s.toks+1}) (W.looks_clsIn X hc) ?_;rw[Jq];refine az (a:=some dx)<|fW<|az<|fW ?_;refine wpAny_nsSet1 (s:={s with toks:=s.toks+1}) I.ns λh' Jm rm=>?_;obtain⟨oD,esD,epD,hoD,hdD,hcD⟩:=Jm.count<|PySem.Within.cons name v hw;refine fW (wpAny_lookBehind hoD (by rw[hdD];exact pastItsLine_dict<|aV hcD (by rw[a8];lia)) ?_);exact az (h _ ⟨(rm.2 _<|bX I.ne).trans I.obj,Jm,I.ne⟩ rm)
def Lf {R:Result->ak->Prop}{vs:au ar}{kw:au (Str×ar)}(X:K.In s.heap)(hm:W.makesIn K C=true)
 (hi:W.findIn K (.ref C) "__init__"=some (some<|.ref f)) (hf:W.typeIn K (.ref f)=some (.type "function"))
 (h:codeAny (model prog w) (A.under<|.builtin "type.__call__" ⟨.ref C::vs,kw⟩) (.call (.ref f) ⟨.ref (s.heap.objs.size+1)::vs,kw⟩) (W.InitBack (s.heap.objs.size+1) R)
   {s with heap:=(s.heap.push W.emptyDict).push (W.instObj C s.heap.objs.size)}):
 codeAny (model prog w) A (.call (.ref C) ⟨vs,kw⟩) R s:=by
 obtain⟨hh,g,d,t,os⟩:=s;exact W.make_core (W.makes_of X hm) (W.looks_findIn X hi) (λself=>W.bind_fn X self hf) (.inl rfl) h
end
def oy (f:Str)(v:V):au (Str×V)->au (Str×V)
 |[]=>[(f,v)]
 |(g,x)::r=>if g=f then(g,v)::r else(g,x)::oy f v r
theorem u5 (f g:Str)(v:V):∀ fs:au (Str×V),(oy f v fs).lookup g=if g=f then some v else fs.lookup g
 | []=>by
  show List.lookup g [(f,v)]=_;by_cases h:g=f
  .have hb:(g==f)=true:=beq_iff_eq.mpr h;simp only[List.lookup,hb,aE h]
  .have hb:(g==f)=false:=beq_eq_false_iff_ne.mpr h;simp only[List.lookup,hb,aF h]
 | (k,x)::r=>by
  have ih:=u5 f g v r;rw[show oy f v ((k,x)::r)=(if k=f then(k,v)::r else(k,x)::oy f v r)from rfl];by_cases hk:k=f
  .rw[aE hk];by_cases h:g=k
   .have hb:(g==k)=true:=beq_iff_eq.mpr h;simp only[List.lookup,hb,aE (h.trans hk)]
   .have hb:(g==k)=false:=beq_eq_false_iff_ne.mpr h;simp only[List.lookup,hb,aF (λe:g=f=>h<|e.trans hk.symm)]
  .rw[aF hk];by_cases h:g=k
   .have hb:(g==k)=true:=beq_iff_eq.mpr h;simp only[List.lookup,hb,aF (λe:g=f=>hk<|h.symm.trans e)]
   .have hb:(g==k)=false:=beq_eq_false_iff_ne.mpr h;simp only[List.lookup,hb];exact ih
theorem uB (f:Str)(v:V):∀ fs:au (Str×V),f∈(oy f v fs).map (·.1)/\∀ g,g∈fs.map (·.1)->g∈(oy f v fs).map (·.1)
 |[]=>⟨by simp[oy],λg h=>by simp at h⟩
 | (k,x)::r=>by
  obtain⟨i1,i2⟩:=uB f v r;rw[show oy f v ((k,x)::r)=(if k=f then(k,v)::r else(k,x)::oy f v r)from rfl];by_cases hk:k=f
  .rw[aE hk];subst hk;exact⟨by simp,λg h=>by simpa using h⟩
  .rw[aF hk];refine⟨?_,λg h=>?_⟩
   .rw[aB];exact ny _ i1
   .rw[aB]at h ⊢
    rcases List.mem_cons.mp h with e|e
    .exact List.mem_cons.mpr (.inl e)
    .exact ny _ (i2 g e)
theorem u7 (f:Str)(v:V):∀ fs:au (Str×V),(oy f v fs).length<=fs.length+1
 |[]=>by simp[oy]
 | (k,x)::r=>by
  have ih:=u7 f v r;rw[show oy f v ((k,x)::r)=(if k=f then(k,v)::r else(k,x)::oy f v r)from rfl];by_cases hk:k=f
  .rw[aE hk,a8,a8];lia
  .rw[aF hk,a8,a8];lia
def q9.some_of {v:V}{o:av ar}(r:q9 (some v) o):∃ u,o=some u/\gB v u:=by
 cases o with
 |none=>exact(show False from r).elim
 |some u=>exact⟨u,rfl,r⟩
def q9.none_of {o:av ar}(r:q9 none o):o=none:=by
 cases o with
 |none=>rfl
 |some u=>exact(show False from r).elim
def Iy {v:V}{u:ar}(r:gB v u):W.handedIn u=true:=by
 cases v with
 |iC=>cases(show u=Value.none from r);rfl
 |bl b=>cases(show u=Value.bool b from r);rfl
 |int i=>obtain⟨t,e⟩:=(show ∃ t,u=Value.int i t from r);cases e;rfl
 |str x=>obtain⟨t,e⟩:=(show ∃ t,u=Value.str x t from r);cases e;rfl
 |IQ b=>obtain⟨t,e⟩:=(show ∃ t,u=Value.bytes b t from r);cases e;rfl
 |Rh b=>obtain⟨t,e⟩:=(show ∃ t,u=Value.float b t from r);cases e;rfl
 |ref a=>cases(show u=Value.ref a from r);rfl
 |ty n=>cases(show u=Value.type n from r);rfl
section
variable {P:ah}{w:ai}{H H':Hp}{h h':Heap}{a C dx:ao}{fs fs':au (Str×V)}
def vT (iH:qO P w H h)(e:H a=some (.ins C dx fs)):∃ mA,Fl h a dx C mA/\(∀ f,q9 (fs.lookup f) (mA f))/\PySem.Within mA (fs.map (·.1))/\fs.length<=1000/\H dx=some (.own a):=by obtain⟨d,z,ne,ob,mA,n,r,q⟩:=(show jE P w H h a (.ins C dx fs)from iH a _ e);exact⟨mA,⟨ob,n,ne⟩,r,q,z,d⟩
end
structure Hm (K:aa)(C:ao):Prop where
 pg:W.plainGet K C Str.empty=true
 hd:W.hasDictIn K C=true
 po:W.plainOver K C=true
 sa:W.findIn K (.ref C) "__setattr__"=some (some<|.builtin "object.__setattr__")
def Hm.get {K:aa}{C:ao}(c:Hm K C)(f:Str):W.plainGet K C f=true:=c.pg
def qv (K:aa)(C:ao)(f:Str):Prop:=W.findIn K (.ref C) f=some none
def qv.Vc {K:aa}{C:ao}{f:Str}(n:qv K C f):W.takerIn K C f=some none:=by unfold W.takerIn;rw[show W.findIn K (.ref C) f=some none from n];rfl
structure Meth (K:aa)(C:ao)(m:Str)(f:ao):Prop where
 at_:W.findIn K (.ref C) m=some (some<|.ref f)
 fn:W.isFn K (.ref f)=true
 kp:W.keepIn K (.ref f)=true
section
variable {X:Cx}{fA:au (ao×Obj)}{σ:St}{H:Hp}{s:ak}{a C dx:ao}{fs:au (Str×V)}{f:Str}{v:V}{A:Around}{E:ar->ak->Prop}
def ER {b:Bool}{Q:ar->ak->Prop}(I:Inv X fA σ H s)(e:H a=some (.ins C dx fs))(c:Hm X.K C)(n:qv X.K C f)(l:fs.lookup f=some v)
 (h:∀ u s',Inv X fA σ H s'->gB v u->Q u s'):wpAny (model X.prog X.w) A (getAttr (.ref a) f b) Q E s:=by
 obtain⟨mA,O,r,_,_,_⟩:=vT I.iH e;obtain⟨u,hu,ru⟩:=q9.some_of (v:=v) (o:=mA f) (by rw[<- l];exact r f);exact get_map I.vS O (c.get f) c.hd n hu (Iy ru) (h u _ (I.tok _) ru)
def xi {m:Str}{g:ao}{pl:Sem Bool}{Q:ar×au ar->ak->Prop}(I:Inv X fA σ H s)(e:H a=some (.ins C dx fs))(c:Hm X.K C)(k:Meth X.K C m g)(l:fs.lookup m=none)
 (h:Q (.ref g,[.ref a]) s):wpAny (model X.prog X.w) A (getMethod (.ref a) m pl) Q E s:=by
 obtain⟨mA,O,r,_,_,_⟩:=vT I.iH e;have hn:mA m=none:=q9.none_of (by rw[<- l];exact r m);exact LQ I.vS O (c.get m) k.at_ k.fn hn h
def D4 {y:V}{u:ar}{Q:Unit->ak->Prop}(I:Inv X fA σ H s)(e:H a=some (.ins C dx fs))(c:Hm X.K C)(n:qv X.K C f)(hl:fs.length<1000)(ry:gB y u)
 (h:∀ s',Inv X fA σ (upd H a<|.ins C dx<|oy f y fs) s'->Q () s'):wpAny (model X.prog X.w) A (setAttr (.ref a) f u) Q E s:=by
 obtain⟨mA,O,r,wi,_,ho⟩:=vT I.iH e;have hz:(fs.map (·.1)).length<=sizeLine:=by rw[gP,sizeLine_eq];lia
 refine Oc I.vS O c.sa c.po n.Vc c.hd wi hz λh' O' sb=>h _ ?_;have hd:∃ o,h'.get? dx=some o:=let ⟨o,_,_,e',_⟩:=O'.ns;⟨o,e'⟩
 refine I.write (x:=a) (e:=dx) (by rw[e];exact True.intro) (.inr ho) (λb q hb z=>(sb.2 b hb).trans z) hd ?_;refine⟨by rw[gp O.ne];exact ho,?_,O.ne,O'.obj,_,O'.ns,λg=>?_,λg hg=>?_⟩
 .have:=u7 f y fs;lia
 .show q9 ((oy f y fs).lookup g) (if g=f then some u else mA g);rw[u5];by_cases q:g=f
  .rw[aE q,aE q];exact ry
  .rw[aF q,aF q];exact r g
 .by_cases q:g=f
  .rw[q];exact(uB f y fs).1
  .refine(uB f y fs).2 g (wi g λz=>hg ?_);show(if g=f then some u else mA g)=none;rw[aF q];exact z
def Inv.made (I:Inv X fA σ H s):Inv X fA σ (upd (upd H s.heap.objs.size<|.own<|s.heap.objs.size+1) (s.heap.objs.size+1)<|.ins C s.heap.objs.size [])
 {s with heap:=(s.heap.push W.emptyDict).push (W.instObj C s.heap.objs.size)}:=by
 have e1:(s.heap.push W.emptyDict).get? s.heap.objs.size=some W.emptyDict:=aD s.heap rfl;have e2:((s.heap.push W.emptyDict).push<|W.instObj C s.heap.objs.size).get? (s.heap.objs.size+1)=some (W.instObj C s.heap.objs.size):=by have:=aD (s.heap.push W.emptyDict) (o:=W.instObj C s.heap.objs.size) rfl;rwa [aR]at this
 have e3:(s.heap.push W.emptyDict).Ns s.heap.objs.size (λ_=>none):=⟨W.emptyDict,#[],_,e1,rfl,(λe he=>absurd he<|by simp),λ_=>rfl⟩;have I1:=I.laid (a:=s.heap.objs.size) (o:=.own<|s.heap.objs.size+1) (h':=s.heap.push W.emptyDict) (t':=s.toks) (λb u q=>jw _ q) (aw _) ⟨_,e1⟩;refine I1.laid (a:=s.heap.objs.size+1) (o:=.ins C s.heap.objs.size []) (t':=s.toks) (λb u q=>jw _ q) (Nat.le_of_eq<|aR _ _) ?_;have ne:s.heap.objs.size≠s.heap.objs.size+1:=aC<|bD _;refine⟨by rw[gp ne,fX],bA _,ne,e2,λ_=>none,(Heap.Ns1.of_empty e3).at λo q=>jw _ q,λ_=>True.intro,λy hy=>absurd rfl hy⟩
def Qc {prog:ah}{w:ai}{env:Env}{e:Expr}{f:Str}{pos:Pos}{s:ak}{Q:ar->ak->Prop}(hb:attributeBase e f env (eval e env)=eval e env)
 (h:wpAny (model prog w) A (eval e env) (λo s₁=>wpAny (model prog w) A (getAttr o f true) Q E s₁) E s):wpAny (model prog w) A (eval (.Attribute e f pos) env) Q E s:=
 Attribute_any_ h (by rw[arm_eval_Attribute,hb])
end
def YJ (K:aa)(ta:TE)(f:Str):TE:=λσ H Q=>ta σ H λx H1=>∃ a C dx fs v,x=.ref a/\H1 a=some (.ins C dx fs)/\Hm K C/\qv K C f/\fs.lookup f=some v/\Q v H1
def YX (K:aa)(ta tv:TE)(f:Str):TS:=λD σ H=>tv σ H λy H1=>ta σ H1 λx H2=>∃ a C dx fs,x=.ref a/\H2 a=some (.ins C dx fs)/\Hm K C/\qv K C f/\fs.length<1000 /\
 D.nx σ (upd H2 a<|.ins C dx<|oy f y fs)
section
variable {X:Cx}{o e value:Expr}{f:Str}{pos pos' nW:Pos}{ta tv:TE}
def Ss (he:PE X e ta)(hb:attributeBase e f X.env (eval e X.env)=eval e X.env):PE X (.Attribute e f pos) (YJ X.K ta f):=by intro fA s σ H Q I h;refine Qc hb (iN (he fA s σ H _ I h) λu s1 qU=>?_);obtain⟨x,H1,I1,rx,a,C,dx,fs,v,ex,ea,c,n,l,q⟩:=qU;subst ex;obtain rfl:u=Value.ref a:=rx;exact ER I1 ea c n l λu' s2 I2 ru=>⟨v,H1,I2,ru,q⟩
def Si (ha:PE X o ta)(hv:PE X value tv)(hs:swapsWith value (some<|.Attribute o f pos') pos.line X.env=pure false):PS X (.Assign [.Attribute o f pos'] value pos) (YX X.K ta tv f):=by intro fA s σ H D I h;refine plainObj_wpAny_Assign_Attribute (iN (hv fA s σ H _ I h) λu s1 pT=>?_) hs;obtain⟨y,H1,I1,ry,q⟩:=pT;refine iN (ha fA s1 σ H1 _ I1 q) λov s2 pS=>?_;obtain⟨x,H2,I2,rx,a,C,dx,fs,ex,ea,c,n,l,q2⟩:=pS;subst ex;obtain rfl:ov=Value.ref a:=rx;exact D4 I2 ea c n l ry λs3 I3=>⟨σ,_,I3,q2⟩
def Q1 {pl:Sem Bool}{m:Str}{oJ:Pos}{args:au Expr}{fA:au (ao×Obj)}{s:ak}{σ:St}{H:Hp}{Q:ar->ak->Prop}{te:TE}(he:PE X e te)(I:Inv X fA σ H s)
 (h:te σ H λx H1=>∃ a C dx fs g,x=.ref a/\H1 a=some (.ins C dx fs)/\Hm X.K C/\Meth X.K C m g/\fs.lookup m=none /\
   ∀ s1,Inv X fA σ H1 s1->wpAny (model X.prog X.w) X.A (callWith pos (.ref g) [.ref a] (backTo pos<|starEach args X.env)<|backToKw pos<|keywordEach [] X.env) Q X.xe s1)
 (ht:eval (.Call (.Attribute e m oJ) args [] pos) X.env=(do
   let ov <- eval e X.env
   standAt oJ.atName
   let (f,first) <- holding [ov] (getMethod ov m pl)
   callWith pos f first (backTo pos<|starEach args X.env) (backToKw pos<|keywordEach [] X.env))):
 wpAny (model X.prog X.w) X.A (eval (.Call (.Attribute e m oJ) args [] pos) X.env) Q X.xe s:=by
 refine W.methodCall_KW (pl:=pl) (iN (he fA s σ H _ I h) λu s1 qk=>?_) ht;obtain⟨x,H1,I1,rx,a,C,dx,fs,g,ex,ea,c,k,l,q⟩:=qk;subst ex;obtain rfl:u=Value.ref a:=rx;exact xi I1 ea c k l (q s1 I1)
end
section
variable {X:Cx}{fA:au (ao×Obj)}{σ:St}{H:Hp}{s:ak}{A:Around}{E:ar->ak->Prop}{Q:ar->ak->Prop}{c:ar}{b:Bool}
inductive kG (K:aa)(H:Hp):V->ar->Prop where
 |iC:kG K H .iC (.type "NoneType")
 |bl (x:Bool):kG K H (.bl x) (.type "bool")
 |int (i:Int):kG K H (.int i) (.type "int")
 |str (x:Str):kG K H (.str x) (.type "str")
 |Rh (x:UInt64):kG K H (.Rh x) (.type "float")
 |lst {a:ao} {xs:List V} (e:H a=some (.lst xs)):kG K H (.ref a) (.type "list")
 |CN {a:ao} {o:Obj} {xs:List V} (e:H a=some (.CN o<|.lst xs)):kG K H (.ref a) (.type "list")
 |tup {a:ao} {xs:List V} (e:H a=some (.tup xs)):kG K H (.ref a) (.type "tuple")
 |dK {a:ao} {fO:List (Key×V)} (e:H a=some (.dK fO)):kG K H (.ref a) (.type "dict")
 |dT {a:ao} {fO:List (List Key×V)} (e:H a=some (.dT fO)):kG K H (.ref a) (.type "dict")
 | ins {a C dx:ao} {fs:List (Str×V)} (e:H a=some (.ins C dx fs)) (cl:Hm K C) (ha:W.findIn K (.ref C) "__class__"=some (some<|.builtin "object.__class__"))
  (hn:W.specialIn K (.builtin "object.__class__") "__get__"=some (some<|.builtin "getset_descriptor.__get__")) (htk:W.takesIn K (.builtin "object.__class__")=some true)
  (hm:W.mroIn K C (.type "object")=some true):kG K H (.ref a) (.ref C)
def Ih {x:V}{u t:ar}(I:Inv X fA σ H s)(rx:gB x u)(ty:kG X.K H x t)(e:W.kitOne X.K t c=some b)(h:∀ tk,Q (.bool b) { s with toks:=tk}):
 wpAny (model X.prog X.w) A (call (.builtin "isinstance") [u,c]) Q E s:=by
 cases ty with
 |iC=>cases(show u=Value.none from rx);exact dF W.kitx_none I.vS True.intro e (λz=>nomatch z) h
 |bl y=>cases(show u=Value.bool y from rx);exact dF W.kitx_bool I.vS True.intro e (λz=>nomatch z) h
 |int i=>obtain⟨t,q⟩:=(show ∃ t,u=Value.int i t from rx);cases q;exact dF W.kitx_int I.vS True.intro e (λz=>nomatch z) h
 |str y=>obtain⟨t,q⟩:=(show ∃ t,u=Value.str y t from rx);cases q;exact dF W.kitx_str I.vS True.intro e (λz=>nomatch z) h
 |Rh y=>obtain⟨t,q⟩:=(show ∃ t,u=Value.float y t from rx);cases q;exact dF W.kitx_float I.vS True.intro e (λz=>nomatch z) h
 | @lst a xs ea =>cases(show u=Value.ref a from rx);obtain⟨_,_,n,_,h1⟩:=(show jE X.prog X.w H s.heap a (.lst xs)from I.iH a _ ea);exact dF W.kitx_list I.vS ⟨_,h1,rfl⟩ e (λz=>nomatch z) h
 | @CN a ob xs ea =>cases(show u=Value.ref a from rx);obtain⟨_,_,_,n,_,h1⟩:=(show jE X.prog X.w H s.heap a (.CN ob<|.lst xs)from I.iH a _ ea);exact dF W.kitx_list I.vS ⟨_,h1,rfl⟩ e (λz=>nomatch z) h
 | @tup a xs ea =>cases(show u=Value.ref a from rx);obtain⟨_,_,_,p⟩:=(show jE X.prog X.w H s.heap a (.tup xs)from I.iH a _ ea);obtain⟨o,h1,h2,_⟩:=p;exact dF W.kitx_tuple I.vS ⟨o,h1,h2⟩ e (λz=>nomatch z) h
 | @dK a fO ea =>cases(show u=Value.ref a from rx);obtain⟨_,_,vs,_,p⟩:=(show jE X.prog X.w H s.heap a (.dK fO)from I.iH a _ ea);obtain⟨o,es,ep,h1,h2,_⟩:=p;exact dF W.kitx_dict I.vS ⟨o,h1,h2.1⟩ e (λz=>nomatch z) h
 | @dT a fO ea =>cases(show u=Value.ref a from rx);obtain⟨_,_,xs,_,o,es,ep,h1,h2,_⟩:=(show jE X.prog X.w H s.heap a (.dT fO)from I.iH a _ ea);exact dF W.kitx_dict I.vS ⟨o,h1,h2.1⟩ e (λz=>nomatch z) h
 | @ins a C dx fs ea cl ha hn htk hm =>cases(show u=Value.ref a from rx);obtain⟨mA,O,_⟩:=vT I.iH ea;obtain⟨od,J,_⟩:=O.look;exact dF (W.kitx_own (cl.get _) cl.hd ha hn htk hm) I.vS J e (λz=>nomatch z) h
end
structure jF (k:Nat)(A:Around):Prop where
 hd:A.handled=none
 dp:A.depth+3*k+5<recursionLimit
 un:A.units+16*k+200<cLine
def jF.mono {j k:Nat}{A:Around}(r:jF k A)(h:j<=k):jF j A:=⟨r.hd,by have:=r.dp;lia,by have:=r.un;lia⟩
theorem jF.deeper {k:Nat}{A:Around}(r:jF (k+1) A)(env:Env):jF k (A.deeper env) :=
 ⟨r.hd,by have:=r.dp;show A.depth+1+3*k+5<_;lia,by have:=r.un;show A.units+3+16*k+200<_;lia⟩
theorem jF.in1 {k:Nat}{A:Around}(r:jF (k+1) A):jF k A.in1 :=
 ⟨r.hd,by have:=r.dp;show A.depth+3*k+5<_;lia,by have:=r.un;show A.units+1+16*k+200<_;lia⟩
def Ey {A:Around}{C:ao}{us:au ar}{kw:au (Str×ar)}:(A.under<|.builtin "type.__call__" ⟨.ref C::us,kw⟩).depth=A.depth+1:=by first|rfl|simp[Around.under,Code.weight,Code.isCreation,Code.isGuard,Code.isCaller,Code.frames,Code.isFrame,guardIds]
def Ex {A:Around}{C:ao}{us:au ar}{kw:au (Str×ar)}:(A.under<|.builtin "type.__call__" ⟨.ref C::us,kw⟩).units=A.units+1:=by first|rfl|simp[Around.under,Code.cUnits,Code.frames,Code.isFrame]
def jF.make {k:Nat}{A:Around}(r:jF (k+1) A)(C:ao)(us:au ar)(kw:au (Str×ar)):jF k (A.under<|.builtin "type.__call__" ⟨.ref C::us,kw⟩) :=
 ⟨r.hd,by have:=r.dp;rw[Ey];lia,by have:=r.un;rw[Ex];lia⟩
theorem jF.depth {k:Nat}{A:Around}(r:jF k A):A.depth<recursionLimit:=by have:=r.dp;lia
theorem jF.units {k:Nat}{A:Around}(r:jF k A):A.units+64<cLine:=by have:=r.un;lia
def NU:TA:=λ_ H Q=>Q [] H
def FG (ta:TE)(tr:TA):TA:=λσ H Q=>ta σ H λx H1=>tr σ H1 λxs H2=>Q (x::xs) H2
section
variable {X:Cx}{e:Expr}{es:au Expr}{te:TE}{t:TA}{pos:Pos}
def iV:PA X [] NU:=λ_ _ _ _ H Q I h=>cV ⟨[],H,I,.nil,h⟩
def gg (ha:PE X e te)(hr:PA X es t)(hs:starEach (e::es) X.env=(false,eval e X.env)::starEach es X.env:=by rfl):PA X (e::es) (FG te t):=by intro pos fA s σ H Q I h;rw[hs];show wpAny _ _ (spliced<|(false,eval e X.env)::backTo pos (starEach es X.env)) _ _ s;refine cC (iN (ha fA s σ H _ I h) λu s1 rp=>?_);obtain⟨x,H1,I1,r1,q1⟩:=rp;exact iN (hr pos fA s1 σ H1 _ I1 q1) λus s2 uD=>by obtain⟨xs,H2,I2,r2,q2⟩:=uD;exact⟨x::xs,H2,I2,.cons r1 r2,q2⟩
def YC (t:TA):TE:=λσ H Q=>t σ H λxs H1=>xs.length<=sizeLine/\∀ p,H1 p=none->Q (.ref p) (upd H1 p<|.tup xs)
def YG (t:TA):TE:=λσ H Q=>t σ H λxs H1=>xs.length<=sizeLine/\∀ p,H1 p=none->Q (.ref p) (upd H1 p<|.lst xs)
def Sn {x1}(h:PA X es t):PE X (.Tuple es x1 pos) (YC t):=by intro fA s σ H Q I hq;refine wpAny_Tuple_spliced (iN (h pos fA s σ H _ I hq) λus s1 ⟨xs,H1,I1,r,z,q⟩=>⟨by rw[<- r.length];exact z,?_⟩);have hf:H1 s1.heap.objs.size=none:=I1.iH.fresh<|aw _;refine⟨.ref s1.heap.objs.size,upd H1 s1.heap.objs.size<|.tup xs,I1.laid (t':=s1.toks) (λb u e=>jw _ e) (aw _) ?_,rfl,q _ hf⟩;exact⟨z,us,r,⟨_,aD _ rfl,rfl,_,rfl⟩⟩
def Kz (h:PA X es t):PE X (.List es pos) (YG t):=by intro fA s σ H Q I hq;refine wpAny_List_spliced (iN (h pos fA s σ H _ I hq) λus s1 ⟨xs,H1,I1,r,z,q⟩=>⟨by rw[<- r.length];exact z,?_⟩);have hf:H1 s1.heap.objs.size=none:=I1.iH.fresh<|aw _;refine⟨.ref s1.heap.objs.size,upd H1 s1.heap.objs.size<|.lst xs,I1.laid (t':=s1.toks) (λb u e=>jw _ e) (aw _) ?_,rfl,q _ hf⟩;exact⟨z,us,0,r,aD _ rfl⟩
end
abbrev Sp:=au V->Hp->VK->XK->Prop
abbrev Hn:=au Env->Hp->ak->XK->ar->ak->Prop
structure yB (P:ah)(w:ai)(K:aa)(mg:Str->Option ar)(fB:Heap)(A:Around)(fY:List Env)(s:ak)(H:Hp):Prop where
 frames:A.frames=some fY
 mod:Mod K mg fB
 bs:∀ b o,fB.get? b=some o->s.heap.get? b=some o/\H b=none
 IS:fB.objs.size<=s.heap.objs.size
 tH:s.heap.FunFrames fB fY
 Rc:∀ b∈AK fY,H b=none
 iH:qO P w H s.heap
 bare:AllBare s.gens
def CE (fY:au Env)(P:ah)(w:ai)(H:Hp)(s:ak)(Q:VK)(u:ar)(s':ak):Prop :=
 ∃ v H',s'.os=s.os/\AllBare s'.gens/\Un (AK fY) [] H H' s.heap s'.heap/\qO P w H' s'.heap/\gB v u/\Q v H'
def CR (CX:Hn)(fY:au Env)(P:ah)(w:ai)(H:Hp)(s:ak)(Q:VK)(E:XK)(r:Result)(s':ak):Prop :=
 match r with
 |.ok (.ret u)=>CE fY P w H s Q u s'
 |.ok _=>False
 |.error e=>CX fY H s E e s'
structure gD (P:ah)(w:ai)(K:aa)(mg:Str->Option ar)(fB:Heap)(CX:Hn)(k:Nat)(f:ao)(fd:aj)(ps:List Str)(sp:Sp):Prop where
 len:∀ vs H Q E,sp vs H Q E->vs.length=ps.length
 run:∀(A:Around) (fY:List Env) (s:ak) (H:Hp) (args:Args) (us:List ar) (vs:List V) (Q:VK) (E:XK),jF k A->yB P w K mg fB A fY s H->BindsTo s fd args (ps.zip us)->gC vs us->sp vs H Q E ->
  codeAny (model P w) A (.call (.ref f) args) (CR CX fY P w H s Q E) s
def gD.imp {P:ah}{w:ai}{K:aa}{mg:Str->av ar}{fB:Heap}{CX:Hn}{k:Nat}{f:ao}{fd:aj}{ps:au Str}{sp sp':Sp}(F:gD P w K mg fB CX k f fd ps sp)
 (h:∀ vs H Q E,sp' vs H Q E->sp vs H Q E):gD P w K mg fB CX k f fd ps sp':=
 ⟨λvs H Q E q=>F.len vs H Q E<|h _ _ _ _ q,λA fY s H args us vs Q E hr he hb hv hs=>F.run A fY s H args us vs Q E hr he hb hv<|h _ _ _ _ hs⟩
def yB.make {P:ah}{w:ai}{K:aa}{mg:Str->av ar}{fB:Heap}{A:Around}{fY:au Env}{s:ak}{H:Hp}(e:yB P w K mg fB A fY s H)(C:ao)(us:au ar)(kw:au (Str×ar)):
 yB P w K mg fB (A.under<|.builtin "type.__call__" ⟨.ref C::us,kw⟩) fY s H:=⟨by first|exact e.frames|(simpa [Around.under,Code.envs,Code.isFrame,pushEnvs]using e.frames),e.mod,e.bs,e.IS,e.tH,e.Rc,e.iH,e.bare⟩
theorem yB.in1 {P:ah}{w:ai}{K:aa}{mg:Str->av ar}{fB:Heap}{A:Around}{fY:au Env}{s:ak}{H:Hp}(e:yB P w K mg fB A fY s H):
 yB P w K mg fB A.in1 fY s H:=⟨e.frames,e.mod,e.bs,e.IS,e.tH,e.Rc,e.iH,e.bare⟩
section
variable {X:Cx}{fA:au (ao×Obj)}{σ:St}{H:Hp}{s s':ak}
def Inv.WI (I:Inv X fA σ H s):yB X.prog X.w X.K X.mg X.fB X.A X.stack s H :=
 ⟨I.ok.frames,I.ok.mod,I.bs,aV I.ok.IS I.sz,I.stack,I.sF,I.iH,I.bare⟩
def Inv.after {Q:VK}{u:ar}(I:Inv X fA σ H s)(h:CE X.stack X.prog X.w H s Q u s'):EP X fA σ Q u s':=by obtain⟨v,H',os,bare,un,iH,r,q⟩:=h;obtain⟨hh,g,d,t,os'⟩:=s';obtain rfl:os'=s.os:=os;exact⟨v,H',I.call (h':=hh) (g':=g) (d':=d) (t':=t) (ch:=[]) un iH bare λb z=>absurd z<|by simp,r,q⟩
end
def QE (sp:Sp)(A9:au V)(E:XK)(t:TA):TE:=λσ H Q=>t σ H λvs H1=>sp (vs++A9) H1 Q E
def QB (C:ao)(m:Str)(sp:Sp)(A9:au V)(E:XK)(ta:TE)(t:TA):TE:=λσ H Q=>ta σ H λx H1=>∃ a dx fs,x=.ref a/\H1 a=some (.ins C dx fs)/\fs.lookup m=none /\
 t σ H1 λvs H2=>sp (x::(vs++A9)) H2 Q E
def QC (C:ao)(sp:Sp)(A9:au V)(E:XK)(t:TA):TE:=λσ H Q=>t σ H λvs H1=>∀ x dx,H1 x=none->H1 dx=none->dx≠x ->
 sp (.ref x::(vs++A9)) (upd (upd H1 dx<|.own x) x<|.ins C dx []) (λv H2=>v=.iC/\Q (.ref x) H2) E
def Binds (K:aa)(fd:aj)(ps:au Str)(ds:au ar):Prop :=
 ∀(s:ak) (us:au ar),K.In s.heap->(us++ds).length=ps.length->BindsTo s fd ⟨us,[]⟩ (ps.zip<|us++ds)
def Binds.all {K:aa}{fd:aj}{ps:au Str}(h:∀ us:au ar,us.length=ps.length->bindArgs fd ⟨us,[]⟩=pure (ps.zip us)):Binds K fd ps []:=λs us _ hl=>by
 rw[b8]at hl ⊢
 exact .of_eq (h us hl)
def Passes (CX:Hn)(X:Cx)(E:XK):Prop:=∀(fA:au (ao×Obj)) (σ:St) (H:Hp) (s:ak) (e:ar) (s':ak),Inv X fA σ H s->CX X.stack H s E e s'->X.xe e s'
section
variable {X:Cx}{CX:Hn}{k:Nat}{f C:ao}{fd:aj}{ps:au Str}{sp:Sp}{A9:au V}{ds:au ar}{E:XK}{x m:Str}{p pos oJ:Pos}{e o:Expr}{es:au Expr}{ta:TE}{t:TA}
def J2 {fA:au (ao×Obj)}{σ:St}{H:Hp}{s:ak}{Q:VK}{us:au ar}{vs:au V}(F:gD X.prog X.w X.K X.mg X.fB CX k f fd ps sp)(hr:jF k X.A)(hb:Binds X.K fd ps ds)(hd:gC A9 ds)(hx:Passes CX X E)
 (I:Inv X fA σ H s) (r:gC vs us) (h:sp (vs++A9) H Q E):wpAny (model X.prog X.w) X.A (call (.ref f) us) (EP X fA σ Q) X.xe s:=by
 have r2:gC (vs++A9) (us++ds):=r.append hd;have hl:(us++ds).length=ps.length:=by rw[<- r2.length];exact F.len _ _ _ _ h
 refine wpAny_call (codeAny_mono (F.run X.A X.stack s H ⟨us,[]⟩ (us++ds) (vs++A9) Q E hr I.WI (hb s us I.vS hl) r2 h) λr s' hq=>?_);cases r with
 |error e=>exact hx fA σ H s e s' I hq
 | ok fl =>
  cases fl with
  |ret u=>exact I.after hq
  |next=>exact False.elim hq
  |brk=>exact False.elim hq
  |cont=>exact False.elim hq
def Ga (F:gD X.prog X.w X.K X.mg X.fB CX k f fd ps sp)(hr:jF k X.A)(hg:Gl X x)(hm:X.mg x=some (.ref f))(hk:W.keepIn X.K (.ref f)=true)(hb:Binds X.K fd ps ds)(hd:gC A9 ds)(hx:Passes CX X E)
 (ha:PA X (e::es) t) (yt:(x==("__debug__" : Str))=false:=by decide) (he:starEach (e::es) X.env=(false,eval e X.env)::starEach es X.env:=by rfl) (ql:(backTo pos<|starEach es X.env).any (·.1)=false:=by rfl):
 PE X (.Call (.Name x p) (e::es) [] pos) (QE sp A9 E t):=by
 intro fA s σ H Q I h;refine cA<|Ay I hg hm ?_ yt;refine W.callWith_K (h₀:=X.fB) I.ok.mod.V3 hk (iN (ha pos fA s σ H _ I h) λus s1 pT=>?_) he ql;obtain⟨vs,H1,I1,r,q⟩:=pT;refine⟨I1.vS,?_⟩;exact J2 F hr hb hd hx I1 r q
def OD {pl:Sem Bool}(he:PE X o ta)(c:Hm X.K C)(hm:Meth X.K C m f)(F:gD X.prog X.w X.K X.mg X.fB CX k f fd ps sp)(hr:jF k X.A)(hb:Binds X.K fd ps ds)(hd:gC A9 ds)(hx:Passes CX X E)(ha:PA X (e::es) t)
 (LG:starEach (e::es) X.env=(false,eval e X.env)::starEach es X.env:=by rfl) (ql:(backTo pos<|starEach es X.env).any (·.1)=false:=by rfl)
 (ht:eval (.Call (.Attribute o m oJ) (e::es) [] pos) X.env=(do
   let ov <- eval o X.env
   standAt oJ.atName
   let (f,first) <- holding [ov] (getMethod ov m pl)
   callWith pos f first (backTo pos<|starEach (e::es) X.env) (backToKw pos<|keywordEach [] X.env)):=by rfl):
 PE X (.Call (.Attribute o m oJ) (e::es) [] pos) (QB C m sp A9 E ta t):=by
 intro fA s σ H Q I h;refine W.methodCall_KW (pl:=pl) (iN (he fA s σ H _ I h) λu s1 pS=>?_) ht;obtain⟨x,H1,I1,rx,a,dx,fs,ex,ea,l,q⟩:=pS;subst ex;obtain rfl:u=Value.ref a:=rx;refine xi I1 ea c hm l ?_;refine W.callWith_K (first:=[.ref a]) (h₀:=X.fB) I.ok.mod.V3 hm.kp (iN (ha pos fA s1 σ H1 _ I1 q) λus s2 qk=>?_) LG ql;obtain⟨vs,H2,I2,r,q2⟩:=qk;refine⟨I2.vS,?_⟩;exact J2 (us:=.ref a::us) (vs:=.ref a::vs) F hr hb hd hx I2 (.cons rfl r) q2
structure Mk (K:aa)(C f:ao):Prop where
 makes:W.makesIn K C=true
 init:W.findIn K (.ref C) "__init__"=some (some<|.ref f)
 fn:W.isFn K (.ref f)=true
 kp:W.keepIn K (.ref C)=true
def J1 {fA:au (ao×Obj)}{σ:St}{H:Hp}{s:ak}{Q:VK}{us:au ar}{vs:au V}(M:Mk X.K C f)(F:gD X.prog X.w X.K X.mg X.fB CX k f fd ps sp)(hr:jF (k+1) X.A)(hb:Binds X.K fd ps ds)(hd:gC A9 ds)
 (hx:Passes CX X E) (I:Inv X fA σ H s) (r:gC vs us)
 (h:∀ x dx,H x=none->H dx=none->dx≠x->sp (.ref x::(vs++A9)) (upd (upd H dx<|.own x) x<|.ins C dx []) (λv H2=>v=.iC/\Q (.ref x) H2) E):
 wpAny (model X.prog X.w) X.A (call (.ref C) us) (EP X fA σ Q) X.xe s:=by
 have hq:=h (s.heap.objs.size+1) s.heap.objs.size (I.iH.fresh<|dt _) (I.iH.fresh<|aw _)<|aC<|bD _;have I2:=Inv.made (C:=C) I;have r2:gC (V.ref (s.heap.objs.size+1)::(vs++A9)) (Value.ref (s.heap.objs.size+1)::(us++ds)):=.cons rfl (r.append hd);have hl:(Value.ref (s.heap.objs.size+1)::us++ds).length=ps.length:=by have e:=r2.length;rw[F.len _ _ _ _ hq]at e;exact e.symm
 refine wpAny_call (Lf (f:=f) I.vS M.makes M.init (beq_iff_eq.mp M.fn) (codeAny_mono (F.run _ X.stack _ _ ⟨Value.ref (s.heap.objs.size+1)::us,[]⟩ (Value.ref (s.heap.objs.size+1)::(us++ds)) _ _ E (hr.make C us [])
  (I2.WI.make C us []) (hb _ (Value.ref (s.heap.objs.size+1)::us) I2.vS hl) r2 hq) λr s' LH=>?_))
 cases r with
 |error e=>exact hx fA σ _ _ e s' I2 LH
 | ok fl =>
  cases fl with
  | ret u =>obtain⟨v,H',I3,rv,ev,q3⟩:=I2.after LH;subst ev;exact⟨rv,⟨V.ref<|s.heap.objs.size+1,H',I3,rfl,q3⟩⟩
  |next=>exact False.elim LH
  |brk=>exact False.elim LH
  |cont=>exact False.elim LH
def OE (M:Mk X.K C f)(F:gD X.prog X.w X.K X.mg X.fB CX k f fd ps sp)(hr:jF (k+1) X.A)(hg:Gl X x)(hm:X.mg x=some (.ref C))(hb:Binds X.K fd ps ds)(hd:gC A9 ds)(hx:Passes CX X E)
 (ha:PA X (e::es) t) (yt:(x==("__debug__" : Str))=false:=by decide) (he:starEach (e::es) X.env=(false,eval e X.env)::starEach es X.env:=by rfl) (ql:(backTo pos<|starEach es X.env).any (·.1)=false:=by rfl):
 PE X (.Call (.Name x p) (e::es) [] pos) (QC C sp A9 E t):=by
 intro fA s σ H Q I h;refine cA<|Ay I hg hm ?_ yt;refine W.callWith_K (h₀:=X.fB) I.ok.mod.V3 M.kp (iN (ha pos fA s σ H _ I h) λus s1 rp=>?_) he ql;obtain⟨vs,H1,I1,r,q⟩:=rp;refine⟨I1.vS,?_⟩;exact J1 M F hr hb hd hx I1 r q
end
def PK (X:Cx)(V1:au Keyword)(t:TA):Prop :=
 ∀(pos:Pos) (fA:au (ao×Obj)) (s:ak) (σ:St) (H:Hp) (Q:au V->Hp->Prop),Inv X fA σ H s->t σ H Q->wpAny (model X.prog X.w) X.A (evalAll ((backToKw pos<|keywordEach V1 X.env).map (·.2))) (AP X fA σ Q) X.xe s
section
variable {X:Cx}{CX:Hn}{k:Nat}{f C:ao}{fd:aj}{ps ks:au Str}{sp:Sp}{E:XK}{x m:Str}{p pos oJ Lp:Pos}{e o:Expr}{es:au Expr}{V1:au Keyword}{te ta:TE}{t tk:TA}{nm:av Str}
def Sl:PK X [] NU:=λ_ _ _ _ H Q I h=>wpAny_evalAll_nil ⟨[],H,I,.nil,h⟩
def Oy (ha:PE X e te)(hr:PK X V1 t):PK X (⟨nm,e,Lp⟩::V1) (FG te t):=by intro pos fA s σ H Q I h;show wpAny _ _ (evalAll ((do let v <- eval e X.env;standAt pos;pure v)::(backToKw pos<|keywordEach V1 X.env).map (·.2))) _ _ s;refine wpAny_evalAll_cons (fW<|iN (ha fA s σ H _ I h) λu s1 uD=>?_);obtain⟨x,H1,I1,r1,q1⟩:=uD;refine fW<|dY<|az ?_;exact iN (hr pos fA s1 σ H1 _ I1 q1) λus s2 tE=>by obtain⟨xs,H2,I2,r2,q2⟩:=tE;exact⟨x::xs,H2,I2,.cons r1 r2,q2⟩
variable {g:au ar->au ar->au ar}{gV:au V->au V->au V}
end
structure fT (N P:List Str)(sc:Scope):Prop where
 kind:sc.kind=.function
 co:sc.isCoroutine=false
 gen:sc.isGenerator=false
 nd:N.Nodup
 pre:N.take P.length=P
 par:∀ x∈P,sc.names.lookup x=some .local\/sc.names.lookup x=some .cell
 SK:∀ y∈sc.names,y.2≠.free
theorem zx {kindOf:Str->av NameKind}{x:Str}:∀ {binds:au (Str×ar)} {m:Str->av ar},(∀ v,(x,v)∉binds)->bindL kindOf binds m x=m x
 |[],_,_=>rfl
 | (n,v)::r,m,h=>by
  unfold bindL;rw[zx λw hw=>h w<|ny _ hw];split
  .have:x≠n:=by rintro rfl;exact h v aH
   simp[this]
  .rfl
theorem zz {kindOf:Str->av NameKind}{x:Str}:∀ {binds:au (Str×ar)} {m:Str->av ar},(∀ v,(x,v)∉binds)->bindC kindOf binds m x=m x
 |[],_,_=>rfl
 | (n,v)::r,m,h=>by
  unfold bindC;rw[zz λw hw=>h w<|ny _ hw];split
  .rfl
  .have:x≠n:=by rintro rfl;exact h v aH
   simp[this]
theorem zy {kindOf:Str->av NameKind}{x:Str}{v:ar}:∀ {P:au Str} {vs:au ar} {i:Nat} {m:Str->av ar},P.Nodup->P[i]?=some x->vs[i]?=some v->kindOf x=some .local ->
 bindL kindOf (P.zip vs) m x=some v
 |[],_,_,_,_,h,_,_=>by simp at h
 |_::_,[],_,_,_,_,h,_=>by simp at h
 | p::P,w::vs,0,m,nd,h1,h2,hk=>by simp at h1 h2;subst h1;subst h2;show bindL kindOf ((p,w)::P.zip vs) m p=_;unfold bindL;rw[zx λv hv=>(List.nodup_cons.mp nd).1 (List.of_mem_zip hv).1,aE hk];simp
 | p::P,w::vs,i+1,m,nd,h1,h2,hk=>by show bindL kindOf ((p,w)::P.zip vs) m x=_;unfold bindL;exact zy (i:=i) (List.nodup_cons.mp nd).2 (by simpa using h1) (by simpa using h2) hk
theorem zA {kindOf:Str->av NameKind}{x:Str}{v:ar}:∀ {P:au Str} {vs:au ar} {i:Nat} {m:Str->av ar},P.Nodup->P[i]?=some x->vs[i]?=some v->kindOf x≠some .local ->
 bindC kindOf (P.zip vs) m x=some v
 |[],_,_,_,_,h,_,_=>by simp at h
 |_::_,[],_,_,_,_,h,_=>by simp at h
 | p::P,w::vs,0,m,nd,h1,h2,hk=>by simp at h1 h2;subst h1;subst h2;show bindC kindOf ((p,w)::P.zip vs) m p=_;unfold bindC;rw[zz λv hv=>(List.nodup_cons.mp nd).1 (List.of_mem_zip hv).1,aF hk];simp
 | p::P,w::vs,i+1,m,nd,h1,h2,hk=>by show bindC kindOf ((p,w)::P.zip vs) m x=_;unfold bindC;exact zA (i:=i) (List.nodup_cons.mp nd).2 (by simpa using h1) (by simpa using h2) hk
def start (N:au Str)(vs:au V):St:=vs.map some++List.replicate (N.length - vs.length) none
def rZ (CX:Hn)(P:ah)(w:ai)(K:aa)(mg:Str->av ar)(fB:Heap)(N:au Str)(qual:Str)(scope:Scope)(f:ao)(cd:ar)(A:Around)(fY:au Env)(s:ak)(H:Hp)(E:XK):Cx where
 prog:=P
 w:=w
 K:=K
 mg:=mg
 fB:=fB
 A:=A.deeper (envOfC qual scope s.heap.objs.size f cd)
 N:=N
 s₀:=s
 H₀:=H
 env:=envOfC qual scope s.heap.objs.size f cd
 fY:=fY
 stack:=envOfC qual scope s.heap.objs.size f cd::fY
 ex:=[]
 gH:=true
 fn:=λ_=>true
 pn:=[]
 xe:=λe s'=>wpAny (model P w) (A.deeper<|envOfC qual scope s.heap.objs.size f cd) (leaving (envOfC qual scope s.heap.objs.size f cd) e) (λ_ UB=>CX fY H s E e UB) (λe' UB=>CX fY H s E e' UB) s'
def oI {sc:Scope}{n:Nat}{x:Str}(h:sc.names.lookup x=some .cell):∃ c,(cellsFrom n sc.names []).lookup x=some c:=by have q:=W.cellsFrom_some sc.names n []<|.inl h;exact Option.isSome_iff_exists.mp q
def Ii {CX:Hn}{P:ah}{w:ai}{K:aa}{mg:Str->av ar}{fB:Heap}{N ps:au Str}{qual:Str}{scope:Scope}{f:ao}{cd:ar}{A:Around}{fY:au Env}{s s1:ak}{H:Hp}{E:XK}{us:au ar}{vs:au V}
 (S:fT N ps scope) (hd:A.handled=none) (e0:yB P w K mg fB A fY s H) (hl:vs.length=ps.length) (r:gC vs us)
 (x:InCallC s s.heap.objs.size (bindL (envOfC qual scope s.heap.objs.size f cd).kindOf (ps.zip us) λ_=>none) (cellsFrom (s.heap.objs.size+1) scope.names []) (bindC (envOfC qual scope s.heap.objs.size f cd).kindOf (ps.zip us) λ_=>none) s1):
 Inv (rZ CX P w K mg fB N qual scope f cd A fY s H E) [] (start N vs) H s1:=by
 have ql:ps.length<=N.length:=by have:=cD List.length S.pre;rw[bg]at this;lia
 obtain⟨h1,tk,rfl,hk⟩:=x.done;have VP:∀ b:ao,b∉(rZ CX P w K mg fB N qual scope f cd A fY s H E).ex:=λb z=>absurd (show b∈([]:au ao)from z) (by simp);refine⟨⟨e0.mod,S.kind,rfl,rfl,aw _,λy z c h1 h2=>?_,λy hy=>?_,λy c _ h=>?_,λ_=>hd,Around.frames_deeper e0.frames,.inr ⟨rfl,rfl⟩,λb z=>absurd z<|VP b,e0.bs,e0.IS,λb _ _=>VP b,λb z=>absurd z<|VP b,e0.tH,e0.Rc⟩,
  rfl,e0.bare,Un.iR hk,⟨_,x.toInCall.ns,λi y v h1 h2 h3=>?_⟩,λy c h=>⟨_,x.cell y c h⟩,e0.iH.fresh (aw _),λy c h=>?_,λp hp=>absurd (show p∈([]:au (ao×Obj))from hp)<|by simp,e0.iH.iR hk,?_⟩
 .exact name_of_addr x.apart (dr h1) (dr h2)
 .have hy:scope.names.lookup y=some .cell\/scope.names.lookup y=some .free:=hy;rcases hy with hy|hy
  .exact oI hy
  .exact absurd rfl (S.SK _<|dr hy)
 .exact eM (x.above y c<|dr h)
 .have hi:i<vs.length:=by
   unfold start at h2;by_cases hi:i<vs.length
   .exact hi
   .rw[qV (by simpa using hi)]at h2;rw[cU]at h2;split at h2<;>cases h2
  have ha:vs[i]?=some v:=by
   unfold start at h2;rw[vd (by simpa using hi),mS]at h2;cases e:vs[i]? with
   |none=>rw[e]at h2;cases h2
   |some a=>rw[e]at h2;cases h2;rfl
  obtain⟨u,hu,rv⟩:=r.get ha
  have hp:ps[i]?=some y:=by rw[<- S.pre,bI (by lia)];exact h1
  have ndP:ps.Nodup:=by rw[<- S.pre];exact S.nd.sublist (List.take_sublist _ _)
  refine⟨u,rv,?_⟩
  rcases S.par y (kq hp)with k|k
  .exact .inl ⟨k,zy ndP hp hu k⟩
  .obtain⟨c,e⟩:=oI (n:=s.heap.objs.size+1) k;refine .inr ⟨.inl k,c,e,?_⟩;have q:=x.cell y c e;rw[zA ndP hp hu (by show scope.names.lookup y≠_;rw[k];decide)]at q;exact q
 .exact e0.iH.fresh (eM<|x.above y c<|dr h)
 .unfold start;show _=N.length;rw[lP,gP,a9];lia
def Rg {CX:Hn}{P:ah}{w:ai}{K:aa}{mg:Str->av ar}{fB:Heap}{k:Nat}{f:ao}{name qual:Str}{params:Arguments}{body:au Stmt}{scope:Scope}{dV kV doc pm lj ct oc:ar}{an od:av ao}
 {OI:Array (av ar)} {N ps:au Str} {sp:Sp} (lk:K.lookup f=some ⟨oc,od,.func<|W.fnOf name qual params body scope dV kV doc pm an lj ct,OI⟩) (EL:W.codeIn K lj qual=true) (S:fT N ps scope)
 (len:∀ vs H Q E,sp vs H Q E->vs.length=ps.length)
 (xh:∀(A:Around) (fY:au Env) (s:ak) (H:Hp) (vs:au V) (Q:VK) (E:XK),jF k (A.deeper<|envOfC qual scope s.heap.objs.size f lj)->sp vs H Q E ->
   ∃ t,Bt (rZ CX P w K mg fB N qual scope f lj A fY s H E) body t/\t { nx:=λ_ H'=>Q .iC H',rt:=Q} (start N vs) H):
 gD P w K mg fB CX (k+1) f (W.fnOf name qual params body scope dV kV doc pm an lj ct) ps sp:=by
 refine⟨len,λA fY s H args us vs Q E hr e0 hb r NF=>?_⟩;have hl:=len _ _ _ _ NF;have KX:K.In s.heap:=e0.mod.V3.keeps λb o e=>(e0.bs b o e).1;have lim:s.heap.NoLimit:=e0.mod.nolimit.keeps λb o e=>(e0.bs b o e).1;have Wi:∀ y∈ps.zip us,scope.names.lookup y.1=some .local\/(scope.names.lookup y.1=some .cell/\((cellsFrom (s.heap.objs.size+1) scope.names []).lookup y.1).isSome=true):=λ⟨n,v⟩ hy=>by
  rcases S.par n (List.of_mem_zip hy).1 with q|q
  .exact .inl q
  .exact .inr ⟨q,W.cellsFrom_some _ _ _<|.inl q⟩
 refine codeAny_call_function hr.depth (KX _ _ lk) rfl S.co S.gen rfl (W.codeRec_of KX EL)<|hb _ _ _ _ ?_;refine wpAny_newFunctionEnv_cells S.kind Wi λenv he s1 x=>?_;subst he;refine⟨lim.keeps x.toInCall.keep,codeAny_func ?_⟩;obtain⟨t,ht,hq⟩:=xh A fY s H vs Q E (hr.deeper _) NF;have I:Inv (rZ CX P w K mg fB N qual scope f lj A fY s H E) [] (start N vs) H s1:=Ii S hr.hd e0 hl r x;refine bV (ht [] s1 (start N vs) H _ I hq) (λfl s' hs=>?_) λe s' hs=>hs;have fin:∀ {jb:St} {H':Hp} {v:V} {u:ar},Inv (rZ CX P w K mg fB N qual scope f lj A fY s H E) [] jb H' s'->gB v u->Q v H'->CE fY P w H s Q u s' :=
  λ{jb H' v u} J rv q=>⟨v,H',J.os,J.bare,J.fB,J.iH,rv,q⟩
 cases fl with
 | ret u =>obtain⟨v,jb,H',J,rv,q⟩:=hs;exact fin J rv q
 | next =>obtain⟨jb,H',J,q⟩:=hs;exact fin (v:=V.iC) (u:=Value.none) J rfl q
 | brk =>obtain⟨_,_,_,q⟩:=hs;exact False.elim q
 | cont =>obtain⟨_,_,_,q⟩:=hs;exact False.elim q
section
variable {X:Cx}{x:Str}{p pos:Pos}{e:Expr}{es:au Expr}{t:TA}{id T:String}{r:au V->Hp->VK->Prop}
def YN (r:au V->Hp->VK->Prop)(t:TA):TE:=λσ H Q=>t σ H λvs H1=>r vs H1 Q
def iu (hc:jr X (.builtin id) r)(hg:Gl X x)(hm:X.mg x=none)(hv:bootBuiltins x=some (.builtin id))(ha:PA X (e::es) t)(hn:x ≠ "__name__":=by decide)(yt:(x==("__debug__" : Str))=false:=by decide)
 (he:starEach (e::es) X.env=(false,eval e X.env)::starEach es X.env:=by rfl) (ql:(backTo pos<|starEach es X.env).any (·.1)=false:=by rfl):PE X (.Call (.Name x p) (e::es) [] pos) (YN r t):=by
 intro fA s σ H Q I h;refine cA<|kc I hg hm hv ?_ hn yt;exact PyProof.Rows.callWith_builtin1 (iN (ha pos fA s σ H _ I h) λus s1 qU=>by obtain⟨vs,H1,I1,r1,q1⟩:=qU;exact hc fA s1 σ H1 vs us Q I1 r1 q1) he ql
def yV (hc:jr X (.type T) r)(hg:Gl X x)(hm:X.mg x=none)(hv:bootBuiltins x=some (.type T))(ha:PA X (e::es) t)(hn:x ≠ "__name__":=by decide)(yt:(x==("__debug__" : Str))=false:=by decide)
 (he:starEach (e::es) X.env=(false,eval e X.env)::starEach es X.env:=by rfl) (ql:(backTo pos<|starEach es X.env).any (·.1)=false:=by rfl):PE X (.Call (.Name x p) (e::es) [] pos) (YN r t):=by
 intro fA s σ H Q I h;refine cA<|kc I hg hm hv ?_ hn yt;exact aS (iN (ha pos fA s σ H _ I h) λus s1 pT=>by obtain⟨vs,H1,I1,r1,q1⟩:=pT;exact hc fA s1 σ H1 vs us Q I1 r1 q1) he ql
end
end L2
namespace HT
open PySem PyProof.Rows
section
variable {prog:ah}{w:ai}{A:Around}{E:ar->ak->Prop}{s:ak}
def n6 (n d:Nat):av Int->Nat
 |none=>d
 |some v=>if v<0 then(v+(n:Int)).toNat else min v.toNat n
def wI (n d:Nat):n6 n d none=d:=rfl
def lD (n d k:Nat):n6 n d (some (k:Int))=min k n:=by show(if(k:Int)<0 then((k:Int)+(n:Int)).toNat else min (k:Int).toNat n)=min k n;rw[aF (by lia),sx]
def D6 (n d:Nat)(hd:d<=n)(o:av Int):n6 n d o<=n:=by
 cases o with
 |none=>exact hd
 | some v =>
  show(if v<0 then(v+(n:Int)).toNat else min v.toNat n)<=n;by_cases hv:v<0
  .rw[aE hv];lia
  .rw[aF hv];exact Nat.min_le_right _ _
end
end HT
namespace L2
open PySem PySem.Spec PyProof.Rows
abbrev TO:=St->Hp->(av Int->Hp->Prop)->Prop
def PO (X:Cx)(e:av Expr)(t:TO):Prop :=
 ∀(fA:au (ao×Obj)) (s:ak) (σ:St) (H:Hp) (Q:av Int->Hp->Prop),Inv X fA σ H s->t σ H Q ->
  wpAny (model X.prog X.w) X.A (evalPart e X.env) (λu s'=>∃ o H',Inv X fA σ H' s'/\IsPart u o/\Q o H') X.xe s
def NT:TO:=λ_ H Q=>Q none H
section
variable {X:Cx}{e:Expr}{te:TE}{lo hi:av Expr}{tl th:TO}{pos p2:Pos}
def Ox:PO X none NT:=by intro fA s σ H Q I h;rw[evalPart_none];exact az ⟨none,H,I,.none,h⟩
def Yp (X:Cx)(r:V->av Int->av Int->Hp->VK->Prop):Prop :=
 ∀(fA:au (ao×Obj)) (s:ak) (σ:St) (H:Hp) (x:V) (v vl vu:ar) (lo hi:av Int) (sl:ao) (Q:VK),Inv X fA σ H s->gB x v->s.heap.IsSliceOf sl vl vu .none->IsPart vl lo->IsPart vu hi->r x lo hi H Q ->
  ∃ T id,typeLookup (.type T) "__getitem__"=pure (some<|.builtin id)/\s.TypeIs v T/\wpAny (model X.prog X.w) X.A (getItem v<|.ref sl) (EP X fA σ Q) X.xe s
def tSl (r:V->av Int->av Int->Hp->VK->Prop)(te:TE)(tl th:TO):TE:=λσ H Q=>te σ H λx H1=>tl σ H1 λl H2=>th σ H2 λu H3=>r x l u H3 Q
def Ky {r:V->av Int->av Int->Hp->VK->Prop}(hr:Yp X r)(he:PE X e te)(hl:PO X lo tl)(hu:PO X hi th):PE X (.Subscript e (.Slice lo hi none p2) pos) (tSl r te tl th):=by intro fA s σ H Q I h;refine Subscript_ (iN (he fA s σ H _ I h) λv s1 pS=>?_);obtain⟨x,H1,I1,r1,q1⟩:=pS;refine wpAny_Slice (iN (hl fA s1 σ H1 _ I1 q1) λvl s2 qk=>?_);obtain⟨l,H2,I2,pl,q2⟩:=qk;refine iN (hu fA s2 σ H2 _ I2 q2) λvu s3 rp=>?_;obtain⟨u,H3,I3,pu,q3⟩:=rp;rw[evalPart_none];refine az ?_;have I4:Inv X fA σ H3 { s3 with heap:=s3.heap.push { cls:=.type "slice",data:=.fields #[vl,vu,.none]}}:=I3.iR (t':=s3.toks) λb ob q=>jw _ q;obtain⟨T,id,hT,ht,hg⟩:=hr fA { s3 with heap:=s3.heap.push { cls:=.type "slice",data:=.fields #[vl,vu,.none]}} σ H3 x v vl vu l u s3.heap.objs.size Q I4 r1 (Heap.IsSliceOf.new ..) pl pu q3;show wpAny (model X.prog X.w) X.A (subscriptTail e (.Slice lo hi none p2) v<|.ref s3.heap.objs.size) (EP X fA σ Q) X.xe { s3 with heap:=s3.heap.push { cls:=.type "slice",data:=.fields #[vl,vu,.none]}};exact tail_any (ops:=[.ref s3.heap.objs.size,v]) ht hT hg (by with_unfolding_all rfl)
def Fb (xs:au V)(lo hi:av Int):au V:=(xs.drop<|HT.n6 xs.length 0 lo).take (HT.n6 xs.length xs.length hi - HT.n6 xs.length 0 lo)
def Df (xs:au V)(lo hi:av Int):(Fb xs lo hi).length<=xs.length:=by unfold Fb;rw[bg,bG];lia
end
def EE (n:Nat)(i:Int):av Nat:=if 0<=i then(if i<n then some i.toNat else none)else if -(n:Int)<=i then some (i+n).toNat else none
def kr {α:Type}(xs:au α)(i:Int):av α:=(EE xs.length i).bind λj=>xs[j]?
def Gn {n:Nat}{i:Int}{j:Nat}(h:EE n i=some j):seqIndex? i n=some j/\j<n /\ -(n:Int)<=i/\i<n:=by
 unfold EE at h;by_cases h0:0<=i
 .rw[aE h0]at h;by_cases h1:i<n
  .rw[aE h1]at h;have e:i.toNat=j:=aK h;exact⟨by rw[seqIndex_of h0 h1,e],by lia,by lia,h1⟩
  .rw[aF h1]at h;cases h
 .rw[aF h0]at h;by_cases h1:-(n:Int)<=i
  .rw[aE h1]at h;have e:(i+n).toNat=j:=aK h;exact⟨by rw[seqIndex_neg (by lia) h1,e],by lia,h1,by lia⟩
  .rw[aF h1]at h;cases h
def Bp {α:Type}{xs:au α}{i:Int}{v:α}(h:kr xs i=some v):∃ j,seqIndex? i xs.length=some j/\xs[j]?=some v/\j<xs.length /\ -(xs.length:Int)<=i/\i<xs.length:=by
 unfold kr at h;cases e:EE xs.length i with
 |none=>rw[e]at h;cases h
 | some j =>rw[e]at h;obtain⟨h1,h2,h3,h4⟩:=Gn e;exact⟨j,h1,h,h2,h3,h4⟩
def kM {α:Type}{xs:au α}{j:Nat}{v:α}(h:xs[j]?=some v):kr xs (j:Int)=some v:=by
 have hj:j<xs.length:=(kB h).1;have e:EE xs.length (j:Int)=some j:=by unfold EE;rw[aE (by lia),aE (by lia)];simp
 unfold kr;rw[e];exact h
def tV {α:Type}(xs:au α)(v:α):kr (xs++[v]) (-1)=some v:=by
 have hl:(xs++[v]).length=xs.length+1:=by simp
 have e:EE (xs++[v]).length (-1)=some xs.length:=by unfold EE;rw[hl,aF (by decide),aE (by lia)];congr 1;lia
 unfold kr;rw[e];show(xs++[v])[xs.length]?=some v;simp
def Bs (b:Expr):Prop:=∀ o i,subscripted b false o i=operate [o,i] (getItem o i)
def Hk (X:Cx)(r:R2):Prop :=
 ∀(value slice:Expr) (fA:au (ao×Obj)) (s:ak) (σ:St) (H:Hp) (x y:V) (v u:ar) (Q:VK),Inv X fA σ H s->gB x v->gB y u->r x y H Q ->
  subscripted slice false v u=operate [v,u] (getItem v u)->wpAny (model X.prog X.w) X.A (subscriptTail value slice v u) (EP X fA σ Q) X.xe s
def Ni (X:Cx)(id:String)(r:V->au V->Hp->VK->Prop):Prop :=
 ∀(fA:au (ao×Obj)) (s:ak) (σ:St) (H:Hp) (x:V) (xs:au V) (v:ar) (us:au ar) (Q:VK),Inv X fA σ H s->gB x v->gC xs us->r x xs H Q ->
  wpAny (model X.prog X.w) X.A (call (.builtin id)<|v::us) (EP X fA σ Q) X.xe s
section
variable {X:Cx}{a b:Expr}{ta tb:TE}{pos:Pos}
def Hk.or {r r':R2}(h:Hk X r)(h':Hk X r'):Hk X (λx y H Q=>r x y H Q\/r' x y H Q):=by
 intro value slice fA s σ H x y v u Q I rx ry q hs;rcases q with q|q
 .exact h value slice fA s σ H x y v u Q I rx ry q hs
 .exact h' value slice fA s σ H x y v u Q I rx ry q hs
def qa {r:R2}(hr:Hk X r)(ha:PE X a ta)(hb:PE X b tb)(hs:Bs b):PE X (.Subscript a b pos) (Ve r ta tb):=by intro fA s σ H Q I h;exact Subscript_ (Qa ha hb I h λv u s2 x y H2 I2 rx ry q=>hr a b fA s2 σ H2 x y v u Q I2 rx ry q<|hs _ _)
def Vz (K:aa):R2:=λx y H Q=>∃ p xs i v,x=.ref p/\y=.int i/\qu K H p xs/\kr xs i=some v/\Q v H
def Vx (K:aa):R2:=λx y H Q=>∃ p xs i v,x=.ref p/\y=.int i/\Jc K H p xs/\kr xs i=some v/\Q v H
def Vy:R2:=λx y H Q=>∃ z i c,x=.str z/\y=.int i/\z.length<=sizeLine/\kr z.cps.toList i=some c/\Q (.str ⟨#[c]⟩) H
def Pa:Hk X (Vz X.K):=by
 intro value slice fA s σ H x y v u Q I rx ry h hs;obtain⟨p,xs,i,z,rfl,rfl,hq,he,q⟩:=h;cases rx;obtain⟨t,rfl⟩:=ry;obtain⟨gb,r,pl,hz⟩:=I.list hq;obtain⟨j,h1,h2,h3,h4,h5⟩:=Bp he;obtain⟨w,ew,DJ⟩:=r.get h2;have hl:=r.length;have hn:=qg;have fin:EP X fA σ Q w s:=⟨z,H,I,DJ,q⟩;by_cases h0:0<=i
 .have hj:i.toNat=j:=by rw[seqIndex_of h0 h5]at h1;exact aK h1
  exact item_listR pl.isList h0 (by lia) (by rw[hj];simpa using ew) fin hs
 .have hj:(i+(gb.toArray.size:Int)).toNat=j:=by rw[seqIndex_neg (by lia) h4]at h1;rw[aG,<- hl];exact aK h1
  exact subscriptTail_builtinR (x:=w) pl.isList.typeIs slot_list_getitem.lookup
   (wpAny_getItem_list_neg (Q:=λr s'=>r=w/\EP X fA σ Q r s') pl.isList (by lia) (by rw[aG]<;> lia) (by lia) (by rw[hj];simpa using ew) ⟨rfl,fin⟩) hs
def Ta:Hk X (Vx X.K):=by
 intro value slice fA s σ H x y v u Q I rx ry h hs;obtain⟨p,xs,i,z,rfl,rfl,hq,he,q⟩:=h;cases rx;obtain⟨t,rfl⟩:=ry;obtain⟨gb,r,pl,hz⟩:=I.tuple hq;obtain⟨j,h1,h2,h3,h4,h5⟩:=Bp he;obtain⟨w,ew,DJ⟩:=r.get h2;have hl:=r.length;have hn:=qg;have fin:EP X fA σ Q w s:=⟨z,H,I,DJ,q⟩;exact subscriptTail_builtinR (x:=w) pl.typeIs slot_tuple_getitem.lookup
  (getItem_tuple (j:=j) (Q:=λr s'=>r=w/\EP X fA σ Q r s') pl (by lia) (by lia) (by rw[aG,<- hl];exact h1) (by simpa using ew) ⟨rfl,fin⟩) hs
def Tb:Hk X Vy:=by
 intro value slice fA s σ H x y v u Q I rx ry h hs;obtain⟨z,i,c,rfl,rfl,hz,he,q⟩:=h;obtain⟨t,rfl⟩:=rx;obtain⟨t',rfl⟩:=ry;obtain⟨j,h1,h2,h3,h4,h5⟩:=Bp he;have hl:z.cps.toList.length=z.length:=by simp[Str.length]
 rw[hl]at h1 h4 h5;have hn:=qg;exact tail_any (typeIs_str s z t) slot_str_getitem.lookup (getItem_str (c:=c) (by
  have e1:decide (i < -(2 ^ 63:Int))=false:=aO (by lia)
  have e2:decide (i≥2 ^ 63)=false:=aO (by lia)
  rw[e1,e2,Bool.or_false]) (by rw[h1];simpa using h2) ⟨.str ⟨#[c]⟩,H,I.tok _,⟨_,rfl⟩,q⟩) hs
def rIx (K:aa):R2:=λx y H Q=>Vz K x y H Q\/Vx K x y H Q\/Vy x y H Q
def Tc:Hk X (rIx X.K):=Pa.or (Ta.or Tb)
def Eu (gb:au ar)(n j:Nat)(u:ar):Obj.mapSeq (·.setIfInBounds j u) { cls:=.type "list",data:=.seq gb.toArray n}={ cls:=.type "list",data:=.seq (gb.set j u).toArray n}:=by simp[Obj.mapSeq]
theorem Inv.lst {fA:au (ao×Obj)}{σ:St}{H:Hp}{s:ak}{p:ao}{xs:au V}(I:Inv X fA σ H s)(h:H p=some (.lst xs)):
 ∃(gb:au ar) (n:Nat),gC xs gb/\s.heap.get? p=some { cls:=.type "list",data:=.seq gb.toArray n}/\xs.length<=sizeLine:=by
 obtain⟨z,gb,n,r,e⟩:=I.iH p _ h;exact⟨gb,n,r,e,z⟩
def Inv.SQ {fA:au (ao×Obj)}{σ:St}{H:Hp}{s:ak}{p:ao}{xs ys:au V}{gb its':au ar}{n n':Nat}{f:Obj->Obj}(I:Inv X fA σ H s)(h:H p=some (.lst xs))
 (ho:s.heap.get? p=some { cls:=.type "list",data:=.seq gb.toArray n}) (hf:f { cls:=.type "list",data:=.seq gb.toArray n}={ cls:=.type "list",data:=.seq its'.toArray n'}) (r:gC ys its') (hz:ys.length<=sizeLine) (t:Nat):
 Inv X fA σ (upd H p<|.lst ys) {s with heap:=s.heap.update p f,toks:=t}:=by
 have e:(s.heap.update p f).get? p=some { cls:=.type "list",data:=.seq its'.toArray n'}:=by rw[bF f ho (by rw[hf]<;> rfl),hf]
 refine I.write (x:=p) (e:=p) (by rw[h];trivial) (.inl rfl) (λb u hb q=>(aX _ _<|bX hb).trans q) ⟨_,e⟩ ?_;exact⟨hz,its',n',r,e⟩
def Vw:V->V->V->Hp->(Hp->Prop)->Prop:=λo i v H Q=>∃ p xs k j,o=.ref p/\i=.int k/\H p=some (.lst xs)/\EE xs.length k=some j/\Q (upd H p<|.lst<|xs.set j v)
def set_list:Qj X Vw:=by
 intro fA s σ H o i v ov iv u Q I ro ri rv h;obtain⟨p,xs,k,j,rfl,rfl,hp,hj,q⟩:=h;cases ro;obtain⟨t,rfl⟩:=ri;obtain⟨gb,n,r,ho,hz⟩:=I.lst hp;obtain⟨h1,h2,h3,h4⟩:=Gn hj;have hl:=r.length;have hn:=qg;have I':Inv X fA σ (upd H p<|.lst<|xs.set j v) { s with heap:=s.heap.update p (Obj.mapSeq (·.setIfInBounds j u))} :=
  I.SQ hp ho (Eu gb n j u) (r.set rv j) (by rw[ck];exact hz) s.toks
 by_cases h0:0<=k
 .have hk:k.toNat=j:=by rw[seqIndex_of h0 h4]at h1;exact aK h1
  exact W.ki_setAt ho h0 (by lia) (by rw[aG,<- hl];exact h4) (by rw[hk];exact⟨_,I',q⟩)
 .have hk:(k+(gb.toArray.size:Int)).toNat=j:=by rw[seqIndex_neg (by lia) h3]at h1;rw[aG,<- hl];exact aK h1
  exact W.ki_setBack ho (by lia) (by rw[aG,<- hl];exact h3) (by lia) (by rw[hk];exact⟨_,I',q⟩)
def Aa (lo hi:av Int)(n:Nat):(sliceBounds lo hi none n).1=((HT.n6 n 0 lo:Nat):Int)/\(sliceBounds lo hi none n).2.1=((HT.n6 n n hi:Nat):Int)/\(sliceBounds lo hi none n).2.2=1:=by
 refine⟨?_,?_,rfl⟩
 .cases lo with
  |none=>simp[sliceBounds,HT.n6]
  | some i =>
   simp only[sliceBounds,HT.n6,Option.getD_none,show(1:Int)>0 by decide,if_true];by_cases h:i<0
   .simp only[h,if_true]<;> lia
   .simp only[h,if_false]<;> lia
 .cases hi with
  |none=>simp[sliceBounds,HT.n6]
  | some i =>
   simp only[sliceBounds,HT.n6,Option.getD_none,show(1:Int)>0 by decide,if_true];by_cases h:i<0
   .simp only[h,if_true]<;> lia
   .simp only[h,if_false]<;> lia
def yf (gb:au ar)(lo hi:av Int):slicePick gb.toArray lo hi none=((gb.drop<|HT.n6 gb.length 0 lo).take<|HT.n6 gb.length gb.length hi - HT.n6 gb.length 0 lo).toArray:=by obtain⟨h1,h2,h3⟩:=Aa lo hi gb.toArray.size;unfold slicePick;rw[h1,h2,h3];simp only[sliceRange_one,pick_run,aG]<;> rfl
def YZ (K:aa):V->av Int->av Int->Hp->VK->Prop:=λx lo hi H Q=>∃ a xs,x=.ref a/\qu K H a xs/\∀ p,H p=none->Q (.ref p) (upd H p<|.lst<|Fb xs lo hi)
def Ob:Yp X (YZ X.K):=by intro fA s σ H x v vl vu lo hi sl Q I rx hs pl pu h;obtain⟨a,xs,rfl,hx,q⟩:=h;cases rx;obtain⟨gb,r,ht,hz⟩:=I.list hx;have hlen:=r.length;refine⟨"list",_,slot_list_getitem.lookup,ht.isList.typeIs,?_⟩;refine wpAny_getItem_list_slice ht.isList hs pl pu .none (by simp) ?_ (by rw[aG]<;> lia);rw[yf,<- hlen];refine⟨.ref s.heap.objs.size,_,I.laid (t':=s.toks) (o:=.lst<|Fb xs lo hi) (λb ob q=>jw _ q) (aw _) ?_,rfl,q _<|I.iH.fresh<|aw _⟩;exact⟨aV (Df xs lo hi) hz,_,0,(r.drop<|HT.n6 xs.length 0 lo).take<|HT.n6 xs.length xs.length hi - HT.n6 xs.length 0 lo,aD _ rfl⟩
def lQ:V->Bool
 |.iC=>true
 |.bl _=>true
 |.int _=>true
 |.str _=>true
 |_=>false
def Mi:V->V->Bool
 |.iC,.iC=>true
 |.bl a,.bl b=>a==b
 |.bl a,.int b=>(if a then 1 else 0)==b
 |.int a,.bl b=>a==(if b then 1 else 0)
 |.int a,.int b=>a==b
 |.str a,.str b=>a==b
 |_,_=>false
def E6 {A:Around}{s:ak}{y x:V}{u v:ar}(ry:gB y u)(rx:gB x v)(fy:lQ y=true)(fx:lQ x=true):SeqAt.EqAt A s u v (Mi y x):=by
 cases y with
 | iC =>
  cases ry;cases x with
  |iC=>cases rx;exact SeqAt.EqAt.same _
  |bl b=>cases rx;exact SeqAt.EqAt.none_bool b
  |int b=>obtain⟨t,rfl⟩:=rx;exact SeqAt.EqAt.none_int b t
  |str b=>obtain⟨t,rfl⟩:=rx;exact SeqAt.EqAt.none_str b t
  |_=>exact absurd (show false=true from fx) aM
 | bl a =>
  cases ry;cases x with
  |iC=>cases rx;exact SeqAt.EqAt.bool_none a
  |bl b=>cases rx;exact SeqAt.EqAt.bool_bool a b
  |int b=>obtain⟨t,rfl⟩:=rx;exact SeqAt.EqAt.bool_int a b t
  |str b=>obtain⟨t,rfl⟩:=rx;exact SeqAt.EqAt.bool_str a b t
  |_=>exact absurd (show false=true from fx) aM
 | int a =>
  obtain⟨t',rfl⟩:=ry;cases x with
  |iC=>cases rx;exact SeqAt.EqAt.int_none a t'
  |bl b=>cases rx;exact SeqAt.EqAt.int_bool a t' b
  |int b=>obtain⟨t,rfl⟩:=rx;exact SeqAt.EqAt.int_int a t' b t
  |str b=>obtain⟨t,rfl⟩:=rx;exact SeqAt.EqAt.int_str a t' b t
  |_=>exact absurd (show false=true from fx) aM
 | str a =>
  obtain⟨t',rfl⟩:=ry;cases x with
  |iC=>cases rx;exact SeqAt.EqAt.str_none a t'
  |bl b=>cases rx;exact SeqAt.EqAt.str_bool a t' b
  |int b=>obtain⟨t,rfl⟩:=rx;exact SeqAt.EqAt.str_int a t' b t
  |str b=>obtain⟨t,rfl⟩:=rx;exact SeqAt.EqAt.str_str a t' b t
  |_=>exact absurd (show false=true from fx) aM
 |_=>exact absurd (show false=true from fy) aM
def CT (x:V)(u:ar):Bool:=match u with
 |.none=>Mi .iC x
 |.bool b=>Mi (.bl b) x
 |.int i _=>Mi (.int i) x
 |.str z _=>Mi (.str z) x
 |_=>false
def E5 {x y:V}{u:ar}(r:gB y u)(f:lQ y=true):CT x u=Mi y x:=by
 cases y with
 |iC=>cases r;rfl
 |bl b=>cases r;rfl
 |int i=>obtain⟨t,rfl⟩:=r;rfl
 |str z=>obtain⟨t,rfl⟩:=r;rfl
 |_=>exact absurd (show false=true from f) aM
theorem tY {x:V}:∀ {xs:au V} {us:au ar},gC xs us->xs.all lQ=true->us.any (CT x)=xs.any λy=>Mi y x
 |_,_,.nil,_=>rfl
 | y::xs,u::us,.cons r t,f=>by rw[dG,cv]at f;rw[c6,c6,E5 r f.1,tY t f.2]
theorem oB {A:Around}{s:ak}{x:V}{v:ar}(rx:gB x v)(fx:lQ x=true):∀ {xs:au V} {us:au ar},gC xs us->xs.all lQ=true->∀ u∈us,SeqAt.EqAt A s u v (CT x u)
 |_,_,.nil,_=>λu hu=>by cases hu
 | y::xs,u::us,.cons r t,f=>λu' hu=>by
  rw[dG,cv]at f;rcases List.mem_cons.mp hu with rfl|hu
  .rw[E5 r f.1];exact E6 r rx f.1 fx
  .exact oB rx fx t f.2 u' hu
def UM (x:V)(xs:au V):Bool:=xs.any λy=>Mi y x
def rIn (K:aa)(neg:Bool):R2:=λx y H Q=>∃ p xs,y=.ref p/\(qu K H p xs\/Jc K H p xs)/\lQ x=true/\xs.all lQ=true/\Q (.bl<|if neg then !UM x xs else UM x xs) H
def HM:lq X (compareOp .In) (rIn X.K false):=by
 intro fA s σ H x y v u Q I rx ry h;obtain⟨p,xs,rfl,hq,fx,fs,q⟩:=h;cases ry;rcases hq with hq|hq
 .obtain⟨gb,r,pl,hz⟩:=I.list hq;refine SeqAt.in_listAt (CT x) pl.isList (λw hw=>oB rx fx r fs w<|by simpa using hw) ⟨.bl _,H,I,rfl,?_⟩;rw[show gb.toArray.any (CT x)=gb.any (CT x) by simp,tY r fs];exact q
 .obtain⟨gb,r,pl,hz⟩:=I.tuple hq;refine SeqAt.in_tupleAt (CT x) pl (λw hw=>oB rx fx r fs w<|by simpa using hw) ⟨.bl _,H,I,rfl,?_⟩;rw[show gb.toArray.any (CT x)=gb.any (CT x) by simp,tY r fs];exact q
def Aj:lq X (compareOp .NotIn) (rIn X.K true):=by
 intro fA s σ H x y v u Q I rx ry h;obtain⟨p,xs,rfl,hq,fx,fs,q⟩:=h;cases ry;rcases hq with hq|hq
 .obtain⟨gb,r,pl,hz⟩:=I.list hq;refine SeqAt.notIn_listAt (CT x) pl.isList (λw hw=>oB rx fx r fs w<|by simpa using hw) ⟨.bl _,H,I,rfl,?_⟩;rw[show gb.toArray.any (CT x)=gb.any (CT x) by simp,tY r fs];exact q
 .obtain⟨gb,r,pl,hz⟩:=I.tuple hq;refine SeqAt.notIn_tupleAt (CT x) pl (λw hw=>oB rx fx r fs w<|by simpa using hw) ⟨.bl _,H,I,rfl,?_⟩;rw[show gb.toArray.any (CT x)=gb.any (CT x) by simp,tY r fs];exact q
def Ai:lq X (compareOp .NotIn) (λx y H Q=>∃ i j,x=.str i/\y=.str j/\Q (.bl<|!(!(Builtin.Str.occurrences j i 0 j.length 1).isEmpty)) H):=by intro fA s σ H x y v u Q I rx ry h;obtain⟨i,j,rfl,rfl,q⟩:=h;obtain⟨t,rfl⟩:=rx;obtain⟨t',rfl⟩:=ry;exact notIn_str ⟨.bl _,H,I,rfl,q⟩
def Bi:jr X (.builtin "len") (λxs H Q=>∃ p ys,xs=[.ref p]/\(qu X.K H p ys\/Jc X.K H p ys)/\Q (.int ys.length) H):=by
 intro fA s σ H xs us Q I r h;obtain⟨p,ys,rfl,hq,q⟩:=h;obtain⟨u,rfl,rx⟩:=vals1 r;cases rx;have hn:=qg;rcases hq with hq|hq
 .obtain⟨gb,r',pl,hz⟩:=I.list hq;have hlen:=r'.length;exact Calls.call_len_list pl.isList (by simp only[aG]<;> lia) ⟨.int ys.length,H,I.tok _,⟨s.toks+1,by rw[aG,hlen]⟩,q⟩
 .obtain⟨gb,r',pl,hz⟩:=I.tuple hq;have hlen:=r'.length;exact len_tuple pl (by simp only[aG]<;> lia) ⟨.int ys.length,H,I.tok _,⟨s.toks+1,by rw[aG,hlen]⟩,q⟩
def Bh:jr X (.builtin "len") (λxs H Q=>∃ z,xs=[.str z]/\z.length<=sizeLine/\Q (.int z.length) H):=by intro fA s σ H xs us Q I r h;obtain⟨z,rfl,hz,q⟩:=h;obtain⟨u,rfl,t,rfl⟩:=vals1 r;have hn:=qg;exact len_str (by lia) ⟨.int z.length,H,I.tok _,⟨_,rfl⟩,q⟩
def jr.or {f:ar}{r r':au V->Hp->VK->Prop}(h:jr X f r)(h':jr X f r'):jr X f (λxs H Q=>r xs H Q\/r' xs H Q):=by
 intro fA s σ H xs us Q I rs q;rcases q with q|q
 .exact h fA s σ H xs us Q I rs q
 .exact h' fA s σ H xs us Q I rs q
def Bg:jr X (.type "list") (λxs H Q=>∃ p ys,xs=[.ref p]/\(qu X.K H p ys\/Jc X.K H p ys)/\∀ l,H l=none->Q (.ref l) (upd H l<|.lst ys)):=by
 intro fA s σ H xs us Q I r h;obtain⟨p,ys,rfl,hq,q⟩:=h;obtain⟨u,rfl,rx⟩:=vals1 r;cases rx;have fin:∀(gb:au ar),gC ys gb->ys.length<=sizeLine->∀(h':Heap) (c':Nat),(∀ b o',s.heap.get? b=some o'->h'.get? b=some o') ->
  h'.get? s.heap.objs.size=some { cls:=.type "list",dict:=none,data:=.seq gb.toArray c',slots:=#[]}->EP X fA σ Q (.ref s.heap.objs.size) {s with heap:=h'}:=λgb r' hz h' c' kp e=>
  ⟨.ref s.heap.objs.size,_,I.laid (t':=s.toks) kp (aw _)<|show jE X.prog X.w _ h' _ (.lst ys)from⟨hz,gb,c',r',e⟩,rfl,q _<|I.iH.fresh<|aw _⟩
 rcases hq with hq|hq
 .obtain⟨gb,r',pl,hz⟩:=I.list hq;have hlen:=r'.length;obtain⟨o,ho,hc,n,hd⟩:=pl.isList;exact call_list_seq p (.inl rfl) ho hc hd (λh' c' kp e=>fin gb r' hz h' c' kp e) (by simp only[aG]<;> lia)
 .obtain⟨gb,r',pl,hz⟩:=I.tuple hq;have hlen:=r'.length;obtain⟨o,ho,hc,n,hd⟩:=pl;exact call_list_seq p (.inr rfl) ho hc hd (λh' c' kp e=>fin gb r' hz h' c' kp e) (by simp only[aG]<;> lia)
def Yz (K:aa)(T:String)(x:V)(H:Hp):Prop:=match x with
 |.str _=>T = "str"
 |.int _=>T = "int"
 | .ref p=>(T = "list"/\∃ xs,qu K H p xs)\/(T = "tuple"/\∃ o,K.lookup p=some o/\o.cls=.type "tuple"/\o.dict=none) \/
  (T = "dict"/\((∃ fO,H p=some (.dK fO))\/∃ fO,H p=some (.dT fO)))\/(T = "set"/\∃ S n,H p=some (.set S n))
 |_=>False
def RL {fA:au (ao×Obj)}{σ:St}{H:Hp}{s:ak}{T:String}{x:V}{v:ar}(I:Inv X fA σ H s)(r:gB x v)(ty:Yz X.K T x H):
 s.TypeIs v T/\∀ a,v=.ref a->∃ ob,s.heap.get? a=some ob/\ob.dict=none:=by
 cases x with
 | str z =>obtain⟨t,rfl⟩:=r;cases(show T = "str" from ty);exact⟨typeIs_str s z t,λ_ e=>nomatch e⟩
 | int i =>obtain⟨t,rfl⟩:=r;cases(show T = "int" from ty);exact⟨typeIs_int s i t,λ_ e=>nomatch e⟩
 | ref p =>
  cases r;rcases ty with⟨rfl,xs,hq⟩|⟨rfl,o,hk,hc,hd⟩|⟨rfl,hk⟩|⟨rfl,S,n,hk⟩
  .obtain⟨gb,_,pl,_⟩:=I.list hq;refine⟨pl.isList.typeIs,λa e=>?_⟩;cases e;obtain⟨o,n,e,c,hd,_⟩:=pl;exact⟨o,e,hd⟩
  .refine⟨⟨o,I.vS p o hk,hc⟩,λa e=>?_⟩;cases e;exact⟨o,I.vS _ o hk,hd⟩
  .have z:∃ o,s.heap.get? p=some o/\o.ExactDict:=by
    rcases hk with⟨fO,hk⟩|⟨fO,hk⟩
    .obtain⟨_,_,_,_,o,_,_,e,ex,_⟩:=I.iH p _ hk;exact⟨o,e,ex⟩
    .obtain⟨_,_,_,_,o,_,_,e,ex,_⟩:=I.iH p _ hk;exact⟨o,e,ex⟩
   obtain⟨o,e,ex⟩:=z
   refine⟨⟨o,e,ex.1⟩,λa e2=>?_⟩
   cases e2
   exact⟨o,e,ex.2.1⟩
  .obtain⟨o,_,_,_,e,ex,_⟩:=I.iH p _ hk;refine⟨⟨o,e,ex.1⟩,λa e2=>?_⟩;cases e2;exact⟨o,e,ex.2.1⟩
 |_=>exact False.elim ty
def tBM (K:aa)(T:String)(r:V->au V->Hp->VK->Prop)(to:TE)(t:TA):TE:=λσ H Q=>to σ H λx H1=>Yz K T x H1/\t σ H1 λxs H2=>r x xs H2 Q
variable {o e:Expr}{es:au Expr}{to:TE}{t:TA}{name:Str}{oJ my:Pos}{T id:String}{r:V->au V->Hp->VK->Prop}
def VD (pa:PlainAttrs T)(slot:Slot T name id)(Zu:typeOf (.builtin id)=pure (.type "method_descriptor"))(hm:Ni X id r)(ho:PE X o to)(ha:PA X (e::es) t)
 (LN:attributeBase o name X.env (eval o X.env)=eval o X.env:=by rfl)
 (Tw:((backTo my<|starEach (e::es) X.env).all (λx=>!x.1)&&(backToKw my<|keywordEach [] X.env).all (λx=>x.1.isSome)
   && decide ((e::es).length+([]:au Keyword).length+(if([]:au Keyword).isEmpty then 0 else 1)<30))=true:=by rfl)
 (LK:(oJ.endLine==my.line)=true:=by rfl) (hs:starEach (e::es) X.env=(false,eval e X.env)::starEach es X.env:=by rfl) (EI:(backTo my<|starEach es X.env).any (·.1)=false:=by rfl):
 PE X (.Call (.Attribute o name oJ) (e::es) [] my) (tBM X.K T r to t):=by
 intro fA s σ H Q I h;refine wpAny_Call_method_late LN Tw LK rfl (iN (ho fA s σ H _ I h) λv s1 uD=>?_);obtain⟨x,H1,I1,r1,ty,q1⟩:=uD;obtain⟨h1,h2⟩:=RL I1 r1 ty;refine⟨T,id,pa,slot,Zu,h1,h2,?_⟩;have hA:=ha my fA s1 σ H1 _ I1 q1;rw[hs]at hA ⊢
 refine Calls.callWith_builtin (by show(false||(backTo my<|starEach es X.env).any (·.1))=false;rw[EI]<;> rfl)<|Calls.evalArgs_plain ?_;exact iN hA λus s2 tE=>by obtain⟨vs,H2,I2,r2,q2⟩:=tE;exact hm fA s2 σ H2 x vs v us Q I2 r1 r2 q2
end
def MtM (X:Cx)(id:String)(r:V->au V->Hp->VK->Prop):Prop :=
 ∀(fA:au (ao×Obj)) (s:ak) (σ:St) (H:Hp) (x:V) (xs:au V) (v:ar) (us:au ar) (Q:VK),Inv X fA σ H s->gB x v->gC xs us->r x xs H Q ->
  wpAny (model X.prog X.w) X.A (call (.builtin id)<|v::us) (EP X fA σ Q) X.xe s
def gC.one {x:V}{us:au ar}(h:gC [x] us):∃ u,us=[u]/\gB x u:=by
 cases h with
 |cons r t=>cases t;exact⟨_,rfl,r⟩
def gC.two {x y:V}{us:au ar}(h:gC [x,y] us):∃ u v,us=[u,v]/\gB x u/\gB y v:=by
 cases h with
 |cons r t=>obtain⟨v,rfl,q⟩:=gC.one t;exact⟨_,v,rfl,r,q⟩
section
variable {X:Cx}{fA:au (ao×Obj)}{σ:St}{H:Hp}{s:ak}{l b:ao}{xs ys zs:au V}
def Inv.VX {gb its':au ar}{n:Nat}{f:Array ar->Array ar}{t':Nat}(I:Inv X fA σ H s)(hH:H l=some (.lst xs))
 (e:s.heap.get? l=some { cls:=.type "list",data:=.seq gb.toArray n}) (hf:f gb.toArray=its'.toArray) (hv:gC ys its') (hz:ys.length<=sizeLine):
 Inv X fA σ (upd H l<|.lst ys) {s with heap:=s.heap.update l<|Obj.mapSeq f,toks:=t'}:=by
 have q:=PySem.IsL.update e f;rw[hf]at q;refine I.write (x:=l) (e:=l) (by rw[hH];exact trivial) (.inl rfl) (λb' u hb hu=>(aX s.heap (Obj.mapSeq f)<|bX hb).trans hu) ⟨_,q⟩ ?_;exact⟨hz,its',_,hv,q⟩
def Inv.Za {gb:au ar}{t':Nat}(I:Inv X fA σ H s)(hv:gC ys gb)(hz:ys.length<=sizeLine):
 Inv X fA σ (upd H s.heap.objs.size<|.lst ys) {s with heap:=s.heap.push { cls:=.type "list",data:=.seq gb.toArray},toks:=t'}:=
 I.laid (λ_ _ q=>jw _ q) (aw _) ⟨hz,gb,0,hv,aD _ rfl⟩
theorem Inv.fresh (I:Inv X fA σ H s):H s.heap.objs.size=none:=I.iH.fresh (aw _)
def Inv.mq (I:Inv X fA σ H s)(hH:H l=some (.lst xs)):xs.length<=sizeLine/\∃(gb:au ar) (n:Nat),gC xs gb/\xs.length=gb.length/\s.heap.get? l=some { cls:=.type "list",data:=.seq gb.toArray n}:=by obtain⟨z,gb,n,r,e⟩:=I.iH l _ hH;exact⟨z,gb,n,r,r.length,e⟩
def K2 {n:Nat}(h:n<=sizeLine):Builtin.List.listTooLong n=false:=by unfold Builtin.List.listTooLong;exact aO (by lia)
end
section
variable {X:Cx}
def Om:V->au V->Hp->VK->Prop:=λx vs H Q=>∃ l xs y,x=.ref l/\vs=[y]/\H l=some (.lst xs)/\xs.length<sizeLine/\Q .iC (upd H l<|.lst<|xs++[y])
def HY:MtM X "list.append" Om:=by intro fA s σ H x vs v us Q I rx rv h;obtain⟨l,xs,y,rfl,rfl,hH,hz,q⟩:=h;cases rx;obtain⟨u,rfl,ru⟩:=rv.one;obtain⟨z,gb,n,r,hl,e⟩:=I.mq hH;refine call_meets F.slot_list_append ⟨_,e,rfl⟩ F.entry_list_append (F.args_list_append_2 _ _) (PySem.list_append l gb.toArray n u (by rw[aG];lia)) ⟨e,?_⟩;refine⟨.iC,_,I.VX (its':=gb++[u]) hH e (by simp) (r.append<|.cons ru .nil) ?_,rfl,q⟩;rw[lP,bx];lia
def Ol:V->au V->Hp->VK->Prop:=λx vs H Q=>∃ l b xs zs,x=.ref l/\vs=[.ref b]/\H l=some (.lst xs)/\H b=some (.lst zs)/\xs.length+zs.length<=sizeLine/\Q .iC (upd H l<|.lst<|xs++zs)
def UH:MtM X "list.extend" Ol:=by
 intro fA s σ H x vs v us Q I rx rv h;obtain⟨l,b,xs,zs,rfl,rfl,hH,hB,hz,q⟩:=h;cases rx;obtain⟨u,rfl,ru⟩:=rv.one;cases ru;obtain⟨z,gb,n,r,hl,e⟩:=I.mq hH;obtain⟨z2,EF,n2,r2,sv,e2⟩:=I.mq hB;have hsz:gb.toArray.size+EF.toArray.size<=sizeLine:=by rw[aG,aG];lia
 have Wg:¬ (!gb.toArray.isEmpty&&Builtin.List.listTooLong (gb.toArray.size+EF.toArray.size))=true:=by rw[K2 hsz,eS];exact aM
 refine call_meets F.slot_list_extend ⟨_,e,rfl⟩ F.entry_list_extend (F.args_list_extend_2 _ _)
  (AutoSeq1.list_extend_list_list_0 l gb.toArray n b EF.toArray n2 Wg (by rw[aG];lia)<|by lia) ⟨e,e2,?_⟩
 refine⟨.iC,_,I.VX (its':=gb++EF) hH e (by simp) (r.append r2) ?_,rfl,q⟩;rw[lP];lia
def Y0:R2:=λx y H Q=>∃ l b xs zs,x=.ref l/\y=.ref b/\H l=some (.lst xs)/\H b=some (.lst zs)/\xs.length+zs.length<=sizeLine/\∀ p,H p=none->Q (.ref p) (upd H p<|.lst<|xs++zs)
def SD:lq X (binaryOp .Add) Y0:=by
 intro fA s σ H x y v u Q I rx ry h;obtain⟨l,b,xs,zs,rfl,rfl,hH,hB,hz,q⟩:=h;cases rx;cases ry;obtain⟨z,gb,n,r,hl,e⟩:=I.mq hH;obtain⟨z2,EF,n2,r2,sv,e2⟩:=I.mq hB;refine PySem.P.add_list e e2 ?_ (by rw[aG,aG];lia);have ea:gb.toArray++EF.toArray=(gb++EF).toArray:=by simp
 rw[ea];exact⟨.ref _,_,I.Za (t':=s.toks) (r.append r2) (by rw[lP];lia),rfl,q _ I.fresh⟩
end
end L2
namespace Att
open PySem PySem.W PySem.Calls PyProof.Rows
def vA {P:Params}{h:Heap}:∀(ns:au Int) (vs:au ar),WellAll P h vs (ns.map WData.int)->IntsAre vs ns:=by
 intro ns;induction ns with
 | nil =>intro vs w;rw[List.map_nil]at w;cases w;exact .nil
 | cons n ns ih =>
  intro vs w;rw[aB]at w;cases w with
  | cons a b =>cases a;exact .cons _ _ (ih _ b)
def HA {l:OpenLaw}{n:Nat}(hn:l.most=some n){P:Params}{h:Heap}{args:au WData}{vals:au ar}
 (Pe:l.row.toRowW.claim.pre args=true) (Zp:WellAll P h vals args):
 ∃ a vs ns,vals=[Value.ref a]/\args=[WData.list (ns.map WData.int)]/\h.get? a=some { cls:=.type "list",data:=.seq vs.toArray}/\IntsAre vs ns/\ns.length<=n:=by
 have hsh:WShape.hasAll [] args [.list .int]=true:=(pre_splitW Pe).1;have hc:l.pre.holds [] { args:=args}=true:=(pre_splitW Pe).2;obtain⟨d,r,rfl,h1,h2⟩:=hasAllW_cons hsh;obtain rfl:=hasAllW_nil h2;obtain⟨xs,rfl,h3⟩:=hasW_list h1;obtain⟨ns,rfl⟩:=items_int h3;have hlen:ns.length<=n:=by
  unfold OpenLaw.pre at hc;have h4:(WTm.not<|.lt (.lit<|.int (n:Int))<|.len<|.arg 0).holds [] { args:=[.list (ns.map .int)]}=true:=by have h4:=(holds_andW hc).1;rw[hn]at h4;exact h4
  have h5:=condW_of h4<|w_not<|w_lt w_lit<|w_len_list<|w_arg rfl;rw[gP]at h5;refine Nat.le_of_not_lt λq=>?_;have q':(n:Int)<((ns.length:Nat):Int):=by lia
  first
   |(rw[aI q']at h5;exact absurd h5<|by decide)
   |(simp at h5;lia)
 cases Zp with
 | cons w1 w2 =>
  cases w2;cases w1 with
  |list ho hall=>exact⟨_,_,ns,rfl,rfl,ho,vA ns _ hall,hlen⟩
def HH (l:OpenLaw)(args:au WData):l.row.toRowW.claim.post args (.bool true) args=true :=
 postW_of (r:=l.row.toRowW) (X:=(true==true))
  (show WShape.has [] (.bool true) .bool=true by first|rfl|decide|simp[WShape.has,WShape.arms,WShape.armsAll])
  (show(WTm.eq .res<|.lit<|.bool true).value [] { args:=args,res:=some<|.bool true,after:=args}=some (.bool<|true==true)from w_eq_bool (w_res rfl) w_lit) rfl
def Dn {l:OpenLaw}{n:Nat}{q:ah}{loose:au Str}{XP:(Str->av ar)->Heap->Prop}{YP:ai->Heap->Prop}{d:DefRec}
 (hn:l.most=some n) (Z5:d.params.defaults=[])
 (call:∀(w:ai) (s₀ s₁:ak) (mg mb:Str->av ar) (fa:ao) (o:Obj) (pm cd doc:ar) (a:ao) (vs:au ar) (ns:au Int),
   Ground q loose [] XP w s₀ mg mb s₁.heap->YP w s₁.heap ->
   s₁.heap.get? fa=some o->o.data=.func (docDef d.name d.params d.body d.scope pm cd doc)->s₁.heap.CodeRec cd d.name->mg d.name=some (.ref fa) ->
   s₁.heap.get? a=some { cls:=.type "list",data:=.seq vs.toArray}->IntsAre vs ns->ns.length<=n->s₁.gens=#[] ->
   codeAny (model l.prog w) callerA (.call (.ref fa) ⟨[.ref a],[]⟩) (λr s'=>r=.ok (.ret<|.bool true)/\OldK s₁.heap s'.heap/\s'.os=s₁.os/\AllBare s'.gens) s₁):
 WalkO q loose XP YP l.row.toRowW d [] (λf vs=>PySem.call f vs):=by
 intro w s₀ s₁ mg mb G Y fa o pm cd doc dV kV ho hd EL hD ZI hg args vals as Pe hlay Zy Zp Q5;obtain rfl:dV=.none:=Dflts.none hD Z5;obtain rfl:kV=.none:=Dflts.noKw hD;obtain⟨a,vs,ns,rfl,rfl,Tu,hints,hlen⟩:=HA hn Pe Zp;refine enter_call (codeAny_mono (call w s₀ s₁ mg mb fa o pm cd doc a vs ns G Y ho (fd_plain hd) EL ZI Tu hints hlen hg) λr s' hq=>?_);obtain⟨rfl,h2,h3,h4⟩:=hq;exact⟨.inl ⟨.bool true,.bool true,[],rfl,λ_=>rfl,.bool true,HH l _,λ_=>⟨List.Pairwise.nil,λ_ hm=>(nomatch hm)⟩⟩,h2,h3,h4⟩
end Att
namespace L2
open PySem PySem.Spec PyProof.Rows
def Hr {vs:au ar}{ns:au Int}(h:IntsAre vs ns):gC (ns.map V.int) vs:=by
 induction h with
 |nil=>exact .nil
 |cons n t h ih=>exact .cons ⟨t,rfl⟩ ih
def Uo (H:Hp):Prop:=∀ b,H b=none\/∃ o xs,H b=some (.CN o<|.lst xs)
def Lm {P:ah}{w:ai}{K:aa}{mg mb:Str->av ar}{CX:Hn}{k:Nat}{fa a:ao}{fd:aj}{x:Str}{sp:Sp}{s₁:ak}{vs:au ar}{ns:au Int}
 (KX:K.In s₁.heap) (UR:s₁.heap.Ns mainGlobals mg) (hb:s₁.heap.Ns builtinsNs mb) (hbb:∀ x:Str,x ≠ "__name__"->mb x=bootBuiltins x) (ZM:s₁.heap.NoLimit) (hg:s₁.gens=#[])
 (ha:s₁.heap.get? a=some { cls:=.type "list",data:=.seq vs.toArray}) (hi:IntsAre vs ns) (hl:ns.length<=sizeLine) (hr:jF k callerA)
 (F:∀ fB:Heap,K.In fB->fB.Ns mainGlobals mg->gD P w K mg fB CX k fa fd [x] sp) (Wq:∀(s:ak) (u:ar),BindsTo s fd ⟨[u],[]⟩ [(x,u)])
 (NF:∀ H:Hp,Uo H->qu K H a (ns.map V.int)->sp [.ref a] H (λv _=>v=.bl true) λ_ _ _=>False)
 (hCX:∀ H e s',CX [] H s₁ (λ_ _ _=>False) e s'->False):
 codeAny (model P w) callerA (.call (.ref fa) ⟨[.ref a],[]⟩) (λr s'=>r=.ok (.ret<|.bool true)/\OldK s₁.heap s'.heap/\s'.os=s₁.os/\AllBare s'.gens) s₁:=by
 have rv:=Hr hi;have Zb:=hi.length;have core:∀ H:Hp,Uo H->qu K H a (ns.map V.int)->qO P w H s₁.heap->(∀ b,H b≠none->b=a)->(H a≠none->K.lookup a=none) ->
  codeAny (model P w) callerA (.call (.ref fa) ⟨[.ref a],[]⟩) (λr s'=>r=.ok (.ret<|.bool true)/\OldK s₁.heap s'.heap/\s'.os=s₁.os/\AllBare s'.gens) s₁:=by
  intro H hO hS iH hA hK;have Ha:∀ {b:ao} {o:Obj},s₁.heap.get? b=some o->H b=none->(AH s₁.heap H).get? b=some o:=λe n=>LL e n;have VP:∀ {b:ao} {o:Obj} {es:Array DictEntry} {ep:Nat},s₁.heap.get? b=some o->o.data=.dict es ep->H b=none:=λ{b o es ep} e d=>by
   cases q:H b with
   |none=>rfl
   | some u =>have e':b=a:=hA b (by rw[q];simp);subst e';rw[ha]at e;cases e;have d':Data.seq vs.toArray _=Data.dict es ep:=d;cases d'
  have XZ:∀ {b:ao} {m:Str->av ar},s₁.heap.Ns b m->(AH s₁.heap H).Ns b m:=λ{b m} qU=>by obtain⟨o,es,ep,e,d,r⟩:=qU;exact⟨o,es,ep,Ha e<|VP e d,d,r⟩
  have hKb:K.In (AH s₁.heap H):=λb o e=>Ha (KX b o e) (by
   cases q:H b with
   |none=>rfl
   | some u =>
    have e':b=a:=hA b (by rw[q];simp)
    subst e'
    rw[hK (by rw[q];simp)]at e;cases e)
  have hM:Mod K mg (AH s₁.heap H):=⟨hKb,XZ UR,⟨mb,XZ hb,hbb⟩,let ⟨mc,h1,h2⟩:=ZM;⟨mc,XZ h1,h2⟩⟩;have e0:yB P w K mg (AH s₁.heap H) callerA [] s₁ H:=⟨rfl,hM,λb o e=>OR e,Nat.le_of_eq<|Iu _ _,trivial,λb hb=>absurd (show b∈([]:au ao)from hb)<|by simp,iH,.of_eq hg⟩;refine codeAny_mono ((F _ hKb<|XZ UR).run callerA [] s₁ H ⟨[.ref a],[]⟩ [.ref a] [.ref a] _ _ hr e0 (Wq s₁<|.ref a) (.cons rfl .nil)<|NF H hO hS) λr s' h=>?_;cases r with
  |error e=>exact(hCX H e s' h).elim
  | ok fl =>
   cases fl with
   |next=>exact False.elim h
   |brk=>exact False.elim h
   |cont=>exact False.elim h
   | ret u =>
    obtain⟨v,H',os,bare,un,ZD,r',q⟩:=h;have q':v=.bl true:=q;subst q';obtain rfl:u=Value.bool true:=r';refine⟨rfl,OldK.of_keep λb o e=>?_,os,bare⟩;cases q:H b with
    |none=>exact un.keep b o e q (by intro z;exact absurd (show b∈([]:au ao)from z)<|by simp) (by simp)
    | some u =>
     rcases hO b with z|⟨ob,xs,z⟩
     .rw[q]at z;cases z
     .have z2:=un.tI b ob _ z;obtain⟨e1,_⟩:=iH b _ z;obtain⟨e2,_⟩:=ZD b _ z2;rw[e]at e1;cases e1;exact e2
 cases hk:K.lookup a with
 | some o =>have e:=KX a o hk;rw[ha]at e;cases e;refine core (λ_=>none) (λ_=>.inl rfl) (.inr ⟨_,vs.toArray,_,hk,rfl,rfl,rfl,by rw[aG,Zb];exact hl,by simpa using rv⟩) (λb u z=>by have z':(none:av HO)=some u:=z;cases z') (λb z=>absurd rfl z) λz=>absurd rfl z
 | none =>
  refine core (λb=>if b=a then some (.CN { cls:=.type "list",data:=.seq vs.toArray} (.lst<|ns.map V.int))else none) (λb=>?_) (.inl<|.inr ⟨{ cls:=.type "list",data:=.seq vs.toArray},aE rfl⟩) (λb u z=>?_) (λb z=>?_) λ_=>hk
  .by_cases hb:b=a
   .exact .inr ⟨_,_,aE hb⟩
   .exact .inl (aF hb)
  .by_cases hb:b=a
   .have z':=(aE hb).symm.trans z;cases z';subst hb;exact⟨ha,by rw[gP];exact hl,vs,_,rv,ha⟩
   .have z':=(aF hb).symm.trans z;cases z'
  .by_cases hb:b=a
   .exact hb
   .exact absurd (aF hb) z
def NP {l:W.OpenLaw}{n k:Nat}{q:ah}{loose:au Str}{XP:(Str->av ar)->Heap->Prop}{YP:ai->Heap->Prop}{d:DefRec}{K:Params->aa}{CX:ai->Hn}{sp:ai->Sp}{x:Str}
 (hn:l.most=some n) (Jm:n<=sizeLine) (Z5:d.params.defaults=[]) (hr:jF k callerA)
 (hY:∀(w:ai) (h:Heap),YP w h->(K w.params).In h)
 (F:∀(w:ai) (mg:Str->av ar) (fa:ao) (h:Heap),(K w.params).In h->h.Ns mainGlobals mg->mg d.name=some (.ref fa) ->
   ∃ fd:aj,(∀(s:ak) (u:ar),BindsTo s fd ⟨[u],[]⟩ [(x,u)]) /\
    ∀ fB:Heap,(K w.params).In fB->fB.Ns mainGlobals mg->gD l.prog w (K w.params) mg fB (CX w) k fa fd [x] (sp w))
 (NF:∀(w:ai) (H:Hp) (a:ao) (ns:au Int),ns.length<=n->Uo H->qu (K w.params) H a (ns.map V.int)->sp w [.ref a] H (λv _=>v=.bl true) λ_ _ _=>False)
 (hCX:∀(w:ai) (H:Hp) (s:ak) (e:ar) (s':ak),CX w [] H s (λ_ _ _=>False) e s'->False):
 W.WalkO q loose XP YP l.row.toRowW d [] (λf vs=>PySem.call f vs):=by
 refine Att.Dn hn Z5 λw s₀ s₁ mg mb fa o pm cd doc a vs ns G Y ho hd EL ZI Tu hints hlen hg=>?_;have KX:=hY w _ Y;obtain⟨fd,hb,hF⟩:=F w mg fa _ KX G.T.g ZI;exact Lm KX G.T.g G.T.b G.T.builtins G.T.nolimit hg Tu hints (aV hlen Jm) hr hF hb (λH hO hS=>NF w H a ns hlen hO hS) λH e s'=>hCX w H s₁ e s'
def jZ (s:Stmt):Arguments:=match s with
 |.FunctionDef _ a _ _ _ _ _ _ _ _=>a
 |_=>{ posonlyargs:=[],args:=[],vararg:=none,kwonlyargs:=[],kw_defaults:=[],kwarg:=none,defaults:=[]}
def jq (s:Stmt):au Stmt:=match s with
 |.FunctionDef _ _ b _ _ _ _ _ _ _=>b
 |_=>[]
def fI (s:Stmt):Scope:=match s with
 |.FunctionDef _ _ _ _ _ _ sc _ _ _=>sc
 |_=>{ kind:=.function,names:=[],isGenerator:=false,isCoroutine:=false}
abbrev kl:Hn:=λ_ _ _ _ _ _=>False
abbrev E0:XK:=λ_ _ _=>False
def KI {X:Cx}:Passes kl X E0:=λ_ _ _ _ _ _ _ h=>h.elim
structure jW (K:aa)(x qual:Str)(st:Stmt)(f:ao)(fd:aj):Prop where
 ex:∃(oc:ar) (od:Option ao) (kV doc pm:ar) (an:Option ao) (lj ct:ar) (OI:Array (Option ar)),
  fd=W.fnOf x qual (jZ st) (jq st) (fI st) .none kV doc pm an lj ct/\K.lookup f=some ⟨oc,od,.func fd,OI⟩/\W.codeIn K lj qual=true
 kp:W.keepIn K (.ref f)=true
section
variable {P:ah}{w:ai}{K:aa}{mg:Str->av ar}{fB:Heap}
def jW.ok {x qual:Str}{st:Stmt}{f:ao}{fd:aj}{N ps:au Str}{k:Nat}{sp:Sp}(F:jW K x qual st f fd)(S:fT N ps (fI st))(len:∀ vs H Q E,sp vs H Q E->vs.length=ps.length)
 (xh:∀(lj:ar) (A:Around) (fY:au Env) (s:ak) (H:Hp) (vs:au V) (Q:VK) (E:XK),jF k (A.deeper<|envOfC qual (fI st) s.heap.objs.size f lj)->sp vs H Q E ->
   ∃ t,Bt (rZ kl P w K mg fB N qual (fI st) f lj A fY s H E).UG (jq st) t/\t { nx:=λ_ H'=>Q .iC H',rt:=Q} (start N vs) H):gD P w K mg fB kl (k+1) f fd ps sp:=by
 obtain⟨oc,od,kV,doc,pm,an,lj,ct,OI,rfl,lk,EL⟩:=F.ex
 refine Rg lk EL S len λA fY s H vs Q E hr NF=>?_
 obtain⟨t,h,q⟩:=xh lj A fY s H vs Q E hr NF
 exact⟨t,h.UG,q⟩
def jW.binds {x qual:Str}{st:Stmt}{f:ao}{fd:aj}{ps:au Str}(F:jW K x qual st f fd)
 (h:∀(kV doc pm:ar) (an:av ao) (lj ct:ar) (us:au ar),us.length=ps.length->bindArgs (W.fnOf x qual (jZ st) (jq st) (fI st) .none kV doc pm an lj ct) ⟨us,[]⟩=pure (ps.zip us)):Binds K fd ps []:=by
 obtain⟨oc,od,kV,doc,pm,an,lj,ct,OI,rfl,lk,EL⟩:=F.ex;exact .all (h kV doc pm an lj ct)
def TJ {x qual:Str}{st:Stmt}{f:ao}{oc:ar}{od an:av ao}{OI:Array (av ar)}{kV doc pm lj ct:ar}(l:K.lookup f=some ⟨oc,od,.func<|W.fnOf x qual (jZ st) (jq st) (fI st) .none kV doc pm an lj ct,OI⟩)
 (c:W.codeIn K lj qual=true) (k:W.keepIn K (.ref f)=true):jW K x qual st f (W.fnOf x qual (jZ st) (jq st) (fI st) .none kV doc pm an lj ct):=⟨⟨oc,od,kV,doc,pm,an,lj,ct,OI,rfl,l,c⟩,k⟩
end
def qj {A:Around}{k:Nat}(hr:jF k A):A.units+1<cLine:=cj (Nat.add_le_add_left (by decide:1<=64) _) hr.units
def Zj {A B:Prop}(h:B):if false=true then A else B:=by rw[aF aM];exact h
def Zi {A B:Prop}(h:A):if true=true then A else B:=by rw[aE rfl];exact h
def iA (H H':Hp):Prop:=∀ b o,H b=some o->H' b=some o
def iA.refl (H:Hp):iA H H:=λ_ _ h=>h
def iA.trans {H H1 H2:Hp}(a:iA H H1)(b:iA H1 H2):iA H H2:=λc o h=>b c o (a c o h)
def iA.free {H H':Hp}(e:iA H H'){l:ao}(h:H' l=Option.none):H l=Option.none:=by
 cases q:H l with
 |none=>rfl
 | some o =>rw[e l o q]at h;cases h
end L2
namespace L2
open PySem PySem.W PyProof.Rows
noncomputable abbrev Qx:=Fast.tw14082659384304107361
noncomputable abbrev Qw:=Fast.tw14364793385576792824
noncomputable abbrev RN:=Fast.tw4187177175401517315
noncomputable abbrev S00 (w:ai)(os:OsState):ak:=⟨boot_heap w.params,#[],boot_drawn,boot_toks,os⟩
def IU (P:Params):((boot_heap P).isNs mainGlobals,(boot_heap P).objs.size,(boot_heap P).nsMap mainGlobals "__annotations__")=(true,11,some (.ref 6)):=by kernel_rfl
def O3 {p q:ah}{loose:au Str}{Xt:ak->Bool}{α:Type}{Yf:ak->α}{Ya:ai->α}{N M:Nat}
 (e:opening p=plainProg p.main.scope.names) (hN:Nat.ble 600 N=true) (f:∀ s,fenceModules? p s=some s) (le:Nat.ble M N=true)
 (h:∀(w:ai) (os:OsState),(Qx Qw p w 11 (some<|.ref 6) M (S00 w os)<|topStub p).map (λs =>
   (staticsOk (importedModules p.main.body) (boot_heap w.params) s.heap&&namesBound p s.heap&&gensDone s&&laidKept (boot_heap w.params) s.heap,RN q loose (importedModules p.main.body) Xt true s,Yf s))=some (true,openGood q loose,Ya w)):
 LeftO p q loose Xt Yf Ya N:=λw=>by
 let ⟨⟨h0,gs,d,k,os⟩,e1,e2⟩:=Option.map_eq_some_iff.mp<|boot_open e hN f w;obtain⟨rfl,rfl,rfl,rfl⟩:h0=boot_heap w.params/\gs=#[]/\d=boot_drawn/\k=boot_toks:=by simpa using e2
 have b:=IU w.params;simp at b;obtain⟨s1,r,e3⟩:=Option.map_eq_some_iff.mp<|h w os;simp only[Prod.mk.injEq]at e3;have r':topRun treeTable p w 11 (some<|.ref 6) M (S00 w os) (topStub p)=some s1:=by rwa [show topRun=Qx from Fast.te14082659384304107361,show treeTable=Qw from Fast.te14364793385576792824]
 have r2:=topRun_mono (N - M) _ _ _ _ r';rw[show M+(N - M)=N by have:=Nat.le_of_ble_eq_true le;lia]at r2;have t:topFrom treeTable p w N ⟨boot_heap w.params,#[],boot_drawn,boot_toks,os⟩=some s1:=by unfold topFrom;rw[b.1,b.2.1,b.2.2,r2];show(match staticsOk (importedModules p.main.body) (boot_heap w.params) s1.heap&&namesBound p s1.heap&&gensDone s1&&laidKept (boot_heap w.params) s1.heap with|true=>_|false=>_)=_;rw[e3.1]
 unfold openEnds;rw[e1];show(topFrom treeTable p w N _).map _=_;rw[t];refine cD some<|Prod.ext ?_ e3.2.2;rw[<- e3.2.1];exact congrFun (congrFun (congrFun (congrFun (congrFun (congrFun Fast.te4187177175401517315 q) loose)<|importedModules p.main.body) Xt) true) s1
def vW (P:Params)(x:Str)(t:Nat)(v:ar):DictEntry:=⟨PyData.keyHash P x,.str x t,v⟩
def VW (P:Params)(nm:Str)(t:Nat)(es:au (Str×Nat×ar)):Obj:=⟨.type "dict",none,.dict ((([("__name__",165,.str nm t),("__doc__",166,.none),("__package__",167,.none),("__loader__",168,.builtin "__main__.__loader__#opaque"),("__spec__",169,.none),("__annotations__",170,.ref 6),("__builtins__",171,.ref 4),("__file__",173,.str "/claim/cut.py" 172),("__cached__",174,.none)]:au (Str×Nat×ar))++es).map λe=>vW P e.1 e.2.1 e.2.2).toArray<|es.length+9,#[]⟩
abbrev sS (x:String):Str:=Str.ofString x
abbrev me (x:String)(t:Nat)(v:ar):Str×Nat×ar:=(Str.ofString x,t,v)
abbrev ko (a:ao)(o:Obj):ao×Obj:=(a,o)
abbrev sr (a:ao):av (av ar):=some (some<|.ref a)
abbrev sn:av (av ar):=some none
def Yi (x q:Str)(s:Stmt)(pm:ar)(c:ao):Obj:=⟨.type "function",none,.func<|fnOf x q (jZ s) (jq s) (fI s) .none .none .none pm none (.ref c) .none,#[]⟩
def coQ (x q:Str)(t l a r1 r2:Nat)(v1 v2:ar)(r3 t2:Nat):Obj:=⟨.type "code",none,.fields #[.str x t,.str q (t+1),.str "/claim/cut.py" (t+2),.int l 0,.int a 0,.int 0 0,.int 0 0,.int 3 0,.ref r1,.bool true,.int 181 0,.ref r2,.none,v1,v2,.ref r3,.int t2 0,.int l 0,.str "/claim/cut.py" (t2+1)],#[]⟩
def LR {K:Frag}(l:K.lookup f=some (Yi x q s pm c):=by kernel_rfl)(c':codeIn K (.ref c) q=true:=by kernel_rfl)(k:keepIn K (.ref f)=true:=by kernel_rfl):jW K x q s f (fnOf x q (jZ s) (jq s) (fI s) .none .none .none pm none (.ref c) .none):=TJ l c' k
def RC {α:Type}{P:au α->Prop}(h:∀ a,P [a])(us:au α)(e:us.length=1):P us:=by obtain⟨a,rfl⟩:=List.length_eq_one_iff.mp e;exact h a
def G6 {α:Type}{P:au α->Prop}{n:Nat}(h:∀ a us,us.length=n->P (a::us))(us:au α)(e:us.length=n+1):P us:=by
 cases us with
 |nil=>cases e
 |cons a us=>exact h a us (Nat.succ.inj e)
def PN (s:Stmt):au Stmt:=match s with
 |.ClassDef _ _ _ b _ _ _ _ _ _ _=>b
 |_=>[]
def TY (s:Stmt):Pos:=match s with
 |.FunctionDef _ _ _ _ _ _ _ _ _ p=>p
 |_=>⟨0,0,0,0⟩
end L2
namespace L2
open PySem PySem.Spec PyProof.Rows
def lH (cells:au (Str×ao)):au (Str×NameKind)->au (Str×ao)->au (Str×ao)
 |[],acc=>acc
 |(n,k)::r,acc=>if k==.free then lH cells r ((n,(cells.lookup n).getD 0)::acc)else lH cells r acc
theorem r6 (f:Str×NameKind->au (Str×ao)->Sem (ForInStep<|au<|Str×ao))
 (hf:∀ n k cs,f (n,k) cs=if k==.free then(do let a <- cellOf env n;pure (.yield<|(n,a)::cs))else pure (.yield cs)):
 ∀(names:au (Str×NameKind)) (acc:au (Str×ao)),(∀ y∈names,y.2=.free->∃ c,env.cells.lookup y.1=some c) ->
  forIn names acc f=pure (lH env.cells names acc)
 |[],acc,_=>by rfl
 | (n,k)::r,acc,h=>by
  rw[bO,hf];unfold lH;have hr:∀ y∈r,y.2=.free->∃ c,env.cells.lookup y.1=some c:=λy hy=>h y<|ny _ hy;by_cases hk:(k==NameKind.free)=true
  .rw[aE hk,aE hk];let ⟨c,hc⟩:=h (n,k) aH (by simpa using hk);have ub:=hc;have e:cellOf env n=pure c:=by unfold cellOf;rw[ub]
   rw[e,ub,pure_bind,pure_bind];exact r6 f hf r _ hr
  .rw[aF hk,aF hk,pure_bind];exact r6 f hf r _ hr
def oa (h:∀ y∈scope.names,y.2=.free->∃ c,env.cells.lookup y.1=some c):closureFor scope env=pure (lH env.cells scope.names []):=by
 simp only[closureFor];rw[r6 _ (λn k cs=>by
  by_cases hk:(k==NameKind.free)=true
  .simp
  .simp only[hk,eA,if_false]) scope.names [] h]
 rfl
theorem pq:∀ {names:au (Str×NameKind)} {acc:au (Str×ao)},(∀ y∈names,y.2=.free->∃ c,cells.lookup y.1=some c) ->
 ∀ n c,(n,c)∈lH cells names acc->(n,c)∈acc\/cells.lookup n=some c
 |[],acc,_,n,c,h=>.inl h
 | (m,k)::r,acc,hf,n,c,h=>by
  unfold lH at h;have hr:∀ y∈r,y.2=.free->∃ c,cells.lookup y.1=some c:=λy hy=>hf y<|ny _ hy;split at h
  .rename_i hk;rcases pq hr n c h with h|h
   .rcases List.mem_cons.mp h with e | h
    .cases e;let ⟨c,hc⟩:=hf (m,k) aH (by simpa using hk);have ub:=hc;exact .inr (by rw[ub];rfl)
    .exact .inl h
   .exact .inr h
  .exact pq hr n c h
theorem r8:∀(names:au (Str×NameKind)) (acc:au (Str×ao)) (n:Str),(acc.lookup n).isSome=true->((lH cells names acc).lookup n).isSome=true
 |[],acc,n,h=>h
 | (m,k)::r,acc,n,h=>by
  unfold lH;split
  .refine r8 r _ n ?_;rw[dQ];cases n==m
   .exact h
   .rfl
  .exact r8 r _ n h
theorem pv:∀(names:au (Str×NameKind)) (acc:au (Str×ao)) (n:Str),(n,NameKind.free)∈names->((lH cells names acc).lookup n).isSome=true
 | (m,k)::r,acc,n,h=>by
  unfold lH;rcases List.mem_cons.mp h with e|h
  .cases e;refine r8 r _ m ?_;simp
  .split
   .exact pv r _ n h
   .exact pv r _ n h
theorem mf:∀(names:au (Str×NameKind)) (n:Nat) (a b:au (Str×ao)),cellsFrom n names (a++b)=cellsFrom n names a++b
 |[],_,_,_=>rfl
 | (m,k)::r,n,a,b=>by
  unfold cellsFrom;split
  .exact mf r (n+1) ((m,n)::a) b
  .exact mf r n a b
def qe
 (h:Q (newEnv scope s.heap.objs.size env.globals (cellsFrom (s.heap.objs.size+1) scope.names cl) env.qual none .none (some env) builtinsNs) {s with heap:=pushCells (s.heap.push { cls:=.type "dict",data:=.dict #[]}) scope.names}):
 wpAny M A (newFunctionEnv scope env.globals cl [] env.qual none .none<|some env) Q E s:=by
 simp only[newFunctionEnv,Option.isSome_some,if_true];refine fW (wpAny_alloc<|fW<|wpAny_layCells _ (λname kind cells=>by cases Ir:kind==NameKind.cell<;>simp[Ir]) _ _ _ _ ?_);rw[show({s with heap:=s.heap.push { cls:=.type "dict",data:=.dict #[]}}:ak).heap.objs.size=s.heap.objs.size+1 from aR ..];exact fW (az<|az h)
def iQ (js:au (av Nat))(σ:St):St:=js.map λo=>o.bind λj=>(σ[j]?).join
def v9 (XN:au Str)(xsc:Scope)(N:au Str)(js:au (av Nat))(sc:Scope):Bool :=
 (sc.kind==.function)&&(sc.names.all λy=>(y.2 != .local)||(sc.names.lookup y.1==some .local)) &&
 (sc.names.all λy=>(y.2 != .free)||(xsc.names.lookup y.1==some .cell)||(xsc.names.lookup y.1==some .free)) &&
 (js.length==N.length)&&decide N.Nodup &&
 ((N.zip js).all λp=>match p.2 with
   |none=>true
   |some j=>XN[j]?==some p.1&&sc.names.contains (p.1,NameKind.free)&&sc.names.lookup p.1==some .free&&!(sc.names.contains (p.1,NameKind.cell)))
structure kh (X:Cx)(N:List Str)(js:List (Option Nat))(sc:Scope):Prop where
 kind:sc.kind=.function
 loc:∀ y∈sc.names,y.2=.local->sc.names.lookup y.1=some .local
 free:∀ y∈sc.names,y.2=.free->X.env.kindOf y.1=some .cell\/X.env.kindOf y.1=some .free
 len:js.length=N.length
 nd:N.Nodup
 slot:∀(i:Nat) (x:Str) (j:Nat),N[i]?=some x->js[i]?=some (some j)->X.N[j]?=some x/\(x,NameKind.free)∈sc.names/\sc.names.lookup x=some .free/\(x,NameKind.cell)∉sc.names
def Fd (h:v9 XN xsc N js sc=true)(hN:X.N=XN:=by rfl)(hs:X.env.scope=xsc:=by rfl):kh X N js sc:=by
 subst hN;subst hs;unfold v9 at h;simp only[cv,c8,Bool.or_eq_true,bne_iff_ne,beq_iff_eq,bS]at h;let ⟨⟨⟨⟨⟨h1,h2⟩,h3⟩,h4⟩,h5⟩,h6⟩:=h;refine⟨h1,λy hy e=>(h2 y hy).resolve_left λz=>z e,λy hy e=>?_,h4,h5,λi x j e1 e2=>?_⟩
 .rcases h3 y hy with(z | z) | z
  .exact absurd e z
  .exact .inl z
  .exact .inr z
 .have hm:(x,some j)∈N.zip js:=List.mem_iff_getElem?.mpr ⟨i,by rw[List.getElem?_zip_eq_some];exact⟨e1,e2⟩⟩;have q:=h6 _ hm;simp at q;exact⟨q.1.1.1,q.1.1.2,q.1.2,q.2⟩
theorem ma:∀(names:au (Str×NameKind)) (n:Nat) (acc:au (Str×ao)) (x:Str) (c:ao),(x,c)∈cellsFrom n names acc->(x,NameKind.cell)∈names\/(x,c)∈acc
 |[],_,_,_,_,h=>.inr h
 | (m,k)::r,n,acc,x,c,h=>by
  unfold cellsFrom at h;split at h
  .rename_i hk;rcases ma r _ _ x c h with h|h
   .exact .inl (ny _ h)
   .rcases List.mem_cons.mp h with e | h
    .cases e;have Gq:k=NameKind.cell:=by simpa using hk
     exact .inl (by rw[Gq];exact aH)
    .exact .inr h
  .rcases ma r _ _ x c h with h | h
   .exact .inl (ny _ h)
   .exact .inr h
theorem u6 {α β:Type}(g:Str->α->β):∀(l:au (Str×α)) (x:Str),(l.map λp=>(p.1,g p.1 p.2)).lookup x=(l.lookup x).map (g x)
 |[],_=>rfl
 | (n,k)::r,x=>by
  rw[aB,dQ,dQ];cases hb:x==n with
  |true=>rw[beq_iff_eq.mp hb];rfl
  |false=>exact u6 g r x
def uu (env:Env)(x:Str)(k:NameKind):NameKind:=if(k==.free&&env.scope.kind==.function&&env.kindOf x==some .cell)then .cell else k
def lF:(relabel sc env).names.lookup x=(sc.names.lookup x).map (uu env x):=by rw[<- u6];congr 1;refine bY λp _=>?_;let ⟨n,k⟩:=p;show(if _ then _ else _)=(n,uu env n k);unfold uu;split<;>rfl
def B7 (h:uu env x k=.cell\/uu env x k=.free):k=.cell\/k=.free:=by
 unfold uu at h;split at h
 .rename_i q;simp at q;exact .inr q.1.1
 .exact h
def yS:uu env x .free=.cell\/uu env x .free=.free:=by
 unfold uu;split
 .exact .inl rfl
 .exact .inr rfl
def nF (sc:Scope)(C:ao)(env:Env):Env where
 scope:=relabel sc env
 locals:=C
 globals:=env.globals
 cells:=cellsFrom (C+1) sc.names (lH env.cells sc.names [])
 qual:=env.qual
 func:=none
 code:=env.code
 frame:=env.frame
 builtins:=env.builtins
def oj (X:Cx)(N:au Str)(sc:Scope)(fp:au ao)(s:ak)(H:Hp):Cx where
 prog:=X.prog
 w:=X.w
 K:=X.K
 mg:=X.mg
 fB:=X.fB
 A:=X.A
 N:=N
 s₀:=s
 H₀:=H
 env:=nF sc (s.heap.objs.size+1) X.env
 fY:=X.stack
 stack:=X.stack
 ex:=fp
 fn:=λx=>sc.names.lookup x==some .cell
 gH:=X.gH
 pn:=[]
 xe:=λ_ _=>False
def tF (sc:Scope)(h:Heap):Heap:=pushCells ((h.push { cls:=.type "list",dict:=none,data:=.seq ([]:au ar).toArray}).push { cls:=.type "dict",data:=.dict #[]}) sc.names
def va:∀ b o,h.get? b=some o->(tF sc h).get? b=some o:=λb o e=>d7 _ _ b o (jw _<|jw _ e)
def Iw:(tF sc h).get? h.objs.size=some { cls:=.type "list",dict:=none,data:=.seq ([]:au ar).toArray} :=
 d7 _ _ _ _ (jw _<|aD _ rfl)
def xj {i:Nat}(h:(iQ js σ)[i]?=some (some v)):∃ j,js[i]?=some (some j)/\σ[j]?=some (some v):=by
 unfold iQ at h;rw[mS]at h;cases e:js[i]? with
 |none=>rw[e]at h;cases h
 | some o =>
  rw[e]at h;cases o with
  |none=>cases h
  | some j =>
   refine⟨j,rfl,?_⟩;have h':(σ[j]?).join=some v:=aK h;cases q:σ[j]? with
   |none=>rw[q]at h';cases h'
   |some z=>rw[q]at h';have:z=some v:=h';rw[this]
section
variable {X:Cx}{fA:au (ao×Obj)}{σ:St}{H:Hp}{s:ak}{N:au Str}{js:au (av Nat)}{sc:Scope}{fp:au ao}
def Lz (I:Inv X fA σ H s)(hc:kh X N js sc)(hf:∀ b∈fp,mE X fA H b)(ho:∀ b∈fp,∃ o,s.heap.get? b=some o)(tk:Nat):
 Inv (oj X N sc fp s H) [] (iQ js σ) H {s with heap:=tF sc s.heap,toks:=tk}:=by
 have hC:(s.heap.push { cls:=.type "list",dict:=none,data:=.seq ([]:au ar).toArray}).objs.size=s.heap.objs.size+1:=aR ..
 have LU:∀ y∈sc.names,y.2=.free->∃ c,X.env.cells.lookup y.1=some c:=λy hy e=>I.ok.has y.1<|hc.free y hy e;have ok:=cellsFrom_ok sc.names ((s.heap.push { cls:=.type "list",dict:=none,data:=.seq ([]:au ar).toArray}).push { cls:=.type "dict",data:=.dict #[]}) (s.heap.objs.size+1+1) [] ⟨λ_ _ hm=>(nomatch hm),List.Pairwise.nil⟩
  (by rw[aR,hC];exact aw _)
 rw[aR,hC]at ok;have eC:(nF sc (s.heap.objs.size+1) X.env).cells=cellsFrom (s.heap.objs.size+1+1) sc.names []++lH X.env.cells sc.names []:=mf sc.names _ [] _;have lk:∀ x c,(nF sc (s.heap.objs.size+1) X.env).cells.lookup x=some c->(x,c)∈cellsFrom (s.heap.objs.size+1+1) sc.names []\/X.env.cells.lookup x=some c:=λx c e=>by
  rw[eC]at e;rcases List.mem_append.mp (mem_of_lookup e)with h|h
  .exact .inl h
  .rcases pq LU x c h with h | h
   .cases h
   .exact .inr h
 have big:∀(x:Str) (c:Nat),(x,c)∈cellsFrom (s.heap.objs.size+1+1) sc.names []->s.heap.objs.size+1+1<=c:=λx c h=>(ok.empty x c h).2;have small:∀(x:Str) (c:Nat),X.env.cells.lookup x=some c->c<s.heap.objs.size:=λx c h=>let ⟨_,q⟩:=I.cell x c h;q.lt
 have has:∀ x,((nF sc (s.heap.objs.size+1) X.env).kindOf x=some .cell\/(nF sc (s.heap.objs.size+1) X.env).kindOf x=some .free)->∃ c,(nF sc (s.heap.objs.size+1) X.env).cells.lookup x=some c:=λx h=>by
  have h':(relabel sc X.env).names.lookup x=some .cell\/(relabel sc X.env).names.lookup x=some .free:=h;rw[lF]at h';rw[eC,d9];cases q:sc.names.lookup x with
  |none=>rw[q]at h';rcases h' with h'|h'<;>cases h'
  | some k =>
   rw[q]at h';have hk:=B7 (env:=X.env) (x:=x) (k:=k) (h'.elim (λz=>.inl<|aK z) λz=>.inr<|aK z);rcases hk with rfl|rfl
   .obtain⟨c,ub⟩:=oI q;exact⟨c,by rw[ub];rfl⟩
   .have z:=pv (cells:=X.env.cells) sc.names [] x<|mem_of_lookup q;obtain⟨c,ub⟩:=Option.isSome_iff_exists.mp z;cases q2:(cellsFrom (s.heap.objs.size+1+1) sc.names []).lookup x with
    |none=>exact⟨c,by rw[ub];rfl⟩
    |some d=>exact⟨d,rfl⟩
 have Jj:(oj X N sc fp s H).Ok:=by
  refine⟨I.ok.mod,hc.kind,I.ok.glob,I.ok.blt,dt _,λx y c h1 h2=>?_,has,λx c hx h=>?_,I.ok.hd,I.ok.frames,.inl rfl,λb hb=>⟨?_,λx c h=>?_⟩,I.bs,aV I.ok.IS I.sz,λb o e hb=>?_,λb hb hs=>?_,I.stack,I.sF⟩
  .rcases lk x c h1 with g1 | g1 <;> rcases lk y c h2 with g2 | g2
   .exact name_of_addr ok.apart g1 g2
   .exact absurd (aL (small _ _ g2)<|aV (bc _ 2)<|big _ _ g1) (cf _)
   .exact absurd (aL (small _ _ g1)<|aV (bc _ 2)<|big _ _ g2) (cf _)
   .exact I.ok.inj x y c g1 g2
  .have yr:sc.names.lookup x=some .cell:=by simpa [oj]using hx
   have h':(nF sc (s.heap.objs.size+1) X.env).cells.lookup x=some c:=h
   rw[eC,d9]at h'
   obtain⟨c2,ub⟩:=oI (n:=s.heap.objs.size+1+1) yr
   rw[ub]at h'
   have e:c2=c:=aK h'
   subst e
   exact aV (bc _ 2) (big _ _<|mem_of_lookup ub)
  .obtain⟨o,e⟩:=ho b hb;exact aC (bC<|jd e)
  .obtain⟨o,e⟩:=ho b hb;have l:=jd e;rcases lk x c h with g|g
   .exact bE (aL l<|aV (bc _ 2)<|big _ _ g)
   .exact(hf b hb).2.2.2.2.1 x c g
  .rcases(hf b hb).2.2.2.1 with z | z
   .exact I.ok.HW b o e z
   .exact absurd (aL (jd e)<|aV I.ok.IS z) (cf _)
  .rcases List.mem_cons.mp (I.wx b hs)with z | z
   .exact(hf b hb).2.1 z
   .exact(hf b hb).2.2.1 z
 have sZ:∀ b u,s.heap.get? b=some u->(tF sc s.heap).get? b=some u:=va;have Y3:(tF sc s.heap).Ns (s.heap.objs.size+1) λ_=>none:=by have q:=(Heap.Ns.new (s.heap.push { cls:=.type "list",dict:=none,data:=.seq ([]:au ar).toArray})<|.type "dict").keeps<|d7 sc.names _;rw[hC]at q;exact q
 refine⟨Jj,rfl,I.bare,Un.iR sZ,⟨_,Y3,λi x v e1 e2 e3=>?_⟩,λx c h=>?_,I.iH.fresh<|dt _,λx c h=>?_,λp hp=>absurd (show p∈([]:au (ao×Obj))from hp)<|by simp,I.iH.iR sZ,?_⟩
 .obtain⟨j,hj,hv⟩:=xj e2;obtain⟨g1,g2,g3,g4⟩:=hc.slot i x j e1 hj;have kx:=hc.free _ g2 rfl;obtain⟨m,hn,hl⟩:=I.loc;obtain⟨u,r,l⟩:=hl j x v g1 hv<|.inr kx;refine⟨u,r,?_⟩;rcases l with⟨z,_⟩|⟨_,c,UW,vc⟩
  .have z':X.env.kindOf x=some .local:=z;rcases kx with k|k<;>(have k':X.env.kindOf x=_:=k;rw[z']at k';cases k')
  .have kY:(nF sc (s.heap.objs.size+1) X.env).kindOf x=some .cell\/(nF sc (s.heap.objs.size+1) X.env).kindOf x=some .free:=by
    show(relabel sc X.env).names.lookup x=some .cell\/(relabel sc X.env).names.lookup x=some .free;rw[lF,g3];rcases yS (env:=X.env) (x:=x)with q|q
    .exact .inl (show some (uu X.env x .free)=_ by rw[q])
    .exact .inr (show some (uu X.env x .free)=_ by rw[q])
   obtain⟨c',h'⟩:=has x kY
   refine .inr ⟨kY,c',h',?_⟩
   rcases lk x c' h' with g|g
   .rcases ma _ _ _ _ _ g with z | z
    .exact absurd z g4
    .cases z
   .rw[UW]at g;cases g;exact vc.keeps sZ
 .rcases lk x c h with g | g
  .exact⟨_,(ok.empty x c g).1⟩
  .obtain⟨v,q⟩:=I.cell x c g;exact⟨v,q.keeps sZ⟩
 .rcases lk x c h with g | g
  .exact I.iH.fresh (aV (bc _ 2)<|big _ _ g)
  .exact I.pG x c g
 .unfold iQ;rw[gP];exact hc.len
end
section
variable {X:Cx}{fA:au (ao×Obj)}{σ:St}{H:Hp}{s:ak}
def Inv.adopt (I:Inv X fA σ H s)(hn:H D=none)(hL:D≠X.env.locals)(h1:X.s₀.heap.objs.size<=D)(h2:∀ x c,X.env.cells.lookup x=some c->c≠D)(h3:∀ p∈X.pn++fA,p.1≠D)
 (e:s.heap.get? D=some { cls:=.type "list",data:=.seq gb.toArray n}) (r:gC ys gb) (hz:ys.length<=sizeLine):Inv X fA σ (upd H D<|.lst ys) s:=by
 have ne:∀ b,b∉[D]->b≠D:=λb h z=>h (by simp[z]);refine I.step (g':=s.gens) (d':=s.drawn) (t':=s.toks) (h':=s.heap) (λb hb=>?_) (λb o _ _ _ q _=>q) (λb o _ _ _ q _=>⟨o.slots,q⟩) (λb o hb q z=>by rwa [gp (ne b hb)]) (λb o _ q=>⟨o,q⟩)
  (λb xs q=>by rwa [gp (gG q hn)]) (λb o u q=>by rwa [gp (gG q hn)]) (λb ps q=>⟨#[],by rw[gp (gG q hn),q];simp⟩) (λm q=>q) (λb u q=>?_) I.bare
 .have z:b=D:=by simpa using hb
  subst z
  exact⟨.inr h1,hL,h2,h3⟩
 .by_cases hb:b=D
  .subst hb;rw[fX]at q;cases q;exact⟨hz,gb,n,r,e⟩
  .rw[gp hb]at q;exact(I.iH b u q).zX (λc v _ z=>z) (λc z=>by rw[gp (gG z hn)];exact z) λc xs z=>by rw[gp (gG z hn)];exact z
def Ng (X:Cx)(ifs:au Expr)(t:TT):Prop :=
 ∀(fA:au (ao×Obj)) (s:ak) (σ:St) (H:Hp) (Q:Bool->Hp->Prop),Inv X fA σ H s->t σ H Q ->
  wpAny (model X.prog X.w) X.A (forIn ifs true λc r=>if r=true then do let ok <- isTrue c X.env (eval c X.env);pure (ForInStep.yield ok)else pure (ForInStep.yield r)) (TP X fA σ Q) X.xe s
def YA:TT:=λ_ H Q=>Q true H
def FU:Ng X [] YA:=λ_ _ _ H _ I h=>wpAny_tests_nil ⟨H,I,h⟩
def Oq (h:PT X c t):Ng X [c] t:=λfA s σ H Q I q=>wpAny_tests_one (h fA s σ H Q I q)
def Ext (σ jb:St):Prop:=σ.length=jb.length/\∀(i:Nat) v,σ[i]?=some (some v)->jb[i]?=some (some v)
def Ext.VF:Ext (none::none::r) (v::u::r):=⟨rfl,λi z h=>by
 match i,h with
 |0,h=>simp at h
 |1,h=>simp at h
 |i+2,h=>simpa using h⟩
def JD (js:au (av Nat))(g:TG)(tt:TT)(te:TE)(J:It)(σ:St)(H1:Hp)(fin:au V->Hp->Prop):Prop :=
 ∃ W:Nat->Nat->au V->Hp->Prop,(∃ m,W 0 m [] H1)/\∀ i m ys H,W i m ys H ->
  (J.stop i H/\fin ys H)\/(J.go i H/\∀ x H',J.JB i H x H'->g x (iQ js σ) H' λoM H2=>Ext (iQ js σ) oM/\tt oM H2 λb H3 =>
    if b=true then te oM H3 λy H4=>ys.length<sizeLine/\∃ m',m'<m/\W (i+1) m' (ys++[y]) H4 else ∃ m',m'<m/\W (i+1) m' ys H3)
def Bd (I:Nat->ak->Prop)
 (turn:∀ n s,I n s->wpAny (model prog w) A (pyNext it) (λr s₁=>match r with
   |none=>R (.ok .next) s₁
   | some v=>wpAny (model prog w) A (letOwnedTupleGo target it v) (λ_ BS=>wpAny (model prog w) A (assign target env v) (λ_ s₂ =>
    wpAny (model prog w) A (forIn ifs true λc r=>if r=true then do let ok <- isTrue c env (eval c env);pure (ForInStep.yield ok)else pure (ForInStep.yield r)) (λok s₃ =>
     if ok=true then wpAny (model prog w) A (eval elt env) (λx s₄ =>
      wpAny (model prog w) A (call (.builtin "list.append") [acc,x]) (λ_ s₅=>∃ m,m<n/\I m s₅) (λ_ _=>False) s₄) (λ_ _=>False) s₃
     else ∃ m,m<n/\I m s₃) (λ_ _=>False) s₂) (λ_ _=>False) BS) (λ_ _=>False) s₁) (λ_ _=>False) s)
 (n:Nat) (h:I n s):
 codeAny (model prog w) A (.compLoop (.ListComp elt [⟨target,iter,ifs,0⟩] scope pos) 0 it acc env) R s:=by
 refine codeAny_loop rfl I (λn s hI=>wpAny_noted<|fW<|dY<|fW<|bV (turn n s hI) (λr s₁ h₁=>?_) λ_ _ h'=>h'.elim) n h;cases r with
 |none=>exact az h₁
 | some v =>
  refine fW (bV h₁ (λ_ BS LD=>fW<|bV LD (λ_ s₂ h₂=>fW<|bV h₂ (λok s₃ h₃=>?_) λ_ _ h'=>h'.elim) λ_ _ h'=>h'.elim) λ_ _ h'=>h'.elim);cases ok with
  |false=>exact az ⟨rfl,h₃⟩
  | true =>exact fW (fW<|bV h₃ (λx s₄ h₄=>fW<|bV h₄ (λ_ s₅ h₅=>az<|az ⟨rfl,h₅⟩) λ_ _ h'=>h'.elim) λ_ _ h'=>h'.elim)
variable {N:au Str}{js:au (av Nat)}{sc:Scope}{fp:au ao}{tg elt iter:Expr}{ifs:au Expr}{g:TG}{tt:TT}{te:TE}
def lobj (gb:au ar)(n:Nat):Obj:={ cls:=.type "list",data:=.seq gb.toArray n}
def xM (I:Inv X fA σ H s)(hc:kh X N js sc)(gH:CM (oj X N sc fp s H))
 (T:Turn X.prog X.w X.K tg J fp it tn CM) (st:tn 0 s.heap) (hf:∀ b∈fp,mE X fA H b)
 (hg:PG (oj X N sc fp s H) tg g) (ht:Ng (oj X N sc fp s H) ifs tt) (he:PE (oj X N sc fp s H) elt te) (q:JD js g tt te J σ H fin)
 (hR:∀ s' H' ys m,Inv X fA σ (upd H' s.heap.objs.size<|.lst ys) s'->H' s.heap.objs.size=none->fin ys H'->s'.heap.Ns (s.heap.objs.size+1) m->H' (s.heap.objs.size+1)=none->R (.ok .next) s'):
 codeAny (model X.prog X.w) X.A (.compStart (.ListComp elt [⟨tg,iter,ifs,0⟩] sc pos) 0 (.ref it) (.ref s.heap.objs.size)<|nF sc (s.heap.objs.size+1) X.env) R {s with heap:=tF sc s.heap,toks:=tk}:=by
 have UQ:∀ b∈fp,∃ o,s.heap.get? b=some o:=λb hb=>let ⟨o,e,_⟩:=T.obj 0 s.heap st b hb;⟨o,e⟩
 have I0:=Lz I hc hf UQ tk;have Jj:=I0.ok;obtain⟨W,⟨m0,w0⟩,turn⟩:=q;have small:∀ b∈fp,b≠s.heap.objs.size:=λb hb=>let ⟨o,e⟩:=UQ b hb;aC (jd e)
 have wy:∀ {gb:au ar} {k:Nat} {H':Hp},(∀ b∈fp,H' b=none)->∀ b∈fp,mE (oj X N sc fp s H) [(s.heap.objs.size,lobj gb k)] H' b:=λ{gb k H'} hn b hb =>
  ⟨hn b hb,(Jj.U1 b hb).1,Jj.IC b hb,.inl hb,(Jj.U1 b hb).2,λp hp=>by
   have e:p=(s.heap.objs.size,lobj gb k):=by simpa [oj]using hp
   rw[e];exact(small b hb).symm⟩
 have QH:tn 0 (tF sc s.heap):=T.keep 0 _ _ st λb _ o e=>va b o e;have I1:Inv (oj X N sc fp s H) [(s.heap.objs.size,lobj [] 0)] (iQ js σ) H { s with heap:=tF sc s.heap,toks:=tk}:=I0.sQ λp hp=>by
  have e:p=(s.heap.objs.size,lobj [] 0):=by simpa using hp
  subst e;refine⟨Iw,I.iH.fresh<|aw _,aC<|bD _,λz=>?_,λv z=>by cases z⟩;obtain⟨_,o,ho,_⟩:=Jj.tH.mem z;exact cf _ (jd ho)
 have loop:codeAny (model X.prog X.w) X.A (.compLoop (.ListComp elt [⟨tg,iter,ifs,0⟩] sc pos) 0 (.ref it) (.ref s.heap.objs.size)<|nF sc (s.heap.objs.size+1) X.env) R { s with heap:=tF sc s.heap,toks:=tk}:=by
  refine Bd (λn s'=>∃ i ys gb k H',Inv (oj X N sc fp s H) [(s.heap.objs.size,lobj gb k)] (iQ js σ) H' s'/\tn i s'.heap/\(∀ b∈fp,H' b=none)/\gC ys gb/\ys.length<=sizeLine/\W i n ys H') ?_ m0
   ⟨0,[],[],0,H,I1,QH,λb hb=>(hf b hb).1,.nil,bA _,w0⟩
  rintro n s3 ⟨i,ys,gb,k,H3,I3,Nt,Rf,rv,hz,w3⟩;have len:=rv.length;rcases turn i n ys H3 w3 with⟨stop,qf⟩|⟨go,step⟩
  .refine iN (T.done (oj X N sc fp s H) rfl rfl rfl gH i _ s3 _ H3 _ I3 (wy Rf) Nt stop) λr s4 pT=>?_;obtain⟨hr,I4⟩:=pT;subst hr;show R (.ok .next) s4;have hD:=I4.pin (s.heap.objs.size,lobj gb k)<|aU _ aH;obtain⟨m,UR,_⟩:=I4.loc;have IX:Inv X fA σ H3 s4:=I.ML (ch:=fp) I4.os I4.fB I4.iH I4.bare λb hb=>by obtain⟨f0,f1,f2,f3,f4,f5⟩:=hf b hb;exact⟨f3,f1,f4,f5⟩
   have neD:∀(b:ao) (o:Obj),s.heap.get? b=some o->b≠s.heap.objs.size:=λb o e=>aC<|jd e;refine hR s4 H3 ys m (IX.adopt hD.2.1 (bE I.lt) I.sz (λx c e=>?_) (λp hp=>neD _ _ (I.pin p hp).1) hD.1 rv hz) hD.2.1 qf UR I4.free;obtain⟨v,q⟩:=I.cell x c e;exact aC q.lt
  .refine iN (T.item (oj X N sc fp s H) rfl rfl rfl gH i _ s3 _ H3 _ I3 (wy Rf) Nt go) λr s4 pS=>?_;obtain⟨u,hr,h4⟩:=pS;subst hr;refine iN h4 λ_ s5 qk=>?_;obtain⟨x,H5,I5,r5,y5,JT,Wy⟩:=qk;have Xx:=I5.pinned (wy Wy)<|T.obj _ _ JT;refine iN (hg _ s5 _ H5 x u _ Xx r5<|step x H5 y5) λ_ s6 ⟨Nm,H6,I6,⟨Mf,q6⟩⟩=>?_;refine iN (ht _ s6 Nm H6 _ I6 q6) λb s7 rp=>?_;obtain⟨H7,I7,q7⟩:=rp;have back:∀ {s':ak} {H':Hp},Inv (oj X N sc fp s H) ([(s.heap.objs.size,lobj gb k)]++ux fp s5.heap) Nm H' s'->tn (i+1) s'.heap/\(∀ b∈fp,H' b=none)/\Inv (oj X N sc fp s H) [(s.heap.objs.size,lobj gb k)] (iQ js σ) H' s':=λ{s' H'} I'=>by refine⟨T.keep _ _ _ JT λb hb o e=>(I'.pin (b,o)<|aU _<|aU _<|lZ hb e).1,λb hb=>?_,(I'.weak Mf.1 Mf.2).pX⟩;obtain⟨o,e,d⟩:=T.obj _ _ JT b hb;exact(I'.pin (b,o)<|aU _<|aU _<|lZ hb e).2.1
   cases b with
   | false =>
    rw[aF aM]at q7 ⊢
    obtain⟨m',hm,w7⟩:=q7;obtain⟨t7,f7,I7'⟩:=back I7;exact⟨m',hm,i+1,ys,gb,k,H7,I7',t7,f7,rv,hz,w7⟩
   | true =>
    rw[aE rfl]at q7 ⊢
    refine iN (he _ s7 Nm H7 _ I7 q7) λy s8 uD=>?_;obtain⟨yv,H8,I8,ry,mv,m',hm,w8⟩:=uD;obtain⟨t8,f8,Xw⟩:=back I8;have hD:=Xw.pin (s.heap.objs.size,lobj gb k)<|aU _ aH;have eD:s8.heap.get? s.heap.objs.size=some { cls:=.type "list",data:=.seq gb.toArray k}:=hD.1;refine call_meets F.slot_list_append ⟨_,eD,rfl⟩ F.entry_list_append (F.args_list_append_2 _ _) (PySem.list_append s.heap.objs.size gb.toArray k y (by rw[aG];lia)) ⟨eD,?_⟩;have q:=PySem.IsL.update eD (·.push y);have WH:gb.toArray.push y=(gb++[y]).toArray:=by simp
    have keep:∀(b:ao) (o:Obj),b≠s.heap.objs.size->s8.heap.get? b=some o->(s8.heap.update s.heap.objs.size (Obj.mapSeq (·.push y))).get? b=some o:=λb o hb e=>(aX s8.heap (Obj.mapSeq (·.push y))<|bX hb).trans e;have Xe:∀ x c,(oj X N sc fp s H).env.cells.lookup x=some c->c≠s.heap.objs.size:=λx c e z=>by obtain⟨v,o,ho,hd⟩:=Xw.cell x c e;rw[z,eD]at ho;cases ho;cases hd
    have I9:Inv (oj X N sc fp s H) [] (iQ js σ) H8 { s8 with heap:=s8.heap.update s.heap.objs.size (Obj.mapSeq (·.push y))} :=
     (Xw.sQ (pins':=[]) λp hp=>absurd hp<|by simp).turned (t':=s8.toks) keep hD.2.1 hD.2.2.1 (.inr<|aw _) Xe (λp hp=>absurd (show p∈([]:au (ao×Obj))from hp)<|by simp)
    rw[WH]at q;obtain⟨k',q'⟩:∃ k',(s8.heap.update s.heap.objs.size (Obj.mapSeq (·.push y))).get? s.heap.objs.size=some (lobj (gb++[y]) k'):=⟨_,q⟩;refine⟨m',hm,i+1,ys++[yv],gb++[y],k',H8,I9.sQ λp hp=>?_,T.keep _ _ _ t8 λb hb o e=>keep b o (small b hb) e,f8,rv.append<|.cons ry .nil,by rw[lP,bx];lia,w8⟩;have e:p=(s.heap.objs.size,lobj (gb++[y]) k'):=by simpa using hp
    subst e;exact⟨q',hD.2.1,hD.2.2.1,hD.2.2.2.1,λv z=>by cases z⟩
 exact codeAny_compStart_list loop (T.self _ 0 _ _ _ QH loop)
def JR (wi:TI)(js:au (av Nat))(g:TG)(tt:TT)(te:TE):TE:=λσ H Q=>wi σ H λJ H1=>JD js g tt te J σ H1 λys H'=>∀ D,H' D=none->Q (.ref D) (upd H' D<|.lst ys)
def FZ (hc:kh X N js sc)(gH:X.gH=true)(hi:PI X tg iter wi)(hg:∀ fp s H,PG (oj X N sc fp s H) tg g)(ht:∀ fp s H,Ng (oj X N sc fp s H) ifs tt)(he:∀ fp s H,PE (oj X N sc fp s H) elt te)
 (hs:∀ x,foldedSetIterable iter X.env x=pure x:=by intro _;rfl):PE X (.ListComp elt [⟨tg,iter,ifs,0⟩] sc pos) (JR wi js g tt te):=by
 intro fA s σ H Q I h;refine dZ rfl hs (oa λy hy e=>I.ok.has y.1<|hc.free y hy e) hc.kind hc.loc (iN (hi fA s σ H _ I h) λv s1 h1=>iN h1 λV4 s2 h2=>?_);let ⟨it,fp,tn,J,H2,e,I2,T,QG,f2,q⟩:=h2;subst e;refine dk<|qe ?_;simp;refine xM I2 hc gH T QG f2 (hg fp s2 H2) (ht fp s2 H2) (he fp s2 H2) q λs' H' ys m IX nD qf nC hn=>⟨m,nC,λh' sb=>?_⟩;have DL:∀(b:ao) (o:Obj),s2.heap.get? b=some o->b≠s2.heap.objs.size+1:=λb o e=>aC<|bC<|jd e;have IY:Inv X fA σ (upd H' s2.heap.objs.size<|.lst ys) { s' with heap:=h'}:=IX.turned (t':=s'.toks) (it:=s2.heap.objs.size+1) (λb o hb e=>(sb.2 b hb).trans e) (by rwa [gp (bE<|bD _)])
  (bE<|bC I2.lt) (.inr<|Nat.le_succ_of_le I2.sz) (λx c e=>let ⟨v,z⟩:=I2.cell x c e;aC (bC z.lt)) (λp hp=>DL _ _ (I2.pin p hp).1)
 exact⟨.ref _,_,IY,rfl,qf _ nD⟩
def Eh (hc:kh X N js sc)(gH:X.gH=true)(hN:X.N.Nodup)(yr:X.N[i]?=some x)(hx:Loc X.env.scope x)(hi:PI X tg iter wi)(hg:∀ fp s H,PG (oj X N sc fp s H) tg g)
 (ht:∀ fp s H,Ng (oj X N sc fp s H) ifs tt) (he:∀ fp s H,PE (oj X N sc fp s H) elt te) (LF:swapsWith (.ListComp elt [⟨tg,iter,ifs,0⟩] sc pos) (some<|.Name x pos') ye.line X.env=pure true:=by rfl)
 (hs:∀ x,foldedSetIterable iter X.env x=pure x:=by intro _;rfl) (hf:X.fn x=true\/X.env.scope.names.lookup x=some .local:=by first|exact .inl rfl|exact .inr rfl|assumption):
 PS X (.Assign [.Name x pos'] (.ListComp elt [⟨tg,iter,ifs,0⟩] sc pos) ye) (RV (JR wi js g tt te)<|tG i):=by
 intro fA s σ H D I h;rw[exec_Assign_Name_used _ _ _ _ LF];refine fW<|dY<|fW ?_;refine fW (bV (dZ rfl hs (oa λy hy e=>I.ok.has y.1<|hc.free y hy e) hc.kind hc.loc
  (iN (hi fA s σ H _ I h) λv s1 h1=>iN h1 λV4 s2 h2=>?_)) (λ_ s' hq=>az<|az hq) λ_ _ e=>e)
 obtain⟨it,fp,tn,J,H2,e,I2,T,QG,f2,q⟩:=h2;subst e;refine dk<|qe ?_;have hC:(s2.heap.push { cls:=.type "list",dict:=none,data:=.seq ([]:au ar).toArray}).objs.size=s2.heap.objs.size+1:=aR ..
 simp only[hC];refine xM I2 hc gH T QG f2 (hg fp s2 H2) (ht fp s2 H2) (he fp s2 H2) q λs' H' ys m IX nD qf nC hn=>?_;have DL:∀(b:ao) (o:Obj),s2.heap.get? b=some o->b≠s2.heap.objs.size+1:=λb o e=>aC<|bC<|jd e;have hnC:upd H' s2.heap.objs.size (.lst ys) (s2.heap.objs.size+1)=none:=by rw[gp (bE<|bD _)];exact hn
 refine wpAny_assign_Name (yN (v:=.ref s2.heap.objs.size) IX hN yr hx rfl (λUB IZ ch=>?_) hf);obtain⟨a,sba,ha⟩:=ch;have hac:s2.heap.objs.size+1≠a:=by
  rcases ha with z|z
  .rw[z];exact bE (bC I2.lt)
  .obtain⟨v,z⟩:=I2.cell x a z;exact bE (bC z.lt)
 refine⟨m,nC.sameBut sba hac,λh' sb=>?_⟩;have IY:Inv X fA (σ.set i<|some<|.ref s2.heap.objs.size) (upd H' s2.heap.objs.size<|.lst ys) { UB with heap:=h'}:=IZ.turned (t':=UB.toks) (λb o hb e=>(sb.2 b hb).trans e) hnC
  (bE<|bC I2.lt) (.inr<|Nat.le_succ_of_le I2.sz) (λx c e=>let ⟨v,z⟩:=I2.cell x c e;aC (bC z.lt)) (λp hp=>DL _ _ (I2.pin p hp).1)
 exact⟨_,_,IY,qf _ nD⟩
end
open Builtin Builtin.Str
def lh {α:Type}(xs:au α)(lo hi:av Int):au α:=(xs.drop<|HT.n6 xs.length 0 lo).take (HT.n6 xs.length xs.length hi - HT.n6 xs.length 0 lo)
def PR (n:Nat)(lo:av Int):(match lo with | none=>(0:Int) | some i=>max 0<|min (if i<0 then i+(n:Int)else i) (n:Int))=((HT.n6 n 0 lo:Nat):Int):=by
 cases lo with
 |none=>rfl
 |some i=>unfold HT.n6;split<;>lia
def PU (n:Nat)(hi:av Int):(match hi with | none=>(n:Int) | some i=>max 0<|min (if i<0 then i+(n:Int)else i) (n:Int))=((HT.n6 n n hi:Nat):Int):=by
 cases hi with
 |none=>rfl
 |some i=>unfold HT.n6;split<;>lia
def oU (lo hi:av Int)(n:Nat):strSliceIndices lo hi 1 n=sliceRange ((HT.n6 n 0 lo:Nat):Int) ((HT.n6 n n hi:Nat):Int) 1:=by rw[<- PR,<- PU];cases lo<;>cases hi<;>rfl
def Hy (x:Str)(lo hi:av Int):(strSliceIndices lo hi 1 x.length).filterMap (x.cps[·]?)=lh x.cps.toList lo hi:=by
 have hl:x.cps.toList.length=x.length:=by simp[Str.length]
 unfold lh;rw[hl];have ha:=HT.D6 x.length 0 (bA _) lo;have hb:=HT.D6 x.length x.length (aw _) hi;by_cases EN:HT.n6 x.length 0 lo<=HT.n6 x.length x.length hi
 .rw[<- StrLaws.sliced_plain x EN hb,oU,oU];congr 2
  .rw[HT.lD,bZ ha]
  .rw[HT.lD,bZ hb]
 .rw[oU];have e:HT.n6 x.length x.length hi - HT.n6 x.length 0 lo=0:=by lia
  rw[e,List.take_zero];unfold sliceRange;have h1:¬ (((HT.n6 x.length 0 lo:Nat):Int)<((HT.n6 x.length x.length hi:Nat):Int)):=by lia
  simp[h1]
def Dg {α:Type}(xs:au α)(lo hi:av Int):(lh xs lo hi).length<=xs.length:=by unfold lh;rw[bg,bG];lia
section
variable {X:Cx}
def YY:V->av Int->av Int->Hp->VK->Prop:=λx lo hi H Q=>∃ z:Str,x=.str z/\z.length<=sizeLine/\Q (.str ⟨(lh z.cps.toList lo hi).toArray⟩) H
def R4:Yp X YY:=by
 intro fA s σ H x v vl vu lo hi sl Q I rx hs pl pu h;obtain⟨z,rfl,hz,q⟩:=h;obtain⟨t,rfl⟩:=rx;refine⟨"str",_,F.slot_str_getitem.lookup,typeIs_str _ _ _,?_⟩;obtain⟨l,el⟩:∃ l:av (Int×Tok),vl=partValue l/\l.map (·.1)=lo:=by
  cases pl with
  |none=>exact⟨none,rfl,rfl⟩
  |int i t=>exact⟨some (i,t),rfl,rfl⟩
 obtain⟨u,eu⟩:∃ u:av (Int×Tok),vu=partValue u/\u.map (·.1)=hi:=by
  cases pu with
  |none=>exact⟨none,rfl,rfl⟩
  |int i t=>exact⟨some (i,t),rfl,rfl⟩
 obtain⟨rfl,el⟩:=el;obtain⟨rfl,eu⟩:=eu;refine wpAny_getItem_str_slice (l:=l) (u:=u) (st:=none) hs rfl ?_;unfold sliceMade;have e:slicePicked z l u none=strSliceIndices lo hi 1 z.length:=by unfold slicePicked;rw[el,eu];rfl
 rw[e,Hy];by_cases hc:(((none:av (Int×Tok)).map (·.1)).getD 1==1&&(strSliceIndices lo hi 1 z.length).length==z.length)=true
 .rw[aE hc];refine⟨.str z,H,I,⟨_,rfl⟩,?_⟩;have ub:(strSliceIndices lo hi 1 z.length).length=z.length:=by simpa using hc
  have hl:z.cps.toList.length=z.length:=by simp[Str.length]
  have h3:lh z.cps.toList lo hi=z.cps.toList:=by
   rw[oU]at ub;unfold sliceRange at ub;have hb:=HT.D6 z.length z.length (aw _) hi;unfold lh;rw[hl];by_cases mv:((HT.n6 z.length 0 lo:Nat):Int)<((HT.n6 z.length z.length hi:Nat):Int)
   .simp[mv]at ub;have a0:HT.n6 z.length 0 lo=0:=by lia
    have b0:HT.n6 z.length z.length hi=z.length:=by lia
    rw[a0,b0,List.drop_zero,Nat.sub_zero,<- hl,List.take_length]
   .simp[mv]at ub;have z0:z.cps.toList=[]:=List.length_eq_zero_iff.mp (by lia);rw[z0];simp
  have e2:(⟨(lh z.cps.toList lo hi).toArray⟩:Str)=z:=by rw[h3]
  rw[e2]at q;exact q
 .rw[aF hc];refine⟨?_,.str _,H,I.tok _,⟨_,rfl⟩,q⟩;have hl:z.cps.toList.length=z.length:=by simp[Str.length]
  have:=Dg z.cps.toList lo hi;show(lh z.cps.toList lo hi).toArray.size<=sizeLine;rw[aG];lia
theorem yH:∀ {ys:au Str} {us:au ar},gC (ys.map V.str) us->StrsAre us ys
 |[],_,h=>by cases h;exact .nil
 | y::r,_,h=>by
  cases h with
  |cons a b=>obtain⟨t,rfl⟩:=a;exact .cons _ _ (yH b)
theorem ve:∀(ys:au Str) (acc:Array Nat),ys.foldl (λacc p=>acc++(#[]:Array Nat)++p.cps) acc=acc++(ys.map (·.cps.toList)).flatten.toArray
 |[],acc=>by simp
 | y::r,acc=>by rw[cZ,ve r,aB,List.flatten_cons];apply Array.toList_inj.mp;simp
def ED (z:Str)(hz:z.cps=#[])(ys:au Str):Txt.join z ys=⟨(ys.map (·.cps.toList)).flatten.toArray⟩:=by
 unfold Txt.join glued;rw[hz];congr 1;cases ys with
 |nil=>rfl
 | cons y r =>rw[ve,aB,List.flatten_cons];apply Array.toList_inj.mp;simp
def rJoin (K:aa):V->au V->Hp->VK->Prop:=λx vs H Q=>∃(z:Str) (l:ao) (ys:au Str),x=.str z/\z.cps=#[]/\vs=[.ref l]/\qu K H l (ys.map V.str)/\(ys.map (·.length)).sum<=16777216/\Q (.str ⟨(ys.map (·.cps.toList)).flatten.toArray⟩) H
def OT:Ni X "str.join" (rJoin X.K):=by
 intro fA s σ H x vs v us Q I rx rv h;obtain⟨z,l,ys,rfl,hz,rfl,hl,hs,q⟩:=h;obtain⟨t,rfl⟩:=rx;obtain⟨u,rfl,ru⟩:=rv.one;cases ru;let ⟨gb,r,p,_⟩:=I.list hl;have zl:z.length=0:=by unfold Str.length;rw[hz];rfl
 refine join_list p.isList (by simpa using yH r) (by lia) λt' k=>?_;rw[ED z hz];exact⟨.str _,H,I.tok _,⟨_,rfl⟩,q⟩
theorem FQ (c:Nat):∀(n:Nat) (acc:Array Nat),(List.replicate n #[c]).foldl (·++·) acc=acc++(List.replicate n c).toArray
 |0,acc=>by simp
 | n+1,acc=>by rw[List.replicate_succ,cZ,FQ c n,List.replicate_succ];apply Array.toList_inj.mp;simp
def mul_one (c:Nat)(n:Int):Txt.mul ⟨#[c]⟩ n=⟨(List.replicate n.toNat c).toArray⟩:=by
 unfold Txt.mul;by_cases h1:n<1
 .rw[aE h1];have e:n.toNat=0:=by lia
  rw[e];rfl
 .rw[aF h1];by_cases h2:(n==1||(⟨#[c]⟩:Str).length==0)=true
  .rw[aE h2];have e:n=1:=by simpa [Str.length]using h2
   rw[e];rfl
  .rw[aF h2];congr 1;have:=FQ c n.toNat #[];rw[this];apply Array.toList_inj.mp;simp
def Ek:lq X (binaryOp .Mult) (λx y H Q=>∃(c:Nat) (n:Int),x=.str ⟨#[c]⟩/\y=.int n /\ -1000000<=n/\n<=1000000/\Q (.str ⟨(List.replicate n.toNat c).toArray⟩) H):=by
 intro fA s σ H x y v u Q I rx ry h;obtain⟨c,n,rfl,rfl,h1,h2,q⟩:=h;obtain⟨t,rfl⟩:=rx;obtain⟨t',rfl⟩:=ry;refine SB.mul ⟨?_,λhn _=>?_,λhn _=>?_⟩ λt' k=>?_
 .rw[aO (by lia),aO (by lia)];rfl
 .have e:((⟨#[c]⟩:Str).length:Int)=1:=rfl;have:(1:Int)<=(2 ^ 63 - 1) / n:=(Int.le_ediv_iff_mul_le<|by lia).mpr (by lia);lia
 .have e:(⟨#[c]⟩:Str).length=1:=rfl;unfold tooLong sizeLine;rw[aO (by lia)]
 .rw[mul_one];exact⟨.str _,H,I.tok _,⟨_,rfl⟩,q⟩
def MK:jr X (.builtin "isinstance") (λvs H Q=>∃ x T t b,vs=[x,.ty T]/\kG X.K H x t/\W.kitOne X.K t (.type T)=some b/\Q (.bl b) H):=by intro fA s σ H vs us Q I rv h;obtain⟨x,T,t,b,rfl,ty,e,q⟩:=h;obtain⟨u,w',rfl,r1,r2⟩:=vals2 rv;cases r2;exact Ih I r1 ty e λtk=>⟨.bl b,H,I.tok tk,rfl,q⟩
end
end L2
namespace L2
open PySem PySem.Spec PyProof.Rows
open Builtin Builtin.Str
section
variable {X:Cx}
def lq.imp {f:ar->ar->Sem ar}{r r':R2}(h:lq X f r)(hi:∀ x y H Q,r' x y H Q->r x y H Q):lq X f r':=λfA s σ H x y v u Q I r1 r2 q=>h fA s σ H x y v u Q I r1 r2 (hi x y H Q q)
def PE.imp (h:PE X e t)(hi:∀ σ H Q,t' σ H Q->t σ H Q):PE X e t':=λfA s σ H Q I q=>h fA s σ H Q I (hi σ H Q q)
def PT.imp (h:PT X e t)(hi:∀ σ H Q,t' σ H Q->t σ H Q):PT X e t':=λfA s σ H Q I q=>h fA s σ H Q I (hi σ H Q q)
def PG.imp (h:PG X e t)(hi:∀ v σ H Q,t' v σ H Q->t v σ H Q):PG X e t':=λfA s σ H v u Q I r q=>h fA s σ H v u Q I r (hi v σ H Q q)
def Nh.imp (h:Nh X e t)(hi:∀ v σ H Q,t' v σ H Q->t v σ H Q):Nh X e t':=λfA s σ H v u Q I r q=>h fA s σ H v u Q I r (hi v σ H Q q)
def PS.imp (h:PS X e t)(hi:∀ D σ H,t' D σ H->t D σ H):PS X e t':=λfA s σ H D I q=>h fA s σ H D I (hi D σ H q)
def jr.imp (h:jr X f r)(hi:∀ vs H Q,r' vs H Q->r vs H Q):jr X f r':=λfA s σ H vs us Q I rv q=>h fA s σ H vs us Q I rv (hi vs H Q q)
def Ni.imp {id:String}(h:Ni X id r)(hi:∀ x vs H Q,r' x vs H Q->r x vs H Q):Ni X id r':=λfA s σ H x vs v us Q I r1 rv q=>h fA s σ H x vs v us Q I r1 rv (hi x vs H Q q)
def Xg (i:Nat):TE:=λσ H Q=>match σ[i]? with|some (some v)=>Q v H|_=>False
def lN (i:Nat)(hN:X.N[i]?=some x:=by rfl)(hv:Xl X.env.scope x:=by first | exact Or.inl rfl | exact Or.inr (Or.inl rfl) | exact Or.inr<|Or.inr rfl)(hd:(x==("__debug__" : Str))=false:=by decide)
 (EL:(x==("__classdict__" : Str))=false:=by decide):PE X (.Name x pos) (Xg i):=(Kw hN hv hd EL).imp λσ H Q q=>by
 unfold Xg at q;split at q
 .rename_i v e;exact⟨v,e,q⟩
 .exact q.elim
def Kl:R2:=λx y H Q=>match x,y with
 |.int i,.int j=>Q (.int<|i+j) H
 |.str i,.str j=>i.length+j.length<=sizeLine/\Q (.str<|i++j) H
 |.ref l,.ref b=>∃ xs zs,H l=some (.lst xs)/\H b=some (.lst zs)/\xs.length+zs.length<=sizeLine/\∀ p,H p=none->Q (.ref p) (upd H p<|.lst<|xs++zs)
 |_,_=>False
def Nb:lq X (binaryOp .Add) Kl:=(SE.or<|El.or SD).imp λx y H Q q=>by
 unfold Kl at q;split at q
 .exact .inl ⟨_,_,rfl,rfl,q⟩
 .exact .inr (.inl ⟨_,_,rfl,rfl,q.1,q.2⟩)
 .let ⟨xs,zs,a,b,c,d⟩:=q;exact .inr (.inr ⟨_,_,xs,zs,rfl,rfl,a,b,c,d⟩)
 .exact q.elim
def UC (C:Int->Int->Prop)(g:Int->Int->V):R2:=λx y H Q=>match x,y with
 |.int i,.int j=>C i j/\Q (g i j) H
 |_,_=>False
def Ag (g:Int->Int->V):R2:=λx y H Q=>match x,y with
 |.int i,.int j=>Q (g i j) H
 |_,_=>False
def lq.i2 {f:ar->ar->Sem ar}{C:Int->Int->Prop}{g:Int->Int->V}(h:lq X f (rI C g)):lq X f (UC C g):=h.imp λx y H Q q=>by
 unfold UC at q;split at q
 .exact⟨_,_,rfl,rfl,q.1,q.2⟩
 .exact q.elim
def lq.Wa {f:ar->ar->Sem ar}{g:Int->Int->V}(h:lq X f (Oj g)):lq X f (Ag g):=h.imp λx y H Q q=>by
 unfold Ag at q;split at q
 .exact⟨_,_,rfl,rfl,q⟩
 .exact q.elim
def YR:lq X (binaryOp .Sub) (Ag λi j=>.int<|i - j):=Sx.Wa
def Ka:R2:=λx y H Q=>match x,y with
 |.int i,.int j=>Jh i j/\Q (.int<|i*j) H
 |.str z,.int n=>∃ c:Nat,z=⟨#[c]⟩ /\ -1000000<=n/\n<=1000000/\Q (.str ⟨(List.replicate n.toNat c).toArray⟩) H
 |_,_=>False
def mulC:lq X (binaryOp .Mult) Ka:=(Sz.or Ek).imp λx y H Q q=>by
 unfold Ka at q;split at q
 .exact .inl ⟨_,_,rfl,rfl,q.1,q.2⟩
 .obtain⟨c,rfl,a,b,d⟩:=q;exact .inr ⟨c,_,rfl,rfl,a,b,d⟩
 .exact q.elim
def divC:lq X (binaryOp .FloorDiv) (UC XH λi j=>.int<|i / j):=OJ.i2
def Ct:lq X (binaryOp .Mod) (UC (λ_ j=>0<j) λi j=>.int<|i%j):=SA.i2
def powC:lq X (binaryOp .Pow) (UC XG λi j=>.int<|i ^ j.toNat):=Sy.i2
def UK:lq X (compareOp .Lt) (Ag λi j=>.bl<|decide (i<j)):=VI.Wa
def leC:lq X (compareOp .LtE) (Ag λi j=>.bl<|decide (i<=j)):=VJ.Wa
def gtC:lq X (compareOp .Gt) (Ag λi j=>.bl<|decide (j<i)):=VL.Wa
def geC:lq X (compareOp .GtE) (Ag λi j=>.bl<|decide (j<=i)):=VM.Wa
def Kk (neg:Bool):R2:=λx y H Q=>match x,y with
 |.int i,.int j=>Q (.bl<|neg != decide (i=j)) H
 |.str i,.str j=>Q (.bl<|neg != decide (i=j)) H
 |.bl i,.bl j=>Q (.bl<|neg != decide (i=j)) H
 |_,_=>False
def uM [Decidable p][Decidable q](h:p↔q):decide p=decide q:=by
 by_cases hp:p
 .rw[aI hp,aI (h.mp hp)]
 .rw[aO hp,aO λz=>hp<|h.mpr z]
def dI {i j:Int}:decide (V.int i=V.int j)=decide (i=j):=uM (by simp)
def dS:decide (V.str i=V.str j)=decide (i=j):=uM (by simp)
def dB:decide (V.bl i=V.bl j)=decide (i=j):=uM (by simp)
def TU:lq X (compareOp .Eq) (Kk false):=QW.imp λx y H Q q=>by
 unfold Kk at q;split at q
 .exact⟨rfl,by simpa using q⟩
 .exact⟨rfl,by simpa using q⟩
 .exact⟨rfl,by simpa using q⟩
 .exact q.elim
def DL:lq X (compareOp .NotEq) (Kk true):=VH.imp λx y H Q q=>by
 unfold Kk at q;split at q
 .exact⟨rfl,by simpa using q⟩
 .exact⟨rfl,by simpa using q⟩
 .exact⟨rfl,by simpa using q⟩
 .exact q.elim
def cT (t:TE):TT:=λσ H Q=>t σ H λx H1=>match x with|.bl c=>Q c H1|_=>False
end
def bK (Q:Bool->Hp->Prop):VK:=λx H1=>match x with|.bl c=>Q c H1|_=>False
section
variable {X:Cx}{a b e:Expr}{t ta tb:TE}{pos:Pos}
def cB (t:TE):TT:=λσ H Q=>t σ H (bK Q)
def nM (ho:lq X (compareOp op) r)(ha:PE X a ta)(hb:PE X b tb)(hm:behindInMarks op b=false):PT X (.Compare a [op] [b] pos) (cB<|Ve r ta tb):=by
 intro fA s σ H Q I h;refine wpAny_isTrue_Compare1 (Qa ha hb I h λv u s2 x y H2 I2 rx ry q=>iN (ho _ s2 σ H2 x y v u _ I2 rx ry q) λc s3 tE=>?_) hm;obtain⟨z,H3,I3,r3,q3⟩:=tE;cases z with
 |bl d=>cases r3;exact cx ⟨H3,I3,q3⟩
 |_=>exact q3.elim
def sP (h:PE X e t)(he:∀ whole,isTrue e X.env whole=(do let v <- whole;standAt e.pos;holding [v] (truthy v)):=by intro _;rfl):PT X e (cB t):=by
 intro fA s σ H Q I hw;refine isTrue_plain (iN (h fA s σ H _ I hw) λv s1 qU=>?_)<|he _;obtain⟨x,H1,I1,r1,q1⟩:=qU;cases x with
 |bl d=>cases r1;exact cx ⟨H1,I1,q1⟩
 |_=>exact q1.elim
def cAnd (ta tb:TE):TE:=λσ H Q=>ta σ H λx H1=>match x with|.bl c=>if c=true then tb σ H1 Q else Q (.bl false) H1|_=>False
def cOr (ta tb:TE):TE:=λσ H Q=>ta σ H λx H1=>match x with|.bl c=>if c=true then Q (.bl true) H1 else tb σ H1 Q|_=>False
def cNot (ta:TE):TE:=λσ H Q=>ta σ H λx H1=>match x with|.bl c=>Q (.bl<|!c) H1|_=>False
def vO {rest:au Expr}(ha:PE X a ta)(hb:PE X (.BoolOp .And (b::rest) pos) tb):PE X (.BoolOp .And (a::b::rest) pos) (cAnd ta tb):=by
 intro fA s σ H Q I h;refine BoolOp_and (iN (ha fA s σ H _ I h) λv s1 pT=>?_);obtain⟨x,H1,I1,r1,q1⟩:=pT;cases x with
 | bl c =>
  cases r1;refine cx ?_;cases c with
  |true=>exact hb fA s1 σ H1 Q I1 q1
  |false=>exact⟨.bl false,H1,I1,rfl,q1⟩
 |_=>exact q1.elim
def Sq {rest:au Expr}(ha:PE X a ta)(hb:PE X (.BoolOp .Or (b::rest) pos) tb):PE X (.BoolOp .Or (a::b::rest) pos) (cOr ta tb):=by
 intro fA s σ H Q I h;refine BoolOp_or (iN (ha fA s σ H _ I h) λv s1 pS=>?_);obtain⟨x,H1,I1,r1,q1⟩:=pS;cases x with
 | bl c =>
  cases r1;refine cx ?_;cases c with
  |false=>exact hb fA s1 σ H1 Q I1 q1
  |true=>exact⟨.bl true,H1,I1,rfl,q1⟩
 |_=>exact q1.elim
def OC (ha:PE X a ta):PE X (.UnaryOp .Not a pos) (cNot ta):=by
 intro fA s σ H Q I h;refine UnaryOp_ (iN (ha fA s σ H _ I h) λv s1 qk=>?_);obtain⟨x,H1,I1,r1,q1⟩:=qk;cases x with
 |bl c=>cases r1;exact not_of (cx ⟨.bl<|!c,H1,I1,rfl,q1⟩)
 |_=>exact q1.elim
def opt {α:Type}(o:av α)(k:α->Prop):Prop:=match o with|some v=>k v|none=>False
def iz {α:Type}{o:av α}{k:α->Prop}(h:opt o k):∃ v,o=some v/\k v:=by
 cases o with
 |none=>exact h.elim
 |some v=>exact⟨v,rfl,h⟩
def Sd:R2:=λx y H Q=>match x,y with
 |.ref p,.int i=>∃ xs,(H p=some (.lst xs)\/H p=some (.tup xs))/\opt (kr xs i) λv=>Q v H
 |.str z,.int i=>z.length<=sizeLine/\opt (kr z.cps.toList i) λc=>Q (.str ⟨#[c]⟩) H
 |_,_=>False
def Hk.imp (h:Hk X r)(hi:∀ x y H Q,r' x y H Q->r x y H Q):Hk X r':=λvalue slice fA s σ H x y v u Q I r1 r2 q=>h value slice fA s σ H x y v u Q I r1 r2 (hi x y H Q q)
def Lw:Hk X Sd:=Tc.imp λx y H Q q=>by
 unfold Sd at q;split at q
 .let ⟨xs,h,q⟩:=q;let ⟨v,e,q⟩:=iz q;rcases h with h|h
  .exact .inl ⟨_,xs,_,v,rfl,rfl,qu.of h,e,q⟩
  .exact .inr (.inl ⟨_,xs,_,v,rfl,rfl,Jc.of h,e,q⟩)
 .let ⟨hz,q⟩:=q;let ⟨v,e,q⟩:=iz q;exact .inr (.inr ⟨_,_,v,rfl,rfl,hz,e,q⟩)
 .exact q.elim
def Vv:V->av Int->av Int->Hp->VK->Prop:=λx lo hi H Q=>match x with
 |.ref p=>∃ xs,H p=some (.lst xs)/\∀ l,H l=none->Q (.ref l) (upd H l<|.lst<|Fb xs lo hi)
 |.str z=>z.length<=sizeLine/\Q (.str ⟨(lh z.cps.toList lo hi).toArray⟩) H
 |_=>False
def slC:Yp X Vv:=by
 intro fA s σ H x v vl vu lo hi sl Q I rx hs pl pu h;unfold Vv at h;split at h
 .let ⟨xs,h1,h2⟩:=h;exact Ob fA s σ H _ v vl vu lo hi sl Q I rx hs pl pu ⟨_,xs,rfl,qu.of h1,h2⟩
 .exact R4 fA s σ H _ v vl vu lo hi sl Q I rx hs pl pu ⟨_,rfl,h.1,h.2⟩
 .cases h
def cNo:TO:=λ_ H Q=>Q none H
def Xh (t:TE):TO:=λσ H Q=>t σ H λx H1=>match x with|.int i=>Q (some i) H1|_=>False
def Sk:PO X none cNo:=Ox
def Kr (h:PE X e te):PO X (some e) (Xh te):=by
 intro fA s σ H Q I hw;refine iN (h fA s σ H _ I hw) λu s1 rp=>?_;obtain⟨x,H1,I1,r1,q1⟩:=rp;cases x with
 |int i=>obtain⟨t,rfl⟩:=r1;exact⟨some i,H1,I1,.int i t,q1⟩
 |_=>exact q1.elim
def Kg:au V->Hp->VK->Prop:=λvs H Q=>match vs with
 |[.ref p]=>∃ xs,(H p=some (.lst xs)\/H p=some (.tup xs))/\Q (.int xs.length) H
 |[.str z]=>z.length<=sizeLine/\Q (.int z.length) H
 |_=>False
def O2:jr X (.builtin "len") Kg:=(Bi.or Bh).imp λvs H Q q=>by
 unfold Kg at q;split at q
 .let ⟨xs,h,q⟩:=q;rcases h with h|h
  .exact .inl ⟨_,xs,rfl,.inl<|qu.of h,q⟩
  .exact .inl ⟨_,xs,rfl,.inr<|Jc.of h,q⟩
 .exact .inr ⟨_,rfl,q.1,q.2⟩
 .exact q.elim
def J9:Fj:=λo i v H Q=>match o,i with
 |.ref p,.int k=>∃ xs,H p=some (.lst xs)/\opt (EE xs.length k) λj=>Q (upd H p<|.lst<|xs.set j v)
 |_,_=>False
def setC:Qj X J9:=by
 intro fA s σ H o i v ov iv u Q I ro ri rv h;unfold J9 at h;split at h
 .let ⟨xs,hx,q⟩:=h;let ⟨j,e,q⟩:=iz q;exact set_list fA s σ H _ _ v ov iv u Q I ro ri rv ⟨_,xs,_,j,rfl,rfl,hx,e,q⟩
 .cases h
def QS:V->V->Hp->VK->Prop:=λo i H Q=>match o,i with
 |.ref p,.int k=>∃ xs,H p=some (.lst xs)/\0<=k/\opt (xs[k.toNat]?) λv=>Q v H
 |_,_=>False
def getC:Xr X QS:=by
 intro fA s σ H o i ov iv Q I ro ri h;unfold QS at h;split at h
 .let ⟨xs,hx,h0,q⟩:=h;let ⟨v,e,q⟩:=iz q;cases ro;obtain⟨t,rfl⟩:=ri;let ⟨z,gb,n,r,hl,ho⟩:=I.mq hx;let ⟨w,ew,DJ⟩:=r.get e;have mv:=(kB e).1;have hn:=qg;exact wpAny_getItem_list (⟨_,ho,rfl,n,rfl⟩:s.heap.IsList _ gb.toArray) h0 (by lia) (by simpa using ew) ⟨v,H,I,DJ,q⟩
 .cases h
def V5 (f:Int->Int->Int):RD:=λx y H Q=>match x,y with|.int i,.int j=>Q (.int<|f i j) H|_,_=>False
def tu:Um X .Add (V5 λi j=>i+j):=by
 intro fA s σ H x y v u Q I r1 r2 h;unfold V5 at h;split at h
 .exact Th fA s σ H _ _ v u Q I r1 r2 ⟨_,_,rfl,rfl,h⟩
 .cases h
def PY (n:Nat)(t:Hf):TG:=λv σ H Q=>match v with|.ref a=>∃ xs,H a=some (.tup xs)/\xs.length=n/\t xs σ H Q|_=>False
def G5 (t:TG)(u:Hf):Hf:=λvs σ H Q=>match vs with|v::r=>t v σ H λjb H'=>u r jb H' Q|[]=>False
def PZ:Hf:=λvs σ H Q=>match vs with|[]=>Q σ H|_=>False
def gQ {t:Hf}(hc:X.gH=true)(h:Nh X es t)(hn:(assignEach es X.env).length=n:=by rfl)(LG:(assignEach es X.env).findIdx? (·.1)=none:=by rfl):PG X (.Tuple es k pos) (PY n t) :=
 (Sm hc h hn LG).imp λv σ H Q q=>by
  unfold PY at q;split at q
  .let ⟨xs,a,b,c⟩:=q;exact⟨_,xs,rfl,Jc.of a,b,c⟩
  .exact q.elim
def fJ {t:TG}(h1:PG X e t)(h2:Nh X es u)(hs:(assignEach (e::es) X.env).map (·.2)=assign e X.env::(assignEach es X.env).map (·.2):=by rfl):Nh X (e::es) (G5 t u) :=
 (Kv h1 h2 hs).imp λv σ H Q q=>by
  unfold G5 at q;split at q
  .exact⟨_,_,rfl,q⟩
  .exact q.elim
def gw:Nh X [] PZ:=OA.imp λv σ H Q q=>by
 unfold PZ at q;split at q
 .exact⟨rfl,q⟩
 .exact q.elim
def Eb:V->au V->Hp->VK->Prop:=λx vs H Q=>match x,vs with
 |.str z,[.ref l]=>z.cps=#[]/\∃ ys:au Str,H l=some (.lst<|ys.map V.str)/\(ys.map (·.length)).sum<=16777216/\Q (.str ⟨(ys.map (·.cps.toList)).flatten.toArray⟩) H
 |_,_=>False
def Lu:Ni X "str.join" Eb:=OT.imp λx vs H Q q=>by
 unfold Eb at q;split at q
 .let ⟨a,ys,b,c,d⟩:=q;exact⟨_,_,ys,rfl,a,rfl,qu.of b,c,d⟩
 .exact q.elim
def QR (K:aa):au V->Hp->VK->Prop:=λvs H Q=>match vs with
 |[x,.ty T]=>∃ t b,kG K H x t/\W.kitOne K t (.type T)=some b/\Q (.bl b) H
 |_=>False
def rS:jr X (.builtin "isinstance") (QR X.K):=MK.imp λvs H Q q=>by
 unfold QR at q;split at q
 .let ⟨t,b,h1,h2,h3⟩:=q;exact⟨_,_,t,b,rfl,h1,h2,h3⟩
 .exact q.elim
def Ea (K:aa):au V->Hp->VK->Prop:=λvs H Q=>match vs with
 |[.ref p]=>∃ ys,qu K H p ys/\∀ l,H l=none->Q (.ref l) (upd H l<|.lst ys)
 |_=>False
def xa:jr X (.type "list") (Ea X.K):=Bg.imp λvs H Q q=>by
 unfold Ea at q;split at q
 .let ⟨ys,h1,h2⟩:=q;exact⟨_,ys,rfl,.inl h1,h2⟩
 .exact q.elim
def QP:au V->Hp->VK->Prop:=λvs H Q=>∃ i j,vs=[.int i,.int j]/\Q (.int<|max i j) H
def Lc (hc:X.gH=true):jr X (.builtin "max") QP:=(IM hc).imp λvs H Q q=>by
 obtain⟨i,j,rfl,q⟩:=q;refine⟨_,_,rfl,?_⟩;have e:(if j>i then j else i)=max i j:=by split<;>lia
 rwa [e]
end
def jV {B:Prop}[Decidable c](h1:c->A)(h2:¬ c->B):if decide c=true then A else B:=by
 by_cases h:c
 .rw[aE (aI h)];exact h1 h
 .rw[aF (by simp[h])];exact h2 h
def zc {B:Prop}[Decidable c](h1:¬ c->A)(h2:c->B):if(true != decide c)=true then A else B:=by
 by_cases h:c
 .rw[aF (by simp[h])];exact h2 h
 .rw[aE (by simp[h])];exact h1 h
def oC {B:Prop}[Decidable c](h1:c->A)(h2:¬ c->B):if(false != decide c)=true then A else B:=by
 by_cases h:c
 .rw[aE (by simp[h])];exact h1 h
 .rw[aF (by simp[h])];exact h2 h
def Td {B:Prop}(h1:b=true->A)(h2:b=false->B):if b=true then A else B:=by
 cases b with
 |true=>exact h1 rfl
 |false=>exact h2 rfl
def CNx (n i:Nat)(Pv:Nat->au V->Hp->Prop)(ys:au V):VK:=λy H4=>ys.length<sizeLine/\∃ m',m'<n - i/\(m'=n - (i+1)/\i+1<=n/\Pv (i+1) (ys++[y]) H4)
def cnx {n i:Nat}{Pv:Nat->au V->Hp->Prop}{ys:au V}{y:V}{H:Hp}(hi:i<n)(hl:ys.length<sizeLine)(p:Pv (i+1) (ys++[y]) H):CNx n i Pv ys y H:=⟨hl,n - (i+1),by lia,rfl,hi,p⟩
def CSk (n i:Nat)(Pv:Nat->au V->Hp->Prop)(ys:au V)(H3:Hp):Prop:=∃ m',m'<n - i/\(m'=n - (i+1)/\i+1<=n/\Pv (i+1) ys H3)
end L2
namespace L2
open PySem PySem.Spec PyProof.Rows
structure mH (P:ah)(w:ai)(K:aa)(mg:Str->Option ar)(fB:Heap)(x:Str)(k:Nat)(ps:List Str)(sp:Sp):Prop where
 ex:∃ f fd,gD P w K mg fB kl k f fd ps sp/\mg x=some (.ref f)/\W.keepIn K (.ref f)=true/\Binds K fd ps []
def wN (C:mH X.prog X.w X.K X.mg X.fB x k ps sp)(hr:jF k X.A)(hg:Gl X x)(ha:PA X (e::es) t)
 (yt:(x==("__debug__" : Str))=false:=by decide) (he:starEach (e::es) X.env=(false,eval e X.env)::starEach es X.env:=by rfl) (ql:(backTo pos<|starEach es X.env).any (·.1)=false:=by rfl):
 PE X (.Call (.Name x p) (e::es) [] pos) (QE sp [] E0 t):=by
 let ⟨f,fd,F,hm,hk,hb⟩:=C.ex;exact Ga F hr hg hm hk hb .nil KI ha yt he ql
def YM (t u:TS):TS:=λD σ H=>∃ M:St->Hp->Prop,t { D with nx:=M} σ H/\∀ jb H',M jb H'->u D jb H'
def Ot {st:Stmt}{rest:au Stmt}(h1:PS X st t)(h2:Bt X rest u):Bt X (st::rest) (YM t u):=by
 intro fA s σ H D I h;let ⟨M,a,b⟩:=h;refine wpAny_execs_cons (iN (h1 fA s σ H { D with nx:=M} I a) λf s1 q=>?_);cases f with
 | next =>let ⟨jb,H',I',q⟩:=q;exact h2 fA s1 jb H' D I' (b jb H' q)
 |ret v=>exact q
 |brk=>exact q
 |cont=>exact q
def SB (b:ao)(H H':Hp):Prop:=∀ c o,c≠b->H c=some o->H' c=some o
def SB.trans (h:SB b H H1)(h':SB b H1 H2):SB b H H2:=λc o n e=>h' c o n (h c o n e)
def fF {α:Type}{o:av α}{k:α->Prop}{v:α}(e:o=some v)(h:k v):opt o k:=by rwa [e]
def OB (b:ao)(H H':Hp):Prop:=∀ c,c≠b->H' c=H c
def OB.refl:OB b H H:=λ_ _=>rfl
theorem OB.upd (h:OB b H H'):OB b H (L2.upd H' b o):=λc n=>by rw[gp n];exact h c n
def pM:(0:Int)<2147483647:=by decide
def pN:(0:Int)<1000000007:=by decide
def OX (l:au Nat):Prop:=∀ c∈l,c=111\/c=120
def OX.of (h:l.all (λc=>c==111||c==120)=true):OX l:=λc hc=>by have:=List.all_eq_true.mp h c hc;simpa using this
def OX.app (ha:OX a)(hb:OX b):OX (a++b):=λc h=>(List.mem_append.mp h).elim (ha c) (hb c)
def OX.one (h:c=111\/c=120):OX [c]:=λd hd=>by rwa [List.mem_singleton.mp hd]
def OX.rep (h:c=111\/c=120):OX (List.replicate n c):=λd hd=>by rwa [(List.mem_replicate.mp hd).2]
def Bo {l:au Nat}{v:Int}(h0:0<=v)(h1:v<l.length):∃ c,kr l v=some c/\c∈l:=by
 have mv:v.toNat<l.length:=by lia
 refine⟨l[v.toNat],?_,bJ _⟩;have q:=kM<|iD mv;rwa [cw h0]at q
def pz (a b:au Nat):((⟨a.toArray⟩:Str)++(⟨b.toArray⟩:Str))=⟨(a++b).toArray⟩:=by show(⟨a.toArray++b.toArray⟩:Str)=_;congr 1;simp
def Ib (a:au Nat):(⟨a.toArray⟩:Str).length=a.length:=by simp[Str.length]
theorem xl:∀ l:au Nat,((l.map λc=>(⟨#[c]⟩:Str)).map (·.cps.toList)).flatten=l
 |[]=>rfl
 |c::r=>by rw[aB,aB,List.flatten_cons,xl r];rfl
theorem yM:∀ l:au Nat,((l.map λc=>(⟨#[c]⟩:Str)).map (·.length)).sum=l.length
 |[]=>rfl
 | c::r=>by rw[aB,aB,cq,yM r];show 1+r.length=r.length+1;lia
def QI (K:aa):Sp:=λvs H Q _=>∃(a:ao) (ns:au Int),vs=[.ref a]/\qu K H a (ns.map V.int)/\ns.length<=63/\∀ H',Q (.bl true) H'
def VY (z:Str):z.length=z.cps.toList.length:=by simp[Str.length]
def UZ (b:Bool):(false != b)=b:=by cases b<;>rfl
def Ux (b:Bool):(true != b)=!b:=by cases b<;>rfl
def jm (K:aa)(T:String):W.kitOne K (.type T) (.type T)=some true:=by unfold W.kitOne;simp
def mG (c:Bool)(h:Heap)(it a:ao)(k:Nat):Prop:=if c=true then h.IsTupleIter it a k else h.IsListIter it a k
def ke (c:Bool)(h:Heap)(a:ao)(gb:Array ar):Prop:=if c=true then h.IsTuple a gb else h.IsList a gb
theorem mG.extBut {c:Bool}{h h':Heap}{it a b:ao}{k:Nat}(x:mG c h it a k)(hs:Heap.ExtBut b h h')(EN:it≠b):mG c h' it a k:=by
 cases c with
 |true=>exact Heap.IsTupleIter.extBut x hs EN
 |false=>exact Heap.IsListIter.extBut x hs EN
theorem ke.extBut {c:Bool}{h h':Heap}{a b:ao}{gb:Array ar}(x:ke c h a gb)(hs:Heap.ExtBut b h h')(EN:a≠b):ke c h' a gb:=by
 cases c with
 |true=>exact Heap.IsTuple.extBut x hs EN
 |false=>exact Heap.IsList.extBut x hs EN
def ke.lt {c:Bool}{h:Heap}{a:ao}{gb:Array ar}(x:ke c h a gb):a≠h.objs.size:=by
 cases c with
 |true=>let ⟨o,e,_⟩:=x;exact aC (jd e)
 |false=>let ⟨o,e,_⟩:=x;exact aC (jd e)
def mG.ex {c:Bool}{h:Heap}{it a:ao}{k:Nat}(x:mG c h it a k):∃ o,h.get? it=some o:=by
 cases c with
 |true=>let ⟨o,e,_⟩:=x;exact⟨o,e⟩
 |false=>let ⟨o,e,_⟩:=x;exact⟨o,e⟩
theorem mG.data {c:Bool}{h:Heap}{it a:ao}{k:Nat}(x:mG c h it a k):∃ o,h.get? it=some o/\∀ v,o.data≠.cell v:=by
 cases c with
 |true=>let ⟨o,e,_,d⟩:=x;exact⟨o,e,λv z=>by rw[d]at z;cases z⟩
 |false=>let ⟨o,e,_,d⟩:=x;exact⟨o,e,λv z=>by rw[d]at z;cases z⟩
def mG.at {c:Bool}{h h':Heap}{it a:ao}{k:Nat}(x:mG c h it a k)(e:∀ o,h.get? it=some o->h'.get? it=some o):mG c h' it a k:=by
 cases c with
 |true=>let ⟨o,q,r⟩:=x;exact⟨o,e o q,r⟩
 |false=>let ⟨o,q,r⟩:=x;exact⟨o,e o q,r⟩
section
variable {prog:ah}{w:ai}{A:Around}{E:ar->ak->Prop}{s:ak}
def Er {it t:ao}{i:Nat}{items}{x:ar}{Q:ar->ak->Prop}(hit:s.heap.IsTupleIter it t i)(ht:s.heap.IsTuple t items)(hx:items[i]?=some x)
 (hQ:∀ h',h'.IsTupleIter it t (i+1)->Heap.SameBut it s.heap h'->Q x {s with heap:=h'}):wpAny (model prog w) A (Builtin.SmallTypes.nextOf<|.ref it) Q E s:=by
 obtain⟨o,ho,hc,hd⟩:=id hit;obtain⟨ol,UP,_,nl,Z3⟩:=ht;refine fW<|b9 hit.typeIs da<|c7 da hit.typeIs F.entry_tuple_iterator_next ?_<|F.args_tuple_iterator_next_1 _;show wpAny _ _ (field (.ref it) 0>>=_) _ _ s;refine fW<|aT ho hd (x:=.ref t) rfl ?_;refine fW<|aT ho hd (x:=.int i 0) rfl ?_;refine fW<|bz UP Z3 ?_;simp only[sx,hx];refine fW (eG ho hd (by simp)<|az ⟨x,rfl,az<|hQ _ ?_<|dW ..⟩);exact⟨_,bF _ ho<|eX<|d8 hd _,(Obj.cls_mapFields ..).trans hc,by rw[d8 hd];simp[rawInt]⟩
def HX {it t:ao}{i:Nat}{items}{Q:ar->ak->Prop}(hh:A.handled=none)(hit:s.heap.IsTupleIter it t i)(ht:s.heap.IsTuple t items)(hx:items[i]?=none)
 (hE:∀ h' e,Heap.ExtBut it s.heap h'->(∃ o,h'.get? e=some o/\o.cls=.type "StopIteration")->E (.ref e) {s with heap:=h'}):wpAny (model prog w) A (Builtin.SmallTypes.nextOf<|.ref it) Q E s:=by
 obtain⟨o,ho,hc,hd⟩:=id hit;obtain⟨ol,UP,_,nl,Z3⟩:=ht;refine fW<|b9 (name:=Str.ofString "__next__") hit.typeIs da<|c7 da hit.typeIs F.entry_tuple_iterator_next ?_<|F.args_tuple_iterator_next_1 _;show wpAny _ _ (field (.ref it) 0>>=_) _ _ s;refine fW<|aT ho hd (x:=.ref t) rfl ?_;refine fW<|aT ho hd (x:=.int i 0) rfl ?_;refine fW<|bz UP Z3 ?_;simp only[sx,hx];refine fW (dN<|fW<|eG ho hd (by simp) ?_);refine fW ?_;simp only[newExc,newTuple];refine fW (dk ?_<|by size_fits);refine fW (m:=firstArgMember _ _) (wpAny_of_eq (a:=Value.none) (by first|rfl|(simp only[firstArgMember];rfl)) ?_);refine dk ?_ (by size_fits);simp only[raiseNew];refine fW<|wpAny_handled ?_;first|rw[show A.in1.handled=none from hh]|rw[hh]
 refine fW<|az<|wpAny_throw ?_;exact hE _ _ (((dW ..).extBut.push _).push _) ⟨_,aD _ rfl,rfl⟩
def kb {c:Bool}{it l:ao}{i:Nat}{items:Array ar}{x:ar}{Q:ar->ak->Prop}(hit:mG c s.heap it l i)(hl:ke c s.heap l items)(hx:items[i]?=some x)
 (hQ:∀ h',mG c h' it l (i+1)->Heap.SameBut it s.heap h'->Q x {s with heap:=h'}):wpAny (model prog w) A (Builtin.SmallTypes.nextOf<|.ref it) Q E s:=by
 cases c with
 |true=>exact Er hit hl hx hQ
 |false=>exact wpAny_nextOf_list_item hit hl hx hQ
def mX {c:Bool}{it l:ao}{i:Nat}{items:Array ar}{Q:ar->ak->Prop}(hh:A.handled=none)(hit:mG c s.heap it l i)(hl:ke c s.heap l items)(hx:items[i]?=none)
 (hE:∀ h' e,Heap.ExtBut it s.heap h'->(∃ o,h'.get? e=some o/\o.cls=.type "StopIteration")->E (.ref e) {s with heap:=h'}):wpAny (model prog w) A (Builtin.SmallTypes.nextOf<|.ref it) Q E s:=by
 cases c with
 |true=>exact HX hh hit hl hx hE
 |false=>exact wpAny_nextOf_list_end hh hit hl hx hE
def ZK (z TO i1 i2:ao)(h h':Heap):Prop:=∀ d o,d≠z->d≠TO->d≠i1->d≠i2->h.get? d=some o->h'.get? d=some o
def ZK.trans {z TO i1 i2:ao}{h h1 h2:Heap}(a:ZK z TO i1 i2 h h1)(b:ZK z TO i1 i2 h1 h2):ZK z TO i1 i2 h h2:=λd o q1 q2 q3 q4 e=>b d o q1 q2 q3 q4 (a d o q1 q2 q3 q4 e)
abbrev kX (h:Heap)(z TI TO:ao)(f:ar)(bb:Bool):Prop:=h.get? z=some { cls:=.type "zip",dict:=none,data:=.fields #[f,.bool bb,.bool false,.ref TI,.ref TO],slots:=#[]}
structure ZG (c:Bool)(z TI TO i1 i2 l1 l2:ao)(f:ar)(bb:Bool)(a b:ar)(k1 k2:Nat)(xs ys:Array ar)(h:Heap):Prop where
 z:kX h z TI TO f bb
 ti:IsPair h TI (.ref i1) (.ref i2)
 to:IsPair h TO a b
 n1:mG c h i1 l1 k1
 n2:mG c h i2 l2 k2
 q1:ke c h l1 xs
 q2:ke c h l2 ys
section
variable {c:Bool}{z TI TO i1 i2 l1 l2:ao}{f f' a b x y:ar}{bb bb':Bool}{k1 k2:Nat}{xs ys:Array ar}{h h':Heap}
def ZG.mz (S:ZG c z TI TO i1 i2 l1 l2 f bb a b k1 k2 xs ys h)(D:ZipApart z TI TO i1 i2 l1 l2)(e:kX h' z TI TO f' bb')(k:Heap.ExtBut z h h'):ZG c z TI TO i1 i2 l1 l2 f' bb' a b k1 k2 xs ys h' :=
 ⟨e,k _ _ D.TIz S.ti,k _ _ D.TOz S.to,S.n1.extBut k D.i1z,S.n2.extBut k D.i2z,S.q1.extBut k D.l1z,S.q2.extBut k D.l2z⟩
def ZG.m1 {j:Nat}(S:ZG c z TI TO i1 i2 l1 l2 f bb a b k1 k2 xs ys h)(D:ZipApart z TI TO i1 i2 l1 l2)(e:mG c h' i1 l1 j)(k:Heap.ExtBut i1 h h'):ZG c z TI TO i1 i2 l1 l2 f bb a b j k2 xs ys h' :=
 ⟨k _ _ D.i1z.symm S.z,k _ _ D.TIi1 S.ti,k _ _ D.TOi1 S.to,e,S.n2.extBut k D.i12.symm,S.q1.extBut k D.l1i1,S.q2.extBut k D.l2i1⟩
def ZG.m2 {j:Nat}(S:ZG c z TI TO i1 i2 l1 l2 f bb a b k1 k2 xs ys h)(D:ZipApart z TI TO i1 i2 l1 l2)(e:mG c h' i2 l2 j)(k:Heap.ExtBut i2 h h'):ZG c z TI TO i1 i2 l1 l2 f bb a b k1 j xs ys h' :=
 ⟨k _ _ D.i2z.symm S.z,k _ _ D.TIi2 S.ti,k _ _ D.TOi2 S.to,S.n1.extBut k D.i12,e,S.q1.extBut k D.l1i2,S.q2.extBut k D.l2i2⟩
def ZG.mo (S:ZG c z TI TO i1 i2 l1 l2 f bb a b k1 k2 xs ys h)(D:ZipApart z TI TO i1 i2 l1 l2)(e:IsPair h' TO x y)(k:Heap.ExtBut TO h h'):ZG c z TI TO i1 i2 l1 l2 f bb x y k1 k2 xs ys h' :=
 ⟨k _ _ D.TOz.symm S.z,k _ _ D.TITO S.ti,e,S.n1.extBut k D.TOi1.symm,S.n2.extBut k D.TOi2.symm,S.q1.extBut k D.l1TO,S.q2.extBut k D.l2TO⟩
theorem ZG.push (S:ZG c z TI TO i1 i2 l1 l2 f bb a b k1 k2 xs ys h)(o:Obj):ZG c z TI TO i1 i2 l1 l2 f bb a b k1 k2 xs ys (h.push o) :=
 ⟨jw _ S.z,jw _ S.ti,jw _ S.to,S.n1.at λ_ e=>jw _ e,S.n2.at λ_ e=>jw _ e,
  S.q1.extBut (λ_ _ _ e=>jw _ e) (S.q1.lt),S.q2.extBut (λ_ _ _ e=>jw _ e) (S.q2.lt)⟩
def pP (k:Heap.ExtBut z h h'):ZK z TO i1 i2 h h':=λd o q _ _ _ e=>k d o q e
def Jt (k:Heap.ExtBut TO h h'):ZK z TO i1 i2 h h':=λd o _ q _ _ e=>k d o q e
def ya (k:Heap.ExtBut i1 h h'):ZK z TO i1 i2 h h':=λd o _ _ q _ e=>k d o q e
def Hq (k:Heap.ExtBut i2 h h'):ZK z TO i1 i2 h h':=λd o _ _ _ q e=>k d o q e
end
section
variable {c:Bool}{z TI TO i1 i2 l1 l2:ao}{k k1 k2:Nat}{xs ys:Array ar}{x y a b f:ar}{bb:Bool}
def uV {a:ao}{Q:av Obj->ak->Prop}(h:Q (s.heap.get? a) s):wpAny (model prog w) A (loadIfAlive a) Q E s:=λΓ p _=>by exact h
def vU {Q:Bool->ak->Prop}(hz:kX s.heap z TI TO f bb)(hf:f=.none\/∃ T0:ao,f=rawInt T0/\s.heap.get? T0=none)(q:Q true s):wpAny (model prog w) A (Builtin.SmallTypes.ownedTupleIsFree<|.ref z) Q E s:=by
 rcases hf with rfl|⟨T0,rfl,hd⟩
 .exact fW (aT hz rfl rfl (az q))
 .refine fW<|aT hz rfl rfl ?_;show wpAny _ _ (loadIfAlive T0>>=_) _ _ s;refine fW<|uV ?_;rw[hd];exact az q
def wc {Q:Bool->ak->Prop}{T0:ao}{o:Obj}(hz:kX s.heap z TI TO (rawInt T0) bb)(hd:s.heap.get? T0=some o)(q:∀ g,kX g z TI TO (rawInt T0) true->Heap.SameBut z s.heap g->Q false { s with heap:=g}):wpAny (model prog w) A (Builtin.SmallTypes.ownedTupleIsFree<|.ref z) Q E s:=by
 refine fW<|aT hz rfl rfl ?_;show wpAny _ _ (loadIfAlive T0>>=_) _ _ s;refine fW<|uV ?_;rw[hd];refine fW<|aT hz rfl rfl ?_;cases bb with
 |true=>exact az (q s.heap hz ⟨rfl,λ_ _=>rfl⟩)
 |false=>exact fW (bj hz (by simp) λg e t=>az<|q g e t)
def zK {Q:ar->ak->Prop}(D:ZipApart z TI TO i1 i2 l1 l2)(S:ZG c z TI TO i1 i2 l1 l2 f bb a b k1 k2 xs ys s.heap)(hf:f=.none\/∃ T0:ao,f=rawInt T0/\s.heap.get? T0=none)(hx:xs[k1]?=some x)(hy:ys[k2]?=some y)
 (hQ:∀ h',ZG c z TI TO i1 i2 l1 l2 (rawInt s.heap.objs.size) false x y (k1+1) (k2+1) xs ys h'->IsPair h' s.heap.objs.size x y->h'.objs.size=s.heap.objs.size+1->ZK z TO i1 i2 s.heap h'->Q (.ref s.heap.objs.size) {s with heap:=h'}):
 wpAny (model prog w) A (Builtin.«zip.__next__» ⟨[.ref z],[]⟩) (λfin s'=>∃ v,fin=.done (.ret v)/\Q v s') E s:=by
 refine fW<|az<|fW<|aT S.z rfl (x:=.bool false) rfl (fW<|aT S.z rfl (x:=.ref TI) rfl (fW<|bz S.ti rfl ?_));refine fW (m:=Builtin.SmallTypes.ownedTupleIsFree<|.ref z)<|vU S.z hf ?_;refine fW (dN<|fW<|aT S.z rfl (x:=.ref TO) rfl (fW<|bj S.z (by simp) λg1 e1 t1=>?_));have S1:=S.mz D (f':=.ellipsis) (bb':=bb) e1 t1.extBut;refine fW ?_;rw[show(#[Value.ref i1,Value.ref i2]:Array ar).toList.zipIdx=[(.ref i1,0),(.ref i2,1)]from rfl,bO];refine fW (fW<|dn<|fW<|kb S1.n1 S1.q1 hx λg2 e2 t2=>az ?_);have S2:=S1.m1 D e2 t2.extBut;refine fW (bz S2.to rfl (fW<|dj S2.to λg3 e3 t3=>fW<|c5<|az ?_));have S3:=S2.mo D (x:=x) (y:=b) e3 t3.extBut;dsimp only;rw[bO];refine fW (fW<|dn<|fW<|kb S3.n2 S3.q2 hy λg4 e4 t4=>az ?_);have S4:=S3.m2 D e4 t4.extBut;refine fW (bz S4.to rfl (fW<|dj S4.to λg5 e5 t5=>fW<|c5<|az ?_));have S5:=S4.mo D (x:=x) (y:=y) e5 t5.extBut;dsimp only;rw[List.forIn_nil];have sz:g5.objs.size=s.heap.objs.size:=t5.1.trans<|t4.1.trans<|t3.1.trans<|t2.1.trans t1.1;refine az<|fW<|bz S5.to rfl (fW<|eJ ?_);have S6:=S5.push { cls:=.type "tuple",data:=.seq #[x,y]};refine fW (fW<|bj S6.z (by simp) λg7 e7 t7=>?_);have S7:=S6.mz D (f':=rawInt g5.objs.size) (bb':=bb) e7 t7.extBut;refine bj S7.z (by simp) λg8 e8 t8=>?_;have S8:=S7.mz D (f':=rawInt g5.objs.size) (bb':=false) e8 t8.extBut;have RI:g5.objs.size≠z:=bE<|jd S5.z;have hT:IsPair g8 g5.objs.size x y:=t8.extBut _ _ RI<|t7.extBut _ _ RI<|aD _ rfl;have z8:g8.objs.size=s.heap.objs.size+1:=by rw[t8.1,t7.1,aR,sz]
 have kk:ZK z TO i1 i2 s.heap g8:=((((((pP t1.extBut).trans<|ya t2.extBut).trans<|Jt t3.extBut).trans<|Hq t4.extBut).trans<|Jt t5.extBut).trans λd o _ _ _ _ e=>jw _ e).trans<|(pP t7.extBut).trans<|pP t8.extBut;rw[sz]at S8 hT;refine az ⟨_,rfl,?_⟩;show Q (.ref g5.objs.size) _;rw[sz];exact hQ g8 S8 hT z8 kk
def NN {Q:ar->ak->Prop}{T0:ao}{o:Obj}(D:ZipApart z TI TO i1 i2 l1 l2)(S:ZG c z TI TO i1 i2 l1 l2 (rawInt T0) bb a b k1 k2 xs ys s.heap)(hd:s.heap.get? T0=some o)(hx:xs[k1]?=some x)(hy:ys[k2]?=some y)
 (hQ:∀ h',ZG c z TI TO i1 i2 l1 l2 (rawInt T0) true a b (k1+1) (k2+1) xs ys h'->IsPair h' s.heap.objs.size x y->h'.objs.size=s.heap.objs.size+1->ZK z TO i1 i2 s.heap h'->Q (.ref s.heap.objs.size) {s with heap:=h'}):
 wpAny (model prog w) A (Builtin.«zip.__next__» ⟨[.ref z],[]⟩) (λfin s'=>∃ v,fin=.done (.ret v)/\Q v s') E s:=by
 refine fW<|az<|fW<|aT S.z rfl (x:=.bool false) rfl (fW<|aT S.z rfl (x:=.ref TI) rfl (fW<|bz S.ti rfl ?_));refine fW (wc S.z hd λg1 e1 t1=>?_);have S1:=S.mz D (bb':=true) e1 t1.extBut;show wpAny _ _ (forIn (#[Value.ref i1,Value.ref i2]:Array ar) (none,#[]) _>>=_) _ _ _;rw[<- eB];refine fW ?_;rw[show(#[Value.ref i1,Value.ref i2]:Array ar).toList=[.ref i1,.ref i2]from rfl,bO];refine fW (fW<|bN<|fW<|kb (s:={s with heap:=g1}) S1.n1 S1.q1 hx λg2 e2 t2=>az<|az ?_);have S2:=S1.m1 D e2 t2.extBut;dsimp only;rw[bO];refine fW (fW<|bN<|fW<|kb (s:={s with heap:=g2}) S2.n2 S2.q2 hy λg3 e3 t3=>az<|az ?_);have S3:=S2.m2 D e3 t3.extBut;dsimp only;rw[List.forIn_nil];refine az (fW<|eJ (az ⟨_,rfl,?_⟩) (by show 2<=sizeLine;decide));have sz:g3.objs.size=s.heap.objs.size:=t3.1.trans<|t2.1.trans t1.1;have S4:=S3.push { cls:=.type "tuple",data:=.seq #[x,y]};have hT:IsPair (g3.push { cls:=.type "tuple",data:=.seq #[x,y]}) g3.objs.size x y:=aD _ rfl;have z4:(g3.push { cls:=.type "tuple",data:=.seq #[x,y]}).objs.size=s.heap.objs.size+1:=by rw[aR,sz]
 have kk:ZK z TO i1 i2 s.heap (g3.push { cls:=.type "tuple",data:=.seq #[x,y]}):=(((pP t1.extBut).trans<|ya t2.extBut).trans<|Hq t3.extBut).trans λd o _ _ _ _ e=>jw _ e;show Q (.ref g3.objs.size) _;rw[sz]at hT ⊢
 exact hQ _ S4 hT z4 kk
def ZZ (c:Bool)(z TI TO i1 i2 l1 l2:ao)(k:Nat)(h:Heap):Prop:=∃ f bb a b,kX h z TI TO f bb/\(f=.none\/∃ T0:ao,f=rawInt T0)/\IsPair h TI (.ref i1) (.ref i2)/\IsPair h TO a b/\mG c h i1 l1 k/\mG c h i2 l2 k
def ZZ.keep {k:Nat}{h h':Heap}(Z:ZZ c z TI TO i1 i2 l1 l2 k h)(kp:∀ b∈[z,TI,TO,i1,i2],∀ o,h.get? b=some o->h'.get? b=some o):ZZ c z TI TO i1 i2 l1 l2 k h':=by let ⟨f,bb,a,b,h1,h2,h3,h4,h5,h6⟩:=Z;exact⟨f,bb,a,b,kp z (by simp) _ h1,h2,kp TI (by simp) _ h3,kp TO (by simp) _ h4,h5.at λo e=>kp i1 (by simp) o e,h6.at λo e=>kp i2 (by simp) o e⟩
def oQ {Q:Fin->ak->Prop}(hh:A.handled=none)(D:ZipApart z TI TO i1 i2 l1 l2)(S:ZG c z TI TO i1 i2 l1 l2 f bb a b k1 k2 xs ys s.heap)(hf:f=.none\/∃ T0:ao,f=rawInt T0/\s.heap.get? T0=none)(hx:xs[k1]?=none\/ys[k2]?=none)
 (hE:∀ h' e,ZK z TO i1 i2 s.heap h'->(∃ o,h'.get? e=some o/\o.cls=.type "StopIteration")->E (.ref e) {s with heap:=h'}):
 wpAny (model prog w) A (Builtin.«zip.__next__» ⟨[.ref z],[]⟩) Q E s:=by
 refine fW<|az<|fW<|aT S.z rfl (x:=.bool false) rfl (fW<|aT S.z rfl (x:=.ref TI) rfl (fW<|bz S.ti rfl ?_));refine fW<|vU S.z hf ?_;refine fW (dN<|fW<|aT S.z rfl (x:=.ref TO) rfl (fW<|bj S.z (by simp) λg1 e1 t1=>?_));have S1:=S.mz D (f':=.ellipsis) (bb':=bb) e1 t1.extBut;refine fW ?_;rw[show(#[Value.ref i1,Value.ref i2]:Array ar).toList.zipIdx=[(.ref i1,0),(.ref i2,1)]from rfl,bO];cases ex:xs[k1]? with
 | none =>
  refine fW (fW<|dn<|fW<|mX hh S1.n1 S1.q1 ex λg2 e t2 he=>?_);obtain⟨oe,LJ,Ra⟩:=he;have Io:kX g2 z TI TO .ellipsis bb:=t2 _ _ D.i1z.symm S1.z;have Wn:e≠z:=λq=>by subst q;rw[Io]at LJ;cases LJ;simp at Ra
  exact bj Io (by simp) λg3 _ t3=>hE g3 e (((pP t1.extBut).trans<|ya t2).trans<|pP t3.extBut) ⟨oe,t3.extBut _ _ Wn LJ,Ra⟩
 | some x =>
  have hy:ys[k2]?=none:=by
   rcases hx with q|q
   .rw[ex]at q;cases q
   .exact q
  refine fW (fW<|dn<|fW<|kb S1.n1 S1.q1 ex λg2 e2 t2=>az ?_);have S2:=S1.m1 D e2 t2.extBut;refine fW (bz S2.to rfl (fW<|dj S2.to λg3 e3 t3=>fW<|c5<|az ?_));have S3:=S2.mo D (x:=x) (y:=b) e3 t3.extBut;dsimp only;rw[bO];refine fW (fW<|dn<|fW<|mX hh S3.n2 S3.q2 hy λg4 e t4 he=>?_);obtain⟨oe,LJ,Ra⟩:=he;have Io:kX g4 z TI TO .ellipsis bb:=t4 _ _ D.i2z.symm S3.z;have Wn:e≠z:=λq=>by subst q;rw[Io]at LJ;cases LJ;simp at Ra
  exact bj Io (by simp) λg5 _ t5=>hE g5 e ((((((pP t1.extBut).trans<|ya t2.extBut).trans<|Jt t3.extBut).trans<|Hq t4)).trans<|pP t5.extBut) ⟨oe,t5.extBut _ _ Wn LJ,Ra⟩
def zJ {Q:Fin->ak->Prop}{T0:ao}{o:Obj}(hh:A.handled=none)(D:ZipApart z TI TO i1 i2 l1 l2)(S:ZG c z TI TO i1 i2 l1 l2 (rawInt T0) bb a b k1 k2 xs ys s.heap)(hd:s.heap.get? T0=some o)(hx:xs[k1]?=none\/ys[k2]?=none)
 (hE:∀ h' e,ZK z TO i1 i2 s.heap h'->(∃ o,h'.get? e=some o/\o.cls=.type "StopIteration")->E (.ref e) {s with heap:=h'}):
 wpAny (model prog w) A (Builtin.«zip.__next__» ⟨[.ref z],[]⟩) Q E s:=by
 refine fW<|az<|fW<|aT S.z rfl (x:=.bool false) rfl (fW<|aT S.z rfl (x:=.ref TI) rfl (fW<|bz S.ti rfl ?_));refine fW (wc S.z hd λg1 e1 t1=>?_);have S1:=S.mz D (bb':=true) e1 t1.extBut;show wpAny _ _ (forIn (#[Value.ref i1,Value.ref i2]:Array ar) (none,#[]) _>>=_) _ _ _;rw[<- eB];refine fW ?_;rw[show(#[Value.ref i1,Value.ref i2]:Array ar).toList=[.ref i1,.ref i2]from rfl,bO];cases ex:xs[k1]? with
 |none=>exact fW (fW<|bN<|fW<|mX hh S1.n1 S1.q1 ex λg2 e t2 he=>hE g2 e ((pP t1.extBut).trans<|ya t2) he)
 | some x =>
  have hy:ys[k2]?=none:=by
   rcases hx with q|q
   .rw[ex]at q;cases q
   .exact q
  refine fW (fW<|bN<|fW<|kb (s:={s with heap:=g1}) S1.n1 S1.q1 ex λg2 e2 t2=>az<|az ?_);have S2:=S1.m1 D e2 t2.extBut;dsimp only;rw[bO];exact fW (fW<|bN<|fW<|mX (s:={s with heap:=g2}) hh S2.n2 S2.q2 hy λg3 e t3 he=>hE g3 e (((pP t1.extBut).trans<|ya t2.extBut).trans<|Hq t3) he)
def Fu {Q:ar->ak->Prop}(D:ZipApart z TI TO i1 i2 l1 l2)(Z:ZZ c z TI TO i1 i2 l1 l2 k s.heap)(q1:ke c s.heap l1 xs)(q2:ke c s.heap l2 ys)(hx:xs[k]?=some x)(hy:ys[k]?=some y)
 (hQ:∀ h',ZZ c z TI TO i1 i2 l1 l2 (k+1) h'->ke c h' l1 xs->ke c h' l2 ys->IsPair h' s.heap.objs.size x y->h'.objs.size=s.heap.objs.size+1->ZK z TO i1 i2 s.heap h'->Q (.ref s.heap.objs.size) {s with heap:=h'}):
 wpAny (model prog w) A (Builtin.«zip.__next__» ⟨[.ref z],[]⟩) (λfin s'=>∃ v,fin=.done (.ret v)/\Q v s') E s:=by
 let ⟨f,bb,a,b,h1,h2,h3,h4,h5,h6⟩:=Z;rcases h2 with rfl|⟨T0,rfl⟩
 .exact zK D ⟨h1,h3,h4,h5,h6,q1,q2⟩ (.inl rfl) hx hy λh' S=>hQ h' ⟨_,_,_,_,S.z,.inr ⟨_,rfl⟩,S.ti,S.to,S.n1,S.n2⟩ S.q1 S.q2
 .cases hd:s.heap.get? T0 with
  |none=>exact zK D ⟨h1,h3,h4,h5,h6,q1,q2⟩ (.inr ⟨T0,rfl,hd⟩) hx hy λh' S=>hQ h' ⟨_,_,_,_,S.z,.inr ⟨_,rfl⟩,S.ti,S.to,S.n1,S.n2⟩ S.q1 S.q2
  |some o=>exact NN D ⟨h1,h3,h4,h5,h6,q1,q2⟩ hd hx hy λh' S=>hQ h' ⟨_,_,_,_,S.z,.inr ⟨_,rfl⟩,S.ti,S.to,S.n1,S.n2⟩ S.q1 S.q2
def Fv {Q:Fin->ak->Prop}(hh:A.handled=none)(D:ZipApart z TI TO i1 i2 l1 l2)(Z:ZZ c z TI TO i1 i2 l1 l2 k s.heap)(q1:ke c s.heap l1 xs)(q2:ke c s.heap l2 ys)(hx:xs[k]?=none\/ys[k]?=none)
 (hE:∀ h' e,ZK z TO i1 i2 s.heap h'->(∃ o,h'.get? e=some o/\o.cls=.type "StopIteration")->E (.ref e) {s with heap:=h'}):
 wpAny (model prog w) A (Builtin.«zip.__next__» ⟨[.ref z],[]⟩) Q E s:=by
 let ⟨f,bb,a,b,h1,h2,h3,h4,h5,h6⟩:=Z;rcases h2 with rfl|⟨T0,rfl⟩
 .exact oQ hh D ⟨h1,h3,h4,h5,h6,q1,q2⟩ (.inl rfl) hx hE
 .cases hd:s.heap.get? T0 with
  |none=>exact oQ hh D ⟨h1,h3,h4,h5,h6,q1,q2⟩ (.inr ⟨T0,rfl,hd⟩) hx hE
  |some o=>exact zJ hh D ⟨h1,h3,h4,h5,h6,q1,q2⟩ hd hx hE
def ue {Q:av ar->ak->Prop}(hz:kX s.heap z TI TO f bb)(h:wpAny (model prog w) A.in1 (Builtin.«zip.__next__» ⟨[.ref z],[]⟩) (λfin s'=>∃ v,fin=.done (.ret v)/\Q (some v) s') (λe s'=>(∃ o,∃ a,e=.ref a/\s'.heap.get? a=some o/\o.cls=.type "StopIteration")/\Q none s') s):wpAny (model prog w) A (pyNext<|.ref z) Q E s:=by have ty:s.TypeIs (.ref z) "zip":=⟨_,hz,rfl⟩;refine fW (wpAny_attempt<|b9 ty dD<|c7 dD ty F.entry_zip_next (bV h (λfin s' ⟨v,e,q⟩=>⟨v,e,az q⟩) λe s' ⟨⟨o,a,he,ho,hc⟩,q⟩=>?_)<|F.args_zip_next_1 _);subst he;exact fW (e9 ⟨o,ho,hc⟩ isSubtype_stop<|az q)
end
end
def Dr (c:Bool)(H:Hp)(a:ao)(xs:au V):Prop:=if c=true then H a=some (.tup xs)else H a=some (.lst xs)
def Dr.inj {c:Bool}{H:Hp}{a:ao}{xs ys:au V}(h:Dr c H a xs)(h':Dr c H a ys):xs=ys:=by
 cases c with
 |true=>have h1:H a=some (.tup xs):=h;have h2:H a=some (.tup ys):=h';rw[h1]at h2;cases h2;rfl
 |false=>have h1:H a=some (.lst xs):=h;have h2:H a=some (.lst ys):=h';rw[h1]at h2;cases h2;rfl
def Dr.ex {c:Bool}{H:Hp}{a:ao}{xs:au V}(h:Dr c H a xs):∃ o,H a=some o:=by
 cases c with
 |true=>exact⟨_,h⟩
 |false=>exact⟨_,h⟩
def Dr.val {X:Cx}{fA:au (ao×Obj)}{σ:St}{H:Hp}{s:ak}{c:Bool}{a:ao}{xs:au V}(I:Inv X fA σ H s)(h:Dr c H a xs):∃ gb:au ar,gC xs gb/\ke c s.heap a gb.toArray:=by
 cases c with
 | true =>let ⟨_,gb,r,p⟩:=(I.iH a _ h);exact⟨gb,r,p⟩
 | false =>let ⟨_,gb,n,r,_,e⟩:=I.mq h;exact⟨gb,r,⟨_,e,rfl,n,rfl⟩⟩
def Itz (c:Bool)(a1 a2:ao):It :=
 ⟨λi H=>∃ xs ys x y,Dr c H a1 xs/\Dr c H a2 ys/\xs[i]?=some x/\ys[i]?=some y,
  λi H v H'=>∃ T x y,v=.ref T/\H T=none/\H'=upd H T (.tup [x,y])/\(∀ xs,Dr c H a1 xs->xs[i]?=some x)/\(∀ ys,Dr c H a2 ys->ys[i]?=some y),
  λi H=>∃ xs ys,Dr c H a1 xs/\Dr c H a2 ys/\(xs.length<=i\/ys.length<=i)⟩
section
variable {X:Cx}{fA:au (ao×Obj)}{σ:St}{H:Hp}{s:ak}
def Inv.yI {ch:au ao}{h'':Heap}{x y:V}{u v:ar}(I:Inv X fA σ H s)(fr:∀ b∈ch,mE X fA H b)(EB:∀ b o,b∉ch->s.heap.get? b=some o->h''.get? b=some o)(hT':IsPair h'' s.heap.objs.size u v)(ru:gB x u)(rv:gB y v):
 Inv X fA σ (upd H s.heap.objs.size<|.tup [x,y]) {s with heap:=h''}:=by
 have hn:=I.iH.fresh<|aw _;refine I.step (g':=s.gens) (d':=s.drawn) (t':=s.toks) (h':=h'') (ch:=ch) (λb hb=>?_) (λb o _ _ hb e _=>EB b o hb e) (λb o _ _ hb e _=>⟨o.slots,EB b o hb e⟩)
  (λb o hb e n=>by rw[gp (aC<|jd e)];exact n) (λb o hb e=>⟨o,EB b o hb e⟩)
  (λb zs e=>by rw[gp (gG e hn)];exact e) (λb o u e=>by rw[gp (gG e hn)];exact e) (λb ps e=>⟨#[],by rw[gp (gG e hn),e];simp⟩) (λm hm=>?_) (λb o e=>?_) I.bare
 .obtain⟨f0,f1,f2,f3,f4,f5⟩:=fr b hb;exact⟨f3,f1,f4,f5⟩
 .obtain⟨o,es,ep,ho,rr⟩:=hm;exact⟨o,es,ep,EB _ o (λq=>(fr _ q).2.1 rfl) ho,rr⟩
 .by_cases hb:b=s.heap.objs.size
  .subst hb;rw[fX]at e;cases e;exact⟨by show 2<=sizeLine;decide,[u,v],.cons ru<|.cons rv .nil,⟨_,hT',rfl,0,rfl⟩⟩
  .rw[gp hb]at e;refine(I.iH b o e).zX (λd v' hd q=>EB d v' (λhm=>?_) q) (λd q=>by rw[gp (gG q hn)];exact q) λd zs q=>by rw[gp (gG q hn)];exact q
   have nn:=(fr d hm).1;rcases hd with rfl|hd
   .rw[nn]at e;cases e
   .rw[nn]at hd;cases hd
def Inv.yJ {ch:au ao}{h'':Heap}(I:Inv X fA σ H s)(fr:∀ b∈ch,mE X fA H b)(EB:∀ b o,b∉ch->s.heap.get? b=some o->h''.get? b=some o):Inv X fA σ H { s with heap:=h''}:=by
 refine I.step (g':=s.gens) (d':=s.drawn) (t':=s.toks) (h':=h'') (λb hb=>?_) (λb o _ _ hb e _=>EB b o hb e) (λb o _ _ hb e _=>⟨o.slots,EB b o hb e⟩)
  (λb o hb e n=>n) (λb o hb e=>⟨o,EB b o hb e⟩) (λb zs e=>e) (λb o u e=>e) (λb ps e=>⟨#[],by rw[e];simp⟩) (λm hm=>?_) (λb o e=>?_) I.bare
 .let ⟨f0,f1,f2,f3,f4,f5⟩:=fr b hb;exact⟨f3,f1,f4,f5⟩
 .obtain⟨o,es,ep,ho,rr⟩:=hm;exact⟨o,es,ep,EB _ o (λq=>(fr _ q).2.1 rfl) ho,rr⟩
 .refine(I.iH b o e).zX (λd v' hd q=>EB d v' (λhm=>?_) q) (λd q=>q) λd zs q=>q;have nn:=(fr d hm).1;rcases hd with rfl|hd
  .rw[nn]at e;cases e
  .rw[nn]at hd;cases hd
end
def JG {P:ah}{w:ai}{K:aa}{elts:au Expr}{kk:Nat}{nW:Pos}{c:Bool}{z TI TO i1 i2 l1 l2:ao}(D:ZipApart z TI TO i1 i2 l1 l2):
 Turn P w K (.Tuple elts kk nW) (Itz c l1 l2) [z,TI,TO,i1,i2] z (λi h=>IsZip h z TI TO .none/\IsPair h TI (.ref i1) (.ref i2)/\(∃ a b,IsPair h TO a b)/\mG c h i1 l1 i/\mG c h i2 l2 i) where
 mem:=by simp
 obj:=λi h st b hb=>by
  obtain⟨hz,Gy,⟨a,b',Gx⟩,h1,h2⟩:=st;simp only[a6,aN,cb]at hb;rcases hb with rfl|rfl|rfl|rfl|rfl
  .exact⟨_,hz,λv q=>by cases q⟩
  .exact⟨_,Gy,λv q=>by cases q⟩
  .exact⟨_,Gx,λv q=>by cases q⟩
  .exact h1.data
  .exact h2.data
 keep:=λi h h' st k=>by obtain⟨hz,Gy,⟨a,b',Gx⟩,h1,h2⟩:=st;exact⟨k z (by simp) _ hz,k TI (by simp) _ Gy,⟨a,b',k TO (by simp) _ Gx⟩,h1.at λo e=>k i1 (by simp) o e,h2.at λo e=>k i2 (by simp) o e⟩
 item:=by
  intro X hP hw hK hc i fA s σ H E I hf st hg;subst hP hw hK;obtain⟨hz,Gy,⟨a,b',Gx⟩,h1,h2⟩:=st;obtain⟨xs,ys,x,y,q1,q2,ex,ey⟩:=hg;obtain⟨us,r1,p1⟩:=q1.val I;obtain⟨ws,r2,p2⟩:=q2.val I;obtain⟨u,eu,ru⟩:=r1.get ex;obtain⟨v,ev,rv⟩:=r2.get ey;refine ue hz (zK D ⟨hz,Gy,Gx,h1,h2,p1,p2⟩ (.inl rfl) (by simpa using eu) (by simpa using ev) λh' S' hT _ hk=>?_);refine⟨_,rfl,wpAny_letOwnedTupleGo_zip S'.z λh'' e'' YQ=>?_⟩;have Xo:=S'.mz D (f':=.none) (bb':=false) e'' YQ.extBut;have Tz:s.heap.objs.size≠z:=bE<|jd hz;have hT':IsPair h'' s.heap.objs.size u v:=YQ.extBut _ _ Tz hT;have kp:ZK z TO i1 i2 s.heap h'':=hk.trans<|pP YQ.extBut;have hn:H s.heap.objs.size=none:=I.iH.fresh<|aw _;have fr:∀ b∈[z,TO,i1,i2],mE X fA H b:=λb hb=>hf b (by
   simp only[a6,aN,cb]at hb ⊢
   rcases hb with q|q|q|q<;>simp[q])
  have EB:∀ b o,b∉[z,TO,i1,i2]->s.heap.get? b=some o->h''.get? b=some o:=λb o hb e=>kp b o (λq=>hb<|by simp[q]) (λq=>hb<|by simp[q]) (λq=>hb<|by simp[q]) (λq=>hb<|by simp[q]) e;have I1:Inv X fA σ (upd H s.heap.objs.size<|.tup [x,y]) {s with heap:=h''}:=I.yI fr EB hT' ru rv;refine⟨.ref s.heap.objs.size,_,I1,rfl,⟨_,x,y,rfl,hn,rfl,λzs q=>by rw[q.inj q1];exact ex,λzs q=>by rw[q.inj q2];exact ey⟩,⟨Xo.z,Xo.ti,⟨_,_,Xo.to⟩,Xo.n1,Xo.n2⟩,λb hb=>?_⟩;obtain⟨o,e,_⟩:∃ o,s.heap.get? b=some o/\True:=by
   simp only[a6,aN,cb]at hb;rcases hb with rfl|rfl|rfl|rfl|rfl
   .exact⟨_,hz,trivial⟩
   .exact⟨_,Gy,trivial⟩
   .exact⟨_,Gx,trivial⟩
   .obtain⟨o,e⟩:=h1.ex;exact⟨o,e,trivial⟩
   .obtain⟨o,e⟩:=h2.ex;exact⟨o,e,trivial⟩
  rw[gp (aC<|jd e)];exact(hf b hb).1
 done:=by
  intro X hP hw hK hc i fA s σ H E I hf st hg;subst hP hw hK;obtain⟨hz,Gy,⟨a,b',Gx⟩,h1,h2⟩:=st;obtain⟨xs,ys,q1,q2,hx⟩:=hg;obtain⟨us,r1,p1⟩:=q1.val I;obtain⟨ws,r2,p2⟩:=q2.val I;have hl:=r1.length;have sv:=r2.length;refine ue hz (oQ (I.ok.hd hc) D ⟨hz,Gy,Gx,h1,h2,p1,p2⟩ (.inl rfl) (by simp;lia) λh' e hk tE=>?_);obtain⟨o,he⟩:=tE;refine⟨⟨o,e,rfl,he⟩,rfl,?_⟩;have fr:∀ b∈[z,TO,i1,i2],mE X fA H b:=λb hb=>hf b (by
   simp only[a6,aN,cb]at hb ⊢
   rcases hb with q|q|q|q<;>simp[q])
  have EB:∀ b o,b∉[z,TO,i1,i2]->s.heap.get? b=some o->h'.get? b=some o:=λb o hb e=>hk b o (λq=>hb<|by simp[q]) (λq=>hb<|by simp[q]) (λq=>hb<|by simp[q]) (λq=>hb<|by simp[q]) e;exact I.yJ fr EB
 self:=λ_ _ _ _ _ st h=>cJ st.1 h
def rE (a:ao):Obj:={ cls:=.type "tuple_iterator",data:=.fields #[.ref a,.int 0 0]}
def zH (l1 l2:ao)(h:Heap):Heap :=
 ((((h.push<|rE l1).push<|rE l2).push { cls:=.type "tuple",data:=.seq #[.ref h.objs.size,.ref (h.push<|rE l1).objs.size]}).push { cls:=.type "tuple",data:=.seq #[.none,.none]}).push
  { cls:=.type "zip",data:=.fields #[.none,.bool false,.bool false,.ref ((h.push<|rE l1).push<|rE l2).objs.size,.ref (((h.push<|rE l1).push<|rE l2).push { cls:=.type "tuple",data:=.seq #[.ref h.objs.size,.ref (h.push<|rE l1).objs.size]}).objs.size]}
def Jv (l1 l2:ao)(xs ys:Array ar):Meets (Builtin.«zip.__new__» ⟨[.type "zip",.ref l1,.ref l2],[]⟩) (λ_ R s=>s.heap.IsTuple l1 xs/\s.heap.IsTuple l2 ys /\
 R (.ok<|.ret<|.ref<|s.heap.objs.size+4) {s with heap:=zH l1 l2 s.heap}):=
 .of_wp λprog w A R s h=>by
  obtain⟨hp,g,d,tk,os⟩:=s;obtain⟨X8,sv,h⟩:=h;have We:=sub_zip;have t1:=X8;have t2:Heap.IsTuple (Shared.heap ⟨hp.push { cls:=.type "tuple_iterator",data:=.fields #[.ref l1,.int 0 0]},g,d,tk,os⟩) l2 ys:=Heap.IsTuple.push sv _;wp_walk using wpAny_pyIter_tuple t1,wpAny_pyIter_tuple t2;refine⟨_,rfl,?_⟩;have e:hp.objs.size+4=((((hp.push<|rE l1).push<|rE l2).push { cls:=.type "tuple",data:=.seq #[.ref hp.objs.size,.ref (hp.push<|rE l1).objs.size]}).push { cls:=.type "tuple",data:=.seq #[.none,.none]}).objs.size:=by simp only[aR]
  have h':R (.ok<|.ret<|.ref<|hp.objs.size+4) _:=h;rw[e]at h';exact h'
def wj {prog:ah}{w:ai}{A:Around}{E:ar->ak->Prop}{s:ak}{c:Bool}{l1 l2:ao}{xs ys:Array ar}{Q:ar->ak->Prop}(p1:ke c s.heap l1 xs)(p2:ke c s.heap l2 ys)
 (h:∀ h',IsZip h' (s.heap.objs.size+4) (s.heap.objs.size+2) (s.heap.objs.size+3) .none->IsPair h' (s.heap.objs.size+2) (.ref s.heap.objs.size) (.ref<|s.heap.objs.size+1)->IsPair h' (s.heap.objs.size+3) .none .none ->
   mG c h' s.heap.objs.size l1 0->mG c h' (s.heap.objs.size+1) l2 0->(∀ b o,s.heap.get? b=some o->h'.get? b=some o)->Q (.ref<|s.heap.objs.size+4) {s with heap:=h'}):
 wpAny (model prog w) A (call (.type "zip") [.ref l1,.ref l2]) Q E s:=by
 cases c with
 |false=>exact call_zip_2 p1 p2 λh' a1 a2 a3 a4 a5 _ a7=>h h' a1 a2 a3 a4 a5 a7
 | true =>
  refine callType_new F.called_zip (by decide) (F.typeCall_zip_2 _ _) (F.newCall_zip_2 _ _) (λobj=>F.args_object_init_3 obj _ _) F.entry_zip_new (Jv l1 l2 xs ys) ⟨p1,p2,?_⟩;have z1:(s.heap.push<|rE l1).objs.size=s.heap.objs.size+1:=aR ..
  have z2:((s.heap.push<|rE l1).push<|rE l2).objs.size=s.heap.objs.size+2:=by rw[aR,z1]
  have z3:(((s.heap.push<|rE l1).push<|rE l2).push { cls:=.type "tuple",data:=.seq #[.ref s.heap.objs.size,.ref (s.heap.push<|rE l1).objs.size]}).objs.size=s.heap.objs.size+3:=by rw[aR,z2]
  have z4:((((s.heap.push<|rE l1).push<|rE l2).push { cls:=.type "tuple",data:=.seq #[.ref s.heap.objs.size,.ref (s.heap.push<|rE l1).objs.size]}).push { cls:=.type "tuple",data:=.seq #[.none,.none]}).objs.size=s.heap.objs.size+4:=by rw[aR,z3]
  have g0:(zH l1 l2 s.heap).get? s.heap.objs.size=some (rE l1):=jw _<|jw _<|jw _<|jw _<|aD _ rfl;have g1:(zH l1 l2 s.heap).get? (s.heap.push<|rE l1).objs.size=some (rE l2):=jw _<|jw _<|jw _<|aD _ rfl;have g2:(zH l1 l2 s.heap).get? ((s.heap.push<|rE l1).push<|rE l2).objs.size=some _:=jw _<|jw _<|aD _ rfl;have g3:(zH l1 l2 s.heap).get? (((s.heap.push<|rE l1).push<|rE l2).push { cls:=.type "tuple",data:=.seq #[.ref s.heap.objs.size,.ref (s.heap.push<|rE l1).objs.size]}).objs.size=some _:=jw _<|aD _ rfl;have g4:(zH l1 l2 s.heap).get? ((((s.heap.push<|rE l1).push<|rE l2).push { cls:=.type "tuple",data:=.seq #[.ref s.heap.objs.size,.ref (s.heap.push<|rE l1).objs.size]}).push { cls:=.type "tuple",data:=.seq #[.none,.none]}).objs.size=some _:=aD _ rfl;rw[z1]at g1;rw[z2,z1]at g2;rw[z3]at g3;rw[z4,z2,z3]at g4;exact⟨⟨_,g4,rfl⟩,h _ g4 g2 g3 ⟨_,g0,rfl,rfl⟩ ⟨_,g1,rfl,rfl⟩ λb o e=>jw _<|jw _<|jw _<|jw _<|jw _ e⟩
section
variable {X:Cx}
def Zn (ta:TA):TI:=λσ H R=>ta σ H λvs H1=>match vs with
 |[.ref a,.ref b]=>∃(c:Bool) (xs ys:au V),Dr c H1 a xs/\Dr c H1 b ys/\R (Itz c a b) H1
 |_=>False
def Ks {elts:au Expr}{kk:Nat}{nW:Pos}{a b:Expr}{ta:TA}{p pos:Pos}(hg:Gl X "zip")(hm:X.mg "zip"=none)(ha:PA X [a,b] ta)(hs:starEach [a,b] X.env=[(false,eval a X.env),(false,eval b X.env)]:=by rfl)(rm:starEach [b] X.env=[(false,eval b X.env)]:=by rfl):
 PI X (.Tuple elts kk nW) (.Call (.Name "zip" p) [a,b] [] pos) (Zn ta):=by
 intro fA s σ H R I h;refine Call_ (kc I hg hm boot_zip<|aS (iN (ha pos fA s σ H _ I h) λus s1 qU=>?_) (by rw[hs,rm]) (by rw[rm];rfl));obtain⟨vs,H1,I1,r1,q1⟩:=qU;try dsimp only at q1
 split at q1
 .rename_i l1 l2;obtain⟨c,xs,ys,q1,q2,q⟩:=q1;obtain⟨u1,u2,rfl,e1,e2⟩:=r1.two;cases e1;cases e2;obtain⟨us,r1,p1⟩:=q1.val I1;obtain⟨ws,r2,p2⟩:=q2.val I1;have lt:∀ {l:ao} {o:HO},H1 l=some o->l<s1.heap.objs.size:=λe=>I1.iH.lt e;obtain⟨o1,w1⟩:=q1.ex;obtain⟨o2,w2⟩:=q2.ex;refine wj p1 p2 λh' hz Gy Gx n1 n2 kp=>cJ hz ?_;have I2:Inv X fA σ H1 { s1 with heap:=h'}:=I1.iR (t':=s1.toks) kp;refine⟨s1.heap.objs.size+4,_,_,_,H1,rfl,I2,JG (c:=c)<|zipApart_new (lt w1)<|lt w2,⟨hz,Gy,⟨_,_,Gx⟩,n1,n2⟩,λb hb=>?_,q⟩;have EM:s1.heap.objs.size<=b:=by
   simp at hb;rcases hb with e|e|e|e|e<;>subst e
   .exact bc ..
   .exact bc ..
   .exact bc ..
   .exact aw _
   .exact bc ..
  exact I1.ES EM (I1.iH.fresh EM)
 .exact q1.elim
def Ca (g:au Bool->Bool):au V->Hp->VK->Prop:=λvs H Q=>match vs with
 |[.ref p]=>∃ bs:au Bool,H p=some (.lst<|bs.map V.bl)/\Q (.bl<|g bs) H
 |_=>False
def range_all (bs:au Bool):(List.range bs.length).all (λi=>bs.getD i true)=bs.all id:=by
 rw[dE,c8,c8];constructor
 .intro h b hb;obtain⟨i,hi,e⟩:=aJ hb;have:=h i (by simpa using hi);rw[aA,iD hi,e]at this;exact this
 .intro h i hi;have Gs:i<bs.length:=by simpa using hi
  rw[aA,iD Gs];exact h _ (bJ _)
def Xi (hc:X.gH=true):jr X (.builtin "all") (Ca λbs=>bs.all id):=by
 intro fA s σ H vs us Q I rv h;unfold Ca at h;split at h
 .rename_i p;obtain⟨bs,hp,q⟩:=h;obtain⟨u,rfl,ru⟩:=rv.one;cases ru;obtain⟨z,gb,n,r,hl,e⟩:=I.mq hp;have BH:s.heap.IsList p gb.toArray:=⟨_,e,rfl,n,rfl⟩;have lt:p≠s.heap.objs.size:=aC<|jd e;refine call_all_walk (cP BH ⟨_,_,_,_,_,_,λi=>bs.getD i true,rfl,Walks.list (A:=X.A.in1) (I.ok.hd hc) s.heap.objs.size p lt gb.toArray,⟨⟨_,aD _ rfl,rfl,rfl⟩,BH.push _⟩,?_,λh' tk kp=>?_⟩)
  .intro i v s' Q' E' hv hq;have DM:gb[i]?=some v:=by simpa using hv
   have hb:∃ b,bs[i]?=some b/\v=.bool b:=by
    cases eb:(bs.map V.bl)[i]? with
    |none=>have:=r.none_of eb;rw[DM]at this;cases this
    | some y =>
     obtain⟨u,hu,ry⟩:=r.get eb;rw[DM]at hu;cases hu;rw[mS]at eb;cases e2:bs[i]? with
     |none=>rw[e2]at eb;cases eb
     |some b=>rw[e2]at eb;cases eb;exact⟨b,rfl,ry⟩
   obtain⟨b,eb,rfl⟩:=hb;have e3:bs.getD i true=b:=by rw[aA,eb];rfl
   have LH:Q' (bs.getD i true) s':=hq;rw[e3]at LH;exact cx LH
  .have I2:Inv X fA σ H { s with heap:=h',toks:=tk}:=I.iR λb o e'=>kp b o (by simpa using aC<|jd e')<|jw _ e';have len:gb.toArray.size=bs.length:=by rw[aG,<- hl,gP]
   rw[len,range_all];exact⟨.bl _,H,I2,rfl,q⟩
 .cases h
def VA:R2:=λx y H Q=>match x,y with
 |.iC,.iC=>Q (.bl true) H
 |.int i,.int j=>Q (.bl<|decide (i=j)) H
 |.str i,.str j=>Q (.bl<|decide (i=j)) H
 |.bl i,.bl j=>Q (.bl<|decide (i=j)) H
 |_,_=>False
def eqN:lq X (compareOp .Eq) VA:=QW.imp λx y H Q q=>by
 unfold VA at q;split at q
 .exact⟨rfl,by simpa using q⟩
 .exact⟨rfl,by rwa [dI]⟩
 .exact⟨rfl,by rw[dS];exact q⟩
 .exact⟨rfl,by rw[dB];exact q⟩
 .exact q.elim
end
section
variable {js:au (av Nat)}{g:TG}{tt:TT}{te:TE}{σ:St}{H:Hp}{fin:au V->Hp->Prop}
def GY {c:Bool}{a1 a2:ao}{xs zs:au V}(hn:xs.length=zs.length)(Pv:Nat->au V->Hp->Prop)(h0:Pv 0 [] H)(hl:∀ i ys H,Pv i ys H->Dr c H a1 xs/\Dr c H a2 zs)
 (hs:∀ i x y ys H T,i<xs.length->xs[i]?=some x->zs[i]?=some y->Pv i ys H->H T=none->g (.ref T) (iQ js σ) (upd H T<|.tup [x,y]) λoM H2=>Ext (iQ js σ) oM/\tt oM H2 λb H3=>if b=true then te oM H3 (CNx xs.length i Pv ys)else CSk xs.length i Pv ys H3)
 (hd:∀ ys H,Pv xs.length ys H->fin ys H):JD js g tt te (Itz c a1 a2) σ H fin:=by
 refine⟨λi m ys H=>m=xs.length - i/\i<=xs.length/\Pv i ys H,⟨xs.length,by simp,bA _,h0⟩,?_⟩;rintro i m ys H ⟨rfl,hi,p⟩;let ⟨q1,q2⟩:=hl i ys H p;by_cases mv:i<xs.length
 .refine .inr ⟨⟨xs,zs,xs[i],zs[i]'(by lia),q1,q2,by simp[mv],by simp[show i<zs.length by lia]⟩,λv H' yl=>?_⟩;obtain⟨T,x,y,rfl,hT,rfl,h1,h2⟩:=yl;exact hs i x y ys H T mv (h1 xs q1) (h2 zs q2) p hT
 .have e:i=xs.length:=by lia
  subst e
  exact .inl ⟨⟨xs,zs,q1,q2,.inl<|aw _⟩,hd ys H p⟩
end
inductive DV where
 |iC|bl (b:Bool)|int (i:Int)|str (z:Str)|lst (ds:List DV)|tup (ds:List DV)
mutual
def dep:DV->Nat
 |.lst ds=>yu ds+1
 |.tup ds=>yu ds+1
 |_=>0
def yu:List DV->Nat
 |[]=>0
 |d::ds=>max (dep d) (yu ds)
end
mutual
def Nq:DV->Nat
 |.lst ds=>max ds.length (yc ds)
 |.tup ds=>max ds.length (yc ds)
 |_=>0
def yc:List DV->Nat
 |[]=>0
 |d::ds=>max (Nq d) (yc ds)
end
mutual
def Is (H:Hp):DV->V->Prop
 |.iC,v=>v=.iC
 |.bl b,v=>v=.bl b
 |.int i,v=>v=.int i
 |.str z,v=>v=.str z
 |.lst ds,v=>∃ p vs,v=.ref p/\H p=some (.lst vs)/\mK H ds vs
 |.tup ds,v=>∃ p vs,v=.ref p/\H p=some (.tup vs)/\mK H ds vs
def mK (H:Hp):List DV->List V->Prop
 |[],vs=>vs=[]
 |d::ds,vs=>∃ v r,vs=v::r/\Is H d v/\mK H ds r
end
mutual
theorem Is.mono {H H':Hp}(s:iA H H'):∀(d:DV) (v:V),Is H d v->Is H' d v
 |.iC,_,h=>h
 |.bl _,_,h=>h
 |.int _,_,h=>h
 |.str _,_,h=>h
 | .lst ds,_,h=>by obtain⟨p,vs,e,hp,q⟩:=h;exact⟨p,vs,e,s _ _ hp,mK.mono s ds vs q⟩
 | .tup ds,_,h=>by obtain⟨p,vs,e,hp,q⟩:=h;exact⟨p,vs,e,s _ _ hp,mK.mono s ds vs q⟩
theorem mK.mono {H H':Hp}(s:iA H H'):∀(ds:List DV) (vs:List V),mK H ds vs->mK H' ds vs
 |[],_,h=>h
 | d::ds,_,h=>by obtain⟨v,r,e,h1,h2⟩:=h;exact⟨v,r,e,Is.mono s d v h1,mK.mono s ds r h2⟩
end
theorem mK.len {H:Hp}:∀ {ds:au DV} {vs:au V},mK H ds vs->vs.length=ds.length
 |[],_,h=>by rw[show _=[]from h];rfl
 |d::ds,_,h=>by obtain⟨v,r,rfl,_,h2⟩:=h;rw[a8,a8,mK.len h2]
theorem mK.get {H:Hp}:∀ {ds:au DV} {vs:au V} {i:Nat} {v:V},mK H ds vs->vs[i]?=some v->∃ d,ds[i]?=some d/\Is H d v
 |[],_,i,v,h,e=>by rw[show _=[]from h]at e;simp at e
 | d::ds,_,0,v,h,e=>by obtain⟨v',r,rfl,h1,h2⟩:=h;simp at e;subst e;exact⟨d,rfl,h1⟩
 | d::ds,_,i+1,v,h,e=>by obtain⟨v',r,rfl,h1,h2⟩:=h;obtain⟨d',e1,e2⟩:=mK.get h2 (by simpa using e);exact⟨d',by simpa using e1,e2⟩
theorem xE:∀ {ds:au DV} {i:Nat} {d:DV},ds[i]?=some d->dep d<=yu ds
 |d::ds,0,d',h=>by simp at h;subst h;unfold yu;lia
 |d::ds,i+1,d',h=>by have:=xE (i:=i) (by simpa using h);unfold yu;lia
theorem wq:∀ {ds:au DV} {i:Nat} {d:DV},ds[i]?=some d->Nq d<=yc ds
 |d::ds,0,d',h=>by simp at h;subst h;unfold yc;lia
 |d::ds,i+1,d',h=>by have:=wq (i:=i) (by simpa using h);unfold yc;lia
def uo (n:Nat):Sp:=λvs H Q _=>match vs with
 |[x,y]=>∃ d,dep d<=n/\Nq d<sizeLine/\Is H d x/\Is H d y/\∀ H',iA H H'->Q (.bl true) H'
 |_=>False
def YT:Sp:=λ_ _ _ _=>False
def spS:Nat->Sp
 |0=>YT
 |n+1=>uo n
theorem iA.upd {H:Hp}{p:ao}{o:HO}(h:H p=none):iA H (L2.upd H p o):=λb u e=>by rwa [gp (gG e h)]
def GW {α:Type}{l:au α}{n:Int}(h:0<=n):lh l none (some n)=l.take n.toNat:=by
 obtain⟨m,rfl⟩:∃ m:Nat,n=(m:Int):=⟨n.toNat,by lia⟩;unfold lh;rw[HT.lD,HT.wI,List.drop_zero,Nat.sub_zero,sx];by_cases hm:m<=l.length
 .rw[bZ hm]
 .rw[fb (by lia),List.take_length,bU (by lia)]
def zo {α:Type}{l:au α}{n:Int}(h:0<=n):lh l (some n) none=l.drop n.toNat:=by
 obtain⟨m,rfl⟩:∃ m:Nat,n=(m:Int):=⟨n.toNat,by lia⟩;unfold lh;rw[HT.lD,HT.wI,sx];by_cases hm:m<=l.length
 .rw[bZ hm,bU (by rw[bG];lia)]
 .rw[fb (by lia),bM (aw _),bM (by lia),List.take_nil]
section
variable {X:Cx}
def B9:V->au V->Hp->VK->Prop:=λx vs H Q=>∃ l y xs,x=.ref l/\vs=[y]/\H l=some (.lst xs)/\xs.length<sizeLine/\Q .iC (upd H l<|.lst<|xs++[y])
def tX:Ni X "list.append" B9:=Ni.imp HY λx vs H Q q=>by obtain⟨l,y,xs,rfl,rfl,a,b,c⟩:=q;exact⟨_,xs,_,rfl,rfl,a,b,c⟩
end
def Hi (H:Hp):au V->au (Nat×Nat)->Prop:=Paired λv r=>∃ p,v=.ref p/\H p=some (.tup [.int r.1,.int r.2])
def Qh (H H':Hp):Prop:=∀ p xs,H p=some (.tup xs)->H' p=some (.tup xs)
def Qh.trans (a:Qh H H1)(b:Qh H1 H2):Qh H H2:=λp xs h=>b p xs (a p xs h)
def Hi.len (h:Hi H vs rs):vs.length=rs.length:=Paired.length h
def rr (l:au Nat):Nat->Nat×au (Nat×Nat)
 |0=>(0,[])
 |i+1=>if l[i]?=some 120 then(i+1,if(rr l i).1<i then(rr l i).2++[((rr l i).1,i)]else(rr l i).2)else rr l i
theorem G9 (ns:au Int):∀ k,k<ns.length->argBest (λi j=>decide (ns.getD j 0<ns.getD i 0)) k<=k/\∀ j,j<=k->ns.getD j 0<=ns.getD (argBest (λi j=>decide (ns.getD j 0<ns.getD i 0)) k) 0
 |0,_=>⟨aw _,λj hj=>by rw[show j=0 by lia];exact bw _⟩
 | k+1,h=>by
  let ⟨h1,h2⟩:=G9 ns k (by lia);unfold argBest;by_cases hb:ns.getD (argBest (λi j=>decide (ns.getD j 0<ns.getD i 0)) k) 0<ns.getD (k+1) 0
  .rw[aE (aI hb)];refine⟨aw _,λj hj=>?_⟩;by_cases e:j=k+1
   .rw[e];exact bw _
   .exact bu (h2 j<|by lia) (dA hb)
  .rw[aF (by simp only[bS];exact hb)];refine⟨by lia,λj hj=>?_⟩;by_cases e:j=k+1
   .lia
   .exact h2 j (by lia)
section
variable {X:Cx}
def Ke:au V->Hp->VK->Prop:=λvs H Q=>match vs with
 |[.ref p]=>∃ ns:au Int,H p=some (.lst<|ns.map V.int)/\ns≠[]/\∀ m,m∈ns->(∀ x∈ns,x<=m)->Q (.int m) H
 |_=>False
def Lb (hc:X.gH=true):jr X (.builtin "max") Ke:=by
 intro fA s σ H vs us Q I rv h;unfold Ke at h;split at h
 .rename_i p;obtain⟨ns,hp,EJ,q⟩:=h;obtain⟨u,rfl,ru⟩:=rv.one;cases ru;obtain⟨z,gb,n,r,hl,e⟩:=I.mq hp;have BH:s.heap.IsList p gb.toArray:=⟨_,e,rfl,n,rfl⟩;have lt:=aC<|jd e;have len:gb.toArray.size=ns.length:=by rw[aG,<- hl,gP]
  have pos:0<ns.length:=List.length_pos_iff.mpr EJ;have val:∀ i v,gb.toArray[i]?=some v->∃ t,i<ns.length/\v=.int (ns.getD i 0) t:=λi v hv=>by
   have DM:gb[i]?=some v:=by simpa using hv
   cases eb:(ns.map V.int)[i]? with
   |none=>have:=r.none_of eb;rw[DM]at this;cases this
   | some y =>
    obtain⟨u,hu,ry⟩:=r.get eb;rw[DM]at hu;cases hu;rw[mS]at eb;cases e2:ns[i]? with
    |none=>rw[e2]at eb;cases eb
    | some b =>rw[e2]at eb;cases eb;obtain⟨t,rfl⟩:=ry;exact⟨t,(kB e2).1,by rw[aA,e2];rfl⟩
  refine call_max_walk (cP BH ⟨_,_,_,_,_,_,λi j=>decide (ns.getD j 0<ns.getD i 0),rfl,Walks.list (A:=X.A.in1) (I.ok.hd hc) s.heap.objs.size p lt gb.toArray,⟨⟨_,aD _ rfl,rfl,rfl⟩,BH.push _⟩,?_,by rw[len];exact pos,?_,λv h' tk hv kp=>?_⟩)
  .intro b hb;simp at hb;rw[aR];rcases hb with rfl|rfl
   .exact bD _
   .exact bC (jd e)
  .intro i j vi vj s' Q' E' hi hj hq;obtain⟨t,_,rfl⟩:=val i vi hi;obtain⟨t',_,rfl⟩:=val j vj hj;exact gt_int hq
  .have I2:Inv X fA σ H { s with heap:=h',toks:=tk}:=I.iR λb o e'=>kp b o (by simpa using aC<|jd e')<|jw _ e';rw[len]at hv;obtain⟨t,mv,rfl⟩:=val _ v hv;obtain⟨b1,b2⟩:=G9 ns (ns.length - 1) (by lia);refine⟨.int _,H,I2,⟨t,rfl⟩,q _ ?_ λx hx=>?_⟩
   .rw[aA,iD mv];exact bJ _
   .obtain⟨j,hj,ej⟩:=aJ hx;have:=b2 j (by lia);rwa [aA,iD hj,ej]at this
 .cases h
def GF (l:au Nat)(c i:Nat):Int->Prop:=λr=>(r = -1/\∀ v,i<=v->l[v]?≠some c)\/∃ k:Nat,r=(k:Int)/\i<=k/\l[k]?=some c/\∀ v,i<=v->v<k->l[v]?≠some c
def Kj:V->au V->Hp->VK->Prop:=λx vs H Q=>∃(z:Str) (c:Nat) (i:Int),x=.str z/\vs=[.str ⟨#[c]⟩,.int i]/\0<=i/\i<=z.length/\∀ r,GF z.cps.toList c i.toNat r->Q (.int r) H
def WA:Ni X "str.find" Kj:=by
 intro fA s σ H x vs v us Q I rx rv h
 .obtain⟨z,c,i,rfl,rfl,h0,h1,q⟩:=h;obtain⟨t,rfl⟩:=rx;obtain⟨u1,u2,rfl,r1,r2⟩:=rv.two;obtain⟨t1,rfl⟩:=r1;obtain⟨t2,rfl⟩:=r2;refine SC.find3 ⟨.int _,H,I.tok _,⟨_,rfl⟩,q _ ?_⟩;have fi:fromIndex z.length i=i.toNat:=by unfold fromIndex;lia
  have gd:∀ v,z.cps.getD v 0≠c\/¬ v<z.length->z.cps.toList[v]?≠some c:=λv hv e=>by
   have mv:=(kB e).1;have ZJ:v<z.length:=by rwa [VY]
   rcases hv with hv|hv
   .exact hv (by rw[iD mv]at e;injection e with e;rw[<- e];simp[Array.getD,show v<z.cps.size by simpa using mv])
   .exact hv ZJ
  rcases StrLaws.find3_spec z c i with⟨e,hn⟩|⟨k,e,k1,k2,k3,k4⟩
  .refine .inl ⟨e,λv hv=>gd v ?_⟩;by_cases hl:v<z.length
   .exact .inl (hn v (by lia) hl)
   .exact .inr hl
  .refine .inr ⟨k,e,by lia,?_,λv h1 h2=>gd v<|.inl<|k4 v (by lia) h2⟩;have mv:k<z.cps.toList.length:=by rwa [<- VY]
   rw[iD mv,<- k3];simp[Array.getD,show k<z.cps.size by simpa using mv]
end
def Up (l:au Nat)(e t:Nat):Prop:=e<=t/\t<=l.length/\(∀ v,e<=v->v<t->l[v]?=some 111)/\(t=l.length\/l[t]?=some 120)
def Up.uniq (a:Up l e t)(b:Up l e u):t=u:=by
 let ⟨a1,a2,a3,a4⟩:=a;let ⟨b1,b2,b3,b4⟩:=b;rcases eL t u with h|h|h
 .rcases a4 with q | q
  .lia
  .have:=b3 t a1 h;rw[q]at this;cases this
 .exact h
 .rcases b4 with q | q
  .lia
  .have:=a3 u b1 h;rw[q]at this;cases this
def QU (ho:OX l)(h:v<l.length)(n:l[v]?≠some 120):l[v]?=some 111:=by
 have e:=iD h;rcases ho _ (bJ h)with q|q
 .rw[e,q]
 .exact absurd (by rw[e,q]) n
def GF.cl {l:au Nat}{e:Nat}{r:Int}(ho:OX l)(he:e<=l.length)(h:GF l 120 e r):(r<0->Up l e l.length)/\(¬ r<0->Up l e r.toNat/\r=(r.toNat:Int)):=by
 rcases h with⟨rfl,hn⟩|⟨k,rfl,h1,h2,h3⟩
 .exact⟨λ_=>⟨he,aw _,λv a b=>QU ho b<|hn v a,.inl rfl⟩,λq=>absurd (by decide) q⟩
 .have hk:=(kB h2).1;exact⟨λq=>absurd q<|by lia,λ_=>⟨⟨by lia,by lia,λv a b=>QU ho (by lia)<|h3 v a<|by lia,.inr<|h2⟩,by rw[sx]⟩⟩
def Xy (es:au Int)(l:au Nat)(e:Int)(m:Int):Prop:=∃ t,Up l e.toNat t/\m∈es/\m<=(t:Int)/\∀ x∈es,x<=(t:Int)->x<=m
theorem Xy.uniq {es:au Int}{l:au Nat}{e m k:Int}(a:Xy es l e m)(b:Xy es l e k):m=k:=by let ⟨t,a1,a2,a3,a4⟩:=a;let ⟨u,b1,b2,b3,b4⟩:=b;cases a1.uniq b1;exact Int.le_antisymm (b4 m a2 a3) (a4 k b2 b3)
def fw (n:Int)(cs:au Int):au Int:=0::cs++[n]
inductive D where
 |iC|bl (b:Bool)|int (i:Int)|str (z:Str)|lst (ds:List D)|tup (ds:List D)|jS (ks:List Key) (ds:List D)|mr (k:Nat)|obj (C:ao) (ns:List Str) (ds:List D)|uc (ks:List Key) (ds:List D)|fn (a:ao)
inductive MO where
 |box|lst (ds:List D)|jS (ks:List Key) (ds:List D)|xn (o:Obj) (fO:List (Key×V)) (ds:List D)|ins (C:ao) (ns:List Str) (ds:List D)|nA (ks:List (List Key)) (ds:List D)|gx (φ:List ao) (H:Hp)|exc (c:ar)
abbrev MS:=au MO
def nP (μ:MS)(k:Nat):av (au D):=match μ[k]? with|some (.lst ds)=>some ds|_=>none
def jP (h:nP μ k=some ds):μ[k]?=some (.lst ds):=by
 unfold nP at h;split at h
 .cases h;assumption
 .cases h
def wY (h:μ[k]?=some (.lst ds)):nP μ k=some ds:=by unfold nP;rw[h]
def sX {μ:MS}(h:k<μ.length):nP (μ.set k<|.lst ds) k=some ds:=wY (aW h)
def Ax (h:k≠j):nP (μ.set k m) j=nP μ j:=by unfold nP;rw[bp h]
def jl:nP (μ++[.lst ds]) μ.length=some ds:=wY (by rw[qV (aw _),aZ];rfl)
def OZ (h:nP μ k=some ds):nP (μ++[m]) k=some ds:=wY (by rw[vd (kB<|jP h).1];exact jP h)
abbrev DE:=au (av D)
mutual
def jy (φ:List ao)(H:Hp):D->V->Prop
 |.iC,v=>v=.iC
 |.bl b,v=>v=.bl b
 |.int i,v=>v=.int i
 |.str z,v=>v=.str z
 |.lst ds,v=>∃ p vs,v=.ref p/\p∉φ/\H p=some (.lst vs)/\fV φ H ds vs
 |.tup ds,v=>∃ p vs,v=.ref p/\p∉φ/\H p=some (.tup vs)/\fV φ H ds vs
 |.jS ks ds,v=>∃ p fO vs,v=.ref p/\p∉φ/\H p=some (.dK fO)/\fO.map (·.1)=ks/\vs=fO.map (·.2)/\fV φ H ds vs
 |.mr k,v=>∃ p,φ[k]?=some p/\v=.ref p
 |.obj C ns ds,v=>∃ p dx fs vs,v=.ref p/\p∉φ/\H p=some (.ins C dx fs)/\fs.map (·.1)=ns/\vs=fs.map (·.2)/\fV φ H ds vs
 |.uc ks ds,v=>∃ p o fO vs,v=.ref p/\p∉φ/\H p=some (.CN o<|.dK fO)/\fO.map (·.1)=ks/\vs=fO.map (·.2)/\fV φ H ds vs
 |.fn a,v=>v=.ref a
def fV (φ:List ao)(H:Hp):List D->List V->Prop
 |[],vs=>vs=[]
 |d::ds,vs=>∃ v r,vs=v::r/\jy φ H d v/\fV φ H ds r
end
structure Fr (φ:List ao)(H:Hp)(gO:List ao)(H':Hp):Prop where
 ext:∃ ψ,gO=φ++ψ/\∀ c∈ψ,H c=none
 keep:∀ c o,c∉φ->H c=some o->H' c=some o
 Ym:∀ c,H' c=none->H c=none
def Fr.refl (φ:au ao)(H:Hp):Fr φ H φ H:=⟨⟨[],by simp,λ_ h=>nomatch h⟩,λ_ _ _ h=>h,λ_ h=>h⟩
def Fr.trans (a:Fr φ H gL H1)(b:Fr gL H1 lg H2):Fr φ H lg H2:=by
 obtain⟨⟨ψ,rfl,Im⟩,k1,d1⟩:=a;obtain⟨⟨χ,rfl,hχ⟩,k2,d2⟩:=b;refine⟨⟨ψ++χ,by simp,λc hc=>?_⟩,λc o hc e=>k2 c o (λh=>?_)<|k1 c o hc e,λc h=>d1 c<|d2 c h⟩
 .rcases List.mem_append.mp hc with h | h
  .exact Im c h
  .exact d1 c (hχ c h)
 .rcases List.mem_append.mp h with h | h
  .exact hc h
  .rw[Im c h]at e;cases e
def Fr.same (h:iA H H'):Fr φ H φ H':=⟨⟨[],by simp,λ_ h=>nomatch h⟩,λc o _ e=>h c o e,λc e=>h.free e⟩
def Fr.new (h:H p=none):Fr φ H φ (upd H p o):=.same (iA.upd h)
def Fr.put (h:p∈φ):Fr φ H φ (upd H p o) :=
 ⟨⟨[],by simp,λ_ h=>nomatch h⟩,λc u hc e=>by rw[gp (λz=>hc (by rw[z];exact h))];exact e,λc e=>by
  unfold upd at e
  split at e
  .cases e
  .exact e⟩
def Fr.snoc (h:H p=none):Fr φ H (φ++[p]) H:=⟨⟨[p],rfl,λc hc=>by rwa [List.mem_singleton.mp hc]⟩,λ_ _ _ e=>e,λ_ e=>e⟩
def Fr.yY (f:Fr φ H gO H')(h:p∉φ)(e:H p=some o):p∉gO:=by
 obtain⟨⟨ψ,rfl,Im⟩,_,_⟩:=f;intro hc;rcases List.mem_append.mp hc with q|q
 .exact h q
 .rw[Im p q]at e;cases e
def Fr.get (f:Fr φ H gO H'){k:Nat}(h:φ[k]?=some p):gO[k]?=some p:=by obtain⟨⟨ψ,rfl,Im⟩,_,_⟩:=f;rwa [vd (kB h).1]
mutual
theorem jy.mono {φ gO:List ao}{H H':Hp}(f:Fr φ H gO H'):∀ {d:D} {v:V},jy φ H d v->jy gO H' d v
 |.iC,_,h=>h
 |.bl _,_,h=>h
 |.int _,_,h=>h
 |.str _,_,h=>h
 |.lst _,_,h=>by obtain⟨p,vs,e,n,hp,q⟩:=h;exact⟨p,vs,e,f.yY n hp,f.keep _ _ n hp,fV.mono f q⟩
 |.tup _,_,h=>by obtain⟨p,vs,e,n,hp,q⟩:=h;exact⟨p,vs,e,f.yY n hp,f.keep _ _ n hp,fV.mono f q⟩
 |.jS _ _,_,h=>by obtain⟨p,fO,vs,e,n,hp,q1,q2,q⟩:=h;exact⟨p,fO,vs,e,f.yY n hp,f.keep _ _ n hp,q1,q2,fV.mono f q⟩
 |.mr _,_,h=>by obtain⟨p,e,q⟩:=h;exact⟨p,f.get e,q⟩
 |.obj _ _ _,_,h=>by obtain⟨p,dx,fs,vs,e,n,hp,q1,q2,q⟩:=h;exact⟨p,dx,fs,vs,e,f.yY n hp,f.keep _ _ n hp,q1,q2,fV.mono f q⟩
 |.uc _ _,_,h=>by obtain⟨p,dx,fs,vs,e,n,hp,q1,q2,q⟩:=h;exact⟨p,dx,fs,vs,e,f.yY n hp,f.keep _ _ n hp,q1,q2,fV.mono f q⟩
 |.fn _,_,h=>h
theorem fV.mono {φ gO:List ao}{H H':Hp}(f:Fr φ H gO H'):∀ {ds:List D} {vs:List V},fV φ H ds vs->fV gO H' ds vs
 |[],_,h=>h
 |_::_,_,h=>by obtain⟨v,r,e,h1,h2⟩:=h;exact⟨v,r,e,jy.mono f h1,fV.mono f h2⟩
end
theorem fV.len:∀ {ds:au D} {vs:au V},fV φ H ds vs->vs.length=ds.length
 |[],_,h=>by rw[show _=[]from h];rfl
 |d::ds,_,h=>by obtain⟨v,r,rfl,_,h2⟩:=h;rw[a8,a8,fV.len h2]
theorem fV.get:∀ {ds:au D} {vs:au V} {i:Nat} {d:D},fV φ H ds vs->ds[i]?=some d->∃ v,vs[i]?=some v/\jy φ H d v
 |[],_,i,d,h,e=>by simp at e
 |d::ds,_,0,d',h,e=>by obtain⟨v',r,rfl,h1,h2⟩:=h;simp at e;subst e;exact⟨v',rfl,h1⟩
 | d::ds,_,i+1,d',h,e=>by obtain⟨v',r,rfl,h1,h2⟩:=h;obtain⟨v,e1,e2⟩:=fV.get h2 (by simpa using e);exact⟨v,by simpa using e1,e2⟩
def fV.CL {i:Nat}(h:fV φ H ds vs)(e:vs[i]?=some v):∃ d,ds[i]?=some d/\jy φ H d v:=by have hl:=h.len;have hi:=(kB e).1;obtain⟨u,e1,e2⟩:=h.get (d:=ds[i]'(by lia)) (iD<|by lia);rw[e]at e1;cases e1;exact⟨_,iD<|by lia,e2⟩
theorem fV.app:∀ {ds es:au D} {vs us:au V},fV φ H ds vs->fV φ H es us->fV φ H (ds++es) (vs++us)
 |[],_,_,_,h,g=>by rw[show _=[]from h];exact g
 |d::ds,es,_,us,h,g=>by obtain⟨v,r,rfl,h1,h2⟩:=h;exact⟨v,r++us,rfl,h1,h2.app g⟩
theorem fV.take:∀ {ds:au D} {vs:au V} (n:Nat),fV φ H ds vs->fV φ H (ds.take n) (vs.take n)
 |_,_,0,_=>rfl
 |[],_,n+1,h=>by rw[show _=[]from h];rfl
 |d::ds,_,n+1,h=>by obtain⟨v,r,rfl,h1,h2⟩:=h;exact⟨v,r.take n,rfl,h1,h2.take n⟩
theorem fV.drop:∀ {ds:au D} {vs:au V} (n:Nat),fV φ H ds vs->fV φ H (ds.drop n) (vs.drop n)
 |_,_,0,h=>h
 |[],_,n+1,h=>by rw[show _=[]from h];rfl
 |d::ds,_,n+1,h=>by obtain⟨v,r,rfl,h1,h2⟩:=h;exact h2.drop n
theorem fV.set (hd:jy φ H d v):∀ {ds:au D} {vs:au V} (n:Nat),fV φ H ds vs->fV φ H (ds.set n d) (vs.set n v)
 |[],_,n,h=>by rw[show _=[]from h];cases n<;>rfl
 |e::ds,_,0,h=>by obtain⟨w,r,rfl,h1,h2⟩:=h;exact⟨v,r,rfl,hd,h2⟩
 |e::ds,_,n+1,h=>by obtain⟨w,r,rfl,h1,h2⟩:=h;exact⟨w,r.set n v,rfl,h1,h2.set hd n⟩
theorem fV.ints:∀ {ns:au Int} {vs:au V},fV φ H (ns.map D.int) vs->vs=ns.map V.int
 |[],_,h=>h
 |n::ns,_,h=>by obtain⟨v,r,rfl,h1,h2⟩:=h;rw[show v=.int n from h1,fV.ints h2];rfl
theorem fV.ofInts:∀ ns:au Int,fV φ H (ns.map D.int) (ns.map V.int)
 |[]=>rfl
 |n::ns=>⟨_,_,rfl,rfl,fV.ofInts ns⟩
theorem fV.bls:∀ {ns:au Bool} {vs:au V},fV φ H (ns.map D.bl) vs->vs=ns.map V.bl
 |[],_,h=>h
 |n::ns,_,h=>by obtain⟨v,r,rfl,h1,h2⟩:=h;rw[show v=.bl n from h1,fV.bls h2];rfl
theorem fV.strs:∀ {ns:au Str} {vs:au V},fV φ H (ns.map D.str) vs->vs=ns.map V.str
 |[],_,h=>h
 |n::ns,_,h=>by obtain⟨v,r,rfl,h1,h2⟩:=h;rw[show v=.str n from h1,fV.strs h2];rfl
def BxF (φ:au ao)(H:Hp)(b:ao):Prop:=∃(q:ao) (ns:au Int) (i r z:Int),H b=some (.lst [.ref q,.int i,.int r,.int z])/\H q=some (.lst<|ns.map V.int)/\q∉φ/\0<=i/\0<=z/\z<2147483647
def XC (p:ao)(c:ar)(h:Heap):Prop:=∃ oe vs,h.get? p=some oe/\oe.cls=c/\oe.dict=none/\oe.data=.fields vs/\vs[2]?=some .none
def yA (φ:au ao)(H:Hp):MO->ao->Prop
 |.box,p=>BxF φ H p
 |.lst ds,p=>∃ vs,H p=some (.lst vs)/\fV φ H ds vs
 |.jS ks ds,p=>∃ fO vs,H p=some (.dK fO)/\fO.map (·.1)=ks/\vs=fO.map (·.2)/\fV φ H ds vs
 |.xn o fO ds,p=>H p=some (.CN o<|.dK fO)/\fV φ H ds (fO.map (·.2))
 |.ins C ns ds,p=>∃ dx fs,H p=some (.ins C dx fs)/\fs.map (·.1)=ns/\fV φ H ds (fs.map (·.2))
 |.nA ks ds,p=>∃ fO,H p=some (.dT fO)/\fO.map (·.1)=ks/\fV φ H ds (fO.map (·.2))
 |.gx lS H0,p=>Fr lS H0 φ H/\H p=H0 p/\(∃ o,H p=some o)/\∀ zs,H p≠some (.tup zs)
 |.exc c,p=>H p=some (.ext<|XC p c)
structure gy (φ:List ao)(H:Hp)(μ:MS):Prop where
 nd:φ.Nodup
 len:φ.length=μ.length
 at_:∀(k:Nat) (m:MO),μ[k]?=some m->∃ p,φ[k]?=some p/\yA φ H m p
theorem yA.mono (f:Fr φ H gO H')(s:∀ o,H p=some o->H' p=some o)(h:yA φ H m p):yA gO H' m p:=by
 cases m with
 |box=>let ⟨q,ns,i,r,z,h1,h2,h3,h4⟩:=h;exact⟨q,ns,i,r,z,s _ h1,f.keep _ _ h3 h2,f.yY h3 h2,h4⟩
 |lst ds=>let ⟨vs,h1,h2⟩:=h;exact⟨vs,s _ h1,h2.mono f⟩
 |jS ks ds=>let ⟨fO,vs,h1,h2,h3,h4⟩:=h;exact⟨fO,vs,s _ h1,h2,h3,h4.mono f⟩
 |xn o fO ds=>exact⟨s _ h.1,h.2.mono f⟩
 |ins C ns ds=>let ⟨dx,fs,h1,h2,h3⟩:=h;exact⟨dx,fs,s _ h1,h2,h3.mono f⟩
 |nA ks ds=>let ⟨fO,h1,h2,h3⟩:=h;exact⟨fO,s _ h1,h2,h3.mono f⟩
 |gx lS H0=>let ⟨h1,h2,⟨o,h3⟩,h4⟩:=h;exact⟨h1.trans f,(s _ h3).trans<|h3.symm.trans h2,⟨o,s _ h3⟩,λzs e=>h4 zs<|h3.trans<|(s _ h3).symm.trans e⟩
 |exc c=>exact s _ h
def yA.ex (h:yA φ H m p):∃ o,H p=some o:=by
 cases m with
 |box=>let ⟨q,ns,i,r,z,h1,_⟩:=h;exact⟨_,h1⟩
 |lst ds=>let ⟨vs,h1,_⟩:=h;exact⟨_,h1⟩
 |jS ks ds=>let ⟨fO,vs,h1,_⟩:=h;exact⟨_,h1⟩
 |xn o fO ds=>exact⟨_,h.1⟩
 |ins C ns ds=>let ⟨dx,fs,h1,_⟩:=h;exact⟨_,h1⟩
 |nA ks ds=>let ⟨fO,h1,_⟩:=h;exact⟨_,h1⟩
 |gx lS H0=>exact h.2.2.1
 |exc c=>exact⟨_,h⟩
theorem gy.same (h:gy φ H μ)(s:iA H H'):gy φ H' μ :=
 ⟨h.nd,h.len,λk m e=>let ⟨p,e1,e2⟩:=h.at_ k m e;⟨p,e1,e2.mono (.same s) λo q=>s _ _ q⟩⟩
def gy.mem (h:gy φ H μ)(hp:p∈φ):∃ o,H p=some o:=by let ⟨k,hk,e⟩:=aJ hp;obtain⟨q,e1,e2⟩:=h.at_ k (μ[k]'(by have:=h.len;lia))<|iD _;rw[iD hk,e]at e1;cases e1;exact e2.ex
def gy.fresh (h:gy φ H μ)(hp:H p=none):p∉φ:=λq=>by let ⟨o,e⟩:=h.mem q;rw[hp]at e;cases e
theorem gy.snoc (h:gy φ H μ)(hp:H p=none)(hm:yA (φ++[p]) (upd H p o) m p):gy (φ++[p]) (upd H p o) (μ++[m])/\Fr φ H (φ++[p]) (upd H p o):=by
 have f1:Fr φ H (φ++[p]) H:=.snoc hp;have f:Fr φ H (φ++[p]) (upd H p o):=⟨f1.ext,λc u hc e=>iA.upd hp _ _ e,λc e=>(iA.upd hp).free e⟩;refine⟨⟨?_,by rw[lP,lP,h.len];rfl,λk n e=>?_⟩,f⟩
 .rw[eP];exact⟨h.nd,by simp,λa ha b hb=>by rw[List.mem_singleton.mp hb];intro z;exact h.fresh hp<|by rwa [<- z]⟩
 .by_cases hk:k<μ.length
  .rw[vd hk]at e;let ⟨q,e1,e2⟩:=h.at_ k n e;exact⟨q,f.get e1,e2.mono f λu eu=>iA.upd hp _ _ eu⟩
  .have Gq:k=μ.length:=by have:=(kB e).1;rw[lP,bx]at this;lia
   subst Gq
   rw[qV (aw _),aZ]at e
   cases e
   exact⟨p,by rw[qV (by rw[h.len];exact aw _),h.len,aZ];rfl,hm⟩
theorem gy.put (h:gy φ H μ)(hk:φ[k]?=some p)(hm:yA φ (upd H p o) m p):gy φ (upd H p o) (μ.set k m):=by
 have hp:=kq hk;have f:Fr φ H φ (upd H p o):=.put hp;refine⟨h.nd,by rw[ck];exact h.len,λj n e=>?_⟩;by_cases hj:k=j
 .subst hj;have hl:k<μ.length:=by have:=(kB hk).1;have:=h.len;lia
  rw[aW hl]at e;cases e;exact⟨p,hk,hm⟩
 .rw[bp hj]at e;let ⟨q,e1,e2⟩:=h.at_ j n e;refine⟨q,e1,e2.mono f λu eu=>?_⟩;rw[gp]
  .exact eu
  .intro z;subst z;have a1:=kB hk;have a2:=kB e1;let ⟨i1,r1⟩:=a1;let ⟨i2,r2⟩:=a2;rcases Nat.lt_or_gt_of_ne hj with z|z
   .exact List.pairwise_iff_getElem.mp h.nd k j i1 i2 z (r1.trans r2.symm)
   .exact List.pairwise_iff_getElem.mp h.nd j k i2 i1 z (r2.trans r1.symm)
def lJ (φ:au ao)(H:Hp)(ρ:DE)(σ:St):Prop:=ρ.length=σ.length/\∀(i:Nat) (d:D),ρ[i]?=some (some d)->∃ v,σ[i]?=some (some v)/\jy φ H d v
theorem lJ.mono (f:Fr φ H gO H')(h:lJ φ H ρ σ):lJ gO H' ρ σ:=⟨h.1,λi d e=>let ⟨v,a,b⟩:=h.2 i d e;⟨v,a,b.mono f⟩⟩
theorem lJ.set (h:lJ φ H ρ σ)(hd:jy φ H d v)(i:Nat):lJ φ H (ρ.set i<|some d) (σ.set i<|some v):=by
 refine⟨by rw[ck,ck];exact h.1,λj e hj=>?_⟩;by_cases pE:i=j
 .subst pE;have hl:i<ρ.length:=by have:=(kB hj).1;rwa [ck]at this
  rw[aW hl]at hj;cases hj;exact⟨v,aW<|by rwa [<- h.1],hd⟩
 .rw[bp pE]at hj;let ⟨u,a,b⟩:=h.2 j e hj;exact⟨u,by rwa [bp pE],b⟩
def lv (μ:MS):D->av (au D)
 |.lst ds=>some ds
 |.mr k=>nP μ k
 |_=>none
def lc:D->au D->MS->Prop
 |.mr k,ds=>λμ=>nP μ k=some ds
 |_,_=>λ_=>True
def kK (M:gy φ H μ)(i:jy φ H d v)(h:lv μ d=some ds):∃ p vs,v=.ref p/\H p=some (.lst vs)/\fV φ H ds vs:=by
 cases d with
 |lst es=>cases h;obtain⟨p,vs,rfl,_,hp,ha⟩:=i;exact⟨p,vs,rfl,hp,ha⟩
 | mr k =>obtain⟨p,hp,rfl⟩:=i;have e:=jP h;let ⟨q,e1,vs,hv,ha⟩:=M.at_ k _ e;rw[hp]at e1;cases e1;exact⟨p,vs,rfl,hv,ha⟩
 |_=>cases h
def qF (M:gy φ H μ)(i:jy φ H d (.ref p))(h:lv μ d=some ds)(f:Fr φ H gO H')(M':gy gO H' fZ)(c:lc d ds fZ):∃ vs,H' p=some (.lst vs)/\fV gO H' ds vs:=by
 cases d with
 |lst es=>cases h;let ⟨p',vs,e,n,hp,ha⟩:=i;cases e;exact⟨vs,f.keep _ _ n hp,ha.mono f⟩
 | mr k =>let ⟨p',hp,e⟩:=i;cases e;let ⟨q,e1,vs,hv,ha⟩:=M'.at_ k _<|jP c;rw[f.get hp]at e1;cases e1;exact⟨vs,hv,ha⟩
 |_=>cases h
def qh (h:lv μ d=some ds):lc d ds μ:=by cases d<;>first|trivial|exact h
abbrev DK:=D->MS->Prop
abbrev De:=DE->MS->DK->Prop
abbrev DA:=DE->MS->(au D->MS->Prop)->Prop
abbrev Dt:=DE->MS->(Bool->MS->Prop)->Prop
def wg (φ:au ao)(H:Hp)(K:DK)(Q:VK):Prop:=∀ d fZ gO v H',K d fZ->Fr φ H gO H'->gy gO H' fZ->jy gO H' d v->Q v H'
def wg.mono {K:DK}(h:wg φ H K Q)(f:Fr φ H gL H1):wg gL H1 K Q:=λd fZ gO v H' k g m i=>h d fZ gO v H' k (f.trans g) m i
def tD (w:De):TE:=λσ H Q=>∃ φ ρ μ K,lJ φ H ρ σ/\gy φ H μ/\w ρ μ K/\wg φ H K Q
def Uy (w:DA):TA:=λσ H Q=>∃ φ ρ μ K,lJ φ H ρ σ/\gy φ H μ/\w ρ μ K/\∀ ds fZ gO vs H',K ds fZ->Fr φ H gO H'->gy gO H' fZ->fV gO H' ds vs->Q vs H'
def yd (w:Dt):TT:=λσ H Q=>∃ φ ρ μ K,lJ φ H ρ σ/\gy φ H μ/\w ρ μ K/\∀ b fZ gO H',K b fZ->Fr φ H gO H'->gy gO H' fZ->Q b H'
section
variable {X:Cx}{a b e:Expr}{pos:Pos}
abbrev PD (X:Cx)(e:Expr)(w:De):Prop:=PE X e (tD w)
def vC (i:Nat):De:=λρ μ K=>match ρ[i]? with|some (some d)=>K d μ|_=>False
def dC (d:D):De:=λ_ μ K=>K d μ
def dv (i:Nat)(hN:X.N[i]?=some x:=by rfl)(hv:Xl X.env.scope x:=by first | exact Or.inl rfl | exact Or.inr (Or.inl rfl) | exact Or.inr<|Or.inr rfl)(hd:(x==("__debug__" : Str))=false:=by decide)
 (EL:(x==("__classdict__" : Str))=false:=by decide):PD X (.Name x pos) (vC i):=(Kw hN hv hd EL).imp λσ H Q q=>by
 let ⟨φ,ρ,μ,K,E,M,w,L⟩:=q;unfold vC at w;split at w
 .rename_i d hd;let ⟨v,e,r⟩:=E.2 i d hd;exact⟨v,e,L d μ φ v H w (.refl _ _) M r⟩
 .exact w.elim
def fM {i j pos}:PD X (.Constant (.int i) j pos) (dC<|.int i):=ip.imp λσ H Q pT=>by obtain⟨φ,ρ,μ,K,E,M,w,L⟩:=pT;exact L _ _ φ _ H w (.refl _ _) M rfl
def nG {b j pos}:PD X (.Constant (.bool b) j pos) (dC<|.bl b):=KH.imp λσ H Q pS=>by obtain⟨φ,ρ,μ,K,E,M,w,L⟩:=pS;exact L _ _ φ _ H w (.refl _ _) M rfl
def xG {j pos}:PD X (.Constant .none j pos) (dC .iC):=Sr.imp λσ H Q qk=>by obtain⟨φ,ρ,μ,K,E,M,w,L⟩:=qk;exact L _ _ φ _ H w (.refl _ _) M rfl
def kC {x j pos}:PD X (.Constant (.str x) j pos) (dC<|.str x):=So.imp λσ H Q rp=>by obtain⟨φ,ρ,μ,K,E,M,w,L⟩:=rp;exact L _ _ φ _ H w (.refl _ _) M rfl
abbrev Dz:=D->D->MS->DK->Prop
def vZ (ro:Dz)(wa wb:De):De:=λρ μ K=>wa ρ μ λx gc=>wb ρ gc λy iP=>ro x y iP K
def qZ (r:R2)(ro:Dz):Prop:=∀ φ H x y dx dy μ K Q,gy φ H μ->jy φ H dx x->jy φ H dy y->ro dx dy μ K->wg φ H K Q->r x y H Q
def FD (so:qZ r ro)(h:tD (vZ ro wa wb) σ H Q):Ve r (tD wa) (tD wb) σ H Q:=by let ⟨φ,ρ,μ,K,E,M,w,L⟩:=h;exact⟨φ,ρ,μ,_,E,M,w,λd1 gc gL v1 H1 k1 f1 M1 i1=>⟨gL,ρ,gc,_,E.mono f1,M1,k1,λd2 iP lg v2 H2 k2 f2 M2 i2=>so lg H2 v1 v2 d1 d2 iP K Q M2 (i1.mono f2) i2 k2<|L.mono<|f1.trans f2⟩⟩
def rX (h:lq X (binaryOp op) r)(so:qZ r ro)(ha:PD X a wa)(hb:PD X b wb):PD X (.BinOp a op b pos) (vZ ro wa wb):=(k9 h ha hb).imp λσ H Q q=>FD so q
def oH (h:lq X (compareOp op) r)(so:qZ r ro)(ha:PD X a wa)(hb:PD X b wb)(hm:behindInMarks op b=false):PD X (.Compare a [op] [b] pos) (vZ ro wa wb):=(vN h ha hb hm).imp λσ H Q q=>FD so q
def d_ix (h:Hk X r)(so:qZ r ro)(ha:PD X a wa)(hb:PD X b wb)(hs:Bs b):PD X (.Subscript a b pos) (vZ ro wa wb):=(qa h ha hb hs).imp λσ H Q q=>FD so q
def pj (w:De):Dt:=λρ μ K=>w ρ μ λd fZ=>match d with|.bl b=>K b fZ|_=>False
def NY (h:yd (pj w) σ H Q):cB (tD w) σ H Q:=by
 let ⟨φ,ρ,μ,K,E,M,k,L⟩:=h;refine⟨φ,ρ,μ,_,E,M,k,λd fZ gO v H' k' f M' i=>?_⟩;cases d with
 |bl b=>cases i;exact L b fZ gO H' k' f M'
 |_=>exact k'.elim
def ic {w:De}(h:PD X e w)(he:∀ whole,isTrue e X.env whole=(do let v <- whole;standAt e.pos;holding [v] (truthy v)):=by intro _;rfl):PT X e (yd<|pj w):=(sP h he).imp λσ H Q q=>NY q
def l9 (h:lq X (compareOp op) r)(so:qZ r ro)(ha:PD X a wa)(hb:PD X b wb)(hm:behindInMarks op b=false):PT X (.Compare a [op] [b] pos) (yd<|pj<|vZ ro wa wb) :=
 (nM h ha hb hm).imp λσ H Q q=>by
  let ⟨φ,ρ,μ,K,E,M,k,L⟩:=q;refine FD so ⟨φ,ρ,μ,_,E,M,k,λd fZ gO v H' k' f M' i=>?_⟩;cases d with
  |bl b=>cases i;exact L b fZ gO H' k' f M'
  |_=>exact k'.elim
def PH (neg:Bool)(w:De):De:=λρ μ K=>w ρ μ λd fZ=>match d with|.iC=>K (.bl<|!neg) fZ|_=>K (.bl neg) fZ
def Ly (i:jy φ H d v):decide (v=V.iC)=(match d with | .iC=>true | _=>false):=by
 cases d with
 |iC=>cases i;rfl
 |bl _=>cases i;rfl
 |int _=>cases i;rfl
 |str _=>cases i;rfl
 |lst _=>obtain⟨p,vs,rfl,_⟩:=i;rfl
 |tup _=>obtain⟨p,vs,rfl,_⟩:=i;rfl
 |jS _ _=>obtain⟨p,fO,vs,rfl,_⟩:=i;rfl
 |mr _=>obtain⟨p,_,rfl⟩:=i;rfl
 |obj _ _ _=>obtain⟨p,dx,fs,vs,rfl,_⟩:=i;rfl
 |uc _ _=>obtain⟨p,dx,fs,vs,rfl,_⟩:=i;rfl
 |fn _=>cases i;rfl
def RQ (h:tD (PH false w) σ H Q):Vg (tD w) σ H Q:=by let ⟨φ,ρ,μ,K,E,M,k,L⟩:=h;refine⟨φ,ρ,μ,_,E,M,k,λd fZ gO v H' k' f M' i=>?_⟩;show Q (.bl _) H';rw[Ly i];cases d<;>exact L _ fZ gO _ H' k' f M' rfl
def NV (h:tD (PH true w) σ H Q):QA (tD w) σ H Q:=by let ⟨φ,ρ,μ,K,E,M,k,L⟩:=h;refine⟨φ,ρ,μ,_,E,M,k,λd fZ gO v H' k' f M' i=>?_⟩;show Q (.bl _) H';rw[Ly i];cases d<;>exact L _ fZ gO _ H' k' f M' rfl
end
section
variable {X:Cx}{a b e:Expr}{es:au Expr}{pos:Pos}
def PA.imp (h:PA X es t)(hi:∀ σ H Q,t' σ H Q->t σ H Q):PA X es t':=λpos fA s σ H Q I q=>h pos fA s σ H Q I (hi σ H Q q)
def Bt.imp {st:au Stmt}(h:Bt X st t)(hi:∀ D σ H,t' D σ H->t D σ H):Bt X st t':=λfA s σ H D I q=>h fA s σ H D I (hi D σ H q)
def II:DA:=λ_ μ K=>K [] μ
def tO (wa:De)(wr:DA):DA:=λρ μ K=>wa ρ μ λx gc=>wr ρ gc λxs iP=>K (x::xs) iP
abbrev we (X:Cx)(es:au Expr)(w:DA):Prop:=PA X es (Uy w)
def iL:we X [] II:=iV.imp λσ H Q uD=>by obtain⟨φ,ρ,μ,K,E,M,w,L⟩:=uD;exact L [] μ φ [] H w (.refl _ _) M rfl
def fK (ha:PD X e wa)(hr:we X es wr)(hs:starEach (e::es) X.env=(false,eval e X.env)::starEach es X.env:=by rfl):we X (e::es) (tO wa wr):=(gg ha hr hs).imp λσ H Q q=>by let ⟨φ,ρ,μ,K,E,M,w,L⟩:=q;exact⟨φ,ρ,μ,_,E,M,w,λd1 gc gL v1 H1 k1 f1 M1 i1=>⟨gL,ρ,gc,_,E.mono f1,M1,k1,λds iP lg vs H2 k2 f2 M2 i2=>L _ iP lg _ H2 k2 (f1.trans f2) M2 ⟨v1,vs,rfl,i1.mono f2,i2⟩⟩⟩
def M8 {K:DK}(L:wg φ H K Q)(M:gy φ H μ)(h:fV φ H ds vs)(k:K (.lst ds) μ)(hp:H p=none):Q (.ref p) (upd H p<|.lst vs) :=
 L _ μ φ _ _ k (.new hp) (M.same<|iA.upd hp) ⟨p,vs,rfl,M.fresh hp,fX,h.mono<|.new hp⟩
def Uj {K:DK}(L:wg φ H K Q)(M:gy φ H μ)(h:fV φ H ds vs)(k:K (.tup ds) μ)(hp:H p=none):Q (.ref p) (upd H p<|.tup vs) :=
 L _ μ φ _ _ k (.new hp) (M.same<|iA.upd hp) ⟨p,vs,rfl,M.fresh hp,fX,h.mono<|.new hp⟩
def Xj {K:DK}(L:wg φ H K Q)(M:gy φ H μ)(h:fV φ H ds vs)(k:K (.mr μ.length) (μ++[.lst ds]))(hp:H p=none):Q (.ref p) (upd H p<|.lst vs):=by have f:Fr φ H (φ++[p]) (upd H p<|.lst vs):=⟨(Fr.snoc hp).ext,λc u _ e=>iA.upd hp _ _ e,λc e=>(iA.upd hp).free e⟩;obtain⟨M',_⟩:=M.snoc (m:=.lst ds) hp ⟨vs,fX,h.mono f⟩;exact L _ _ _ _ _ k f M' ⟨p,by rw[qV (by rw[M.len];exact aw _),M.len,aZ];rfl,rfl⟩
def nL (m:Bool)(ds:au D)(μ:MS)(K:DK):Prop:=match m with|false=>K (.lst ds) μ|true=>K (.mr μ.length) (μ++[.lst ds])
def M7 {K:DK}(L:wg φ H K Q)(M:gy φ H μ)(h:fV φ H ds vs)(k:nL m ds μ K)(hp:H p=none):Q (.ref p) (upd H p<|.lst vs):=by
 cases m with
 |false=>exact M8 L M h k hp
 |true=>exact Xj L M h k hp
def dLst (m:Bool)(w:DA):De:=λρ μ K=>w ρ μ λds gc=>ds.length<=sizeLine/\nL m ds gc K
def dTup (w:DA):De:=λρ μ K=>w ρ μ λds gc=>ds.length<=sizeLine/\K (.tup ds) gc
def mw (m:Bool)(h:we X es w):PD X (.List es pos) (dLst m w):=(Kz h).imp λσ H Q ⟨φ,ρ,μ,K,E,M,w,L⟩ =>⟨φ,ρ,μ,_,E,M,w,λds gc gL vs H1 k1 f1 M1 i1=>⟨by rw[i1.len];exact k1.1,λp hp=>M7 (L.mono f1) M1 i1 k1.2 hp⟩⟩
def nq {x1}(h:we X es w):PD X (.Tuple es x1 pos) (dTup w):=(Sn h).imp λσ H Q ⟨φ,ρ,μ,K,E,M,w,L⟩ =>⟨φ,ρ,μ,_,E,M,w,λds gc gL vs H1 k1 f1 M1 i1=>⟨by rw[i1.len];exact k1.1,λp hp=>Uj (L.mono f1) M1 i1 k1.2 hp⟩⟩
abbrev j4:=au D->MS->DK->Prop
def iB (f:j4):Sp:=λvs H Q _=>∃ φ ds μ K,fV φ H ds vs/\gy φ H μ/\f ds μ K/\wg φ H K Q
def vh (f:j4)(w:DA):De:=λρ μ K=>w ρ μ λds gc=>f ds gc K
def T6 (C:mH X.prog X.w X.K X.mg X.fB x k ps (iB f))(hr:jF k X.A)(hg:Gl X x)(ha:we X (e::es) w)
 (yt:(x==("__debug__" : Str))=false:=by decide) (he:starEach (e::es) X.env=(false,eval e X.env)::starEach es X.env:=by rfl) (ql:(backTo pos<|starEach es X.env).any (·.1)=false:=by rfl):
 PD X (.Call (.Name x p) (e::es) [] pos) (vh f w):=(wN C hr hg ha yt he ql).imp λσ H Q ⟨φ,ρ,μ,K,E,M,w,L⟩=>
 ⟨φ,ρ,μ,_,E,M,w,λds gc gL vs H1 k1 f1 M1 i1=>by show iB f (vs++[]) H1 Q E0;rw[b8];exact⟨gL,ds,gc,K,i1,M1,k1,L.mono f1⟩⟩
def mF (r:au V->Hp->VK->Prop)(f:j4):Prop:=∀ φ H vs ds μ K Q,gy φ H μ->fV φ H ds vs->f ds μ K->wg φ H K Q->r vs H Q
def QD (so:mF r f)(h:tD (vh f w) σ H Q):YN r (Uy w) σ H Q:=by let ⟨φ,ρ,μ,K,E,M,w,L⟩:=h;exact⟨φ,ρ,μ,_,E,M,w,λds gc gL vs H1 k1 f1 M1 i1=>so gL H1 vs ds gc K Q M1 i1 k1<|L.mono f1⟩
def lR {id:String}(hc:jr X (.builtin id) r)(so:mF r f)(hg:Gl X x)(hm:X.mg x=none)(hv:bootBuiltins x=some (.builtin id))(ha:we X (e::es) w)(hn:x ≠ "__name__":=by decide)(yt:(x==("__debug__" : Str))=false:=by decide)
 (he:starEach (e::es) X.env=(false,eval e X.env)::starEach es X.env:=by rfl) (ql:(backTo pos<|starEach es X.env).any (·.1)=false:=by rfl):PD X (.Call (.Name x p) (e::es) [] pos) (vh f w):=
 (iu hc hg hm hv ha hn yt he ql).imp λσ H Q q=>QD so q
def CY (hc:jr X (.type T) r)(so:mF r f)(hg:Gl X x)(hm:X.mg x=none)(hv:bootBuiltins x=some (.type T))(ha:we X (e::es) w)(hn:x ≠ "__name__":=by decide)(yt:(x==("__debug__" : Str))=false:=by decide)
 (he:starEach (e::es) X.env=(false,eval e X.env)::starEach es X.env:=by rfl) (ql:(backTo pos<|starEach es X.env).any (·.1)=false:=by rfl):PD X (.Call (.Name x p) (e::es) [] pos) (vh f w):=
 (yV hc hg hm hv ha hn yt he ql).imp λσ H Q q=>QD so q
abbrev U7:=D->au D->MS->DK->Prop
def Nd (K:aa)(T:String)(r:V->au V->Hp->VK->Prop)(f:U7):Prop:=∀ φ H x vs d ds μ K' Q,gy φ H μ->jy φ H d x->fV φ H ds vs->f d ds μ K'->wg φ H K' Q->r x vs H Q
def U5 (T:String)(μ:MS):D->Prop
 |.str _=>T = "str"
 |.lst _=>T = "list"
 |.jS _ _=>T = "dict"
 |.mr k=>match μ[k]? with|some (.lst _)=>T = "list" | some (.jS _ _)=>T = "dict" | _=>False
 |_=>False
def U5.is (M:gy φ H μ)(i:jy φ H d v)(h:U5 T μ d):Yz Kf T v H:=by
 cases d with
 |str z=>cases i;exact h
 |lst ds=>obtain⟨p,vs,rfl,_,hp,_⟩:=i;exact .inl ⟨h,vs,qu.of hp⟩
 |jS ks ds=>obtain⟨p,fO,vs,rfl,_,hp,_⟩:=i;exact .inr (.inr<|.inl ⟨h,.inl ⟨fO,hp⟩⟩)
 | mr k =>
  obtain⟨p,hp,rfl⟩:=i;unfold U5 at h;dsimp only at h;cases e:μ[k]? with
  |none=>rw[e]at h;exact h.elim
  | some m =>
   let ⟨q,e1,e2⟩:=M.at_ k m e;rw[hp]at e1;cases e1;rw[e]at h;cases m with
   |box=>exact h.elim
   |lst ds=>let ⟨vs,hv,_⟩:=e2;exact .inl ⟨h,vs,qu.of hv⟩
   |jS ks ds=>let ⟨fO,vs,hv,_⟩:=e2;exact .inr (.inr<|.inl ⟨h,.inl ⟨fO,hv⟩⟩)
   |_=>exact h.elim
 |_=>exact h.elim
def dMt (T:String)(f:U7)(wo:De)(w:DA):De:=λρ μ K=>wo ρ μ λx gc=>U5 T gc x/\w ρ gc λds iP=>f x ds iP K
def xH {id:String}(pa:PlainAttrs T)(slot:Slot T name id)(Zu:typeOf (.builtin id)=pure (.type "method_descriptor"))(hm:Ni X id r)(so:Nd X.K T r f)(ho:PD X o wo)(ha:we X (e::es) w)
 (LN:attributeBase o name X.env (eval o X.env)=eval o X.env:=by rfl)
 (Tw:((backTo my<|starEach (e::es) X.env).all (λx=>!x.1)&&(backToKw my<|keywordEach [] X.env).all (λx=>x.1.isSome)
   && decide ((e::es).length+([]:au Keyword).length+(if([]:au Keyword).isEmpty then 0 else 1)<30))=true:=by rfl)
 (LK:(oJ.endLine==my.line)=true:=by rfl) (hs:starEach (e::es) X.env=(false,eval e X.env)::starEach es X.env:=by rfl) (EI:(backTo my<|starEach es X.env).any (·.1)=false:=by rfl):
 PD X (.Call (.Attribute o name oJ) (e::es) [] my) (dMt T f wo w):=(VD pa slot Zu hm ho ha LN Tw LK hs EI).imp λσ H Q q=>by
 let ⟨φ,ρ,μ,K,E,M,w,L⟩:=q;exact⟨φ,ρ,μ,_,E,M,w,λd1 gc gL v1 H1 k1 f1 M1 i1=>⟨U5.is M1 i1 k1.1,⟨gL,ρ,gc,_,E.mono f1,M1,k1.2,λds iP lg vs H2 k2 f2 M2 i2=>so lg H2 v1 vs d1 ds iP K Q M2 (i1.mono f2) i2 k2<|L.mono<|f1.trans f2⟩⟩⟩
def dAnd (wa wb:De):De:=λρ μ K=>wa ρ μ λx gc=>match x with|.bl c=>if c=true then wb ρ gc K else K (.bl false) gc|_=>False
def dOr (wa wb:De):De:=λρ μ K=>wa ρ μ λx gc=>match x with|.bl c=>if c=true then K (.bl true) gc else wb ρ gc K|_=>False
def dNot (wa:De):De:=λρ μ K=>wa ρ μ λx gc=>match x with|.bl c=>K (.bl<|!c) gc|_=>False
def MB {rest:au Expr}(ha:PD X a wa)(hb:PD X (.BoolOp .And (b::rest) pos) wb):PD X (.BoolOp .And (a::b::rest) pos) (dAnd wa wb):=(vO ha hb).imp λσ H Q q=>by
 let ⟨φ,ρ,μ,K,E,M,w,L⟩:=q;refine⟨φ,ρ,μ,_,E,M,w,λd1 gc gL v1 H1 k1 f1 M1 i1=>?_⟩;cases d1 with
 | bl c =>
  cases i1;cases c with
  |true=>exact⟨gL,ρ,gc,_,E.mono f1,M1,k1,L.mono f1⟩
  |false=>exact L _ gc gL _ H1 k1 f1 M1 rfl
 |_=>exact k1.elim
def WR {rest:au Expr}(ha:PD X a wa)(hb:PD X (.BoolOp .Or (b::rest) pos) wb):PD X (.BoolOp .Or (a::b::rest) pos) (dOr wa wb):=(Sq ha hb).imp λσ H Q q=>by
 let ⟨φ,ρ,μ,K,E,M,w,L⟩:=q;refine⟨φ,ρ,μ,_,E,M,w,λd1 gc gL v1 H1 k1 f1 M1 i1=>?_⟩;cases d1 with
 | bl c =>
  cases i1;cases c with
  |false=>exact⟨gL,ρ,gc,_,E.mono f1,M1,k1,L.mono f1⟩
  |true=>exact L _ gc gL _ H1 k1 f1 M1 rfl
 |_=>exact k1.elim
def CZ {op}(h:PD X a w):PD X (.BoolOp op [a] pos) w:=Ej h
def WS (ha:PD X a wa):PD X (.UnaryOp .Not a pos) (dNot wa):=(OC ha).imp λσ H Q q=>by
 let ⟨φ,ρ,μ,K,E,M,w,L⟩:=q;refine⟨φ,ρ,μ,_,E,M,w,λd1 gc gL v1 H1 k1 f1 M1 i1=>?_⟩;cases d1 with
 |bl c=>cases i1;exact L _ gc gL _ H1 k1 f1 M1 rfl
 |_=>exact k1.elim
def dNeg (wa:De):De:=λρ μ K=>wa ρ μ λx gc=>match x with|.int i=>K (.int<|-i) gc|_=>False
def tN (ha:PD X a wa):PD X (.UnaryOp .USub a pos) (dNeg wa):=(VC RK ha).imp λσ H Q q=>by
 let ⟨φ,ρ,μ,K,E,M,w,L⟩:=q;refine⟨φ,ρ,μ,_,E,M,w,λd1 gc gL v1 H1 k1 f1 M1 i1=>?_⟩;cases d1 with
 |int c=>cases i1;exact⟨c,rfl,L _ gc gL _ H1 k1 f1 M1 rfl⟩
 |_=>exact k1.elim
def GN (t u:Dt):Dt:=λρ μ K=>t ρ μ λc gc=>if c=true then u ρ gc K else K false gc
def Ms (t u:Dt):Dt:=λρ μ K=>t ρ μ λc gc=>if c=true then K true gc else u ρ gc K
def Rr (t:Dt):Dt:=λρ μ K=>t ρ μ λc gc=>K (!c) gc
abbrev Jd (X:Cx)(e:Expr)(w:Dt):Prop:=PT X e (yd w)
def NZ (h:yd (GN t u) σ H Q):Vk (yd t) (yd u) σ H Q:=by
 let ⟨φ,ρ,μ,K,E,M,w,L⟩:=h;refine⟨φ,ρ,μ,_,E,M,w,λb gc gL H1 k1 f1 M1=>?_⟩;cases b with
 |true=>exact⟨gL,ρ,gc,_,E.mono f1,M1,k1,λb iP lg H2 k2 f2 M2=>L b iP lg H2 k2 (f1.trans f2) M2⟩
 |false=>exact L _ gc gL H1 k1 f1 M1
def RR (h:yd (Ms t u) σ H Q):tOr (yd t) (yd u) σ H Q:=by
 let ⟨φ,ρ,μ,K,E,M,w,L⟩:=h;refine⟨φ,ρ,μ,_,E,M,w,λb gc gL H1 k1 f1 M1=>?_⟩;cases b with
 |false=>exact⟨gL,ρ,gc,_,E.mono f1,M1,k1,λb iP lg H2 k2 f2 M2=>L b iP lg H2 k2 (f1.trans f2) M2⟩
 |true=>exact L _ gc gL H1 k1 f1 M1
abbrev U6 (X:Cx)(e:Expr)(w:Dt):Prop:=PW X e (yd w)
def PW.imp (h:PW X e t)(hi:∀ σ H Q,t' σ H Q->t σ H Q):PW X e t':=λwh fA s σ H Q I q=>h wh fA s σ H Q I (hi σ H Q q)
def oS (h:Jd X a t):U6 X (.BoolOp .And [a] pos) t:=pw_and1 h
def oq (h:Jd X a t):U6 X (.BoolOp .Or [a] pos) t:=pw_or1 h
def sE {rest:au Expr}(ha:Jd X a t)(hb:U6 X (.BoolOp .And (b::rest) pos) u):U6 X (.BoolOp .And (a::b::rest) pos) (GN t u):=(pw_and ha hb).imp λσ H Q q=>NZ q
def p4 {rest:au Expr}(ha:Jd X a t)(hb:U6 X (.BoolOp .Or (b::rest) pos) u):U6 X (.BoolOp .Or (a::b::rest) pos) (Ms t u):=(pw_or ha hb).imp λσ H Q q=>RR q
def m4 (h:Jd X a t):Jd X (.UnaryOp .Not a pos) (Rr t):=(Sg h).imp λσ H Q q=>by let ⟨φ,ρ,μ,K,E,M,w,L⟩:=q;exact⟨φ,ρ,μ,_,E,M,w,λb gc gL H1 k1 f1 M1=>L _ gc gL H1 k1 f1 M1⟩
def dIf (t:Dt)(wa wb:De):De:=λρ μ K=>t ρ μ λc gc=>if c=true then wa ρ gc K else wb ρ gc K
def My (hc:Jd X c t)(ha:PD X a wa)(hb:PD X b wb):PD X (.IfExp c a b pos) (dIf t wa wb):=(KA hc ha hb).imp λσ H Q q=>by
 let ⟨φ,ρ,μ,K,E,M,w,L⟩:=q;refine⟨φ,ρ,μ,_,E,M,w,λb gc gL H1 k1 f1 M1=>?_⟩;cases b with
 |true=>exact⟨gL,ρ,gc,_,E.mono f1,M1,k1,L.mono f1⟩
 |false=>exact⟨gL,ρ,gc,_,E.mono f1,M1,k1,L.mono f1⟩
def QF (hi:∀ Q,tD w σ H Q->t σ H Q)(h:yd (pj w) σ H Q):tB t σ H Q:=by
 let ⟨φ,ρ,μ,K,E,M,k,L⟩:=h;refine hi _ ⟨φ,ρ,μ,_,E,M,k,λd fZ gO v H' k' f M' i=>?_⟩;cases d with
 |bl b=>cases i;exact⟨b,rfl,L b fZ gO H' k' f M'⟩
 |_=>exact k'.elim
def JO {j pos'}(h:PD X a w):Jd X (.Compare a [.Is] [.Constant .none j pos'] pos) (pj<|PH false w):=(Eg<|Su h).imp λσ H Q q=>QF (λQ q=>RQ q) q
def zW {j pos'}(h:PD X a w):Jd X (.Compare a [.IsNot] [.Constant .none j pos'] pos) (pj<|PH true w):=(Eg<|OF h).imp λσ H Q q=>QF (λQ q=>NV q) q
end
structure DN where
 nx:DE->MS->Prop
 rt:DK
 bk:DE->MS->Prop:=λ_ _=>False
 ct:DE->MS->Prop:=λ_ _=>False
abbrev Ds:=DN->DE->MS->Prop
def RG (φ:au ao)(H:Hp)(k:DE->MS->Prop)(q:St->Hp->Prop):Prop:=∀ kO fZ gO jb H',k kO fZ->Fr φ H gO H'->lJ gO H' kO jb->gy gO H' fZ->q jb H'
def RG.mono (h:RG φ H k q)(f:Fr φ H gL H1):RG gL H1 k q:=λkO fZ gO jb H' a b c d=>h kO fZ gO jb H' a (f.trans b) c d
structure Yq (φ:List ao)(H:Hp)(N:DN)(E:Ends):Prop where
 nx:RG φ H N.nx E.nx
 rt:wg φ H N.rt E.rt
 bk:RG φ H N.bk E.bk
 ct:RG φ H N.ct E.ct
theorem Yq.mono (h:Yq φ H N E)(f:Fr φ H gL H1):Yq gL H1 N E:=⟨h.nx.mono f,h.rt.mono f,h.bk.mono f,h.ct.mono f⟩
def YK (w:Ds):TS:=λE σ H=>∃ φ ρ μ N,lJ φ H ρ σ/\gy φ H μ/\w N ρ μ/\Yq φ H N E
abbrev zE (X:Cx)(st:Stmt)(w:Ds):Prop:=PS X st (YK w)
abbrev Je (X:Cx)(st:au Stmt)(w:Ds):Prop:=Bt X st (YK w)
section
variable {X:Cx}{a b e:Expr}{es:au Expr}{pos:Pos}{st:Stmt}{rest:au Stmt}
def dNx:Ds:=λN ρ μ=>N.nx ρ μ
def dSeq (t u:Ds):Ds:=λN ρ μ=>t { N with nx:=λkO fZ=>u N kO fZ} ρ μ
def dCut (t u:Ds):Ds:=λN ρ μ=>∃ M:DE->MS->Prop,t { N with nx:=M} ρ μ/\∀ kO fZ,M kO fZ->u N kO fZ
def hZ:Je X [] dNx:=nN.imp λE σ H tE=>by obtain⟨φ,ρ,μ,N,A,M,w,L⟩:=tE;exact L.nx ρ μ φ σ H w (.refl _ _) A M
def fG (h1:zE X st t)(h2:Je X rest u):Je X (st::rest) (dSeq t u):=(iU h1 h2).imp λE σ H ⟨φ,ρ,μ,N,A,M,w,L⟩ =>⟨φ,ρ,μ,_,A,M,w,⟨λkO fZ gO jb H' k f A' M'=>⟨gO,kO,fZ,N,A',M',k,L.mono f⟩,L.rt,L.bk,L.ct⟩⟩
def Hb (h1:zE X st t)(h2:Je X rest u):Je X (st::rest) (dCut t u):=(iU h1 h2).imp λE σ H ⟨φ,ρ,μ,N,A,M,⟨P,w1,w2⟩,L⟩ =>⟨φ,ρ,μ,_,A,M,w1,⟨λkO fZ gO jb H' k f A' M'=>⟨gO,kO,fZ,N,A',M',w2 kO fZ k,L.mono f⟩,L.rt,L.bk,L.ct⟩⟩
def fP (h:zE X st t):Je X [st] t:=lE h
def W8 (w:De):Ds:=λN ρ μ=>w ρ μ λ_ fZ=>N.nx ρ fZ
def wG (h:PD X e w)(hs:swapsWith e none pos.line X.env=pure false:=by rfl):zE X (.Expr e pos) (W8 w):=(Ou h hs).imp λE σ H qU=>by obtain⟨φ,ρ,μ,N,A,M,w,L⟩:=qU;exact⟨φ,ρ,μ,_,A,M,w,λd gc gL v1 H1 k1 f1 M1 i1=>L.nx ρ gc gL σ H1 k1 f1 (A.mono f1) M1⟩
def WV (w:De):Ds:=λN ρ μ=>w ρ μ N.rt
def f9 (h:PD X e w):zE X (.Return (some e) pos) (WV w):=(n8 h).imp λE σ H pT=>by obtain⟨φ,ρ,μ,N,A,M,w,L⟩:=pT;exact⟨φ,ρ,μ,_,A,M,w,L.rt⟩
def Ua (c:Dt)(t u:Ds):Ds:=λN ρ μ=>c ρ μ λb gc=>if b=true then t N ρ gc else u N ρ gc
def ji (hc:Jd X c t)(h1:Je X body u)(h2:Je X orelse v):zE X (.If c body orelse pos) (Ua t u v):=(uZ hc h1 h2).imp λE σ H ⟨φ,ρ,μ,N,A,M,w,L⟩ =>
 ⟨φ,ρ,μ,_,A,M,w,λb gc gL H1 k1 f1 M1=>by
  cases b with
  |true=>exact⟨gL,ρ,gc,N,A.mono f1,M1,k1,L.mono f1⟩
  |false=>exact⟨gL,ρ,gc,N,A.mono f1,M1,k1,L.mono f1⟩⟩
def MC (i:Nat)(w:De):Ds:=λN ρ μ=>w ρ μ λd fZ=>N.nx (ρ.set i<|some d) fZ
def Vt (hN:X.N.Nodup)(hi:X.N[i]?=some x)(hx:Loc X.env.scope x)(he:PD X e w)(hf:X.fn x=true\/X.env.scope.names.lookup x=some .local:=by first | exact .inl rfl | exact .inr rfl | assumption)
 (LF:swapsWith e (some<|.Name x pos') pos.line X.env=pure false:=by rfl):zE X (.Assign [.Name x pos'] e pos) (MC i w):=(uv (pos':=pos') hN hi hx he LF hf).imp λE σ H ⟨φ,ρ,μ,N,A,M,w,L⟩=>
 ⟨φ,ρ,μ,_,A,M,w,λd gc gL v1 H1 k1 f1 M1 i1=>L.nx _ gc gL _ H1 k1 f1 ((A.mono f1).set i1 i) M1⟩
abbrev DG:=D->DE->MS->(DE->MS->Prop)->Prop
abbrev XD:=au D->DE->MS->(DE->MS->Prop)->Prop
def Nf (g:TG)(w:DG)(S:au Nat):Prop:=∀ φ H ρ σ μ d v K,lJ φ H ρ σ->gy φ H μ->jy φ H d v->w d ρ μ K->g v σ H λoM H2=>H2=H/\oM.length=σ.length/\(∀ i,i∉S->oM[i]?=σ[i]?)/\∃ oh,lJ φ H oh oM/\K oh μ
def Qi (g:Hf)(w:XD)(S:au Nat):Prop:=∀ φ H ρ σ μ ds vs K,lJ φ H ρ σ->gy φ H μ->fV φ H ds vs->w ds ρ μ K->g vs σ H λoM H2=>H2=H/\oM.length=σ.length/\(∀ i,i∉S->oM[i]?=σ[i]?)/\∃ oh,lJ φ H oh oM/\K oh μ
def pO (g:TG):Prop:=∀ v σ H Q Q',(∀ jb H',Q jb H'->Q' jb H')->g v σ H Q->g v σ H Q'
def xV (g:Hf):Prop:=∀ v σ H Q Q',(∀ jb H',Q jb H'->Q' jb H')->g v σ H Q->g v σ H Q'
def Ba (i:Nat):DG:=λd ρ μ K=>K (ρ.set i<|some d) μ
def WM (n:Nat)(t:XD):DG:=λd ρ μ K=>match d with|.tup ds=>ds.length=n/\t ds ρ μ K|_=>False
def TX (t:DG)(u:XD):XD:=λds ρ μ K=>match ds with|d::r=>t d ρ μ λkO fZ=>u r kO fZ K|[]=>False
def WN:XD:=λds ρ μ K=>match ds with|[]=>K ρ μ|_=>False
def fR (i:Nat):Nf (tG i) (Ba i) [i]:=λφ H ρ σ μ d v K E M h w=>⟨rfl,ck,λj hj=>bp λz=>hj<|by simp[z],_,E.set h i,w⟩
def fC (i:Nat):pO (tG i):=λv σ H Q Q' h q=>h _ _ q
def iK:Qi PZ WN []:=λφ H ρ σ μ ds vs K E M h w=>by
 cases ds with
 |nil=>cases h;exact⟨rfl,rfl,λ_ _=>rfl,ρ,E,w⟩
 |cons d r=>exact w.elim
def fN:xV PZ:=λv σ H Q Q' h q=>by
 cases v with
 |nil=>exact h _ _ q
 |cons x r=>exact q
def fH (h1:pO g)(h2:xV u):xV (G5 g u):=λv σ H Q Q' h q=>by
 cases v with
 |nil=>exact q
 |cons x r=>exact h1 _ _ _ _ _ (λjb H' q'=>h2 _ _ _ _ _ h q') q
def ib (h2:xV u):pO (PY n u):=λv σ H Q Q' h q=>by
 cases v with
 |ref a=>let ⟨xs,e,l,q⟩:=q;exact⟨xs,e,l,h2 _ _ _ _ _ h q⟩
 |_=>exact q
def fS (h1:Nf g w S)(m1:pO g)(h2:Qi u y T)(m2:xV u):Qi (G5 g u) (TX w y) (S++T):=λφ H ρ σ μ ds vs K E M h k=>by
 cases ds with
 |nil=>exact k.elim
 | cons d r =>obtain⟨v,vr,rfl,hd,hr⟩:=h;refine m1 _ _ _ _ _ (λQr H1 pS=>?_)<|h1 φ H ρ σ μ d v _ E M hd k;obtain⟨e1,l1,n1,ρ1,E1,k1⟩:=pS;subst e1;refine m2 _ _ _ _ _ (λoM H2 qk=>?_)<|h2 φ H1 ρ1 Qr μ r vr K E1 M hr k1;obtain⟨e2,l2,n2,oh,E2,k2⟩:=qk;refine⟨e2,l2.trans l1,λi hi=>?_,oh,E2,k2⟩;rw[n2 i (λz=>hi<|aU _ z),n1 i (λz=>hi<|dP _ z)]
def iJ (h2:Qi u y S):Nf (PY n u) (WM n y) S:=λφ H ρ σ μ d v K E M h k=>by
 cases d with
 | tup ds =>obtain⟨p,vs,rfl,hn,hp,ha⟩:=h;exact⟨vs,hp,by rw[ha.len];exact k.1,h2 φ H ρ σ μ ds vs K E M ha k.2⟩
 |_=>exact k.elim
structure Tg (X:Cx)(tg:Expr)(g:TG)(w:DG)(S:List Nat):Prop where
 pg:PG X tg g
 so:Nf g w S
 mo:pO g
def dAsg (w:De)(g:DG):Ds:=λN ρ μ=>w ρ μ λd gc=>g d ρ gc N.nx
def J0 (he:PD X e w)(hg:Tg X tg g y S)(hs:swapsWithSole [tg] e pos.line X.env=pure false:=by rfl)(hw:swappedStores [tg] e X.env=pure none:=by rfl)
 (h1:(assignEach [tg] X.env).map (·.2)=[assign tg X.env]:=by rfl):zE X (.Assign [tg] e pos) (dAsg w y):=(uw he hg.pg hs hw h1).imp λE σ H ⟨φ,ρ,μ,N,A,M,w,L⟩=>
 ⟨φ,ρ,μ,_,A,M,w,λd gc gL v1 H1 k1 f1 M1 i1=>hg.mo _ _ _ _ _ (λoM H2 ⟨e2,_,_,oh,E2,k2⟩=>by subst e2;exact L.nx oh gc gL oM _ k2 f1 E2 M1)<|hg.so gL H1 ρ σ gc d v1 _ (A.mono f1) M1 i1 k1⟩
def Xm (t:Fj)(w:D->D->D->MS->(MS->Prop)->Prop):Prop:=∀ φ H o i v dO di d μ K Q,gy φ H μ->jy φ H dO o->jy φ H di i->jy φ H d v->w dO di d μ K->(∀ fZ H',K fZ->Fr φ H φ H'->gy φ H' fZ->Q H')->t o i v H Q
def Mt:D->D->D->MS->(MS->Prop)->Prop:=λo i d μ K=>match o,i with
 |.mr k,.int j=>opt (nP μ k) λds=>opt (EE ds.length j) λn=>K (μ.set k<|.lst<|ds.set n d)
 |_,_=>False
def RX:Xm J9 Mt:=λφ H o i v dO di d μ K Q M hO hi hd w q=>by
 unfold Mt at w;split at w
 .rename_i k j;let ⟨ds,em,w⟩:=iz w;have em:=jP em;obtain⟨p,hp,rfl⟩:=hO;cases hi;let ⟨p',e1,vs,hv,ha⟩:=M.at_ k _ em;rw[hp]at e1;cases e1;let ⟨n,en,w⟩:=iz w;refine⟨vs,hv,fF (by rwa [ha.len]) ?_⟩;have f:Fr φ H φ (upd H p<|.lst<|vs.set n v):=.put<|kq hp;exact q _ _ w f (M.put hp ⟨_,fX,(ha.set hd n).mono f⟩)
 .exact w.elim
def Xc (w wo wi:De):Ds:=λN ρ μ=>w ρ μ λd gc=>wo ρ gc λo iP=>wi ρ iP λi t9=>Mt o i d t9 λNn=>N.nx ρ Nn
def R7 {o i:Expr}{w wo wi:De}{pos':Pos}(he:PD X e w)(ho:PD X o wo)(hi:PD X i wi)
 (ha:∀ v,assign (.Subscript o i pos') X.env v=(do
   let ov <- holding [v] (eval o X.env)
   let iv <- holding [v,ov] (eval i X.env)
   standAt pos'
   holding [v,ov,iv] (setItem ov iv v)
   release [v,ov,iv] []):=by intro _;rfl) (hs:swapsWithSole [.Subscript o i pos'] e pos.line X.env=pure false:=by rfl) (hw:swappedStores [.Subscript o i pos'] e X.env=pure none:=by rfl)
 (h1:(assignEach [.Subscript o i pos'] X.env).map (·.2)=[assign (.Subscript o i pos') X.env]:=by rfl):zE X (.Assign [.Subscript o i pos'] e pos) (Xc w wo wi):=(uw he (wM ho hi setC ha) hs hw h1).imp λE σ H hq=>by
 obtain⟨φ,ρ,μ,N,A,M,w,L⟩:=hq;exact⟨φ,ρ,μ,_,A,M,w,λd gc gL v1 H1 k1 f1 M1 i1=>⟨gL,ρ,gc,_,A.mono f1,M1,k1,λd2 iP lg v2 H2 k2 f2 M2 i2=>⟨lg,ρ,iP,_,A.mono<|f1.trans f2,M2,k2,λd3 t9 Ho v3 H3 k3 f3 M3 i3=>RX Ho H3 _ _ _ d2 d3 d t9 _ _ M3 (i2.mono f3) i3 (i1.mono<|f2.trans f3) k3 λfZ H' k4 f4 M4=>L.nx ρ fZ Ho σ H' k4 ((f1.trans<|f2.trans f3).trans f4) (A.mono<|(f1.trans<|f2.trans f3).trans f4) M4⟩⟩⟩
def Xn (t:RD)(ro:Dz):Prop:=∀ φ H x y dx dy μ K Q,gy φ H μ->jy φ H dx x->jy φ H dy y->ro dx dy μ K->wg φ H K Q->t x y H Q
def Xa (i:Nat)(w:De)(ro:Dz):Ds:=λN ρ μ=>match ρ[i]? with|some (some x)=>w ρ μ λy gc=>ro x y gc λz iP=>N.nx (ρ.set i<|some z) iP|_=>False
def B5 (hN:X.N.Nodup)(hi:X.N[i]?=some x)(hx:Loc X.env.scope x)(he:PD X e w)(ho:Um X op ti)(so:Xn ti ro)(hf:X.fn x=true\/X.env.scope.names.lookup x=some .local:=by first | exact .inl rfl | exact .inr rfl | assumption):
 zE X (.AugAssign (.Name x pos') op e pos) (Xa i w ro):=(Sj (pos':=pos') hN hi hx he ho hf).imp λE σ H hq=>by
 obtain⟨φ,ρ,μ,N,A,M,w,L⟩:=hq;unfold Xa at w;split at w
 .rename_i d hd;let ⟨v,hv,ZY⟩:=A.2 i d hd;exact⟨v,hv,φ,ρ,μ,_,A,M,w,λd1 gc gL v1 H1 k1 f1 M1 i1=>so gL H1 _ _ d d1 gc _ _ M1 (ZY.mono f1) i1 k1 λd2 iP lg v2 H2 k2 f2 M2 i2=>L.nx _ iP lg _ H2 k2 (f1.trans f2) ((A.mono<|f1.trans f2).set i2 i) M2⟩
 .exact w.elim
def T7 (c:Dt)(b:Ds):Ds:=λN ρ μ=>∃ W:Nat->DE->MS->Prop,(∃ m,W m ρ μ)/\∀ m ρ μ,W m ρ μ ->
 c ρ μ λt gc=>if t=true then b { N with nx:=λkO fZ=>∃ m',m'<m/\W m' kO fZ,ct:=λkO fZ=>∃ m',m'<m/\W m' kO fZ,bk:=N.nx} ρ gc else N.nx ρ gc
def Ae (hp:PassesOwn (model X.prog X.w) X.A X.env X.xe)(hc:Jd X c t)(hb:Je X body u):zE X (.While c body [] pos) (T7 t u):=(Kq hp hc hb).imp λE σ H ⟨φ,ρ,μ,N,A,M,⟨W,⟨m0,w0⟩,turn⟩,L⟩=>by
 refine⟨λm jb H'=>∃ gO kO fZ,Fr φ H gO H'/\lJ gO H' kO jb/\gy gO H' fZ/\W m kO fZ,⟨m0,φ,ρ,μ,.refl _ _,A,M,w0⟩,?_⟩;rintro m jb H' ⟨gO,kO,fZ,f',A',M',w'⟩;refine⟨gO,kO,fZ,_,A',M',turn m kO fZ w',λb gc gL H1 k1 f1 M1=>?_⟩;cases b with
 | true =>refine⟨λoM H2=>∃ m',m'<m/\∃ lg oh iP,Fr φ H lg H2/\lJ lg H2 oh oM/\gy lg H2 iP/\W m' oh iP,λoM H2 q=>q,gL,kO,gc,_,A'.mono f1,M1,k1,?_⟩;have nx:RG gL H1 (λkO fZ=>∃ m',m'<m/\W m' kO fZ) λoM H2=>∃ m',m'<m/\∃ lg oh iP,Fr φ H lg H2/\lJ lg H2 oh oM/\gy lg H2 iP/\W m' oh iP:=λoh iP lg oM H2 ⟨m',hm,w2⟩ f2 A2 M2=>⟨m',hm,lg,oh,iP,(f'.trans f1).trans f2,A2,M2,w2⟩;exact⟨nx,L.rt.mono<|f'.trans f1,L.nx.mono<|f'.trans f1,nx⟩
 |false=>exact L.nx kO gc gL jb H1 k1 (f'.trans f1) (A'.mono f1) M1
def Wk (J:It)(φ:au ao)(H:Hp)(ds:au D)(c:MS->Prop):Prop:=∀ gO H' fZ,Fr φ H gO H'->gy gO H' fZ->c fZ->∀ i,
 (∀ d,ds[i]?=some d->J.go i H'/\∀ x Ql,J.JB i H' x Ql->Fr gO H' gO Ql/\gy gO Ql fZ/\jy gO Ql d x)/\(i=ds.length->J.stop i H')
abbrev DI:=DE->MS->(au D->(MS->Prop)->MS->Prop)->Prop
def YL (w:DI):TI:=λσ H R=>∃ φ ρ μ K,lJ φ H ρ σ/\gy φ H μ/\w ρ μ K/\∀ ds c fZ gO J H',K ds c fZ->Fr φ H gO H'->gy gO H' fZ->Wk J gO H' ds c->R J H'
abbrev Hj (X:Cx)(tg iter:Expr)(w:DI):Prop:=PI X tg iter (YL w)
def PI.imp (h:PI X tg iter t)(hi:∀ σ H Q,t' σ H Q->t σ H Q):PI X tg iter t':=λfA s σ H Q I q=>h fA s σ H Q I (hi σ H Q q)
def AL (g:DG)(b:Ds)(N:DN)(c:MS->Prop):au D->DE->MS->Prop
 |[],ρ,μ=>c μ/\N.nx ρ μ
 |d::ds,ρ,μ=>c μ/\g d ρ μ λoh iP=>b { N with nx:=λkO fZ=>AL g b N c ds kO fZ,ct:=λkO fZ=>AL g b N c ds kO fZ,bk:=N.nx} oh iP
def dFor (wi:DI)(g:DG)(b:Ds):Ds:=λN ρ μ=>wi ρ μ λds c gc=>AL g b N c ds ρ gc
def k8 {tg iter:Expr}{body:au Stmt}{wi:DI}{g:TG}{y:DG}{S:au Nat}{u:Ds}(hp:PassesOwn (model X.prog X.w) X.A X.env X.xe)(hc:X.gH=true)(hi:Hj X tg iter wi)(hg:Tg X tg g y S)(hb:Je X body u)
 (hs:∀ x,foldedSetIterable iter X.env x=pure x:=by intro _;rfl):zE X (.For tg iter body [] pos) (dFor wi y u):=(Sh hp hc hi hg.pg hb hs).imp λE σ H hq=>by
 obtain⟨φ,ρ,μ,N,A,M,w,L⟩:=hq;refine⟨φ,ρ,μ,_,A,M,w,λds c gc gL J H1 k1 f1 M1 wk=>⟨λi m jb H'=>m=ds.length - i/\i<=ds.length/\∃ gO kO fZ,Fr gL H1 gO H'/\lJ gO H' kO jb/\gy gO H' fZ/\AL y u N c (ds.drop i) kO fZ,⟨ds.length,rfl,bA _,gL,ρ,gc,.refl _ _,A.mono f1,M1,k1⟩,?_⟩⟩;rintro i m jb H' ⟨rfl,hi,gO,kO,fZ,f',A',M',w'⟩;by_cases mv:i<ds.length
 .rw[bL mv]at w';let ⟨c',w'⟩:=w';let ⟨go,JB⟩:=(wk gO H' fZ f' M' c' i).1 ds[i]<|iD mv;refine .inr ⟨go,λoM H2=>∃ lg oh iP,Fr gL H1 lg H2/\lJ lg H2 oh oM/\gy lg H2 iP/\AL y u N c (ds.drop<|i+1) oh iP,λoM H2 q=>⟨ds.length - (i+1),by lia,rfl,mv,q⟩,λx H2 hy=>?_⟩;let ⟨f2,M2,i2⟩:=JB x H2 hy;refine hg.mo _ _ _ _ _ (λFt H3 pT=>?_)<|hg.so gO H2 kO jb fZ _ x _ (A'.mono f2) M2 i2 w';obtain⟨e3,_,_,Qs,E3,k3⟩:=pT;subst e3;refine⟨gO,Qs,fZ,_,E3,M2,k3,?_⟩;have nx:RG gO H3 (λkO fZ=>AL y u N c (ds.drop<|i+1) kO fZ) λoM H2=>∃ lg oh iP,Fr gL H1 lg H2/\lJ lg H2 oh oM/\gy lg H2 iP/\AL y u N c (ds.drop<|i+1) oh iP:=λoh iP lg oM H2 w2 g2 A2 N2=>⟨lg,oh,iP,(f'.trans f2).trans g2,A2,N2,w2⟩;have ff:=f1.trans<|f'.trans f2;exact⟨nx,L.rt.mono ff,L.nx.mono ff,nx⟩
 .have e:i=ds.length:=by lia
  subst e
  rw[List.drop_length]at w'
  exact .inl ⟨(wk gO H' fZ f' M' w'.1 _).2 rfl,L.nx kO fZ gO jb H' w'.2 (f1.trans f') A' M'⟩
end
def rG (js:au (av Nat))(ρ:DE):DE:=js.map λo=>o.bind λj=>(ρ[j]?).join
theorem lJ.iQ {φ:au ao}{H:Hp}{ρ:DE}{σ:St}(h:lJ φ H ρ σ)(js:au (av Nat)):lJ φ H (rG js ρ) (iQ js σ):=by
 refine⟨by unfold rG L2.iQ;rw[gP,gP],λi d e=>?_⟩;unfold rG at e;rw[mS]at e;unfold L2.iQ;rw[mS];cases q:js[i]? with
 |none=>rw[q]at e;cases e
 | some o =>
  rw[q]at e;cases o with
  |none=>cases e
  | some j =>
   have e':(ρ[j]?).join=some d:=aK e;have e2:ρ[j]?=some (some d):=by
    cases z:ρ[j]? with
    |none=>rw[z]at e';cases e'
    |some y=>rw[z]at e';have:y=some d:=e';rw[this]
   obtain⟨v,hv,hd⟩:=h.2 j d e2;refine⟨v,?_,hd⟩;show some ((σ[j]?).join)=_;rw[hv];rfl
def Rx (ρ:DE)(y:DG)(t:Dt)(w:De)(d:D)(μ:MS)(K:av D->MS->Prop):Prop:=y d ρ μ λoh iP=>t oh iP λb t9=>if b=true then w oh t9 (λz Nn=>K (some z) Nn)else K none t9
def rq (it:D->MS->(av D->MS->Prop)->Prop)(c:MS->Prop):au D->MS->(au D->MS->Prop)->Prop
 |[],μ,K=>c μ/\K [] μ
 |d::ds,μ,K=>c μ/\it d μ λo gc=>rq it c ds gc λys iP=>K (o.toList++ys) iP
def rg (S:au Nat)(js:au (av Nat)):Bool:=S.all λi=>js[i]?==some none
def Me (ho:rg S js=true)(hl:oM.length=(iQ js σ).length)(hn:∀ i,i∉S->oM[i]?=(iQ js σ)[i]?):Ext (iQ js σ) oM:=by
 refine⟨hl.symm,λi v e=>?_⟩;by_cases hi:i∈S
 .have q:=List.all_eq_true.mp ho i hi;have q':js[i]?=some none:=by simpa using q
  let ⟨j,e1,_⟩:=xj e;rw[q']at e1;cases e1
 .rwa [hn i hi]
def xJ (m:Bool)(wi:DI)(js:au (av Nat))(y:DG)(t:Dt)(w:De):De:=λρ μ K=>wi ρ μ λds c gc=>ds.length<=sizeLine/\rq (Rx (rG js ρ) y t w) c ds gc λys iP=>nL m ys iP K
def FE (so:Nf g y S)(mo:pO g)(ho:rg S js=true)(h:tD (xJ m wi js y t w) σ H Q):JR (YL wi) js g (yd t) (tD w) σ H Q:=by
 let ⟨φ,ρ,μ,K,A,M,k,L⟩:=h;refine⟨φ,ρ,μ,_,A,M,k,λds c gc gL J H1 k1 f1 M1 wk=>?_⟩;let ⟨hz,k1⟩:=k1;refine⟨λi n ys H'=>n=ds.length - i/\i<=ds.length/\ys.length<=i/\∃ gO zs fZ,Fr gL H1 gO H'/\fV gO H' zs ys/\gy gO H' fZ/\rq (Rx (rG js ρ) y t w) c (ds.drop i) fZ λr iP=>nL m (zs++r) iP K,
  ⟨ds.length,rfl,bA _,bA _,gL,[],gc,.refl _ _,rfl,M1,k1⟩,?_⟩
 rintro i n ys H' ⟨rfl,hi,hy,gO,zs,fZ,f',Z',M',w'⟩;by_cases mv:i<ds.length
 .rw[bL mv]at w';obtain⟨c',w'⟩:=w';obtain⟨go,JB⟩:=(wk gO H' fZ f' M' c' i).1 ds[i]<|iD mv;refine .inr ⟨go,λx H2 Jk=>?_⟩;obtain⟨f2,M2,i2⟩:=JB x H2 Jk;have E2:=((A.mono<|f1.trans<|f'.trans f2).iQ js);refine mo _ _ _ _ _ (λFt H3 pS=>?_)<|so gO H2 _ _ fZ _ x _ E2 M2 i2 w';obtain⟨e3,l3,n3,Qs,E3,k3⟩:=pS;refine⟨Me ho l3 n3,?_⟩;subst e3;refine⟨gO,Qs,fZ,_,E3,M2,k3,λb Nn U8 H4 k4 f4 M4=>?_⟩;have ff:=f'.trans<|f2.trans f4;cases b with
  | true =>
   refine⟨U8,Qs,Nn,_,E3.mono f4,M4,k4,λd5 U9 Yu v5 H5 k5 f5 M5 i5=>⟨by lia,ds.length - (i+1),by lia,rfl,mv,by rw[lP,bx];lia,Yu,zs++[d5],U9,ff.trans f5,(Z'.mono<|f2.trans<|f4.trans f5).app ⟨v5,[],rfl,i5,rfl⟩,M5,?_⟩⟩;have e:(λr iP=>nL m (zs++[d5]++r) iP K)=λr iP=>nL m (zs++((some d5).toList++r)) iP K:=by funext r iP;rw[bq];rfl
   rwa [e]
  | false =>exact⟨ds.length - (i+1),by lia,rfl,mv,by lia,U8,zs,Nn,ff,Z'.mono<|f2.trans f4,M4,k4⟩
 .have e:i=ds.length:=by lia
  subst e
  rw[List.drop_length]at w'
  refine .inl ⟨(wk gO H' fZ f' M' w'.1 _).2 rfl,λp hp=>?_⟩
  have q:nL m (zs++[]) fZ K:=w'.2
  rw[b8]at q
  exact M7 (L.mono<|f1.trans f') M' Z' q hp
section
variable {X:Cx}{a b e:Expr}{es:au Expr}{pos:Pos}
variable {N:au Str}{js:au (av Nat)}{sc:Scope}{tg elt iter:Expr}{ifs:au Expr}{g:TG}{y:DG}{S:au Nat}{t:Dt}{w:De}
abbrev Bu (X:Cx)(ifs:au Expr)(t:Dt):Prop:=Ng X ifs (yd t)
def Ng.imp {t:TT}(h:Ng X ifs t)(hi:∀ σ H Q,t' σ H Q->t σ H Q):Ng X ifs t':=λfA s σ H Q I q=>h fA s σ H Q I (hi σ H Q q)
def dYes:Dt:=λ_ μ K=>K true μ
def ig:Bu X [] dYes:=FU.imp λσ H Q qk=>by obtain⟨φ,ρ,μ,K,A,M,k,L⟩:=qk;exact L true μ φ H k (.refl _ _) M
def rD (h:Jd X c t):Bu X [c] t:=Oq h
def T5 (m:Bool){wi:DI}(hc:kh X N js sc)(gH:X.gH=true)(so:Nf g y S)(mo:pO g)(ho:rg S js=true)(hi:Hj X tg iter wi)(hg:∀ fp s H,PG (oj X N sc fp s H) tg g)(ht:∀ fp s H,Bu (oj X N sc fp s H) ifs t)(he:∀ fp s H,PD (oj X N sc fp s H) elt w)
 (hs:∀ x,foldedSetIterable iter X.env x=pure x:=by intro _;rfl):PD X (.ListComp elt [⟨tg,iter,ifs,0⟩] sc pos) (xJ m wi js y t w):=(FZ hc gH hi hg ht he hs).imp λσ H Q q=>FE so mo ho q
def HC (m:Bool){wi:DI}{pos' ye:Pos}{i:Nat}{x:Str}(hc:kh X N js sc)(gH:X.gH=true)(so:Nf g y S)(mo:pO g)(ho:rg S js=true)(hN:X.N.Nodup)(yr:X.N[i]?=some x)(hx:Loc X.env.scope x)(hi:Hj X tg iter wi)(hg:∀ fp s H,PG (oj X N sc fp s H) tg g)
 (ht:∀ fp s H,Bu (oj X N sc fp s H) ifs t) (he:∀ fp s H,PD (oj X N sc fp s H) elt w) (LF:swapsWith (.ListComp elt [⟨tg,iter,ifs,0⟩] sc pos) (some<|.Name x pos') ye.line X.env=pure true:=by rfl)
 (hs:∀ x,foldedSetIterable iter X.env x=pure x:=by intro _;rfl) (hf:X.fn x=true\/X.env.scope.names.lookup x=some .local:=by first|exact .inl rfl|exact .inr rfl|assumption):
 zE X (.Assign [.Name x pos'] (.ListComp elt [⟨tg,iter,ifs,0⟩] sc pos) ye) (MC i<|xJ m wi js y t w):=(Eh hc gH hN yr hx hi hg ht he LF hs hf).imp λE σ H ⟨φ,ρ,μ,N,A,M,w,L⟩=>
 FE so mo ho ⟨φ,ρ,μ,_,A,M,w,λd gc gL v1 H1 k1 f1 M1 i1=>L.nx _ gc gL _ H1 k1 f1 ((A.mono f1).set i1 i) M1⟩
def dItL (w:De):DI:=λρ μ K=>w ρ μ λd gc=>opt (lv gc d) λds=>K ds (lc d ds) gc
def NO (h:∀ gO H' fZ,Fr φ H gO H'->gy gO H' fZ->c fZ->∃ vs,H' p=some (.lst vs)/\fV gO H' ds vs):Wk (Itl Kf p) φ H ds c:=λgO H' fZ f M c' i=>by let ⟨vs,hp,ha⟩:=h gO H' fZ f M c';refine⟨λd hd=>?_,λhi=>⟨vs,qu.of hp,by rw[ha.len,hi];exact aw _⟩⟩;let ⟨v,hv,hi⟩:=ha.get hd;refine⟨⟨vs,v,qu.of hp,hv⟩,λx Ql hy=>?_⟩;let ⟨rfl,hy⟩:=hy;have e:=hy vs<|qu.of hp;rw[hv]at e;cases e;exact⟨.refl _ _,M,hi⟩
def jc (h:PD X a w):Hj X tg a (dItL w):=(Oz h).imp λσ H Q hq=>by obtain⟨φ,ρ,μ,K,A,M,k,L⟩:=hq;refine⟨φ,ρ,μ,_,A,M,k,λd gc gL v1 H1 k1 f1 M1 i1=>?_⟩;let ⟨ds,el,k1⟩:=iz k1;obtain⟨p,vs,rfl,hp,ha⟩:=kK M1 i1 el;exact⟨p,rfl,⟨vs,qu.of hp⟩,L ds _ gc gL _ H1 k1 f1 M1<|NO λgO H' fZ f M c=>qF M1 i1 el f M c⟩
def ky (lo:Int)(n:Nat):au D:=(List.range n).map λi=>D.int (lo+(i:Nat))
def BO {lo:Int}:Wk (Xu lo n) φ H (ky lo n) λ_=>True:=λgO H' fZ f M _ i=>by
 have hl:(ky lo n).length=n:=by unfold ky;rw[gP,pF]
 refine⟨λd hd=>?_,λhi=>by rw[hl]at hi;exact Nat.le_of_eq hi.symm⟩;have hi:i<n:=by have:=(kB hd).1;lia
 refine⟨hi,λx Ql hy=>?_⟩;obtain⟨rfl,rfl⟩:=hy;refine⟨.refl _ _,M,?_⟩;unfold ky at hd;rw[mS,aY hi]at hd;cases hd;rfl
def W5 (w:DA):DI:=λρ μ K=>w ρ μ λds gc=>match ds with
 |[.int j]=> -(2 ^ 62)<=j/\j<2 ^ 62/\K (ky 0 j.toNat) (λ_=>True) gc
 |_=>False
def W4 (w:DA):DI:=λρ μ K=>w ρ μ λds gc=>match ds with
 |[.int i,.int j]=>(-(2 ^ 62)<=i/\i<2 ^ 62 /\ -(2 ^ 62)<=j/\j<2 ^ 62)/\K (ky i (j - i).toNat) (λ_=>True) gc
 |_=>False
def gY {w:DA}(hg:Gl X "range")(hm:X.mg "range"=none)(ha:we X [a] w)(hs:starEach [a] X.env=[(false,eval a X.env)]:=by rfl):Hj X tg (.Call (.Name "range" p) [a] [] pos) (W5 w):=(HJ hg hm ha hs).imp λσ H Q hq=>by
 obtain⟨φ,ρ,μ,K,A,M,k,L⟩:=hq;refine⟨φ,ρ,μ,_,A,M,k,λds gc gL vs H1 k1 f1 M1 i1=>?_⟩;split at k1
 .obtain⟨v,r,rfl,h1,h2⟩:=i1;cases h1;cases h2;exact⟨_,rfl,k1.1,k1.2.1,L _ _ gc gL _ H1 k1.2.2 f1 M1 BO⟩
 .exact k1.elim
def tx {w:DA}(hg:Gl X "range")(hm:X.mg "range"=none)(ha:we X [a,b] w)(hs:starEach [a,b] X.env=[(false,eval a X.env),(false,eval b X.env)]:=by rfl)(rm:starEach [b] X.env=[(false,eval b X.env)]:=by rfl):Hj X tg (.Call (.Name "range" p) [a,b] [] pos) (W4 w):=(HI hg hm ha hs rm).imp λσ H Q hq=>by
 obtain⟨φ,ρ,μ,K,A,M,k,L⟩:=hq;refine⟨φ,ρ,μ,_,A,M,k,λds gc gL vs H1 k1 f1 M1 i1=>?_⟩;split at k1
 .obtain⟨v,r,rfl,h1,u,r',rfl,h2,h3⟩:=i1;cases h1;cases h2;cases h3;exact⟨_,_,rfl,k1.1,L _ _ gc gL _ H1 k1.2 f1 M1 BO⟩
 .exact k1.elim
end
mutual
def Gj (n:Nat):D->Prop
 |.lst ds=>u4 n ds
 |.tup ds=>u4 n ds
 |.jS _ ds=>u4 n ds
 |.mr k=>k<n
 |.obj _ _ ds=>u4 n ds
 |.uc _ ds=>u4 n ds
 |_=>True
def u4 (n:Nat):List D->Prop
 |[]=>True
 |d::ds=>Gj n d/\u4 n ds
end
def BF (n:Nat):MO->Prop
 |.box=>True
 |.lst ds=>u4 n ds
 |.jS _ ds=>u4 n ds
 |.xn _ _ ds=>u4 n ds
 |.ins _ _ ds=>u4 n ds
 |.nA _ ds=>u4 n ds
 |.gx lS _=>lS.length<=n
 |.exc _=>True
def Fr.Qz (f:Fr lS H0 φ H)(h:lS.length<=n):Fr lS H0 (φ.take n) H:=by obtain⟨⟨ψ,rfl,Im⟩,k,d⟩:=f;exact⟨⟨ψ.take<|n - lS.length,by rw[List.take_append,bU h],λc hc=>Im c<|bo hc⟩,k,d⟩
def Fr.Zc (f:Fr lS H0 φ H)(h:lS.length<=j)(hp:φ[j]?=some p):H0 p=none:=by obtain⟨⟨ψ,rfl,Im⟩,k,d⟩:=f;rw[qV h]at hp;exact Im p (kq hp)
def Fr.Vd (f:Fr lS H0 φ H)(h:lS.length<=n)(hp:H0 p=none):Fr lS H0 (φ.take n++[p]) H:=by let ⟨⟨ψ,e,Im⟩,k,d⟩:=f.Qz h;exact⟨⟨ψ++[p],by rw[e,bq],λc hc=>by rcases List.mem_append.mp hc with z|z;exact Im c z;rwa [List.mem_singleton.mp z]⟩,k,d⟩
mutual
theorem jy.kF {n:Nat}{φ:List ao}{H:Hp}:∀ {d:D} {v:V},Gj n d->jy φ H d v->jy (φ.take n) H d v
 |.iC,_,_,h=>h
 |.bl _,_,_,h=>h
 |.int _,_,_,h=>h
 |.str _,_,_,h=>h
 |.lst _,_,m,h=>by obtain⟨p,vs,e,nn,hp,q⟩:=h;exact⟨p,vs,e,λz=>nn<|bo z,hp,fV.kF m q⟩
 |.tup _,_,m,h=>by obtain⟨p,vs,e,nn,hp,q⟩:=h;exact⟨p,vs,e,λz=>nn<|bo z,hp,fV.kF m q⟩
 |.jS _ _,_,m,h=>by obtain⟨p,fO,vs,e,nn,hp,q1,q2,q⟩:=h;exact⟨p,fO,vs,e,λz=>nn<|bo z,hp,q1,q2,fV.kF m q⟩
 |.mr k,_,m,h=>by obtain⟨p,e,q⟩:=h;exact⟨p,by rw[bI m];exact e,q⟩
 |.obj _ _ _,_,m,h=>by obtain⟨p,dx,fs,vs,e,nn,hp,q1,q2,q⟩:=h;exact⟨p,dx,fs,vs,e,λz=>nn<|bo z,hp,q1,q2,fV.kF m q⟩
 |.uc _ _,_,m,h=>by obtain⟨p,dx,fs,vs,e,nn,hp,q1,q2,q⟩:=h;exact⟨p,dx,fs,vs,e,λz=>nn<|bo z,hp,q1,q2,fV.kF m q⟩
 |.fn _,_,_,h=>h
theorem fV.kF {n:Nat}{φ:List ao}{H:Hp}:∀ {ds:List D} {vs:List V},u4 n ds->fV φ H ds vs->fV (φ.take n) H ds vs
 |[],_,_,h=>h
 |_::_,_,m,h=>by obtain⟨v,r,e,h1,h2⟩:=h;exact⟨v,r,e,jy.kF m.1 h1,fV.kF m.2 h2⟩
end
theorem gy.kF (h:gy φ H μ)(hm:∀(k:Nat) (m:MO),k<n->μ[k]?=some m->BF n m):gy (φ.take n) H (μ.take n):=by
 refine⟨h.nd.sublist<|List.take_sublist _ _,by rw[bg,bg,h.len],λk m e=>?_⟩;have hk:k<n:=by have:=(kB e).1;rw[bg]at this;lia
 rw[bI hk]at e;let ⟨p,e1,e2⟩:=h.at_ k m e;refine⟨p,by rwa [bI hk],?_⟩;have hb:=hm k m hk e;cases m with
 |box=>let ⟨q,ns,i,r,z,h1,h2,h3,h4⟩:=e2;exact⟨q,ns,i,r,z,h1,h2,λz=>h3<|bo z,h4⟩
 |lst ds=>let ⟨vs,h1,h2⟩:=e2;exact⟨vs,h1,h2.kF hb⟩
 |jS ks ds=>let ⟨fO,vs,h1,h2,h3,h4⟩:=e2;exact⟨fO,vs,h1,h2,h3,h4.kF hb⟩
 |xn o fO ds=>exact⟨e2.1,e2.2.kF hb⟩
 |ins C ns ds=>let ⟨dx,fs,h1,h2,h3⟩:=e2;exact⟨dx,fs,h1,h2,h3.kF hb⟩
 |nA ks ds=>let ⟨fO,h1,h2,h3⟩:=e2;exact⟨fO,h1,h2,h3.kF hb⟩
 |gx lS H0=>exact⟨e2.1.Qz hb,e2.2⟩
 |exc c=>exact e2
mutual
theorem jy.bound {φ:List ao}{H:Hp}:∀ {d:D} {v:V},jy φ H d v->Gj φ.length d
 |.iC,_,_=>True.intro
 |.bl _,_,_=>True.intro
 |.int _,_,_=>True.intro
 |.str _,_,_=>True.intro
 |.lst _,_,h=>by obtain⟨p,vs,e,nn,hp,q⟩:=h;exact fV.bound q
 |.tup _,_,h=>by obtain⟨p,vs,e,nn,hp,q⟩:=h;exact fV.bound q
 |.jS _ _,_,h=>by obtain⟨p,fO,vs,e,nn,hp,q1,q2,q⟩:=h;exact fV.bound q
 |.mr k,_,h=>by obtain⟨p,e,q⟩:=h;exact(kB e).1
 |.obj _ _ _,_,h=>by obtain⟨p,dx,fs,vs,e,nn,hp,q1,q2,q⟩:=h;exact fV.bound q
 |.uc _ _,_,h=>by obtain⟨p,dx,fs,vs,e,nn,hp,q1,q2,q⟩:=h;exact fV.bound q
 |.fn _,_,_=>True.intro
theorem fV.bound {φ:List ao}{H:Hp}:∀ {ds:List D} {vs:List V},fV φ H ds vs->u4 φ.length ds
 |[],_,_=>True.intro
 |_::_,_,h=>by obtain⟨v,r,e,h1,h2⟩:=h;exact⟨jy.bound h1,fV.bound h2⟩
end
theorem gy.bound (h:gy φ H μ):∀(k:Nat) (m:MO),μ[k]?=some m->BF μ.length m:=λk m e=>by
 let ⟨p,e1,e2⟩:=h.at_ k m e;rw[<- h.len];cases m with
 |box=>exact True.intro
 |lst ds=>let ⟨vs,h1,h2⟩:=e2;exact h2.bound
 |jS ks ds=>let ⟨fO,vs,h1,h2,h3,h4⟩:=e2;exact h4.bound
 |xn o fO ds=>exact e2.2.bound
 |ins C ns ds=>let ⟨dx,fs,h1,h2,h3⟩:=e2;exact h3.bound
 |nA ks ds=>let ⟨fO,h1,h2,h3⟩:=e2;exact h3.bound
 |gx lS H0=>obtain⟨⟨ψ,e,_⟩,_⟩:=e2.1;show lS.length<=φ.length;rw[e,lP];lia
 |exc c=>exact True.intro
def lY {gO:au ao}(hp:p∈gO)(h:q∉gO):q∉gO.take n++[p]:=λz=>by
 rcases List.mem_append.mp z with z|z
 .exact h (bo z)
 .exact h (by rwa [List.mem_singleton.mp z])
mutual
theorem jy.addP {n:Nat}{gO:List ao}{H:Hp}{p:ao}(hp:p∈gO):∀ {d:D} {v:V},Gj n d->jy gO H d v->jy (gO.take n++[p]) H d v
 |.iC,_,_,h=>h
 |.bl _,_,_,h=>h
 |.int _,_,_,h=>h
 |.str _,_,_,h=>h
 |.lst _,_,m,h=>by obtain⟨q,vs,e,nn,hq,z⟩:=h;exact⟨q,vs,e,lY hp nn,hq,fV.pL hp m z⟩
 |.tup _,_,m,h=>by obtain⟨q,vs,e,nn,hq,z⟩:=h;exact⟨q,vs,e,lY hp nn,hq,fV.pL hp m z⟩
 |.jS _ _,_,m,h=>by obtain⟨q,fO,vs,e,nn,hq,q1,q2,z⟩:=h;exact⟨q,fO,vs,e,lY hp nn,hq,q1,q2,fV.pL hp m z⟩
 | .mr k,_,m,h=>by
  obtain⟨q,e,z⟩:=h;have hk:k<(gO.take n).length:=by rw[bg];have:=(kB e).1;have m':k<n:=m;lia
  exact⟨q,by rw[vd hk,bI m];exact e,z⟩
 |.obj _ _ _,_,m,h=>by obtain⟨q,dx,fs,vs,e,nn,hq,q1,q2,z⟩:=h;exact⟨q,dx,fs,vs,e,lY hp nn,hq,q1,q2,fV.pL hp m z⟩
 |.uc _ _,_,m,h=>by obtain⟨q,dx,fs,vs,e,nn,hq,q1,q2,z⟩:=h;exact⟨q,dx,fs,vs,e,lY hp nn,hq,q1,q2,fV.pL hp m z⟩
 |.fn _,_,_,h=>h
theorem fV.pL {n:Nat}{gO:List ao}{H:Hp}{p:ao}(hp:p∈gO):∀ {ds:List D} {vs:List V},u4 n ds->fV gO H ds vs->fV (gO.take n++[p]) H ds vs
 |[],_,_,h=>h
 |_::_,_,m,h=>by obtain⟨v,r,e,h1,h2⟩:=h;exact⟨v,r,e,jy.addP hp m.1 h1,fV.pL hp m.2 h2⟩
end
def xZ (R:D->D->Prop)(ds es:au D):Prop:=ds.length=es.length/\∀(i:Nat) (a b:D),ds[i]?=some a->es[i]?=some b->R a b
def Dw (n:Nat)(μ:MS):Nat->D->D->Prop
 |0,d,d'=>d'=d/\Gj n d
 |k+1,d,d'=>(d'=d/\Gj n d)\/(∃ j ds es,d=.mr j/\n<=j/\μ[j]?=some (.lst ds)/\d'=.lst es/\xZ (Dw n μ k) ds es)\/(∃ ds es,d=.lst ds/\d'=.lst es/\xZ (Dw n μ k) ds es)\/(∃ ds es,d=.tup ds/\d'=.tup es/\xZ (Dw n μ k) ds es)\/(∃ j ks ds es,d=.mr j/\n<=j/\μ[j]?=some (.jS ks ds)/\d'=.jS ks es/\xZ (Dw n μ k) ds es)
theorem fV.K0:∀ {ds:au D} {vs:au V},ds.length=vs.length->(∀(i:Nat) (d:D) (v:V),ds[i]?=some d->vs[i]?=some v->jy φ H d v)->fV φ H ds vs
 | [],vs,hl,_=>by cases vs with
  |nil=>rfl
  |cons v r=>simp at hl
 | d::ds,vs,hl,h=>by cases vs with
  |nil=>simp at hl
  |cons v r=>exact⟨v,r,rfl,h 0 d v rfl rfl,fV.K0 (by simpa using hl) λi a b e1 e2=>h (i+1) a b (by simpa using e1)<|by simpa using e2⟩
def Dw.is (M:gy φ H μ)(Gh:∀ {j:Nat} {p:ao},n<=j->φ[j]?=some p->p∉φ.take n):∀ {k:Nat} {d d':D} {v:V},Dw n μ k d d'->jy φ H d v->jy (φ.take n) H d' v:=by
 intro k;induction k with
 |zero=>intro d d' v h i;let ⟨rfl,hb⟩:=h;exact i.kF hb
 | succ k ih =>
  have all:∀ {ds es:au D} {vs:au V},xZ (Dw n μ k) ds es->fV φ H ds vs->fV (φ.take n) H es vs:=λ{ds es vs} ha hd =>fV.K0 (by rw[hd.len,ha.1]) λi b v e1 e2=>by let ⟨a,e3,hv⟩:=hd.CL e2;exact ih (ha.2 i a b e3 e1) hv
  intro d d' v h i;rcases h with⟨rfl,hb⟩|⟨j,ds,es,rfl,hj,e,rfl,ha⟩|⟨ds,es,rfl,rfl,ha⟩|⟨ds,es,rfl,rfl,ha⟩|⟨j,ks,ds,es,rfl,hj,e,rfl,ha⟩
  .exact i.kF hb
  .obtain⟨p,hp,rfl⟩:=i;let ⟨p',e1,vs,hv,hd⟩:=M.at_ j _ e;rw[hp]at e1;cases e1;exact⟨p,vs,rfl,Gh hj hp,hv,all ha hd⟩
  .obtain⟨p,vs,rfl,hn,hp,hd⟩:=i;exact⟨p,vs,rfl,λz=>hn<|bo z,hp,all ha hd⟩
  .obtain⟨p,vs,rfl,hn,hp,hd⟩:=i;exact⟨p,vs,rfl,λz=>hn<|bo z,hp,all ha hd⟩
  .obtain⟨p,hp,rfl⟩:=i;let ⟨p',e1,fO,vs,hv,h1,h2,hd⟩:=M.at_ j _ e;rw[hp]at e1;cases e1;exact⟨p,fO,vs,rfl,Gh hj hp,hv,h1,h2,all ha hd⟩
def Bw (n:Nat)(μ:MS):Nat->D->D->Prop
 |0,d,d'=>d'=d/\Gj n d
 |k+1,d,d'=>(d'=d/\Gj n d)\/(∃ j ds es,d=.mr j/\n<=j/\μ[j]?=some (.lst ds)/\d'=.lst es/\xZ (Bw n μ k) ds es)\/(∃ ds es,d=.lst ds/\d'=.lst es/\xZ (Bw n μ k) ds es)\/(∃ ds es,d=.tup ds/\d'=.tup es/\xZ (Bw n μ k) ds es)\/(∃ j o fO ds es,d=.mr j/\n<=j/\μ[j]?=some (.xn o fO ds)/\d'=.uc (fO.map (·.1)) es/\xZ (Bw n μ k) ds es)\/(∃ j C ns ds es,d=.mr j/\n<=j/\μ[j]?=some (.ins C ns ds)/\d'=.obj C ns es/\xZ (Bw n μ k) ds es)
def Bw.is (M:gy φ H μ)(Gh:∀ {j:Nat} {p:ao},n<=j->φ[j]?=some p->p∉φ.take n):∀ {k:Nat} {d d':D} {v:V},Bw n μ k d d'->jy φ H d v->jy (φ.take n) H d' v:=by
 intro k;induction k with
 |zero=>intro d d' v h i;let ⟨rfl,hb⟩:=h;exact i.kF hb
 | succ k ih =>
  have all:∀ {ds es:au D} {vs:au V},xZ (Bw n μ k) ds es->fV φ H ds vs->fV (φ.take n) H es vs:=λ{ds es vs} ha hd =>fV.K0 (by rw[hd.len,ha.1]) λi b v e1 e2=>by let ⟨a,e3,hv⟩:=hd.CL e2;exact ih (ha.2 i a b e3 e1) hv
  intro d d' v h i;rcases h with⟨rfl,hb⟩|⟨j,ds,es,rfl,hj,e,rfl,ha⟩|⟨ds,es,rfl,rfl,ha⟩|⟨ds,es,rfl,rfl,ha⟩|⟨j,o,fO,ds,es,rfl,hj,e,rfl,ha⟩|⟨j,C,ns,ds,es,rfl,hj,e,rfl,ha⟩
  .exact i.kF hb
  .obtain⟨p,hp,rfl⟩:=i;let ⟨p',e1,vs,hv,hd⟩:=M.at_ j _ e;rw[hp]at e1;cases e1;exact⟨p,vs,rfl,Gh hj hp,hv,all ha hd⟩
  .obtain⟨p,vs,rfl,hn,hp,hd⟩:=i;exact⟨p,vs,rfl,λz=>hn<|bo z,hp,all ha hd⟩
  .obtain⟨p,vs,rfl,hn,hp,hd⟩:=i;exact⟨p,vs,rfl,λz=>hn<|bo z,hp,all ha hd⟩
  .obtain⟨p,hp,rfl⟩:=i;let ⟨p',e1,hv,hd⟩:=M.at_ j _ e;rw[hp]at e1;cases e1;exact⟨p,o,fO,_,rfl,Gh hj hp,hv,rfl,rfl,all ha hd⟩
  .obtain⟨p,hp,rfl⟩:=i;let ⟨p',e1,dx,fs,hv,h1,hd⟩:=M.at_ j _ e;rw[hp]at e1;cases e1;exact⟨p,dx,fs,_,rfl,Gh hj hp,hv,h1,rfl,all ha hd⟩
inductive Fz (n:Nat)(K:DK):DK where
 |keep {d μ} (k:K d μ):Fz n K d μ
 |drop {d μ} (hd:Gj n d) (hm:∀(j:Nat) (m:MO),j<n->μ[j]?=some m->BF n m) (k:K d (μ.take n)):Fz n K d μ
 |lst {j ds μ} (hj:n<=j) (e:μ[j]?=some (.lst ds)) (hd:u4 n ds) (hm:∀(j:Nat) (m:MO),j<n->μ[j]?=some m->BF n m) (k:K (.lst ds) (μ.take n)):Fz n K (.mr j) μ
 |one {j ds μ} (hj:n<=j) (e:μ[j]?=some (.lst ds)) (hd:u4 n ds) (hm:∀(j:Nat) (m:MO),j<n->μ[j]?=some m->BF n m) (k:K (.mr n) (μ.take n++[.lst ds])):Fz n K (.mr j) μ
 |deep {f d d' μ} (e:Dw n μ f d d') (hm:∀(j:Nat) (m:MO),j<n->μ[j]?=some m->BF n m) (k:K d' (μ.take n)):Fz n K d μ
 |jS {j ks ds μ} (hj:n<=j) (e:μ[j]?=some (.jS ks ds)) (hd:u4 n ds) (hm:∀(j:Nat) (m:MO),j<n->μ[j]?=some m->BF n m) (k:K (.jS ks ds) (μ.take n)):Fz n K (.mr j) μ
 |obj {j C ns ds μ} (hj:n<=j) (e:μ[j]?=some (.ins C ns ds)) (hd:u4 n ds) (hm:∀(j:Nat) (m:MO),j<n->μ[j]?=some m->BF n m) (k:K (.obj C ns ds) (μ.take n)):Fz n K (.mr j) μ
 |uc {j o fO ds μ} (hj:n<=j) (e:μ[j]?=some (.xn o fO ds)) (hd:u4 n ds) (hm:∀(j:Nat) (m:MO),j<n->μ[j]?=some m->BF n m) (k:K (.uc (fO.map (·.1)) ds) (μ.take n)):Fz n K (.mr j) μ
 |WO {f d d' μ} (e:Bw n μ f d d') (hm:∀(j:Nat) (m:MO),j<n->μ[j]?=some m->BF n m) (k:K d' (μ.take n)):Fz n K d μ
def wg.fz {K:DK}(M:gy φ H μ)(L:wg φ H K Q):wg φ H (Fz μ.length K) Q:=λd fZ gO v H' k f M' i=>by
 have GJ:gO.take μ.length=φ:=by obtain⟨⟨ψ,rfl,_⟩,_,_⟩:=f;rw[<- M.len,cG]
 have f0:Fr φ H (gO.take μ.length) H':=by rw[GJ];exact⟨⟨[],by simp,λ_ h=>nomatch h⟩,f.keep,f.Ym⟩
 have Gh:∀ {j:Nat} {p:ao},μ.length<=j->gO[j]?=some p->p∉gO.take μ.length:=λ{j p} hj e hp=>by obtain⟨i,hi,ei⟩:=aJ hp;rw[bg]at hi;rw[List.getElem_take]at ei;obtain⟨Gr,ej⟩:=kB e;exact List.pairwise_iff_getElem.mp M'.nd i j (by lia) Gr (by lia) (ei.trans ej.symm)
 cases k with
 |keep k=>exact L d fZ gO v H' k f M' i
 |drop hd hm k=>exact L d _ _ v H' k f0 (M'.kF hm) (i.kF hd)
 | @lst j ds _ hj e hd hm k =>obtain⟨p,hp,rfl⟩:=i;obtain⟨p',e1,vs,hv,ha⟩:=M'.at_ j _ e;rw[hp]at e1;cases e1;exact L _ _ _ _ H' k f0 (M'.kF hm) ⟨p,vs,rfl,Gh hj hp,hv,ha.kF hd⟩
 | @one j ds _ hj e hd hm k =>
  obtain⟨p,hp,rfl⟩:=i;obtain⟨p',e1,vs,hv,ha⟩:=M'.at_ j _ e;rw[hp]at e1;cases e1;have M0:=M'.kF hm;have hpn:p∉φ:=by have:=Gh hj hp;rwa [GJ]at this
  have hH:H p=none:=by
   obtain⟨⟨ψ,rfl,Im⟩,_,_⟩:=f;refine Im p ?_;have q:=kq hp;rcases List.mem_append.mp q with q|q
   .exact absurd q hpn
   .exact q
  have M1:=M0;rw[GJ]at M1;have f1:Fr φ H (φ++[p]) H':=⟨⟨[p],rfl,λc hc=>by rw[List.mem_singleton.mp hc];exact hH⟩,f.keep,f.Ym⟩;have len:(fZ.take μ.length).length=μ.length:=by rw[<- M1.len,M.len]
  have pin:p∈gO:=kq hp;have ZY:fV (φ++[p]) H' ds vs:=by have q:=fV.pL pin hd ha;rwa [GJ]at q
  have M2:gy (φ++[p]) H' (fZ.take μ.length++[.lst ds]):=by
   refine⟨?_,by rw[lP,lP,M1.len];rfl,λk m ek=>?_⟩
   .rw[eP];exact⟨M.nd,by simp,λa ha b hb=>by rw[List.mem_singleton.mp hb];intro z;exact hpn (by rw[<- z];exact ha)⟩
   .by_cases hk:k<μ.length
    .rw[vd (by rw[len];exact hk)]at ek;rw[bI hk]at ek;obtain⟨q,e1,e2⟩:=M'.at_ k m ek;have e1':φ[k]?=some q:=by rw[<- GJ,bI hk];exact e1
     refine⟨q,by rw[vd (by rw[M.len];exact hk)];exact e1',?_⟩;have hb:=hm k m hk ek;cases m with
     | box =>obtain⟨b,ns,i,r,z,h1,h2,h3,h4⟩:=e2;exact⟨b,ns,i,r,z,h1,h2,by have:=lY (n:=μ.length) pin h3;rwa [GJ]at this,h4⟩
     |lst es=>obtain⟨us,h1,h2⟩:=e2;exact⟨us,h1,by have:=fV.pL pin hb h2;rwa [GJ]at this⟩
     |jS ks es=>obtain⟨fO,us,h1,h2,h3,h4⟩:=e2;exact⟨fO,us,h1,h2,h3,by have:=fV.pL pin hb h4;rwa [GJ]at this⟩
     |xn o fO es=>exact⟨e2.1,by have:=fV.pL pin hb e2.2;rwa [GJ]at this⟩
     |ins C ns es=>obtain⟨dx,fs,h1,h2,h3⟩:=e2;exact⟨dx,fs,h1,h2,by have:=fV.pL pin hb h3;rwa [GJ]at this⟩
     |nA ks es=>obtain⟨fO,h1,h2,h3⟩:=e2;exact⟨fO,h1,h2,by have:=fV.pL pin hb h3;rwa [GJ]at this⟩
     |gx lS H0=>exact⟨by have:=e2.1.Vd (n:=μ.length) hb (p:=p)<|e2.1.Zc (aV hb hj) hp;rwa [GJ]at this,e2.2⟩
     |exc c=>exact e2
    .have Gq:k=μ.length:=by have:=(kB ek).1;rw[lP,bx,len]at this;lia
     subst Gq
     rw[qV (by rw[len];exact aw _),len,aZ]at ek
     cases ek
     exact⟨p,by rw[qV (by rw[M.len];exact aw _),M.len,aZ];rfl,vs,hv,ZY⟩
  exact L _ _ _ _ H' k f1 M2 ⟨p,by rw[qV (by rw[M.len];exact aw _),M.len,aZ];rfl,rfl⟩
 |@deep f' d d' _ e hm k=>exact L _ _ _ _ H' k f0 (M'.kF hm) (e.is M' Gh i)
 | @jS j ks ds _ hj e hd hm k =>obtain⟨p,hp,rfl⟩:=i;obtain⟨p',e1,fO,vs,hv,h1,h2,ha⟩:=M'.at_ j _ e;rw[hp]at e1;cases e1;exact L _ _ _ _ H' k f0 (M'.kF hm) ⟨p,fO,vs,rfl,Gh hj hp,hv,h1,h2,ha.kF hd⟩
 | @obj j C ns ds _ hj e hd hm k =>obtain⟨p,hp,rfl⟩:=i;obtain⟨p',e1,dx,fs,h1,h2,h3⟩:=M'.at_ j _ e;rw[hp]at e1;cases e1;exact L _ _ _ _ H' k f0 (M'.kF hm) ⟨p,dx,fs,_,rfl,Gh hj hp,h1,h2,rfl,h3.kF hd⟩
 | @uc j o fO ds _ hj e hd hm k =>obtain⟨p,hp,rfl⟩:=i;obtain⟨p',e1,h1,h3⟩:=M'.at_ j _ e;rw[hp]at e1;cases e1;exact L _ _ _ _ H' k f0 (M'.kF hm) ⟨p,o,fO,_,rfl,Gh hj hp,h1,rfl,rfl,h3.kF hd⟩
 |@WO f' d d' _ e hm k=>exact L _ _ _ _ H' k f0 (M'.kF hm) (e.is M' Gh i)
def HG (n:Nat)(K:DK):DN:={ nx:=λ_ fZ=>Fz n K .iC fZ,rt:=λd fZ=>Fz n K d fZ}
def rF (N:au Str)(ds:au D):DE:=ds.map some++List.replicate (N.length - ds.length) none
theorem lJ.start {φ:au ao}{H:Hp}{N:au Str}{ds:au D}{vs:au V}(h:fV φ H ds vs):lJ φ H (rF N ds) (start N vs):=by
 have hl:=h.len;unfold rF L2.start;refine⟨by simp[hl],λi d e=>?_⟩;by_cases hi:i<ds.length
 .rw[vd (by rw[gP];exact hi),mS]at e;have e':ds[i]?=some d:=by
   cases q:ds[i]? with
   |none=>rw[q]at e;cases e
   |some z=>rw[q]at e;cases e;rfl
  obtain⟨v,hv,hd⟩:=h.get e';exact⟨v,by rw[vd (by rw[gP];lia),mS,hv];rfl,hd⟩
 .rw[qV (by rw[gP];lia)]at e;have:=kq e;have:=d4 this;cases this
section
variable {P:ah}{w:ai}{K:aa}{mg:Str->av ar}{fB:Heap}
def jW.SJ {x qual:Str}{st:Stmt}{f:ao}{fd:aj}{N ps:au Str}{k:Nat}{fs:j4}(F:jW K x qual st f fd)(S:fT N ps (fI st))(len:∀ ds μ Kd,fs ds μ Kd->ds.length=ps.length)
 (xh:∀(lj:ar) (A:Around) (fY:au Env) (s:ak) (H:Hp) (E:XK),jF k (A.deeper<|envOfC qual (fI st) s.heap.objs.size f lj) ->
   ∃ W,Je (rZ kl P w K mg fB N qual (fI st) f lj A fY s H E).UG (jq st) W/\∀ ds μ Kd,(∀(j:Nat) (m:MO),μ[j]?=some m->BF μ.length m)->u4 μ.length ds->fs ds μ Kd->W (HG μ.length Kd) (rF N ds) μ):gD P w K mg fB kl (k+1) f fd ps (iB fs):=by
 refine F.ok S (λvs H Q E h=>?_) (λlj A fY s H vs Q E hr h=>?_)
 .let ⟨φ,ds,μ,Kd,ha,M,hf,L⟩:=h;rw[ha.len];exact len ds μ Kd hf
 .let ⟨φ,ds,μ,Kd,ha,M,hf,L⟩:=h;let ⟨W,hW,q⟩:=xh lj A fY s H E hr;exact⟨_,hW,φ,rF N ds,μ,HG μ.length Kd,.start ha,M,q ds μ Kd M.bound (by rw[<- M.len];exact ha.bound) hf,⟨λkO fZ gO jb H' k' f' A' M'=>L.fz M .iC fZ gO .iC H' k' f' M' rfl,L.fz M,λ_ _ _ _ _ k' _ _ _=>k'.elim,λ_ _ _ _ _ k' _ _ _=>k'.elim⟩⟩
end
def DR:typeLookup (.type "zip") "__len__"=pure none:=by kernel_rfl
def BL:typeLookup (.type "zip") "__length_hint__"=pure none:=by kernel_rfl
def Qg (z TI TO i1 i2 l1 l2:ao)(i:Nat)(xs ys:Array ar)(h:Heap):Prop:=ZZ false z TI TO i1 i2 l1 l2 i h/\ke false h l1 xs/\ke false h l2 ys
section
variable {P:ah}{w:ai}{A:Around}{s:ak}{E:ar->ak->Prop}{z TI TO i1 i2 l1 l2:ao}{i:Nat}{xs ys:Array ar}{x y:ar}{Q:av ar->ak->Prop}
def Qg.next (Z:Qg z TI TO i1 i2 l1 l2 i xs ys s.heap)(D:ZipApart z TI TO i1 i2 l1 l2)(hx:xs[i]?=some x)(hy:ys[i]?=some y)
 (hQ:∀ h',Qg z TI TO i1 i2 l1 l2 (i+1) xs ys h'->IsPair h' s.heap.objs.size x y->ZK z TO i1 i2 s.heap h'->Q (some<|.ref s.heap.objs.size) {s with heap:=h'}):wpAny (model P w) A (pyNext<|.ref z) Q E s:=
 let ⟨_,_,_,_,hz,_⟩:=Z.1
 ue hz (Fu D Z.1 Z.2.1 Z.2.2 hx hy λh' a b c d _ e=>hQ h' ⟨a,b,c⟩ d e)
def Qg.over (hh:A.handled=none)(Z:Qg z TI TO i1 i2 l1 l2 i xs ys s.heap)(D:ZipApart z TI TO i1 i2 l1 l2)(hx:xs[i]?=none\/ys[i]?=none)
 (hQ:∀ h',ZK z TO i1 i2 s.heap h'->Q none {s with heap:=h'}):wpAny (model P w) A (pyNext<|.ref z) Q E s:=
 let ⟨_,_,_,_,hz,_⟩:=Z.1
 ue hz (Fv hh D Z.1 Z.2.1 Z.2.2 hx λh' e hk qU=>by obtain⟨o,he⟩:=qU;exact⟨⟨o,e,rfl,he⟩,hQ h' hk⟩)
def Qg.but {S:ao}{h h':Heap}(Z:Qg z TI TO i1 i2 l1 l2 i xs ys h)(e:Heap.ExtBut S h h')(n:S∉[z,TI,TO,i1,i2,l1,l2]):Qg z TI TO i1 i2 l1 l2 i xs ys h' :=
 ⟨Z.1.keep λb hb o q=>e b o (λr=>n (by simp only[a6,aN,cb]at hb ⊢;lia)) q,Z.2.1.extBut e λr=>n<|by simp[r],Z.2.2.extBut e λr=>n<|by simp[r]⟩
end
section
variable {X:Cx}{fA:au (ao×Obj)}{σ:St}
def vp (H:Hp)(xs ys:au V)(us:au V):Prop:=∀(i:Nat) (u:V),us[i]?=some u->∃ T x y,u=V.ref T/\H T=some (.tup [x,y])/\xs[i]?=some x/\ys[i]?=some y
def vp.same {H H':Hp}{xs ys us:au V}(h:vp H xs ys us)(s:iA H H'):vp H' xs ys us:=λi u e=>let ⟨T,x,y,a,b,c⟩:=h i u e;⟨T,x,y,a,s _ _ b,c⟩
def Jz {A:Around}{R:Result->ak->Prop}{z TI TO i1 i2 l1 l2 S:ao}{H0:Hp}{xs ys:au V}{xv yv:au ar}{res:ar}(hh:A.handled=none)(D:ZipApart z TI TO i1 i2 l1 l2)(rx:gC xs xv)(ry:gC ys yv)(hz1:xs.length<=sizeLine)
 (nS:S∉[z,TI,TO,i1,i2,l1,l2])
 (hR:∀ s' H' us gb c,Inv X fA σ H' s'->iA H0 H'->H' S=none->s'.heap.get? S=some (lobj gb c)->gC us gb->us.length=min xs.length ys.length->vp H' xs ys us->R (.ok<|.ret res) s'):
 ∀(k i:Nat) (s:ak) (H:Hp) (us:au V) (gb:au ar) (c:Nat),min xs.length ys.length - i=k->i<=min xs.length ys.length->us.length=i->Inv X fA σ H s->iA H0 H->(∀ b∈[z,TO,i1,i2,S],mE X fA H b)->s.heap.get? S=some (lobj gb c)->gC us gb->vp H xs ys us ->
  Qg z TI TO i1 i2 l1 l2 i xv.toArray yv.toArray s.heap->codeAny (model X.prog X.w) A (.builtin "list.extend.loop" ⟨[.ref S,.ref z,res],[]⟩) R s:=by
 have lx:=rx.length
 have ly:=ry.length
 have QZ:S≠z/\S≠TO/\S≠i1/\S≠i2:=by simp only[a6,aN,cb,not_or]at nS;exact⟨nS.1,nS.2.2.1,nS.2.2.2.1,nS.2.2.2.2.1⟩
 have zk:∀ {h h':Heap},ZK z TO i1 i2 h h'->∀ b o,b∉[z,TO,i1,i2]->h.get? b=some o->h'.get? b=some o:=λkk b o hb e=>kk b o (λq=>hb<|by simp[q]) (λq=>hb<|by simp[q]) (λq=>hb<|by simp[q]) (λq=>hb<|by simp[q]) e
 have sub:∀ b∈[z,TO,i1,i2],b∈[z,TO,i1,i2,S]:=λb hb=>by
  simp only[a6,aN,cb]at hb ⊢
  rcases hb with q|q|q|q<;>simp[q]
 have SnI:S∉[z,TO,i1,i2]:=by simp only[a6,aN,cb,not_or];exact⟨QZ.1,QZ.2.1,QZ.2.2.1,QZ.2.2.2⟩
 intro k
 induction k with
 | zero =>
  intro i s H us gb c hk hi hu I hS fp gS rv pr Z;have ei:i=min xs.length ys.length:=by lia
  refine dg F.entry_extend_loop ?_;rw[dm dX _];show wpAny _ A.in1 (pyNext (.ref z)>>=_) _ _ s;refine fW (Z.over (A:=A.in1) hh D (by simp;lia) λh' kk=>?_);have I':=I.yJ (ch:=[z,TO,i1,i2]) (λb hb=>fp b<|sub b hb)<|zk kk;exact az (hR _ H us gb c I' hS (fp S<|by simp).1 (zk kk _ _ SnI gS) rv (hu.trans ei) pr)
 | succ k ih =>
  intro i s H us gb c hk hi hu I hS fp gS rv pr Z;have mv:i<min xs.length ys.length:=by lia
  obtain⟨x,ex⟩:∃ x,xs[i]?=some x:=⟨xs[i]'(by lia),iD _⟩;obtain⟨y,ey⟩:∃ y,ys[i]?=some y:=⟨ys[i]'(by lia),iD _⟩;obtain⟨u,eu,ru⟩:=rx.get ex;obtain⟨v,ev,rv'⟩:=ry.get ey;have lu:=rv.length;refine dg F.entry_extend_loop ?_;rw[dm dX _];show wpAny _ A.in1 (pyNext (.ref z)>>=_) _ _ s;refine fW (Z.next (A:=A.in1) D (by simpa using eu) (by simpa using ev) λh' Z' hT kk=>?_);have I':=I.yI (ch:=[z,TO,i1,i2]) (λb hb=>fp b<|sub b hb) (zk kk) hT ru rv';have hn:H s.heap.objs.size=none:=I.iH.fresh<|aw _;have S1:iA H (upd H s.heap.objs.size<|.tup [x,y]):=iA.upd hn;have neT:∀ b∈[z,TO,i1,i2,S],b≠s.heap.objs.size:=λb hb q=>by
   have nl:S<s.heap.objs.size:=jd gS;obtain⟨_,_,_,_,z1,_,_,z2,z3,z4⟩:=Z.1;obtain⟨_,z3⟩:=z3.ex;obtain⟨_,z4⟩:=z4.ex;have nz:z<s.heap.objs.size:=jd z1;have n1:i1<s.heap.objs.size:=jd z3;have n2:i2<s.heap.objs.size:=jd z4;have n3:TO<s.heap.objs.size:=jd z2;simp only[a6,aN,cb]at hb;rcases hb with e|e|e|e|e
   .exact aC nz (e.symm.trans q)
   .exact aC n3 (e.symm.trans q)
   .exact aC n1 (e.symm.trans q)
   .exact aC n2 (e.symm.trans q)
   .exact aC nl (e.symm.trans q)
  have Wv:=zk kk _ _ SnI gS;have fp':∀ b∈[z,TO,i1,i2,S],mE X fA (upd H s.heap.objs.size<|.tup [x,y]) b:=λb hb=>⟨by rw[gp (neT b hb)];exact(fp b hb).1,(fp b hb).2⟩;show wpAny _ A.in1 (updateSeq S (·.push (Value.ref s.heap.objs.size))>>=_) _ _ _;refine fW (de Wv rfl (az ⟨dq dX _,?_⟩) (by rw[aG];lia) (by show(gb.toArray.push _).size<=sizeLine+1;rw[Array.size_push,aG];lia));have but:Heap.ExtBut S h' (h'.update S (Obj.mapSeq (·.push (Value.ref s.heap.objs.size)))):=λb o hb e=>(aX _ _<|bX hb).trans e;have gS2:=bF (Obj.mapSeq (·.push (Value.ref s.heap.objs.size))) Wv rfl;have I2:=I'.yJ (ch:=[S]) (h'':=h'.update S (Obj.mapSeq (·.push (Value.ref s.heap.objs.size)))) (λb hb=>by rw[List.mem_singleton.mp hb];exact fp' S<|by simp) λb o hb e=>but b o (λq=>hb<|by simp[q]) e;have e2:gb.toArray.push (Value.ref s.heap.objs.size)=(gb++[Value.ref s.heap.objs.size]).toArray:=by simp
  obtain⟨c',gS3⟩:∃ c',(h'.update S (Obj.mapSeq (·.push (Value.ref s.heap.objs.size)))).get? S=some (lobj (gb++[Value.ref s.heap.objs.size]) c'):=by have q:=PySem.IsL.update Wv (·.push (Value.ref s.heap.objs.size));rw[e2]at q;exact⟨_,q⟩
  refine ih (i+1) _ _ (us++[.ref s.heap.objs.size]) _ c' (by lia) mv (by rw[lP,bx,hu]) I2 (hS.trans S1) fp' gS3 (rv.append<|.cons (show gB (V.ref s.heap.objs.size) _ from rfl) .nil) ?_ (Z'.but but nS)
  .intro j u' ej;by_cases hj:j<us.length
   .rw[vd hj]at ej;exact pr.same S1 j u' ej
   .rw[qV (by lia)]at ej;have hj0:j - us.length=0:=by have:=(kB ej).1;rw[bx]at this;lia
    rw[hj0]at ej;cases ej;have:j=i:=by lia
    subst this;exact⟨_,x,y,rfl,fX,ex,ey⟩
def Li {H:Hp}{s:ak}{a b:ao}{xs ys:au V}{Q:VK}(I:Inv X fA σ H s)(gH:X.gH=true)(ha:H a=some (.lst xs))(hb:H b=some (.lst ys))
 (hQ:∀ l us H',H l=none->iA H H'->H' l=some (.lst us)->us.length=min xs.length ys.length->vp H' xs ys us->Q (.ref l) H'):
 wpAny (model X.prog X.w) X.A (call (.type "zip") [.ref a,.ref b]) (λv s1=>wpAny (model X.prog X.w) X.A (call (.type "list") [v]) (EP X fA σ Q) X.xe s1) X.xe s:=by
 obtain⟨z1,xv,n1,rx,lx,ea⟩:=I.mq ha;obtain⟨z2,yv,n2,ry,ly,eb⟩:=I.mq hb;have p1:ke false s.heap a xv.toArray:=⟨_,ea,rfl,n1,rfl⟩;have p2:ke false s.heap b yv.toArray:=⟨_,eb,rfl,n2,rfl⟩;have la:(a:Nat)<s.heap.objs.size:=jd ea;have lb:(b:Nat)<s.heap.objs.size:=jd eb;refine wj p1 p2 λh' hz Gy Gx i1 i2 kp=>?_;have I1:Inv X fA σ H {s with heap:=h'}:=I.iR (t':=s.toks) kp;have D:ZipApart (s.heap.objs.size+4) (s.heap.objs.size+2) (s.heap.objs.size+3) s.heap.objs.size (s.heap.objs.size+1) a b:=zipApart_new la lb;refine callType_codes (Q₁:=λobj s₁=>obj=.ref h'.objs.size/\s₁={s with heap:=h'.push { cls:=.type "list",data:=.seq #[]}}) F.called_list (F.typeCall_list_1 _) F.entry_list_init (code_list_new _ ⟨rfl,rfl⟩) λobj s₁ h₁=>?_;obtain⟨rfl,rfl⟩:=h₁;have hS:(h'.push { cls:=.type "list",data:=.seq #[]}).get? h'.objs.size=some (lobj [] 0):=aD _ rfl;refine⟨⟨_,hS,rfl⟩,F.args_list_init_2 _ _,?_⟩;have I2:Inv X fA σ H {s with heap:=h'.push { cls:=.type "list",data:=.seq #[]}}:=I1.iR (t':=s.toks) λ_ _ e=>jw _ e;have sz:s.heap.objs.size+4<h'.objs.size:=jd hz;have Yh:∀ c,s.heap.objs.size<=c->mE X fA H c:=λc hc=>I.ES hc<|I.iH.fresh hc;refine fW ?_;unfold Builtin.List.listItems;refine fW<|bz hS rfl (az ?_);show wpAny _ X.A.in1.in1 (updateSeq h'.objs.size (λ_=>#[])>>=λ_=>letGo (#[]:Array ar).toList.reverse>>=λ_=>Builtin.List.listExtendWith (.ref h'.objs.size) (.ref<|s.heap.objs.size+4) .none) _ _ _;refine fW<|de hS rfl ?_;refine fW<|c5 ?_;have fill:∀(g:Heap) (tk c:Nat),(∀ d o,d≠h'.objs.size->(h'.push { cls:=.type "list",data:=.seq #[]}).get? d=some o->g.get? d=some o)->g.get? h'.objs.size=some (lobj [] c) ->
  codeAny (model X.prog X.w) X.A.in1 (.builtin "list.extend.loop" ⟨[.ref h'.objs.size,.ref (s.heap.objs.size+4),.none],[]⟩) (wants (λr s₂=>r=.none/\EP X fA σ Q (.ref h'.objs.size) s₂) X.xe) {s with heap:=g,toks:=tk}:=λg tk c kg gS=>by
  have Q2:∀ d o,h'.get? d=some o->g.get? d=some o:=λd o e=>kg d o (aC<|jd e)<|jw _ e;have I3:Inv X fA σ H {s with heap:=g,toks:=tk}:=I1.iR (t':=tk) Q2;have nS:h'.objs.size∉[s.heap.objs.size+4,s.heap.objs.size+2,s.heap.objs.size+3,s.heap.objs.size,s.heap.objs.size+1,a,b]:=by simp only[a6,aN,cb,not_or];have sz':(s.heap.objs.size:Nat)+4<h'.objs.size:=sz;refine⟨?_,?_,?_,?_,?_,bE<|dz la<|by lia,bE<|dz lb<|by lia⟩<;> (intro q;lia)
  refine Jz (A:=X.A.in1) (I.ok.hd gH) D rx ry z1 nS (H0:=H) ?_ _ 0 _ H [] [] c rfl (bA _) rfl I3 (iA.refl _) ?_ gS .nil (λi u e=>by simp at e) ⟨⟨_,_,_,_,Q2 _ _ hz,.inl rfl,Q2 _ _ Gy,Q2 _ _ Gx,i1.at λ_ e=>Q2 _ _ e,i2.at λ_ e=>Q2 _ _ e⟩,⟨_,Q2 _ _<|kp _ _ ea,rfl,n1,rfl⟩,⟨_,Q2 _ _<|kp _ _ eb,rfl,n2,rfl⟩⟩
  .intro s' H' us gb c' I' S' QZ Wv rv lu pr;refine⟨rfl,?_⟩;have ZU:=Yh h'.objs.size (by lia);have I4:=I'.adopt (ys:=us) QZ ZU.2.1 (by have:=I.sz;lia) ZU.2.2.2.2.1 ZU.2.2.2.2.2 Wv rv (by lia);exact⟨.ref h'.objs.size,_,I4,rfl,hQ _ us _ (I.iH.fresh<|by lia) (S'.trans<|iA.upd QZ) fX lu<|pr.same<|iA.upd QZ⟩
  .intro d hd;simp only[a6,aN,cb]at hd;refine Yh d ?_;rcases hd with e|e|e|e|e<;>subst e<;>lia
 have hS₂:=bF (Obj.mapSeq λ_=>(#[]:Array ar)) hS rfl;have oth:∀(d:ao) (o:Obj),d≠h'.objs.size->(h'.push { cls:=.type "list",data:=.seq #[]}).get? d=some o->((h'.push { cls:=.type "list",data:=.seq #[]}).update h'.objs.size<|Obj.mapSeq λ_=>(#[]:Array ar)).get? d=some o :=
  λd o hd e=>(aX _ _<|bX hd).trans e
 have Io:=oth _ _ (aC sz)<|jw { cls:=.type "list",data:=.seq #[]} hz;have Yy:Shared.TypeIs {s with heap:=(h'.push { cls:=.type "list",data:=.seq #[]}).update h'.objs.size (Obj.mapSeq λ_=>(#[]:Array ar))} (.ref<|s.heap.objs.size+4) "zip":=⟨_,Io,rfl⟩;unfold Builtin.List.listExtendWith;refine fW<|wpAny_typeOf Yy ?_;have e1:Builtin.List.listSameRef (.ref h'.objs.size) (.ref<|s.heap.objs.size+4)=false:=by simp only[Builtin.List.listSameRef];exact dh (bE sz)
 have e2:(Value.type "zip"==Value.type "list")=false:=by decide
 have e3:(Value.type "zip"==Value.type "tuple")=false:=by decide
 simp only[e1,e2,e3,Bool.or_false,eA,if_false];refine fW<|cJ Io ?_;refine fW<|bN ?_;unfold Builtin.List.listLengthHint;refine fW<|wpAny_specialOf Yy DR ?_;show wpAny _ _ (specialOf (Value.ref<|s.heap.objs.size+4) (Str.ofString "__length_hint__")>>=_) _ _ _;refine fW<|wpAny_specialOf Yy BL ?_;refine az ?_;show wpAny _ _ (rule "list.extend.makes-room" >>= λ_=>Builtin.List.listTouch (.ref h'.objs.size) >>= λ_ =>
  again (.builtin "list.extend.loop" ⟨[.ref h'.objs.size,.ref (s.heap.objs.size+4),.none],[]⟩)) _ _ _
 refine fW<|dN ?_;refine fW ?_;show wpAny _ _ (updateSeq h'.objs.size (·.push .none)>>=λ_=>updateSeq h'.objs.size (·.pop)) _ _ _;refine fW<|de hS₂ rfl ?_;have hS₃:=bF (Obj.mapSeq (·.push Value.none)) hS₂ rfl;refine de (hz:=by seq_fits) hS₃ rfl ?_;have hS₄:=bF (Obj.mapSeq (·.pop)) hS₃ rfl;refine az ⟨dq dX _,fill _ s.toks _ (λd o hd e=>?_) hS₄⟩;exact(aX _ _<|bX hd).trans ((aX _ _<|bX hd).trans<|oth d o hd e)
end
def Ite (l:ao):It :=
 ⟨λi H=>∃ xs x,H l=some (.lst xs)/\xs[i]?=some x,
  λi H v H'=>∃ T x,v=.ref T/\H T=none/\H'=upd H T (.tup [.int i,x])/\∀ xs,H l=some (.lst xs)->xs[i]?=some x,
  λi H=>∃ xs,H l=some (.lst xs)/\i=xs.length⟩
def DY {P:ah}{w:ai}{K:aa}{elts:au Expr}{kk:Nat}{nW:Pos}{e it l:ao}(ZX:e≠it)(hle:l≠e)(hli:l≠it):
 Turn P w K (.Tuple elts kk nW) (Ite l) [e,it] e (λi h=>(∃ old,IsEnum h e it i old)/\h.IsListIter it l i) where
 mem:=by simp
 obj:=λi h st b hb=>by
  obtain⟨⟨old,he⟩,o,ho,hc,hd⟩:=st;simp only[a6,aN,cb]at hb;rcases hb with rfl|rfl
  .exact⟨_,he,λv q=>by cases q⟩
  .exact⟨o,ho,λv q=>by rw[hd]at q;cases q⟩
 keep:=λi h h' st k=>by obtain⟨⟨old,he⟩,o,ho,r⟩:=st;exact⟨⟨old,k e (by simp) _ he⟩,o,k it (by simp) _ ho,r⟩
 item:=by
  intro X hP hw hK hc i fA s σ H E I hf st hg;subst hP hw hK;obtain⟨⟨old,he⟩,hit⟩:=st;obtain⟨xs,x,hl,ex⟩:=hg;obtain⟨_,gb,n,r,_,ho⟩:=I.mq hl;have BH:s.heap.IsList l gb.toArray:=⟨_,ho,rfl,n,rfl⟩;obtain⟨u,eu,ru⟩:=r.get ex;have mv:i<gb.toArray.size:=by rw[aG];exact(kB eu).1
  have D:=Draws.list (prog:=X.prog) (w:=X.w) (A:=X.A.in1) (I.ok.hd hc) it l hli gb.toArray;refine wpAny_pyNext_enum_itemD D he ⟨hit,BH⟩ mv ZX (by simp[ZX,bX hle]) λy h1 tk hPy ho1 Zx hT hsz hk=>?_;have hy:y=u:=by
   have q:gb[i]?=some y:=by simpa using hPy
   rw[eu]at q;exact(aK q).symm
  subst hy;refine⟨_,rfl,wpAny_letOwnedTupleGo_enum ho1 λh2 Q9 rm=>?_⟩;have fr:∀ b∈[e,it],mE X fA H b:=hf;have lte:e<s.heap.objs.size:=jd he;have ne1:s.heap.objs.size≠e:=bE lte;have TH:IsPair h2 s.heap.objs.size (.int i tk) y:=(rm.2 _ ne1).trans hT;have kp:∀ b o,b∉[e,it]->s.heap.get? b=some o->h2.get? b=some o:=λb o hb q=>by have b1:b≠e:=λz=>hb (by simp[z]);have b2:b≠it:=λz=>hb (by simp[z]);exact(rm.2 b b1).trans (hk b o b1 b2 q)
  have hn:H s.heap.objs.size=none:=I.iH.fresh<|aw _;have I1:=(I.yI (ch:=[e,it]) (h'':=h2) (x:=.int i) (y:=x) fr kp TH ⟨tk,rfl⟩ ru).tok<|tk+1;refine⟨.ref s.heap.objs.size,_,I1,rfl,⟨_,x,rfl,hn,rfl,λzs q=>by rw[hl]at q;cases q;exact ex⟩,⟨⟨_,by simpa using Q9⟩,Zx.1.at λo q=>(rm.2 it<|bX ZX).trans q⟩,λb hb=>?_⟩;have lti:it<s.heap.objs.size:=by obtain⟨o,q,_⟩:=hit;exact jd q
  rw[gp]
  .exact(hf b hb).1
  .simp only[a6,aN,cb]at hb;rcases hb with rfl|rfl
   .exact aC lte
   .exact aC lti
 done:=by
  intro X hP hw hK hc i fA s σ H E I hf st hg;subst hP hw hK;obtain⟨⟨old,he⟩,hit⟩:=st;obtain⟨xs,hl,ei⟩:=hg;obtain⟨_,gb,n,r,ll,ho⟩:=I.mq hl;have BH:s.heap.IsList l gb.toArray:=⟨_,ho,rfl,n,rfl⟩;have D:=Draws.list (prog:=X.prog) (w:=X.w) (A:=X.A.in1) (I.ok.hd hc) it l hli gb.toArray;have en:i=gb.toArray.size:=by rw[aG,ei];exact ll
  refine wpAny_pyNext_enum_endD D he (by rw[<- en];exact⟨hit,BH⟩) λh' hx=>⟨rfl,?_⟩;exact I.yJ (ch:=[e,it]) (λb hb=>hf b hb) λb o hb q=>hx b o (λz=>hb<|by simp[z]) q
 self:=λ_ _ _ _ _ st h=>let ⟨⟨_,e⟩,_⟩:=st;eI e h
section
variable {X:Cx}{a b e:Expr}{es:au Expr}{pos:Pos}
def Tn (ta:TA):TI:=λσ H R=>ta σ H λvs H1=>match vs with
 |[.ref l]=>∃ xs,H1 l=some (.lst xs)/\R (Ite l) H1
 |_=>False
def Ku {elts:au Expr}{kk:Nat}{nW:Pos}{ta:TA}{p:Pos}(hg:Gl X "enumerate")(hm:X.mg "enumerate"=none)(ha:PA X [a] ta)(hs:starEach [a] X.env=[(false,eval a X.env)]:=by rfl):
 PI X (.Tuple elts kk nW) (.Call (.Name "enumerate" p) [a] [] pos) (Tn ta):=by
 intro fA s σ H R I h;refine Call_ (kc I hg hm (show bootBuiltins "enumerate"=some (.type "enumerate") by decide +kernel)<|aS (iN (ha pos fA s σ H _ I h) λus s1 pT=>?_) hs rfl);obtain⟨vs,H1,I1,r1,q1⟩:=pT;try dsimp only at q1
 split at q1
 .rename_i l;obtain⟨xs,hl,q⟩:=q1;obtain⟨u,rfl,ru⟩:=r1.one;cases ru;obtain⟨_,gb,n,r,ll,ho⟩:=I1.mq hl;have lt:=jd ho;refine call_enumerate_list ⟨_,ho,rfl,n,rfl⟩ λh' he hi hsz kp=>eI he ?_;have I2:Inv X fA σ H1 { s1 with heap:=h'}:=I1.iR (t':=s1.toks) kp;refine⟨s1.heap.objs.size+1,_,_,_,H1,rfl,I2,DY (bE<|bD _) (aC<|bC lt)<|aC lt,⟨⟨_,he⟩,hi⟩,λb hb=>?_,q⟩;have EM:s1.heap.objs.size<=b:=by
   simp at hb;rcases hb with e|e<;>subst e
   .exact dt _
   .exact aw _
  exact I1.ES EM (I1.iH.fresh EM)
 .exact q1.elim
def dItZ (w:DA):DI:=λρ μ K=>w ρ μ λds gc=>match ds with
 |[x,y]=>opt (lv gc x) λxs=>opt (lv gc y) λys=>K (List.zipWith (λa b=>D.tup [a,b]) xs ys) (λfZ=>lc x xs fZ/\lc y ys fZ) gc
 |_=>False
def CD {elts:au Expr}{kk:Nat}{nW:Pos}{w:DA}{p:Pos}(hg:Gl X "zip")(hm:X.mg "zip"=none)(ha:we X [a,b] w)(hs:starEach [a,b] X.env=[(false,eval a X.env),(false,eval b X.env)]:=by rfl)(rm:starEach [b] X.env=[(false,eval b X.env)]:=by rfl):
 Hj X (.Tuple elts kk nW) (.Call (.Name "zip" p) [a,b] [] pos) (dItZ w):=(Ks hg hm ha hs rm).imp λσ H Q hq=>by
 obtain⟨φ,ρ,μ,K,A,M,k,L⟩:=hq;refine⟨φ,ρ,μ,_,A,M,k,λds gc gL vs H1 k1 f1 M1 i1=>?_⟩;split at k1
 .rename_i x y;obtain⟨xs,ex,k1⟩:=iz k1;obtain⟨ys,ey,k1⟩:=iz k1
  .obtain⟨v,r,rfl,h1,u,r',rfl,h2,h3⟩:=i1;cases h3;obtain⟨p1,vx,rfl,Tt,ax⟩:=kK M1 h1 ex;obtain⟨p2,vy,rfl,Ts,ay⟩:=kK M1 h2 ey;refine⟨false,vx,vy,Tt,Ts,L _ _ gc gL _ H1 k1 f1 M1 λgO H' fZ f M' c i=>?_⟩;obtain⟨vx,hx,ax⟩:=qF M1 h1 ex f M' c.1;obtain⟨vy,hy,ay⟩:=qF M1 h2 ey f M' c.2;have lx:=ax.len;have ly:=ay.len;refine⟨λd hd=>?_,λhi=>⟨vx,vy,hx,hy,by rw[bH]at hi;lia⟩⟩;rw[bQ]at hd;cases e1:xs[i]? with
   |none=>rw[e1]at hd;cases hd
   | some dx =>
    cases e2:ys[i]? with
    |none=>rw[e1,e2]at hd;cases hd
    | some dy =>rw[e1,e2]at hd;cases hd;obtain⟨v1,g1,j1⟩:=ax.get e1;obtain⟨v2,g2,j2⟩:=ay.get e2;refine⟨⟨vx,vy,v1,v2,hx,hy,g1,g2⟩,λz Ql To=>?_⟩;obtain⟨T,x',y',rfl,hT,rfl,q1,q2⟩:=To;have c1:=q1 vx hx;have c2:=q2 vy hy;rw[g1]at c1;cases c1;rw[g2]at c2;cases c2;have fn:=Fr.new (φ:=gO) (o:=.tup [v1,v2]) hT;exact⟨fn,M'.same<|iA.upd hT,T,_,rfl,M'.fresh hT,fX,v1,_,rfl,j1.mono fn,v2,_,rfl,j2.mono fn,rfl⟩
 .exact k1.elim
def nT (ds:au D):au D:=List.zipWith (λi d=>D.tup [.int (i:Nat),d]) (List.range ds.length) ds
def zi {ds:au D}{i:Nat}{d:D}(h:(nT ds)[i]?=some d):∃ x,ds[i]?=some x/\d=.tup [.int i,x]:=by
 unfold nT at h;rw[bQ]at h;cases e:ds[i]? with
 |none=>rw[e]at h;cases q:(List.range ds.length)[i]?<;>(rw[q]at h;cases h)
 | some x =>have hi:=(kB e).1;rw[e,aY hi]at h;cases h;exact⟨x,rfl,rfl⟩
def mY (ds:au D):(nT ds).length=ds.length:=by unfold nT;rw[bH,pF,Nat.min_self]
def dItE (w:DA):DI:=λρ μ K=>w ρ μ λds gc=>match ds with
 |[x]=>opt (lv gc x) λxs=>K (nT xs) (λfZ=>lc x xs fZ) gc
 |_=>False
def AE {elts:au Expr}{kk:Nat}{nW:Pos}{w:DA}{p:Pos}(hg:Gl X "enumerate")(hm:X.mg "enumerate"=none)(ha:we X [a] w)(hs:starEach [a] X.env=[(false,eval a X.env)]:=by rfl):
 Hj X (.Tuple elts kk nW) (.Call (.Name "enumerate" p) [a] [] pos) (dItE w):=(Ku hg hm ha hs).imp λσ H Q hq=>by
 obtain⟨φ,ρ,μ,K,A,M,k,L⟩:=hq;refine⟨φ,ρ,μ,_,A,M,k,λds gc gL vs H1 k1 f1 M1 i1=>?_⟩;split at k1
 .rename_i x;let ⟨xs,ex,k1⟩:=iz k1
  .obtain⟨v,r,rfl,h1,h3⟩:=i1;cases h3;obtain⟨p1,vx,rfl,Tt,ax⟩:=kK M1 h1 ex;refine⟨vx,Tt,L _ _ gc gL _ H1 k1 f1 M1 λgO H' fZ f M' c i=>?_⟩;obtain⟨vx,hx,ax⟩:=qF M1 h1 ex f M' c;have lx:=ax.len;refine⟨λd hd=>?_,λhi=>⟨vx,hx,by rw[mY]at hi;lia⟩⟩;obtain⟨dx,e1,rfl⟩:=zi hd;obtain⟨v1,g1,j1⟩:=ax.get e1;refine⟨⟨vx,v1,hx,g1⟩,λz Ql To=>?_⟩;obtain⟨T,x',rfl,hT,rfl,q1⟩:=To;have c1:=q1 vx hx;rw[g1]at c1;cases c1;have fn:=Fr.new (φ:=gO) (o:=.tup [.int i,v1]) hT;exact⟨fn,M'.same<|iA.upd hT,T,_,rfl,M'.fresh hT,fX,.int i,_,rfl,rfl,v1,_,rfl,j1.mono fn,rfl⟩
 .exact k1.elim
def dLZ (m:Bool)(w:DA):De:=λρ μ K=>w ρ μ λds gc=>match ds with
 |[x,y]=>opt (lv gc x) λxs=>opt (lv gc y) λys=>nL m (List.zipWith (λa b=>D.tup [a,b]) xs ys) gc K
 |_=>False
def FW {φ:au ao}{H:Hp}{xs ys:au D}{vx vy us:au V}(ax:fV φ H xs vx)(ay:fV φ H ys vy)(hu:us.length=min vx.length vy.length)(nφ:∀(T:ao) (zs:au V),H T=some (.tup zs)->T∉φ)(h:vp H vx vy us):fV φ H (List.zipWith (λa b=>D.tup [a,b]) xs ys) us:=by
 have key:∀(ds:au D) (us:au V),ds.length=us.length->(∀(i:Nat) (d:D) (u:V),ds[i]?=some d->us[i]?=some u->jy φ H d u)->fV φ H ds us:=by
  intro ds;induction ds with
  | nil=>intro us hl _;cases us with
   |nil=>rfl
   |cons _ _=>simp at hl
  | cons d ds ih =>
   intro us hl hh;cases us with
   |nil=>simp at hl
   |cons u us=>exact⟨u,us,rfl,hh 0 d u rfl rfl,ih us (by simpa using hl) λi d' u' e1 e2=>hh (i+1) d' u' (by simpa using e1)<|by simpa using e2⟩
 refine key _ _ (by rw[bH,hu,ax.len,ay.len]) λi d u e1 e2=>?_;obtain⟨T,x,y,rfl,hT,hx,hy⟩:=h i u e2;let ⟨dx,ex,ix⟩:=ax.CL hx;let ⟨dy,ey,iy⟩:=ay.CL hy;rw[bQ,ex,ey]at e1;cases e1;exact⟨T,_,rfl,nφ T _ hT,hT,x,_,rfl,ix,y,_,rfl,iy,rfl⟩
def IG (m:Bool){w:DA}{p p2 mO:Pos}(gH:X.gH=true)(hg:Gl X "list")(hm:X.mg "list"=none)(LM:Gl X "zip")(EK:X.mg "zip"=none)(ha:we X [a,b] w)(hs:starEach [a,b] X.env=[(false,eval a X.env),(false,eval b X.env)]:=by rfl)(rm:starEach [b] X.env=[(false,eval b X.env)]:=by rfl)
 (CG:starEach [.Call (.Name "zip" p2) [a,b] [] mO] X.env=[(false,eval (.Call (.Name "zip" p2) [a,b] [] mO) X.env)]:=by rfl):
 PD X (.Call (.Name "list" p) [.Call (.Name "zip" p2) [a,b] [] mO] [] pos) (dLZ m w):=by
 intro fA s σ H Q I h;refine cA<|kc I hg hm boot_list ?_;obtain⟨φ,ρ,μ,K,A,M,k,L⟩:=h;refine aS ?_ CG rfl;rw[CG];refine cC ?_;have hq:Uy w σ H (λvs H1=>match vs with | [.ref a,.ref b]=>∃(xs ys:au V),H1 a=some (.lst xs)/\H1 b=some (.lst ys)/\∀ l us H',H1 l=none->iA H1 H'->H' l=some (.lst us)->us.length=min xs.length ys.length->vp H' xs ys us->Q (.ref l) H' | _=>False):=by
  refine⟨φ,ρ,μ,_,A,M,k,λds gc gL vs H1 k1 f1 M1 i1=>?_⟩;split at k1
  .rename_i x y;obtain⟨xs,ex,k1⟩:=iz k1;obtain⟨ys,ey,k1⟩:=iz k1
   .obtain⟨v,r,rfl,h1,u,r',rfl,h2,h3⟩:=i1;cases(show r'=[]from h3);obtain⟨p1,vx,rfl,Tt,ax⟩:=kK M1 h1 ex;obtain⟨p2,vy,rfl,Ts,ay⟩:=kK M1 h2 ey;refine⟨vx,vy,Tt,Ts,λl us H' hl S' hu len pr=>?_⟩;have oN:l∉gL:=M1.fresh hl;have M2:=M1.same S';have f2:Fr gL H1 gL H':=.same S';have nt:∀(T:ao) (zs:au V),H' T=some (.tup zs)->T∉gL:=λT zs e hT=>by
     obtain⟨j,hj,ej⟩:=aJ hT;obtain⟨q,e1,e2⟩:=M2.at_ j (gc[j]'(by have:=M2.len;lia))<|iD _;rw[iD hj,ej]at e1;cases e1;revert e2;cases gc[j]'(by have:=M2.len;lia)with
     |box=>rintro⟨q,ns,i,r,z,h1,_⟩;rw[e]at h1;cases h1
     |lst ds=>rintro⟨vs,h1,_⟩;rw[e]at h1;cases h1
     |jS ks ds=>rintro⟨fO,vs,h1,_⟩;rw[e]at h1;cases h1
     |xn o fO ds=>rintro⟨h1,_⟩;rw[e]at h1;cases h1
     |ins C ns ds=>rintro⟨dx,fs,h1,_⟩;rw[e]at h1;cases h1
     |nA ks ds=>rintro⟨fO,h1,_⟩;rw[e]at h1;cases h1
     |gx lS H0=>rintro⟨_,_,_,h4⟩;exact absurd e (h4 _)
     |exc c=>intro h1;rw[show _=_ from h1]at e;cases e
    have al:=FW (ax.mono f2) (ay.mono f2) len nt pr;cases m with
    |false=>exact L _ gc gL _ H' k1 (f1.trans f2) M2 ⟨l,us,rfl,oN,hu,al⟩
    | true =>
     have f3:Fr gL H1 (gL++[l]) H':=⟨(Fr.snoc (φ:=gL) hl).ext,λc o _ e=>S' c o e,λc e=>S'.free e⟩;have M3:gy (gL++[l]) H' (gc++[.lst (List.zipWith (λa b=>D.tup [a,b]) xs ys)]):=by
      have nt':∀(T:ao) (zs:au V),H' T=some (.tup zs)->T∉gL++[l]:=λT zs e hT=>by
       rcases List.mem_append.mp hT with q|q
       .exact nt T zs e q
       .rw[List.mem_singleton.mp q,hu]at e;cases e
      have al':=FW (ax.mono f3) (ay.mono f3) len nt' pr;refine⟨?_,by rw[lP,lP,M1.len];rfl,λk n e=>?_⟩
      .rw[eP];exact⟨M1.nd,by simp,λa ha b hb=>by rw[List.mem_singleton.mp hb];intro z;exact oN (by rw[<- z];exact ha)⟩
      .by_cases hk:k<gc.length
       .rw[vd hk]at e;obtain⟨q,e1,e2⟩:=M1.at_ k n e;exact⟨q,f3.get e1,e2.mono f3 λu eu=>S' _ _ eu⟩
       .have Gq:k=gc.length:=by have:=(kB e).1;rw[lP,bx]at this;lia
        subst Gq
        rw[qV (aw _),aZ]at e
        cases e
        exact⟨l,by rw[qV (by rw[M1.len];exact aw _),M1.len,aZ];rfl,us,hu,al'⟩
     exact L _ _ (gL++[l]) _ H' k1 (f1.trans f3) M3 ⟨l,by rw[qV (by rw[M1.len];exact aw _),M1.len,aZ];rfl,rfl⟩
  .exact k1.elim
 refine Call_ (kc I LM EK boot_zip<|aS (iN (ha mO fA s σ H _ I hq) λus s1 rp=>?_) (by rw[hs,rm]) (by rw[rm];rfl));obtain⟨vs,H1,I1,r1,q1⟩:=rp;try dsimp only at q1
 split at q1
 .rename_i l1 l2;obtain⟨xs,ys,h1,h2,q⟩:=q1;obtain⟨u1,u2,rfl,e1,e2⟩:=r1.two;cases e1;cases e2;exact iN (Li I1 gH h1 h2 q) λv s2 hv=>cV hv
 .exact q1.elim
end
def wg.val {K:DK}(L:wg φ H K Q)(M:gy φ H μ)(k:K d μ)(i:jy φ H d v):Q v H:=L d μ φ v H k (.refl _ _) M i
def Ub (m:Bool):Dz:=λx y μ K=>match x,y with
 |.int i,.int j=>K (.int<|i+j) μ
 |.str i,.str j=>i.length+j.length<=sizeLine/\K (.str<|i++j) μ
 |x,y=>opt (lv μ x) λxs=>opt (lv μ y) λys=>xs.length+ys.length<=sizeLine/\nL m (xs++ys) μ K
def R1:qZ Kl (Ub m):=λφ H x y dx dy μ K Q M hx hy k L=>by
 unfold Ub at k;split at k
 .cases hx;cases hy;exact L.val M k rfl
 .cases hx;cases hy;exact⟨k.1,L.val M k.2 rfl⟩
 .let ⟨xs,ex,k⟩:=iz k;let ⟨ys,ey,k⟩:=iz k;obtain⟨p,vx,rfl,hp,ax⟩:=kK M hx ex;obtain⟨q,vy,rfl,hq,ay⟩:=kK M hy ey;exact⟨vx,vy,hp,hq,by rw[ax.len,ay.len];exact k.1,λl hl=>M7 L M (ax.app ay) k.2 hl⟩
def dI2 (C:Int->Int->Prop)(g:Int->Int->D):Dz:=λx y μ K=>match x,y with
 |.int i,.int j=>C i j/\K (g i j) μ
 |_,_=>False
def vD (g:Int->Int->D):Dz:=λx y μ K=>match x,y with
 |.int i,.int j=>K (g i j) μ
 |_,_=>False
def Vp {g:Int->Int->Int}:qZ (UC C λi j=>.int<|g i j) (dI2 C λi j=>.int<|g i j):=λφ H x y dx dy μ K Q M hx hy k L=>by
 unfold dI2 at k;split at k
 .cases hx;cases hy;exact⟨k.1,L.val M k.2 rfl⟩
 .exact k.elim
def R0 {g:Int->Int->Int}:qZ (Ag λi j=>.int<|g i j) (vD λi j=>.int<|g i j):=λφ H x y dx dy μ K Q M hx hy k L=>by
 unfold vD at k;split at k
 .cases hx;cases hy;exact L.val M k rfl
 .exact k.elim
def nX {g:Int->Int->Bool}:qZ (Ag λi j=>.bl<|g i j) (vD λi j=>.bl<|g i j):=λφ H x y dx dy μ K Q M hx hy k L=>by
 unfold vD at k;split at k
 .cases hx;cases hy;exact L.val M k rfl
 .exact k.elim
def WY:Dz:=λx y μ K=>match x,y with
 |.int i,.int j=>Jh i j/\K (.int<|i*j) μ
 |.str z,.int n=>∃ c:Nat,z=⟨#[c]⟩ /\ -1000000<=n/\n<=1000000/\K (.str ⟨(List.replicate n.toNat c).toArray⟩) μ
 |_,_=>False
def p6:qZ Ka WY:=λφ H x y dx dy μ K Q M hx hy k L=>by
 unfold WY at k;split at k
 .cases hx;cases hy;exact⟨k.1,L.val M k.2 rfl⟩
 .cases hx;cases hy;obtain⟨c,rfl,h1,h2,k⟩:=k;exact⟨c,rfl,h1,h2,L.val M k rfl⟩
 .exact k.elim
def MG (neg:Bool):Dz:=λx y μ K=>match x,y with
 |.int i,.int j=>K (.bl<|neg != decide (i=j)) μ
 |.str i,.str j=>K (.bl<|neg != decide (i=j)) μ
 |.bl i,.bl j=>K (.bl<|neg != decide (i=j)) μ
 |_,_=>False
def rH:qZ (Kk neg) (MG neg):=λφ H x y dx dy μ K Q M hx hy k L=>by
 unfold MG at k;split at k
 .cases hx;cases hy;exact L.val M k rfl
 .cases hx;cases hy;exact L.val M k rfl
 .cases hx;cases hy;exact L.val M k rfl
 .exact k.elim
def W3:Dz:=λx y μ K=>match x,y with
 |.str z,.int i=>z.length<=sizeLine/\opt (kr z.cps.toList i) λc=>K (.str ⟨#[c]⟩) μ
 |.tup ds,.int i=>opt (kr ds i) λd=>K d μ
 |x,.int i=>opt (lv μ x) λds=>opt (kr ds i) λd=>K d μ
 |_,_=>False
theorem fV.kr {φ:au ao}{H:Hp}{ds:au D}{vs:au V}{i:Int}{d:D}(h:fV φ H ds vs)(e:kr ds i=some d):∃ v,kr vs i=some v/\jy φ H d v:=by
 unfold L2.kr at e ⊢
 rw[h.len];cases q:EE ds.length i with
 |none=>rw[q]at e;cases e
 |some j=>rw[q]at e;exact h.get e
def Vo:qZ Sd W3:=λφ H x y dx dy μ K Q M hx hy k L=>by
 unfold W3 at k;split at k
 .cases hx;cases hy;let ⟨c,e,k'⟩:=iz k.2;exact⟨k.1,fF e<|L.val M k' rfl⟩
 .cases hy;let ⟨d,e,k⟩:=iz k;obtain⟨p,vs,rfl,_,hp,ha⟩:=hx;let ⟨v,ev,iv⟩:=ha.kr e;exact⟨vs,.inr hp,fF ev<|L.val M k iv⟩
 .cases hy;let ⟨ds,el,k⟩:=iz k;let ⟨d,e,k⟩:=iz k;obtain⟨p,vs,rfl,hp,ha⟩:=kK M hx el;let ⟨v,ev,iv⟩:=ha.kr e;exact⟨vs,.inl hp,fF ev<|L.val M k iv⟩
 .exact k.elim
abbrev DO:=DE->MS->(av Int->MS->Prop)->Prop
def XO (w:DO):TO:=λσ H Q=>∃ φ ρ μ K,lJ φ H ρ σ/\gy φ H μ/\w ρ μ K/\∀ o fZ gO H',K o fZ->Fr φ H gO H'->gy gO H' fZ->Q o H'
def dNo:DO:=λ_ μ K=>K none μ
def WW (w:De):DO:=λρ μ K=>w ρ μ λd gc=>match d with|.int i=>K (some i) gc|_=>False
def cutD (ds:au D)(lo hi:av Int):au D:=(ds.drop<|HT.n6 ds.length 0 lo).take (HT.n6 ds.length ds.length hi - HT.n6 ds.length 0 lo)
def dSlc (m:Bool)(w:De)(l h:DO):De:=λρ μ K=>w ρ μ λx gc=>l ρ gc λlo iP=>h ρ iP λhi t9=>match x with
 |.str z=>z.length<=sizeLine/\K (.str ⟨(lh z.cps.toList lo hi).toArray⟩) t9
 |x=>opt (lv t9 x) λds=>nL m (cutD ds lo hi) t9 K
section
variable {X:Cx}{a b e:Expr}{es:au Expr}{pos:Pos}
def PO.imp {e:av Expr}{t t':TO}(h:PO X e t)(hi:∀ σ H Q,t' σ H Q->t σ H Q):PO X e t':=λfA s σ H Q I q=>h fA s σ H Q I (hi σ H Q q)
def K1:PO X none (XO dNo):=Sk.imp λσ H Q uD=>by obtain⟨φ,ρ,μ,K,A,M,k,L⟩:=uD;exact L none μ φ H k (.refl _ _) M
def lX (h:PD X e w):PO X (some e) (XO<|WW w):=(Kr h).imp λσ H Q ⟨φ,ρ,μ,K,A,M,k,L⟩ =>
 ⟨φ,ρ,μ,_,A,M,k,λd gc gL v1 H1 k1 f1 M1 i1=>by
  cases d with
  |int i=>cases i1;exact L _ gc gL H1 k1 f1 M1
  |_=>exact k1.elim⟩
def fV.cut (h:fV φ H ds vs)(lo hi:av Int):fV φ H (cutD ds lo hi) (Fb vs lo hi):=by unfold cutD Fb;rw[h.len];exact(h.drop _).take _
def mT (m:Bool){lo:av Expr}(ha:PD X a w)(hl:PO X lo (XO l))(hh:PO X hi (XO h)):PD X (.Subscript a (.Slice lo hi none p) pos) (dSlc m w l h):=(Ky slC ha hl hh).imp λσ H Q hq=>by
 obtain⟨φ,ρ,μ,K,A,M,k,L⟩:=hq;refine⟨φ,ρ,μ,_,A,M,k,λd gc gL v1 H1 k1 f1 M1 i1=>⟨gL,ρ,gc,_,A.mono f1,M1,k1,λlo iP lg H2 k2 f2 M2=>⟨lg,ρ,iP,_,A.mono<|f1.trans f2,M2,k2,λhi t9 Ho H3 k3 f3 M3=>?_⟩⟩⟩;have i3:=i1.mono<|f2.trans f3;have L3:=L.mono<|f1.trans<|f2.trans f3;split at k3
 .cases i3;exact⟨k3.1,L3.val M3 k3.2 rfl⟩
 .let ⟨ds,el,k⟩:=iz k3;obtain⟨p,vs,rfl,hp,ha⟩:=kK M3 i3 el;exact⟨vs,hp,λl hl=>M7 L3 M3 (ha.cut lo hi) k hl⟩
end
def Po:j4:=λds μ K=>match ds with
 |[.str z]=>z.length<=sizeLine/\K (.int z.length) μ
 |[.tup xs]=>K (.int xs.length) μ
 |[x]=>opt (lv μ x) λxs=>K (.int xs.length) μ
 |_=>False
def RZ:mF Kg Po:=λφ H vs ds μ K Q M h k L=>by
 unfold Po at k;split at k
 .obtain⟨v,r,rfl,h1,h2⟩:=h;cases h2;cases h1;exact⟨k.1,L.val M k.2 rfl⟩
 .obtain⟨v,r,rfl,h1,h2⟩:=h;cases h2;obtain⟨p,vs,rfl,_,hp,ha⟩:=h1;exact⟨vs,.inr hp,by rw[ha.len];exact L.val M k rfl⟩
 .obtain⟨v,r,rfl,h1,h2⟩:=h;cases h2;let ⟨xs,el,k⟩:=iz k;obtain⟨p,vs,rfl,hp,ha⟩:=kK M h1 el;exact⟨vs,.inl hp,by rw[ha.len];exact L.val M k rfl⟩
 .exact k.elim
def WD:j4:=λds μ K=>match ds with|[.int i,.int j]=>K (.int<|max i j) μ|_=>False
def wz:mF QP WD:=λφ H vs ds μ K Q M h k L=>by
 unfold WD at k;split at k
 .obtain⟨v,r,rfl,h1,u,r',rfl,h2,h3⟩:=h;cases h3;cases h1;cases h2;exact⟨_,_,rfl,L.val M k rfl⟩
 .exact k.elim
def QN:au V->Hp->VK->Prop:=λvs H Q=>∃ i j,vs=[.int i,.int j]/\Q (.int<|min i j) H
def Y9 (hc:X.gH=true):jr X (.builtin "min") QN:=(IL hc).imp λvs H Q q=>by
 obtain⟨i,j,rfl,q⟩:=q;refine⟨_,_,rfl,?_⟩;have e:(if j<i then j else i)=min i j:=by split<;>lia
 rwa [e]
def WC:j4:=λds μ K=>match ds with|[.int i,.int j]=>K (.int<|min i j) μ|_=>False
def RY:mF QN WC:=λφ H vs ds μ K Q M h k L=>by
 unfold WC at k;split at k
 .obtain⟨v,r,rfl,h1,u,r',rfl,h2,h3⟩:=h;cases h3;cases h1;cases h2;exact⟨_,_,rfl,L.val M k rfl⟩
 .exact k.elim
def Rl:j4:=λds μ K=>match ds with
 |[x]=>∃ ns:au Int,lv μ x=some (ns.map D.int)/\ns≠[]/\∀ m,m∈ns->(∀ y∈ns,y<=m)->K (.int m) μ
 |_=>False
def sG:mF Ke Rl:=λφ H vs ds μ K Q M h k L=>by
 unfold Rl at k;split at k
 .obtain⟨v,r,rfl,h1,h2⟩:=h;cases h2;let ⟨ns,el,hn,k⟩:=k;obtain⟨p,vs,rfl,hp,ha⟩:=kK M h1 el;exact⟨ns,by rw[hp,ha.ints],hn,λm a b=>L.val M (k m a b) rfl⟩
 .exact k.elim
def WG (g:au Bool->Bool):j4:=λds μ K=>match ds with
 |[x]=>∃ bs:au Bool,lv μ x=some (bs.map D.bl)/\K (.bl<|g bs) μ
 |_=>False
def z6 {g:au Bool->Bool}:mF (Ca g) (WG g):=λφ H vs ds μ K Q M h k L=>by
 unfold WG at k;split at k
 .obtain⟨v,r,rfl,h1,h2⟩:=h;cases h2;let ⟨bs,el,k⟩:=k;obtain⟨p,vs,rfl,hp,ha⟩:=kK M h1 el;exact⟨bs,by rw[hp,ha.bls],L.val M k rfl⟩
 .exact k.elim
def Rn (m:Bool):j4:=λds μ K=>match ds with
 |[x]=>opt (lv μ x) λxs=>nL m xs μ K
 |_=>False
def qA:mF (Ea Kf) (Rn m):=λφ H vs ds μ K Q M h k L=>by
 unfold Rn at k;split at k
 .obtain⟨v,r,rfl,h1,h2⟩:=h;cases h2;let ⟨xs,el,k⟩:=iz k;obtain⟨p,vs,rfl,hp,ha⟩:=kK M h1 el;exact⟨vs,qu.of hp,λl hl=>M7 L M ha k hl⟩
 .exact k.elim
def L6:U7:=λd ds μ K=>match d,ds with
 |.str z,[x]=>z.cps=#[]/\∃ ys:au Str,lv μ x=some (ys.map D.str)/\(ys.map (·.length)).sum<=16777216/\K (.str ⟨(ys.map (·.cps.toList)).flatten.toArray⟩) μ
 |_,_=>False
def z5:Nd Kf "str" Eb L6:=λφ H x vs d ds μ K Q M hx h k L=>by
 unfold L6 at k;split at k
 .cases hx;obtain⟨v,r,rfl,h1,h2⟩:=h;cases h2;let ⟨hz,ys,el,hs,k⟩:=k;obtain⟨p,vs,rfl,hp,ha⟩:=kK M h1 el;exact⟨hz,ys,by rw[hp,ha.strs],hs,L.val M k rfl⟩
 .exact k.elim
def Ro:U7:=λd ds μ K=>match d,ds with
 |.str z,[.str y,.int i]=>∃ c:Nat,y=⟨#[c]⟩/\0<=i/\i<=z.length/\∀ r,GF z.cps.toList c i.toNat r->K (.int r) μ
 |_,_=>False
def N8:Nd Kf "str" Kj Ro:=λφ H x vs d ds μ K Q M hx h k L=>by
 unfold Ro at k;split at k
 .cases hx;obtain⟨v,r,rfl,h1,u,r',rfl,h2,h3⟩:=h;cases h3;cases h1;cases h2;obtain⟨c,rfl,h0,h1,k⟩:=k;exact⟨_,c,_,rfl,rfl,h0,h1,λr hr=>L.val M (k r hr) rfl⟩
 .exact k.elim
def VT (M:gy φ H μ)(hx:jy φ H (.mr k) x)(e:μ[k]?=some (.lst ds)):∃ p vs,x=.ref p/\φ[k]?=some p/\H p=some (.lst vs)/\fV φ H ds vs:=by obtain⟨p,hp,rfl⟩:=hx;let ⟨q,e1,vs,hv,ha⟩:=M.at_ k _ e;rw[hp]at e1;cases e1;exact⟨p,vs,rfl,hp,hv,ha⟩
def SO {K:DK}(L:wg φ H K Q)(M:gy φ H μ)(hp:φ[k]?=some p)(ha:fV φ H ds vs)(hd:jy φ H d v)(kk:K d (μ.set k<|.lst ds)):Q v (upd H p<|.lst vs):=by have f:Fr φ H φ (upd H p<|.lst vs):=.put<|kq hp;exact L d _ φ v _ kk f (M.put hp ⟨_,fX,ha.mono f⟩) (hd.mono f)
def GI:U7:=λd ds μ K=>match d,ds with
 |.mr k,[y]=>opt (nP μ k) λxs=>xs.length<sizeLine/\K .iC (μ.set k<|.lst<|xs++[y])
 |_,_=>False
def ot:Nd Kf "list" B9 GI:=λφ H x vs d ds μ K Q M hx h k L=>by
 unfold GI at k;split at k
 .let ⟨xs,em,k⟩:=iz k
  .obtain⟨p,us,rfl,hp,hv,ha⟩:=VT M hx<|jP em;obtain⟨v,r,rfl,h1,h2⟩:=h;cases h2;exact⟨_,_,us,rfl,rfl,hv,by rw[ha.len];exact k.1,SO (d:=.iC) L M hp (ha.app<|show fV φ H [_] [v]from⟨v,[],rfl,h1,rfl⟩) rfl k.2⟩
 .exact k.elim
def wA {f:Int->Int->Int}:Xn (V5 f) (vD λi j=>.int<|f i j):=λφ H x y dx dy μ K Q M hx hy k L=>by
 unfold vD at k;split at k
 .cases hx;cases hy;exact L.val M k rfl
 .exact k.elim
mutual
def ud:D->D->Bool
 |.iC,.iC=>true
 |.bl a,.bl b=>a==b
 |.bl a,.int b=>(if a then 1 else 0)==b
 |.int a,.bl b=>a==(if b then 1 else 0)
 |.int a,.int b=>a==b
 |.str a,.str b=>a==b
 |.lst xs,.lst ys=>ph xs ys
 |.tup xs,.tup ys=>ph xs ys
 |_,_=>false
def ph:List D->List D->Bool
 |[],[]=>true
 |x::xs,y::ys=>ud x y&&ph xs ys
 |_,_=>false
end
mutual
def yT:Nat->D->Prop
 |n+1,.lst ds=>Cb n ds
 |n+1,.tup ds=>Cb n ds
 |0,.lst _=>False
 |0,.tup _=>False
 |_,.jS _ _=>False
 |_,.mr _=>False
 |_,.obj _ _ _=>False
 |_,.uc _ _=>False
 |_,.fn _=>False
 |_,_=>True
def Cb:Nat->List D->Prop
 |_,[]=>True
 |n,d::ds=>yT n d/\Cb n ds
end
theorem sO:∀ {ds:au D} {i:Nat} {d:D},Cb n ds->ds[i]?=some d->yT n d
 |[],_,_,_,e=>by simp at e
 |d::ds,0,d',h,e=>by simp at e;subst e;exact h.1
 |d::ds,i+1,d',h,e=>sO h.2 (by simpa using e)
mutual
theorem CW {φ:List ao}{H:Hp}:∀ {n:Nat} {d e:D} {v:V},yT n d->yT n e->jy φ H d v->jy φ H e v->ud d e=true:=λ{n d e v} pd pe hd he=>by
 cases d with
 | iC=>cases(show v=_ from hd);cases e with
  |iC=>rfl
  |lst _=>obtain⟨_,_,q,_⟩:=he;cases q
  |tup _=>obtain⟨_,_,q,_⟩:=he;cases q
  |jS _ _=>obtain⟨_,_,_,q,_⟩:=he;cases q
  |mr _=>obtain⟨_,_,q⟩:=he;cases q
  |obj _ _ _=>obtain⟨_,_,_,_,q,_⟩:=he;cases q
  |uc _ _=>obtain⟨_,_,_,_,q,_⟩:=he;cases q
  |_=>cases(show _=_ from he)
 | bl b=>cases(show v=_ from hd);cases e with
  |bl c=>cases(show _=_ from he);simp[ud]
  |lst _=>obtain⟨_,_,q,_⟩:=he;cases q
  |tup _=>obtain⟨_,_,q,_⟩:=he;cases q
  |jS _ _=>obtain⟨_,_,_,q,_⟩:=he;cases q
  |mr _=>obtain⟨_,_,q⟩:=he;cases q
  |obj _ _ _=>obtain⟨_,_,_,_,q,_⟩:=he;cases q
  |uc _ _=>obtain⟨_,_,_,_,q,_⟩:=he;cases q
  |_=>cases(show _=_ from he)
 | int b=>cases(show v=_ from hd);cases e with
  |int c=>cases(show _=_ from he);simp[ud]
  |lst _=>obtain⟨_,_,q,_⟩:=he;cases q
  |tup _=>obtain⟨_,_,q,_⟩:=he;cases q
  |jS _ _=>obtain⟨_,_,_,q,_⟩:=he;cases q
  |mr _=>obtain⟨_,_,q⟩:=he;cases q
  |obj _ _ _=>obtain⟨_,_,_,_,q,_⟩:=he;cases q
  |uc _ _=>obtain⟨_,_,_,_,q,_⟩:=he;cases q
  |_=>cases(show _=_ from he)
 | str b=>cases(show v=_ from hd);cases e with
  |str c=>cases(show _=_ from he);simp[ud]
  |lst _=>obtain⟨_,_,q,_⟩:=he;cases q
  |tup _=>obtain⟨_,_,q,_⟩:=he;cases q
  |jS _ _=>obtain⟨_,_,_,q,_⟩:=he;cases q
  |mr _=>obtain⟨_,_,q⟩:=he;cases q
  |obj _ _ _=>obtain⟨_,_,_,_,q,_⟩:=he;cases q
  |uc _ _=>obtain⟨_,_,_,_,q,_⟩:=he;cases q
  |_=>cases(show _=_ from he)
 | lst ds =>
  obtain⟨p,vs,rfl,_,hp,ha⟩:=hd;cases n with
  |zero=>exact False.elim pd
  | succ n =>
   cases e with
   | lst es =>obtain⟨p',Yv,q,_,Iq,UX⟩:=he;cases q;rw[hp]at Iq;cases Iq;exact uL pd pe ha UX
   |tup es=>obtain⟨p',Yv,q,_,Iq,UX⟩:=he;cases q;rw[hp]at Iq;cases Iq
   |jS _ _=>exact False.elim pe
   |mr _=>exact False.elim pe
   |obj _ _ _=>exact False.elim pe
   |uc _ _=>exact False.elim pe
   |fn _=>exact False.elim pe
   |_=>cases(show _=_ from he)
 | tup ds =>
  obtain⟨p,vs,rfl,_,hp,ha⟩:=hd;cases n with
  |zero=>exact False.elim pd
  | succ n =>
   cases e with
   | tup es =>obtain⟨p',Yv,q,_,Iq,UX⟩:=he;cases q;rw[hp]at Iq;cases Iq;exact uL pd pe ha UX
   |lst es=>obtain⟨p',Yv,q,_,Iq,UX⟩:=he;cases q;rw[hp]at Iq;cases Iq
   |jS _ _=>exact False.elim pe
   |mr _=>exact False.elim pe
   |obj _ _ _=>exact False.elim pe
   |uc _ _=>exact False.elim pe
   |fn _=>exact False.elim pe
   |_=>cases(show _=_ from he)
 |jS _ _=>exact absurd pd (by cases n<;>exact id)
 |mr _=>exact absurd pd (by cases n<;>exact id)
 |obj _ _ _=>exact absurd pd (by cases n<;>exact id)
 |uc _ _=>exact absurd pd (by cases n<;>exact id)
 |fn _=>exact absurd pd (by cases n<;>exact id)
theorem uL {φ:List ao}{H:Hp}:∀ {n:Nat} {ds es:List D} {vs:List V},Cb n ds->Cb n es->fV φ H ds vs->fV φ H es vs->ph ds es=true:=λ{n ds es vs} pd pe hd he=>by
 cases ds with
 | nil =>
  cases(show vs=[]from hd);cases es with
  |nil=>unfold ph;rfl
  |cons e es=>obtain⟨_,_,q,_⟩:=he;cases q
 | cons d ds =>
  obtain⟨v,r,rfl,h1,h2⟩:=hd;cases es with
  |nil=>cases(show _=_ from he)
  | cons e es =>obtain⟨v',r',q,h3,h4⟩:=he;cases q;unfold Cb at pd pe;unfold ph;rw[CW pd.1 pe.1 h1 h3,uL pd.2 pe.2 h2 h4];rfl
end
theorem qm:∀ {ds es:au D},ds.length≠es.length->ph ds es=false
 |[],[],h=>absurd rfl h
 |[],_::_,_=>by rfl
 |_::_,[],_=>by rfl
 |d::ds,e::es,h=>by unfold ph;rw[qm (by simpa using h),eS]
def yx (ds es:au D)(j:Nat):Bool:=match ds[j]?,es[j]? with|some a,some b=>ud a b|_,_=>true
def wL (n:Nat)(f:Nat->Bool):(List.range<|n+1).all f=(f 0&&(List.range n).all λj=>f<|j+1):=by rw[eO,dG,List.all_map];rfl
theorem nj:∀(ds es:au D),ds.length=es.length->(List.range ds.length).all (yx ds es)=ph ds es
 |[],[],_=>by rfl
 |[],_::_,h=>by simp at h
 |_::_,[],h=>by simp at h
 | d::ds,e::es,h=>by
  rw[a8,wL];have ih:=nj ds es (by simpa using h);have e1:(λj=>yx (d::ds) (e::es)<|j+1)=yx ds es:=by funext j;unfold yx;simp
  rw[e1,ih];rfl
section
variable {X:Cx}{fA:au (ao×Obj)}{σ:St}{H:Hp}{s:ak}{φ:au ao}
def zM (r:gC xs us)(h1:j<us.toArray.size):∃ x,xs[j]?=some x/\gB x us.toArray[j]:=by
 have hx:j<xs.length:=by rwa [r.length]
 let ⟨u,eu,ru⟩:=r.get<|iD hx;refine⟨_,iD hx,?_⟩;have:us.toArray[j]=u:=by have:=kB eu;simpa using this.2
 rwa [this]
def wB (I:Inv X fA σ H s)(pd:yT n d)(hd:jy φ H d x)(ru:gB x u):(∀ p,u≠.ref p)\/∃ p gb ds vs,u=.ref p/\gC vs gb/\fV φ H ds vs/\∃ m,n=m+1/\Cb m ds/\((d=.lst ds/\s.heap.IsList p gb.toArray)\/(d=.tup ds/\s.heap.IsTuple p gb.toArray)):=by
 cases d with
 |iC=>cases hd;cases ru;exact .inl λp q=>by cases q
 |bl b=>cases hd;cases ru;exact .inl λp q=>by cases q
 |int b=>cases hd;obtain⟨t,rfl⟩:=ru;exact .inl λp q=>by cases q
 |str b=>cases hd;obtain⟨t,rfl⟩:=ru;exact .inl λp q=>by cases q
 | lst ds =>
  obtain⟨p,vs,rfl,_,hp,ha⟩:=hd;cases ru;let ⟨_,gb,k,r,_,ho⟩:=I.mq hp;cases n with
  |zero=>exact False.elim pd
  |succ n=>exact .inr ⟨p,gb,ds,vs,rfl,r,ha,n,rfl,pd,.inl ⟨rfl,⟨_,ho,rfl,k,rfl⟩⟩⟩
 | tup ds =>
  obtain⟨p,vs,rfl,_,hp,ha⟩:=hd;cases ru;let ⟨_,gb,r,ho⟩:=(I.iH p _ hp);cases n with
  |zero=>exact False.elim pd
  |succ n=>exact .inr ⟨p,gb,ds,vs,rfl,r,ha,n,rfl,pd,.inr ⟨rfl,ho⟩⟩
 |jS _ _=>exact absurd pd (by cases n<;>exact id)
 |mr _=>exact absurd pd (by cases n<;>exact id)
 |obj _ _ _=>exact absurd pd (by cases n<;>exact id)
 |uc _ _=>exact absurd pd (by cases n<;>exact id)
 |fn _=>exact absurd pd (by cases n<;>exact id)
def GC (pd:yT n d)(hd:jy φ H d x)(fx:lQ x=true):(d=.iC/\x=.iC)\/(∃ b,d=.bl b/\x=.bl b)\/(∃ b,d=.int b/\x=.int b)\/∃ b,d=.str b/\x=.str b:=by
 cases d with
 |iC=>exact .inl ⟨rfl,hd⟩
 |bl b=>exact .inr (.inl ⟨b,rfl,hd⟩)
 |int b=>exact .inr (.inr<|.inl ⟨b,rfl,hd⟩)
 |str b=>exact .inr (.inr<|.inr ⟨b,rfl,hd⟩)
 |lst ds=>obtain⟨p,vs,rfl,_⟩:=hd;cases fx
 |tup ds=>obtain⟨p,vs,rfl,_⟩:=hd;cases fx
 |jS _ _=>exact absurd pd (by cases n<;>exact id)
 |mr _=>exact absurd pd (by cases n<;>exact id)
 |obj _ _ _=>exact absurd pd (by cases n<;>exact id)
 |uc _ _=>exact absurd pd (by cases n<;>exact id)
 |fn _=>exact absurd pd (by cases n<;>exact id)
def J8 (I:Inv X fA σ H s)(n:Nat)(A:Around)(ds es:au D)(vs ws:au V)(gb yq:au ar)(p q:ao)(hu:A.units<cLine)
 (ih:∀(d e:D) (x y:V) (u v:ar),yT n d->yT n e->jy φ H d x->jy φ H e y->gB x u->gB y v->SeqAt.EqAt A.in1 s u v (ud d e)) (pd:Cb n ds) (pe:Cb n es) (hd:fV φ H ds vs) (he:fV φ H es ws) (rv:gC vs gb) (DJ:gC ws yq):
 (s.heap.IsList p gb.toArray->s.heap.IsList q yq.toArray->SeqAt.RcAt A s (.ref p) (.ref q) (ph ds es))/\(s.heap.IsTuple p gb.toArray->s.heap.IsTuple q yq.toArray->SeqAt.RcAt A s (.ref p) (.ref q) (ph ds es)):=by
 have l1:gb.toArray.size=ds.length:=by rw[aG,<- rv.length,hd.len]
 have l2:yq.toArray.size=es.length:=by rw[aG,<- DJ.length,he.len]
 have el:∀ j (h1:j<gb.toArray.size) (h2:j<yq.toArray.size),SeqAt.EqAt A.in1 s gb.toArray[j] yq.toArray[j] (yx ds es j):=λj h1 h2=>by
  obtain⟨x,ex,rx⟩:=zM rv h1;obtain⟨y,ey,ry⟩:=zM DJ h2;obtain⟨d,ed,id'⟩:=hd.CL ex;obtain⟨e,ee,ie⟩:=he.CL ey;have q:yx ds es j=ud d e:=by unfold yx;rw[ed,ee]
  rw[q];exact ih d e x y _ _ (sO pd ed) (sO pe ee) id' ie rx ry
 constructor
 .intro hl hq;by_cases hlen:ds.length=es.length
  .have:=SeqAt.RcAt.lists hl hq (by rw[l1,l2,hlen]) hu el;rwa [l1,nj ds es hlen]at this
  .rw[qm hlen];exact SeqAt.RcAt.lists_lengths hl hq (by rw[l1,l2];simpa using hlen) hu
 .intro hl hq;have:=SeqAt.RcAt.tuples hl hq hu el;rw[l1,l2]at this;by_cases hlen:ds.length=es.length
  .rw[<- hlen,Nat.min_self,nj ds es hlen]at this;simpa using this
  .rw[qm hlen];have e0:(ds.length==es.length)=false:=by simpa using hlen
   rwa [e0,eS]at this
def Mj (I:Inv X fA σ H s):∀(n:Nat) (A:Around) (d e:D) (x y:V) (u v:ar),A.units+n<cLine->yT n d->yT n e->jy φ H d x->jy φ H e y->gB x u->gB y v->SeqAt.EqAt A s u v (ud d e):=by
 intro n;induction n with
 | zero =>
  intro A d e x y u v hu pd pe hd he ru rv;have fl:∀ {d:D} {x:V},yT 0 d->jy φ H d x->lQ x=true:=λ{d x} pd hd=>by
   cases d with
   |iC=>cases hd;rfl
   |bl b=>cases hd;rfl
   |int b=>cases(show x=_ from hd);rfl
   |str b=>cases(show x=_ from hd);rfl
   |_=>exact False.elim pd
  have q:=E6 (A:=A) (s:=s) ru rv (fl pd hd)<|fl pe he;have eq:Mi x y=ud d e:=by
   cases d <;> first
    |exact False.elim pd
    | (cases(show x=_ from hd)
       cases e <;> first
        |exact False.elim pe
        |(cases(show y=_ from he);rfl))
  rw[eq]at q;exact q
 | succ n ih =>
  intro A d e x y u v hu pd pe hd he ru rv;have AF:A.units<cLine:=by lia
  have X6:A.in1.units+n<cLine:=by show A.units+1+n<cLine;lia
  rcases wB I pd hd ru with fd|⟨p,gb,ds,vs,rfl,r1,a1,m1,e1,p1,k1⟩
  .rcases wB I pe he rv with fe | ⟨q,yq,es,ws,rfl,r2,a2,m2,e2,p2,k2⟩
   .have fl:∀ {d:D} {x:V} {u:ar},yT (n+1) d->jy φ H d x->gB x u->(∀ p,u≠.ref p)->lQ x=true:=λ{d x u} pd hd ru fu=>by
     cases d with
     |iC=>cases(show x=_ from hd);rfl
     |bl b=>cases(show x=_ from hd);rfl
     |int b=>cases(show x=_ from hd);rfl
     |str b=>cases(show x=_ from hd);rfl
     |lst ds=>obtain⟨p,vs,rfl,_⟩:=hd;cases ru;exact absurd rfl (fu p)
     |tup ds=>obtain⟨p,vs,rfl,_⟩:=hd;cases ru;exact absurd rfl (fu p)
     |_=>exact False.elim pd
    have fx:=fl pd hd ru fd
    have fy:=fl pe he rv fe
    have q:=E6 (A:=A) (s:=s) ru rv fx fy
    have eq:Mi x y=ud d e:=by
     rcases GC pd hd fx with⟨rfl,rfl⟩|⟨b,rfl,rfl⟩|⟨b,rfl,rfl⟩|⟨b,rfl,rfl⟩<;>
     rcases GC pe he fy with⟨rfl,rfl⟩|⟨c,rfl,rfl⟩|⟨c,rfl,rfl⟩|⟨c,rfl,rfl⟩<;> (rfl)
    rw[eq]at q
    exact q
   .rcases k2 with⟨rfl,hl⟩ | ⟨rfl,hl⟩
    .cases d with
     |iC=>cases(show x=_ from hd);cases ru;exact SeqAt.EqAt.none_list hl AF
     |bl b=>cases(show x=_ from hd);cases ru;exact SeqAt.EqAt.bool_list b hl AF
     |int b=>cases(show x=_ from hd);obtain⟨t,rfl⟩:=ru;exact SeqAt.EqAt.int_list b t hl AF
     |str b=>cases(show x=_ from hd);obtain⟨t,rfl⟩:=ru;exact SeqAt.EqAt.str_list b t hl AF
     |lst _=>obtain⟨_,_,rfl,_⟩:=hd;cases ru;exact absurd rfl (fd _)
     |tup _=>obtain⟨_,_,rfl,_⟩:=hd;cases ru;exact absurd rfl (fd _)
     |_=>exact False.elim pd
    .cases d with
     |iC=>cases(show x=_ from hd);cases ru;exact SeqAt.EqAt.none_tuple hl AF
     |bl b=>cases(show x=_ from hd);cases ru;exact SeqAt.EqAt.bool_tuple b hl AF
     |int b=>cases(show x=_ from hd);obtain⟨t,rfl⟩:=ru;exact SeqAt.EqAt.int_tuple b t hl AF
     |str b=>cases(show x=_ from hd);obtain⟨t,rfl⟩:=ru;exact SeqAt.EqAt.str_tuple b t hl AF
     |lst _=>obtain⟨_,_,rfl,_⟩:=hd;cases ru;exact absurd rfl (fd _)
     |tup _=>obtain⟨_,_,rfl,_⟩:=hd;cases ru;exact absurd rfl (fd _)
     |_=>exact False.elim pd
  .rcases wB I pe he rv with fe | ⟨q,yq,es,ws,rfl,r2,a2,m2,e2,p2,k2⟩
   .rcases k1 with⟨rfl,hl⟩ | ⟨rfl,hl⟩
    .cases e with
     |iC=>cases(show y=_ from he);cases rv;exact SeqAt.EqAt.list_none hl AF
     |bl b=>cases(show y=_ from he);cases rv;exact SeqAt.EqAt.list_bool b hl AF
     |int b=>cases(show y=_ from he);obtain⟨t,rfl⟩:=rv;exact SeqAt.EqAt.list_int b t hl AF
     |str b=>cases(show y=_ from he);obtain⟨t,rfl⟩:=rv;exact SeqAt.EqAt.list_str b t hl AF
     |lst _=>obtain⟨_,_,rfl,_⟩:=he;cases rv;exact absurd rfl (fe _)
     |tup _=>obtain⟨_,_,rfl,_⟩:=he;cases rv;exact absurd rfl (fe _)
     |_=>exact False.elim pe
    .cases e with
     |iC=>cases(show y=_ from he);cases rv;exact SeqAt.EqAt.tuple_none hl AF
     |bl b=>cases(show y=_ from he);cases rv;exact SeqAt.EqAt.tuple_bool b hl AF
     |int b=>cases(show y=_ from he);obtain⟨t,rfl⟩:=rv;exact SeqAt.EqAt.tuple_int b t hl AF
     |str b=>cases(show y=_ from he);obtain⟨t,rfl⟩:=rv;exact SeqAt.EqAt.tuple_str b t hl AF
     |lst _=>obtain⟨_,_,rfl,_⟩:=he;cases rv;exact absurd rfl (fe _)
     |tup _=>obtain⟨_,_,rfl,_⟩:=he;cases rv;exact absurd rfl (fe _)
     |_=>exact False.elim pe
   .cases e1;cases e2;have rc:=J8 I n A ds es vs ws gb yq p q AF (λd e x y u v a b c d' e' f'=>ih A.in1 d e x y u v X6 a b c d' e' f') p1 p2 a1 a2 r1 r2;by_cases Zz:p=q
    .subst Zz;have hv:x=y:=ru.inj rv;subst hv;rw[CW pd pe hd he];exact SeqAt.EqAt.same _
    .rcases k1 with⟨rfl,hl⟩ | ⟨rfl,hl⟩<;> rcases k2 with⟨rfl,sv⟩ | ⟨rfl,sv⟩
     .exact .of_refs Zz (rc.1 hl sv)
     .exact SeqAt.EqAt.list_tuple hl sv AF
     .exact SeqAt.EqAt.tuple_list hl sv AF
     .exact .of_refs Zz (rc.2 hl sv)
end
section
variable {X:Cx}
def YS:D->D->av (au D×au D)
 |.lst xs,.lst ys=>some (xs,ys)
 |.tup xs,.tup ys=>some (xs,ys)
 |_,_=>none
def Se (n:Nat)(neg:Bool):R2:=λx y H Q=>∃ φ d e,yT n d/\yT n e/\jy φ H d x/\jy φ H e y/\(YS d e).isSome=true/\Q (.bl<|neg != ud d e) H
def Fx (I:Inv X fA σ H s)(pd:yT n d)(pe:yT n e)(hd:jy φ H d x)(he:jy φ H e y)(rx:gB x u)(ry:gB y v)(hs:(YS d e).isSome=true):
 ∃ p q gb yq ds es vs ws m,u=.ref p/\v=.ref q/\n=m+1/\gC vs gb/\gC ws yq/\fV φ H ds vs/\fV φ H es ws/\Cb m ds/\Cb m es/\((d=.lst ds/\e=.lst es/\s.heap.IsList p gb.toArray/\s.heap.IsList q yq.toArray)\/(d=.tup ds/\e=.tup es/\s.heap.IsTuple p gb.toArray/\s.heap.IsTuple q yq.toArray)):=by
 rcases wB I pd hd rx with fd|⟨p,gb,ds,vs,rfl,r1,a1,m1,rfl,p1,k1⟩
 .cases d with
  |lst _=>obtain⟨_,_,rfl,_⟩:=hd;cases rx;exact absurd rfl (fd _)
  |tup _=>obtain⟨_,_,rfl,_⟩:=hd;cases rx;exact absurd rfl (fd _)
  |_=>cases hs
 .rcases wB I pe he ry with fe | ⟨q',yq,es,ws,rfl,r2,a2,m2,e2,p2,k2⟩
  .rcases k1 with⟨rfl,_⟩ | ⟨rfl,_⟩
   .cases e with
    |lst _=>obtain⟨_,_,rfl,_⟩:=he;cases ry;exact absurd rfl (fe _)
    |_=>cases hs
   .cases e with
    |tup _=>obtain⟨_,_,rfl,_⟩:=he;cases ry;exact absurd rfl (fe _)
    |_=>cases hs
  .cases e2;refine⟨p,q',gb,yq,ds,es,vs,ws,m1,rfl,rfl,rfl,r1,r2,a1,a2,p1,p2,?_⟩;rcases k1 with⟨rfl,hl⟩|⟨rfl,hl⟩<;> rcases k2 with⟨rfl,sv⟩|⟨rfl,sv⟩
   .exact .inl ⟨rfl,rfl,hl,sv⟩
   .cases hs
   .cases hs
   .exact .inr ⟨rfl,rfl,hl,sv⟩
def aav (hu:X.A.units+n<cLine):lq X (compareOp .Eq) (Se n false):=by
 intro fA s σ H x y u v Q I rx ry h;let ⟨φ,d,e,pd,pe,hd,he,hs,q⟩:=h;obtain⟨p,q',gb,yq,ds,es,vs,ws,m1,rfl,rfl,rfl,r1,r2,a1,a2,p1,p2,kk⟩:=Fx I pd pe hd he rx ry hs;have rc:=J8 I m1 X.A ds es vs ws gb yq p q' (by lia) (λd e x y u v a b c d' e' f'=>Mj I m1 X.A.in1 d e x y u v (by lia) a b c d' e' f') p1 p2 a1 a2 r1 r2;rcases kk with⟨rfl,rfl,hl,sv⟩|⟨rfl,rfl,hl,sv⟩
 .exact rc.1 hl sv X.prog X.w X.xe _ ⟨.bl _,H,I,rfl,by rw[UZ]at q;exact q⟩
 .exact rc.2 hl sv X.prog X.w X.xe _ ⟨.bl _,H,I,rfl,by rw[UZ]at q;exact q⟩
def K7 (hu:X.A.units+n<cLine):lq X (compareOp .NotEq) (Se n true):=by
 intro fA s σ H x y u v Q I rx ry h;let ⟨φ,d,e,pd,pe,hd,he,hs,q⟩:=h;obtain⟨p,q',gb,yq,ds,es,vs,ws,m1,rfl,rfl,rfl,r1,r2,a1,a2,p1,p2,kk⟩:=Fx I pd pe hd he rx ry hs;have l1:gb.toArray.size=ds.length:=by rw[aG,<- r1.length,a1.len]
 have l2:yq.toArray.size=es.length:=by rw[aG,<- r2.length,a2.len]
 have el:∀ j (h1:j<gb.toArray.size) (h2:j<yq.toArray.size),SeqAt.EqAt X.A.in1 s gb.toArray[j] yq.toArray[j] (yx ds es j):=λj h1 h2=>by
  let ⟨x,ex,rx⟩:=zM r1 h1;obtain⟨y,ey,ry⟩:=zM r2 h2;obtain⟨d,ed,id'⟩:=a1.CL ex;obtain⟨e,ee,ie⟩:=a2.CL ey;have q:yx ds es j=ud d e:=by unfold yx;rw[ed,ee]
  rw[q];exact Mj I m1 X.A.in1 d e x y _ _ (by lia) (sO p1 ed) (sO p2 ee) id' ie rx ry
 have fin:Q (.bl<|!ph ds es) H->EP X fA σ Q (.bool<|!ph ds es) s:=λq=>⟨.bl _,H,I,rfl,q⟩;rcases kk with⟨rfl,rfl,hl,sv⟩|⟨rfl,rfl,hl,sv⟩
 .rw[Ux]at q;by_cases hlen:ds.length=es.length
  .have:=SeqAt.RcNeAt.lists hl sv (by rw[l1,l2,hlen]) (by lia) el;rw[l1,nj ds es hlen]at this;exact this X.prog X.w X.xe _ (fin q)
  .have t:=fin q;rw[qm hlen]at t;exact SeqAt.RcNeAt.lists_lengths hl sv (by rw[l1,l2];simpa using hlen) (by lia) X.prog X.w X.xe _ t
 .rw[Ux]at q;have this:=SeqAt.RcNeAt.tuples hl sv (by lia) el;rw[l1,l2]at this;by_cases hlen:ds.length=es.length
  .rw[<- hlen,Nat.min_self,nj ds es hlen]at this;exact this X.prog X.w X.xe _ (by simpa using fin q)
  .have t:=fin q;rw[qm hlen]at t;have e0:(ds.length==es.length)=false:=by simpa using hlen
   rw[e0,eS]at this;exact this X.prog X.w X.xe _ t
def dEqD (n:Nat)(neg:Bool):Dz:=λx y μ K=>yT n x/\yT n y/\(YS x y).isSome=true/\K (.bl<|neg != ud x y) μ
def JV:qZ (Se n neg) (dEqD n neg):=λφ H x y dx dy μ K Q M hx hy k L=>⟨φ,dx,dy,k.1,k.2.1,hx,hy,k.2.2.1,L.val M k.2.2.2 rfl⟩
end
mutual
theorem GP:∀(d:D) (n:Nat),yT n d->ud d d=true
 |.iC,_,_=>rfl
 |.bl _,_,_=>by simp[ud]
 |.int _,_,_=>by simp[ud]
 |.str _,_,_=>by simp[ud]
 |.lst ds,0,h=>absurd h id
 |.lst ds,n+1,h=>xC ds n h
 |.tup ds,0,h=>absurd h id
 |.tup ds,n+1,h=>xC ds n h
 |.jS _ _,n,h=>absurd h (by cases n<;>exact id)
 |.mr _,n,h=>absurd h (by cases n<;>exact id)
 |.obj _ _ _,n,h=>absurd h (by cases n<;>exact id)
 |.uc _ _,n,h=>absurd h (by cases n<;>exact id)
 |.fn _,n,h=>absurd h (by cases n<;>exact id)
theorem xC:∀(ds:List D) (n:Nat),Cb n ds->ph ds ds=true
 |[],_,_=>by unfold ph;rfl
 |d::ds,n,h=>by unfold Cb at h;unfold ph;rw[GP d n h.1,xC ds n h.2];rfl
end
def pf:D->Bool
 |.iC=>true
 |.bl _=>true
 |.int _=>true
 |.str _=>true
 |_=>false
section
variable {X:Cx}
def Ki (neg:Bool):R2:=λx y H Q=>match x,y with
 |.str z,.str t=>∃ c:Nat,z=⟨#[c]⟩/\Q (.bl<|neg != decide (c∈t.cps.toList)) H
 |x,.ref p=>∃ xs,(H p=some (.lst xs)\/H p=some (.tup xs))/\lQ x=true/\xs.all lQ=true/\Q (.bl<|neg != UM x xs) H
 |_,_=>False
def inC:lq X (compareOp .In) (Ki false):=(HL.or HM).imp λx y H Q q=>by
 unfold Ki at q;split at q
 .obtain⟨c,rfl,q⟩:=q;exact .inl ⟨_,_,rfl,rfl,by rw[StrLaws.found_one];rw[UZ]at q;exact q⟩
 .let ⟨xs,h,h1,h2,q⟩:=q;rw[UZ]at q;rcases h with h|h
  .exact .inr ⟨_,xs,rfl,.inl<|qu.of h,h1,h2,q⟩
  .exact .inr ⟨_,xs,rfl,.inr<|Jc.of h,h1,h2,q⟩
 .exact q.elim
def K3:lq X (compareOp .NotIn) (Ki true):=(Ai.or Aj).imp λx y H Q q=>by
 unfold Ki at q;split at q
 .obtain⟨c,rfl,q⟩:=q;exact .inl ⟨_,_,rfl,rfl,by rw[StrLaws.found_one];rw[Ux]at q;exact q⟩
 .let ⟨xs,h,h1,h2,q⟩:=q;rw[Ux]at q;rcases h with h|h
  .exact .inr ⟨_,xs,rfl,.inl<|qu.of h,h1,h2,q⟩
  .exact .inr ⟨_,xs,rfl,.inr<|Jc.of h,h1,h2,q⟩
 .exact q.elim
end
def dIn (neg:Bool):Dz:=λx y μ K=>match x,y with
 |.str z,.str t=>∃ c:Nat,z=⟨#[c]⟩/\K (.bl<|neg != decide (c∈t.cps.toList)) μ
 |x,y=>opt (lv μ y) λds=>pf x=true/\ds.all pf=true/\K (.bl<|neg != ds.any λd=>ud d x) μ
def LV (i:jy φ H d v)(h:pf d=true):lQ v=true:=by cases d<;>first|exact(Bool.noConfusion h)|(cases i;rfl)
def TK (i:jy φ H d v)(j:jy φ H e u)(h:pf d=true)(h':pf e=true):Mi v u=ud d e:=by
 cases d <;> first
  |exact(Bool.noConfusion h)
  | (cases i
     cases e <;> first
      |exact(Bool.noConfusion h')
      |(cases j;rfl))
theorem GB (i:jy φ H x v)(hx:pf x=true):∀ {ds:au D} {vs:au V},fV φ H ds vs->ds.all pf=true->vs.all lQ=true/\UM v vs=ds.any λd=>ud d x
 |[],_,h,_=>by cases h;exact⟨rfl,rfl⟩
 | d::ds,_,h,f=>by
  obtain⟨u,r,rfl,h1,h2⟩:=h;rw[dG,cv]at f;let ⟨a,b⟩:=GB i hx h2 f.2;unfold UM at b ⊢
  rw[dG,c6,c6,a,b,LV h1 f.1,TK h1 i f.1 hx];exact⟨rfl,rfl⟩
def FJ:qZ (Ki neg) (dIn neg):=λφ H x y dx dy μ K Q M hx hy k L=>by
 unfold dIn at k;split at k
 .cases hx;cases hy;obtain⟨c,rfl,k⟩:=k;exact⟨c,rfl,L.val M k rfl⟩
 .let ⟨ds,el,f1,f2,k⟩:=iz k;obtain⟨p,vs,rfl,hp,ha⟩:=kK M hy el;let ⟨a,b⟩:=GB hx f1 ha f2;have fx:=LV hx f1;have key:∃ xs,(H p=some (.lst xs)\/H p=some (.tup xs))/\lQ x=true/\xs.all lQ=true/\Q (.bl<|neg != UM x xs) H:=⟨vs,.inl hp,fx,a,by rw[b];exact L.val M k rfl⟩;cases x<;>exact key
def range_any (bs:au Bool):(List.range bs.length).any (λi=>bs.getD i false)=bs.any id:=by
 rw[dE,fc,fc];constructor
 .rintro⟨i,hi,e⟩;have Gs:i<bs.length:=by simpa using hi
  rw[aA,iD Gs]at e;exact⟨_,bJ Gs,e⟩
 .rintro⟨b,hb,e⟩;let ⟨i,hi,e2⟩:=aJ hb;refine⟨i,by simpa using hi,?_⟩;rwa [aA,iD hi,e2]
def anyC (hc:X.gH=true):jr X (.builtin "any") (Ca λbs=>bs.any id):=by
 intro fA s σ H vs us Q I rv h;unfold Ca at h;split at h
 .rename_i p;let ⟨bs,hp,q⟩:=h;obtain⟨u,rfl,ru⟩:=rv.one;cases ru;obtain⟨z,gb,n,r,hl,e⟩:=I.mq hp;have BH:s.heap.IsList p gb.toArray:=⟨_,e,rfl,n,rfl⟩;have lt:=aC<|jd e;refine call_any_walk (cP BH ⟨_,_,_,_,_,_,λi=>bs.getD i false,rfl,Walks.list (A:=X.A.in1) (I.ok.hd hc) s.heap.objs.size p lt gb.toArray,⟨⟨_,aD _ rfl,rfl,rfl⟩,BH.push _⟩,?_,λh' tk kp=>?_⟩)
  .intro i v s' Q' E' hv hq;have DM:gb[i]?=some v:=by simpa using hv
   have hb:∃ b,bs[i]?=some b/\v=.bool b:=by
    cases eb:(bs.map V.bl)[i]? with
    |none=>have:=r.none_of eb;rw[DM]at this;cases this
    | some y =>
     obtain⟨u,hu,ry⟩:=r.get eb;rw[DM]at hu;cases hu;rw[mS]at eb;cases e2:bs[i]? with
     |none=>rw[e2]at eb;cases eb
     |some b=>rw[e2]at eb;cases eb;exact⟨b,rfl,ry⟩
   obtain⟨b,eb,rfl⟩:=hb;have e3:bs.getD i false=b:=by rw[aA,eb];rfl
   have LH:Q' (bs.getD i false) s':=hq;rw[e3]at LH;exact cx LH
  .have I2:Inv X fA σ H { s with heap:=h',toks:=tk}:=I.iR λb o e'=>kp b o (by simpa using aC<|jd e')<|jw _ e';have len:gb.toArray.size=bs.length:=by rw[aG,<- hl,gP]
   rw[len,range_any];exact⟨.bl _,H,I2,rfl,q⟩
 .cases h
def Qv:D->MS->av String
 |.iC,_=>some "NoneType"
 |.bl _,_=>some "bool"
 |.int _,_=>some "int"
 |.str _,_=>some "str"
 |.lst _,_=>some "list"
 |.tup _,_=>some "tuple"
 |.jS _ _,_=>some "dict"
 |.mr k,μ=>match μ[k]? with|some (.lst _)=>some "list" | some (.jS _ _)=>some "dict" | _=>none
 |.obj _ _ _,_=>none
 |.uc _ _,_=>none
 |.fn _,_=>none
def Lx (t T:String):Bool:=t==T||(t == "bool"&&T == "int")
def dIsi (T:String)(w:De):De:=λρ μ K=>w ρ μ λd gc=>opt (Qv d gc) λt=>K (.bl<|Lx t T) gc
def SS (K:aa)(ht:t∈["NoneType","bool","int","str","list","tuple","dict"])(hT:T∈["bool","int","str","list","tuple","dict"]):W.kitOne K (.type t) (.type T)=some (Lx t T):=by simp at ht hT;rcases ht with rfl|rfl|rfl|rfl|rfl|rfl|rfl<;>rcases hT with rfl|rfl|rfl|rfl|rfl|rfl<;>first|rfl|exact jm K _
def RM (M:gy φ H μ)(i:jy φ H d v)(e:Qv d μ=some t):kG Kf H v (.type t)/\t∈["NoneType","bool","int","str","list","tuple","dict"]:=by
 cases d with
 |iC=>cases e;cases i;exact⟨.iC,by simp⟩
 |bl b=>cases e;cases i;exact⟨.bl b,by simp⟩
 |int b=>cases e;cases i;exact⟨.int b,by simp⟩
 |str b=>cases e;cases i;exact⟨.str b,by simp⟩
 |lst ds=>cases e;obtain⟨p,vs,rfl,_,hp,_⟩:=i;exact⟨.lst hp,by simp⟩
 |tup ds=>cases e;obtain⟨p,vs,rfl,_,hp,_⟩:=i;exact⟨.tup hp,by simp⟩
 |jS ks ds=>cases e;obtain⟨p,fO,vs,rfl,_,hp,_⟩:=i;exact⟨.dK hp,by simp⟩
 |obj _ _ _=>cases e
 |uc _ _=>cases e
 |fn _=>cases e
 | mr k =>
  unfold Qv at e;dsimp only at e;obtain⟨p,hp,rfl⟩:=i;cases em:μ[k]? with
  |none=>rw[em]at e;cases e
  | some m =>
   rw[em]at e;let ⟨q,e1,e2⟩:=M.at_ k m em;rw[hp]at e1;cases e1;cases m with
   |box=>cases e
   |lst ds=>cases e;let ⟨vs,hv,_⟩:=e2;exact⟨.lst hv,by simp⟩
   |jS ks ds=>cases e;let ⟨fO,vs,hv,_⟩:=e2;exact⟨.dK hv,by simp⟩
   |_=>cases e
def qo (hT:T∈["bool","int","str","list","tuple","dict"])(hg:Gl X "isinstance")(hm:X.mg "isinstance"=none)(LM:Gl X x)(EK:X.mg x=none)(hv:bootBuiltins x=some (.type T))(ha:PD X a w)(hn:x ≠ "__name__":=by decide)(hd:(x==("__debug__" : Str))=false:=by decide)
 (hs:starEach [a,.Name x p2] X.env=(false,eval a X.env)::starEach [.Name x p2] X.env:=by rfl) (rm:starEach [.Name x p2] X.env=(false,eval (.Name x p2) X.env)::starEach [] X.env:=by rfl) (ql:(backTo pos<|starEach [.Name x p2] X.env).any (·.1)=false:=by rfl):
 PD X (.Call (.Name "isinstance" p) [a,.Name x p2] [] pos) (dIsi T w):=
 (iu rS hg hm boot_isinstance (gg ha (gg (jN (v:=.ty T) LM EK hv rfl hn hd) iV rm) hs) (by decide) (by decide) hs ql).imp λσ H Q hq=>by obtain⟨φ,ρ,μ,K,A,M,k,L⟩:=hq;refine⟨φ,ρ,μ,_,A,M,k,λd gc gL v1 H1 k1 f1 M1 i1=>?_⟩;let ⟨t,et,k1⟩:=iz k1;obtain⟨h1,h2⟩:=RM M1 i1 et;exact⟨.type t,Lx t T,h1,SS X.K h2 hT,L _ gc gL _ H1 k1 f1 M1 rfl⟩
def Uw (H:Hp)(b q:ao):Prop:=∃(ns:au Int) (i r z:Int),H b=some (.lst [.ref q,.int i,.int r,.int z])/\H q=some (.lst<|ns.map V.int)/\q≠b/\0<=i/\0<=z/\z<2147483647
def vH:Sp:=λvs H Q _=>match vs with
 |[.ref b,.int n]=>∃ q,Uw H b q/\0<n/\n<1073741824/\∀ v H',0<=v->v<n->Uw H' b q->OB b H H'->Q (.int v) H'
 |_=>False
def uX (h:vH vs H Q E):∃ b n q,vs=[.ref b,.int n]/\Uw H b q/\0<n/\n<1073741824/\∀ v H',0<=v->v<n->Uw H' b q->OB b H H'->Q (.int v) H':=by
 unfold vH at h;split at h
 .let ⟨q,h⟩:=h;exact⟨_,_,q,rfl,h⟩
 .cases h
def GH:j4:=λds μ K=>match ds with
 |[.mr k,.int n]=>μ[k]?=some .box/\0<n/\n<1073741824/\∀ v,0<=v->v<n->K (.int v) μ
 |_=>False
def JI (h:iB GH vs H Q E):vH vs H Q E:=by
 obtain⟨φ,ds,μ,K,ha,M,k,L⟩:=h;unfold GH at k;split at k
 .rename_i kk n;obtain⟨v,r,rfl,h1,u,r',rfl,h2,h3⟩:=ha;cases h3;cases h2;obtain⟨b,hb,rfl⟩:=h1;obtain⟨em,hn,Jm,k⟩:=k;obtain⟨b',e1,q,ns,i,r,z,g1,g2,g3,g4,g5,g6⟩:=M.at_ kk _ em;rw[hb]at e1;cases e1;have bin:=kq hb;have qb:q≠b:=λe=>g3 (by rwa [e]);refine⟨q,⟨ns,i,r,z,g1,g2,qb,g4,g5,g6⟩,hn,Jm,λv H' v0 v1 B' ob=>?_⟩;obtain⟨ns',i',r',z',b1,b2,b3,b4,b5,b6⟩:=B';have f:Fr φ H φ H':=⟨⟨[],by simp,λ_ h=>nomatch h⟩,λc o hc e=>(ob c λe'=>hc<|by rwa [e']).trans e,λc e=>by
   by_cases hc:c=b
   .rw[hc,b1]at e;cases e
   .rw[<- ob c hc];exact e⟩
  refine L _ μ φ _ H' (k v v0 v1) f ⟨M.nd,M.len,λj m ej=>?_⟩ rfl;by_cases hj:j=kk
  .subst hj;rw[em]at ej;cases ej;exact⟨b,hb,q,ns',i',r',z',b1,b2,g3,b4,b5,b6⟩
  .obtain⟨p,e1,e2⟩:=M.at_ j m ej;refine⟨p,e1,e2.mono f λo eo=>?_⟩;have pb:p≠b:=λe=>by
    subst e;obtain⟨i1,r1⟩:=kB hb;obtain⟨i2,r2⟩:=kB e1;rcases Nat.lt_or_gt_of_ne hj with z|z
    .exact List.pairwise_iff_getElem.mp M.nd j kk i2 i1 z (r2.trans r1.symm)
    .exact List.pairwise_iff_getElem.mp M.nd kk j i1 i2 z (r1.trans r2.symm)
   rwa [ob p pb]
 .exact k.elim
def zY (K:aa):Sp:=λvs H Q _=>match vs with
 |[.ref a]=>∃ ns:au Int,qu K H a (ns.map V.int)/\∀ b q H',Uw H' b q->H b=none->H q=none->iA H H'->Q (.ref b) H'
 |_=>False
def IT (h:Uw H b q):gy [b] H [.box]:=by
 let ⟨ns,i,r,z,h1,h2,h3,h4,h5,h6⟩:=h;refine⟨by simp,rfl,λk m e=>?_⟩;cases k with
 |zero=>cases e;exact⟨b,rfl,q,ns,i,r,z,h1,h2,by simpa using h3,h4,h5,h6⟩
 |succ k=>simp at e
mutual
def BW:Nat->D->Prop
 |n+1,.lst ds=>ds.length<=100000/\Nu n ds
 |n+1,.tup ds=>ds.length<=100000/\Nu n ds
 |0,.lst _=>False
 |0,.tup _=>False
 |_,.jS _ _=>False
 |_,.mr _=>False
 |_,.obj _ _ _=>False
 |_,.uc _ _=>False
 |_,.fn _=>False
 |_,_=>True
def Nu:Nat->List D->Prop
 |_,[]=>True
 |n,d::ds=>BW n d/\Nu n ds
end
theorem z9:∀ {ds:au D},(∀ d∈ds,BW n d)->Nu n ds
 |[],_=>by trivial
 |d::ds,h=>⟨h d aH,z9 λx hx=>h x<|ny _ hx⟩
def JX {n:Nat}{ds:au D}(hl:ds.length<=100000)(h:∀ d∈ds,BW n d):BW (n+1) (.lst ds):=⟨hl,z9 h⟩
def JW {n:Nat}{ds:au D}(hl:ds.length<=100000)(h:∀ d∈ds,BW n d):BW (n+1) (.tup ds):=⟨hl,z9 h⟩
def D3 {n:Nat}{i:Int}:BW n (.int i):=by cases n<;>trivial
def R3:BW n (.str i):=by cases n<;>trivial
mutual
theorem yP:∀ {n:Nat} {d:D},BW n d->yT n d:=λ{n d} h=>by
 cases d with
 | lst ds =>
  cases n with
  |zero=>exact absurd h id
  |succ n=>exact D2 h.2
 | tup ds =>
  cases n with
  |zero=>exact absurd h id
  |succ n=>exact D2 h.2
 |jS _ _=>exact absurd h (by cases n<;>exact id)
 |mr _=>exact absurd h (by cases n<;>exact id)
 |obj _ _ _=>exact absurd h (by cases n<;>exact id)
 |uc _ _=>exact absurd h (by cases n<;>exact id)
 |fn _=>exact absurd h (by cases n<;>exact id)
 |_=>cases n<;>trivial
theorem D2:∀ {n:Nat} {ds:List D},Nu n ds->Cb n ds:=λ{n ds} h=>by
 cases ds with
 |nil=>unfold Cb;trivial
 |cons d ds=>unfold Nu at h;unfold Cb;exact⟨yP h.1,D2 h.2⟩
end
mutual
def vq:D->DV
 |.iC=>.iC
 |.bl b=>.bl b
 |.int i=>.int i
 |.str z=>.str z
 |.lst ds=>.lst (pY ds)
 |.tup ds=>.tup (pY ds)
 |_=>.iC
def pY:List D->List DV
 |[]=>[]
 |d::ds=>vq d::pY ds
end
theorem ug:∀ ds:au D,(pY ds).length=ds.length
 |[]=>rfl
 |d::ds=>by unfold pY;rw[a8,a8,ug ds]
mutual
theorem p7 {φ:List ao}{H:Hp}:∀ {n:Nat} {d:D},BW n d->(∀ v,jy φ H d v->Is H (vq d) v)/\dep (vq d)<=n/\Nq (vq d)<=100000:=λ{n d} h=>by
 cases d with
 | lst ds =>
  cases n with
  |zero=>exact absurd h id
  | succ n =>
   have h:_/\Nu n _:=h;obtain⟨a,b,c⟩:=z7 (φ:=φ) (H:=H) h.2;refine⟨λv hv=>?_,?_,?_⟩
   .obtain⟨p,vs,rfl,_,hp,q⟩:=hv;unfold vq;exact⟨p,vs,rfl,hp,a vs q⟩
   .unfold vq dep;lia
   .have:=ug ds;unfold vq Nq;lia
 | tup ds =>
  cases n with
  |zero=>exact absurd h id
  | succ n =>
   have h:_/\Nu n _:=h;obtain⟨a,b,c⟩:=z7 (φ:=φ) (H:=H) h.2;refine⟨λv hv=>?_,?_,?_⟩
   .obtain⟨p,vs,rfl,_,hp,q⟩:=hv;unfold vq;exact⟨p,vs,rfl,hp,a vs q⟩
   .unfold vq dep;lia
   .have:=ug ds;unfold vq Nq;lia
 |iC=>exact⟨λv hv=>hv,bA _,bA _⟩
 |bl b=>exact⟨λv hv=>hv,bA _,bA _⟩
 |int b=>exact⟨λv hv=>hv,bA _,bA _⟩
 |str b=>exact⟨λv hv=>hv,bA _,bA _⟩
 |jS _ _=>exact absurd h (by cases n<;>exact id)
 |mr _=>exact absurd h (by cases n<;>exact id)
 |obj _ _ _=>exact absurd h (by cases n<;>exact id)
 |uc _ _=>exact absurd h (by cases n<;>exact id)
 |fn _=>exact absurd h (by cases n<;>exact id)
theorem z7 {φ:List ao}{H:Hp}:∀ {n:Nat} {ds:List D},Nu n ds->(∀ vs,fV φ H ds vs->mK H (pY ds) vs)/\yu (pY ds)<=n/\yc (pY ds)<=100000:=λ{n ds} h=>by
 cases ds with
 |nil=>exact⟨λvs hv=>hv,bA _,bA _⟩
 | cons d ds =>
  unfold Nu at h;obtain⟨a,b,c⟩:=p7 (φ:=φ) (H:=H) h.1;obtain⟨a',b',c'⟩:=z7 (φ:=φ) (H:=H) h.2;refine⟨λvs hv=>?_,?_,?_⟩
  .obtain⟨v,r,rfl,h1,h2⟩:=hv;unfold pY;exact⟨v,r,rfl,a v h1,a' r h2⟩
  .unfold pY yu;lia
  .unfold pY yc;lia
end
def LS (μ:MS):D->av D
 |.mr k=>(nP μ k).map .lst
 |x=>some x
def Gz (M:gy φ H μ)(e:LS μ x=some d)(hs:BW n d)(h:jy φ H x v):Is H (vq d) v:=by
 cases x with
 | mr k =>
  obtain⟨p,hp,rfl⟩:=h;have e':(nP μ k).map D.lst=some d:=e;cases q:nP μ k with
  |none=>rw[q]at e';cases e'
  | some ds =>
   rw[q]at e';cases e';obtain⟨p',e1,vs,hv,ha⟩:=M.at_ k _<|jP q;rw[hp]at e1;cases e1;cases n with
   |zero=>exact absurd hs id
   | succ n =>exact⟨p,vs,rfl,hv,(z7 (H:=H) hs.2).1 vs ha⟩
 |iC=>cases e;exact(p7 (H:=H) hs).1 v h
 |bl b=>cases e;exact(p7 (H:=H) hs).1 v h
 |int b=>cases e;exact(p7 (H:=H) hs).1 v h
 |str b=>cases e;exact(p7 (H:=H) hs).1 v h
 |lst b=>cases e;exact(p7 (H:=H) hs).1 v h
 |tup b=>cases e;exact(p7 (H:=H) hs).1 v h
 |obj _ _ _=>cases e;exact(p7 (H:=H) hs).1 v h
 |uc _ _=>cases e;exact(p7 (H:=H) hs).1 v h
 |fn _=>cases e;exact(p7 (H:=H) hs).1 v h
 |jS _ _=>cases e;exact absurd hs (by cases n<;>exact id)
def L1:j4:=λds μ K=>match ds with
 |[x,y]=>∃ d,LS μ x=some d/\LS μ y=some d/\BW 5 d/\K (.bl true) μ
 |_=>False
def JZ (h:iB L1 vs H Q E):uo 5 vs H Q E:=by
 let ⟨φ,ds,μ,K,ha,M,k,L⟩:=h;unfold L1 at k;split at k
 .obtain⟨v,r,rfl,h1,u,r',rfl,h2,h3⟩:=ha;cases h3;let ⟨d,e1,e2,hs,k⟩:=k;obtain⟨a,b,c⟩:=p7 (φ:=φ) (H:=H) hs;exact⟨vq d,b,cj c<|by decide,Gz M e1 hs h1,Gz M e2 hs h2,λH' S=>L _ μ φ _ H' k (.same S) (M.same S) rfl⟩
 .exact k.elim
theorem ia (hc:c μ)(f:D->av D):∀ {ds:au D} {K:au D->MS->Prop},(∀ d∈ds,∀(K':av D->MS->Prop),K' (f d) μ->it d μ K')->K (ds.filterMap f) μ->rq it c ds μ K
 |[],K,_,k=>⟨hc,k⟩
 | d::ds,K,h,k=>⟨hc,h d aH _ (ia hc f (λx hx=>h x<|ny _ hx) (by
  cases e:f d with
  |none=>rw[List.filterMap_cons_none e]at k;exact k
  |some y=>rw[List.filterMap_cons_some e]at k;exact k))⟩
theorem zp (Pv:au D->au D->MS->Prop):∀ {ds:au D} {μ:MS} {ys:au D} {K:au D->MS->Prop},Pv ds ys μ->(∀ d sy ys μ,Pv (d::sy) ys μ->c μ/\∀(K':av D->MS->Prop),(∀ o fZ,Pv sy (ys++o.toList) fZ->K' o fZ)->it d μ K')->(∀ ys μ,Pv [] ys μ->c μ)->(∀ zs μ,Pv [] (ys++zs) μ->K zs μ)->rq it c ds μ K
 |[],μ,ys,K,h,hs,hc,hk=>⟨hc ys μ h,hk [] μ<|by rwa [b8]⟩
 | d::ds,μ,ys,K,h,hs,hc,hk=>by let ⟨c',st⟩:=hs d ds ys μ h;exact⟨c',st _ λo fZ h'=>zp Pv h' hs hc λzs iP h2=>hk _ iP<|by rwa [<- bq]⟩
theorem iO (Pv:au D->DE->MS->Prop):∀ {ds:au D} {ρ:DE} {μ:MS},Pv ds ρ μ->(∀ d sy ρ μ,Pv (d::sy) ρ μ->c μ/\∀(nx:DE->MS->Prop),(∀ kO fZ,Pv sy kO fZ->nx kO fZ)->g d ρ μ λoh iP=>b { N with nx:=nx,ct:=nx,bk:=N.nx} oh iP)->(∀ ρ μ,Pv [] ρ μ->c μ/\N.nx ρ μ)->AL g b N c ds ρ μ
 |[],ρ,μ,h,hs,hd=>hd ρ μ h
 | d::ds,ρ,μ,h,hs,hd=>by let ⟨c',st⟩:=hs d ds ρ μ h;exact⟨c',st _ λkO fZ h'=>iO Pv h' hs hd⟩
structure lA (mg:Str->Option ar):Prop where
 len:mg "len"=none
 range:mg "range"=none
 list:mg "list"=none
 isinstance:mg "isinstance"=none
 max:mg "max"=none
 min:mg "min"=none
 bool:mg "bool"=none
 tuple:mg "tuple"=none
 str:mg "str"=none
 int:mg "int"=none
 all:mg "all"=none
 any:mg "any"=none
 zip:mg "zip"=none
 enumerate:mg "enumerate"=none
 reversed:mg "reversed"=none
 dict:mg "dict"=none
 sorted:mg "sorted"=none
abbrev txt (l:au Nat):Str:=⟨l.toArray⟩
def Md:j4:=λds μ K=>match ds with
 |[.mr k,.int n]=>μ[k]?=some .box/\1<=n/\n<=1000/\∀ l:au Nat,l.length=n.toNat->OX l->K (.str<|txt l) μ
 |_=>False
structure Cuts (n:Int)(cs:List Int):Prop where
 Q4:∀ c∈cs,1<=c/\c<n
 up:cs.Pairwise (·<·)
def Mc:j4:=λds μ K=>match ds with
 |[.mr k,.int n]=>μ[k]?=some .box/\1<=n/\n<=1000/\∀ cs:au Int,cs.length<=n.toNat->Cuts n cs->K (.lst<|cs.map D.int) μ
 |_=>False
def Nr (l:au Nat):D:=.str (txt l)
def Good (n:Int)(ls:au (au Nat)):Prop:=∀ l∈ls,(l.length:Int)=n/\OX l
def xp:j4:=λds μ K=>match ds with
 | [.mr k,.int n,.lst cs,.mr t]=>μ[k]?=some .box/\k≠t/\1<=n/\n<=1000/\∃(qX:au Int) (ls:au (au Nat)),cs=qX.map D.int/\qX.length<=1000/\Cuts n qX/\μ[t]?=some (.lst<|ls.map Nr)/\ls≠[]/\ls.length<=100/\Good n ls /\
  ∀ vP:au (au Nat),vP.length=ls.length->Good n vP->K (.mr t) (μ.set t<|.lst<|vP.map Nr)
 |_=>False
abbrev Tk:=au Nat×Int
def nB (t:Tk):D:=.tup [.str (txt t.1),.int t.2]
structure Dq (n:Int)(ts:List Tk):Prop where
 lL:ts.length<=20
 ok:∀ t∈ts,(t.1.length:Int)=n/\OX t.1/\0<=t.2/\t.2<=60
def Mb:j4:=λds μ K=>match ds with
 |[.int n,x]=>∃ cs:au Int,lv μ x=some (cs.map D.int)/\cs.length<=1000/\K (.lst<|(fw n cs).map D.int) μ
 |_=>False
def fU (n:Int)(cs:au Int):(fw n cs).length=cs.length+2:=by unfold fw;simp
def oG (n:Int)(cs:au Int):[D.int 0]++cs.map D.int++[D.int n]=(fw n cs).map D.int:=by unfold fw;simp
def sz (h:n<=100000):n<=sizeLine:=aV h (by decide)
def Uz (h:n<=100000):n<sizeLine:=cj h (by decide)
def BE (es:au Int):au (Int×Int):=es.zip es.tail
def VB (p:Int×Int):D:=.tup [.int p.1,.int p.2]
def AW:j4:=λds μ K=>match ds with
 |[.int n,x]=>∃ cs:au Int,lv μ x=some (cs.map D.int)/\cs.length<=1000/\K (.lst<|(BE<|fw n cs).map VB) μ
 |_=>False
def mU (l:au Nat)(a b:Int):au Nat:=lh l (some a) (some b)
def bad (ts:au Tk)(p:Int×Int):Bool:=ts.all λt=>decide (120∈mU t.1 p.1 p.2)
def jT (es:au Int)(ts:au Tk):av (Int×Int):=(BE es).find? (bad ts)
def QV:av (Int×Int)->D
 |some p=>VB p
 |none=>.iC
def E4:j4:=λds μ K=>match ds with
 |[.int n,x,y]=>∃(cs:au Int) (ts:au Tk),lv μ x=some (cs.map D.int)/\lv μ y=some (ts.map nB)/\cs.length<=1000/\Dq n ts/\n<=1000/\K (QV<|jT (fw n cs) ts) μ
 |_=>False
def A5:j4:=λds μ K=>match ds with
 |[.lst b,y]=>∃(n:Int) (cs:au Int) (ts:au Tk),b=(fw n cs).map D.int/\lv μ y=some (ts.map nB)/\cs.length<=1000/\1<=n/\n<=1000/\Cuts n cs/\Dq n ts/\K (QV<|jT (fw n cs) ts) μ
 |_=>False
theorem uO (hc:c μ):∀ {ds:au D} {K:au D->MS->Prop},(∀ d∈ds,∀(K':av D->MS->Prop),K' (some d) μ->K' none μ->it d μ K')->(∀ zs,zs.Sublist ds->K zs μ)->rq it c ds μ K
 |[],K,_,k=>⟨hc,k []<|.slnil⟩
 |d::ds,K,h,k=>⟨hc,h d aH _ (uO hc (λx hx=>h x<|ny _ hx) λzs hz=>k _<|hz.cons₂ d)<|uO hc (λx hx=>h x<|ny _ hx) λzs hz=>k _<|hz.cons d⟩
theorem qJ {α:Type}(g:α->D)(P:α->Prop){it:D->MS->(av D->MS->Prop)->Prop}{c:MS->Prop}{μ:MS}(hc:c μ):∀ {ds:au D} {K:au D->MS->Prop},(∀ d∈ds,∀(K':av D->MS->Prop),(∀ a,P a->K' (some<|g a) μ)->it d μ K')->(∀ as:au α,as.length=ds.length->(∀ a∈as,P a)->K (as.map g) μ)->rq it c ds μ K
 |[],K,_,k=>⟨hc,k [] rfl λ_ h=>nomatch h⟩
 | d::ds,K,h,k=>⟨hc,h d aH _ λa ha=>qJ g P hc (λx hx=>h x<|ny _ hx) λas hl hp=>k (a::as) (by rw[a8,a8,hl]) λx hx=>by
  rcases List.mem_cons.mp hx with e|e
  .rwa [e]
  .exact hp x e⟩
def vJ (lo:Int)(n:Nat):ky lo n=((List.range n).map λi=>lo+(i:Nat)).map D.int:=by rw[aQ];rfl
def iF (lo:Int)(n:Nat):(ky lo n).length=n:=by unfold ky;rw[gP,pF]
def wK {lo:Int}(h:d∈ky lo n):∃ i:Nat,i<n/\d=.int (lo+i):=by obtain⟨i,hi,rfl⟩:=List.mem_map.mp h;exact⟨i,by simpa using hi,rfl⟩
def Sa (lo:Int)(n:Nat):((List.range n).map λi=>lo+(i:Nat)).Pairwise (·<·):=by rw[List.pairwise_map];exact List.Pairwise.imp (λh=>by lia) List.pairwise_lt_range
def B6 {n:Int}{cs:au Int}(h1:1<=n)(h:cs.Sublist ((List.range (n - 1).toNat).map λi=>1+((i:Nat):Int))):cs.length<=n.toNat/\Cuts n cs:=by
 refine⟨?_,λc hc=>?_,(Sa 1 _).sublist h⟩
 .have:=h.length_le;rw[gP,pF]at this;lia
 .obtain⟨i,hi,rfl⟩:=List.mem_map.mp<|h.subset hc;rw[cc]at hi;lia
def N1 {α:Type}{g:α->D}{zs:au D}{as:au α}(h:zs.Sublist (as.map g)):∃ bs:au α,bs.Sublist as/\zs=bs.map g:=by let ⟨bs,hb,e⟩:=List.sublist_map_iff.mp h;exact⟨bs,hb,e⟩
def hV {n:Int}{cs:au Int}(h1:1<=n)(h:Cuts n cs):(fw n cs).Pairwise (·<·):=by
 unfold fw;rw[List.cons_append,List.pairwise_cons];refine⟨λx hx=>?_,?_⟩
 .rcases List.mem_append.mp hx with q | q
  .have:=h.Q4 x q;lia
  .rw[List.mem_singleton.mp q];lia
 .rw[List.pairwise_append];exact⟨h.up,List.pairwise_singleton _ _,λx hx y hy=>by rw[List.mem_singleton.mp hy];exact(h.Q4 x hx).2⟩
def hX {n:Int}{cs:au Int}(h1:1<=n)(h:Cuts n cs){x:Int}(hx:x∈fw n cs):0<=x/\x<=n:=by
 rcases List.mem_cons.mp hx with q|q
 .lia
 .rcases List.mem_append.mp q with q | q
  .have:=h.Q4 x q;lia
  .rw[List.mem_singleton.mp q];lia
def kD {es:au Int}(h:es.Pairwise (·<·)){i j:Nat}{a b:Int}(hi:es[i]?=some a)(hj:es[j]?=some b)(pE:i<j):a<b:=by let ⟨h1,r1⟩:=kB hi;let ⟨h2,r2⟩:=kB hj;have:=List.pairwise_iff_getElem.mp h i j h1 h2 pE;rwa [r1,r2]at this
def gR {α β:Type}{g:α->β}{xs:au α}{i:Nat}{a:α}(h:xs[i]?=some a):kr (xs.map g) (i:Int)=some (g a):=kM (by rw[mS,h];rfl)
def jf (l:au Nat):(txt l).length=l.length:=Ib l
def ml (l:au Nat):(txt l).cps.toList=l:=by simp
def v7 {α:Type}(l:au α)(lo hi:av Int):(lh l lo hi).length<=l.length:=Dg l lo hi
def OX.cut (h:OX l)(lo hi:av Int):OX (lh l lo hi):=λc hc=>h c (by
 exact fh<|bo hc)
theorem Au:∀ {ds:au D},(∀ d∈ds,Gj n d)->u4 n ds
 |[],_=>True.intro
 |d::ds,h=>⟨h d aH,Au λx hx=>h x<|ny _ hx⟩
def Cs (ns:au Int):u4 n (ns.map D.int):=Au λd hd=>by obtain⟨i,_,rfl⟩:=List.mem_map.mp hd;exact True.intro
def Vq {n:Nat}(t:Tk):BW (n+1) (nB t):=by
 refine JW (by simp) λd hd=>?_;simp at hd;rcases hd with rfl|rfl
 .exact R3
 .exact D3
def m5 {μ:MS}(h:μ[t]?=some m):μ.set t m=μ:=by
 refine cy λi=>?_;by_cases e:t=i
 .subst e;rw[aW (kB h).1,h]
 .rw[bp e]
def sH:(μ++[x]).set μ.length y=μ++[y]:=by rw[cI _ _ (aw _),aZ];rfl
def ME {μ:MS}{x:D}{xs:au D}{i:Int}{d:D}{K:DK}(e:lv μ x=some xs)(h:kr xs i=some d)(k:K d μ):W3 x (.int i) μ K:=by
 cases x with
 |lst ds=>cases e;exact fF h k
 |mr j=>exact fF e (fF h k)
 |_=>cases e
def xK (l:au Nat)(i j:Nat):mU l i j=(l.drop i).take (j - i):=by
 unfold mU lh;rw[HT.lD,HT.lD];rcases Nat.le_total i l.length with q|q
 .rw[bZ q];rcases Nat.le_total j l.length with z|z
  .rw[bZ z]
  .rw[fb z,bU (by rw[bG];exact aw _),bU (by rw[bG];exact Nat.sub_le_sub_right z i)]
 .rw[fb q,bM (aw _),bM q,List.take_nil,List.take_nil]
def IJ {l:au Nat}{a b:Int}(ho:OX l)(ha:0<=a)(EN:a<=b)(hb:b<=l.length):decide (txt (mU l a b)=txt (List.replicate (b - a).toNat 111))=!decide (120∈mU l a b):=by
 have len:(mU l a b).length=(b - a).toNat:=by obtain⟨i,rfl⟩:=cE ha;obtain⟨j,rfl⟩:=cE<|bu ha EN;rw[xK,bg,bG,bZ (Nat.sub_le_sub_right (Int.ofNat_le.mp hb) i)];lia
 have ox:OX (mU l a b):=ho.cut _ _;by_cases h:120∈mU l a b
 .rw[aI h,aO]
  .rfl
  .intro e;have e':mU l a b=List.replicate (b - a).toNat 111:=by have q:=cD (λz:Str=>z.cps.toList) e;simpa using q
   rw[e']at h;have:=(List.mem_replicate.mp h).2;cases this
 .rw[aO h,aI]
  .rfl
  .congr 2;refine List.eq_replicate_iff.mpr ⟨len,λc hc=>?_⟩;rcases ox c hc with q|q
   .exact q
   .rw[q]at hc;exact absurd hc h
def vL:(BE es)[i]?=(match es[i]?,es[i+1]? with | some a,some b=>some (a,b) | _,_=>none):=by unfold BE;rw[List.zip,bQ,List.getElem?_tail];cases es[i]?<;>cases es[i+1]?<;>rfl
def Qu (hr:jF k A)(hn:n<=64):A.units+n<cLine:=by have:=hr.units;lia
def O4:lJ [b] H (none::some (.mr 0)::List.replicate m none) (x::some (.ref b)::List.replicate m none):=by
 refine⟨by simp,λi d e=>?_⟩;cases i with
 |zero=>cases e
 | succ i =>
  cases i with
  |zero=>cases e;exact⟨_,rfl,b,rfl,rfl⟩
  | succ i =>have:=d4<|kq e;cases this
def V0:DN:={ nx:=λ_ _=>False,rt:=λd _=>d=.bl true}
def SR (B:Uw H b q)(w:W V0 (none::some (.mr 0)::List.replicate m none) [.box])(k:∀ H',Q (.bl true) H'):YK W { nx:=λ_ H'=>Q .iC H',rt:=Q} (some (.ref a)::some (.ref b)::List.replicate m none) H :=
 ⟨[b],_,[.box],V0,O4,IT B,w,⟨λ_ _ _ _ _ z=>z.elim,λd fZ gO v H' kd _ _ i=>by cases kd;cases i;exact k H',λ_ _ _ _ _ z=>z.elim,λ_ _ _ _ _ z=>z.elim⟩⟩
section
variable {κ:Type}[DecidableEq κ]
def nV (fO:au (κ×V))(k:κ):av V:=(fO.find? λkv=>decide (kv.1=k)).map (·.2)
def putK (fO:au (κ×V))(k:κ)(v:V):au (κ×V) :=
 if(fO.any λkv=>decide (kv.1=k))=true then fO.map (λkv=>if kv.1=k then(kv.1,v)else kv)else fO++[(k,v)]
def Rt (fO:au (κ×V))(k:κ):au (κ×V):=fO.filter λkv=>decide (kv.1≠k)
def pU {p:κ×V}{r:au (κ×V)}{k:κ}(e:p.1=k):nV (p::r) k=some p.2:=by simp[nV,b7,e]
def pV {p:κ×V}{r:au (κ×V)}{k:κ}(e:¬ p.1=k):nV (p::r) k=nV r k:=by simp[nV,b7,e]
theorem wt (k:κ):∀ fO:au (κ×V),(fO.any λkv=>decide (kv.1=k))=(nV fO k).isSome
 |[]=>rfl
 | p::r=>by
  rw[c6];by_cases e:p.1=k
  .simp only[pU e,aI e,Bool.true_or,Option.isSome_some]
  .rw[pV e,aO e,Bool.false_or];exact wt k r
def nQ (fO:au (κ×V))(k:κ)(v:V):(putK fO k v).length<=fO.length+1:=by
 unfold putK;split
 .rw[gP];lia
 .rw[lP,a8,List.length_nil];lia
def Ko {fO:au (κ×V)}{k:κ}(v:V)(h:nV fO k=none):putK fO k v=fO++[(k,v)]:=by unfold putK;rw[wt,h];exact aF (by decide)
def q9.uC {o:av V}{u:av ar}(r:q9 o u):o.isSome=u.isSome:=by
 cases o with
 | none=>cases u with
  |none=>rfl
  |some _=>exact(show False from r).elim
 | some _=>cases u with
  |none=>exact(show False from r).elim
  |some _=>rfl
def KV.val {fO:au (κ×V)}{vs:au (κ×ar)}(r:KV fO vs)(k:κ):q9 (nV fO k) (valueAt vs k):=by
 unfold KV at r;induction r with
 |nil=>exact True.intro
 | @cons p q ps qs h t ih =>
  obtain⟨h1,h2⟩:=h;by_cases e:p.1=k
  .have e':q.1=k:=h1.symm.trans e;have b:valueAt (q::qs) k=some q.2:=by simp[valueAt,b7,e']
   rw[pU e,b];exact h2
  .have e':¬ q.1=k:=λz=>e<|h1.trans z;have b:valueAt (q::qs) k=valueAt qs k:=by simp[valueAt,b7,e']
   rw[pV e,b];exact ih
theorem KV.any {fO:au (κ×V)}{vs:au (κ×ar)}(r:KV fO vs)(k:κ):(fO.any λkv=>decide (kv.1=k))=vs.any λkv=>decide (kv.1=k):=by
 unfold KV at r;induction r with
 |nil=>rfl
 |cons h t ih=>rw[c6,c6,ih,h.1]
def KV.Sb {fO:au (κ×V)}{vs:au (κ×ar)}(r:KV fO vs)(k:κ){y:V}{u:ar}(ry:gB y u):
 KV (fO.map λkv=>if kv.1=k then(kv.1,y)else kv) (vs.map λkv=>if kv.1=k then(kv.1,u)else kv):=by
 unfold KV at r ⊢
 induction r with
 |nil=>exact .nil
 | @cons p q ps qs h t ih =>
  rw[aB,aB];refine .cons ?_ ih;obtain⟨h1,h2⟩:=h;by_cases e:p.1=k
  .rw[aE e,aE (h1.symm.trans e)];exact⟨h1,ry⟩
  .rw[aF e,aF (λz=>e<|h1.trans z)];exact⟨h1,h2⟩
def KV.put {fO:au (κ×V)}{vs:au (κ×ar)}(r:KV fO vs)(k:κ){y:V}{u:ar}(ry:gB y u):KV (putK fO k y) (stored vs k u):=by
 unfold putK stored;rw[r.any k];by_cases e:(vs.any λkv=>decide (kv.1=k))=true
 .rw[aE e,aE e];exact r.Sb k ry
 .rw[aF e,aF e];exact Paired.snoc r ⟨rfl,ry⟩
def KV.drop {fO:au (κ×V)}{vs:au (κ×ar)}(r:KV fO vs)(k:κ):KV (Rt fO k) (without vs k):=by
 unfold KV at r ⊢
 unfold Rt without;induction r with
 |nil=>exact .nil
 | @cons p q ps qs h t ih =>
  obtain⟨h1,h2⟩:=h;rw[cu,cu];by_cases e:p.1=k
  .have a:¬ decide (p.1≠k)=true:=by simp[e]
   have b:¬ decide (q.1≠k)=true:=by simp[h1.symm.trans e]
   rw[aF a,aF b];exact ih
  .have e':¬ q.1=k:=λz=>e<|h1.trans z;have a:decide (p.1≠k)=true:=by simp[e]
   have b:decide (q.1≠k)=true:=by simp[e']
   rw[aE a,aE b];exact .cons ⟨h1,h2⟩ ih
theorem KV.length {fO:au (κ×V)}{vs:au (κ×ar)}(r:KV fO vs):fO.length=vs.length:=Paired.length r
end
def za {P:ah}{w:ai}{k:Key}{u:ar}(r:gB (kV k) u):(kA P w).is k u=true:=by
 cases k with
 |inl i=>obtain⟨t,e⟩:=(show ∃ t,u=Value.int i t from r);subst e;exact Cv P w i t
 |inr x=>obtain⟨t,e⟩:=(show ∃ t,u=Value.str x t from r);subst e;exact Cu P w x t
theorem zb {P:ah}{w:ai}:∀ {ks:au Key} {us:au ar},gC (ks.map kV) us->ItemsAre (kA P w) ks us
 |[],_,r=>by rw[List.map_nil]at r;cases r;exact .nil
 | k::ks,_,r=>by
  rw[aB]at r;cases r with
  |cons h t=>exact .cons (za h) (zb t)
abbrev KT (H:Hp):au (au Key×V)->au (au Key×ao×ar)->Prop:=Paired λp q=>p.1=q.1/\H q.2.1=some (.tup<|p.1.map kV)/\gB p.2 q.2.2
def KT.val {H:Hp}{fO:au (au Key×V)}{xs:au (au Key×ao×ar)}(r:KT H fO xs)(k:au Key):q9 (nV fO k) ((atKey xs k).map (·.2)):=by
 induction r with
 |nil=>exact True.intro
 | @cons p q ps qs h t ih =>
  obtain⟨h1,_,h2⟩:=h;by_cases e:p.1=k
  .have e':q.1=k:=h1.symm.trans e;have b:atKey (q::qs) k=some q.2:=by simp[atKey,b7,e']
   rw[pU e,b];exact h2
  .have e':¬ q.1=k:=λz=>e<|h1.trans z;have b:atKey (q::qs) k=atKey qs k:=by simp[atKey,b7,e']
   rw[pV e,b];exact ih
def KT.Sb {H:Hp}{fO:au (au Key×V)}{xs:au (au Key×ao×ar)}(r:KT H fO xs)(k:au Key){y:V}{u:ar}(ry:gB y u):
 KT H (fO.map λkv=>if kv.1=k then(kv.1,y)else kv) (xs.map<|putAt k u):=by
 induction r with
 |nil=>exact .nil
 | @cons p q ps qs h t ih =>
  rw[aB,aB];refine .cons ?_ ih;obtain⟨h1,h2,h3⟩:=h;unfold putAt;by_cases e:p.1=k
  .rw[aE e,aE (h1.symm.trans e)];exact⟨h1,h2,ry⟩
  .rw[aF e,aF (λz=>e<|h1.trans z)];exact⟨h1,h2,h3⟩
def KT.put {H:Hp}{fO:au (au Key×V)}{xs:au (au Key×ao×ar)}(r:KT H fO xs)(k:au Key){b:ao}{y:V}{u:ar}(hb:H b=some (.tup<|k.map kV))(ry:gB y u):
 KT H (putK fO k y) (storedH xs k b u):=by
 have e:(fO.any λkv=>decide (kv.1=k))=(atKey xs k).isSome:=by rw[wt,(r.val k).uC,Option.isSome_map]
 unfold putK storedH;rw[e];by_cases q:(atKey xs k).isSome=true
 .rw[aE q,aE q];exact r.Sb k ry
 .rw[aF q,aF q];exact Paired.snoc r ⟨rfl,hb,ry⟩
def KT.keeps {H H':Hp}{fO:au (au Key×V)}{xs:au (au Key×ao×ar)}(r:KT H fO xs)(ht:∀ b ys,H b=some (.tup ys)->H' b=some (.tup ys)):KT H' fO xs :=
 Paired.Ew r λ_ _ z=>⟨z.1,ht _ _ z.2.1,z.2.2⟩
section
variable {P:ah}{w:ai}{H:Hp}{h:Heap}{a:ao}
def QM {u:HO}(ok:qO P w H h)(e:Rd H a u):jE P w H h a u:=e.ok ok
def GO {fO:au (Key×V)}(ok:qO P w H h)(e:Rd H a (.dK fO)):fO.length<=sizeLine/\(a==sysModules)=false/\∃ vs,KV fO vs/\h.DictOf (kA P w) a vs :=
 show jE P w H h a (.dK fO)from QM ok e
def Mw {fO:au (Key×V)}(ok:qO P w H h)(e:H a=some (.dK fO)):fO.length<=sizeLine/\(a==sysModules)=false/\∃ vs,KV fO vs/\h.DictOf (kA P w) a vs:=GO ok (.inl e)
def Az {ks:au Key}(ok:qO P w H h)(e:H a=some (.tup<|ks.map kV)):(tupleKind<|kA P w).is h ks a:=by obtain⟨_,gb,r,o,h1,h2,n,h3⟩:=(show jE P w H h a (.tup<|ks.map kV)from ok a _ e);exact⟨o,gb.toArray,n,h1,h2,h3,by simpa using zb r⟩
def GL {fO:au (au Key×V)}(ok:qO P w H h)(e:Rd H a (.dT fO)):fO.length<=sizeLine/\(a==sysModules)=false /\
 ∃ xs,KT H fO xs/\h.DictOfH (tupleKind<|kA P w) a xs:=by
 obtain⟨z,y,xs,r,o,es,ep,h1,h2,h3,h4,h5⟩:=(show jE P w H h a (.dT fO)from QM ok e);refine⟨z,y,xs,r,o,es,ep,h1,h2,h3,h4,λx hx=>?_,h5⟩;have all:∀ {l:au (au Key×V)} {m:au (au Key×ao×ar)},KT H l m->∀ x∈m,(tupleKind<|kA P w).is h x.1 x.2.1:=by
  intro l m q;induction q with
  |nil=>intro x hx;exact nomatch hx
  | @cons p q ps qs hq t ih =>
   intro x hx;rcases List.mem_cons.mp hx with e|hx
   .subst e;exact Az ok (by rw[<- hq.1];exact hq.2.1)
   .exact ih x hx
 exact all r x hx
def WK {fO:au (au Key×V)}(ok:qO P w H h)(e:H a=some (.dT fO)):fO.length<=sizeLine/\(a==sysModules)=false /\
 ∃ xs,KT H fO xs/\h.DictOfH (tupleKind<|kA P w) a xs:=GL ok (.inl e)
end
def Bx (H:Hp)(a:ao)(y:V)(r:av V):Prop :=
 (∃ fO k,Rd H a (.dK fO)/\y=kV k/\r=nV fO k)\/∃ fO k b,Rd H a (.dT fO)/\y=.ref b/\H b=some (.tup<|k.map kV)/\r=nV fO k
def Dy (H:Hp)(a:ao)(y v:V)(H':Hp):Prop :=
 (∃ fO k,H a=some (.dK fO)/\y=kV k/\fO.length<sizeLine/\H'=upd H a (.dK<|putK fO k v)) \/
 ∃ fO k b,H a=some (.dT fO)/\y=.ref b/\H b=some (.tup<|k.map kV)/\fO.length<sizeLine/\H'=upd H a (.dT<|putK fO k v)
def Bx.t {H:Hp}{a b:ao}{fO:au (au Key×V)}{k:au Key}(e:H a=some (.dT fO))(eb:H b=some (.tup<|k.map kV)):Bx H a (.ref b) (nV fO k):=.inr ⟨fO,k,b,.inl e,rfl,eb,rfl⟩
theorem Dy.k {H:Hp}{a:ao}{fO:au (Key×V)}{k:Key}{v:V}(e:H a=some (.dK fO))(hl:fO.length<sizeLine):Dy H a (kV k) v (upd H a<|.dK<|putK fO k v):=.inl ⟨fO,k,e,rfl,hl,rfl⟩
def Dy.t {H:Hp}{a b:ao}{fO:au (au Key×V)}{k:au Key}{v:V}(e:H a=some (.dT fO))(eb:H b=some (.tup<|k.map kV))(hl:fO.length<sizeLine):
 Dy H a (.ref b) v (upd H a<|.dT<|putK fO k v):=.inr ⟨fO,k,b,e,rfl,eb,hl,rfl⟩
section
variable {X:Cx}{fA:au (ao×Obj)}{σ:St}{H:Hp}{s:ak}{a:ao}{y v:V}{u r:ar}{o:av V}{A:Around}{E:ar->ak->Prop}
def Inv.big (I:Inv X fA σ H s):sysModules<s.heap.objs.size:=by have h:mainGlobals<s.heap.objs.size:=(I.mod.glob.keeps I.bk).lt;exact dz (by decide) h
def IH {Q:ar->ak->Prop}(hu:A.units+1<cLine)(I:Inv X fA σ H s)(g:Bx H a y (some v))(ry:gB y u)(h:∀ w' s',Inv X fA σ H s'->gB v w'->Q w' s'):
 wpAny (model X.prog X.w) A (getItem (.ref a) u) Q E s:=by
 rcases g with⟨fO,k,e,ey,l⟩|⟨fO,k,b,e,ey,eb,l⟩
 .subst ey;obtain⟨z,hd,vs,rel,dd⟩:=GO I.iH e;obtain⟨w',hw,DJ⟩:=q9.some_of (v:=v) (o:=valueAt vs k) (by rw[l];exact rel.val k);exact wpAny_getItem_of (za ry) dd.mapOf hw (h w' _ (I.tok _) DJ)
 .subst ey;cases(show u=Value.ref b from ry);obtain⟨z,hd,xs,rel,dd⟩:=GL I.iH e;obtain⟨w',hw,DJ⟩:=q9.some_of (v:=v) (o:=(atKey xs k).map (·.2)) (by rw[l];exact rel.val k);obtain⟨p,hp,Ts⟩:=Option.map_eq_some_iff.mp hw;refine wpAny_getItem_heap (tupleKind_room_in1 hu) (Az I.iH eb) dd hp ?_;rw[Ts];exact h w' _ (I.tok _) DJ
def Py {Q:ar->ak->Prop}(hu:A.units+1<cLine)(I:Inv X fA σ H s)(g:Bx H a y o)(ry:gB y u)(h:∀ s',Inv X fA σ H s'->Q (.bool<|!o.isSome) s'):
 wpAny (model X.prog X.w) A (compareOp .NotIn u<|.ref a) Q E s:=by
 rcases g with⟨fO,k,e,ey,l⟩|⟨fO,k,b,e,ey,eb,l⟩
 .subst ey;obtain⟨z,hd,vs,rel,dd⟩:=GO I.iH e;refine wpAny_notIn_of (za ry) hd dd.mapOf ?_;rw[<- (rel.val k).uC,<- l];exact h _ (I.tok _)
 .subst ey;cases(show u=Value.ref b from ry);obtain⟨z,hd,xs,rel,dd⟩:=GL I.iH e;refine wpAny_notIn_heap (tupleKind_room_in1 hu) (Az I.iH eb) hd dd ?_;have q:=(rel.val k).uC;rw[Option.isSome_map]at q;rw[<- q,<- l];exact h _ (I.tok _)
def vY {h':Heap}{t':Nat}{ob:HO}(I:Inv X fA σ H s)(mu:Xs (H a))(hs:Heap.SameBut a s.heap h')(he:∃ q,h'.get? a=some q)(new:jE X.prog X.w (upd H a ob) h' a ob):
 Inv X fA σ (upd H a ob) {s with heap:=h',toks:=t'}:=
 I.write (x:=a) (e:=a) mu (.inl rfl) (λb q hb z=>(hs.2 b hb).trans z) he new
def E9 {P:ah}{w:ai}{H':Hp}{h':Heap}{fO:au (Key×V)}{vs:au (Key×ar)}(z:fO.length<=sizeLine)(hd:(a==sysModules)=false)(rel:KV fO vs)(dd:h'.DictOf (kA P w) a vs):
 jE P w H' h' a (.dK fO):=⟨z,hd,vs,rel,dd⟩
def IF {H':Hp}{Q:Unit->ak->Prop}(hu:A.units+1<cLine)(I:Inv X fA σ H s)(g:Dy H a y v H')(ry:gB y u)(rv:gB v r)(h:∀ s',Inv X fA σ H' s'->Q () s'):
 wpAny (model X.prog X.w) A (setItem (.ref a) u r) Q E s:=by
 rcases g with⟨fO,k,e,ey,l,eH⟩|⟨fO,k,b,e,ey,eb,l,eH⟩
 .subst ey eH;obtain⟨z,hd,vs,rel,dd⟩:=Mw I.iH e;have hz:vs.length<=sizeLine:=by rw[<- rel.length];exact z
  have hl:(putK fO k v).length<=sizeLine:=by have:=nQ fO k v;lia
  refine wpAny_setItem_pairs (hsz:=hz) (za ry) dd λh' oO hs=>h _ ?_;have he:∃ q,h'.get? a=some q:=let ⟨q,_,_,hq,_⟩:=oO;⟨q,hq⟩
  exact vY I (by rw[e];exact True.intro) hs he (E9 hl hd (rel.put k rv) oO)
 .subst ey eH;cases(show u=Value.ref b from ry);obtain⟨z,hd,xs,rel,dd⟩:=WK I.iH e;have hz:xs.length<=sizeLine:=by rw[<- Paired.length rel];exact z
  have hl:(putK fO k v).length<=sizeLine:=by have:=nQ fO k v;lia
  refine wpAny_setItem_heap (hsz:=hz) (tupleKind_room_in1 hu) (Az I.iH eb) dd λh' oO hs=>h _ ?_;obtain⟨q,es,ep,hq,h2,h3,h4,_,h5⟩:=oO;refine vY I (by rw[e];exact True.intro) hs ⟨q,hq⟩ ⟨hl,hd,_,(rel.put k eb rv).keeps λc ys ec=>?_,q,es,ep,hq,h2,h3,h4,h5⟩;rw[gp (VR ec e λz=>nomatch z)];exact ec
end
def Qk (i:Expr):Prop:=∀ ov iv,subscripted i false ov iv=operate [ov,iv] (getItem ov iv)
def N3 {prog:ah}{w:ai}{A:Around}{E:ar->ak->Prop}{s:ak}{env:Env}{value slice:Expr}{pos:Pos}{T id:String}{Q:ar->ak->Prop}
 (hl:typeLookup (.type T) "__getitem__"=pure (some<|.builtin id)) (hs:Qk slice)
 (h:wpAny (model prog w) A (eval value env) (λo s₁=>wpAny (model prog w) A (eval slice env) (λi s₂=>s₂.TypeIs o T/\wpAny (model prog w) A (getItem o i) Q E s₂) E s₁) E s):
 wpAny (model prog w) A (eval (.Subscript value slice pos) env) Q E s:=by
 refine Subscript_ (bV h (λo s₁ h₁=>bV h₁ (λi s₂ h₂=>?_) λ_ _ x=>x) λ_ _ x=>x);obtain⟨hT,h₂⟩:=h₂;unfold subscriptTail;refine fW ?_;rw[getitemInPython_of_ne hT.not_modules];refine fW<|wpAny_specialOf hT hl ?_;have fin:wpAny (model prog w) A (subscripted slice false o i) (λr s₃=>wpAny (model prog w) A (letTemporaryGo value o r >>= λ_=>pure r) Q E s₃) E s₂:=by rw[hs o i];exact wpAny_operating (bV h₂ (λr s₃ h₃=>fW<|wpAny_letTemporaryGo<|az h₃) λ_ _ x=>x)
 first
  |exact az (fW fin)
  |exact fW (az<|fW fin)
  |exact fW fin
def CV {X:Cx}{fA:au (ao×Obj)}{σ:St}{H:Hp}{s:ak}{a:ao}{y:V}{o:av V}(I:Inv X fA σ H s)(g:Bx H a y o):s.TypeIs (.ref a) "dict":=by
 rcases g with⟨fO,k,e,_,_⟩|⟨fO,k,b,e,_,_,_⟩
 .obtain⟨_,_,vs,_,dd⟩:=GO I.iH e;exact dd.typeIs
 .obtain⟨_,_,xs,_,dd⟩:=GL I.iH e;exact dd.typeIs
def Vi (td ty:TE):TE:=λσ H Q=>td σ H λx H1=>ty σ H1 λy H2=>∃ a v,x=.ref a/\Bx H2 a y (some v)/\Q v H2
def FF (ty td:TE):TE:=λσ H Q=>ty σ H λy H1=>td σ H1 λx H2=>∃ a o,x=.ref a/\Bx H2 a y o/\Q (.bl<|!o.isSome) H2
def Vu (td ty tv:TE):TS:=λD σ H=>tv σ H λv H1=>td σ H1 λx H2=>ty σ H2 λy H3=>∃ a H4,x=.ref a/\Dy H3 a y v H4/\D.nx σ H4
section
variable {X:Cx}{o i e value:Expr}{pos pos' nW:Pos}{td ty tv:TE}
def FY (hu:X.A.units+1<cLine)(ho:PE X o td)(hi:PE X i ty)(hs:Qk i):PE X (.Subscript o i pos) (Vi td ty):=by intro fA s σ H Q I h;refine N3 PySem.F.slot_dict_getitem.lookup hs (iN (ho fA s σ H _ I h) λu s1 pT=>?_);obtain⟨x,H1,I1,rx,q1⟩:=pT;refine iN (hi fA s1 σ H1 _ I1 q1) λiv s2 pS=>?_;obtain⟨y,H2,I2,ry,a,v,ex,g,q2⟩:=pS;subst ex;obtain rfl:u=Value.ref a:=rx;exact⟨CV I2 g,IH hu I2 g ry λw' s3 I3 DJ=>⟨v,H2,I3,DJ,q2⟩⟩
def HK (hu:X.A.units+1<cLine)(hi:PE X i ty)(ho:PE X o td):PC X .NotIn i o (FF ty td):=by intro fA s σ H Q I h;refine iN (hi fA s σ H _ I h) λiv s1 qk=>?_;obtain⟨y,H1,I1,ry,q1⟩:=qk;refine iN (ho fA s1 σ H1 _ I1 q1) λu s2 rp=>?_;obtain⟨x,H2,I2,rx,a,ov,ex,g,q2⟩:=rp;subst ex;obtain rfl:u=Value.ref a:=rx;exact Py hu I2 g ry λs3 I3=>⟨.bl<|!ov.isSome,H2,I3,rfl,q2⟩
def FV (hu:X.A.units+1<cLine)(ho:PE X o td)(hi:PE X i ty)(hv:PE X value tv)(hs:swapsWith value (some<|.Subscript o i pos') pos.line X.env=pure false):
 PS X (.Assign [.Subscript o i pos'] value pos) (Vu td ty tv):=by
 intro fA s σ H D I h;refine wpAny_Assign_Subscript (iN (hv fA s σ H _ I h) λr s1 uD=>?_) hs;obtain⟨v,H1,I1,rv,q1⟩:=uD;refine iN (ho fA s1 σ H1 _ I1 q1) λu s2 tE=>?_;obtain⟨x,H2,I2,rx,q2⟩:=tE;refine iN (hi fA s2 σ H2 _ I2 q2) λiv s3 qU=>?_;obtain⟨y,H3,I3,ry,a,H4,ex,g,q3⟩:=qU;subst ex;obtain rfl:u=Value.ref a:=rx;exact IF hu I3 g ry rv λs4 I4=>⟨σ,H4,I4,q3⟩
end
def xB {P:ah}{w:ai}{H:Hp}(h:Heap)(hb:sysModules<h.objs.size):jE P w H (h.push { cls:=.type "dict",data:=.dict #[]}) h.objs.size (.dK []) :=
 ⟨bA _,beq_eq_false_iff_ne.mpr<|bX<|aC hb,[],.nil,Heap.DictOf.new h⟩
def Mr {P:ah}{w:ai}{H:Hp}(h:Heap)(hb:sysModules<h.objs.size):jE P w H (h.push { cls:=.type "dict",data:=.dict #[]}) h.objs.size (.dT []) :=
 ⟨bA _,beq_eq_false_iff_ne.mpr<|bX<|aC hb,[],.nil,_,#[],0,aD _ rfl,⟨rfl,rfl,rfl⟩,rfl,rfl,List.nodup_nil⟩
def RU:TE:=λ_ H Q=>∀ p,H p=none->Q (.ref p) (upd H p<|.dK [])
def RT:TE:=λ_ H Q=>∀ p,H p=none->Q (.ref p) (upd H p<|.dT [])
section
variable {X:Cx}{pos:Pos}
def KD:PE X (.Dict [] [] pos) RU:=λfA s σ H Q I h =>wpAny_Dict_empty ⟨.ref s.heap.objs.size,_,I.laid (a:=s.heap.objs.size) (o:=.dK []) (t':=s.toks) (λ_ _ q=>jw _ q) (aw _)<|xB s.heap I.big,rfl,h _<|I.iH.fresh<|aw _⟩
def KC:PE X (.Dict [] [] pos) RT:=λfA s σ H Q I h =>wpAny_Dict_empty ⟨.ref s.heap.objs.size,_,I.laid (a:=s.heap.objs.size) (o:=.dT []) (t':=s.toks) (λ_ _ q=>jw _ q) (aw _)<|Mr s.heap I.big,rfl,h _<|I.iH.fresh<|aw _⟩
end
structure M1 (X:Cx)(o:Expr)(m:Str)(oJ:Pos)(e:Expr)(my:Pos):Prop where
 fB:attributeBase o m X.env (eval o X.env)=eval o X.env
 lL:((backTo my<|starEach [e] X.env).all (λx=>!x.1)&&(backToKw my<|keywordEach [] X.env).all (λx=>x.1.isSome)
  && decide (([e]:List Expr).length+([]:List Keyword).length+(if([]:List Keyword).isEmpty then 0 else 1)<30))=true
 line:(oJ.endLine==my.line)=true
 trees:backTo my (starEach [e] X.env)=[(false,eval e X.env)]
structure M2 (X:Cx)(o:Expr)(m:Str)(oJ:Pos)(e f:Expr)(my:Pos):Prop where
 fB:attributeBase o m X.env (eval o X.env)=eval o X.env
 lL:((backTo my<|starEach [e,f] X.env).all (λx=>!x.1)&&(backToKw my<|keywordEach [] X.env).all (λx=>x.1.isSome)
  && decide (([e,f]:List Expr).length+([]:List Keyword).length+(if([]:List Keyword).isEmpty then 0 else 1)<30))=true
 line:(oJ.endLine==my.line)=true
 trees:backTo my (starEach [e,f] X.env)=[(false,eval e X.env),(false,eval f X.env)]
def x9 (X:Cx)(N:au Str)(sc:Scope)(fp:au ao)(s:ak)(H:Hp):Cx where
 prog:=X.prog
 w:=X.w
 K:=X.K
 mg:=X.mg
 fB:=X.fB
 A:=X.A
 N:=N
 s₀:=s
 H₀:=H
 env:=nF sc s.heap.objs.size X.env
 fY:=X.stack
 stack:=X.stack
 ex:=fp
 fn:=λx=>sc.names.lookup x==some .cell
 gH:=X.gH
 pn:=[]
 xe:=λ_ _=>False
def xg (sc:Scope)(h:Heap):Heap:=pushCells (h.push { cls:=.type "dict",data:=.dict #[]}) sc.names
def u9:∀ b o,h.get? b=some o->(xg sc h).get? b=some o:=λb o e=>d7 _ _ b o (jw _ e)
section
variable {X:Cx}{fA:au (ao×Obj)}{σ:St}{H:Hp}{s:ak}{N:au Str}{js:au (av Nat)}{sc:Scope}{fp:au ao}
def Ij (I:Inv X fA σ H s)(hc:kh X N js sc)(hf:∀ b∈fp,mE X fA H b)(ho:∀ b∈fp,∃ o,s.heap.get? b=some o)(tk:Nat):
 Inv (x9 X N sc fp s H) [] (iQ js σ) H {s with heap:=xg sc s.heap,toks:=tk}:=by
 have LU:∀ y∈sc.names,y.2=.free->∃ c,X.env.cells.lookup y.1=some c:=λy hy e=>I.ok.has y.1<|hc.free y hy e;have ok:=cellsFrom_ok sc.names (s.heap.push { cls:=.type "dict",data:=.dict #[]}) (s.heap.objs.size+1) [] ⟨λ_ _ hm=>(nomatch hm),List.Pairwise.nil⟩
  (by rw[aR];exact aw _)
 rw[aR]at ok;have eC:(nF sc s.heap.objs.size X.env).cells=cellsFrom (s.heap.objs.size+1) sc.names []++lH X.env.cells sc.names []:=mf sc.names _ [] _;have lk:∀ x c,(nF sc s.heap.objs.size X.env).cells.lookup x=some c->(x,c)∈cellsFrom (s.heap.objs.size+1) sc.names []\/X.env.cells.lookup x=some c:=λx c e=>by
  rw[eC]at e;rcases List.mem_append.mp (mem_of_lookup e)with h|h
  .exact .inl h
  .rcases pq LU x c h with h | h
   .cases h
   .exact .inr h
 have big:∀(x:Str) (c:Nat),(x,c)∈cellsFrom (s.heap.objs.size+1) sc.names []->s.heap.objs.size+1<=c:=λx c h=>(ok.empty x c h).2;have small:∀(x:Str) (c:Nat),X.env.cells.lookup x=some c->c<s.heap.objs.size:=λx c h=>let ⟨_,q⟩:=I.cell x c h;q.lt
 have has:∀ x,((nF sc s.heap.objs.size X.env).kindOf x=some .cell\/(nF sc s.heap.objs.size X.env).kindOf x=some .free)->∃ c,(nF sc s.heap.objs.size X.env).cells.lookup x=some c:=λx h=>by
  have h':(relabel sc X.env).names.lookup x=some .cell\/(relabel sc X.env).names.lookup x=some .free:=h;rw[lF]at h';rw[eC,d9];cases q:sc.names.lookup x with
  |none=>rw[q]at h';rcases h' with h'|h'<;>cases h'
  | some k =>
   rw[q]at h';have hk:=B7 (env:=X.env) (x:=x) (k:=k) (h'.elim (λz=>.inl<|aK z) λz=>.inr<|aK z);rcases hk with rfl|rfl
   .obtain⟨c,ub⟩:=oI (n:=s.heap.objs.size+1) q;exact⟨c,by rw[ub];rfl⟩
   .have z:=pv (cells:=X.env.cells) sc.names [] x<|mem_of_lookup q;obtain⟨c,ub⟩:=Option.isSome_iff_exists.mp z;cases q2:(cellsFrom (s.heap.objs.size+1) sc.names []).lookup x with
    |none=>exact⟨c,by rw[ub];rfl⟩
    |some d=>exact⟨d,rfl⟩
 have Jj:(x9 X N sc fp s H).Ok:=by
  refine⟨I.ok.mod,hc.kind,I.ok.glob,I.ok.blt,aw _,λx y c h1 h2=>?_,has,λx c hx h=>?_,I.ok.hd,I.ok.frames,.inl rfl,λb hb=>⟨?_,λx c h=>?_⟩,I.bs,aV I.ok.IS I.sz,λb o e hb=>?_,λb hb hs=>?_,I.stack,I.sF⟩
  .rcases lk x c h1 with g1 | g1 <;> rcases lk y c h2 with g2 | g2
   .exact name_of_addr ok.apart g1 g2
   .exact absurd (aL (small _ _ g2)<|aV (bc _ 1)<|big _ _ g1) (cf _)
   .exact absurd (aL (small _ _ g1)<|aV (bc _ 1)<|big _ _ g2) (cf _)
   .exact I.ok.inj x y c g1 g2
  .have yr:sc.names.lookup x=some .cell:=by simpa [x9]using hx
   have h':(nF sc s.heap.objs.size X.env).cells.lookup x=some c:=h
   rw[eC,d9]at h'
   obtain⟨c2,ub⟩:=oI (n:=s.heap.objs.size+1) yr
   rw[ub]at h'
   have e:c2=c:=aK h'
   subst e
   exact aV (bc _ 1) (big _ _<|mem_of_lookup ub)
  .obtain⟨o,e⟩:=ho b hb;exact aC (jd e)
  .obtain⟨o,e⟩:=ho b hb;have l:=jd e;rcases lk x c h with g|g
   .exact bE (aL l<|aV (bc _ 1)<|big _ _ g)
   .exact(hf b hb).2.2.2.2.1 x c g
  .rcases(hf b hb).2.2.2.1 with z | z
   .exact I.ok.HW b o e z
   .exact absurd (aL (jd e)<|aV I.ok.IS z) (cf _)
  .rcases List.mem_cons.mp (I.wx b hs)with z | z
   .exact(hf b hb).2.1 z
   .exact(hf b hb).2.2.1 z
 have sZ:∀ b u,s.heap.get? b=some u->(xg sc s.heap).get? b=some u:=u9;have Y3:(xg sc s.heap).Ns s.heap.objs.size λ_=>none:=by have q:=(Heap.Ns.new s.heap<|.type "dict").keeps<|d7 sc.names _;exact q
 refine⟨Jj,rfl,I.bare,Un.iR sZ,⟨_,Y3,λi x v e1 e2 e3=>?_⟩,λx c h=>?_,I.iH.fresh<|aw _,λx c h=>?_,λp hp=>absurd (show p∈([]:au (ao×Obj))from hp)<|by simp,I.iH.iR sZ,?_⟩
 .obtain⟨j,hj,hv⟩:=xj e2;obtain⟨g1,g2,g3,g4⟩:=hc.slot i x j e1 hj;have kx:=hc.free _ g2 rfl;obtain⟨m,hn,hl⟩:=I.loc;obtain⟨u,r,l⟩:=hl j x v g1 hv<|.inr kx;refine⟨u,r,?_⟩;rcases l with⟨z,_⟩|⟨_,c,UW,vc⟩
  .have z':X.env.kindOf x=some .local:=z;rcases kx with k|k<;>(have k':X.env.kindOf x=_:=k;rw[z']at k';cases k')
  .have kY:(nF sc s.heap.objs.size X.env).kindOf x=some .cell\/(nF sc s.heap.objs.size X.env).kindOf x=some .free:=by
    show(relabel sc X.env).names.lookup x=some .cell\/(relabel sc X.env).names.lookup x=some .free;rw[lF,g3];rcases yS (env:=X.env) (x:=x)with q|q
    .exact .inl (show some (uu X.env x .free)=_ by rw[q])
    .exact .inr (show some (uu X.env x .free)=_ by rw[q])
   obtain⟨c',h'⟩:=has x kY
   refine .inr ⟨kY,c',h',?_⟩
   rcases lk x c' h' with g|g
   .rcases ma _ _ _ _ _ g with z | z
    .exact absurd z g4
    .cases z
   .rw[UW]at g;cases g;exact vc.keeps sZ
 .rcases lk x c h with g | g
  .exact⟨_,(ok.empty x c g).1⟩
  .obtain⟨v,q⟩:=I.cell x c g;exact⟨v,q.keeps sZ⟩
 .rcases lk x c h with g | g
  .exact I.iH.fresh (aV (bc _ 1)<|big _ _ g)
  .exact I.pG x c g
 .unfold iQ;rw[gP];exact hc.len
end
def yw {D:ao}(I:Nat->ak->Prop)
 (turn:∀ n s,I n s->wpAny (model prog w) A (pyNext it) (λr s₁=>match r with
   |none=>R (.ok .next) s₁
   | some v=>wpAny (model prog w) A (letOwnedTupleGo target it v) (λ_ BS=>wpAny (model prog w) A (assign target env v) (λ_ s₂ =>
    wpAny (model prog w) A (forIn ifs true λc r=>if r=true then do let ok <- isTrue c env (eval c env);pure (ForInStep.yield ok)else pure (ForInStep.yield r)) (λok s₃ =>
     if ok=true then wpAny (model prog w) A (eval kx env) (λkv s₄=>wpAny (model prog w) A (eval vx env) (λvv s₅ =>
      wpAny (model prog w) A (dictSet D kv vv) (λ_ s₆=>∃ m,m<n/\I m s₆) (λ_ _=>False) s₅) (λ_ _=>False) s₄) (λ_ _=>False) s₃
     else ∃ m,m<n/\I m s₃) (λ_ _=>False) s₂) (λ_ _=>False) BS) (λ_ _=>False) s₁) (λ_ _=>False) s)
 (n:Nat) (h:I n s):
 codeAny (model prog w) A (.compLoop (.DictComp kx vx [⟨target,iter,ifs,0⟩] scope pos) 0 it (.ref D) env) R s:=by
 refine codeAny_loop rfl I (λn s hI=>wpAny_noted<|fW<|dY<|fW<|bV (turn n s hI) (λr s₁ h₁=>?_) λ_ _ h'=>h'.elim) n h;cases r with
 |none=>exact az h₁
 | some v =>
  refine fW (bV h₁ (λ_ BS LD=>fW<|bV LD (λ_ s₂ h₂=>fW<|bV h₂ (λok s₃ h₃=>?_) λ_ _ h'=>h'.elim) λ_ _ h'=>h'.elim) λ_ _ h'=>h'.elim);cases ok with
  |false=>exact az ⟨rfl,h₃⟩
  | true =>exact fW (fW<|bV h₃ (λx s₄ h₄=>fW<|bN<|bV h₄ (λy s₅ h₅=>fW<|dY<|bN<|bV h₅ (λ_ s₆ h₆=>az ⟨rfl,h₆⟩) λ_ _ h'=>h'.elim) λ_ _ h'=>h'.elim) λ_ _ h'=>h'.elim)
def JC (js:au (av Nat))(g:TG)(tt:TT)(tk tv:TE)(J:It)(σ:St)(D:ao)(H1:Hp)(fin:au (Key×V)->Hp->Prop):Prop :=
 ∃ W:Nat->Nat->au (Key×V)->Hp->Prop,(∃ m,W 0 m [] H1)/\∀ i m fO H,W i m fO H ->
  (J.stop i H/\fin fO H)\/(J.go i H/\∀ x H',J.JB i H x H'->g x (iQ js σ) H' λoM H2=>Ext (iQ js σ) oM/\tt oM H2 λb H3 =>
    if b=true then tk oM H3 λk H4=>tv oM H4 λv H5=>∃(kk:Key) (EA:au (Key×V)),k=kV kk/\H5 D=some (.dK EA)/\EA.length<sizeLine/\∃ m',m'<m/\W (i+1) m' (putK EA kk v) (upd H5 D<|.dK<|putK EA kk v)else ∃ m',m'<m/\W (i+1) m' fO H3)
section
variable {X:Cx}{fA:au (ao×Obj)}{σ:St}{H:Hp}{s:ak}
def dict_set (I:Inv X fA σ H s)(e:H a=some (.dK fO))(l:fO.length<sizeLine)(ry:gB (kV k) u)(rv:gB v r)
 (h:∀ s',Inv X fA σ (upd H a<|.dK<|putK fO k v) s'->Q () s'):wpAny (model X.prog X.w) A (dictSet a u r) Q E s:=by
 let ⟨z,hd,vs,rel,dd⟩:=Mw I.iH e;have hz:vs.length<=sizeLine:=by rwa [<- rel.length]
 have hl:(putK fO k v).length<=sizeLine:=by have:=nQ fO k v;lia
 refine wpAny_dictSet_pairs (za ry) dd λh' oO hs=>h _ ?_;have he:∃ q,h'.get? a=some q:=let ⟨q,_,_,hq,_⟩:=oO;⟨q,hq⟩
 exact vY I (by rw[e];exact True.intro) hs he (E9 hl hd (rel.put k rv) oO)
variable {N:au Str}{js:au (av Nat)}{sc:Scope}{fp:au ao}{tg kx vx iter:Expr}{ifs:au Expr}{g:TG}{tt:TT}{tk tv:TE}
def Dh {D:ao}(I:Inv X fA σ H s)(hc:kh X N js sc)(gH:X.gH=true)
 (T:Turn X.prog X.w X.K tg J fp it tn) (st:tn 0 s.heap) (hf:∀ b∈fp,mE X fA H b)
 (hg:PG (x9 X N sc fp s H) tg g) (ht:Ng (x9 X N sc fp s H) ifs tt) (hk:PE (x9 X N sc fp s H) kx tk) (hv:PE (x9 X N sc fp s H) vx tv) (q:JC js g tt tk tv J σ D H fin)
 (hR:∀ s' H' fO m,Inv X fA σ H' s'->fin fO H'->s'.heap.Ns s.heap.objs.size m->H' s.heap.objs.size=none->R (.ok .next) s'):
 codeAny (model X.prog X.w) X.A (.compStart (.DictComp kx vx [⟨tg,iter,ifs,0⟩] sc pos) 0 (.ref it) (.ref D)<|nF sc s.heap.objs.size X.env) R {s with heap:=xg sc s.heap,toks:=tok}:=by
 have UQ:∀ b∈fp,∃ o,s.heap.get? b=some o:=λb hb=>let ⟨o,e,_⟩:=T.obj 0 s.heap st b hb;⟨o,e⟩
 have I0:=Ij I hc hf UQ tok;have Jj:=I0.ok;obtain⟨W,⟨m0,w0⟩,turn⟩:=q;have wy:∀ {H':Hp},(∀ b∈fp,H' b=none)->∀ b∈fp,mE (x9 X N sc fp s H) [] H' b:=λ{H'} hn b hb =>⟨hn b hb,(Jj.U1 b hb).1,Jj.IC b hb,.inl hb,(Jj.U1 b hb).2,λp hp=>absurd (show p∈([]:au (ao×Obj))from hp)<|by simp⟩
 have QH:tn 0 (xg sc s.heap):=T.keep 0 _ _ st λb _ o e=>u9 b o e;have loop:codeAny (model X.prog X.w) X.A (.compLoop (.DictComp kx vx [⟨tg,iter,ifs,0⟩] sc pos) 0 (.ref it) (.ref D)<|nF sc s.heap.objs.size X.env) R { s with heap:=xg sc s.heap,toks:=tok}:=by
  refine yw (λn s'=>∃ i fO H',Inv (x9 X N sc fp s H) [] (iQ js σ) H' s'/\tn i s'.heap/\(∀ b∈fp,H' b=none)/\W i n fO H') ?_ m0
   ⟨0,[],H,I0,QH,λb hb=>(hf b hb).1,w0⟩
  rintro n s3 ⟨i,fO,H3,I3,Nt,Rf,w3⟩;rcases turn i n fO H3 w3 with⟨stop,qf⟩|⟨go,step⟩
  .refine iN (T.done (x9 X N sc fp s H) rfl rfl rfl gH i _ s3 _ H3 _ I3 (wy Rf) Nt stop) λr s4 pT=>?_;obtain⟨hr,I4⟩:=pT;subst hr;obtain⟨m,UR,_⟩:=I4.loc;have IX:=I.ML (ch:=fp) I4.os I4.fB I4.iH I4.bare λb hb=>by obtain⟨f0,f1,f2,f3,f4,f5⟩:=hf b hb;exact⟨f3,f1,f4,f5⟩
   exact hR s4 H3 fO m IX qf UR I4.free
  .refine iN (T.item (x9 X N sc fp s H) rfl rfl rfl gH i _ s3 _ H3 _ I3 (wy Rf) Nt go) λr s4 pS=>?_;obtain⟨u,hr,h4⟩:=pS;subst hr;refine iN h4 λ_ s5 qk=>?_;obtain⟨x,H5,I5,r5,y5,JT,Wy⟩:=qk;have Xx:=I5.pinned (wy Wy)<|T.obj _ _ JT;refine iN (hg _ s5 _ H5 x u _ Xx r5<|step x H5 y5) λ_ s6 ⟨Nm,H6,I6,⟨Mf,q6⟩⟩=>?_;refine iN (ht _ s6 Nm H6 _ I6 q6) λb s7 rp=>?_;obtain⟨H7,I7,q7⟩:=rp;have back:∀ {s':ak} {H':Hp},Inv (x9 X N sc fp s H) ([]++ux fp s5.heap) Nm H' s'->tn (i+1) s'.heap/\(∀ b∈fp,H' b=none)/\Inv (x9 X N sc fp s H) [] (iQ js σ) H' s':=λ{s' H'} I'=>by refine⟨T.keep _ _ _ JT λb hb o e=>(I'.pin (b,o)<|aU _<|aU _<|lZ hb e).1,λb hb=>?_,(I'.weak Mf.1 Mf.2).pX⟩;obtain⟨o,e,d⟩:=T.obj _ _ JT b hb;exact(I'.pin (b,o)<|aU _<|aU _<|lZ hb e).2.1
   cases b with
   | false =>obtain⟨m',hm,w7⟩:=q7;obtain⟨t7,f7,I7'⟩:=back I7;exact⟨m',hm,i+1,fO,H7,I7',t7,f7,w7⟩
   | true =>refine iN (hk _ s7 Nm H7 _ I7 q7) λy s8 uD=>?_;obtain⟨yk,H8,I8,ry,q8⟩:=uD;refine iN (hv _ s8 Nm H8 _ I8 q8) λz s9 tE=>?_;obtain⟨zv,H9,I9,rz,kk,EA,ek,eD,hl,m',hm,w9⟩:=tE;subst ek;refine dict_set (X:=x9 X N sc fp s H) I9 eD hl ry rz λs10 I10=>?_;obtain⟨t8,f8,Xw⟩:=back I10;exact⟨m',hm,i+1,_,_,Xw,t8,f8,w9⟩
 exact codeAny_compStart_dict loop (T.self _ 0 _ _ _ QH loop)
def JQ (wi:TI)(js:au (av Nat))(g:TG)(tt:TT)(tk tv:TE):TE:=λσ H Q=>wi σ H λJ H1=>∀ D,H1 D=none->JC js g tt tk tv J σ D (upd H1 D<|.dK []) λ_ H'=>Q (.ref D) H'
end
def LW:D->V
 |.bl b=>.bl b
 |.int i=>.int i
 |.str z=>.str z
 |_=>.iC
def TM (h:pf d=true):jy φ H d (LW d):=by cases d<;>first|exact(Bool.noConfusion h)|rfl
def ET (h:pf d=true)(i:jy φ H d v):v=LW d:=by cases d<;>first|exact(Bool.noConfusion h)|exact i
theorem TL:∀ {ds:au D},ds.all pf=true->fV φ H ds (ds.map LW)
 |[],_=>rfl
 | d::ds,h=>by rw[dG,cv]at h;exact⟨_,_,rfl,TM h.1,TL h.2⟩
theorem GD:∀ {ds:au D} {vs:au V},ds.all pf=true->fV φ H ds vs->vs=ds.map LW
 |[],_,_,h=>h
 | d::ds,_,f,h=>by obtain⟨v,r,rfl,h1,h2⟩:=h;rw[dG,cv]at f;rw[ET f.1 h1,GD f.2 h2];rfl
def Ls:D->av Key
 |.int i=>some (.inl i)
 |.str z=>some (.inr z)
 |_=>none
def vQ (e:Ls d=some k)(i:jy φ H d v):v=kV k:=by
 cases d with
 |int n=>cases e;exact i
 |str z=>cases e;exact i
 |_=>cases e
def dput (fO:au (Key×D))(k:Key)(d:D):au (Key×D):=if(fO.any λkv=>decide (kv.1=k))=true then fO.map (λkv=>if kv.1=k then(kv.1,d)else kv)else fO++[(k,d)]
def qW (fO:au (Key×D))(k:Key):av D:=(fO.find? λkv=>decide (kv.1=k)).map (·.2)
def DT (fO:au (Key×D)):au (Key×V):=fO.map λp=>(p.1,LW p.2)
def Mu (fO:au (Key×D))(k:Key)(d:D):DT (dput fO k d)=putK (DT fO) k (LW d):=by
 unfold dput putK DT;have e:((fO.map λp=>(p.1,LW p.2)).any λkv=>decide (kv.1=k))=(fO.any λkv=>decide (kv.1=k)):=by rw[List.any_map];rfl
 rw[e];split
 .rw[aQ,aQ];congr 1;funext p;by_cases h:p.1=k
  .simp[h]
  .simp[h]
 .rw[bB];rfl
def Mv (fO:au (Key×D))(k:Key)(d:D):(dput fO k d).length<=fO.length+1:=by
 unfold dput;split
 .rw[gP];lia
 .rw[lP,bx];lia
def zm (h:(fO.map (·.2)).all pf=true)(hd:pf d=true):((dput fO k d).map (·.2)).all pf=true:=by
 unfold dput;rw[c8]at h ⊢
 intro x hx;split at hx
 .rw[aQ]at hx;obtain⟨p,hp,rfl⟩:=List.mem_map.mp hx;show pf (if p.1=k then(p.1,d)else p).2=true;split
  .exact hd
  .exact h _ (List.mem_map.mpr ⟨p,hp,rfl⟩)
 .rw[bB]at hx;rcases List.mem_append.mp hx with q|q
  .exact h x q
  .rwa [List.mem_singleton.mp q]
abbrev WL (fO:au (Key×D)):D:=.jS (fO.map (·.1)) (fO.map (·.2))
def xF (it:D->MS->(av (Key×D)->MS->Prop)->Prop)(c:MS->Prop)(μ:MS):au D->au (Key×D)->(au (Key×D)->Prop)->Prop
 |[],fO,K=>c (μ++[.jS (fO.map (·.1)) (fO.map (·.2))])/\K fO
 | d::ds,fO,K=>c (μ++[.jS (fO.map (·.1)) (fO.map (·.2))])/\it d (μ++[.jS (fO.map (·.1)) (fO.map (·.2))]) λo fZ=>fZ=μ++[.jS (fO.map (·.1)) (fO.map (·.2))]/\(match o with
  |some (k,y)=>pf y=true/\xF it c μ ds (dput fO k y) K
  |none=>xF it c μ ds fO K)
def MF (ρ:DE)(y:DG)(t:Dt)(wk wv:De)(d:D)(μ:MS)(K:av (Key×D)->MS->Prop):Prop:=y d ρ μ λoh iP=>t oh iP λb t9=>if b=true then wk oh t9 λkd Nn=>opt (Ls kd) λk=>wv oh Nn λv U9=>K (some (k,v)) U9 else K none t9
def MH (wi:DI)(js:au (av Nat))(y:DG)(t:Dt)(wk wv:De):De:=λρ μ K=>wi ρ μ λds c gc=>ds.length<=sizeLine/\xF (MF (rG js ρ) y t wk wv) c gc ds [] λfO=>K (WL fO) gc
def Fr.QX (f:Fr φ H gO H')(hl:gO.length=φ.length):gO=φ:=by obtain⟨⟨ψ,rfl,_⟩,_,_⟩:=f;rw[lP]at hl;have:ψ=[]:=List.length_eq_zero_iff.mp (by lia);rw[this,b8]
def JP (so:Nf g y S)(mo:pO g)(ho:rg S js=true)(h:tD (MH wi js y t wk wv) σ H Q):JQ (YL wi) js g (yd t) (tD wk) (tD wv) σ H Q:=by
 obtain⟨φ,ρ,μ,K,A,M,k,L⟩:=h;refine⟨φ,ρ,μ,_,A,M,k,λds c gc gL J H1 k1 f1 M1 wk' D hD=>?_⟩;obtain⟨hz,k1⟩:=k1;have hDf:D∉gL:=M1.fresh hD;have fD:Fr gL H1 (gL++[D]) (upd H1 D<|.dK []):=⟨(Fr.snoc (φ:=gL) hD).ext,λc u _ e=>iA.upd hD _ _ e,λc e=>(iA.upd hD).free e⟩;obtain⟨MD,_⟩:=M1.snoc (m:=.jS [] []) (o:=.dK []) hD ⟨[],[],fX,rfl,rfl,rfl⟩;have atD:∀ {H':Hp} {fO:au (Key×L2.D)},(fO.map (·.2)).all pf=true->gy (gL++[D]) H' (gc++[.jS (fO.map (·.1)) (fO.map (·.2))])->H' D=some (.dK<|DT fO):=λ{H' fO} Q8 M'=>by
  obtain⟨p,e1,EA,vs,e2,e3,e4,e5⟩:=M'.at_ gc.length _ (by rw[qV (aw _),aZ];rfl);rw[qV (by rw[M1.len];exact aw _),M1.len,aZ]at e1;cases e1;rw[e2];congr 2;have e6:=GD Q8 e5;rw[e4]at e6;unfold DT;have key:∀(as:au (Key×V)) (bs:au (Key×L2.D)),as.map (·.1)=bs.map (·.1)->as.map (·.2)=(bs.map (·.2)).map LW->as=bs.map λp=>(p.1,LW p.2):=by
   intro as;induction as with
   | nil=>intro bs h1 _;cases bs with
    |nil=>rfl
    |cons _ _=>cases h1
   | cons a as ih =>
    intro bs h1 h2;cases bs with
    |nil=>cases h1
    | cons b bs =>
     simp only[aB,fo]at h1 h2 ⊢
     exact⟨Prod.ext h1.1 h2.1,ih bs h1.2<|by simpa using h2.2⟩
  exact key EA fO e3 e6
 refine⟨λi n kv H'=>n=ds.length - i/\i<=ds.length/\∃ fO:au (Key×L2.D),kv=DT fO/\fO.length<=i/\(fO.map (·.2)).all pf=true/\Fr gL H1 (gL++[D]) H'/\gy (gL++[D]) H' (gc++[.jS (fO.map (·.1)) (fO.map (·.2))])/\xF (MF (rG js ρ) y t wk wv) c gc (ds.drop i) fO λfO=>K (WL fO) gc,
  ⟨ds.length,rfl,bA _,[],rfl,bA _,rfl,fD,MD,k1⟩,?_⟩
 rintro i n kv H' ⟨rfl,hi,fO,rfl,X9,Q8,f',M',w'⟩;by_cases mv:i<ds.length
 .rw[bL mv]at w';obtain⟨c',w'⟩:=w';obtain⟨go,JB⟩:=(wk' _ H' _ f' M' c' i).1 ds[i]<|iD mv;refine .inr ⟨go,λx H2 Jk=>?_⟩;obtain⟨f2,M2,i2⟩:=JB x H2 Jk;have E2:=((A.mono<|f1.trans<|f'.trans f2).iQ js);refine mo _ _ _ _ _ (λFt H3 qU=>?_)<|so _ H2 _ _ _ _ x _ E2 M2 i2 w';obtain⟨e3,l3,n3,Qs,E3,k3⟩:=qU;refine⟨Me ho l3 n3,?_⟩;subst e3;refine⟨_,Qs,_,_,E3,M2,k3,λb Nn U8 H4 k4 f4 M4=>?_⟩;cases b with
  | true =>
   refine⟨U8,Qs,Nn,_,E3.mono f4,M4,k4,λd5 U9 Yu v5 H5 k5 f5 M5 i5=>?_⟩;obtain⟨kk,ekk,k5⟩:=iz k5;refine⟨Yu,Qs,U9,_,E3.mono<|f4.trans f5,M5,k5,λd6 μ6 φ6 v6 H6 k6 f6 M6 i6=>?_⟩;obtain⟨e6,Yc,w6⟩:=k6;subst e6;have ff:=f2.trans<|f4.trans<|f5.trans f6;have ef:φ6=gL++[D]:=ff.QX (by rw[M6.len,M'.len]);subst ef;have hDv:=atD Q8 M6;refine⟨kk,_,vQ ekk i5,hDv,by unfold DT;rw[gP];lia,ds.length - (i+1),by lia,rfl,mv,dput fO kk d6,by rw[Mu,ET Yc i6],by have:=Mv fO kk d6;lia,zm Q8 Yc,?_,?_,w6⟩
   .refine(f'.trans ff).trans (.put<|aU _<|List.mem_singleton.mpr rfl)
   .have hp:(gL++[D])[gc.length]?=some D:=by rw[qV (by rw[M1.len];exact aw _),M1.len,aZ];rfl
    have q:=M6.put (k:=gc.length) (p:=D) (o:=.dK<|putK (DT fO) kk v6) (m:=.jS ((dput fO kk d6).map (·.1)) ((dput fO kk d6).map (·.2))) hp
     ⟨DT<|dput fO kk d6,((dput fO kk d6).map (·.2)).map LW,by rw[fX,Mu,ET Yc i6],by unfold DT;rw[aQ];rfl,by unfold DT;rw[aQ,aQ];rfl,TL<|zm Q8 Yc⟩
    have e:(gc++[MO.jS (fO.map (·.1)) (fO.map (·.2))]).set gc.length (.jS ((dput fO kk d6).map (·.1)) ((dput fO kk d6).map (·.2)))=gc++[.jS ((dput fO kk d6).map (·.1)) ((dput fO kk d6).map (·.2))]:=sH
    rw[e]at q
    exact q
  | false =>obtain⟨e4,w4⟩:=k4;subst e4;have ff:=f2.trans f4;have ef:U8=gL++[D]:=ff.QX (by rw[M4.len,M'.len]);subst ef;exact⟨ds.length - (i+1),by lia,rfl,mv,fO,rfl,by lia,Q8,f'.trans ff,M4,w4⟩
 .have e:i=ds.length:=by lia
  subst e
  rw[List.drop_length]at w'
  refine .inl ⟨(wk' _ H' _ f' M' w'.1 _).2 rfl,?_⟩
  have M'':gy gL H' gc:=by have q:=M'.kF (n:=gc.length) (λk m hk e=>by rw[vd hk]at e;exact M1.bound k m e);rw[cG,show(gL++[D]).take gc.length=gL by rw[<- M1.len,cG]]at q;exact q
  have f'':Fr gL H1 gL H':=⟨⟨[],by simp,λ_ h=>nomatch h⟩,f'.keep,f'.Ym⟩
  exact L _ gc gL _ H' w'.2 (f1.trans f'') M'' ⟨D,DT fO,_,rfl,hDf,atD Q8 M',by unfold DT;rw[aQ];rfl,rfl,by
   have:(DT fO).map (·.2)=(fO.map (·.2)).map LW:=by unfold DT;rw[aQ,aQ];rfl
   rw[this];exact TL Q8⟩
section
variable {X:Cx}{a b e:Expr}{es:au Expr}{pos:Pos}
variable {N:au Str}{js:au (av Nat)}{sc:Scope}{tg kx vx iter:Expr}{ifs:au Expr}{g:TG}{y:DG}{S:au Nat}{t:Dt}{wk wv:De}
def W2:Dz:=λx y μ K=>match x with
 |.jS ks ds=>opt (Ls y) λk=>opt (qW (ks.zip ds) k) λd=>K d μ
 |_=>False
def Mp:∀ {ds:au D} {fO:au (Key×V)} {k:Key} {d:D},fO.map (·.1)=ks->fV φ H ds (fO.map (·.2))->qW (ks.zip ds) k=some d->∃ v,nV fO k=some v/\jy φ H d v:=by
 intro ds fO;induction fO generalizing ks ds with
 |nil=>intro k d h1 h2 h3;cases h1;cases h3
 | cons p fO ih =>
  intro k d h1 h2 h3;cases ks with
  |nil=>cases h1
  | cons k0 ks =>
   cases ds with
   |nil=>cases h2
   | cons d0 ds =>
    let ⟨v,r,e,h4,h5⟩:=h2;simp at h1 e;let ⟨rfl,rfl⟩:=e;obtain⟨rfl,h1⟩:=h1;rw[cK]at h3;unfold qW at h3;rw[b7]at h3;by_cases hk:p.1=k
    .simp only[hk,decide_true]at h3;cases h3;exact⟨p.2,pU hk,h4⟩
    .simp only[hk,decide_false]at h3;obtain⟨v,a,b⟩:=ih h1 h5 h3;exact⟨v,by rwa [pV hk],b⟩
def xI (hu:X.A.units+1<cLine)(ha:PD X a wa)(hb:PD X b wb)(hs:Qk b):PD X (.Subscript a b pos) (vZ W2 wa wb):=(FY hu ha hb hs).imp λσ H Q hq=>by
 obtain⟨φ,ρ,μ,K,A,M,k,L⟩:=hq;refine⟨φ,ρ,μ,_,A,M,k,λd1 gc gL v1 H1 k1 f1 M1 i1=>⟨gL,ρ,gc,_,A.mono f1,M1,k1,λd2 iP lg v2 H2 k2 f2 M2 i2=>?_⟩⟩;unfold W2 at k2;split at k2
 .let ⟨k,ek,k2⟩:=iz k2;let ⟨d,ed,k2⟩:=iz k2;obtain⟨p,fO,vs,rfl,_,hp,e1,e2,ha⟩:=i1.mono f2;cases vQ ek i2;subst e2;let ⟨v,ev,iv⟩:=Mp e1 ha ed;exact⟨p,v,rfl,.inl ⟨fO,k,.inl hp,rfl,ev.symm⟩,(L.mono<|f1.trans f2).val M2 k2 iv⟩
 .exact k2.elim
end
theorem wm (ns:au Int):∀ k,k<ns.length->argBest (λi j=>decide (ns.getD i 0<ns.getD j 0)) k<=k/\∀ j,j<=k->ns.getD (argBest (λi j=>decide (ns.getD i 0<ns.getD j 0)) k) 0<=ns.getD j 0
 |0,_=>⟨aw _,λj hj=>by rw[show j=0 by lia];exact bw _⟩
 | k+1,h=>by
  let ⟨h1,h2⟩:=wm ns k (by lia);unfold argBest;by_cases hb:ns.getD (k+1) 0<ns.getD (argBest (λi j=>decide (ns.getD i 0<ns.getD j 0)) k) 0
  .rw[aE (aI hb)];refine⟨aw _,λj hj=>?_⟩;by_cases e:j=k+1
   .rw[e];exact bw _
   .exact bu (dA hb) (h2 j<|by lia)
  .rw[aF (by simp only[bS];exact hb)];refine⟨by lia,λj hj=>?_⟩;by_cases e:j=k+1
   .lia
   .exact h2 j (by lia)
section
variable {prog:ah}{w:ai}{A:Around}{R:Result->ak->Prop}{I:ao}{fp wr:au ao}{n:Nat}{P:Nat->ar->Prop}{St:Nat->Heap->Prop}{kw:au (Str×ar)}
def OW (W:Walks prog w A.in1 I fp wr n P St)(bt:Nat->Nat->Bool)(Z8:CmpOf prog w A.in1 .Lt P bt)(S:ao)(hSf:S∉fp):
 ∀(k j:Nat) (s:ak) (vb:ar) (c:Nat),n - (j+1)=k->j+1<=n->St (j+1) s.heap->P (argBest bt j) vb->s.heap.get? S=some { cls:=.type "list",dict:=none,data:=.seq #[vb,vb] c,slots:=#[]} ->
 (∀ v h' tk,P (argBest bt<|n - 1) v->(∀ b o,b∉wr->b≠S->s.heap.get? b=some o->h'.get? b=some o)->R (.ok<|.ret v) {s with heap:=h',toks:=tk}) ->
 codeAny (model prog w) A (.builtin "min.loop" ⟨[.ref I,.none,.ref S],kw⟩) R s:=by
 have Sw:S∉wr:=λh=>hSf<|W.sub _ h;have nm:(toString "min"++toString ".loop" : String) = "min.loop":=by decide
 intro k;induction k with
 | zero =>
  intro j s vb c hk hj LG hP hS hR;have ej:j+1=n:=by lia
  refine dg eK ?_;refine fW<|bz hS rfl ?_;refine fW (dM<|W.done s _ _ (ej▸LG) λh' tk kp=>?_);refine fW<|de (kp S _ Sw hS) rfl (fW<|c5<|az ?_);exact hR vb _ tk (by rw[<- ej];exact hP) λb o hb hbS e=>(aX _ _<|bX hbS).trans (kp b o hb e)
 | succ k ih =>
  intro j s vb c hk hj LG hP hS hR;have lt:j+1<n:=by lia
  refine dg eK ?_;show wpAny _ _ (seqItems? (.ref S)>>=_) _ _ s;refine fW<|bz hS rfl ?_;refine fW (dM<|W.item (j+1) s _ _ lt LG λv h' tk hv Pd kp=>?_);have UY:=kp S _ Sw hS;show wpAny _ _ (tryCatch (holding [v,v]<|richCompare .Lt v vb>>=_) _>>=_) _ _ _;refine fW<|dM<|bN<|fW<|Z8 (j+1) (argBest bt j) v vb _ _ _ hv hP<|fW<|bN<|cx<|fW<|c5<|az ?_;cases hb:bt (j+1) (argBest bt j)with
  | true =>
   simp only[if_true];refine fW<|de UY rfl (fW<|c5 ?_);rw[nm];refine az ⟨dq c3 _,ih (j+1) _ v _ (by lia) lt (W.frame _ _ _ Pd λb hbf o e=>?_) (by simp only[argBest,hb,if_true];exact hv) (bF _ UY rfl) λv' h2 XJ Ip Nz=>?_⟩
   .exact(aX _ _ (λh:S=b=>hSf (by rw[h];exact hbf))).trans e
   .exact hR v' h2 XJ Ip λb o h1 h3 e=>Nz b o h1 h3 ((aX _ _<|bX h3).trans<|kp b o h1 e)
  | false =>simp only[eA,if_false];refine fW<|c5 ?_;rw[nm];exact az ⟨dq c3 _,ih (j+1) _ vb c (by lia) lt Pd (by simp only[argBest,hb,eA,if_false];exact hP) UY λv' h2 XJ Ip Nz=>hR v' h2 XJ Ip λb o h1 h3 e=>Nz b o h1 h3<|kp b o h1 e⟩
end
def Fi (a v:ar):argsOk "min" ⟨[a],[(Str.ofString "default",v)]⟩:=by kernel_rfl
section
variable {X:Cx}
def Cw {dv:ar}(I:Inv X fA σ H s)(gH:X.gH=true)(hp:H p=some (.lst<|ns.map V.int))(rd:gB d dv)(q:if ns=[]then Q d H else ∀ m,m∈ns->(∀ y∈ns,m<=y)->Q (.int m) H):
 wpAny (model X.prog X.w) X.A (call (.builtin "min") [.ref p] [(Str.ofString "default",dv)]) (EP X fA σ Q) X.xe s:=by
 have nm:(toString "min"++toString ".loop" : String) = "min.loop":=by decide
 obtain⟨_,gb,n,r,hl,e⟩:=I.mq hp;have BH:s.heap.IsList p gb.toArray:=⟨_,e,rfl,n,rfl⟩;have lt:p≠s.heap.objs.size:=aC<|jd e;have len:gb.toArray.size=ns.length:=by rw[aG,<- hl,gP]
 have val:∀(i:Nat) (v:ar),gb.toArray[i]?=some v->∃ t,i<ns.length/\v=.int (ns.getD i 0) t:=λi v hv=>by
  have DM:gb[i]?=some v:=by simpa using hv
  cases eb:(ns.map V.int)[i]? with
  |none=>have:=r.none_of eb;rw[DM]at this;cases this
  | some y =>
   obtain⟨u,hu,ry⟩:=r.get eb;rw[DM]at hu;cases hu;rw[mS]at eb;cases e2:ns[i]? with
   |none=>rw[e2]at eb;cases eb
   | some b =>rw[e2]at eb;cases eb;obtain⟨t,rfl⟩:=ry;exact⟨t,(kB e2).1,by rw[aA,e2];rfl⟩
 refine PyProof.Rows.kmk_tree PySem.F.kind_min PySem.F.plain_min PySem.F.entry_min (Fi _ _) ?_;show wpAny _ _ (Builtin.Builtins.bindParams "min" ["key","default"] 0 ⟨[],[(Str.ofString "default",dv)]⟩>>=_) _ _ s;refine fW<|wpAny_of_eq rfl (fW<|az<|fW<|cP BH<|fW<|wpAny_newList ?_<|bA _);rw[nm];have W:=Walks.list (prog:=X.prog) (w:=X.w) (A:=X.A.in1) (I.ok.hd gH) s.heap.objs.size p lt gb.toArray;have hS:((s.heap.push { cls:=.type "list_iterator",data:=.fields #[.ref p,.int 0 0]}).push { cls:=.type "list",data:=.seq ([]:au ar).toArray}).get? (s.heap.push { cls:=.type "list_iterator",data:=.fields #[.ref p,.int 0 0]}).objs.size=some { cls:=.type "list",dict:=none,data:=.seq #[] 0,slots:=#[]}:=aD _ rfl;have Vl:(s.heap.push { cls:=.type "list_iterator",data:=.fields #[.ref p,.int 0 0]}).objs.size=s.heap.objs.size+1:=aR ..
 have ltp:p<s.heap.objs.size:=jd e;have Sf:(s.heap.push { cls:=.type "list_iterator",data:=.fields #[.ref p,.int 0 0]}).objs.size∉[s.heap.objs.size,p]:=by rw[Vl];simp only[a6,aN,cb,not_or];exact⟨bE<|bD _,bE<|bC ltp⟩
 have QH:((s.heap.push { cls:=.type "list_iterator",data:=.fields #[.ref p,.int 0 0]}).push { cls:=.type "list",data:=.seq ([]:au ar).toArray}).IsListIter s.heap.objs.size p 0/\((s.heap.push { cls:=.type "list_iterator",data:=.fields #[.ref p,.int 0 0]}).push { cls:=.type "list",data:=.seq ([]:au ar).toArray}).IsList p gb.toArray :=
  ⟨⟨_,jw _<|aD _ rfl,rfl,rfl⟩,(BH.push _).push _⟩
 have back:∀ {h':Heap} {tk:Nat},(∀ b o,s.heap.get? b=some o->h'.get? b=some o)->Inv X fA σ H {s with heap:=h',toks:=tk}:=λkp=>I.iR kp;refine az ⟨dq c3 _,?_⟩;refine dg eK ?_;rw[dm c3 _];show wpAny _ _ (seqItems? (.ref _)>>=_) _ _ _;refine fW<|bz hS rfl ?_;show wpAny _ _ (tryCatch (pyNext<|.ref s.heap.objs.size) _>>=_) _ _ _;by_cases hn:ns=[]
 .rw[aE hn]at q;have z0:gb.toArray.size=0:=by rw[len,hn];rfl
  refine fW (dM<|W.done _ _ _ (by rw[z0];exact QH) λh' tk kp=>?_);show wpAny _ _ (rule _>>=_) _ _ _;refine fW<|dN<|az ?_;exact⟨d,H,back λb o eb=>kp b o (by simpa using aC<|jd eb)<|jw _<|jw _ eb,rd,q⟩
 .rw[aF hn]at q;have pos:0<ns.length:=List.length_pos_iff.mpr hn;refine fW (dM<|W.item 0 _ _ _ (by rw[len];exact pos) QH λv h' tk hv Pd kp=>?_);have UY:=kp _ _ (by simpa using(λz:(s.heap.push { cls:=.type "list_iterator",data:=.fields #[.ref p,.int 0 0]}).objs.size=s.heap.objs.size=>Sf<|by simp[z])) hS;show wpAny _ _ (updateSeq _ (λ_=>#[v,v])>>=_) _ _ _;refine fW<|de UY rfl ?_;rw[nm];refine az ⟨dq c3 _,OW W (λi j=>decide (ns.getD i 0<ns.getD j 0)) ?_ _ Sf _ 0 _ v _ rfl (by rw[len];exact pos) (W.frame _ _ _ Pd λb hbf o eb=>?_) hv (bF _ UY rfl) λv' h2 XJ Ip Nz=>?_⟩
  .intro i j vi vj s' Q' E' hi hj hq;obtain⟨t,_,rfl⟩:=val i vi hi;obtain⟨t',_,rfl⟩:=val j vj hj;exact lt_int hq
  .exact(aX _ _ λh=>Sf (by rw[h];exact hbf)).trans eb
  .rw[len]at Ip;obtain⟨t,mv,rfl⟩:=val _ v' Ip;obtain⟨b1,b2⟩:=wm ns (ns.length - 1) (by lia);have nS:∀ b o,s.heap.get? b=some o->b≠(s.heap.push { cls:=.type "list_iterator",data:=.fields #[.ref p,.int 0 0]}).objs.size:=λb o eb=>by rw[Vl];exact aC (bC<|jd eb)
   have nI:∀ b o,s.heap.get? b=some o->b∉[s.heap.objs.size]:=λb o eb=>by simpa using aC (jd eb)
   refine⟨.int _,H,back λb o eb=>Nz b o (nI b o eb) (nS b o eb)<|(aX _ _<|bX<|nS b o eb).trans<|kp b o (nI b o eb)<|jw _<|jw _ eb,⟨t,rfl⟩,q _ ?_ λx hx=>?_⟩
   .rw[aA,iD mv];exact bJ _
   .obtain⟨j,hj,ej⟩:=aJ hx;have:=b2 j (by lia);rw[aA (i:=j),iD hj,ej]at this;exact this
def WZ (w wd:De):De:=λρ μ K=>w ρ μ λx gc=>wd ρ gc λd iP=>∃ ns:au Int,lv iP x=some (ns.map D.int)/\if ns=[]then K d iP else ∀ m,m∈ns->(∀ y∈ns,m<=y)->K (.int m) iP
def TZ (gH:X.gH=true)(hg:Gl X "min")(hm:X.mg "min"=none)(he:PD X e w)(hc:PD X c wd)
 (h1:starEach [e] X.env=(false,eval e X.env)::starEach [] X.env:=by rfl)
 (h2:backTo pos (starEach [e] X.env)=(false,eval e X.env)::backTo pos (starEach [] X.env):=by rfl) (h3:(backTo pos<|starEach [e] X.env).any (·.1)=false:=by rfl)
 (h4:(backToKw pos<|keywordEach [⟨some "default",c,Lp⟩] X.env).all (·.1.isSome)=true:=by rfl) (h5:(backToKw pos<|keywordEach [⟨some "default",c,Lp⟩] X.env).any (·.1.isNone)=false:=by rfl)
 (h6:(backToKw pos<|keywordEach [⟨some "default",c,Lp⟩] X.env).filterMap (·.1)=[Str.ofString "default"]:=by rfl):
 PD X (.Call (.Name "min" p) [e] [⟨some "default",c,Lp⟩] pos) (WZ w wd):=by
 intro fA s σ H Q I h;let ⟨φ,ρ,μ,K,A,M,k,L⟩:=h;refine cA<|kc I hg hm dH ?_;have q1:FG (tD w) NU σ H (λus H1=>FG (tD wd) NU σ H1 λds H2=>∃(l:ao) (d:V) (ns:au Int),us=[.ref l]/\ds=[d]/\H2 l=some (.lst<|ns.map V.int)/\if ns=[]then Q d H2 else ∀ m,m∈ns->(∀ y∈ns,m<=y)->Q (.int m) H2):=by
  refine⟨φ,ρ,μ,_,A,M,k,λd1 gc gL v1 H1 k1 f1 M1 i1=>⟨gL,ρ,gc,_,A.mono f1,M1,k1,λd2 iP lg v2 H2 k2 f2 M2 i2=>?_⟩⟩;let ⟨ns,el,k2⟩:=k2;obtain⟨l,vs,rfl,hp,ha⟩:=kK M2 (i1.mono f2) el;have L2':=L.mono<|f1.trans f2;refine⟨l,v2,ns,rfl,rfl,by rw[hp,ha.ints],?_⟩;by_cases hn:ns=[]
  .rw[aE hn]at k2 ⊢;exact L2'.val M2 k2 i2
  .rw[aF hn]at k2 ⊢;exact λm a b=>L2'.val M2 (k2 m a b) rfl
 refine PyProof.Rows.callWith_kw (iN (gg he iV h1 pos fA s σ H _ I q1) λus s1 pS=>?_) h2 h3 h4 h5;obtain⟨vs,H1,I1,r1,q2⟩:=pS;refine iN (Oy hc Sl pos fA s1 σ H1 _ I1 q2) λks s2 qk=>?_;obtain⟨ds,H2,I2,r2,l,d,ns,e1,e2,hp,q⟩:=qk;subst e1 e2;obtain⟨u,rfl,ru⟩:=r1.one;obtain⟨u2,rfl,ru2⟩:=r2.one;cases ru;exact Cw I2 gH hp ru2 q
def FR:V->au V->Hp->VK->Prop:=λx vs H Q=>∃(l:ao) (y:Int) (ns:au Int) (j:Nat),x=.ref l/\vs=[.int y]/\H l=some (.lst<|ns.map V.int)/\ns[j]?=some y/\(∀ m,m<j->ns[m]?≠some y)/\Q (.int j) H
def LA:Ni X "list.index" FR:=by
 intro fA s σ H x vs v us Q I rx rv h
 .obtain⟨l,y,ns,j,rfl,rfl,hl,hj,hno,q⟩:=h;cases rx;obtain⟨u,rfl,t,rfl⟩:=rv.one;obtain⟨hz,gb,n,r,hlen,e⟩:=I.mq hl;have UT:j<ns.length:=(kB hj).1;have len:gb.length=ns.length:=by rw[<- hlen,gP]
  have eU:∀(m:Nat) (hm:m<gb.length),gb[m]=gb[m]/\CT (.int y) gb[m]=decide (ns[m]?=some y):=λm hm=>by
   obtain⟨w',ew,DJ⟩:=r.get (i:=m) (by rw[mS,iD (by lia)];rfl);have:gb[m]=w':=by rw[iD hm]at ew;exact aK ew
   refine⟨rfl,?_⟩;rw[this,E5 DJ rfl];show(ns[m]==y)=_;rw[iD (by lia)];by_cases h:ns[m]'(by lia)=y
   .simp[h]
   .simp[h]
  refine call_meets eE ⟨_,e,rfl⟩ PySem.F.entry_list_index (PySem.F.args_list_index_2 _ _) (SeqAt.list_indexAt l gb.toArray n none #[] (.int y t) (CT<|.int y) j (by rw[aG,len];exact UT) (by have:=qg;rw[gP]at hz;lia) ?_ λm hm hmj=>?_) ⟨e,λz hzm=>oB (x:=.int y) ⟨t,rfl⟩ rfl r (by simp[lQ]) z<|by simpa using hzm,?_⟩
  .have:=(eU j<|by lia).2;rw[aI hj]at this;simpa using this
  .have:=(eU m<|by lia).2;rw[aO (hno m hmj)]at this;simpa using this
  .exact⟨.int j,H,I.tok _,⟨_,rfl⟩,q⟩
def L8:U7:=λd ds μ K=>match ds with
 |[.int y]=>∃(ns:au Int) (j:Nat),lv μ d=some (ns.map D.int)/\ns[j]?=some y/\(∀ m,m<j->ns[m]?≠some y)/\K (.int j) μ
 |_=>False
def BV:Nd Kf "list" FR L8:=λφ H x vs d ds μ K Q M hx h k L=>by
 unfold L8 at k;split at k
 .obtain⟨v,r,rfl,h1,h2⟩:=h;cases h2;cases h1;let ⟨ns,j,el,h1,h2,k⟩:=k;obtain⟨p,us,rfl,hp,ha⟩:=kK M hx el;exact⟨_,_,ns,j,rfl,rfl,by rw[hp,ha.ints],h1,h2,L.val M k rfl⟩
 .exact k.elim
end
theorem nR:∀(xs:au Int) (e:Int),e<=xs.foldl max e/\∀ x∈xs,x<=xs.foldl max e
 |[],e=>⟨bw _,λ_ h=>nomatch h⟩
 | y::xs,e=>by
  let ⟨h1,h2⟩:=nR xs<|max e y;rw[cZ];refine⟨by lia,λx hx=>?_⟩;rcases List.mem_cons.mp hx with q|q
  .lia
  .exact h2 x q
theorem jD:∀(xs:au Int) (e:Int),xs.foldl max e=e\/xs.foldl max e∈xs
 |[],e=>.inl rfl
 | y::xs,e=>by
  rw[cZ];rcases jD xs (max e y)with h|h
  .rw[h];rcases Int.le_total e y with q|q
   .exact .inr (by rw[show max e y=y by lia];exact aH)
   .exact .inl (by lia)
  .exact .inr (ny _ h)
def Pj {xs:au Int}{e m:Int}(h1:m∈e::xs)(h2:∀ x∈e::xs,x<=m):m=xs.foldl max e:=by
 let ⟨a,b⟩:=nR xs e;have le:m<=xs.foldl max e:=by
  rcases List.mem_cons.mp h1 with q|q
  .lia
  .exact b m q
 have ge:xs.foldl max e<=m:=by
  rcases jD xs e with q|q
  .rw[q];exact h2 e aH
  .exact h2 _ (ny _ q)
 lia
def sh (l:au Nat)(e:Nat):Nat:=e+((l.drop e).takeWhile (·==111)).length
def sf (ho:OX l)(he:e<=l.length):Up l e (sh l e):=by
 have split:=List.takeWhile_append_dropWhile (p:=λc=>c==111) (l:=l.drop e);have len:=cD List.length split;rw[lP,bG]at len;refine⟨bc _ _,by unfold sh;lia,λv h1 h2=>?_,?_⟩
 .have hv:v - e<((l.drop e).takeWhile (·==111)).length:=by unfold sh at h2;lia
  have g:l[v]?=((l.drop e).takeWhile (·==111))[v - e]?:=by
   have q:(l.drop e)[v - e]?=l[v]?:=by rw[cL];congr 1;lia
   rw[<- q,<- split,vd hv];simp
  rw[g,iD hv]
  have:=List.all_eq_true.mp (List.all_takeWhile) _ (bJ hv)
  simpa using this
 .cases hd:(l.drop e).dropWhile (·==111)with
  | nil =>left;rw[hd]at len;unfold sh;simp at len;lia
  | cons c r =>
   right;have g:l[sh l e]?=some c:=by
    have q:(l.drop e)[sh l e - e]?=l[sh l e]?:=by rw[cL];congr 1;unfold sh;lia
    rw[<- q,<- split,qV (by unfold sh;simp),hd];unfold sh;simp
   have nc:c≠111:=by have:=List.head?_dropWhile_not (p:=λc=>c==111) (l:=l.drop e);rw[hd]at this;simpa using this
   rw[g];rcases ho c (kq g)with q|q
   .exact absurd q nc
   .rw[q]
def iS (es:au Int)(l:au Nat)(e:Int):Int:=(es.filter λx=>decide (x<=(sh l e.toNat:Int))).foldl max e
def AO {e:Int}(ho:OX l)(h0:0<=e)(he:e<=l.length)(hm:e∈es):Xy es l e (iS es l e):=by
 have ct:=sf ho (e:=e.toNat) (by lia);have ein:e∈es.filter λx=>decide (x<=(sh l e.toNat:Int)):=List.mem_filter.mpr ⟨hm,aI (by have:=ct.1;lia)⟩;obtain⟨a,b⟩:=nR (es.filter λx=>decide (x<=(sh l e.toNat:Int))) e;have mi:iS es l e∈es.filter λx=>decide (x<=(sh l e.toNat:Int)):=by
  rcases jD (es.filter λx=>decide (x<=(sh l e.toNat:Int))) e with q|q
  .unfold iS;rwa [q]
  .exact q
 let ⟨m1,m2⟩:=List.mem_filter.mp mi;exact⟨_,ct,m1,bR m2,λx hx hxt=>b x<|List.mem_filter.mpr ⟨hx,aI hxt⟩⟩
def EU {es:au Int}{l:au Nat}{e m:Int}(ho:OX l)(h0:0<=e)(he:e<=l.length)(hm:e∈es)(h:Xy es l e m):m=iS es l e:=h.uniq (AO ho h0 he hm)
def xo {es:au Int}{l:au Nat}{e:Int}(hm:e∈es):iS es l e∈es:=by
 unfold iS;rcases jD (es.filter λx=>decide (x<=(sh l e.toNat:Int))) e with q|q
 .rwa [q]
 .exact(List.mem_filter.mp q).1
def AQ (es:au Int)(l:au Nat)(e:Int):e<=iS es l e:=(nR _ e).1
def i7 (es:au Int)(ts:au Tk)(a e:Int):Int:=ts.foldl (λm t=>if t.2<=a then max m (iS es t.1 e)else m) e
def i0 (es:au Int)(ts:au Tk)(a:Int):au Int:=es.map (i7 es ts a)
theorem Ce (es:au Int)(a e:Int):∀(ts:au Tk) (m:Int),ts.foldl (λm t=>if t.2<=a then max m (iS es t.1 e)else m) m=((ts.filter λt=>decide (t.2<=a)).map λt=>iS es t.1 e).foldl max m
 |[],m=>rfl
 | t::ts,m=>by
  rw[cZ,Ce es a e ts,cu];by_cases h:t.2<=a
  .rw[aE h,aE (aI h)];rfl
  .rw[aF h,aF (by simp[h])]
def jO (es:au Int)(ts:au Tk)(a e:Int):i7 es ts a e=((ts.filter λt=>decide (t.2<=a)).map λt=>iS es t.1 e).foldl max e:=Ce es a e ts e
def wO {es:au Int}{ts:au Tk}{a e:Int}(hm:e∈es):i7 es ts a e∈es:=by
 rw[jO];rcases jD ((ts.filter λt=>decide (t.2<=a)).map λt=>iS es t.1 e) e with q|q
 .rwa [q]
 .let ⟨t,_,ht⟩:=List.mem_map.mp q;rw[<- ht];exact xo hm
def mP (es:au Int)(ts:au Tk)(a e:Int):e<=i7 es ts a e:=by rw[jO];exact(nR _ e).1
def sL (es:au Int)(t:Tk):au Int:=es.map (iS es t.1)
def r9 (es:au Int)(a:Int)(told:au Int)(t:Tk):au Int:=if t.2<=a then List.zipWith max told (sL es t)else told
theorem zq (es:au Int)(a:Int):∀(ts:au Tk) (g:Int->Int),ts.foldl (r9 es a) (es.map g)=es.map λe=>ts.foldl (λm t=>if t.2<=a then max m (iS es t.1 e)else m) (g e)
 |[],g=>rfl
 | t::ts,g=>by
  have e1:r9 es a (es.map g) t=es.map λe=>if t.2<=a then max (g e) (iS es t.1 e)else g e:=by
   unfold r9;by_cases h:t.2<=a
   .rw[aE h];unfold sL;simp[h]
   .simp[h]
  rw[cZ,e1,zq es a ts];rfl
def MJ (es:au Int)(ts:au Tk)(a:Int):ts.foldl (r9 es a) es=i0 es ts a:=by have:=zq es a ts id;rw[List.map_id]at this;rw[this];rfl
def rowAt (es row:au Int)(x:Int):Int:=(row[es.idxOf x]?).getD 0
def lO (es:au Int)(ts:au Tk)(before:au Int)(a:Int):au Int:=List.zipWith (λRi mid=>max Ri<|rowAt es before mid) (i0 es ts a) before
structure nu (es row:List Int):Prop where
 len:row.length=es.length
 mem:∀ x∈row,x∈es
def EG {es:au Int}{x:Int}(h:x∈es):es.idxOf x<es.length:=List.idxOf_lt_length_iff.mpr h
def l8 {es:au Int}{x:Int}(h:x∈es):es[es.idxOf x]?=some x:=by rw[iD (EG h)];congr 1;exact List.getElem_idxOf (EG h)
def ka {es row:au Int}(r:nu es row){x:Int}(h:x∈es):row[es.idxOf x]?=some (rowAt es row x):=by
 have hl:es.idxOf x<row.length:=by rw[r.len];exact EG h
 unfold rowAt;rw[iD hl];rfl
def HF {es row:au Int}(r:nu es row){x:Int}(h:x∈es):rowAt es row x∈es:=r.mem _ (kq<|ka r h)
def GK (es:au Int):nu es es:=⟨rfl,λ_ h=>h⟩
def uz (es:au Int)(ts:au Tk)(a:Int):nu es (i0 es ts a):=⟨by unfold i0;rw[gP],λx hx=>by
 obtain⟨e,he,rfl⟩:=List.mem_map.mp hx
 exact wO he⟩
def max_mem {es:au Int}{a b:Int}(ha:a∈es)(hb:b∈es):max a b∈es:=by
 rcases Int.le_total a b with h|h
 .rwa [show max a b=b by lia]
 .rwa [show max a b=a by lia]
def Aq {es:au Int}{ts:au Tk}{before:au Int}{a:Int}(r:nu es before):nu es (lO es ts before a):=by have o:=uz es ts a;refine⟨by unfold lO;rw[bH,o.len,r.len,Nat.min_self],λx hx=>?_⟩;unfold lO at hx;obtain⟨i,hi,rfl⟩:=aJ hx;rw[List.getElem_zipWith];exact max_mem (o.mem _<|bJ _) (HF r<|r.mem _<|bJ _)
def gh (es:au Int)(ts:au Tk):Nat->au Int
 |0=>i0 es ts 0
 |a+1=>lO es ts (gh es ts a) ((a:Int)+1)
theorem jz (es:au Int)(ts:au Tk):∀ a,nu es (gh es ts a)
 |0=>uz es ts 0
 |a+1=>Aq (jz es ts a)
def D8 {es:au Int}{x:Int}(h:x∈es):rowAt es es x=x:=by unfold rowAt;rw[l8 h];rfl
def yZ (es:au Int)(ts:au Tk)(a:Int):lO es ts es a=i0 es ts a:=by
 have key:∀ xs:au Int,(∀ x∈xs,x∈es)->List.zipWith (λRi mid=>max Ri<|rowAt es es mid) (xs.map<|i7 es ts a) xs=xs.map (i7 es ts a):=by
  intro xs;induction xs with
  |nil=>intro _;rfl
  | cons x xs ih =>intro h;rw[aB,bT,ih λy hy=>h y<|ny _ hy,D8 (h x aH)];have:=mP es ts a x;rw[show max (i7 es ts a x) x=i7 es ts a x by lia]
 exact key es λ_ h=>h
def Cd {es:au Int}{ts:au Tk}{a:Int}(h:∀ t∈ts,a<t.2):i0 es ts a=es:=by
 unfold i0;have e:∀ e,i7 es ts a e=e:=λe=>by rw[jO,List.filter_eq_nil_iff.mpr λt ht=>by have:=h t ht;simp;lia];rfl
 rw[bY λx _=>e x,List.map_id']
theorem ur:∀ {a:Nat},(∀ t∈ts,(a:Int)<t.2)->gh es ts a=es
 |0,h=>Cd h
 | a+1,h=>by unfold gh;rw[ur λt ht=>by have:=h t ht;lia,yZ];exact Cd λt ht=>by have:=h t ht;lia
def Aw (h:lv μ x=some ds):lv (μ++[m]) x=some ds:=by
 cases x with
 |lst es=>exact h
 |mr k=>exact OZ h
 |_=>cases h
def Lh (h:lv μ x=some ds):lv (μ++g) x=some ds:=by
 cases x with
 |lst es=>exact h
 |mr k=>exact wY (by rw[vd (kB<|jP h).1];exact jP h)
 |_=>cases h
structure gv (n:Int)(cs:List Int)(ts:List Tk):Prop where
 n1:1<=n
 n2:n<=1000
 lL:cs.length<=1000
 iI:Cuts n cs
 takes:Dq n ts
def oF (n:Int)(cs:au Int):0∈fw n cs:=by unfold fw;simp
def tM {n:Int}{cs:au Int}(h1:1<=n)(h:Cuts n cs):(fw n cs).Nodup:=List.Pairwise.imp (λh=>Int.ne_of_lt h) (hV h1 h)
def aat:j4:=λds μ K=>match ds with
 |[.int n,x]=>∃ cs:au Int,lv μ x=some (cs.map D.int)/\cs.length<=1000/\K (.mr μ.length) (μ++[.lst ((fw n cs).map D.int)])
 |_=>False
def uI:j4:=λds μ K=>match ds with
 |[.int n,x,.str z,.int e]=>∃ cs:au Int,lv μ x=some (cs.map D.int)/\cs.length<=1000/\(z.length:Int)=n/\n<=1000/\OX z.cps.toList/\0<=e/\e<=n/\e∈fw n cs/\K (.int<|iS (fw n cs) z.cps.toList e) μ
 |_=>False
def TR:j4:=λds μ K=>match ds with
 |[.lst b,.str z,.int e]=>∃ es:au Int,b=es.map D.int/\es.length<=2000/\z.length<=1000/\OX z.cps.toList/\0<=e/\e<=z.length/\e∈es/\K (.int<|iS es z.cps.toList e) μ
 |_=>False
def jk (es:au Int)(t:Tk):D:=.tup [.int t.2,.lst ((sL es t).map D.int)]
def uF:j4:=λds μ K=>match ds with
 |[.int n,x,y]=>∃(cs:au Int) (ts:au Tk),lv μ x=some (cs.map D.int)/\lv μ y=some (ts.map nB)/\gv n cs ts/\K (.lst<|ts.map<|jk<|fw n cs) μ
 |_=>False
def uK:j4:=λds μ K=>match ds with
 |[x,.lst r,.int a]=>∃(es:au Int) (ts:au Tk),lv μ x=some (es.map D.int)/\r=ts.map (jk es)/\es.length<=2000/\ts.length<=100/\K (.lst<|(i0 es ts a).map D.int) μ
 |_=>False
def EW:j4:=λds μ K=>match ds with
 |[x,.lst r,y,.int a]=>∃(es:au Int) (ts:au Tk) (bf:au Int),lv μ x=some (es.map D.int)/\r=ts.map (jk es)/\es.length<=2000/\ts.length<=100/\es.Nodup/\lv μ y=some (bf.map D.int)/\nu es bf/\K (.mr μ.length) (μ++[.lst ((lO es ts bf a).map D.int)])
 |_=>False
def kP (ts:au Tk):Int:=match ts.map (·.2)with|[]=>0|a::r=>r.foldl min a
theorem jQ:∀(xs:au Int) (e:Int),(xs.foldl min e=e\/xs.foldl min e∈xs)/\xs.foldl min e<=e/\∀ x∈xs,xs.foldl min e<=x
 |[],e=>⟨.inl rfl,bw _,λ_ h=>nomatch h⟩
 | y::xs,e=>by
  let ⟨h0,h1,h2⟩:=jQ xs<|min e y;rw[cZ];refine⟨?_,by lia,λx hx=>?_⟩
  .rcases h0 with h | h
   .rw[h];rcases Int.le_total e y with q|q
    .exact .inl (by lia)
    .exact .inr (by rw[show min e y=y by lia];exact aH)
   .exact .inr (ny _ h)
  .rcases List.mem_cons.mp hx with q | q
   .lia
   .exact h2 x q
def JA {ts:au Tk}{m:Int}(hm:m∈ts.map (·.2))(hl:∀ y∈ts.map (·.2),m<=y):m=kP ts:=by
 unfold kP;cases e:ts.map (·.2)with
 |nil=>rw[e]at hm;cases hm
 | cons a r =>
  rw[e]at hm hl;let ⟨h0,h1,h2⟩:=jQ r a;have a1:m<=r.foldl min a:=by
   rcases h0 with q|q
   .rw[q];exact hl a aH
   .exact hl _ (ny _ q)
  have a2:r.foldl min a<=m:=by
   rcases List.mem_cons.mp hm with q|q
   .lia
   .exact h2 m q
  lia
def BN:∀ t∈ts,kP ts<=t.2:=λt ht=>by
 have hm:t.2∈ts.map (·.2):=List.mem_map.mpr ⟨t,ht,rfl⟩;unfold kP;cases e:ts.map (·.2)with
 |nil=>rw[e]at hm;cases hm
 | cons a r =>
  rw[e]at hm;let ⟨h0,h1,h2⟩:=jQ r a;rcases List.mem_cons.mp hm with q|q
  .lia
  .exact h2 _ q
def BM {ts:au Tk}{n:Int}(h:Dq n ts):0<=kP ts/\kP ts<=60:=by
 unfold kP;cases e:ts.map (·.2)with
 |nil=>exact⟨bw _,by decide⟩
 | cons a r =>
  let ⟨h0,h1,h2⟩:=jQ r a;have key:∀ x∈a::r,0<=x/\x<=60:=λx hx=>by rw[<- e]at hx;obtain⟨t,ht,rfl⟩:=List.mem_map.mp hx;have:=h.ok t ht;exact⟨this.2.2.1,this.2.2.2⟩
  show 0<=r.foldl min a/\r.foldl min a<=60;rcases h0 with q|q
  .rw[q];exact key a aH
  .exact key _ (ny _ q)
def uE:j4:=λds μ K=>match ds with
 |[y]=>∃ ts:au Tk,lv μ y=some (ts.map nB)/\ts.length<=100/\K (.int<|kP ts) μ
 |_=>False
def TQ:j4:=λds μ K=>match ds with
 |[.lst b,y,.int a]=>∃(n:Int) (cs:au Int) (ts:au Tk),b=(fw n cs).map D.int/\lv μ y=some (ts.map nB)/\gv n cs ts/\K (.lst<|(i0 (fw n cs) ts a).map D.int) μ
 |_=>False
def L4:j4:=λds μ K=>match ds with
 |[.lst b,y,.int m]=>∃(n:Int) (cs:au Int) (ts:au Tk),b=(fw n cs).map D.int/\lv μ y=some (ts.map nB)/\gv n cs ts/\0<=m/\m<=1000/\K (.lst<|(List.range m.toNat).map λa=>.lst<|(gh (fw n cs) ts a).map D.int) μ
 |_=>False
def Zm (x sc:Scope):Scope:={ sc with names:=sc.names.map λ(n,k)=>if k==NameKind.free&&x.kind==.function&&x.names.lookup n==some .cell then(n,NameKind.cell)else(n,k)}
def v8 (hs:X0.env.scope=xsc)(h:v9 N0 (Zm xsc XS) N js sc=true):kh (oj X0 N0 XS fp s H) N js sc:=by subst hs;exact Fd h rfl rfl
def rh (p:Int->Bool):D->av D
 |.int i=>if p i=true then some (.int i)else none
 |_=>none
def tK (p:Int->Bool)(es:au Int):(es.map D.int).filterMap (rh p)=(es.filter p).map D.int:=by
 induction es with
 |nil=>rfl
 | cons e es ih =>
  rw[aB,cH,cu];unfold rh at ih ⊢
  by_cases h:p e=true
  .simp only[h,if_true,aB];rw[ih]
  .simp only[h,if_false];rw[ih];rfl
def vR {p:Int->Bool}{i:Int}{K:av D->MS->Prop}{μ:MS}(h:p i=true)(k:K (rh p<|.int i) μ):K (some<|.int i) μ:=by have e:rh p (.int i)=some (.int i):=aE h;rw[e]at k;exact k
def sY {p:Int->Bool}{i:Int}{K:av D->MS->Prop}{μ:MS}(h:¬ p i=true)(k:K (rh p<|.int i) μ):K none μ:=by have e:rh p (.int i)=none:=aF h;rw[e]at k;exact k
def Le (g:Int->D):D->av D
 |.int i=>some (g i)
 |_=>none
def AN (g:Int->D)(es:au Int):(es.map D.int).filterMap (Le g)=es.map g:=by rw[List.filterMap_map,<- eZ];rfl
def Ld (g:Tk->D):D->av D
 |.tup [.str z,.int a]=>some (g (z.cps.toList,a))
 |_=>none
def vV (g:Tk->D)(ts:au Tk):(ts.map nB).filterMap (Ld g)=ts.map g:=by rw[List.filterMap_map,<- eZ];rfl
def Ew (g:Int->Int->D):D->av D
 |.tup [.int a,.int b]=>some (g a b)
 |_=>none
def AM (g:Int->Int->D)(xs ys:au Int):(List.zipWith (λa b=>D.tup [a,b]) (xs.map D.int)<|ys.map D.int).filterMap (Ew g)=List.zipWith g xs ys:=by
 rw[List.zipWith_map];induction xs generalizing ys with
 |nil=>simp
 | cons x xs ih =>
  cases ys with
  |nil=>simp
  |cons y ys=>rw[bT,bT,cH,ih];rfl
def zI {xs ys:au Int}(h:d∈List.zipWith (λa b=>D.tup [a,b]) (xs.map D.int) (ys.map D.int)):∃ a∈xs,∃ b∈ys,d=.tup [.int a,.int b]:=by
 induction xs generalizing ys with
 |nil=>simp at h
 | cons x xs ih =>
  cases ys with
  |nil=>simp at h
  | cons y ys =>
   rcases List.mem_cons.mp h with q|q
   .exact⟨x,aH,y,aH,q⟩
   .let ⟨a,ha,b,hb,e⟩:=ih q;exact⟨a,ny _ ha,b,ny _ hb,e⟩
theorem zF {α β γ δ:Type}(f:γ->δ)(g:α->β->γ):∀(xs:au α) (ys:au β),(List.zipWith g xs ys).map f=List.zipWith (λa b=>f<|g a b) xs ys
 |[],_=>by simp
 |_::_,[]=>by simp
 |x::xs,y::ys=>by rw[bT,bT,aB,zF f g xs ys]
abbrev kI (i:Int):Key:=.inl i
def xA:Nat->au Int->au D
 |_,[]=>[]
 |n,e::es=>.tup [.int n,.int e]::xA (n+1) es
theorem zh:∀(n:Nat) (es:au Int) (i:Nat),(xA n es)[i]?=(es[i]?).map λe=>D.tup [.int ((n+i:Nat):Int),.int e]
 |n,[],i=>by simp[xA]
 |n,e::es,0=>by simp[xA]
 | n,e::es,i+1=>by unfold xA;rw[eF,eF,zh (n+1) es i];congr 1;funext e;rw[show n+1+i=n+(i+1) by lia]
def Mn (es:au Int):nT (es.map D.int)=xA 0 es:=by
 apply cy;intro i;rw[zh];unfold nT;rw[bQ,gP,mS];cases e:es[i]? with
 |none=>simp
 | some x =>have hi:=(kB e).1;rw[aY hi];simp
def rC:Nat->au Int->au (Key×D)
 |_,[]=>[]
 |n,e::es=>(kI e,.int n)::rC (n+1) es
theorem BP {it:D->MS->(av (Key×D)->MS->Prop)->Prop}{c:MS->Prop}{μ:MS}{K:au (Key×D)->Prop}(hc:∀ m,c (μ++[m]))(hit:∀(i:Nat) (e:Int) (fZ:MS) (K':av (Key×D)->MS->Prop),K' (some (kI e,.int i)) fZ->it (.tup [.int i,.int e]) fZ K'):∀(es:au Int) (n:Nat) (fO:au (Key×D)),es.Nodup->(∀ kv∈fO,∀ e∈es,kv.1≠kI e)->K (fO++rC n es)->xF it c μ (xA n es) fO K
 | [],n,fO,_,_,k=>by rw[show rC n []=[]from rfl,b8]at k;exact⟨hc _,k⟩
 | e::es,n,fO,nd,hk,k=>by
  refine⟨hc _,hit n e _ _ ⟨rfl,rfl,?_⟩⟩;have hn:(fO.any λkv=>decide (kv.1=kI e))=false:=by rw[eR];intro kv Wh;simp;exact hk kv Wh e aH
  have hd:dput fO (kI e) (.int n)=fO++[(kI e,.int n)]:=by unfold dput;rw[hn];rfl
  rw[hd];refine BP hc hit es (n+1) _ (List.nodup_cons.mp nd).2 (λkv Wh e' Yd=>?_) ?_
  .rcases List.mem_append.mp Wh with q | q
   .exact hk kv q e' (ny _ Yd)
   .rw[List.mem_singleton.mp q];intro z;have z':e=e':=by injection z
    rw[z']at nd;exact(List.nodup_cons.mp nd).1 Yd
  .rwa [bq]
theorem zip_parts {α β:Type}:∀ l:au (α×β),(l.map (·.1)).zip (l.map (·.2))=l
 |[]=>rfl
 |p::l=>by rw[aB,aB,cK,zip_parts l]
theorem yF:∀ {es:au Int} {n:Nat} {m:Int},m∈es->qW (rC n es) (kI m)=some (.int ((n+es.idxOf m:Nat):Int))
 |[],n,m,h=>by cases h
 | e::es,n,m,h=>by
  unfold rC qW;rw[b7];by_cases q:e=m
  .subst q;simp
  .have hm : m ∈ es := by rcases List.mem_cons.mp h with z | z
                          .exact absurd z.symm q
                          .exact z
   have nk:decide ((kI e)=kI m)=false:=aO λz=>q (by injection z)
   have nk':=nk
   rw[nk']
   have:=yF (n:=n+1) hm
   unfold qW at this
   rw[this,show(e::es).idxOf m=es.idxOf m+1 by rw[cY,show(e==m)=false from dh q];rfl]
   congr 3
   lia
section
variable {X:Cx}{N:au Str}{sc:Scope}{js:au (av Nat)}{tg iter kx vx:Expr}{ifs:au Expr}{g:TG}{tt:TT}{tk tv:TE}
def KG (hc:kh X N js sc)(gH:X.gH=true)(hi:PI X tg iter wi)(hg:∀ fp s H,PG (x9 X N sc fp s H) tg g)
 (ht:∀ fp s H,Ng (x9 X N sc fp s H) ifs tt) (hk:∀ fp s H,PE (x9 X N sc fp s H) kx tk) (hv:∀ fp s H,PE (x9 X N sc fp s H) vx tv)
 (hs:∀ x,foldedSetIterable iter X.env x=pure x:=by intro _;rfl):PE X (.DictComp kx vx [⟨tg,iter,ifs,0⟩] sc pos) (JQ wi js g tt tk tv):=by
 intro fA s σ H Q I h;refine dZ (use:=none) rfl hs (oa λy hy e=>I.ok.has y.1<|hc.free y hy e) hc.kind hc.loc (iN (hi fA s σ H _ I h) λv s1 h1=>iN h1 λV4 s2 h2=>?_);obtain⟨it,fp,tn,J,H2,e,I2,T,QG,f2,q⟩:=h2;subst e;refine dk<|qe ?_;have hD:=I2.iH.fresh<|aw _;have I3:Inv X fA σ (upd H2 s2.heap.objs.size<|.dK []) { s2 with heap:=s2.heap.push { cls:=.type "dict",data:=.dict #[]}}:=I2.laid (t':=s2.toks) (λ_ _ q=>jw _ q) (aw _)<|xB s2.heap I2.big;have hC:(s2.heap.push { cls:=.type "dict",data:=.dict #[]}).objs.size=s2.heap.objs.size+1:=aR ..
 have Nt:tn 0 (s2.heap.push { cls:=.type "dict",data:=.dict #[]}):=T.keep 0 _ _ QG λb _ o e=>jw _ e;have UQ:∀ b∈fp,b≠s2.heap.objs.size:=λb hb=>let ⟨o,e,_⟩:=T.obj 0 s2.heap QG b hb;aC (jd e)
 have f3:∀ b∈fp,mE X fA (upd H2 s2.heap.objs.size<|.dK []) b:=λb hb=>⟨by rw[gp (UQ b hb)];exact(f2 b hb).1,(f2 b hb).2⟩;refine Dh I3 hc gH T Nt f3 (hg fp _ _) (ht fp _ _) (hk fp _ _) (hv fp _ _) (q s2.heap.objs.size hD) λs' H' fO m IX qf nC hn=>?_;have mv:s2.heap.objs.size<(s2.heap.push { cls:=.type "dict",data:=.dict #[]}).objs.size:=by rw[hC];exact bD _
 have DL:∀(b:ao) (o:Obj),s2.heap.get? b=some o->b≠(s2.heap.push { cls:=.type "dict",data:=.dict #[]}).objs.size:=λb o e=>aC<|dz (jd e) mv;refine⟨m,nC,λh' sb=>?_⟩;have IY:Inv X fA σ H' { s' with heap:=h'}:=IX.turned (t':=s'.toks) (λb o hb e=>(sb.2 b hb).trans e) hn
  (bE<|dz I2.lt mv) (.inr<|eM<|cj I2.sz mv) (λx c e=>let ⟨v,z⟩:=I2.cell x c e;aC (dz z.lt mv)) (λp hp=>DL _ _ (I2.pin p hp).1)
 exact⟨.ref _,_,IY,rfl,qf⟩
variable {y:DG}{S:au Nat}{t:Dt}{wk wv:De}
def PF {wi:DI}{pos:Pos}(hc:kh X N js sc)(gH:X.gH=true)(so:Nf g y S)(mo:pO g)(ho:rg S js=true)(hi:Hj X tg iter wi)(hg:∀ fp s H,PG (x9 X N sc fp s H) tg g)
 (ht:∀ fp s H,Bu (x9 X N sc fp s H) ifs t) (hk:∀ fp s H,PD (x9 X N sc fp s H) kx wk) (hv:∀ fp s H,PD (x9 X N sc fp s H) vx wv)
 (hs:∀ x,foldedSetIterable iter X.env x=pure x:=by intro _;rfl):PD X (.DictComp kx vx [⟨tg,iter,ifs,0⟩] sc pos) (MH wi js y t wk wv):=(KG hc gH hi hg ht hk hv hs).imp λσ H Q h=>JP so mo ho h
end
def vE (es:au Int)(ts:au Tk):Nat->au Int
 |0=>es
 |b+1=>gh es ts b
def Dm (es:au Int)(ts:au Tk):∀ b:Nat,lO es ts (vE es ts b) (b:Int)=vE es ts (b+1)
 |0=>yZ es ts 0
 |b+1=>by show lO es ts (gh es ts b) ((b+1:Nat):Int)=gh es ts (b+1);rfl
def Ui (es:au Int)(ts:au Tk):∀ b:Nat,nu es (vE es ts b)
 |0=>GK es
 |b+1=>jz es ts b
def IW:∀ {b:Nat},(∀ t∈ts,(b:Int)<=t.2)->vE es ts b=es
 |0,_=>rfl
 |b+1,h=>ur λt ht=>by have:=h t ht;lia
def h9 (lo:Int)(n:Nat):ky lo (n+1)=.int lo::ky (lo+1) n:=by
 unfold ky;rw[eO,aB,aQ];congr 1
 .simp
 .refine bY λi _=>?_;show D.int (lo+((i+1:Nat):Int))=_;congr 1;lia
def o8 (h:nP μ j=some ds):nP (μ++g) j=some ds:=wY (by rw[vd (kB<|jP h).1];exact jP h)
def sR {g:MS}(hm:∀(j:Nat) (m:MO),μ[j]?=some m->BF μ.length m):∀(j:Nat) (m:MO),j<μ.length->(μ++g)[j]?=some m->BF μ.length m:=λj m hj e=>by rw[vd hj]at e;exact hm j m e
def CB (p:Tk->Bool)(g:Tk->D):D->av D
 |.tup [.str z,.int a]=>if p (z.cps.toList,a)=true then some (g (z.cps.toList,a))else none
 |_=>none
def xc (p:Tk->Bool)(g:Tk->D)(t:Tk):CB p g (nB t)=if p t=true then some (g t)else none:=rfl
theorem xk (p:Tk->Bool)(g:Tk->D):∀ ts:au Tk,(ts.map nB).filterMap (CB p g)=(ts.filter p).map g
 |[]=>rfl
 | t::ts=>by
  rw[aB,cH,xc,cu];by_cases h:p t=true
  .rw[aE h,aE h,aB,xk p g ts]
  .rw[aF h,aF h,xk p g ts]
def O6 {p:Tk->Bool}{g:Tk->D}{t:Tk}{K:av D->MS->Prop}{μ:MS}(h:p t=true)(k:K (CB p g<|nB t) μ):K (some<|g t) μ:=by rw[xc,aE h]at k;exact k
def O7 {p:Tk->Bool}{g:Tk->D}{t:Tk}{K:av D->MS->Prop}{μ:MS}(h:¬ p t=true)(k:K (CB p g<|nB t) μ):K none μ:=by rw[xc,aF h]at k;exact k
def wX (h:nP μ k=some ds):U5 "list" μ (.mr k):=by show(match μ[k]? with|some (.lst _)=> "list" = "list" | some (.jS _ _)=> "list" = "dict" | _=>False);rw[jP h]
def Fh {α:Type}(xs:au α)(x:α):kr (xs++[x]) (-1)=some x:=by unfold kr EE;rw[aF (by decide),aE (by rw[lP,bx];lia)];show(xs++[x])[((-1:Int)+((xs++[x]).length:Nat)).toNat]?=some x;rw[lP,bx,show((-1:Int)+((xs.length+1:Nat):Int)).toNat=xs.length by lia,qV (aw _),aZ];rfl
def Pk {α:Type}(g:α->D)(xs:au α)(f:Int->D)(h:∀(i:Nat) (x:α),xs[i]?=some x->f (i:Int)=g x):(ky 0 xs.length).filterMap (Le f)=xs.map g:=by
 rw[vJ,AN,aQ];apply cy;intro i;rw[mS,mS];cases e:xs[i]? with
 | none =>have:=List.getElem?_eq_none_iff.mp e;rw[List.getElem?_eq_none_iff.mpr (by rw[pF];exact this)];rfl
 | some x =>have hi:=(kB e).1;rw[aY hi];show some (f<|0+(i:Int))=some (g x);rw[c4,h i x e]
def ze {es:au Int}(nd:es.Nodup){x:Int}(h:x∈es):∀ m,m<es.idxOf x->es[m]?≠some x:=λm hm e=>by have hx:=l8 h;let ⟨h1,e1⟩:=kB e;let ⟨h2,e2⟩:=kB hx;exact List.pairwise_iff_getElem.mp nd m _ h1 h2 hm (e1.trans e2.symm)
def nO {es:au Int}{ts:au Tk}{bf:au Int}{a:Int}{i:Nat}{f m:Int}(hf:(i0 es ts a)[i]?=some f)(hm:bf[i]?=some m):(lO es ts bf a)[i]?=some (max f<|rowAt es bf m):=by unfold lO;rw[bQ,hf,hm]
def MI {l:au Nat}{a b:Int}{v c:Nat}(ha:0<=a)(h1:a<=v)(h2:(v:Int)<b)(h:l[v]?=some c):c∈mU l a b:=by obtain⟨i,rfl⟩:=cE ha;obtain⟨j,rfl⟩:=cE<|bu (Int.natCast_nonneg v)<|dA h2;have h1:=Int.ofNat_le.mp h1;rw[xK];refine kq (i:=v - i) ?_;rwa [bI (Nat.sub_lt_sub_right h1<|Int.ofNat_lt.mp h2),cL,Nat.add_sub_cancel' h1]
def zr {es:au Int}{l:au Nat}{a b:Int}(ho:OX l)(ha:0<=a)(hb:b<=l.length)(EN:a<=b)(hm:b∈es)(h:120∉mU l a b):b<=iS es l a:=by
 have ct:=sf ho (e:=a.toNat) (by lia);have hc:b<=(sh l a.toNat:Int):=by
  by_cases q:b<=(sh l a.toNat:Int)
  .exact q
  .rcases ct.2.2.2 with z | z
   .lia
   .exact absurd (MI ha (by have:=ct.1;lia) (by lia) z) h
 exact(nR _ a).2 b (List.mem_filter.mpr ⟨hm,aI hc⟩)
def K5 {n:Int}{cs:au Int}{ts:au Tk}(S:gv n cs ts)(hb:jT (fw n cs) ts=none){i:Nat}{u v:Int}(hu:(fw n cs)[i]?=some u)(hv:(fw n cs)[i+1]?=some v):∃ t∈ts,v<=iS (fw n cs) t.1 u:=by
 have hp:(u,v)∈BE (fw n cs):=by have:=vL (es:=fw n cs) (i:=i);rw[hu,hv]at this;exact kq this
 have nb:=List.find?_eq_none.mp hb _ hp;unfold bad at nb;rw[Bool.not_eq_true,List.all_eq_false]at nb;let ⟨t,ht,hc⟩:=nb;have ub:120∉mU t.1 u v:=by simpa using hc
 have ok:=S.takes.ok t ht;have Wd:=hX S.n1 S.iI<|kq hu;have Ip:=hX S.n1 S.iI<|kq hv;have Zr:=kD (hV S.n1 S.iI) hu hv<|bD _;exact⟨t,ht,zr ok.2.1 Wd.1 (by lia) (by lia) (kq hv) ub⟩
def l7 {es:au Int}{ts:au Tk}{a e:Int}{t:Tk}(ht:t∈ts)(ha:t.2<=a):iS es t.1 e<=i7 es ts a e:=by rw[jO];exact(nR _ e).2 _ (List.mem_map.mpr ⟨t,List.mem_filter.mpr ⟨ht,aI ha⟩,rfl⟩)
def l6 {es:au Int}{ts:au Tk}{a:Int}{i:Nat}{e:Int}(h:es[i]?=some e):(i0 es ts a)[i]?=some (i7 es ts a e):=by unfold i0;rw[mS,h];rfl
def wJ:∀ {a i:Nat} {e:Int},es[i]?=some e->∃ x,(gh es ts a)[i]?=some x/\i7 es ts a e<=x
 |0,i,e,h=>⟨_,l6 h,bw _⟩
 | a+1,i,e,h=>by have hi:=(kB h).1;obtain⟨m,hm⟩:∃ m,(gh es ts a)[i]?=some m:=⟨_,iD<|by rwa [(jz es ts a).len]⟩;refine⟨_,nO (l6 h) hm,?_⟩;lia
def Goes (es:au Int)(row:au Int)(k:Nat):Prop:=∀ i,i<es.length->∃ j,min (i+k) (es.length - 1)<=j/\j<es.length/\row[i]?=es[j]?
def uW {es:au Int}(hu:es.Pairwise (·<·)){i j:Nat}{a b:Int}(hi:es[i]?=some a)(hj:es[j]?=some b)(h:a<=b):i<=j:=by
 by_cases q:i<=j
 .exact q
 .have:=kD hu hj hi (by lia);lia
def LP {n:Int}{cs:au Int}{ts:au Tk}(S:gv n cs ts)(hb:jT (fw n cs) ts=none){a:Nat}(ha:∀ t∈ts,t.2<=(a:Int)):Goes (fw n cs) (gh (fw n cs) ts a) 1:=λi hi=>by
 have hu:=hV S.n1 S.iI;obtain⟨e,he⟩:∃ e,(fw n cs)[i]?=some e:=⟨_,iD hi⟩;obtain⟨x,hx,ZC⟩:=wJ he;have xm:=(jz (fw n cs) ts a).mem x<|kq hx;let ⟨j,hj,ej⟩:=aJ xm;have U3:(fw n cs)[j]?=some x:=by rw[iD hj,ej]
 refine⟨j,?_,hj,hx.trans U3.symm⟩;by_cases q:i+1<(fw n cs).length
 .obtain⟨v,hv⟩:∃ v,(fw n cs)[i+1]?=some v:=⟨_,iD q⟩;let ⟨t,ht,hf⟩:=K5 S hb he hv;have:=l7 (es:=fw n cs) (e:=e) ht<|ha t ht;have:=uW hu hv U3 (by lia);lia
 .have:=mP (fw n cs) ts a e;have:=uW hu he U3 (by lia);lia
def LB {es:au Int}(hu:es.Pairwise (·<·)){i:Nat}{e:Int}(h:es[i]?=some e):es.idxOf e=i:=by have hm:=kq h;have g:=l8 hm;have h1:=uW hu g h<|bw _;have h2:=uW hu h g<|bw _;lia
def LO {i j j' q k L:Nat}(h1:min (i+k) L<=j)(g1:min (j+k) L<=j')(h:j'<=q):min (i+(k+k)) L<=q:=by lia
def Iz {es:au Int}{ts:au Tk}{a k:Nat}(hu:es.Pairwise (·<·))(h:Goes es (gh es ts a) k):Goes es (gh es ts<|a+1) (k+k):=λi hi=>by
 let ⟨j,h1,h2,h3⟩:=h i hi;let ⟨j',g1,g2,g3⟩:=h j h2;obtain⟨e,he⟩:∃ e,es[i]?=some e:=⟨_,iD hi⟩;obtain⟨m,hm⟩:∃ m,es[j]?=some m:=⟨_,iD h2⟩;obtain⟨m',Jo⟩:∃ m',es[j']?=some m':=⟨_,iD g2⟩;have nx:=nO (ts:=ts) (a:=(a:Int)+1) (l6 he)<|h3.trans hm;have ra:rowAt es (gh es ts a) m=m':=by unfold rowAt;rw[LB hu hm,g3,Jo];rfl
 rw[ra]at nx;have xm:=(jz es ts<|a+1).mem _<|kq nx;let ⟨q,hq,eq⟩:=aJ xm;have eq':es[q]?=some (max (i7 es ts ((a:Int)+1) e) m'):=by rw[iD hq,eq]
 exact⟨q,LO h1 g1<|uW hu Jo eq'<|by lia,hq,nx.trans eq'.symm⟩
theorem CK {n:Int}{cs:au Int}{ts:au Tk}(S:gv n cs ts)(hb:jT (fw n cs) ts=none){a:Nat}(ha:∀ t∈ts,t.2<=(a:Int)):∀ j:Nat,Goes (fw n cs) (gh (fw n cs) ts<|a+j) (2 ^ j)
 |0=>LP S hb ha
 | j+1=>by have:=Iz (hV S.n1 S.iI)<|CK S hb ha j;rwa [show 2 ^ (j+1)=2 ^ j+2 ^ j by lia]
def qG (n:Int)(cs:au Int):(fw n cs)[(fw n cs).length - 1]?=some n:=by unfold fw;simp
structure iM (es:List Int)(ts:List Tk)(n:Int)(a:Nat):Prop where
 at_:(gh es ts a)[0]?=some n
 low:∀ b,b<a->(gh es ts b)[0]?≠some n
def iM.uniq {es:au Int}{ts:au Tk}{n:Int}{a b:Nat}(h:iM es ts n a)(g:iM es ts n b):a=b:=by
 rcases eL a b with q|q|q
 .exact absurd h.at_ (g.low a q)
 .exact q
 .exact absurd g.at_ (h.low b q)
def Lk {es:au Int}{ts:au Tk}{n:Int}:∀ {m:Nat},(gh es ts m)[0]?=some n->∃ a,a<=m/\iM es ts n a:=by
 intro m;induction m using Nat.strongRecOn with
 | ind m ih =>
  intro h;by_cases q:∃ b,b<m/\(gh es ts b)[0]?=some n
  .let ⟨b,hb,e⟩:=q;let ⟨a,h1,h2⟩:=ih b hb e;exact⟨a,by lia,h2⟩
  .exact⟨m,aw _,h,λb hb e=>q ⟨b,hb,e⟩⟩
def xb {n:Int}{cs:au Int}{ts:au Tk}(S:gv n cs ts)(hl:cs.length<=60)(hb:jT (fw n cs) ts=none){a:Nat}(ha:∀ t∈ts,t.2<=(a:Int)):∃ x,x<=a+6/\iM (fw n cs) ts n x:=by
 refine Lk ?_;let ⟨j,h1,h2,h3⟩:=CK S hb ha 6 0 (by rw[fU];lia);rw[h3];have:j=(fw n cs).length - 1:=by rw[fU]at *;lia
 rw[this];exact qG n cs
def Ez {n:Int}{cs:au Int}{ts:au Tk}(S:gv n cs ts)(hl:cs.length<=60)(hb:jT (fw n cs) ts=none):∃ x,x<=66/\iM (fw n cs) ts n x:=xb S hl hb λt ht=>(S.takes.ok t ht).2.2.2
def Cy {n:Int}{cs:au Int}{ts:au Tk}(S:gv n cs ts){a:Nat}(h:iM (fw n cs) ts n a):kP ts<=a:=by
 by_cases q:kP ts<=a
 .exact q
 .have:=h.at_;rw[ur λt ht=>by have:=BN t ht;lia]at this;have h0:(fw n cs)[0]?=some 0:=rfl;have:=S.n1;lia
def zB {n:Int}{cs:au Int}{ts:au Tk}(S:gv n cs ts)(hb:jT (fw n cs) ts=none):ts≠[]:=λe=>by obtain⟨u,hu⟩:∃ u,(fw n cs)[0]?=some u:=⟨_,iD (by rw[fU];lia)⟩;obtain⟨v,hv⟩:∃ v,(fw n cs)[0+1]?=some v:=⟨_,iD (by rw[fU];lia)⟩;let ⟨t,ht,_⟩:=K5 S hb hu hv;rw[e]at ht;cases ht
def rR (es:au Int)(ts:au Tk)(n:Int)(μ:MS)(K:DK):Prop:=match jT es ts with
 |some _=>K .iC μ
 |none=>∀ a:Nat,a<=66->iM es ts n a->K (.int a) μ
def EX:j4:=λds μ K=>match ds with
 |[.int n,x,y]=>∃(cs:au Int) (ts:au Tk),lv μ x=some (cs.map D.int)/\lv μ y=some (ts.map nB)/\gv n cs ts/\cs.length<=60/\rR (fw n cs) ts n μ K
 |_=>False
def AY:j4:=λds μ K=>match ds with
 |[.lst b,y]=>∃(n:Int) (cs:au Int) (ts:au Tk),b=(fw n cs).map D.int/\lv μ y=some (ts.map nB)/\gv n cs ts/\cs.length<=60/\rR (fw n cs) ts n μ K
 |_=>False
def nLf {ds:au D}{μ:MS}{K:DK}(h:K (.lst ds) μ):nL false ds μ K:=h
def L0 {es:au Int}{l:au Nat}{e e':Int}(ho:OX l)(h0:0<=e)(hee:e<=e')(Yd:e'<=l.length)(hm:e∈es):iS es l e<=iS es l e':=by
 have c1:=sf ho (e:=e.toNat) (by lia);have c2:=sf ho (e:=e'.toNat) (by lia);have ge':=AQ es l e';have fm:=xo (l:=l) hm;let ⟨t,ht,_,hft,_⟩:=AO ho h0 (by lia) hm;have et:=ht.uniq c1;subst et;by_cases q:iS es l e<=e'
 .lia
 .have hc:sh l e.toNat<=sh l e'.toNat:=by
   by_cases z:sh l e.toNat<=sh l e'.toNat
   .exact z
   .rcases c2.2.2.2 with y | y
    .have:=c1.2.1;lia
    .have:=c1.2.2.1 (sh l e'.toNat) (by have:=c2.1;lia) (by lia);rw[y]at this;cases this
  exact(nR _ e').2 _ (List.mem_filter.mpr ⟨fm,aI<|by lia⟩)
def KL {n:Int}{es:au Int}{ts:au Tk}{a e e':Int}(T:Dq n ts)(h0:0<=e)(hee:e<=e')(Yd:e'<=n)(hm:e∈es):i7 es ts a e<=i7 es ts a e':=by
 have ge:=mP es ts a e';rw[jO es ts a e];rcases jD ((ts.filter λt=>decide (t.2<=a)).map λt=>iS es t.1 e) e with q|q
 .lia
 .let ⟨t,ht,e1⟩:=List.mem_map.mp q;let ⟨ht1,ht2⟩:=List.mem_filter.mp ht;have ok:=T.ok t ht1;have:=L0 ok.2.1 h0 hee (by lia) hm;have:=l7 (es:=es) (e:=e') ht1<|bR ht2;lia
def Hh (row:au Int):Prop:=∀(i j:Nat) (a b:Int),i<=j->row[i]?=some a->row[j]?=some b->a<=b
def om (hu:es.Pairwise (·<·)):Hh es:=λi j a b h hi hj=>by
 rcases cg i j with q|q
 .exact dA (kD hu hi hj q)
 .have:i=j:=by lia
  subst this
  rw[hi]at hj;cases hj;exact bw _
def uy {n:Int}{cs:au Int}{ts:au Tk}{a:Int}(S:gv n cs ts):Hh (i0 (fw n cs) ts a):=λi j x y h hi hj=>by
 unfold i0 at hi hj;rw[mS]at hi hj;cases e1:(fw n cs)[i]? with
 |none=>rw[e1]at hi;cases hi
 | some u =>
  cases e2:(fw n cs)[j]? with
  |none=>rw[e2]at hj;cases hj
  | some v =>rw[e1]at hi;rw[e2]at hj;cases hi;cases hj;have hu:=hX S.n1 S.iI<|kq e1;have hv:=hX S.n1 S.iI<|kq e2;exact KL S.takes hu.1 (om (hV S.n1 S.iI) i j u v h e1 e2) hv.2 (kq e1)
def Ik {es:au Int}(hu:es.Pairwise (·<·)){x y:Int}(hx:x∈es)(hy:y∈es)(h:x<=y):es.idxOf x<=es.idxOf y:=uW hu (l8 hx) (l8 hy) h
theorem uq {n:Int}{cs:au Int}{ts:au Tk}(S:gv n cs ts):∀ a:Nat,Hh (gh (fw n cs) ts a)
 |0=>uy S
 | a+1=>λi j x y h hi hj=>by have hu:=hV S.n1 S.iI;have ok:=jz (fw n cs) ts a;have XW:=uz (fw n cs) ts<|(a:Int)+1;have UT:=(kB hj).1;have rl:=(jz (fw n cs) ts<|a+1).len;obtain⟨f1,Wm⟩:∃ f,(i0 (fw n cs) ts<|(a:Int)+1)[i]?=some f:=⟨_,iD (by rw[XW.len];lia)⟩;obtain⟨f2,Wl⟩:∃ f,(i0 (fw n cs) ts<|(a:Int)+1)[j]?=some f:=⟨_,iD (by rw[XW.len];lia)⟩;obtain⟨m1,NG⟩:∃ m,(gh (fw n cs) ts a)[i]?=some m:=⟨_,iD (by rw[ok.len];lia)⟩;obtain⟨m2,EK⟩:∃ m,(gh (fw n cs) ts a)[j]?=some m:=⟨_,iD (by rw[ok.len];lia)⟩;have e1:=nO (es:=fw n cs) (ts:=ts) Wm NG;have e2:=nO (es:=fw n cs) (ts:=ts) Wl EK;have d1:=aK<|hi.symm.trans e1;have d2:=aK<|hj.symm.trans e2;have p1:=uy S i j f1 f2 h Wm Wl;have p2:=uq S a i j m1 m2 h NG EK;have w1:=ok.mem m1<|kq NG;have w2:=ok.mem m2<|kq EK;have p3:=uq S a _ _ _ _ (Ik hu w1 w2 p2) (ka ok w1)<|ka ok w2;lia
structure qM (es:List Int)(ts:List Tk)(a:Int)(row:List Int):Prop where
 ok:nu es row
 up:Hh row
 ge:∀(i:Nat) (x e:Int),row[i]?=some x->es[i]?=some e->e<=x
 Ri:∀(i:Nat) (x e:Int),row[i]?=some x->es[i]?=some e->∀ t∈ts,t.2<=a->iS es t.1 e<=x
def Above (es row first second:au Int):Prop:=∀(i:Nat) (x m:Int),row[i]?=some x->first[i]?=some m->rowAt es second m<=x
def HD {n:Int}{cs:au Int}{ts:au Tk}(S:gv n cs ts)(a:Nat):qM (fw n cs) ts a (gh (fw n cs) ts a):=by
 refine⟨jz _ _ _,uq S a,λi x e hi he=>?_,λi x e hi he t ht Zw=>?_⟩
 .obtain⟨y,hy,hle⟩:=wJ (ts:=ts) (a:=a) he;have:=mP (fw n cs) ts a e;lia
 .obtain⟨y,hy,hle⟩:=wJ (ts:=ts) (a:=a) he;have:=l7 (es:=fw n cs) (e:=e) ht Zw;lia
def D7 (es:au Int)(ts:au Tk)(a:Nat):Above es (gh es ts<|a+1) (gh es ts a) (gh es ts a):=λi x m hi hm=>by have il:=(kB hi).1;have rl:=(jz es ts<|a+1).len;obtain⟨f,hf⟩:∃ f,(i0 es ts<|(a:Int)+1)[i]?=some f:=⟨_,iD (by rw[(uz es ts _).len];lia)⟩;have e1:=nO hf hm;have:=aK<|hi.symm.trans e1;lia
def Pn {n:Int}{cs:au Int}{ts:au Tk}{u v:Int}(S:gv n cs ts)(hb:jT (fw n cs) ts=some (u,v)){e:Int}(he:e∈fw n cs)(Tx:e<=u){t:Tk}(ht:t∈ts):iS (fw n cs) t.1 e<=u:=by
 unfold jT at hb;have Wr:=List.find?_some hb;have AG:=dR hb;obtain⟨i,hi,ei⟩:=aJ AG;have hp:=vL (es:=fw n cs) (i:=i);rw[iD hi,ei]at hp;have hu:(fw n cs)[i]?=some u/\(fw n cs)[i+1]?=some v:=by
  cases e1:(fw n cs)[i]? with
  |none=>rw[e1]at hp;cases hp
  | some a =>
   cases e2:(fw n cs)[i+1]? with
   |none=>rw[e1,e2]at hp;cases hp
   |some b=>rw[e1,e2]at hp;cases hp;exact⟨rfl,rfl⟩
 obtain⟨X6,Wc⟩:=hu;unfold bad at Wr;have hx:=List.all_eq_true.mp Wr t ht;have yr:=bR hx;have ok:=S.takes.ok t ht;have Q9:=hX S.n1 S.iI he;have Ip:=hX S.n1 S.iI<|kq Wc;have up:=hV S.n1 S.iI;have Zr:=kD up X6 Wc<|bD _;have ct:=sf ok.2.1 (e:=e.toNat) (by lia);obtain⟨c,hc,hfm,hfc,_⟩:=AO (es:=fw n cs) ok.2.1 Q9.1 (by lia) he;have ec:=hc.uniq ct;subst ec;by_cases q:iS (fw n cs) t.1 e<=u
 .exact q
 .exfalso;obtain⟨j,hj,ej⟩:=aJ hfm;have U3:(fw n cs)[j]?=some (iS (fw n cs) t.1 e):=by rw[iD hj,ej]
  have pE:i+1<=j:=by
   rcases cg i j with z|z
   .exact z
   .have:=om up j i _ _ z U3 X6;lia
  have hvf:=om up (i+1) j _ _ pE Wc U3;have e0:mU t.1 u v=List.replicate (v - u).toNat 111:=by
   have l1:(mU t.1 u v)=(t.1.drop u.toNat).take (v.toNat - u.toNat):=by
    unfold mU lh;have e1:HT.n6 t.1.length 0 (some u)=min u.toNat t.1.length:=by obtain⟨k,rfl⟩:∃ k:Nat,u=(k:Int):=⟨u.toNat,by lia⟩;rw[HT.lD,sx]
    have e2:HT.n6 t.1.length t.1.length (some v)=min v.toNat t.1.length:=by obtain⟨k,rfl⟩:∃ k:Nat,v=(k:Int):=⟨v.toNat,by lia⟩;rw[HT.lD,sx]
    rw[e1,e2,bZ (by lia),bZ (by lia)]
   rw[l1];apply cy;intro k;by_cases hk:k<(v - u).toNat
   .rw[bI (by lia),cL,cU,aE hk];exact ct.2.2.1 _ (by lia) (by lia)
   .rw[cU,aF hk];exact List.getElem?_eq_none_iff.mpr (by rw[bg];lia)
  rw[e0]at yr;have:=d4 yr;lia
def J3 {n:Int}{cs:au Int}{ts:au Tk}{u v:Int}(S:gv n cs ts)(hb:jT (fw n cs) ts=some (u,v)):∀(a i:Nat) (e x:Int),(fw n cs)[i]?=some e->e<=u->(gh (fw n cs) ts a)[i]?=some x->x<=u:=by
 have own:∀(a e:Int),e∈fw n cs->e<=u->i7 (fw n cs) ts a e<=u:=λa e he Tx=>by
  rw[jO];rcases jD ((ts.filter λt=>decide (t.2<=a)).map λt=>iS (fw n cs) t.1 e) e with q|q
  .rwa [q]
  .obtain⟨t,ht,e1⟩:=List.mem_map.mp q;rw[<- e1];exact Pn S hb he Tx (List.mem_filter.mp ht).1
 intro a;induction a with
 | zero =>intro i e x he Tx hx;have:=l6 (ts:=ts) (a:=0) he;have:=aK<|hx.symm.trans this;rw[this];exact own 0 e (kq he) Tx
 | succ a ih =>intro i e x he Tx hx;have il:=(kB he).1;have ok:=jz (fw n cs) ts a;obtain⟨m,hm⟩:∃ m,(gh (fw n cs) ts a)[i]?=some m:=⟨_,iD (by rw[ok.len];lia)⟩;have e1:=nO (ts:=ts) (a:=(a:Int)+1) (l6 he) hm;have d1:=aK<|hx.symm.trans e1;have h1:=own ((a:Int)+1) e (kq he) Tx;have hmu:=ih i e m he Tx hm;have Jn:=ok.mem m<|kq hm;have h2:=ih _ m _ (l8 Jn) hmu<|ka ok Jn;lia
def Short (es:au Int)(ts:au Tk)(n:Int)(a:Nat):Prop:=∀ b,b<a->∃ x,(gh es ts b)[0]?=some x/\x<n
def UA {n:Int}{cs:au Int}{ts:au Tk}{p:Int×Int}(S:gv n cs ts)(hb:jT (fw n cs) ts=some p)(a:Nat):Short (fw n cs) ts n a:=λb _=>by
 let ⟨u,v⟩:=p;obtain⟨x,hx⟩:∃ x,(gh (fw n cs) ts b)[0]?=some x:=⟨_,iD (by rw[(jz _ _ _).len,fU];lia)⟩;refine⟨x,hx,?_⟩;have AG:=dR hb;let ⟨i,hi,ei⟩:=aJ AG;have hp:=vL (es:=fw n cs) (i:=i);rw[iD hi,ei]at hp;have hu:(fw n cs)[i]?=some u/\(fw n cs)[i+1]?=some v:=by
  cases e1:(fw n cs)[i]? with
  |none=>rw[e1]at hp;cases hp
  | some a =>
   cases e2:(fw n cs)[i+1]? with
   |none=>rw[e1,e2]at hp;cases hp
   |some b=>rw[e1,e2]at hp;cases hp;exact⟨rfl,rfl⟩
 have Wd:=hX S.n1 S.iI<|kq hu.1;have Ip:=hX S.n1 S.iI<|kq hu.2;have Zr:=kD (hV S.n1 S.iI) hu.1 hu.2<|bD _;have:=J3 S hb b 0 0 x rfl Wd.1 hx;lia
def BY {n:Int}{cs:au Int}{ts:au Tk}{a b:Nat}(S:gv n cs ts)(la:iM (fw n cs) ts n a)(h:b<=a):Short (fw n cs) ts n b:=λc hc=>by obtain⟨x,hx⟩:∃ x,(gh (fw n cs) ts c)[0]?=some x:=⟨_,iD (by rw[(jz _ _ _).len,fU];lia)⟩;refine⟨x,hx,?_⟩;have h1:=la.low c (by lia);have h2:=hX S.n1 S.iI<|(jz (fw n cs) ts c).mem x<|kq hx;have h3:x≠n:=λe=>h1 (by rw[hx,e]);lia
def zQ {μ:MS}{x:D}{ds:au D}(h:lv μ x=some ds):Qv x μ=some "list":=by
 cases x with
 |lst es=>rfl
 | mr k =>show(match μ[k]? with|some (.lst _)=>some "list" | some (.jS _ _)=>some "dict" | _=>none)=_;rw[jP h]
 |_=>cases h
def He (es:au Int)(x:Int):((es.map D.int).any λd=>ud d<|.int x)=decide (x∈es):=by
 induction es with
 |nil=>rfl
 | cons e es ih =>
  rw[aB,c6,ih];have:ud (.int e) (.int x)=decide (e=x):=rfl;rw[this];by_cases h:e=x
  .simp[h]
  .have:¬ x=e:=λz=>h z.symm;simp[h,this]
def CO (es:au Int):(es.map D.int).all pf=true:=by rw[List.all_map,c8];intro x _;rfl
structure Jb (es:List Int)(ts:List Tk)(n a:Int)(rs:List (List Int)):Prop where
 len:(rs.length:Int)=a
 row:∀(k:Nat) (r:List Int),rs[k]?=some r->qM es ts k r
 above:∀(k:Nat) (r p:List Int),rs[k+1]?=some r->rs[k]?=some p->Above es r p p
 last:a=0\/∃ r x,rs[rs.length - 1]?=some r/\r[0]?=some x/\x<n
def Ma:j4:=λds μ K=>match ds with
 |[.lst b,y]=>∃(n:Int) (cs:au Int) (ts:au Tk),b=(fw n cs).map D.int/\lv μ y=some (ts.map nB)/\gv n cs ts/\K (.lst<|ts.map<|jk<|fw n cs) μ
 |_=>False
def WB:j4:=λds μ K=>match ds with
 |[.lst b,.lst f,.int a,x]=>∃(es:au Int) (ts:au Tk) (row:au Int),b=es.map D.int/\f=ts.map (jk es)/\(∀ e∈es,0<=e)/\es.length<=2000/\row.length<=2000/\lv μ x=some (row.map D.int)/\∀ c:Bool,(c=true↔qM es ts a row)->K (.bl c) μ
 |_=>False
def AS:j4:=λds μ K=>match ds with
 | [.int n,x,y,.int a]=>∃(cs:au Int) (ts:au Tk),lv μ x=some (cs.map D.int)/\lv μ y=some (ts.map nB)/\gv n cs ts/\0<=a/\a<=1000 /\
  ∀(j:Nat) (js:au Nat) (g:MS),js.length=a.toNat->nP (μ++g) j=some (js.map D.mr)->(∀(i k:Nat),js[i]?=some k->nP (μ++g) k=some ((gh (fw n cs) ts i).map D.int))->μ.length<=j->(∀ k∈js,μ.length<=k/\k≠j)->K (.mr j) (μ++g)
 |_=>False
def DS {n:Int}{cs:au Int}{ts:au Tk}{a:Int}(S:gv n cs ts)(h0:0<=a)(h:Short (fw n cs) ts n a.toNat):Jb (fw n cs) ts n a ((List.range a.toNat).map<|gh (fw n cs) ts):=by
 have key:∀(k:Nat) (r:au Int),((List.range a.toNat).map<|gh (fw n cs) ts)[k]?=some r->k<a.toNat/\r=gh (fw n cs) ts k:=λk r e=>by
  rw[mS]at e;by_cases q:k<a.toNat
  .rw[aY q]at e;exact⟨q,(aK e).symm⟩
  .rw[List.getElem?_eq_none_iff.mpr (by rw[pF];lia)]at e;cases e
 refine⟨by rw[gP,pF];lia,λk r e=>?_,λk r p e1 e2=>?_,?_⟩
 .rw[(key k r e).2];exact HD S k
 .rw[(key _ r e1).2,(key _ p e2).2];exact D7 _ _ _
 .by_cases q:a=0
  .exact .inl q
  .refine .inr ?_;obtain⟨x,hx,hl⟩:=h (a.toNat - 1) (by lia);refine⟨_,x,?_,hx,hl⟩;rw[gP,pF,mS,aY (by lia)];rfl
def AA:Lx "list" "list"=true:=rfl
def Te:Lx "int" "bool"=false:=rfl
def tW {α:Type}{xs:au α}{x:α}(h:xs[xs.length - 1]?=some x):kr xs (-1)=some x:=by
 have hl:=(kB h).1;have e:xs=xs.dropLast++[x]:=by
  have EJ:xs≠[]:=λe=>by rw[e]at hl;simp at hl
  have:=List.dropLast_concat_getLast EJ;rw[List.getLast_eq_getElem]at this;rw[iD hl]at h;rw[aK h]at this;exact this.symm
 rw[e];exact tV _ _
def uU (xs ys:au Int):Prop:=∀(i:Nat) (a b:Int),xs[i]?=some a->ys[i]?=some b->b<=a
section
variable {X:Cx}
def Kh:au V->Hp->VK->Prop:=λvs H Q=>match vs with
 |[.int i]=>Q (.int i) H
 |[.bl k]=>Q (.int<|if k then 1 else 0) H
 |_=>False
def V6:jr X (.type "int") Kh:=IP.imp λvs H Q q=>by
 unfold Kh at q;split at q
 .exact .inl ⟨_,rfl,q⟩
 .exact .inr ⟨_,rfl,q⟩
 .exact q.elim
end
def WE:j4:=λds μ K=>match ds with
 |[.int i]=>K (.int i) μ
 |[.bl k]=>K (.int<|if k then 1 else 0) μ
 |_=>False
def JU:mF Kh WE:=λφ H vs ds μ K Q M h k L=>by
 unfold WE at k;split at k
 .obtain⟨v,r,rfl,h1,h2⟩:=h;cases(show r=[]from h2);cases(show v=_ from h1);exact L.val M k rfl
 .obtain⟨v,r,rfl,h1,h2⟩:=h;cases(show r=[]from h2);cases(show v=_ from h1);exact L.val M k rfl
 .exact k.elim
structure zD (es:List Int)(ts:List Tk)(a:Int)(last tb:List (List Int)):Prop where
 row:∀(t:Nat) (r:List Int),tb[t]?=some r->qM es ts a r
 up:∀(t:Nat) (r q:List Int),tb[t+1]?=some r->tb[t]?=some q->uU r q
 two:0<a->∀(t u:Nat) (r f s:List Int),tb[t]?=some r->u<t->last[u]?=some f->last[t - u - 1]?=some s->Above es r f s
def lastOf (pp:au (au<|au Int)):Nat->au (au Int)
 |0=>[]
 |k+1=>(pp[k]?).getD []
structure Hl (es:List Int)(ts:List Tk)(n a m:Int)(pp:List (List<|List Int)):Prop where
 len:(pp.length:Int)=a+1
 many:∀(k:Nat) (tb:List (List Int)),pp[k]?=some tb->(tb.length:Int)=m
 tab:∀(k:Nat) (tb:List (List Int)),pp[k]?=some tb->zD es ts k (lastOf pp k) tb
 last:m=0\/∃ tb r x,pp[pp.length - 1]?=some tb/\tb[tb.length - 1]?=some r/\r[0]?=some x/\x<n
theorem Hd:∀(xs ys:au Int),(List.zipWith (λa b=>decide (a<b)) xs ys).any id=false↔uU xs ys
 |[],ys=>by simp[uU]
 |x::xs,[]=>by simp[uU]
 | x::xs,y::ys=>by
  rw[bT,c6,Bool.or_eq_false_iff,Hd xs ys];constructor
  .rintro⟨h1,h2⟩ i a b e1 e2;cases i with
   |zero=>simp at e1 e2;subst e1;subst e2;have:=of_decide_eq_false h1;lia
   |succ i=>exact h2 i a b (by simpa using e1) (by simpa using e2)
  .intro h;exact⟨aO (by have:=h 0 x y rfl rfl;lia),λi a b e1 e2=>h (i+1) a b (by simpa using e1)<|by simpa using e2⟩
theorem qI {α:Type}{it:D->MS->(av D->MS->Prop)->Prop}{c:MS->Prop}{μ:MS}(hc:c μ)(g:α->D)(f:α->av D):∀ {xs:au α} {K:au D->MS->Prop},(∀ x∈xs,∀(K':av D->MS->Prop),K' (f x) μ->it (g x) μ K')->K (xs.filterMap f) μ->rq it c (xs.map g) μ K
 |[],K,_,k=>⟨hc,k⟩
 | x::xs,K,h,k=>⟨hc,h x aH _ (qI hc g f (λy hy=>h y<|ny _ hy) (by
  cases e:f x with
  |none=>rw[List.filterMap_cons_none e]at k;exact k
  |some y=>rw[List.filterMap_cons_some e]at k;exact k))⟩
def je {α:Type}{it:D->MS->(av D->MS->Prop)->Prop}{c:MS->Prop}{μ:MS}(hc:c μ)(g f:α->D){xs:au α}{K:au D->MS->Prop}(h:∀ x∈xs,∀(K':av D->MS->Prop),K' (some<|f x) μ->it (g x) μ K')(k:K (xs.map f) μ):rq it c (xs.map g) μ K:=by refine qI hc g (λx=>some<|f x) h ?_;rwa [List.filterMap_eq_map']
def xS {α:Type}{g:α->D}{xs:au α}{k:Nat}{x:α}(h:xs[k]?=some x):kr (xs.map g) (k:Int)=some (g x):=gR h
def jF.le (r:jF k A)(h:j<=k:=by first|decide|exact aw _|lia):jF j A:=r.mono h
def lo (h:Loc sc x:=by first|exact Or.inl rfl|exact Or.inr rfl):Loc sc x:=h
section
variable {X:Cx}
def Kc:au V->Hp->VK->Prop:=λvs H Q=>match vs with
 |[.ref p]=>∃ ns:au Int,H p=some (.lst<|ns.map V.int)/\ns≠[]/\∀ m,m∈ns->(∀ x∈ns,m<=x)->Q (.int m) H
 |_=>False
def Y8 (hc:X.gH=true):jr X (.builtin "min") Kc:=by
 intro fA s σ H vs us Q I rv h;unfold Kc at h;split at h
 .rename_i p;obtain⟨ns,hp,EJ,q⟩:=h;obtain⟨u,rfl,ru⟩:=rv.one;cases ru;obtain⟨z,gb,n,r,hl,e⟩:=I.mq hp;have BH:s.heap.IsList p gb.toArray:=⟨_,e,rfl,n,rfl⟩;have lt:=aC<|jd e;have len:gb.toArray.size=ns.length:=by rw[aG,<- hl,gP]
  have pos:0<ns.length:=List.length_pos_iff.mpr EJ;have val:∀ i v,gb.toArray[i]?=some v->∃ t,i<ns.length/\v=.int (ns.getD i 0) t:=λi v hv=>by
   have DM:gb[i]?=some v:=by simpa using hv
   cases eb:(ns.map V.int)[i]? with
   |none=>have:=r.none_of eb;rw[DM]at this;cases this
   | some y =>
    obtain⟨u,hu,ry⟩:=r.get eb;rw[DM]at hu;cases hu;rw[mS]at eb;cases e2:ns[i]? with
    |none=>rw[e2]at eb;cases eb
    | some b =>rw[e2]at eb;cases eb;obtain⟨t,rfl⟩:=ry;exact⟨t,(kB e2).1,by rw[aA,e2];rfl⟩
  refine call_min_walk (cP BH ⟨_,_,_,_,_,_,λi j=>decide (ns.getD i 0<ns.getD j 0),rfl,Walks.list (A:=X.A.in1) (I.ok.hd hc) s.heap.objs.size p lt gb.toArray,⟨⟨_,aD _ rfl,rfl,rfl⟩,BH.push _⟩,?_,by rw[len];exact pos,?_,λv h' tk hv kp=>?_⟩)
  .intro b hb;simp at hb;rw[aR];rcases hb with rfl|rfl
   .exact bD _
   .exact bC (jd e)
  .intro i j vi vj s' Q' E' hi hj hq;obtain⟨t,_,rfl⟩:=val i vi hi;obtain⟨t',_,rfl⟩:=val j vj hj;exact lt_int hq
  .have I2:Inv X fA σ H { s with heap:=h',toks:=tk}:=I.iR λb o e'=>kp b o (by simpa using aC<|jd e')<|jw _ e';rw[len]at hv;obtain⟨t,mv,rfl⟩:=val _ v hv;obtain⟨b1,b2⟩:=wm ns (ns.length - 1) (by lia);refine⟨.int _,H,I2,⟨t,rfl⟩,q _ ?_ λx hx=>?_⟩
   .rw[aA,iD mv];exact bJ _
   .obtain⟨j,hj,ej⟩:=aJ hx;have:=b2 j (by lia);rwa [aA (i:=j),iD hj,ej]at this
 .cases h
end
def Rj:j4:=λds μ K=>match ds with
 |[x]=>∃ ns:au Int,lv μ x=some (ns.map D.int)/\ns≠[]/\∀ m,m∈ns->(∀ y∈ns,m<=y)->K (.int m) μ
 |_=>False
def N6:mF Kc Rj:=λφ H vs ds μ K Q M h k L=>by
 unfold Rj at k;split at k
 .obtain⟨v,r,rfl,h1,h2⟩:=h;cases h2;let ⟨ns,el,hn,k⟩:=k;obtain⟨p,vs,rfl,hp,ha⟩:=kK M h1 el;exact⟨ns,by rw[hp,ha.ints],hn,λm a b=>L.val M (k m a b) rfl⟩
 .exact k.elim
def jU (L:Nat)(f:Nat->Int):au D:=(List.range L).map λj=>D.int (f j)
def kQ (L:Nat)(T:Nat->Nat->Int):au D:=(List.range L).map λi=>D.lst (jU L<|T i)
def y6:au Int->Int
 |[]=>0
 |x::r=>r.foldl min x
def VU {ns:au Int}{m:Int}(h1:m∈ns)(h2:∀ y∈ns,m<=y):m=y6 ns:=by
 cases ns with
 |nil=>cases h1
 | cons x r =>
  let ⟨a,b,c⟩:=jQ r x;show m=r.foldl min x;have g1:r.foldl min x<=m:=by
   rcases List.mem_cons.mp h1 with q|q
   .rwa [q]
   .exact c m q
  have g2:m<=r.foldl min x:=by
   rcases a with q|q
   .rw[q];exact h2 x aH
   .exact h2 _ (ny _ q)
  lia
def qE (h:ns≠[]):y6 ns∈ns/\∀ y∈ns,y6 ns<=y:=by
 cases ns with
 |nil=>exact absurd rfl h
 | cons x r =>
  let ⟨a,b,c⟩:=jQ r x;refine⟨?_,λy hy=>?_⟩
  .rcases a with q | q
   .show r.foldl min x∈_;rw[q];exact aH
   .exact ny _ q
  .rcases List.mem_cons.mp hy with q | q
   .rwa [q]
   .exact c y q
def pJ (T:Nat->Nat->Int)(i j:Nat):au Int:=(List.range<|j - (i+1)).filterMap λx=>if 0<T i (i+1+x)*T (i+1+x) j then some (T i (i+1+x)+T (i+1+x) j)else none
def lI {T:Nat->Nat->Int}{i j:Nat}{v:Int}:v∈pJ T i j↔∃ k,i<k/\k<j/\0<T i k*T k j/\v=T i k+T k j:=by
 unfold pJ;rw[List.mem_filterMap];constructor
 .rintro⟨x,hx,e⟩;rw[cc]at hx;split at e
  .cases e;exact⟨i+1+x,by lia,by lia,by assumption,rfl⟩
  .cases e
 .rintro⟨k,h1,h2,h3,rfl⟩;refine⟨k - (i+1),List.mem_range.mpr<|by lia,?_⟩;rw[show i+1+(k - (i+1))=k by lia,aE h3]
def lB (es own:au Int)(T:Nat->Nat->Int)(i j:Nat):Int:=if j<=i then 0 else if es.getD j 0<=own.getD i 0 then 1 else y6 (pJ T i j)
def mL (es:au Int)(ts:au Tk):Nat->Nat->Nat->Int
 |0=>λ_ _=>0
 |a+1=>lB es (i0 es ts a) (mL es ts a)
def N4 {es own:au Int}{T:Nat->Nat->Int}(h:∀ i j,0<=T i j/\T i j<=((j - i:Nat):Int))(i j:Nat):0<=lB es own T i j/\lB es own T i j<=((j - i:Nat):Int):=by
 unfold lB;split
 .lia
 .split
  .lia
  .by_cases hn:pJ T i j=[]
   .rw[hn];show(0:Int)<=0/\(0:Int)<=_;lia
   .let ⟨k,h1,h2,h3,e⟩:=lI.mp (qE hn).1;have a:=h i k;have b:=h k j;lia
theorem zU (es:au Int)(ts:au Tk):∀ a i j,0<=mL es ts a i j/\mL es ts a i j<=((j - i:Nat):Int)
 |0,i,j=>by show(0:Int)<=0/\(0:Int)<=_;lia
 |a+1,i,j=>N4 (zU es ts a) i j
def ni {L:Nat}{f:Nat->Int}{j:Nat}(h:j<L):(jU L f)[j]?=some (.int<|f j):=by unfold jU;rw[mS,aY h];rfl
def sM (L:Nat)(f:Nat->Int):(jU L f).length=L:=by unfold jU;rw[gP,pF]
def pZ {L:Nat}{T:Nat->Nat->Int}{j:Nat}(h:j<L):(kQ L T)[j]?=some (.lst<|jU L<|T j):=by unfold kQ;rw[mS,aY h];rfl
def mZ (L:Nat)(f:Nat->Nat->Int):(kQ L f).length=L:=by unfold kQ;rw[gP,pF]
def J5 {L:Nat}{f g:Nat->Int}(h:∀ j,j<L->f j=g j):jU L f=jU L g:=bY λj hj=>by rw[h j (List.mem_range.mp hj)]
def FL {g:MS}:(μ++g).set (μ.length+i) m=μ++g.set i m:=by rw[cI _ _ (by lia),Nat.add_sub_cancel_left]
theorem wW:∀ {ds:au D},(∀ d∈ds,Gj n d)->u4 n ds
 |[],_=>by trivial
 |d::ds,h=>⟨h d aH,wW λx hx=>h x<|ny _ hx⟩
def Gi (L:Nat)(f:Nat->Int):Gj n (.lst<|jU L f):=wW λd hd=>by obtain⟨i,_,rfl⟩:=List.mem_map.mp hd;exact trivial
def OV (L:Nat)(f:Nat->Nat->Int):Gj n (.lst<|kQ L f):=wW λd hd=>by obtain⟨i,_,rfl⟩:=List.mem_map.mp hd;exact Gi L _
def Oa {n:Nat}(L:Nat)(f:Nat->Int)(h:L<=100000):BW (n+1) (.lst<|jU L f):=JX (by rwa [sM]) λd hd=>by obtain⟨i,_,rfl⟩:=List.mem_map.mp hd;exact D3
def FK {n:Nat}(L:Nat)(f:Nat->Nat->Int)(h:L<=100000):BW (n+2) (.lst<|kQ L f):=JX (by rwa [mZ]) λd hd=>by obtain⟨i,_,rfl⟩:=List.mem_map.mp hd;exact Oa L _ h
inductive kN where
 |num (n:Int)
 |ua (p:Int) (l r:kN)
def HZ:kN->D
 |.num n=>.int n
 |.ua p l r=>.tup [.int p,HZ l,HZ r]
def kN.cnt:kN->Nat
 |.num _=>1
 |.ua _ l r=>l.cnt+r.cnt
def kN.dep:kN->Nat
 |.num _=>0
 |.ua _ l r=>max l.dep r.dep+1
def kN.ok (cs:au Int)(m:Nat):kN->Prop
 |.num n=>0<=n/\n<m
 |.ua p l r=>p∈cs/\l.ok cs m/\r.ok cs m
theorem kN.Be:∀ t:kN,0<t.cnt
 |.num _=>by show 0<1;decide
 |.ua _ l r=>by have:=l.Be;show 0<l.cnt+r.cnt;lia
def rj (a b:Tk)(p:Int):Tk:=(a.1.take p.toNat++b.1.drop p.toNat,max a.2 b.2+1)
def kN.val (ts:au Tk):kN->Tk
 |.num n=>(ts[n.toNat]?).getD ([],0)
 |.ua p l r=>rj (l.val ts) (r.val ts) p
def Bq (n:Int)(t:Tk):Prop:=(t.1.length:Int)=n/\0<=t.2
def O8 {n:Int}{a b:Tk}{p:Int}(ha:Bq n a)(hb:Bq n b):Bq n (rj a b p):=by
 refine⟨?_,?_⟩
 .show((a.1.take p.toNat++b.1.drop p.toNat).length:Int)=n;rw[lP,bg,bG];have:=ha.1;have:=hb.1;lia
 .show 0<=max a.2 b.2+1;have:=ha.2;lia
theorem kN.oR {n:Int}{ts:au Tk}{cs:au Int}(ht:∀ t∈ts,Bq n t):∀ {t:kN},t.ok cs ts.length->Bq n (t.val ts)
 | .num k,h=>by obtain⟨x,hx⟩:∃ x,ts[k.toNat]?=some x:=⟨_,iD (by have:=h.1;have:=h.2;lia)⟩;show Bq n ((ts[k.toNat]?).getD ([],0));rw[hx];exact ht x (kq hx)
 |.ua p l r,h=>O8 (oR ht h.2.1) (oR ht h.2.2)
def Q0:kN->Bool
 |.ua _ _ _=>true
 |.num _=>false
theorem Es:∀ t:kN,Gj n (HZ t)
 |.num _=>trivial
 |.ua p l r=>⟨trivial,Es l,Es r,trivial⟩
def TN (f:Nat->j4):Nat->j4
 |0=>λ_ _ _=>False
 |n+1=>f n
def JE (t:kN)(μ:MS):Qv (HZ t) μ=some (if Q0 t then "tuple" else "int"):=by cases t<;>rfl
def kN.zL {ts:au Tk}{n:Int}{x:Tk}(h:ts[n.toNat]?=some x):(kN.num n).val ts=x:=by show(ts[n.toNat]?).getD ([],0)=x;rw[h];rfl
section
variable {prog:ah}{w:ai}{A:Around}{E:ar->ak->Prop}{s:ak}
variable {z TI TO i1 i2 l1 l2:ao}{k1 k2:Nat}{xs ys:Array ar}{x y a b f:ar}{bb:Bool}
def NH {k:Nat}{Q:ar->ak->Prop}(D:ZipApart z TI TO i1 i2 l1 l2)(Z:ZZ false z TI TO i1 i2 l1 l2 k s.heap)(q1:ke false s.heap l1 xs)(q2:ke false s.heap l2 ys)(hx:xs[k]?=some x)(hy:ys[k]?=some y)
 (hQ:∀ h',ZZ false z TI TO i1 i2 l1 l2 (k+1) h'->IsPair h' s.heap.objs.size x y->h'.objs.size=s.heap.objs.size+1->ZK z TO i1 i2 s.heap h'->Q (.ref s.heap.objs.size) {s with heap:=h'}):
 wpAny (model prog w) A (Builtin.SmallTypes.nextOf<|.ref z) Q E s:=by
 have ty:s.TypeIs (.ref z) "zip":=let ⟨_,_,_,_,h,_⟩:=Z;⟨_,h,rfl⟩
 exact fW (b9 ty dD<|c7 dD ty F.entry_zip_next (Fu D Z q1 q2 hx hy λh' a _ _ b c d=>az<|hQ h' a b c d)<|F.args_zip_next_1 _)
def RH {k:Nat}{Q:ar->ak->Prop}(hh:A.handled=none)(D:ZipApart z TI TO i1 i2 l1 l2)(Z:ZZ false z TI TO i1 i2 l1 l2 k s.heap)(q1:ke false s.heap l1 xs)(q2:ke false s.heap l2 ys)(hx:xs[k]?=none\/ys[k]?=none)
 (hE:∀ h' e,ZK z TO i1 i2 s.heap h'->(∃ o,h'.get? e=some o/\o.cls=.type "StopIteration")->E (.ref e) {s with heap:=h'}):
 wpAny (model prog w) A (Builtin.SmallTypes.nextOf<|.ref z) Q E s:=by
 have ty:s.TypeIs (.ref z) "zip":=let ⟨_,_,_,_,h,_⟩:=Z;⟨_,h,rfl⟩
 exact fW (b9 ty dD<|c7 dD ty F.entry_zip_next (Fv hh D Z q1 q2 hx hE)<|F.args_zip_next_1 _)
def Ml {e:ao}{i:Nat}{old:ar}{Q:ar->ak->Prop}(D:ZipApart z TI TO i1 i2 l1 l2)(he:IsEnum s.heap e z i old)(Z:ZZ false z TI TO i1 i2 l1 l2 i s.heap)(ne:e∉[z,TI,TO,i1,i2])(q1:ke false s.heap l1 xs)(q2:ke false s.heap l2 ys)(hx:xs[i]?=some x)(hy:ys[i]?=some y)
 (hQ:∀ h1 h2 tk,IsPair h1 s.heap.objs.size x y->h1.objs.size=s.heap.objs.size+1->(∀ b o,b∉[z,TO,i1,i2]->s.heap.get? b=some o->h1.get? b=some o) ->
   IsEnumOut h2 e z ((i:Int)+1) (.ref s.heap.objs.size) (s.heap.objs.size+1)->ZZ false z TI TO i1 i2 l1 l2 (i+1) h2->IsPair h2 (s.heap.objs.size+1) (.int i tk) (.ref s.heap.objs.size)->(∀ b o,b≠e->h1.get? b=some o->h2.get? b=some o)->Q (.ref<|s.heap.objs.size+1) {s with heap:=h2,toks:=tk+1}):
 wpAny (model prog w) A (Builtin.«enumerate.__next__» ⟨[.ref e],[]⟩) (λfin s'=>∃ v,fin=.done (.ret v)/\Q v s') E s:=by
 obtain⟨hp,g,d,tk,os⟩:=s;show wpAny _ _ (field (.ref e) 2>>=_) _ _ _;refine fW<|aT he rfl (x:=.ref z) rfl ?_;have elt:e<hp.objs.size:=jd he;refine fW (NH D Z q1 q2 hx hy λh₁ Z₁ hT₁ sz₁ hk₁=>?_);replace hT₁:IsPair h₁ hp.objs.size x y:=hT₁;replace sz₁:h₁.objs.size=hp.objs.size+1:=sz₁;simp only[a6,aN,cb,not_or]at ne;obtain⟨n1,n2,n3,n4,n5⟩:=ne;have he₁:IsEnum h₁ e z i old:=hk₁ e _ n1 n3 n4 n5 he;show wpAny _ _ (field (.ref e) 3>>=_) _ _ ⟨h₁,g,d,tk,os⟩;refine fW<|aT he₁ rfl (x:=rawInt i) rfl ?_;show wpAny _ _ (field (.ref e) 4>>=_) _ _ ⟨h₁,g,d,tk,os⟩;refine fW<|aT he₁ rfl (x:=.none) rfl ?_;show wpAny _ _ (mkInt i>>=_) _ _ ⟨h₁,g,d,tk,os⟩;refine fW<|wpAny_mkInt ?_;refine fW (bj he₁ (by simp) λh₂ he₂ hs₂=>?_);replace hs₂:Heap.SameBut e h₁ h₂:=hs₂;replace he₂:IsEnum h₂ e z ((i:Int)+1) old:=he₂;show wpAny _ _ (setField (.ref e) 4 .none>>=_) _ _ ⟨h₂,g,d,tk+1,os⟩;refine fW (bj he₂ (by simp) λh₃ he₃ hs₃=>?_);replace hs₃:Heap.SameBut e h₂ h₃:=hs₃;replace he₃:IsEnum h₃ e z ((i:Int)+1) old:=he₃;refine fW<|eJ ?_;have he₄:IsEnum (h₃.push { cls:=.type "tuple",data:=.seq #[.int i tk,.ref hp.objs.size]}) e z ((i:Int)+1) old:=jw _ he₃;have hsz:h₃.objs.size=hp.objs.size+1:=by rw[hs₃.1,hs₂.1,sz₁]
 have ht₄:(h₃.push { cls:=.type "tuple",data:=.seq #[.int i tk,.ref hp.objs.size]}).get? (hp.objs.size+1)=some { cls:=.type "tuple",data:=.seq #[.int i tk,.ref hp.objs.size]}:=by rw[<- hsz];exact aD _ rfl
 have hk₄:∀ b o,b≠e->h₁.get? b=some o->(h₃.push { cls:=.type "tuple",data:=.seq #[.int i tk,.ref hp.objs.size]}).get? b=some o:=λb o hb eo=>jw _<|hs₃.extBut b o hb<|hs₂.extBut b o hb eo;generalize h₃.push { cls:=.type "tuple",data:=.seq #[.int i tk,.ref hp.objs.size]}=h₄ at he₄ ht₄ hk₄;rw[hsz];refine fW ?_;unfold Builtin.SmallTypes.ownedTupleIsFree;refine fW<|aT he₄ rfl (x:=.none) rfl (az ?_);simp only[if_true];refine fW<|dN ?_;refine fW<|aT he₄ rfl (x:=old) rfl ?_;refine fW (bj he₄ (by simp) λh₅ he₅ hs₅=>?_);replace hs₅:Heap.SameBut e h₄ h₅:=hs₅;replace he₅:IsEnum h₅ e z ((i:Int)+1) (.ref hp.objs.size):=he₅;refine fW ?_;unfold Builtin.SmallTypes.ownedTupleHandOut;refine fW (bj he₅ (by simp) λh₆ he₆ hs₆=>?_);replace hs₆:Heap.SameBut e h₅ h₆:=hs₆;replace he₆:IsEnumOut h₆ e z ((i:Int)+1) (.ref hp.objs.size) (hp.objs.size+1):=he₆;refine bj he₆ (by simp) λh₇ he₇ hs₇=>?_;replace hs₇:Heap.SameBut e h₆ h₇:=hs₇;replace he₇:IsEnumOut h₇ e z ((i:Int)+1) (.ref hp.objs.size) (hp.objs.size+1):=he₇;have Zf:∀ b o,b≠e->h₄.get? b=some o->h₇.get? b=some o:=λb o hb eo=>hs₇.extBut b o hb<|hs₆.extBut b o hb<|hs₅.extBut b o hb eo;refine fW (c5<|az ⟨_,rfl,hQ h₁ h₇ tk hT₁ sz₁ (λb o hb eo=>hk₁ b o (λq=>hb<|by simp[q]) (λq=>hb<|by simp[q]) (λq=>hb<|by simp[q]) (λq=>hb<|by simp[q]) eo) he₇ ?_ ?_ λb o hb eo=>Zf b o hb<|hk₄ b o hb eo⟩)
 .refine Z₁.keep λb hb o eo=>Zf b o ?_ (hk₄ b o ?_ eo)<;>
  .intro q;subst q;simp only[a6,aN,cb]at hb;rcases hb with q|q|q|q|q
   .exact n1 q
   .exact n2 q
   .exact n3 q
   .exact n4 q
   .exact n5 q
 .exact Zf (hp.objs.size+1) _ (bE<|bC elt) ht₄
end
section
variable {prog:ah}{w:ai}{A:Around}{E:ar->ak->Prop}{s:ak}
def xx (z TI TO:ao):
 Meets (Builtin.«enumerate.__new__» ⟨[.type "enumerate",.ref z],[]⟩) (λ_ R s=>IsZip s.heap z TI TO .none /\
  R (.ok<|.ret<|.ref s.heap.objs.size) {s with heap:=s.heap.push { cls:=.type "enumerate",data:=.fields #[.none,.bool false,.ref z,rawInt 0,.none,.none]}}):=
 .of_wp λprog w A R s h=>by
  let ⟨hp,g,d,tk,os⟩:=s;obtain⟨hz,h⟩:=h;have We:=sub_enumerate;have Wb:=hz;wp_walk using cJ Wb;refine wpAny_stack_any λst=>az ?_;split
  .rename_i c _ _ _ _ _;cases(c==Value.type "enumerate")
   .wp_walk using cJ Wb;exact⟨_,rfl,h⟩
   .wp_walk using cJ Wb;exact⟨_,rfl,h⟩
  .wp_walk using cJ Wb;exact⟨_,rfl,h⟩
def si {z TI TO:ao}{Q:ar->ak->Prop}(hz:IsZip s.heap z TI TO .none)
 (h:∀ h',IsEnum h' s.heap.objs.size z 0 .none->h'.objs.size=s.heap.objs.size+1->(∀ b o,s.heap.get? b=some o->h'.get? b=some o)->Q (.ref s.heap.objs.size) {s with heap:=h'}):
 wpAny (model prog w) A (call (.type "enumerate") [.ref z]) Q E s:=by
 refine callType_new F.called_enumerate (by decide) (F.typeCall_enumerate_1 _) (F.newCall_enumerate_1 _) (λobj=>F.args_object_init_2 obj _) F.entry_enumerate_new (xx z TI TO) ⟨hz,?_⟩;have he:IsEnum (s.heap.push { cls:=.type "enumerate",data:=.fields #[.none,.bool false,.ref z,rawInt 0,.none,.none]}) s.heap.objs.size z 0 .none:=aD _ rfl;exact⟨⟨_,he,rfl⟩,h _ he (by rw[aR]) λb o x=>jw _ x⟩
end
def Xv (l1 l2:ao):It :=
 ⟨λi H=>∃ xs ys x y,H l1=some (.lst xs)/\H l2=some (.lst ys)/\xs[i]?=some x/\ys[i]?=some y,
  λi H v H'=>∃ T1 T2 x y,v=.ref T2/\H T1=none/\(upd H T1<|.tup [x,y]) T2=none/\H'=upd (upd H T1<|.tup [x,y]) T2 (.tup [.int i,.ref T1])/\(∀ xs,H l1=some (.lst xs)->xs[i]?=some x)/\(∀ ys,H l2=some (.lst ys)->ys[i]?=some y),
  λi H=>∃ xs ys,H l1=some (.lst xs)/\H l2=some (.lst ys)/\(xs.length<=i\/ys.length<=i)⟩
theorem mE.upd {X:Cx}{fA:au (ao×Obj)}{H:Hp}{b T:ao}{o:HO}(f:mE X fA H b)(h:b≠T):mE X fA (upd H T o) b:=⟨by rw[gp h];exact f.1,f.2⟩
def DW {P:ah}{w:ai}{K:aa}{elts:au Expr}{kk:Nat}{nW:Pos}{e z TI TO i1 i2 l1 l2:ao}(D:ZipApart z TI TO i1 i2 l1 l2)(ne:e∉[z,TI,TO,i1,i2]):
 Turn P w K (.Tuple elts kk nW) (Xv l1 l2) [e,z,TI,TO,i1,i2] e (λi h=>(∃ old,IsEnum h e z i old)/\ZZ false z TI TO i1 i2 l1 l2 i h) where
 mem:=by simp
 obj:=λi h st b hb=>by
  obtain⟨⟨old,he⟩,f,bb,a,b',h1,h2,h3,h4,h5,h6⟩:=st;simp only[a6,aN,cb]at hb;rcases hb with rfl|rfl|rfl|rfl|rfl|rfl
  .exact⟨_,he,λv q=>by cases q⟩
  .exact⟨_,h1,λv q=>by cases q⟩
  .exact⟨_,h3,λv q=>by cases q⟩
  .exact⟨_,h4,λv q=>by cases q⟩
  .exact h5.data
  .exact h6.data
 keep:=λi h h' st k=>by obtain⟨⟨old,he⟩,Z⟩:=st;exact⟨⟨old,k e (by simp) _ he⟩,Z.keep λb hb o eo=>k b (ny _ hb) o eo⟩
 item:=by
  intro X hP hw hK hc i fA s σ H E I hf st hg;subst hP hw hK;obtain⟨⟨old,he⟩,Z⟩:=st;obtain⟨xs,ys,x,y,q1,q2,ex,ey⟩:=hg;obtain⟨_,us,n1,r1,_,p1⟩:=I.mq q1;obtain⟨_,ws,n2,r2,_,p2⟩:=I.mq q2;obtain⟨u,eu,ru⟩:=r1.get ex;obtain⟨v,ev,rv⟩:=r2.get ey;have s1:ke false s.heap l1 us.toArray:=⟨_,p1,rfl,n1,rfl⟩;have s2:ke false s.heap l2 ws.toArray:=⟨_,p2,rfl,n2,rfl⟩;have hT:s.TypeIs (.ref e) "enumerate":=⟨_,he,rfl⟩;have KQ:∀ b∈[e,z,TI,TO,i1,i2],b<s.heap.objs.size:=λb hb=>by
   obtain⟨f,bb,a,b',h1,h2,h3,h4,h5,h6⟩:=Z;simp only[a6,aN,cb]at hb;rcases hb with rfl|rfl|rfl|rfl|rfl|rfl
   .exact jd he
   .exact jd h1
   .exact jd h3
   .exact jd h4
   .obtain⟨o,q⟩:=h5.ex;exact jd q
   .obtain⟨o,q⟩:=h6.ex;exact jd q
  unfold pyNext;refine fW (wpAny_attempt<|b9 (name:=Str.ofString "__next__") hT dJ<|c7 dJ hT F.entry_enumerate_next (Ml D he Z ne s1 s2 (x:=u) (y:=v) (by simpa using eu) (by simpa using ev) λh1 h2 tk Wt Vl fr1 ho2 Z2 TH fr2=>az ?_)<|F.args_enumerate_next_1 _);refine⟨_,rfl,wpAny_letOwnedTupleGo_enum ho2 λh3 he3 CG=>?_⟩;have I1:Inv X fA σ (upd H s.heap.objs.size<|.tup [x,y]) { s with heap:=h1}:=I.yI (ch:=[z,TO,i1,i2]) (h'':=h1) (λb hb=>hf b (by
   simp only[a6,aN,cb]at hb ⊢
   rcases hb with q|q|q|q<;>simp[q])) fr1 Wt ru rv
  have elt:=KQ e (by simp);have en:e≠s.heap.objs.size+1:=aC<|bC elt;have hT3:IsPair h3 (s.heap.objs.size+1) (.int i tk) (.ref s.heap.objs.size):=CG.extBut _ _ (bX en) TH;have I2:=I1.yI (ch:=[e]) (h'':=h3) (x:=.int i) (y:=.ref s.heap.objs.size) (u:=.int i tk) (v:=.ref s.heap.objs.size) (λb hb=>by
   rw[List.mem_singleton.mp hb]
   exact(hf e<|by simp).upd<|aC elt) (λb o hb eo=>CG.extBut b o (λq=>hb<|by simp[q])<|fr2 b o (λq=>hb<|by simp[q]) eo) (by show IsPair h3 h1.objs.size _ _;rw[Vl];exact hT3) ⟨tk,rfl⟩ rfl
  have hn1:H s.heap.objs.size=none:=I.iH.fresh<|aw _;have Jm:(upd H s.heap.objs.size<|.tup [x,y]) (s.heap.objs.size+1)=none:=by rw[gp (Nat.succ_ne_self _)];exact I.iH.fresh (dt _)
  have I3:=I2.tok<|tk+1;have e1:(({s with heap:=h1}:ak).heap.objs.size)=s.heap.objs.size+1:=Vl;rw[e1]at I3;refine⟨.ref<|s.heap.objs.size+1,_,I3,rfl,⟨_,_,x,y,rfl,hn1,Jm,rfl,λzs q=>by rw[q1]at q;cases q;exact ex,λzs q=>by rw[q2]at q;cases q;exact ey⟩,⟨⟨_,by simpa using he3⟩,Z2.keep λb hb o eo=>CG.extBut b o (λq=>ne<|q▸hb) eo⟩,λb hb=>?_⟩;have:=KQ b hb;rw[gp (aC<|bC this),gp (aC this)];exact(hf b hb).1
 done:=by
  intro X hP hw hK hc i fA s σ H E I hf st hg;subst hP hw hK;obtain⟨⟨old,he⟩,Z⟩:=st;obtain⟨xs,ys,q1,q2,hx⟩:=hg;obtain⟨_,us,n1,r1,ll1,p1⟩:=I.mq q1;obtain⟨_,ws,n2,r2,ll2,p2⟩:=I.mq q2;have s1:ke false s.heap l1 us.toArray:=⟨_,p1,rfl,n1,rfl⟩;have s2:ke false s.heap l2 ws.toArray:=⟨_,p2,rfl,n2,rfl⟩;have hT:s.TypeIs (.ref e) "enumerate":=⟨_,he,rfl⟩;unfold pyNext;refine fW<|wpAny_attempt<|b9 (name:=Str.ofString "__next__") hT dJ<|c7 dJ hT F.entry_enumerate_next ?_<|F.args_enumerate_next_1 _;show wpAny _ _ (field (.ref e) 2>>=_) _ _ _;refine fW<|aT he rfl (x:=.ref z) rfl ?_;refine fW (RH (I.ok.hd hc) D Z s1 s2 (by simp only[List.getElem?_toArray,List.getElem?_eq_none_iff];lia) λh' x hk yr=>?_);obtain⟨o,ho,CH⟩:=yr;refine fW<|e9 (T:= "StopIteration") (b:=true) ⟨o,ho,CH⟩ isSubtype_stop ?_;refine az ⟨rfl,I.yJ (ch:=[z,TO,i1,i2]) (λb hb=>hf b (by
   simp only[a6,aN,cb]at hb ⊢
   rcases hb with q|q|q|q<;>simp[q])) λb o hb eo=>hk b o (λq=>hb<|by simp[q]) (λq=>hb<|by simp[q]) (λq=>hb<|by simp[q]) (λq=>hb<|by simp[q]) eo⟩
 self:=λ_ _ _ _ _ st h=>let ⟨⟨_,e⟩,_⟩:=st;eI e h
section
variable {X:Cx}{a b e:Expr}{es:au Expr}{pos:Pos}
def Tj (ta:TA):TI:=λσ H R=>ta σ H λvs H1=>match vs with
 |[.ref l1,.ref l2]=>∃ xs ys,H1 l1=some (.lst xs)/\H1 l2=some (.lst ys)/\R (Xv l1 l2) H1
 |_=>False
def Kt {elts:au Expr}{kk:Nat}{nW p2 mO:Pos}{ta:TA}{p:Pos}(hg:Gl X "enumerate")(hm:X.mg "enumerate"=none)(LM:Gl X "zip")(EK:X.mg "zip"=none)(ha:PA X [a,b] ta)(hs:starEach [a,b] X.env=[(false,eval a X.env),(false,eval b X.env)]:=by rfl)(rm:starEach [b] X.env=[(false,eval b X.env)]:=by rfl)
 (CG:starEach [.Call (.Name "zip" p2) [a,b] [] mO] X.env=[(false,eval (.Call (.Name "zip" p2) [a,b] [] mO) X.env)]:=by rfl):
 PI X (.Tuple elts kk nW) (.Call (.Name "enumerate" p) [.Call (.Name "zip" p2) [a,b] [] mO] [] pos) (Tj ta):=by
 intro fA s σ H R I h;refine Call_ (kc I hg hm (show bootBuiltins "enumerate"=some (.type "enumerate") by decide +kernel)<|aS ?_ CG rfl);rw[CG];show wpAny _ _ (spliced<|(false,eval (.Call (.Name "zip" p2) [a,b] [] mO) X.env)::backTo pos []) _ _ s;refine cC ?_;refine Call_ (kc I LM EK boot_zip<|aS (iN (ha mO fA s σ H _ I h) λus s1 rp=>?_) (by rw[hs,rm]) (by rw[rm];rfl));obtain⟨vs,H1,I1,r1,q1⟩:=rp;try dsimp only at q1
 split at q1
 .rename_i l1 l2;obtain⟨xs,ys,h1,h2,q⟩:=q1;obtain⟨u1,u2,rfl,e1,e2⟩:=r1.two;cases e1;cases e2;obtain⟨_,i1,n1,v1,_,p1⟩:=I1.mq h1;obtain⟨_,i2,n2,v2,_,p2⟩:=I1.mq h2;have s1q:ke false s1.heap l1 i1.toArray:=⟨_,p1,rfl,n1,rfl⟩;have s2q:ke false s1.heap l2 i2.toArray:=⟨_,p2,rfl,n2,rfl⟩;have lt1:l1<s1.heap.objs.size:=jd p1;have lt2:l2<s1.heap.objs.size:=jd p2;refine wj s1q s2q λh' hz Gy Gx m1 m2 kp=>?_;refine cV ?_;refine si (s:={ s1 with heap:=h'}) hz λh'' he hsz Nz=>eI he ?_;have RI:s1.heap.objs.size+4<h'.objs.size:=jd hz;have I2:Inv X fA σ H1 { s1 with heap:=h''}:=I1.iR (t':=s1.toks) λb o eo=>Nz b o<|kp b o eo;have Z0:ZZ false (s1.heap.objs.size+4) (s1.heap.objs.size+2) (s1.heap.objs.size+3) s1.heap.objs.size (s1.heap.objs.size+1) l1 l2 0 h':=⟨_,_,_,_,hz,.inl rfl,Gy,Gx,m1,m2⟩;have ne:h'.objs.size∉[s1.heap.objs.size+4,s1.heap.objs.size+2,s1.heap.objs.size+3,s1.heap.objs.size,s1.heap.objs.size+1]:=by simp only[a6,aN,cb];lia
  refine⟨h'.objs.size,_,_,_,H1,rfl,I2,DW (zipApart_new lt1 lt2) ne,⟨⟨_,he⟩,Z0.keep λb _ o eo=>Nz b o eo⟩,λb hb=>?_,q⟩;have EM:s1.heap.objs.size<=b:=by
   simp only[a6,aN,cb]at hb;rcases hb with q|q|q|q|q|q
   .rw[q];exact eM (cj (bc _ 4) RI)
   .rw[q];exact bc _ _
   .rw[q];exact bc _ _
   .rw[q];exact bc _ _
   .rw[q];exact aw _
   .rw[q];exact bc _ _
  exact I1.ES EM (I1.iH.fresh EM)
 .exact q1.elim
def W6 (w:DA):DI:=λρ μ K=>w ρ μ λds gc=>match ds with
 |[x,y]=>opt (lv gc x) λxs=>opt (lv gc y) λys=>K (nT<|List.zipWith (λa b=>D.tup [a,b]) xs ys) (λfZ=>lc x xs fZ/\lc y ys fZ) gc
 |_=>False
def Pc {elts:au Expr}{kk:Nat}{nW p2 mO:Pos}{w:DA}{p:Pos}(hg:Gl X "enumerate")(hm:X.mg "enumerate"=none)(LM:Gl X "zip")(EK:X.mg "zip"=none)(ha:we X [a,b] w)(hs:starEach [a,b] X.env=[(false,eval a X.env),(false,eval b X.env)]:=by rfl)(rm:starEach [b] X.env=[(false,eval b X.env)]:=by rfl)
 (CG:starEach [.Call (.Name "zip" p2) [a,b] [] mO] X.env=[(false,eval (.Call (.Name "zip" p2) [a,b] [] mO) X.env)]:=by rfl):
 Hj X (.Tuple elts kk nW) (.Call (.Name "enumerate" p) [.Call (.Name "zip" p2) [a,b] [] mO] [] pos) (W6 w):=(Kt hg hm LM EK ha hs rm CG).imp λσ H Q hq=>by
 obtain⟨φ,ρ,μ,K,A,M,k,L⟩:=hq;refine⟨φ,ρ,μ,_,A,M,k,λds gc gL vs H1 k1 f1 M1 i1=>?_⟩;split at k1
 .rename_i x y;obtain⟨xs,ex,k1⟩:=iz k1;obtain⟨ys,ey,k1⟩:=iz k1;obtain⟨v,r,rfl,h1,u,r',rfl,h2,h3⟩:=i1;cases(show r'=[]from h3);obtain⟨p1,vx,rfl,Tt,ax⟩:=kK M1 h1 ex;obtain⟨p2,vy,rfl,Ts,ay⟩:=kK M1 h2 ey;refine⟨vx,vy,Tt,Ts,L _ _ gc gL _ H1 k1 f1 M1 λgO H' fZ f M' c i=>?_⟩;obtain⟨vx,hx,ax⟩:=qF M1 h1 ex f M' c.1;obtain⟨vy,hy,ay⟩:=qF M1 h2 ey f M' c.2;have lx:=ax.len;have ly:=ay.len;refine⟨λd hd=>?_,λhi=>⟨vx,vy,hx,hy,by rw[mY,bH]at hi;lia⟩⟩;obtain⟨q,hq,rfl⟩:=zi hd;rw[bQ]at hq;cases e1:xs[i]? with
  |none=>rw[e1]at hq;cases hq
  | some dx =>
   cases e2:ys[i]? with
   |none=>rw[e1,e2]at hq;cases hq
   | some dy =>rw[e1,e2]at hq;cases hq;obtain⟨v1,g1,j1⟩:=ax.get e1;obtain⟨v2,g2,j2⟩:=ay.get e2;refine⟨⟨vx,vy,v1,v2,hx,hy,g1,g2⟩,λz Ql To=>?_⟩;obtain⟨T1,T2,x',y',rfl,Wt,TH,rfl,q1,q2⟩:=To;have c1:=q1 vx hx;have c2:=q2 vy hy;rw[g1]at c1;cases c1;rw[g2]at c2;cases c2;have fn1:=Fr.new (φ:=gO) (o:=.tup [v1,v2]) Wt;have M1':=M'.same<|iA.upd (o:=.tup [v1,v2]) Wt;have fn2:=Fr.new (φ:=gO) (o:=.tup [.int i,.ref T1]) TH;have M2':=M1'.same<|iA.upd (o:=.tup [.int i,.ref T1]) TH;have d1:jy gO (upd H' T1<|.tup [v1,v2]) (.tup [dx,dy]) (.ref T1):=⟨T1,_,rfl,M'.fresh Wt,fX,v1,_,rfl,j1.mono fn1,v2,_,rfl,j2.mono fn1,rfl⟩;exact⟨fn1.trans fn2,M2',T2,_,rfl,M1'.fresh TH,fX,.int i,_,rfl,rfl,.ref T1,_,rfl,d1.mono fn2,rfl⟩
 .exact k1.elim
end
def QO:au V->Hp->VK->Prop:=λvs H Q=>∃ i j k,vs=[.int i,.int j,.int k]/\Q (.int<|min i<|min j k) H
def VV (hc:X.gH=true):jr X (.builtin "min") QO:=by
 intro fA s σ H xs us Q I r h;obtain⟨i,j,k,rfl,h⟩:=h;cases r with
 | cons r1 r2 =>
  obtain⟨u,v,rfl,⟨t2,rfl⟩,⟨t3,rfl⟩⟩:=gC.two r2;obtain⟨t1,rfl⟩:=r1;refine min_three_ints (I.ok.hd hc) λh' tk kp=>⟨_,H,I.iR kp,?_,h⟩;by_cases h1:j<i
  .by_cases h2:k<j
   .rw[aE h1,aE h2,show min i (min j k)=k by lia];exact⟨_,rfl⟩
   .rw[aE h1,aF h2,show min i (min j k)=j by lia];exact⟨_,rfl⟩
  .by_cases h2:k<i
   .rw[aF h1,aE h2,show min i (min j k)=k by lia];exact⟨_,rfl⟩
   .rw[aF h1,aF h2,show min i (min j k)=i by lia];exact⟨_,rfl⟩
def Rk:j4:=λds μ K=>match ds with|[.int i,.int j,.int k]=>K (.int<|min i<|min j k) μ|_=>False
def N7:mF QO Rk:=λφ H vs ds μ K Q M h k L=>by
 unfold Rk at k;split at k
 .obtain⟨v,r,rfl,h1,u,r',rfl,h2,w,r'',rfl,h3,h4⟩:=h;cases h4;cases h1;cases h2;cases h3;exact⟨_,_,_,rfl,L.val M k rfl⟩
 .exact k.elim
section
variable {X:Cx}{e:Expr}{pos:Pos}
def W9:De:=λ_ μ K=>K (.mr μ.length) (μ++[.jS [] []])
def T4:PD X (.Dict [] [] pos) W9:=KD.imp λσ H Q ⟨φ,ρ,μ,K,A,M,k,L⟩=>λp hp=>by obtain⟨M',f⟩:=M.snoc (m:=.jS [] []) hp ⟨[],[],fX,rfl,rfl,rfl⟩;exact L _ _ _ _ _ k f M' ⟨p,by rw[qV (by rw[M.len];exact aw _),M.len,aZ];rfl,rfl⟩
def Xd (w wo wi:De):Ds:=λN ρ μ=>w ρ μ λd gc=>wo ρ gc λo iP=>wi ρ iP λi t9=>match o with
 |.mr k=>∃ ks ds,t9[k]?=some (.jS ks ds)/\ks.length<sizeLine/\opt (Ls i) λkk=>kk∉ks/\N.nx ρ (t9.set k<|.jS (ks++[kk])<|ds++[d])
 |_=>False
def R8 (hu:X.A.units+1<cLine)(he:PD X e w)(ho:PD X o wo)(hi:PD X i wi)(hs:swapsWith e (some<|.Subscript o i pos') pos.line X.env=pure false:=by rfl):
 zE X (.Assign [.Subscript o i pos'] e pos) (Xd w wo wi):=(FV hu ho hi he hs).imp λE σ H hq=>by
 obtain⟨φ,ρ,μ,N,A,M,w,L⟩:=hq;refine⟨φ,ρ,μ,_,A,M,w,λd gc gL v1 H1 k1 f1 M1 i1=>⟨gL,ρ,gc,_,A.mono f1,M1,k1,λd2 iP lg v2 H2 k2 f2 M2 i2=>⟨lg,ρ,iP,_,A.mono<|f1.trans f2,M2,k2,λd3 t9 Ho v3 H3 k3 f3 M3 i3=>?_⟩⟩⟩;cases d2 with
 | mr k =>
  obtain⟨ks,ds,em,hl,k3⟩:=k3;obtain⟨kk,ek,hn,k3⟩:=iz k3;obtain⟨p,hp,rfl⟩:=i2.mono f3;obtain⟨p',e1,fO,vs,hv,h1,h2,ha⟩:=M3.at_ k _ em;rw[hp]at e1;cases e1;cases vQ ek i3;have ZH:(fO.any λkv=>decide (kv.1=kk))=false:=by rw[eR];intro kv Wh;rw[bS];intro z;exact hn (by rw[<- h1,<- z];exact List.mem_map_of_mem Wh)
  have ep:putK fO kk v1=fO++[(kk,v1)]:=by unfold putK;rw[ZH];rfl
  have f4:Fr Ho H3 Ho (upd H3 p<|.dK<|putK fO kk v1):=.put<|kq hp;refine⟨p,_,rfl,Dy.k hv (by rw[<- h1,gP]at hl;exact hl),?_⟩;have M4:=M3.put (k:=k) (p:=p) (m:=.jS (ks++[kk])<|ds++[d]) hp ⟨putK fO kk v1,vs++[v1],fX,by rw[ep,bB,h1];rfl,by rw[ep,bB,h2];rfl,
   (ha.mono f4).app ⟨v1,[],rfl,(i1.mono<|f2.trans f3).mono f4,rfl⟩⟩
  exact L.nx ρ _ Ho σ _ k3 ((f1.trans<|f2.trans f3).trans f4) (A.mono<|(f1.trans<|f2.trans f3).trans f4) M4
 |_=>exact k3.elim
end
def jx (L:Nat)(i j:Nat):Int:=if j<=i then 0 else(L:Int) - 1
def mJ (P:Nat->Nat->Int)(i j:Nat):au Int:=(List.range<|j - (i+1)).map λx=>P i (i+1+x)+P (i+1+x) j+1
def iE (L:Nat)(es own:au Int)(P:Nat->Nat->Int)(i j:Nat):Int:=if es.getD j 0<=own.getD i 0 then 0 else(mJ P i j).foldl min ((L:Int) - 1)
def fQ (es:au Int)(ts:au Tk):Nat->Nat->Nat->Int
 |0=>jx es.length
 |a+1=>iE es.length es (i0 es ts a) (fQ es ts a)
def kL {P:Nat->Nat->Int}{i j:Nat}{v:Int}:v∈mJ P i j↔∃ k,i<k/\k<j/\v=P i k+P k j+1:=by
 unfold mJ;rw[List.mem_map];constructor
 .rintro⟨x,hx,rfl⟩;rw[cc]at hx;exact⟨i+1+x,by lia,by lia,rfl⟩
 .rintro⟨k,h1,h2,rfl⟩;exact⟨k - (i+1),List.mem_range.mpr<|by lia,by rw[show i+1+(k - (i+1))=k by lia]⟩
def Ig {P P':Nat->Nat->Int}{L i j:Nat}(hi:i<L)(hj:j<L)(h:∀ a b,a<L->b<L->P a b=P' a b):mJ P i j=mJ P' i j:=by apply bY;intro x hx;rw[cc]at hx;rw[h i _ hi (by lia),h _ j (by lia) hj]
def Hx {P P':Nat->Nat->Int}{L:Nat}{es own:au Int}{i j:Nat}(hi:i<L)(hj:j<L)(h:∀ a b,a<L->b<L->P a b=P' a b):iE L es own P i j=iE L es own P' i j:=by unfold iE;rw[Ig hi hj h]
def Du (L:Nat)(T P:Nat->Nat->Int):Prop:=∀ i j,i<L->j<L->(j<=i->P i j=0)/\(i<j->(T i j=0/\P i j=(L:Int) - 1)\/(1<=T i j/\T i j<=((j - i:Nat):Int)/\P i j=T i j - 1))
def Hz {L:Nat}{es own:au Int}{T P:Nat->Nat->Int}(hs:∀ i j,i<L->j<=i->es.getD j 0<=own.getD i 0)(h:Du L T P):Du L (lB es own T) (iE L es own P):=by
 intro i j hi hj;refine⟨λhji=>by unfold iE;rw[aE (hs i j hi hji)],λpE=>?_⟩;unfold lB iE;rw[aF (show ¬ j<=i by lia)];by_cases q:es.getD j 0<=own.getD i 0
 .right;lia
 rw[aF q,aF q];obtain⟨a1,a2,a3⟩:=jQ (mJ P i j)<|(L:Int) - 1;generalize hm:(mJ P i j).foldl min ((L:Int) - 1)=m at a1 a2 a3 ⊢
 have kk:∀ k,i<k->k<j->(0<T i k*T k j/\1<=T i k/\1<=T k j/\T i k+T k j<=((j - i:Nat):Int)/\P i k+P k j+1=T i k+T k j - 1)\/(¬ 0<T i k*T k j/\(L:Int) - 1<P i k+P k j+1):=λk h1 h2=>by
  have x1:=(h i k hi<|by lia).2 h1;have x2:=(h k j (by lia) hj).2 h2;rcases x1 with⟨y1,y2⟩|⟨y1,y2,y3⟩
  .right;refine⟨by lia,?_⟩;rcases x2 with⟨z1,z2⟩|⟨z1,z2,z3⟩<;> lia
  .rcases x2 with⟨z1,z2⟩ | ⟨z1,z2,z3⟩
   .right;exact⟨by lia,by lia⟩
   .left;exact⟨Int.mul_pos (by lia)<|by lia,y1,z1,by lia,by lia⟩
 by_cases hn:pJ T i j=[]
 .left;rw[hn];refine⟨rfl,?_⟩;rcases a1 with e|e
  .exact e
  .exfalso;obtain⟨k,h1,h2,e⟩:=kL.mp e;rcases kk k h1 h2 with⟨y,_⟩|⟨_,y⟩
   .have:=lI.mpr ⟨k,h1,h2,y,rfl⟩;rw[hn]at this;cases this
   .lia
 .right;obtain⟨b1,b2⟩:=qE hn;generalize y6 (pJ T i j)=t at b1 b2 ⊢
  obtain⟨k,h1,h2,h3,e⟩:=lI.mp b1;rcases kk k h1 h2 with⟨_,y1,y2,y3,y4⟩|⟨y,_⟩
  .have:=a3 _<|kL.mpr ⟨k,h1,h2,rfl⟩;refine⟨by lia,by lia,?_⟩;rcases a1 with e'|e'
   .lia
   .obtain⟨k',g1,g2,e'⟩:=kL.mp e';rcases kk k' g1 g2 with⟨w0,w1,w2,w3,w4⟩|⟨_,w⟩
    .have:=b2 _<|lI.mpr ⟨k',g1,g2,w0,rfl⟩;lia
    .lia
  .exact absurd h3 y
theorem BX (hs:∀ a i j,i<es.length->j<=i->es.getD j 0<=(i0 es ts a).getD i 0):∀ a,Du es.length (mL es ts a) (fQ es ts a)
 |0=>λi j hi hj=>⟨λh=>by show jx _ i j=0;unfold jx;rw[aE h],λh=>.inl ⟨rfl,by show jx _ i j=_;unfold jx;rw[aF (by lia)]⟩⟩
 |a+1=>Hz (hs a) (BX hs a)
def KJ {es:au Int}{ts:au Tk}{a:Int}(h:∀ t∈ts,t.2≠a):i0 es ts a=i0 es ts (a - 1):=by apply bY;intro e _;rw[jO,jO];congr 2;apply List.filter_congr;intro t ht;have:=h t ht;exact decide_eq_decide.mpr ⟨λq=>by lia,λq=>by lia⟩
def KO {es:au Int}{ts:au Tk}{a:Int}(h:∀ t∈ts,a<t.2):i0 es ts a=es:=by
 unfold i0;have:es.map (i7 es ts a)=es.map id:=by
  apply bY;intro e _;rw[jO];have:(ts.filter λt=>decide (t.2<=a))=[]:=by rw[List.filter_eq_nil_iff];intro t ht;have:=h t ht;lia
  rw[this];rfl
 rw[this,List.map_id]
def getD_some {xs:au Int}(h:i<xs.length):xs[i]?=some (xs.getD i 0):=by rw[aA,iD h];rfl
def vG {es:au Int}(hu:es.Pairwise (·<·))(hi:i<es.length)(h:j<=i):es.getD j 0<=es.getD i 0:=om hu j i _ _ h (getD_some<|by lia) (getD_some hi)
def KN {es:au Int}{ts:au Tk}{a:Int}(hu:es.Pairwise (·<·))(i j:Nat)(hi:i<es.length)(h:j<=i):es.getD j 0<=(i0 es ts a).getD i 0:=by have e:=l6 (ts:=ts) (a:=a)<|getD_some hi;rw[aA (l:=i0 es ts a),e];have:=mP es ts a<|es.getD i 0;have:=vG hu hi h;show _<=i7 es ts a (es.getD i 0);lia
def MZ (hu:es.Pairwise (·<·))(hi:i<es.length)(hj:j<es.length):iE es.length es es (jx es.length) i j=jx es.length i j:=by
 unfold iE;by_cases q:j<=i
 .rw[aE (vG hu hi q)];unfold jx;rw[aE q]
 .have pE:i<j:=by lia
  have:=List.pairwise_iff_getElem.mp hu i j hi hj pE
  rw[aF (by
   have e1:=getD_some hi
   have e2:=getD_some hj
   rw[iD hi]at e1
   rw[iD hj]at e2
   lia)]
  obtain⟨a1,a2,a3⟩:=jQ (mJ (jx es.length) i j) ((es.length:Int) - 1)
  have eb:jx es.length i j=(es.length:Int) - 1:=by unfold jx;rw[aF q]
  rw[eb]
  rcases a1 with e|e
  .exact e
  .exfalso;let ⟨k,h1,h2,e⟩:=kL.mp e;have b1:jx es.length i k=(es.length:Int) - 1:=by unfold jx;rw[aF (by lia)]
   have b2:jx es.length k j=(es.length:Int) - 1:=by unfold jx;rw[aF (by lia)]
   lia
def JL {L:Nat}{T T':Nat->Nat->Int}(h:∀ i j,i<L->j<L->T i j=T' i j):kQ L T=kQ L T':=by apply bY;intro i hi;rw[J5 λj hj=>h i j (List.mem_range.mp hi) hj]
theorem xD:∀ {xs ys:au D} {i:Nat} {x y:D},ph xs ys=true->xs[i]?=some x->ys[i]?=some y->ud x y=true
 |[],_,i,_,_,_,h1,_=>by simp at h1
 |_::_,[],i,_,_,_,_,h2=>by simp at h2
 | x::xs,y::ys,0,_,_,h,h1,h2=>by unfold ph at h;rw[cv]at h;simp at h1 h2;subst h1;subst h2;exact h.1
 | x::xs,y::ys,i+1,_,_,h,h1,h2=>by unfold ph at h;rw[cv]at h;exact xD h.2 (by simpa using h1) (by simpa using h2)
def Px {L:Nat}{S T:Nat->Nat->Int}(h:ud (.lst<|kQ L S) (.lst<|kQ L T)=true):∀ i j,i<L->j<L->S i j=T i j:=λi j hi hj=>by have h1:=xD h (pZ hi)<|pZ hi;have h2:=xD h1 (ni hj)<|ni hj;exact eq_of_beq h2
def LY {k:Nat}(hf:∀ i j,i<es.length->j<es.length->iE es.length es (i0 es ts<|(k:Int) - 1) (fQ es ts k) i j=fQ es ts k i j)(hn:∀ t∈ts,t.2≠(k:Int))(i j:Nat)(hi:i<es.length)(hj:j<es.length):fQ es ts (k+1) i j=fQ es ts k i j:=by show iE es.length es (i0 es ts k) (fQ es ts k) i j=_;rw[KJ hn];exact hf i j hi hj
def CP (h:∀ i j,i<es.length->j<es.length->fQ es ts (k+1) i j=fQ es ts k i j)(i j:Nat)(hi:i<es.length)(hj:j<es.length):iE es.length es (i0 es ts<|((k+1:Nat):Int) - 1) (fQ es ts<|k+1) i j=fQ es ts (k+1) i j:=by rw[show((k+1:Nat):Int) - 1=(k:Int) by lia,Hx (P':=fQ es ts k) hi hj h];rfl
def IA {n:Int}{cs:au Int}{ts:au Tk}(S:gv n cs ts)(i j:Nat)(hi:i<(fw n cs).length)(hj:j<(fw n cs).length):iE (fw n cs).length (fw n cs) (i0 (fw n cs) ts<|((0:Nat):Int) - 1) (fQ (fw n cs) ts 0) i j=fQ (fw n cs) ts 0 i j:=by rw[KO λt ht=>by have:=(S.takes.ok t ht).2.2.1;lia];exact MZ (hV S.n1 S.iI) hi hj
def Dc {L i j:Nat}{f:Nat->Int}(hj:j<=L):cutD (jU L f) (some<|(i:Int)+1) (some (j:Int))=(List.range<|j - (i+1)).map λx=>D.int (f<|i+1+x):=by
 unfold cutD;rw[sM,show HT.n6 L 0 (some<|(i:Int)+1)=min (i+1) L from HT.lD L 0 (i+1),HT.lD,bZ hj];rcases cg (i+1) j with q|q
 .rw[bZ (aV (eM q) hj)];apply cy;intro x;rw[List.getElem?_take,mS];by_cases hx:x<j - (i+1)
  .rw[aE hx,cL,aY hx,ni (by lia)];rfl
  .rw[aF hx,List.getElem?_eq_none_iff.mpr (by rw[pF];exact Nat.not_lt.mp hx)];rfl
 .rw[Nat.sub_eq_zero_of_le q,Nat.sub_eq_zero_of_le (Nat.le_min.mpr ⟨q,hj⟩)];rfl
def Jx {L:Nat}{P:Nat->Nat->Int}{i j:Nat}:List.zipWith (λa b:Int=>a+b+1) ((List.range<|j - (i+1)).map λx=>P i<|i+1+x) ((List.range<|j - (i+1)).map λx=>P (i+1+x) j)=mJ P i j:=by
 unfold mJ;rw[List.zipWith_map];generalize List.range (j - (i+1))=xs;induction xs with
 |nil=>rfl
 |cons x xs ih=>rw[bT,ih];rfl
def zg (g:Nat->D)(hl:ds.length=L)(h:∀ i,i<L->ds[i]?=some (g i)):nT ds=(List.range L).map λi=>D.tup [.int (i:Nat),g i]:=by
 unfold nT;apply cy;intro i;rw[bQ,mS,hl];by_cases hi:i<L
 .rw[aY hi,h i hi];rfl
 .rw[List.getElem?_eq_none_iff.mpr (by rw[pF];lia)];rfl
def Pp {es:au Int}:nT (es.map D.int)=(List.range es.length).map λj=>D.tup [.int (j:Nat),.int (es.getD j 0)] :=
 zg _ (gP ..) λi hi=>by rw[mS,getD_some hi];rfl
def Mm {L:Nat}{P:Nat->Nat->Int}{own:au Int}(hl:own.length=L):nT (List.zipWith (λa b=>D.tup [a,b]) (kQ L P)<|own.map D.int)=(List.range L).map λi=>D.tup [.int (i:Nat),.tup [.lst (jU L<|P i),.int (own.getD i 0)]] :=
 zg (λi=>.tup [.lst (jU L<|P i),.int (own.getD i 0)]) (by rw[bH,mZ,gP];lia) λi hi=>by rw[bQ,pZ hi,mS,getD_some (by lia)];rfl
def Hu {L k:Nat}{T:Nat->Nat->Int}:((List.range<|k+1).map λi=>D.lst<|jU L<|T i)=((List.range k).map λi=>D.lst<|jU L<|T i)++[.lst (jU L<|T k)]:=by rw[cW,bB];rfl
def OU (L k:Nat)(f:Nat->Nat->Int):u4 n ((List.range k).map λi=>D.lst<|jU L<|f i):=wW λd hd=>by obtain⟨i,_,rfl⟩:=List.mem_map.mp hd;exact Gi L _
def Jy {ls:au Int}:List.zipWith (λa b=>D.tup [a,b]) (ls.map D.int) (rs.map D.int)=(ls.zip rs).map λp=>D.tup [.int p.1,.int p.2]:=by rw[List.zipWith_map,List.zip,List.map_zipWith]
def Ju:(ls.zip rs).map (λp=>D.int<|p.1+p.2+1)=(List.zipWith (λa b=>a+b+1) ls rs).map D.int:=by rw[List.zip,List.map_zipWith,List.map_zipWith]
def VG {i j k:Nat}{ρ:DE}{μ:MS}{K:Bool->MS->Prop}(ch:Bool)(now:Int)(Qf:au Int)(h8:ρ[i]?=some (some<|.bl ch))(h10:ρ[j]?=some (some<|.int now))(h6:ρ[k]?=some (some<|.lst<|Qf.map D.int))(h:∀ c,(c=false->ch=false/\now∉Qf)->K c μ):Ms (pj<|vC i) (pj<|vZ (dIn false) (vC j)<|vC k) ρ μ K:=by
 unfold Ms pj vZ vC;rw[h8,h10,h6];show if ch=true then K true μ else _;by_cases q:ch=true
 .rw[aE q];exact h true λz=>by cases z
 .rw[aF q];refine⟨rfl,by rw[List.all_map];exact List.all_eq_true.mpr λx _=>rfl,h _ λz=>⟨by cases ch with|true=>exact absurd rfl q|false=>rfl,λhm=>?_⟩⟩;have z2:((Qf.map D.int).any λd=>ud d<|.int now)=false:=by cases q2:((Qf.map D.int).any λd=>ud d<|.int now)with|true=>rw[q2]at z;exact absurd z (by decide)|false=>rfl
  rw[eR]at z2;exact z2 _ (List.mem_map_of_mem hm) (beq_self_eq_true now)
def AX:j4:=λds μ K=>match ds with
 |[.lst b]=>b.length<=2000/\K (.int<|(b.length:Int) - 1) μ
 |_=>False
def EZ:j4:=λds μ K=>match ds with
 |[.lst b]=>b.length<=2000/\K (.lst<|kQ b.length<|jx b.length) μ
 |_=>False
def xr:j4:=λds μ K=>match ds with
 |[.lst l,.lst r,.int m]=>∃ ls rs:au Int,l=ls.map D.int/\r=rs.map D.int/\ls.length<=2000/\rs.length<=2000/\K (.int<|(List.zipWith (λa b=>a+b+1) ls rs).foldl min m) μ
 |_=>False
def xq:j4:=λds μ K=>match ds with
 |[.lst b,.lst c,.lst l]=>∃(es own:au Int) (P:Nat->Nat->Int),b=es.map D.int/\c=own.map D.int/\own.length=es.length/\es.length<=2000/\l=kQ es.length P/\K (.lst<|kQ es.length<|iE es.length es own P) μ
 |_=>False
def nH (es:au Int)(ts:au Tk)(k:Nat):au D:=(List.range k).map λa=>D.lst (kQ es.length<|fQ es ts<|a+1)
def mI (k:Nat):au Key:=(List.range k).map λa=>(Sum.inl ((a:Nat):Int):Key)
def xu:j4:=λds μ K=>match ds with
 |[.int n,.lst x,.lst y,.int a]=>∃(cs:au Int) (ts:au Tk),x=cs.map D.int/\y=ts.map nB/\gv n cs ts/\0<=a/\a<=1000/\K (.jS (mI<|a.toNat+1)<|nH (fw n cs) ts<|a.toNat+1) μ
 |_=>False
def Pl (m:Int)(L:Nat):D:=if m<=(L:Int)then .int m else .iC
def A1:j4:=λds μ K=>match ds with
 |[.int n,.lst x,.lst y,.int a]=>∃(cs:au Int) (ts:au Tk),x=cs.map D.int/\y=ts.map nB/\gv n cs ts/\0<=a/\a<=1000/\K (Pl (fQ (fw n cs) ts (a.toNat+1) 0<|cs.length+1) cs.length) μ
 |_=>False
def Lq (k:Nat):(Sum.inl ((k:Nat):Int):Key)∉mI k:=λh=>by let ⟨a,ha,e⟩:=List.mem_map.mp h;rw[cc]at ha;lia
def EC (k:Nat):mI (k+1)=mI k++[Sum.inl ((k:Nat):Int)]:=by unfold mI;rw[cW,bB];rfl
def DZ (es:au Int)(ts:au Tk)(k:Nat):nH es ts (k+1)=nH es ts k++[.lst (kQ es.length<|fQ es ts<|k+1)]:=by unfold nH;rw[cW,bB];rfl
theorem vX:∀ {xs:au Nat} {k:Nat} (g:Nat->D),k∈xs->qW ((xs.map λa=>(Sum.inl ((a:Nat):Int):Key)).zip<|xs.map g) (.inl (k:Int))=some (g k)
 | x::xs,k,g,h=>by
  rw[aB,aB,cK];unfold qW;rw[b7];by_cases e:x=k
  .subst e;simp
  .have:¬ (Sum.inl ((x:Nat):Int):Key)=Sum.inl ((k:Nat):Int):=λz=>e (by lia);simp only[this,decide_false];exact vX g (by rcases List.mem_cons.mp h with q|q;exact absurd q.symm e;exact q)
def zd (F:Int->Int):Nat->Int->Int
 |0,e=>e
 |m+1,e=>F (zd F m e)
structure Hg (es:List Int)(F:Int->Int):Prop where
 mem:∀ e∈es,F e∈es
 ge:∀ e,e<=F e
 mono:∀ a∈es,∀ b∈es,a<=b->F a<=F b
theorem Gp (F:Int->Int)(m:Nat)(e:Int):∀ k,zd F (m+k) e=zd F k (zd F m e)
 |0=>rfl
 |k+1=>by show F (zd F (m+k) e)=F (zd F k<|zd F m e);rw[Gp F m e k]
theorem tq {es:au Int}{F:Int->Int}(h:Hg es F){e:Int}(he:e∈es):∀ m,zd F m e∈es
 |0=>he
 |m+1=>h.mem _ (tq h he m)
theorem CC {es:au Int}{F:Int->Int}(h:Hg es F){a b:Int}(ha:a∈es)(hb:b∈es)(EN:a<=b):∀ m,zd F m a<=zd F m b
 |0=>EN
 |m+1=>h.mono _ (tq h ha m) _ (tq h hb m) (CC h ha hb EN m)
def qc {n:Int}{cs:au Int}{ts:au Tk}(S:gv n cs ts)(a:Int):Hg (fw n cs) (i7 (fw n cs) ts a):=by
 refine⟨λe he=>wO he,λe=>mP _ _ _ _,λa' ha b hb EN=>?_⟩;let ⟨i,hi,e1⟩:=aJ ha;let ⟨j,hj,e2⟩:=aJ hb;have g1:(fw n cs)[i]?=some a':=by rw[iD hi,e1]
 have g2:(fw n cs)[j]?=some b:=by rw[iD hj,e2]
 exact uy S i j _ _ (uW (hV S.n1 S.iI) g1 g2 EN) (l6 g1) (l6 g2)
def Ti {es:au Int}(hu:es.Pairwise (·<·)){x:Int}(hx:x∈es)(g:Int->Int):rowAt es (es.map g) x=g x:=by unfold rowAt;rw[mS,l8 hx];rfl
def K6 {es:au Int}{ts:au Tk}{a:Int}(hu:es.Pairwise (·<·)){g:Int->Int}(hg:∀ e∈es,g e∈es):lO es ts (es.map g) a=es.map λe=>max (i7 es ts a e) (g<|g e):=by
 apply cy;intro i;by_cases hi:i<es.length
 .have he:=iD hi;have hm:=bJ hi;rw[nO (l6 he) (by rw[mS,he];rfl:(es.map g)[i]?=some (g es[i])),mS,he,Ti hu (hg _ hm)];rfl
 .rw[List.getElem?_eq_none_iff.mpr (by rw[(Aq (⟨gP ..,λx hx=>by obtain⟨e,he,rfl⟩:=List.mem_map.mp hx;exact hg e he⟩:nu es (es.map g))).len];lia),List.getElem?_eq_none_iff.mpr (by rw[gP];lia)]
def PM {l:au Nat}{a b:Int}{c:Nat}(ha:0<=a)(hb:0<=b)(h:c∈mU l a b):∃ k:Nat,a<=k/\(k:Int)<b/\l[k]?=some c:=by
 obtain⟨i,rfl⟩:=cE ha;obtain⟨j,rfl⟩:=cE hb;rw[xK]at h;let ⟨t,ht,e⟩:=aJ h;have g:((l.drop i).take<|j - i)[t]?=some c:=by rw[iD ht,e]
 have ht:=aL ht<|List.length_take_le ..;rw[bI ht,cL]at g;exact⟨i+t,Int.ofNat_le.mpr<|bc _ _,by lia,g⟩
def E8 (n:Int)(cs:au Int):(fw n cs).getD (cs.length+1) 0=n:=by have hl:=fU n cs;have:=qG n cs;rw[hl]at this;have g:=getD_some (xs:=fw n cs) (i:=cs.length+1) (by lia);rw[show cs.length+2 - 1=cs.length+1 by lia,g]at this;exact aK this
def ND (l1 l2:au Nat)(p:Int):au Nat:=l1.take p.toNat++l2.drop p.toNat
def Bv (cs:au Int)(ts:au Tk):Nat->au Nat->Int->Prop
 |0,l,a=>(l,a)∈ts
 |r+1,l,a=>Bv cs ts r l a\/∃ l1 a1 l2 a2 p,Bv cs ts r l1 a1/\Bv cs ts r l2 a2/\p∈cs/\l=ND l1 l2 p/\a=max a1 a2+1
theorem Bv.up {cs:au Int}{ts:au Tk}{l:au Nat}{a:Int}{r:Nat}(h:Bv cs ts r l a):∀ k,Bv cs ts (r+k) l a
 |0=>h
 |k+1=>.inl (Bv.up h k)
def Bv.le {cs:au Int}{ts:au Tk}{l:au Nat}{a:Int}{r r':Nat}(h:Bv cs ts r l a)(hr:r<=r'):Bv cs ts r' l a:=by have:=h.up<|r' - r;rwa [show r+(r' - r)=r' by lia]at this
def tf {l1 l2:au Nat}{p:Int}{k:Nat}(h:p<=l1.length)(hk:(k:Int)<p):(ND l1 l2 p)[k]?=l1[k]?:=by unfold ND;rw[vd (by rw[bg];lia),List.getElem?_take,aE (by lia)]
def qi {l1 l2:au Nat}{p:Int}{k:Nat}(h0:0<=p)(h:p<=l1.length)(hk:p<=(k:Int)):(ND l1 l2 p)[k]?=l2[k]?:=by unfold ND;rw[qV (by rw[bg];lia),bg,cL];congr 1;lia
def O9 {l1 l2:au Nat}{p:Int}(h0:0<=p)(h1:p<=l1.length)(h:l1.length=l2.length):(ND l1 l2 p).length=l1.length:=by unfold ND;rw[lP,bg,bG];lia
def S9 {l1 l2:au Nat}{p:Int}(h1:OX l1)(h2:OX l2):OX (ND l1 l2 p):=λc hc=>by
 rcases List.mem_append.mp hc with q|q
 .exact h1 c (bo q)
 .exact h2 c (fh q)
theorem Bv.good {n:Int}{cs:au Int}{ts:au Tk}(S:gv n cs ts):∀ {r:Nat} {l:au Nat} {a:Int},Bv cs ts r l a->(l.length:Int)=n/\OX l/\0<=a/\a<=60+r
 |0,l,a,h=>by have:=S.takes.ok (l,a) h;exact⟨this.1,this.2.1,this.2.2.1,by lia⟩
 | r+1,l,a,h=>by
  rcases h with h|⟨l1,a1,l2,a2,p,h1,h2,hp,rfl,rfl⟩
  .have:=Bv.good S h;exact⟨this.1,this.2.1,this.2.2.1,by lia⟩
  .have g1:=Bv.good S h1;have g2:=Bv.good S h2;have Iq:=S.iI.Q4 p hp;exact⟨by rw[O9 (by lia) (by lia) (by lia)];exact g1.1,S9 g1.2.1 g2.2.1,by lia,by lia⟩
def Qm (l:au Nat)(e x:Int):Prop:=∀ k:Nat,e<=k->(k:Int)<x->l[k]?=some 111
def GG {es:au Int}{l:au Nat}{e x:Int}(ho:OX l)(h0:0<=e)(he:e<=l.length)(hx:x<=iS es l e):Qm l e x:=λk h1 h2=>by
 have ct:=sf ho (e:=e.toNat) (by lia);have:iS es l e<=max e (sh l e.toNat:Int):=by
  unfold iS;rcases jD (es.filter λx=>decide (x<=(sh l e.toNat:Int))) e with q|q
  .lia
  .have:=bR (List.mem_filter.mp q).2;lia
 exact ct.2.2.1 k (by lia) (by lia)
def Bf {es:au Int}{l:au Nat}{e x:Int}(ho:OX l)(h0:0<=e)(hex:e<=x)(hx:x<=l.length)(hm:x∈es)(h:Qm l e x):x<=iS es l e:=by refine zr ho h0 hx hex hm λz=>?_;let ⟨k,k1,k2,k3⟩:=PM h0 (by lia) z;rw[h k k1 k2]at k3;cases k3
def RF (es:au Int)(ts:au Tk):Nat->Int->Int
 |0=>i7 es ts 0
 |a+1=>λe=>max (i7 es ts ((a:Int)+1) e) (RF es ts a<|RF es ts a e)
theorem mh {n:Int}{cs:au Int}{ts:au Tk}(S:gv n cs ts):∀ a,Hg (fw n cs) (RF (fw n cs) ts a)
 |0=>qc S 0
 | a+1=>by
  have h:=mh S a;have g:=qc S<|(a:Int)+1;refine⟨λe he=>max_mem (g.mem e he)<|h.mem _<|h.mem e he,λe=>?_,λx hx y hy Zo=>?_⟩
  .have:=g.ge e;show e<=max _ _;lia
  .have g1:=g.mono x hx y hy Zo;have g2:=h.mono _ (h.mem x hx) _ (h.mem y hy)<|h.mono x hx y hy Zo;show max _ _<=max _ _;lia
theorem FP {n:Int}{cs:au Int}{ts:au Tk}(S:gv n cs ts):∀ a,gh (fw n cs) ts a=(fw n cs).map (RF (fw n cs) ts a)
 |0=>rfl
 | a+1=>by show lO (fw n cs) ts (gh (fw n cs) ts a) _=_;rw[FP S a,K6 (hV S.n1 S.iI) (mh S a).mem];rfl
def Xp {n:Int}{cs:au Int}{ts:au Tk}(S:gv n cs ts)(a:Nat)(e:Int):RF (fw n cs) ts a e<=RF (fw n cs) ts (a+1) e:=by have:=(mh S a).ge<|RF (fw n cs) ts a e;show _<=max _ _;lia
def Ul {n:Int}{cs:au Int}{ts:au Tk}(a:Nat)(e:Int):i7 (fw n cs) ts a e<=RF (fw n cs) ts a e:=by
 cases a with
 |zero=>exact bw _
 |succ a=>show i7 (fw n cs) ts (((a+1:Nat):Int)) e<=max (i7 (fw n cs) ts ((a:Int)+1) e) _;rw[show((a+1:Nat):Int)=(a:Int)+1 by lia];lia
theorem sW {n:Int}{cs:au Int}{ts:au Tk}(S:gv n cs ts):∀ {r:Nat} {l:au Nat} {b:Int} {a:Nat},Bv cs ts r l b->b<=a->∀ e x,e∈fw n cs->x∈fw n cs->e<=x->Qm l e x->x<=RF (fw n cs) ts a e
 | 0,l,b,a,h,hb,e,x,he,hx,hex,hc=>by have ok:=S.takes.ok (l,b) h;have Q9:=hX S.n1 S.iI he;have hx2:=hX S.n1 S.iI hx;have g1:=Bf ok.2.1 Q9.1 hex (by have:=ok.1;simp at this;lia) hx hc;have g2:=l7 (es:=fw n cs) (e:=e) h hb;have g3:=Ul (n:=n) (cs:=cs) (ts:=ts) a e;exact bu g1 (bu g2 g3)
 | r+1,l,b,a,h,hb,e,x,he,hx,hex,hc=>by
  rcases h with h|⟨l1,a1,l2,a2,p,h1,h2,hp,rfl,rfl⟩
  .exact sW S h hb e x he hx hex hc
  .have g1:=Bv.good S h1;have g2:=Bv.good S h2;have Iq:=S.iI.Q4 p hp;cases a with
   |zero=>lia
   | succ a =>
    have hs:=mh S a;have pm:p∈fw n cs:=by unfold fw;simp[hp]
    have up:=Xp S a e;have i1:=sW S (a:=a) h1 (by lia);have i2:=sW S (a:=a) h2 (by lia);by_cases q1:x<=p
    .have:=i1 e x he hx hex λk k1 k2=>by rw[<- tf (l2:=l2) (p:=p) (by lia) (by lia)];exact hc k k1 k2
     lia
    .by_cases q2:p<=e
     .have:=i2 e x he hx hex λk k1 k2=>by rw[<- qi (l1:=l1) (p:=p) (by lia) (by lia) (by lia)];exact hc k k1 k2
      lia
     .have j1:=i1 e p he pm (by lia) λk k1 k2=>by rw[<- tf (l2:=l2) (p:=p) (by lia) (by lia)];exact hc k k1 (by lia)
      have j2:=i2 p x pm hx (by lia) λk k1 k2=>by rw[<- qi (l1:=l1) (p:=p) (by lia) (by lia) (by lia)];exact hc k (by lia) k2
      have j3:=hs.mono p pm _ (hs.mem e he) j1
      show x<=max _ _
      lia
def PQ {l:au Nat}{n:Int}(hl:(l.length:Int)=n)(h:Qm l 0 n):l=List.replicate n.toNat 111:=by
 apply cy;intro k;by_cases q:k<l.length
 .rw[h k (by lia) (by lia),cU,aE (by lia)]
 .rw[List.getElem?_eq_none_iff.mpr (by lia),List.getElem?_eq_none_iff.mpr (by rw[a9];lia)]
def Qd (n e x:Int)(h:x<=n)(h0:0<=e):Qm (List.replicate n.toNat 111) e x:=λk k1 k2=>by rw[cU,aE (by lia)]
def A8 (n:Int)(cs:au Int):(fw n cs)[0]?=some 0:=rfl
def jC {es:au Int}{ts:au Tk}{a:Int}{i:Nat}{e:Int}(h:es[i]?=some e):(i0 es ts a).getD i 0=i7 es ts a e:=by rw[aA,l6 h];rfl
def getD_at {es:au Int}{i:Nat}{e:Int}(h:es[i]?=some e):es.getD i 0=e:=by rw[aA,h];rfl
def rW (n:Int)(cs:au Int):(fw n cs)[cs.length+1]?=some n:=by have:=qG n cs;rwa [fU]at this
def OH {es:au Int}{ts:au Tk}{a a' e:Int}(h:a<=a'):i7 es ts a e<=i7 es ts a' e:=by
 rw[jO es ts a];rcases jD ((ts.filter λt=>decide (t.2<=a)).map λt=>iS es t.1 e) e with q|q
 .rw[q];exact mP _ _ _ _
 .obtain⟨t,ht,et⟩:=List.mem_map.mp q;obtain⟨t1,t2⟩:=List.mem_filter.mp ht;rw[<- et];exact l7 t1 (bu (bR t2) h)
end L2
namespace L2
open PySem PySem.Spec PyProof.Rows PySem.SeqAt
end L2
namespace L2
open PySem PySem.Spec PyProof.Rows
def Fs (ts x8:au Tk):Prop:=∀ t∈ts,∃ t'∈x8,t'.2=t.2/\∀ k:Nat,t.1[k]?=some 111->t'.1[k]?=some 111
def Fs.refl (ts:au Tk):Fs ts ts:=λt ht=>⟨t,ht,rfl,λ_ h=>h⟩
structure More (n:Int)(cs:List Int)(ts:List Tk)(qX:List Int)(x8:List Tk):Prop where
 S:gv n cs ts
 S':gv n qX x8
 sub:∀ c∈cs,c∈qX
 good:Fs ts x8
theorem More.refl {n:Int}{cs:au Int}{ts:au Tk}(S:gv n cs ts):More n cs ts cs ts:=⟨S,S,λ_ h=>h,.refl ts⟩
def More.ends {n:Int}{cs qX:au Int}{ts x8:au Tk}(h:More n cs ts qX x8){e:Int}(he:e∈fw n cs):e∈fw n qX:=by
 rcases List.mem_cons.mp he with q|q
 .exact List.mem_cons.mpr (.inl q)
 .rcases List.mem_append.mp q with q | q
  .exact ny _ (List.mem_append.mpr<|.inl<|h.sub e q)
  .exact ny _ (List.mem_append.mpr<|.inr q)
def More.own {n:Int}{cs qX:au Int}{ts x8:au Tk}(h:More n cs ts qX x8){a a' e:Int}(ha:a<=a')(he:e∈fw n cs):i7 (fw n cs) ts a e<=i7 (fw n qX) x8 a' e:=by
 rw[jO (fw n cs)];rcases jD ((ts.filter λt=>decide (t.2<=a)).map λt=>iS (fw n cs) t.1 e) e with q|q
 .rw[q];exact mP _ _ _ _
 .let ⟨t,ht,et⟩:=List.mem_map.mp q;obtain⟨t1,t2⟩:=List.mem_filter.mp ht;rw[<- et];obtain⟨t',m',e2,hc⟩:=h.good t t1;have ok:=h.S.takes.ok t t1;have ok':=h.S'.takes.ok t' m';have Q9:=hX h.S.n1 h.S.iI he;have fm:=xo (l:=t.1) he;have f2:=(hX h.S.n1 h.S.iI fm).2;have c:=GG (es:=fw n cs) ok.2.1 Q9.1 (by lia)<|bw _;exact bu (Bf ok'.2.1 Q9.1 (AQ _ _ _) (by lia) (h.ends fm) λk k1 k2=>hc k<|c k k1 k2) (l7 m' (by rw[e2];exact bu (bR t2) ha))
theorem More.rf {n:Int}{cs qX:au Int}{ts x8:au Tk}(h:More n cs ts qX x8):∀(a:Nat) {e:Int},e∈fw n cs->RF (fw n cs) ts a e<=RF (fw n qX) x8 a e
 |0,e,he=>h.own (bw _) he
 | a+1,e,he=>by have g:=mh h.S a;have g':=mh h.S' a;have i1:=h.rf a he;have i2:=h.rf a<|g.mem e he;have i3:=g'.mono _ (h.ends<|g.mem e he) _ (g'.mem e<|h.ends he) i1;have i4:=h.own (a:=(a:Int)+1) (bw _) he;show max _ _<=max _ _;lia
def QK {n:Int}{cs:au Int}{ts:au Tk}(S:gv n cs ts)(a:Nat){i:Nat}{e:Int}(he:(fw n cs)[i]?=some e):(gh (fw n cs) ts a)[i]?=some (RF (fw n cs) ts a e):=by rw[FP S,mS,he];rfl
def More.least {n:Int}{cs qX:au Int}{ts x8:au Tk}(h:More n cs ts qX x8){a:Nat}(hl:iM (fw n cs) ts n a):RF (fw n qX) x8 a 0=n:=by have e:=hl.at_;rw[QK h.S a (A8 n cs)]at e;have:=h.rf a<|oF n cs;have:=(hX h.S'.n1 h.S'.iI<|(mh h.S' a).mem 0<|oF n qX).2;lia
def least_le {n:Int}{cs:au Int}{ts:au Tk}(S:gv n cs ts){a b:Nat}(h:RF (fw n cs) ts a 0=n)(hl:iM (fw n cs) ts n b):b<=a:=by
 by_cases q:b<=a
 .exact q
 .exact absurd (by rw[QK S a (A8 n cs),h]) (hl.low a<|by lia)
def Cr {x y:Int}(hx:0<=x)(hy:0<=y)(h:0<x*y):0<x/\0<y:=by
 refine⟨?_,?_⟩
 .rcases Int.lt_or_le 0 x with q | q
  .exact q
  .rw[show x=0 by lia,Int.zero_mul]at h;exact absurd h (by decide)
 .rcases Int.lt_or_le 0 y with q | q
  .exact q
  .rw[show y=0 by lia,Int.mul_zero]at h;exact absurd h (by decide)
def yO {es own:au Int}{T:Nat->Nat->Int}{i j:Nat}{v:Int}(hT:∀ i j,0<=T i j)(pE:i<j)(hv:v∈pJ T i j):0<lB es own T i j/\lB es own T i j<=v:=by
 have pos:∀ w∈pJ T i j,2<=w:=λw hw=>by obtain⟨k,_,_,h3,rfl⟩:=lI.mp hw;have:=Cr (hT i k) (hT k j) h3;lia
 have m:=qE (ns:=pJ T i j) λz=>by rw[z]at hv;cases hv
 have m1:=pos _ m.1;have m2:=m.2 v hv;unfold lB;by_cases q:es.getD j 0<=own.getD i 0
 .lia
 .lia
theorem More.tab {n:Int}{cs qX:au Int}{ts x8:au Tk}(h:More n cs ts qX x8):∀(a a':Nat),a<=a'->∀(i j i' j':Nat) (x y:Int),(fw n cs)[i]?=some x->(fw n cs)[j]?=some y->(fw n qX)[i']?=some x->(fw n qX)[j']?=some y ->
 0<mL (fw n cs) ts a i j->0<mL (fw n qX) x8 a' i' j'/\mL (fw n qX) x8 a' i' j'<=mL (fw n cs) ts a i j
 |0,_,_,i,j,i',j',x,y,_,_,_,_,hp=>absurd hp (Int.lt_irrefl _)
 |a+1,0,ha,_,_,_,_,_,_,_,_,_,_,_=>absurd ha (by lia)
 | a+1,a'+1,ha,i,j,i',j',x,y,hi,hj,Gs,Gr,hp=>by
  have up:=hV h.S.n1 h.S.iI;have Yx:=hV h.S'.n1 h.S'.iI;by_cases pE:j<=i
  .exact absurd (show 0<lB _ _ _ i j from hp) (by unfold lB;rw[aE pE];decide)
  have xy:=kD up hi hj (by lia);have ZT:i'<j':=by
   by_cases q:i'<j'
   .exact q
   .have:=om Yx j' i' _ _ (by lia) Gr Gs;lia
  have bd:=zU (fw n cs) ts a;have bd':=zU (fw n qX) x8 a';by_cases q:y<=i7 (fw n cs) ts a x
  .have q':=bu q (h.own (a':=(a':Int)) (by lia)<|kq hi);have e':mL (fw n qX) x8 (a'+1) i' j'=1:=by show lB _ _ _ i' j'=1;unfold lB;rw[aF (by lia),aE (by rw[getD_at Gr,jC Gs];exact q')]
   rw[e'];exact⟨by decide,hp⟩
  .have e:mL (fw n cs) ts (a+1) i j=y6 (pJ (mL (fw n cs) ts a) i j):=by show lB _ _ _ i j=_;unfold lB;rw[aF pE,aF (by rw[getD_at hj,jC hi];exact q)]
   rw[e]at hp ⊢
   have m:=qE (ns:=pJ (mL (fw n cs) ts a) i j) λz=>by rw[z]at hp;exact absurd hp (by decide)
   obtain⟨k,k1,k2,k3,ek⟩:=lI.mp m.1
   rw[ek]
   have kp:=Cr (bd i k).1 (bd k j).1 k3
   have hk:=getD_some (dz k2 (kB hj).1)
   have mk:=h.ends (kq hk)
   have Gq:=l8 mk
   have r1:=h.tab a a' (by lia) i k i' _ _ _ hi hk Gs Gq kp.1
   have r2:=h.tab a a' (by lia) k j _ j' _ _ hk hj Gq Gr kp.2
   have w1:=kD up hi hk k1
   have w2:=kD up hk hj k2
   have c1:i'<(fw n qX).idxOf ((fw n cs).getD k 0):=by
    by_cases q:i'<(fw n qX).idxOf ((fw n cs).getD k 0)
    .exact q
    .have:=om Yx _ i' _ _ (by lia) Gq Gs;lia
   have c2:(fw n qX).idxOf ((fw n cs).getD k 0)<j':=by
    by_cases q:(fw n qX).idxOf ((fw n cs).getD k 0)<j'
    .exact q
    .have:=om Yx j' _ _ _ (by lia) Gr Gq;lia
   have st:=yO (es:=fw n qX) (own:=i0 (fw n qX) x8 a') (λi j=>(bd' i j).1) ZT (lI.mpr ⟨_,c1,c2,Int.mul_pos r1.1 r2.1,rfl⟩)
   exact⟨st.1,bu st.2<|Int.add_le_add r1.2 r2.2⟩
def Ht {n:Int}{cs:au Int}{ts:au Tk}(S:gv n cs ts):∀(a i j:Nat) (x y:Int),(fw n cs)[i]?=some x->(fw n cs)[j]?=some y->i<j->y<=RF (fw n cs) ts a x->0<mL (fw n cs) ts (a+1) i j:=by
 have own:∀(a i j:Nat) (x y:Int),(fw n cs)[i]?=some x->(fw n cs)[j]?=some y->i<j->y<=i7 (fw n cs) ts a x->0<mL (fw n cs) ts (a+1) i j:=λa i j x y hi hj pE hy=>by show 0<lB _ _ _ i j;unfold lB;rw[aF (by lia),aE (by rw[getD_at hj,jC hi];exact hy)];decide
 intro a;induction a with
 |zero=>exact own 0
 | succ a ih =>
  intro i j x y hi hj pE hy;by_cases q:y<=i7 (fw n cs) ts ((a+1:Nat):Int) x
  .exact own (a+1) i j x y hi hj pE q
  have hy:y<=max (i7 (fw n cs) ts ((a:Int)+1) x) (RF (fw n cs) ts a<|RF (fw n cs) ts a x):=hy;have Jk:y<=RF (fw n cs) ts a (RF (fw n cs) ts a x):=by
   have:((a+1:Nat):Int)=(a:Int)+1:=by lia
   rw[this]at q;lia
  have up:=hV S.n1 S.iI;have mm:=(mh S a).mem x<|kq hi;have ge:=(mh S a).ge x;obtain⟨k,hk,ek⟩:=aJ mm;have gk:(fw n cs)[k]?=some (RF (fw n cs) ts a x):=by rw[iD hk,ek]
  by_cases q1:y<=RF (fw n cs) ts a x
  .exact((More.refl S).tab (a+1) (a+2) (by lia) i j i j x y hi hj hi hj<|ih i j x y hi hj pE q1).1
  have kj:k<j:=by
   by_cases z:k<j
   .exact z
   .exact absurd (om up j k _ _ (by lia) hj gk) q1
  have ik:=uW up hi gk ge;by_cases z:i=k
  .subst z;rw[hi]at gk;have gk:=aK gk;rw[<- gk]at Jk;exact absurd Jk q1
  have p1:=ih i k x _ hi gk (by lia)<|bw _;have p2:=ih k j _ y gk hj kj Jk;exact(yO (es:=fw n cs) (λi j=>(zU (fw n cs) ts (a+1) i j).1) pE<|lI.mpr ⟨k,by lia,kj,Int.mul_pos p1 p2,rfl⟩).1
def yK {n:Int}{cs:au Int}{ts:au Tk}(S:gv n cs ts){a:Nat}(hl:iM (fw n cs) ts n a):0<mL (fw n cs) ts (a+1) 0 (cs.length+1):=by refine Ht S a 0 (cs.length+1) 0 n (A8 n cs) (rW n cs) (by lia) ?_;rw[(More.refl S).least hl];exact bw _
def goN (f:Nat->Int)(q:Int):Nat->Nat
 |0=>0
 |L+1=>if f L<=q then L else goN f q L
theorem EO {f:Nat->Int}{q:Int}:∀ {L b:Nat},b<L->f b<=q->(∀ x,b<x->x<L->¬ f x<=q)->goN f q L=b
 |0,b,h,_,_=>absurd h (Nat.not_lt_zero _)
 | L+1,b,h,h1,h2=>by
  unfold goN;by_cases e:b=L
  .subst e;rw[aE h1]
  .rw[aF (h2 L (by lia)<|bD _)];exact EO (by lia) h1 λx x1 x2=>h2 x x1 (by lia)
theorem AJ {f:Nat->Int}{q:Int}:∀ {L:Nat} {b:Nat},b<L->f b<=q->b<=goN f q L/\goN f q L<L/\f (goN f q L)<=q
 |0,b,h,_=>absurd h (Nat.not_lt_zero _)
 | L+1,b,h,h1=>by
  unfold goN;by_cases e:f L<=q
  .rw[aE e];exact⟨by lia,bD _,e⟩
  .rw[aF e];have hb:b<L:=by
    rcases cg b L with z|z
    .exact z
    .have:b=L:=by lia
     subst this;exact absurd h1 e
   have:=AJ hb h1;exact⟨this.1,by lia,this.2.2⟩
structure TabOk (L:Nat)(P:Nat->Nat->Int):Prop where
 nn:∀ i j,i<L->j<L->0<=P i j
 le:∀ i j,i<L->j<L->P i j<=(L:Int) - 1
 zero:∀ i j,i<L->j<L->j<=i->P i j=0
 mj:∀ i j j',i<L->j<=j'->j'<L->P i j<=P i j'
 mi:∀ i i' j,i<=i'->i'<L->j<L->P i' j<=P i j
 bd:∀ i j,i<j->j<L->P i j<(L:Int) - 1->P i j<=(j:Int) - i - 1
def kH {n:Int}{cs:au Int}{ts:au Tk}(S:gv n cs ts)(a:Nat):Du (fw n cs).length (mL (fw n cs) ts a) (fQ (fw n cs) ts a):=BX (λa i j hi h=>KN (hV S.n1 S.iI) i j hi h) a
def jX {L:Nat}{T P:Nat->Nat->Int}(h:Du L T P){i j:Nat}(hi:i<L)(hj:j<L):0<=P i j/\P i j<=(L:Int) - 1/\(i<j->P i j<(L:Int) - 1->P i j<=(j:Int) - i - 1):=by
 obtain⟨h1,h2⟩:=h i j hi hj;rcases cg i j with q|q
 .rcases h2 q with⟨_,e⟩|⟨e1,e2,e⟩<;> lia
 .have:=h1 q;lia
def um {L:Nat}{es own:au Int}{P:Nat->Nat->Int}{i j k:Nat}(h1:i<k)(h2:k<j)(h:0<=P i k+P k j+1):iE L es own P i j<=P i k+P k j+1:=by
 unfold iE;by_cases q:es.getD j 0<=own.getD i 0
 .rw[aE q];exact h
 .rw[aF q];exact(jQ (mJ P i j)<|(L:Int) - 1).2.2 _ (kL.mpr ⟨k,h1,h2,rfl⟩)
def p5 {L:Nat}{es own:au Int}{P:Nat->Nat->Int}{i j:Nat}(q:¬ es.getD j 0<=own.getD i 0):iE L es own P i j=(L:Int) - 1\/∃ k,i<k/\k<j/\iE L es own P i j=P i k+P k j+1:=by
 unfold iE;rw[aF q];rcases(jQ (mJ P i j)<|(L:Int) - 1).1 with e|e
 .exact .inl e
 .obtain⟨k,h1,h2,e'⟩:=kL.mp e;exact .inr ⟨k,h1,h2,e'⟩
def FC {n:Int}{cs:au Int}{ts:au Tk}(S:gv n cs ts):∀(a:Nat) {i j:Nat},i<(fw n cs).length->j<(fw n cs).length->fQ (fw n cs) ts (a+1) i j<=fQ (fw n cs) ts a i j:=by
 intro a;induction a with
 | zero =>
  intro i j hi hj;show _<=jx (fw n cs).length i j;unfold jx;by_cases q:j<=i
  .rw[aE q,(kH S 1 i j hi hj).1 q];exact bw _
  .rw[aF q];exact(jX (kH S 1) hi hj).2.1
 | succ a ih =>
  intro i j hi hj;have l:=jX (kH S<|a+2) hi hj;by_cases q:(fw n cs).getD j 0<=(i0 (fw n cs) ts a).getD i 0
  .have g:=getD_some hi;have e:fQ (fw n cs) ts (a+2) i j=0:=by show iE _ _ _ _ i j=0;unfold iE;rw[jC g]at q;rw[aE (by rw[jC g];exact bu q<|OH<|by lia)]
   rw[e];exact(jX (kH S<|a+1) hi hj).1
  .rcases p5 (L:=(fw n cs).length) (P:=fQ (fw n cs) ts a) q with e | ⟨k,k1,k2,e⟩
   .rw[show fQ (fw n cs) ts (a+1) i j=_ from e];exact l.2.1
   .rw[show fQ (fw n cs) ts (a+1) i j=_ from e];have hk:k<(fw n cs).length:=dz k2 hj;have n1:=(jX (kH S<|a+1) hi hk).1;have n2:=(jX (kH S<|a+1) hk hj).1;have t:fQ (fw n cs) ts (a+2) i j<=_:=um (es:=fw n cs) (own:=i0 (fw n cs) ts ((a+1:Nat):Int)) k1 k2 (Int.add_nonneg (Int.add_nonneg n1 n2)<|by decide);exact bu t (Int.add_le_add_right (Int.add_le_add (ih hi hk)<|ih hk hj) 1)
def uj {n:Int}{cs:au Int}{ts:au Tk}(S:gv n cs ts):∀ a,TabOk (fw n cs).length (fQ (fw n cs) ts a):=by
 have fB:∀ a,(∀ i j j',i<(fw n cs).length->j<=j'->j'<(fw n cs).length->fQ (fw n cs) ts a i j<=fQ (fw n cs) ts a i j')->(∀ i i' j,i<=i'->i'<(fw n cs).length->j<(fw n cs).length->fQ (fw n cs) ts a i' j<=fQ (fw n cs) ts a i j)->TabOk (fw n cs).length (fQ (fw n cs) ts a):=λa mj mi =>⟨λi j hi hj=>(jX (kH S a) hi hj).1,λi j hi hj=>(jX (kH S a) hi hj).2.1,λi j hi hj q=>(kH S a i j hi hj).1 q,mj,mi,λi j q hj=>(jX (kH S a) (by lia) hj).2.2 q⟩
 intro a;induction a with
 | zero =>
  refine fB 0 (λi j j' hi h hj=>?_) (λi i' j h hi hj=>?_)
  .show jx _ i j<=jx _ i j';unfold jx;by_cases q:j<=i
   .rw[aE q];by_cases q':j'<=i
    .rw[aE q'];exact bw _
    .rw[aF q'];lia
   .rw[aF q,aF (by lia)];exact bw _
  .show jx _ i' j<=jx _ i j;unfold jx;by_cases q:j<=i
   .rw[aE q,aE (by lia)];exact bw _
   .rw[aF q];by_cases q':j<=i'
    .rw[aE q'];lia
    .rw[aF q'];exact bw _
 | succ a ih =>
  have up:=hV S.n1 S.iI;have X4:∀ {i j:Nat},i<(fw n cs).length->j<(fw n cs).length->0<=fQ (fw n cs) ts (a+1) i j/\fQ (fw n cs) ts (a+1) i j<=((fw n cs).length:Int) - 1:=λhi hj=>by have:=jX (kH S<|a+1) hi hj;exact⟨this.1,this.2.1⟩
  have ag:∀ {i j:Nat},i<(fw n cs).length->j<(fw n cs).length->fQ (fw n cs) ts (a+1) i j<=fQ (fw n cs) ts a i j:=λhi hj=>FC S a hi hj;have two:∀ {i j k:Nat},i<k->k<j->j<(fw n cs).length->fQ (fw n cs) ts (a+1) i j<=fQ (fw n cs) ts a i k+fQ (fw n cs) ts a k j+1:=λ{i j k} h1 h2 hj=>by have:=ih.nn i k (by lia) (by lia);have:=ih.nn k j (by lia) hj;exact um h1 h2 (by lia)
  refine fB (a+1) (λi j j' hi h hj=>?_) (λi i' j h hi hj=>?_)
  .have l:=X4 hi (show j<(fw n cs).length by lia);by_cases q:(fw n cs).getD j' 0<=(i0 (fw n cs) ts a).getD i 0
   .have e:fQ (fw n cs) ts (a+1) i j=0:=by show iE _ _ _ _ i j=0;unfold iE;rw[aE (bu (vG up hj h) q)]
    rw[e];exact(X4 hi hj).1
   .rcases p5 (L:=(fw n cs).length) (P:=fQ (fw n cs) ts a) q with e | ⟨k,k1,k2,e⟩
    .rw[show fQ (fw n cs) ts (a+1) i j'=_ from e];exact l.2
    .rw[show fQ (fw n cs) ts (a+1) i j'=_ from e];have n1:=ih.nn k j' (by lia) hj;rcases cg k j with z|z
     .have:=two k1 z (show j<_ by lia);have:=ih.mj k j j' (by lia) h hj;lia
     .have:=ag hi (show j<(fw n cs).length by lia);have:=ih.mj i j k hi z (by lia);lia
  .have l:=X4 hi hj;by_cases q:(fw n cs).getD j 0<=(i0 (fw n cs) ts a).getD i 0
   .have e:fQ (fw n cs) ts (a+1) i' j=0:=by show iE _ _ _ _ i' j=0;unfold iE;have g1:=getD_some (show i<(fw n cs).length by lia);have g2:=getD_some hi;rw[jC g1]at q;rw[aE (by rw[jC g2];exact bu q<|(qc S a).mono _ (kq g1) _ (kq g2)<|vG up hi h)]
    rw[e];exact(X4 (show i<_ by lia) hj).1
   .rcases p5 (L:=(fw n cs).length) (P:=fQ (fw n cs) ts a) q with e | ⟨k,k1,k2,e⟩
    .rw[show fQ (fw n cs) ts (a+1) i j=_ from e];exact l.2
    .rw[show fQ (fw n cs) ts (a+1) i j=_ from e];have n1:=ih.nn i k (by lia) (by lia);rcases cg i' k with z|z
     .have:=two z k2 hj;have:=ih.mi i i' k h hi (by lia);lia
     .have:=ag hi hj;have:=ih.mi k i' j z hi hj;lia
def NS {n:Int}{cs:au Int}{ts:au Tk}(S:gv n cs ts)(a:Nat){i k l:Nat}(hi:i<(fw n cs).length)(hk:k<(fw n cs).length)(hl:l<(fw n cs).length)(h1:fQ (fw n cs) ts a i k<((fw n cs).length:Int) - 1)(h2:fQ (fw n cs) ts a k l<((fw n cs).length:Int) - 1):
 fQ (fw n cs) ts (a+1) i l<=fQ (fw n cs) ts a i k+fQ (fw n cs) ts a k l+1/\fQ (fw n cs) ts (a+1) i l<((fw n cs).length:Int) - 1:=by
 have o:=uj S a;have a1:=FC S a hi hl;have n1:=o.nn i k hi hk;have n2:=o.nn k l hk hl;rcases cg i k with z|z
 .rcases cg k l with w | w
  .have b1:=o.bd i k z hk h1;have b2:=o.bd k l w hl h2;have:fQ (fw n cs) ts (a+1) i l<=_:=um z w (by lia);lia
  .have:=o.mj i l k hi w hk;lia
 .have:=o.mi k i l z hi hl;lia
def vK (L t:Nat):Int:=min (t:Int) ((L:Int) - 2)
def Ec {L:Nat}(h:2<=L)(t:Nat):0<=vK L t:=Int.le_min.mpr ⟨Int.natCast_nonneg _,by lia⟩
def Ef (L t:Nat):vK L t<=t:=Int.min_le_left _ _
def Ed (L t:Nat):vK L t<(L:Int) - 1:=Int.lt_of_le_of_lt (Int.min_le_right _ _) (by lia)
def Ll {L t:Nat}{x:Int}(h:x<=t)(hl:x<(L:Int) - 1):x<=vK L t:=Int.le_min.mpr ⟨h,by lia⟩
def Km {L t u:Nat}(h:t<=u):vK L t<=vK L u:=Ll (bu (Ef L t)<|Int.ofNat_le.mpr h) (Ed L t)
def Oo {L t u:Nat}{x y z:Int}(h:u<t)(hy:y<=vK L u)(hz:z<=vK L (t - u - 1))(hx:x<=y+z+1)(hl:x<(L:Int) - 1):x<=vK L t:=by have h1:=bu hy<|Ef L u;have h2:=bu hz<|Ef L<|t - u - 1;clear hy hz;exact Ll (by lia) hl
def rQ (es:au Int)(P:Nat->Nat->Int)(q:Int):au Int:=(List.range es.length).map λi=>es.getD (goN (P i) q es.length) 0
def uk (es:au Int)(P:Nat->Nat->Int)(m:Nat):au (au Int):=(List.range m).map λt=>rQ es P (vK es.length t)
def Cc (es:au Int)(ts:au Tk)(a m:Nat):au (au<|au Int):=(List.range<|a+1).map λk=>uk es (fQ es ts<|k+1) m
def map_range {α:Type}{f:Nat->α}{m i:Nat}{x:α}(h:((List.range m).map f)[i]?=some x):i<m/\x=f i:=by have hi:=(kB h).1;rw[gP,pF]at hi;rw[mS,aY hi]at h;exact⟨hi,(aK h).symm⟩
def o6 {L:Nat}{es:au Int}{P:Nat->Nat->Int}{q:Int}(hL:L=es.length)(o:TabOk L P)(hq:0<=q){i:Nat}{x:Int}(h:(rQ es P q)[i]?=some x):∃ b,i<L/\b<L/\es[b]?=some x/\P i b<=q/\∀ c,c<L->P i c<=q->c<=b:=by subst hL;obtain⟨hi,rfl⟩:=map_range h;have g:=AJ (f:=P i) (q:=q) hi (by rw[o.zero i i hi hi (aw _)];exact hq);exact⟨_,hi,g.2.1,getD_some g.2.1,g.2.2,λc hc h=>(AJ hc h).1⟩
def HE {n:Int}{cs:au Int}{ts:au Tk}(S:gv n cs ts)(a:Nat){q:Int}(hq:0<=q):qM (fw n cs) ts a (rQ (fw n cs) (fQ (fw n cs) ts<|a+1) q):=by
 have o:=uj S<|a+1;have up:=hV S.n1 S.iI;have at_:=λi x h=>o6 (i:=i) (x:=x) rfl o hq h;refine⟨⟨by unfold rQ;rw[gP,pF],λx hx=>?_⟩,λi j x y pE hx hy=>?_,λi x e hx he=>?_,λi x e hx he t ht Zw=>?_⟩
 .obtain⟨i,hi,rfl⟩:=aJ hx;obtain⟨b,_,_,eb,_⟩:=at_ i _<|iD hi;exact kq eb
 .obtain⟨b,hi,hb,eb,pb,_⟩:=at_ i x hx;obtain⟨c,hj,hc,ec,_,mc⟩:=at_ j y hy;have:=o.mi i j b pE hj hb;exact om up b c _ _ (mc b hb<|by lia) eb ec
 .obtain⟨b,hi,hb,eb,_,mb⟩:=at_ i x hx;exact om up i b _ _ (mb i hi (by rw[o.zero i i hi hi (aw _)];exact hq)) he eb
 .obtain⟨b,hi,hb,eb,_,mb⟩:=at_ i x hx;refine bu (l7 ht Zw) ?_;obtain⟨k,hk,ek⟩:=aJ<|wO (ts:=ts) (a:=a)<|kq he;have gk:(fw n cs)[k]?=some (i7 (fw n cs) ts a e):=by rw[iD hk,ek]
  have z:fQ (fw n cs) ts (a+1) i k=0:=by show iE _ _ _ _ i k=0;unfold iE;rw[aE (by rw[jC he,getD_at gk];exact bw _)]
  exact om up k b _ _ (mb k hk (by rw[z];exact hq)) gk eb
def LZ {n:Int}{cs:au Int}{ts:au Tk}(S:gv n cs ts){a m:Nat}(hf:m=0\/mL (fw n cs) ts (a+1) 0 (cs.length+1)=0\/(m:Int)<mL (fw n cs) ts (a+1) 0 (cs.length+1)):Hl (fw n cs) ts n a m (Cc (fw n cs) ts a m):=by
 have up:=hV S.n1 S.iI;have hL:=fU n cs;have q0:∀ t,0<=vK (fw n cs).length t:=Ec (by lia);refine⟨by unfold Cc;rw[gP,pF];lia,λk tb hk=>?_,λk tb hk=>?_,?_⟩
 .obtain⟨_,rfl⟩:=map_range hk;unfold uk;rw[gP,pF]
 .obtain⟨hka,rfl⟩:=map_range hk;have o:=uj S<|k+1;refine⟨λt r ht=>?_,λt r q h1 h2=>?_,λk0 t u r f s ht hu hfu hsu=>?_⟩
  .obtain⟨_,rfl⟩:=map_range ht;exact HE S k (q0 t)
  .obtain⟨_,rfl⟩:=map_range h1;obtain⟨_,rfl⟩:=map_range h2;intro i x y hx hy;obtain⟨b,hi,hb,eb,_,mb⟩:=o6 rfl o (q0 _) hx;obtain⟨c,_,hc,ec,pc,_⟩:=o6 rfl o (q0 _) hy;exact om up c b _ _ (mb c hc<|bu pc<|Km<|dt _) ec eb
  .obtain⟨k',rfl⟩:∃ k',k=k'+1:=⟨k - 1,by lia⟩;have el:lastOf (Cc (fw n cs) ts a m) (k'+1)=uk (fw n cs) (fQ (fw n cs) ts<|k'+1) m:=by show((Cc (fw n cs) ts a m)[k']?).getD []=_;unfold Cc;rw[mS,aY (by lia)];rfl
   rw[el]at hfu hsu;obtain⟨_,rfl⟩:=map_range ht;obtain⟨_,rfl⟩:=map_range hfu;obtain⟨_,rfl⟩:=map_range hsu;have o':=uj S<|k'+1;intro i x y hx hy;obtain⟨b,hi,hb,eb,_,mb⟩:=o6 rfl o (q0 _) hx;obtain⟨c,_,hc,ec,pc,_⟩:=o6 rfl o' (q0 _) hy;obtain⟨z,hz⟩:∃ z,(rQ (fw n cs) (fQ (fw n cs) ts<|k'+1)<|vK (fw n cs).length<|t - u - 1)[c]?=some z:=⟨_,iD (by unfold rQ;rw[gP,pF];exact hc)⟩;obtain⟨l,_,hl,el',pl,_⟩:=o6 rfl o' (q0 _) hz;have e2:rowAt (fw n cs) (rQ (fw n cs) (fQ (fw n cs) ts<|k'+1)<|vK (fw n cs).length<|t - u - 1) y=z:=by unfold rowAt;rw[LB up ec,hz];rfl
   rw[e2];have tw:=NS S (k'+1) hi hc hl (Int.lt_of_le_of_lt pc<|Ed _ _)<|Int.lt_of_le_of_lt pl<|Ed _ _;exact om up l b _ _ (mb l hl<|Oo hu pc pl tw.1 tw.2) el' eb
 .by_cases m0:m=0
  .exact .inl (by lia)
  .right;refine⟨uk (fw n cs) (fQ (fw n cs) ts<|a+1) m,rQ (fw n cs) (fQ (fw n cs) ts<|a+1)<|vK (fw n cs).length<|m - 1,(rQ (fw n cs) (fQ (fw n cs) ts<|a+1)<|vK (fw n cs).length<|m - 1)[0]?.getD 0,?_,?_,?_,?_⟩
   .unfold Cc;rw[gP,pF,mS,aY (by lia)];rfl
   .unfold uk;rw[gP,pF,mS,aY (by lia)];rfl
   .rw[iD (by unfold rQ;rw[gP,pF];lia)];rfl
   .obtain⟨x,hx⟩:∃ x,(rQ (fw n cs) (fQ (fw n cs) ts<|a+1)<|vK (fw n cs).length<|m - 1)[0]?=some x:=⟨_,iD (by unfold rQ;rw[gP,pF];lia)⟩;rw[hx];obtain⟨b,_,hb,eb,pb,_⟩:=o6 rfl (uj S<|a+1) (q0 _) hx;show x<n;by_cases e:b=cs.length+1
    .exfalso;subst e;unfold vK at pb;rcases(kH S (a+1) 0 (cs.length+1) (by lia)<|by lia).2 (by lia)with⟨z1,z2⟩|⟨z1,z2,z3⟩<;> lia
    .exact kD up eb (rW n cs) (by lia)
structure og (μ:MS)(n0:Nat)(j:Nat)(ks:List Nat)(tb:List (List Int)):Prop where
 len:ks.length=tb.length
 lst:nP μ j=some (ks.map D.mr)
 at_:∀(t k:Nat) (r:List Int),ks[t]?=some k->tb[t]?=some r->nP μ k=some (r.map D.int)
 Zh:n0<=j
 new:∀ k∈ks,n0<=k/\k≠j
def og.app {μ g:MS}{n0 n1 j:Nat}{ks:au Nat}{tb:au (au Int)}(h:og μ n0 j ks tb)(hn:n1<=n0):og (μ++g) n1 j ks tb :=
 ⟨h.len,Lh (x:=.mr j) h.lst,λt k r e1 e2=>Lh (x:=.mr k)<|h.at_ t k r e1 e2,aV hn h.Zh,λk hk=>⟨aV hn (h.new k hk).1,(h.new k hk).2⟩⟩
def og.lt {μ:MS}{n0 j:Nat}{ks:au Nat}{tb:au (au Int)}(h:og μ n0 j ks tb):j<μ.length/\∀ k∈ks,k<μ.length:=by refine⟨(kB<|jP h.lst).1,λk hk=>?_⟩;obtain⟨t,ht,e⟩:=aJ hk;exact(kB<|jP<|h.at_ t k _ (by rw[iD ht,e])<|iD (by rw[<- h.len];exact ht)).1
abbrev Us:=au (Nat×au Nat)
def Ji (us:Us):au D:=us.map λu=>D.mr u.1
structure rb (μ:MS)(n0:Nat)(us:Us)(pp:List (List<|List Int)):Prop where
 len:us.length=pp.length
 tab:∀(i:Nat) (u:Nat×List Nat) (tb:List (List Int)),us[i]?=some u->pp[i]?=some tb->og μ n0 u.1 u.2 tb
 ord:us.Pairwise λx y=>x.1<y.1/\∀ k∈x.2,k<y.1
theorem rb.nil (μ:MS)(n0:Nat):rb μ n0 [] []:=⟨rfl,λi u tb e=>by simp at e,.nil⟩
def rb.snoc {μ g:MS}{n0 j:Nat}{us:Us}{pp:au (au<|au Int)}{ks:au Nat}{tb:au (au Int)}(h:rb μ n0 us pp)(hn:n0<=μ.length)(t:og (μ++g) μ.length j ks tb):rb (μ++g) n0 (us++[(j,ks)]) (pp++[tb]):=by
 have old:∀ u∈us,u.1<j/\∀ k∈u.2,k<j:=λu hu=>by obtain⟨i,hi,e⟩:=aJ hu;have l:=(h.tab i u _ (by rw[iD hi,e])<|iD (by rw[<- h.len];exact hi)).lt;exact⟨aL l.1 t.Zh,λk hk=>aL (l.2 k hk) t.Zh⟩
 refine⟨by rw[lP,lP,h.len];rfl,λi u tb' e1 e2=>?_,?_⟩
 .rcases cg i us.length with q | q
  .rw[vd q]at e1;rw[vd (by rw[<- h.len];exact q)]at e2;exact(h.tab i u tb' e1 e2).app (aw _)
  .have hi:i=us.length:=by have:=(kB e1).1;rw[lP,bx]at this;lia
   subst hi
   rw[qV (aw _),aZ]at e1
   rw[h.len,qV (aw _),aZ]at e2
   cases e1
   cases e2
   have:=t.app (g:=[]) hn
   rwa [b8]at this
 .rw[List.pairwise_append];exact⟨h.ord,List.pairwise_singleton _ _,λx hx y hy=>by rw[List.mem_singleton.mp hy];exact old x hx⟩
def L9:j4:=λds μ K=>match ds with
 |[.lst r,.int b,.int q]=>∃(L:Nat) (f:Nat->Int) (c:Nat),r=jU L f/\L<=2000/\b=(c:Int)/\c<L/\(∀ x y,x<=y->y<L->f x<=f y)/\f c<=q/\K (.int (goN f q L:Nat)) μ
 |_=>False
def xw:j4:=λds μ K=>match ds with
 |[.lst p,.lst t,.int m]=>∃(es:au Int) (P:Nat->Nat->Int),p=es.map D.int/\t=kQ es.length P/\2<=es.length/\es.length<=2000/\TabOk es.length P/\0<=m/\m<=1000/\∀(j:Nat) (ks:au Nat) (g:MS),og (μ++g) μ.length j ks (uk es P m.toNat)->K (.mr j) (μ++g)
 |_=>False
section
variable {X:Cx}{a b e:Expr}{es:au Expr}{pos:Pos}
def J6 {acc:Array ar}{n:Nat}(h:ItemsOf (λi v=>∃ t,v=.int (0+(i:Int)*1) t) acc n):gC (((List.range n).map λi=>((i:Nat):Int)).map V.int) acc.toList:=by
 have key:∀(us:au ar) (k:Nat),(∀(j:Nat) (v:ar),us[j]?=some v->∃ t,v=.int ((k+j:Nat):Int) t)->gC (((List.range us.length).map λi=>((k+i:Nat):Int)).map V.int) us:=by
  intro us;induction us with
  |nil=>intro k _;exact .nil
  | cons u us ih =>
   intro k h;obtain⟨t,rfl⟩:=h 0 u rfl;rw[a8,eO,aB,aB,aQ (l:=List.range us.length)];refine .cons ⟨t,rfl⟩ ?_;have:=ih (k+1) λj v e=>by obtain⟨t,e'⟩:=h (j+1) v (by simpa using e);exact⟨t,by rw[e',show k+(j+1)=k+1+j by lia]⟩
   have e2:((λi=>((k+i:Nat):Int)) ∘ Nat.succ)=λi=>((k+1+i:Nat):Int):=by funext i;show((k+(i+1):Nat):Int)=_;rw[show k+(i+1)=k+1+i by lia]
   rw[e2];exact this
 have hl:acc.toList.length=n:=by rw[Array.length_toList];exact h.1
 have:=key acc.toList 0 λj v e=>by obtain⟨t,e'⟩:=h.2 j v (by rw[<- Array.getElem?_toList];exact e);exact⟨t,by rw[e'];congr 1;lia⟩
 rw[hl]at this;simpa using this
def T9 (w:DA):De:=λρ μ K=>w ρ μ λds gc=>match ds with
 |[.int j]=> -(2 ^ 62)<=j/\j<=100000/\K (.lst<|((List.range j.toNat).map λi=>((i:Nat):Int)).map D.int) gc
 |_=>False
def Pz {w:DA}{p p2 mO:Pos}(gH:X.gH=true)(hg:Gl X "list")(hm:X.mg "list"=none)(LM:Gl X "range")(EK:X.mg "range"=none)(ha:we X [a] w)(hs:starEach [a] X.env=[(false,eval a X.env)]:=by rfl)
 (CG:starEach [.Call (.Name "range" p2) [a] [] mO] X.env=[(false,eval (.Call (.Name "range" p2) [a] [] mO) X.env)]:=by rfl):
 PD X (.Call (.Name "list" p) [.Call (.Name "range" p2) [a] [] mO] [] pos) (T9 w):=by
 intro fA s σ H Q I h;refine cA<|kc I hg hm boot_list ?_;obtain⟨φ,ρ,μ,K,A,M,k,L⟩:=h;refine aS ?_ CG rfl;rw[CG];show wpAny _ _ (spliced<|(false,eval (.Call (.Name "range" p2) [a] [] mO) X.env)::backTo pos []) _ _ s;refine cC ?_;have hq:Uy w σ H (λvs H1=>∃ j:Int,vs=[.int j] /\ -(2 ^ 62)<=j/\j<=100000/\∀ q,H1 q=none->Q (.ref q) (upd H1 q<|.lst<|((List.range j.toNat).map λi=>((i:Nat):Int)).map V.int)):=by
  refine⟨φ,ρ,μ,_,A,M,k,λds gc gL vs H1 k1 f1 M1 i1=>?_⟩;split at k1
  .rename_i j;obtain⟨v,r,rfl,h1,h2⟩:=i1;cases(show r=[]from h2);cases(show v=_ from h1);exact⟨j,rfl,k1.1,k1.2.1,λq hq=>M8 (L.mono f1) M1 (fV.ofInts _) k1.2.2 hq⟩
  .exact k1.elim
 refine Call_ (kc I LM EK boot_range<|aS (iN (ha mO fA s σ H _ I hq) λus s1 qU=>?_) hs rfl);obtain⟨vs,H1,I1,r1,q1⟩:=qU;obtain⟨j,e,q1,q2,q⟩:=q1;subst e;obtain⟨u,rfl,t,rfl⟩:=gC.one r1;refine call_range_1<|cV ?_;refine call_list_range (n:=j.toNat) (I1.ok.hd gH) (IsRange.new ..) ?_ (by rw[rangeSize_one];split<;>lia) (by lia) λh' tk acc' c' hk hS hacc=>?_
 .exact small_one (by decide) (by decide) q1 (by lia)
 .have hle:s1.heap.objs.size<=(s1.heap.push { cls:=.type "range",data:=.fields #[.int 0 s1.toks,.int j t,.int 1 (s1.toks+1)]}).objs.size:=by show _<=(s1.heap.objs.push _).size;rw[Array.size_push];exact dt _
  refine⟨.ref _,_,I1.laid (o:=.lst<|((List.range j.toNat).map λi=>((i:Nat):Int)).map V.int) (λb o hb=>hk b o<|jw _ hb) hle ⟨?_,acc'.toList,c',J6 hacc,by rw[Array.toArray_toList];exact hS⟩,rfl,q _<|I1.iH.fresh hle⟩
  rw[gP,gP,pF]
  exact sz (by lia)
end
theorem BI {α:Type}(f g:α->D):∀ xs:au α,List.zipWith (λa b=>D.tup [a,b]) (xs.map f) (xs.map g)=xs.map λx=>D.tup [f x,g x]
 |[]=>rfl
 |x::xs=>by rw[aB,aB,bT,BI f g xs];rfl
def RB (L:Nat)(P:Nat->Nat->Int):Nat->Nat->Nat
 |0,x=>x
 |i+1,x=>goN (P x) (vK L i) L
def MU {L:Nat}{P:Nat->Nat->Int}(o:TabOk L P)(hL:2<=L):∀(i:Nat) {x:Nat},x<L->RB L P i x<L/\P x (RB L P i x)<=vK L i
 |0,x,hx=>⟨hx,by show P x x<=_;rw[o.zero x x hx hx (aw _)];exact Ec hL 0⟩
 | i+1,x,hx=>by have g:=AJ (f:=P x) (q:=vK L i) hx (by rw[o.zero x x hx hx (aw _)];exact Ec hL i);exact⟨g.2.1,bu g.2.2<|Km<|dt i⟩
def Hv (es:au Int)(P:Nat->Nat->Int)(i:Nat):uk es P (i+1)=uk es P i++[rQ es P (vK es.length i)]:=by unfold uk;rw[cW,bB];rfl
def JM (es:au Int)(P:Nat->Nat->Int)(i:Nat):(uk es P i).length=i:=by unfold uk;rw[gP,pF]
def og.push {μ g:MS}{ks:au Nat}{tb:au (au Int)}(row:au Int)(h:og (μ++g) μ.length μ.length ks tb):∃ g',(μ++g++[MO.lst (row.map D.int)]).set μ.length (.lst<|ks.map D.mr++[D.mr (μ++g).length])=μ++g'/\og (μ++g') μ.length μ.length (ks++[(μ++g).length]) (tb++[row]):=by
 have lt:=h.lt;have l0:μ.length<(μ++g).length:=lt.1;refine⟨(g++[MO.lst (row.map D.int)]).set 0<|.lst<|ks.map D.mr++[D.mr (μ++g).length],?_,?_⟩
 .rw[bq,cI _ _ (aw _),aZ]
 .rw[show μ++(g++[MO.lst (row.map D.int)]).set 0 (.lst<|ks.map D.mr++[D.mr (μ++g).length])=(μ++g++[MO.lst (row.map D.int)]).set μ.length (.lst<|ks.map D.mr++[D.mr (μ++g).length]) by rw[bq,cI _ _ (aw _),aZ]];refine⟨by rw[lP (as:=ks),lP (as:=tb),h.len];rfl,?_,λt k r e1 e2=>?_,aw _,λk hk=>?_⟩
  .rw[sX (by rw[lP];lia),bB];rfl
  .rcases cg t ks.length with q | q
   .rw[vd q]at e1;rw[vd (by rw[<- h.len];exact q)]at e2;rw[Ax (bX (h.new k<|kq e1).2)];exact o8 (h.at_ t k r e1 e2)
   .have ht:t=ks.length:=by have:=(kB e1).1;rw[lP,bx]at this;lia
    subst ht
    rw[qV (aw _),aZ]at e1
    rw[h.len,qV (aw _),aZ]at e2
    cases e1
    cases e2
    rw[Ax (by lia)]
    exact jl
  .rcases List.mem_append.mp hk with q | q
   .exact h.new k q
   .rw[List.mem_singleton.mp q];exact⟨by lia,by lia⟩
def L5:j4:=λds μ K=>match ds with
 |[.lst b,.lst f,.int a,.mr k]=>∃(es:au Int) (ts:au Tk) (row:au Int),b=es.map D.int/\f=ts.map (jk es)/\es.length<=2000/\(∀ e∈es,0<=e)/\nP μ k=some (row.map D.int)/\qM es ts a row/\K (.bl true) μ
 |_=>False
def A7:j4:=λds μ K=>match ds with
 |[.lst b,.mr x,.mr y,.mr z]=>∃ es row first second:au Int,b=es.map D.int/\es.length<=2000/\es.Nodup/\nP μ x=some (row.map D.int)/\nP μ y=some (first.map D.int)/\nP μ z=some (second.map D.int)/\nu es row/\nu es first/\nu es second/\Above es row first second/\K (.bl true) μ
 |_=>False
def A3:j4:=λds μ K=>match ds with
 |[.mr x,.mr y]=>∃ xs ys:au Int,nP μ x=some (xs.map D.int)/\nP μ y=some (ys.map D.int)/\xs.length<=3000/\uU xs ys/\K (.bl false) μ
 |_=>False
def AV:j4:=λds μ K=>match ds with
 |[.lst b,.lst f,.int a,.mr j,y]=>∃(es:au Int) (ts:au Tk) (tb ls:au (au Int)) (ks:au Nat),b=es.map D.int/\f=ts.map (jk es)/\(∀ e∈es,0<=e)/\es.Nodup/\es.length<=2000/\tb.length<=2000/\0<=a/\og μ 0 j ks tb/\(0<a->ls.length=tb.length/\(∀ r∈ls,nu es r)/\∃(j':Nat) (oi:au Nat),y=.mr j'/\og μ 0 j' oi ls)/\zD es ts a ls tb/\K (.bl true) μ
 |_=>False
def og.zero {μ:MS}{n0 j:Nat}{ks:au Nat}{tb:au (au Int)}(h:og μ n0 j ks tb):og μ 0 j ks tb:=⟨h.len,h.lst,h.at_,bA _,λk hk=>⟨bA _,(h.new k hk).2⟩⟩
theorem rb.zero {μ:MS}{n0:Nat}{us:Us}{pp:au (au<|au Int)}(h:rb μ n0 us pp):rb μ 0 us pp:=⟨h.len,λi u tb e1 e2=>(h.tab i u tb e1 e2).zero,h.ord⟩
def og.get {μ:MS}{n0 j:Nat}{ks:au Nat}{tb:au (au Int)}(h:og μ n0 j ks tb){t:Nat}(ht:t<tb.length):∃ k r,tb[t]?=some r/\ks[t]?=some k/\kr (ks.map D.mr) (t:Int)=some (.mr k)/\nP μ k=some (r.map D.int):=by
 have hk:t<ks.length:=by rw[h.len];exact ht
 have e1:=iD hk;have e2:=iD ht;exact⟨_,_,e2,e1,gR e1,h.at_ t _ _ e1 e2⟩
def any_none {xs ys:au Int}(h:uU xs ys):(List.zipWith (λa b=>decide (a<b)) xs ys).any id=false:=(Hd xs ys).mpr h
def tJ {g:DG}{b:Ds}{N:DN}{c:MS->Prop}{i:Int}(n:Nat)(hn:i=n)(Pv:au D->DE->MS->Prop){ρ:DE}{μ:MS}(h0:Pv (ky 0 n) ρ μ)(hs:∀ d sy ρ μ,Pv (d::sy) ρ μ->c μ/\∀(nx:DE->MS->Prop),(∀ kO fZ,Pv sy kO fZ->nx kO fZ)->g d ρ μ λoh iP=>b { N with nx:=nx,ct:=nx,bk:=N.nx} oh iP)(hd:∀ ρ μ,Pv [] ρ μ->c μ/\N.nx ρ μ):AL g b N c (ky 0 i.toNat) ρ μ:=by subst hn;rw[sx];exact iO Pv h0 hs hd
inductive AbO (x0 x1 x2 x3:Option D)(N:Nat)(μ:MS):List D->DE->MS->Prop
 |mk (k c:Nat) (u:Option D) {ds:List D} (e:ds=ky k c) (h:k+c=N):AbO x0 x1 x2 x3 N μ ds [x0,x1,x2,x3,u] μ
inductive RgO (x0 x1 x2 x3:Option D)(row:List Int)(μ:MS):List D->DE->MS->Prop
 |mk (i c:Nat) (l:Int) (u v w:Option D) {ds:List D} (e:ds=ky i c) (h:i+c=row.length) (ll:∀ x,row[i]?=some x->l<=x):RgO x0 x1 x2 x3 row μ ds [x0,x1,x2,x3,some (.int l),u,v,w] μ
inductive RgI (x0 x1 x2 x3 x4 x5:Option D)(es:List Int)(ts:List Tk)(μ:MS):List D->DE->MS->Prop
 |mk (us:List Tk) (v w:Option D) {ds:List D} (e:ds=us.map (jk es)) (h:∀ t∈us,t∈ts):RgI x0 x1 x2 x3 x4 x5 es ts μ ds [x0,x1,x2,x3,x4,x5,v,w] μ
inductive FgO (x0 x1 x2 x3 x4 x5:Option D)(us:Us)(pp:List (List<|List Int))(μ:MS):List D->DE->MS->Prop
 |mk (k c:Nat) (ld:D) (v:Option D) {ds:List D} (e:ds=ky k c) (h:k+c=pp.length) (ZN:0<k->∃ u tb,us[k - 1]?=some u/\pp[k - 1]?=some tb/\og μ 0 u.1 u.2 tb/\ld=.mr u.1):FgO x0 x1 x2 x3 x4 x5 us pp μ ds [x0,x1,x2,x3,x4,x5,some ld,v] μ
inductive FrO (x0 x1 x2 x3:Option D)(es:List Int)(P:Nat->Nat->Int)(M:Nat)(μ:MS):List D->DE->MS->Prop
 |mk (i c:Nat) (g:MS) (ks:List Nat) (u v:Option D) {ds:List D} (e:ds=ky i c) (h:i+c=M) (tm:og (μ++g) μ.length μ.length ks (uk es P i)):FrO x0 x1 x2 x3 es P M μ ds [x0,x1,x2,x3,some (.lst<|(List.range es.length).map λx=>D.int (RB es.length P i x:Nat)),u,v] (μ++g)
inductive FtO (x0 x1 x2 x3 x4 x5 x6:Option D)(es:List Int)(ts:List Tk)(a:Int)(μ:MS):List D->DE->MS->Prop
 |mk (k c:Nat) (ch:Bool) (u v:Option D) {ds:List D} (e:ds=ky k c) (h:(k:Int)+c=a+1) (Gu:ch=false->∀ i j,i<es.length->j<es.length->iE es.length es (i0 es ts<|(k:Int) - 1) (fQ es ts k) i j=fQ es ts k i j):FtO x0 x1 x2 x3 x4 x5 x6 es ts a μ ds [x0,x1,x2,x3,x4,x5,x6,some (.lst<|kQ es.length<|fQ es ts k),some (.bl ch),some (.mr μ.length),u,v] (μ++[.jS (mI k) (nH es ts k)])
inductive CrO (x0 x1 x2:Option D)(es:List Int)(ts:List Tk)(a:Int)(μ:MS):List D->DE->MS->Prop
 |mk (us:List Tk) (tl:List Int) (u v:Option D) {ds:List D} (e:ds=us.map (jk es)) (hf:us.foldl (r9 es a) tl=i0 es ts a) (hl:tl.length<=2000):CrO x0 x1 x2 es ts a μ ds [x0,x1,x2,some (.lst<|tl.map D.int),u,v] μ
inductive NtO (x0 x1 x2 x3 x4:Option D)(L:Nat)(P Q:Nat->Nat->Int)(own:List Int)(μ:MS):List D->DE->MS->Prop
 |mk (k:Nat) (u v w:Option D) {ds:List D} (hk:k<=L) (e:ds=((List.range L).drop k).map (λi=>D.tup [.int (i:Nat),.tup [.lst (jU L<|P i),.int (own.getD i 0)]])) {t:List D} (ht:t=(List.range k).map λi=>D.lst<|jU L<|Q i):NtO x0 x1 x2 x3 x4 L P Q own μ ds [x0,x1,x2,x3,x4,some (.mr μ.length),u,v,w] (μ++[.lst t])
inductive OwO (x0 x1 x2:Option D)(es:List Int)(ts:List Tk)(a:Int)(μ:MS):List D->DE->MS->Prop
 |mk (i:Nat) (v:Option D) {ds:List D} (e:ds=(es.drop i).map D.int):OwO x0 x1 x2 es ts a μ ds [x0,x1,x2,some (.mr μ.length),v] (μ++[.lst (((es.take i).map<|i7 es ts a).map D.int)])
inductive RwO (x0 x1 x2:Option D)(es:List Int)(ts:List Tk)(M:Nat)(μ:MS):List D->DE->MS->Prop
 |mk (i k:Nat) (u v w:Option D) {ds:List D} (e:ds=ky i k) (h:i+k=M):RwO x0 x1 x2 es ts M μ ds [x0,x1,x2,some (.mr μ.length),u,v,w] (μ++[.lst ((List.range i).map λa=>.lst<|(gh es ts a).map D.int)])
def AD (C:ao)(μ:MS)(k:Nat):av (au Str×au D):=match μ[k]? with|some (.ins C' ns ds)=>if C'=C then some (ns,ds)else none|_=>none
def AB (h:AD C μ k=some q):μ[k]?=some (.ins C q.1 q.2):=by
 unfold AD at h;split at h
 .rename_i C' ns ds e;by_cases z:C'=C
  .rw[aE z]at h;cases h;rw[e,z]
  .rw[aF z]at h;cases h
 .cases h
def o9 (h:μ[k]?=some (.ins C ns ds)):AD C μ k=some (ns,ds):=by unfold AD;rw[h];exact aE rfl
def lG (f:Str):au Str->au D->av D
 |n::ns,d::ds=>if n=f then some d else lG f ns ds
 |_,_=>none
def putN (f:Str)(d:D):au Str->au D->au Str×au D
 |n::ns,e::ds=>if n=f then(n::ns,d::ds)else(n::(putN f d ns ds).1,e::(putN f d ns ds).2)
 |_,_=>([f],[d])
theorem w5:∀ {fs:au (Str×V)} {ds:au D},fV φ H ds (fs.map (·.2))->lG f (fs.map (·.1)) ds=some d->∃ v,fs.lookup f=some v/\jy φ H d v
 |[],ds,h,e=>by cases ds<;>cases e
 | (n,x)::fs,ds,h,e=>by
  cases ds with
  |nil=>cases e
  | cons d0 ds =>
   let ⟨v,r,e1,h1,h2⟩:=h;obtain⟨rfl,rfl⟩:=e1;simp only[aB,lG]at e;rw[dQ];by_cases q:n=f
   .rw[aE q]at e;cases e;subst q;exact⟨x,by simp,h1⟩
   .rw[aF q]at e;have:(f==n)=false:=beq_eq_false_iff_ne.mpr λz=>q z.symm;simp only[this];exact w5 h2 e
theorem wZ:∀ {fs:au (Str×V)} {ds:au D},fV φ H ds (fs.map (·.2))->lG f (fs.map (·.1)) ds=none->fs.lookup f=none
 |[],ds,h,e=>rfl
 | (n,x)::fs,ds,h,e=>by
  cases ds with
  |nil=>cases h
  | cons d0 ds =>
   let ⟨v,r,e1,h1,h2⟩:=h;obtain⟨rfl,rfl⟩:=e1;simp only[aB,lG]at e;rw[dQ];by_cases q:n=f
   .rw[aE q]at e;cases e
   .rw[aF q]at e;have:(f==n)=false:=beq_eq_false_iff_ne.mpr λz=>q z.symm;simp only[this];exact wZ h2 e
theorem FT (hd:jy φ H d v):∀ {fs:au (Str×V)} {ds:au D},fV φ H ds (fs.map (·.2))->(oy f v fs).map (·.1)=(putN f d (fs.map (·.1)) ds).1/\fV φ H (putN f d (fs.map (·.1)) ds).2 ((oy f v fs).map (·.2))
 |[],ds,h=>by cases ds<;>exact⟨rfl,v,[],rfl,hd,rfl⟩
 | (n,x)::fs,ds,h=>by
  cases ds with
  |nil=>cases h
  | cons d0 ds =>
   let ⟨v',r,e1,h1,h2⟩:=h;obtain⟨rfl,rfl⟩:=e1;simp only[oy,aB,putN];by_cases q:n=f
   .rw[aE q,aE q];exact⟨rfl,_,_,rfl,hd,h2⟩
   .rw[aF q,aF q];obtain⟨i1,i2⟩:=FT hd h2;exact⟨by simp only[aB,i1],_,_,rfl,h1,i2⟩
section
variable {X:Cx}{a b e o:Expr}{es:au Expr}{pos:Pos}{C:ao}
def W7 (C:ao)(f:Str)(w:De):De:=λρ μ K=>w ρ μ λx gc=>match x with
 |.mr k=>∃ d,(AD C gc k).bind (λq=>lG f q.1 q.2)=some d/\K d gc
 |.obj C' ns ds=>C'=C/\∃ d,lG f ns ds=some d/\K d gc
 |_=>False
def pH (c:Hm X.K C)(n:qv X.K C f)(h:PD X e w)(hb:attributeBase e f X.env (eval e X.env)=eval e X.env:=by rfl):PD X (.Attribute e f pos) (W7 C f w):=(Ss h hb).imp λσ H Q hq=>by
 let ⟨φ,ρ,μ,K,A,M,k,L⟩:=hq;refine⟨φ,ρ,μ,_,A,M,k,λd1 gc gL v1 H1 k1 f1 M1 i1=>?_⟩;cases d1 with
 | mr j =>let ⟨d,e1,k1⟩:=k1;let ⟨q,e2,e3⟩:=Option.bind_eq_some_iff.mp e1;obtain⟨p,hp,rfl⟩:=i1;let ⟨p',e4,dx,fs,h1,h2,h3⟩:=M1.at_ j _<|AB e2;rw[hp]at e4;cases e4;rw[<- h2]at e3;let ⟨v,l,iv⟩:=w5 h3 e3;exact⟨p,C,dx,fs,v,rfl,h1,c,n,l,L _ gc gL v H1 k1 f1 M1 iv⟩
 | obj C' ns ds =>let ⟨rfl,d,e3,k1⟩:=k1;obtain⟨p,dx,fs,vs,rfl,_,h1,h2,rfl,h3⟩:=i1;rw[<- h2]at e3;let ⟨v,l,iv⟩:=w5 h3 e3;exact⟨p,_,dx,fs,v,rfl,h1,c,n,l,L _ gc gL v H1 k1 f1 M1 iv⟩
 |_=>exact k1.elim
def WU (C:ao)(f:Str)(w wo:De):Ds:=λN ρ μ=>w ρ μ λd gc=>wo ρ gc λx iP=>match x with
 |.mr k=>∃ q q':au Str×au D,AD C iP k=some q/\putN f d q.1 q.2=q'/\q.1.length<1000/\N.nx ρ (iP.set k<|.ins C q'.1 q'.2)
 |_=>False
def B4 (c:Hm X.K C)(n:qv X.K C f)(he:PD X e w)(ho:PD X o wo)(hs:swapsWith e (some<|.Attribute o f pos') pos.line X.env=pure false:=by rfl):zE X (.Assign [.Attribute o f pos'] e pos) (WU C f w wo) :=
 (Si ho he hs).imp λE σ H hq=>by
 let ⟨φ,ρ,μ,N,A,M,k,L⟩:=hq;refine⟨φ,ρ,μ,_,A,M,k,λd gc gL v1 H1 k1 f1 M1 i1=>⟨gL,ρ,gc,_,A.mono f1,M1,k1,λd2 iP lg v2 H2 k2 f2 M2 i2=>?_⟩⟩;cases d2 with
 | mr j =>let ⟨q,_,e2,rfl,hl,k2⟩:=k2;obtain⟨p,hp,rfl⟩:=i2;let ⟨p',e4,dx,fs,h1,h2,h3⟩:=M2.at_ j _<|AB e2;rw[hp]at e4;cases e4;have f4:Fr lg H2 lg (upd H2 p<|.ins C dx<|oy f v1 fs):=.put<|kq hp;obtain⟨g1,g2⟩:=FT ((i1.mono f2).mono f4)<|h3.mono f4;rw[h2]at g1 g2;exact⟨p,C,dx,fs,rfl,h1,c,n,by rw[<- h2,gP]at hl;exact hl,L.nx ρ _ lg σ _ k2 ((f1.trans f2).trans f4) (A.mono<|(f1.trans f2).trans f4)<|M2.put hp ⟨dx,_,fX,g1,g2⟩⟩
 |_=>exact k2.elim
structure xW (P:ah)(w:ai)(K:aa)(mg:Str->Option ar)(fB:Heap)(C:ao)(m:Str)(k:Nat)(ps:List Str)(sp:Sp):Prop where
 ex:∃ f fd,gD P w K mg fB kl k f fd ps sp/\Meth K C m f/\Binds K fd ps []
def QL (C:ao)(m:Str)(μ:MS):D->Prop
 |.mr k=>(AD C μ k).map (λq=>lG m q.1 q.2)=some none
 |.obj C' ns es=>C'=C/\lG m ns es=none
 |_=>False
def J7 (M:gy φ H μ)(i:jy φ H d v)(h:QL C m μ d):∃ p dx fs,v=.ref p/\H p=some (.ins C dx fs)/\fs.lookup m=none:=by
 cases d with
 | mr j =>let ⟨q,e2,e3⟩:=Option.map_eq_some_iff.mp h;obtain⟨p,hp,rfl⟩:=i;let ⟨p',e4,dx,fs,h1,h2,h3⟩:=M.at_ j _<|AB e2;rw[hp]at e4;cases e4;rw[<- h2]at e3;exact⟨p,dx,fs,rfl,h1,wZ h3 e3⟩
 | obj C' ns es =>let ⟨rfl,e3⟩:=h;obtain⟨p,dx,fs,vs0,rfl,_,h1,h2,rfl,h3⟩:=i;rw[<- h2]at e3;exact⟨p,dx,fs,rfl,h1,wZ h3 e3⟩
 |_=>exact h.elim
def Rv (C:ao)(m:Str)(f:j4)(wo:De)(w:DA):De:=λρ μ K=>wo ρ μ λx gc=>QL C m gc x/\w ρ gc λds iP=>f (x::ds) iP K
def NW (h:tD (Rv C m f wo w) σ H Q):QB C m (iB f) [] E0 (tD wo) (Uy w) σ H Q:=by let ⟨φ,ρ,μ,K,A,M,k,L⟩:=h;refine⟨φ,ρ,μ,_,A,M,k,λd1 gc gL v1 H1 k1 f1 M1 i1=>?_⟩;obtain⟨p,dx,fs,rfl,h1,h2⟩:=J7 M1 i1 k1.1;refine⟨p,dx,fs,rfl,h1,h2,gL,ρ,gc,_,A.mono f1,M1,k1.2,λds iP lg vs H2 k2 f2 M2 i2=>?_⟩;show iB f (.ref p::(vs++[])) H2 Q E0;rw[b8];exact⟨lg,d1::ds,iP,K,⟨_,vs,rfl,jy.mono f2 i1,i2⟩,M2,k2,L.mono<|f1.trans f2⟩
def kE (CM:xW X.prog X.w X.K X.mg X.fB C m k ps (iB f))(c:Hm X.K C)(hr:jF k X.A)(ho:PD X o wo)(ha:we X (e::es) w)
 (LG:starEach (e::es) X.env=(false,eval e X.env)::starEach es X.env:=by rfl) (ql:(backTo pos<|starEach es X.env).any (·.1)=false:=by rfl)
 (ht:eval (.Call (.Attribute o m oJ) (e::es) [] pos) X.env=(do
   let ov <- eval o X.env
   standAt oJ.atName
   let (f,first) <- holding [ov] (getMethod ov m pl)
   callWith pos f first (backTo pos<|starEach (e::es) X.env) (backToKw pos<|keywordEach [] X.env)):=by rfl):
 PD X (.Call (.Attribute o m oJ) (e::es) [] pos) (Rv C m f wo w):=by
 let ⟨f',fd,F,hm,hb⟩:=CM.ex;exact(OD ho c hm F hr hb .nil KI ha LG ql ht).imp λσ H Q hq=>NW hq
structure Ur (P:ah)(w:ai)(K:aa)(mg:Str->Option ar)(fB:Heap)(x:Str)(C:ao)(k:Nat)(ps:List Str)(sp:Sp):Prop where
 ex:∃ f fd,gD P w K mg fB kl k f fd ps sp/\Mk K C f/\mg x=some (.ref C)/\Binds K fd ps []
def Rw (C:ao)(f:j4)(w:DA):De:=λρ μ K=>w ρ μ λds gc=>f (.mr gc.length::ds) (gc++[.ins C [] []]) λd iP=>d=.iC/\K (.mr gc.length) iP
def NX (h:tD (Rw C f w) σ H Q):QC C (iB f) [] E0 (Uy w) σ H Q:=by
 obtain⟨φ,ρ,μ,K,A,M,k,L⟩:=h;refine⟨φ,ρ,μ,_,A,M,k,λds gc gL vs H1 k1 f1 M1 i1 x dx hx hdx ne=>?_⟩;have S1:iA H1 (upd H1 dx<|.own x):=iA.upd hdx;have yr:upd H1 dx (.own x) x=none:=by rwa [gp (bX ne)]
 have fa:Fr gL H1 gL (upd H1 dx<|.own x):=.same S1;obtain⟨M2,f2⟩:=(M1.same S1).snoc (m:=.ins C [] []) yr ⟨dx,[],fX,rfl,rfl⟩;have f3:=fa.trans f2;have xf:jy (gL++[x]) (upd (upd H1 dx<|.own x) x<|.ins C dx []) (.mr gc.length) (.ref x):=⟨x,by rw[qV (by rw[M1.len];exact aw _),M1.len,aZ];rfl,rfl⟩;rw[b8];refine⟨gL++[x],.mr gc.length::ds,gc++[.ins C [] []],_,⟨_,vs,rfl,xf,i1.mono f3⟩,M2,k1,λd t9 Ho v H3 k3 f4 M3 i3=>?_⟩;obtain⟨rfl,k3⟩:=k3;exact⟨i3,L _ t9 Ho _ H3 k3 ((f1.trans f3).trans f4) M3<|xf.mono f4⟩
def T3 {x:Str}{f:j4}{w:DA}{p:Pos}{k:Nat}{ps:au Str}(CI:Ur X.prog X.w X.K X.mg X.fB x C k ps (iB f))(hr:jF (k+1) X.A)(hg:Gl X x)(ha:we X (e::es) w)
 (yt:(x==("__debug__" : Str))=false:=by decide) (he:starEach (e::es) X.env=(false,eval e X.env)::starEach es X.env:=by rfl) (ql:(backTo pos<|starEach es X.env).any (·.1)=false:=by rfl):
 PD X (.Call (.Name x p) (e::es) [] pos) (Rw C f w):=by
 let ⟨f',fd,F,M,hm,hb⟩:=CI.ex;exact(OE M F hr hg hm hb .nil KI ha yt he ql).imp λσ H Q hq=>NX hq
def gA {P:ah}{w:ai}{K:aa}{mg:Str->av ar}{fB h:Heap}{x q:Str}{st:Stmt}{f:ao}{fd:aj}{k:Nat}{ps:au Str}{sp:Sp}(G:K.In h)(N:h.Ns mainGlobals mg)(F:jW K x q st f fd)(ok:gD P w K mg fB kl k f fd ps sp)(hb:Binds K fd ps [])
 (a:W.nsIn K mainGlobals x=some (some<|.ref f):=by kernel_rfl):mH P w K mg fB x k ps sp:=⟨f,fd,ok,W.mg_of G N a,F.kp,hb⟩
def tP {P:ah}{w:ai}{K:aa}{mg:Str->av ar}{fB:Heap}{C:ao}{x q:Str}{st:Stmt}{f:ao}{fd:aj}{k:Nat}{ps:au Str}{sp:Sp}(F:jW K x q st f fd)(ok:gD P w K mg fB kl k f fd ps sp)(hb:Binds K fd ps [])
 (a:W.findIn K (.ref C) x=some (some<|.ref f):=by kernel_rfl) (i:W.isFn K (.ref f)=true:=by kernel_rfl):xW P w K mg fB C x k ps sp:=⟨f,fd,ok,⟨a,i,F.kp⟩,hb⟩
def PX {P:ah}{w:ai}{K:aa}{mg:Str->av ar}{fB h:Heap}{C:ao}{y q:Str}{st:Stmt}{f:ao}{fd:aj}{k:Nat}{ps:au Str}{sp:Sp}(G:K.In h)(N:h.Ns mainGlobals mg)(F:jW K "__init__" q st f fd)(ok:gD P w K mg fB kl k f fd ps sp)(hb:Binds K fd ps [])
 (n:W.nsIn K mainGlobals y=some (some<|.ref C):=by kernel_rfl) (a:W.findIn K (.ref C) "__init__"=some (some<|.ref f):=by kernel_rfl) (i:W.isFn K (.ref f)=true:=by kernel_rfl) (m:W.makesIn K C=true:=by kernel_rfl) (p:W.keepIn K (.ref C)=true:=by kernel_rfl):Ur P w K mg fB y C k ps sp:=⟨f,fd,ok,⟨m,a,i,p⟩,W.mg_of G N n,hb⟩
def Lr:au D->av (au Key)
 |[]=>some []
 |d::ds=>(Ls d).bind λk=>(Lr ds).map (k::·)
def SY:D->av (au Key)
 |.tup ds=>Lr ds
 |_=>none
theorem CA:∀ {ds:au D} {vs:au V} {ks:au Key},Lr ds=some ks->fV φ H ds vs->vs=ks.map kV
 |[],_,ks,e,h=>by cases e;exact h
 | d::ds,_,ks,e,h=>by obtain⟨v,r,rfl,h1,h2⟩:=h;let ⟨k,e1,e2⟩:=Option.bind_eq_some_iff.mp e;obtain⟨oi,e3,rfl⟩:=Option.map_eq_some_iff.mp e2;rw[vQ e1 h1,CA e3 h2];rfl
def Gm (e:SY d=some ks)(h:jy φ H d v):∃ p,v=.ref p/\H p=some (.tup<|ks.map kV):=by
 cases d with
 |tup ds=>obtain⟨p,vs,rfl,_,hp,ha⟩:=h;exact⟨p,rfl,by rw[hp,CA e ha]⟩
 |_=>cases e
def Mq (μ:MS)(j:Nat):av (au (au Key)×au D):=match μ[j]? with|some (.nA ks ds)=>some (ks,ds)|_=>none
def Pw (h:Mq μ j=some q):μ[j]?=some (.nA q.1 q.2):=by
 unfold Mq at h;split at h
 .rename_i e;cases h;exact e
 .cases h
def sD (ks:au (au Key))(ds:au D)(k:au Key):av D:=match ks,ds with
 |k'::ks,d::ds=>if k'=k then some d else sD ks ds k
 |_,_=>none
def zR (ks:au (au Key))(ds:au D)(k:au Key)(d:D):au (au Key)×au D:=if(ks.any λx=>decide (x=k))=true then(ks,(ks.zip ds).map λp=>if p.1=k then d else p.2)else(ks++[k],ds++[d])
theorem BQ (k:au Key):∀ {fO:au (au Key×V)} {ds:au D},fV φ H ds (fO.map (·.2))->(sD (fO.map (·.1)) ds k=none/\nV fO k=none)\/∃ d v,sD (fO.map (·.1)) ds k=some d/\nV fO k=some v/\jy φ H d v
 |[],ds,h=>.inl ⟨by cases ds<;>rfl,rfl⟩
 | p::fO,ds,h=>by
  cases ds with
  |nil=>cases h
  | cons d0 ds =>
   let ⟨v,r,e,h4,h5⟩:=h;obtain⟨rfl,rfl⟩:=e;simp only[aB,sD];by_cases hk:p.1=k
   .rw[aE hk];exact .inr ⟨_,_,rfl,pU hk,h4⟩
   .rw[aF hk,pV hk];exact BQ k h5
def JH (hd:jy φ H d v)(ha:fV φ H ds (fO.map (·.2))):
 (putK fO k v).map (·.1)=(zR (fO.map (·.1)) ds k d).1/\fV φ H (zR (fO.map (·.1)) ds k d).2 ((putK fO k v).map (·.2)):=by
 have ea:(fO.any λp=>decide (p.1=k))=(fO.map (·.1)).any λx=>decide (x=k):=by rw[List.any_map];rfl
 unfold putK zR;rw[ea];by_cases q:((fO.map (·.1)).any λx=>decide (x=k))=true
 .rw[aE q,aE q];clear q ea;induction fO generalizing ds with
  |nil=>cases(show ds=[] by cases ds with|nil=>rfl|cons _ _=>let ⟨_,_,e,_⟩:=ha;cases e);exact⟨rfl,rfl⟩
  | cons p fO ih =>
   cases ds with
   |nil=>cases ha
   | cons d0 ds =>
    let ⟨v0,r,e2,h4,h5⟩:=ha;obtain⟨rfl,rfl⟩:=e2;let ⟨i1,i2⟩:=ih h5;simp only[aB,cK]at i1 ⊢
    by_cases hk:p.1=k
    .rw[aE hk,aE hk];exact⟨by rw[i1],_,_,rfl,hd,i2⟩
    .rw[aF hk,aF hk];exact⟨by rw[i1],_,_,rfl,h4,i2⟩
 .rw[aF q,aF q,bB,bB];exact⟨rfl,ha.app ⟨v,[],rfl,hd,rfl⟩⟩
def WX:De:=λ_ μ K=>K (.mr μ.length) (μ++[.nA [] []])
def PB:PD X (.Dict [] [] pos) WX:=KC.imp λσ H Q hq p hp=>by let ⟨φ,ρ,μ,K,A,M,k,L⟩:=hq;obtain⟨M',f'⟩:=M.snoc (m:=.nA [] []) hp ⟨[],fX,rfl,rfl⟩;exact L _ _ _ _ _ k f' M' ⟨p,by rw[qV (by rw[M.len];exact aw _),M.len,aZ];rfl,rfl⟩
def UL (μ:MS)(j:Nat)(y:D):av (av D):=(Mq μ j).bind λq=>(SY y).map λk=>sD q.1 q.2 k
def Lv {o:av D}(M:gy φ H μ)(ix:jy φ H (.mr j) vx)(iy:jy φ H y vy)(h:UL μ j y=some o):
 ∃ p fO k b,vx=.ref p/\H p=some (.dT fO)/\vy=.ref b/\H b=some (.tup<|k.map kV)/\((o=none/\nV fO k=none)\/∃ d v,o=some d/\nV fO k=some v/\jy φ H d v):=by
 let ⟨q,e1,e2⟩:=Option.bind_eq_some_iff.mp h;obtain⟨k,e3,rfl⟩:=Option.map_eq_some_iff.mp e2;obtain⟨p,hp,rfl⟩:=ix;let ⟨p',e4,fO,h1,h2,h3⟩:=M.at_ j _<|Pw e1;rw[hp]at e4;cases e4;obtain⟨b,rfl,hb⟩:=Gm e3 iy;refine⟨p,fO,k,b,rfl,h1,rfl,hb,?_⟩;rw[<- h2];exact BQ k h3
def W0:Dz:=λx y μ K=>match x with
 |.mr j=>∃ d,UL μ j y=some (some d)/\K d μ
 |_=>False
def WT (hu:X.A.units+1<cLine)(ha:PD X a wa)(hb:PD X b wb)(hs:Qk b):PD X (.Subscript a b pos) (vZ W0 wa wb):=(FY hu ha hb hs).imp λσ H Q hq=>by
 let ⟨φ,ρ,μ,K,A,M,k,L⟩:=hq;refine⟨φ,ρ,μ,_,A,M,k,λd1 gc gL v1 H1 k1 f1 M1 i1=>⟨gL,ρ,gc,_,A.mono f1,M1,k1,λd2 iP lg v2 H2 k2 f2 M2 i2=>?_⟩⟩;cases d1 with
 | mr j =>
  let ⟨d,ex,k2⟩:=k2;obtain⟨p,fO,k,b,rfl,h1,rfl,hb,z⟩:=Lv M2 (i1.mono f2) i2 ex;rcases z with⟨z,_⟩|⟨d',v,z,ev,iv⟩
  .cases z
  .cases z;exact⟨p,v,rfl,by rw[<- ev];exact Bx.t h1 hb,L _ iP lg _ H2 k2 (f1.trans f2) M2 iv⟩
 |_=>exact k2.elim
def GU:Dz:=λx y μ K=>match y with
 |.mr j=>∃ o,UL μ j x=some o/\K (.bl<|!o.isSome) μ
 |_=>False
def Hw (h:tD (vZ GU wa wb) σ H Q):FF (tD wa) (tD wb) σ H Q:=by
 let ⟨φ,ρ,μ,K,A,M,k,L⟩:=h;refine⟨φ,ρ,μ,_,A,M,k,λd1 gc gL v1 H1 k1 f1 M1 i1=>⟨gL,ρ,gc,_,A.mono f1,M1,k1,λd2 iP lg v2 H2 k2 f2 M2 i2=>?_⟩⟩;cases d2 with
 | mr j =>
  let ⟨oo,ex,k2⟩:=k2;obtain⟨p,fO,k,b,rfl,h1,rfl,hb,z⟩:=Lv M2 i2 (i1.mono f2) ex;refine⟨p,nV fO k,rfl,Bx.t h1 hb,?_⟩;have es:(nV fO k).isSome=oo.isSome:=by
   rcases z with⟨g1,g2⟩|⟨d,v,g1,g2,_⟩
   .rw[g1,g2];rfl
   .rw[g1,g2];rfl
  rw[es];exact L _ iP lg _ H2 k2 (f1.trans f2) M2 rfl
 |_=>exact k2.elim
def JN (hu:X.A.units+1<cLine)(ha:PD X a wa)(hb:PD X b wb)(hmk:behindInMarks .NotIn b=false):Jd X (.Compare a [.NotIn] [b] pos) (pj<|vZ GU wa wb):=(Eg (HK hu ha hb) hmk).imp λσ H Q hq=>by
 let ⟨φ,ρ,μ,K,E,M,k,L⟩:=hq;refine Hw ⟨φ,ρ,μ,_,E,M,k,λd fZ gO v H' k' f M' i=>?_⟩;cases d with
 |bl b=>cases i;exact⟨b,rfl,L b fZ gO H' k' f M'⟩
 |_=>exact k'.elim
def Xb (w wo wi:De):Ds:=λN ρ μ=>w ρ μ λd gc=>wo ρ gc λo iP=>wi ρ iP λi t9=>match o with
 |.mr j=>∃ ks ds k,t9[j]?=some (.nA ks ds)/\ks.length<sizeLine/\SY i=some k/\N.nx ρ (t9.set j<|.nA (zR ks ds k d).1 (zR ks ds k d).2)
 |_=>False
def R6 (hu:X.A.units+1<cLine)(he:PD X e w)(ho:PD X o wo)(hi:PD X i wi)(hs:swapsWith e (some<|.Subscript o i pos') pos.line X.env=pure false:=by rfl):
 zE X (.Assign [.Subscript o i pos'] e pos) (Xb w wo wi):=(FV hu ho hi he hs).imp λE σ H hq=>by
 let ⟨φ,ρ,μ,N,A,M,w,L⟩:=hq;refine⟨φ,ρ,μ,_,A,M,w,λd gc gL v1 H1 k1 f1 M1 i1=>⟨gL,ρ,gc,_,A.mono f1,M1,k1,λd2 iP lg v2 H2 k2 f2 M2 i2=>⟨lg,ρ,iP,_,A.mono<|f1.trans f2,M2,k2,λd3 t9 Ho v3 H3 k3 f3 M3 i3=>?_⟩⟩⟩;cases d2 with
 | mr j =>obtain⟨ks,ds,k,em,hl,ek,k3⟩:=k3;obtain⟨p,hp,rfl⟩:=i2.mono f3;obtain⟨p',e1,fO,hv,h1,ha⟩:=M3.at_ j _ em;rw[hp]at e1;cases e1;obtain⟨b,rfl,hb⟩:=Gm ek i3;have f4:Fr Ho H3 Ho (upd H3 p<|.dT<|putK fO k v1):=.put<|kq hp;obtain⟨g1,g2⟩:=JH ((i1.mono<|f2.trans f3).mono f4)<|ha.mono f4;rw[h1]at g1 g2;exact⟨p,_,rfl,Dy.t hv hb (by have:=cD List.length h1;rw[gP]at this;lia),L.nx ρ _ Ho σ _ k3 ((f1.trans<|f2.trans f3).trans f4) (A.mono<|(f1.trans<|f2.trans f3).trans f4)<|M3.put hp ⟨putK fO k v1,fX,g1,g2⟩⟩
 |_=>exact k3.elim
end
def vw (es:au Int)(ts:au Tk)(a:Int)(i j:Nat):au Nat:=(List.range ts.length).filter λx=>match ts[x]? with
 |some t=>decide (t.2<=a)&&decide (es.getD j 0<=iS es t.1 (es.getD i 0))
 |none=>false
def o7 (T U:Nat->Nat->Int)(i j:Nat):au Nat:=((List.range<|j - (i+1)).map (i+1+·)).filter λk=>decide (U i k+U k j+1=T i j)
def j0 (es:au Int)(ts:au Tk):Nat->Nat->Nat->Int
 |0,_,_=>0
 |a+1,i,j=>if fQ es ts (a+1) i j=0 then((vw es ts a i j).length:Nat)else((o7 (fQ es ts<|a+1) (fQ es ts a) i j).map λk=>j0 es ts a i k*j0 es ts a k j).sum
def jY {T U:Nat->Nat->Int}{i j k:Nat}:k∈o7 T U i j↔i<k/\k<j/\U i k+U k j+1=T i j:=by
 unfold o7;rw[fk,List.mem_map,bS];constructor
 .rintro⟨⟨x,hx,rfl⟩,h⟩;rw[cc]at hx;exact⟨by lia,by lia,h⟩
 .rintro⟨h1,h2,h3⟩;exact⟨⟨k - (i+1),List.mem_range.mpr<|by lia,by lia⟩,h3⟩
def OY (T U:Nat->Nat->Int)(i j:Nat):(o7 T U i j).length<=j - (i+1):=by unfold o7;refine aV (dc _ _) ?_;rw[gP,pF];exact aw _
def OS (es:au Int)(ts:au Tk)(a:Int)(i j:Nat):(vw es ts a i j).length<=ts.length:=by unfold vw;refine aV (dc _ _) ?_;rw[pF];exact aw _
theorem JS {f:Nat->Int}{B:Int}(hB:0<=B):∀ {l:au Nat},(∀ x∈l,0<=f x/\f x<=B)->0<=(l.map f).sum/\(l.map f).sum<=(l.length:Int)*B
 |[],_=>by simp
 | x::l,h=>by
  have h1:=h x (by simp);have h2:=JS hB (l:=l) λy hy=>h y (by simp[hy]);rw[aB,cq,a8];refine⟨by lia,?_⟩;have e:(((l.length+1:Nat):Int))*B=(l.length:Int)*B+B:=by rw[Int.natCast_add,Int.add_mul];simp
  lia
theorem pI {es:au Int}{ts:au Tk}(hL:es.length<=100)(ht:ts.length<=100):∀(a i j:Nat),i<j->j<es.length->0<=j0 es ts a i j/\j0 es ts a i j<=128 ^ (2*(j - i) - 1)
 |0,i,j,_,_=>⟨by show(0:Int)<=0;lia,by show(0:Int)<=_;exact dA<|Int.pow_pos<|by lia⟩
 | a+1,i,j,pE,hj=>by
  have hp:∀ n:Nat,(0:Int)<128 ^ n:=λn=>Int.pow_pos (by lia);have e1:(128:Int) ^ (2*(j - i) - 1)=128 ^ (2*(j - i) - 2)*128:=by rw[<- Int.pow_succ,show(2*(j - i) - 2).succ=2*(j - i) - 1 by lia]
  have hq:=hp<|2*(j - i) - 2;rw[e1];generalize hB:(128:Int) ^ (2*(j - i) - 2)=B at hq ⊢
  show 0<=(if fQ es ts (a+1) i j=0 then(((vw es ts a i j).length:Nat):Int)else _)/\(if fQ es ts (a+1) i j=0 then(((vw es ts a i j).length:Nat):Int)else _)<=_;split
  .have:=OS es ts a i j;refine⟨by lia,?_⟩;lia
  .have hm:=OY (fQ es ts<|a+1) (fQ es ts a) i j;have key:∀ k∈o7 (fQ es ts<|a+1) (fQ es ts a) i j,0<=j0 es ts a i k*j0 es ts a k j/\j0 es ts a i k*j0 es ts a k j<=B:=λk hk=>by obtain⟨h1,h2,_⟩:=jY.mp hk;have b1:=pI hL ht a i k h1 (by lia);have b2:=pI hL ht a k j h2 hj;refine⟨Int.mul_nonneg b1.1 b2.1,?_⟩;have:=Int.mul_le_mul b1.2 b2.2 b2.1<|dA<|hp _;rw[<- Int.pow_add]at this;rw[<- hB,show 2*(j - i) - 2=2*(k - i) - 1+(2*(j - k) - 1) by lia];exact this
   obtain⟨s1,s2⟩:=JS (dA hq) key;refine⟨s1,bu s2 ?_⟩;rw[Int.mul_comm B];exact Int.mul_le_mul_of_nonneg_right (by lia) (dA hq)
def G8 {x:Int}{d:Nat}(h0:0<=x)(h:x<=128 ^ d)(hd:d<=2000):Builtin.Int.intBits x<=2 ^ 20:=by
 refine intBits_le_iff.mpr ?_;have e:(128:Int) ^ d=((2 ^ (7*d):Nat):Int):=by rw[Nat.pow_mul];norm_cast
 have h1:x.natAbs<=2 ^ (7*d):=by lia
 refine cj h1 (Nat.pow_lt_pow_right (by lia) ?_);have:(2:Nat) ^ 20=1048576:=by decide
 lia
def Fc {es:au Int}{ts:au Tk}(hL:es.length<=100)(ht:ts.length<=100)(a i k j:Nat)(h1:i<k)(h2:k<j)(hj:j<es.length):IntMulOk (j0 es ts a i k) (j0 es ts a k j):=by have b1:=pI hL ht a i k h1 (by lia);have b2:=pI hL ht a k j h2 hj;exact .of_bits (G8 b1.1 b1.2<|by lia) (G8 b2.1 b2.2<|by lia)
section
variable {X:Cx}
def SN:lq X (binaryOp .Mult) (rI IntMulOk λi j=>.int<|i*j):=UE λ_ _ _ _ _ _ _ hc q=>mul_int q hc
end
def Ru:Dz:=λx y μ K=>match x,y with
 |.int i,.int j=>IntMulOk i j/\K (.int<|i*j) μ
 |_,_=>False
def zZ:qZ (rI IntMulOk λi j=>.int<|i*j) Ru:=λφ H x y dx dy μ K Q M hx hy k L=>by
 unfold Ru at k;split at k
 .cases(show x=_ from hx);cases(show y=_ from hy);exact⟨_,_,rfl,rfl,k.1,L.val M k.2 rfl⟩
 .exact k.elim
def vt (a:Int)(i j:Nat):D:=.tup [.int a,.int i,.int j]
def stK (a i j:Nat):au Key:=[.inl (a:Int),.inl (i:Int),.inl (j:Int)]
def FI {a i j b k l:Nat}(h:stK a i j=stK b k l):a=b/\i=k/\j=l:=by unfold stK at h;simp only[fo,Sum.inl.injEq,and_true]at h;lia
def Ff:au Str:=["places","rows","tables","whole","counts"]
def IV (es:au Int)(ts:au Tk)(A j:Nat):au D:=[.lst (es.map D.int),.lst (ts.map<|jk es),.jS (mI<|A+1) (nH es ts<|A+1),vt A 0 (es.length - 1),.mr j]
inductive Memo (es:List Int)(ts:List Tk)(A:Nat):List (List Key)->List D->Prop
 |nil:Memo es ts A [] []
 |add {ks:List (List Key)} {ds:List D} (h:Memo es ts A ks ds) {a i j:Nat} (ha:a<=A) (hi:i<es.length) (hj:j<es.length) (hn:stK a i j∉ks):Memo es ts A (ks++[stK a i j]) (ds++[.int (j0 es ts (a+1) i j)])
def Memo.len {es:au Int}{ts:au Tk}{A:Nat}{ks:au (au Key)}{ds:au D}(h:Memo es ts A ks ds):ds.length=ks.length:=by
 induction h with
 |nil=>rfl
 |add h ha hi hj hn ih=>simp[ih]
def JF {ks oi:au (au Key)}{ds sy:au D}(k:au Key)(hl:ds.length=ks.length):sD (ks++oi) (ds++sy) k=match sD ks ds k with | some d=>some d | none=>sD oi sy k:=by
 induction ks generalizing ds with
 | nil=>cases ds with
  |nil=>rfl
  |cons _ _=>cases hl
 | cons k0 ks ih =>
  cases ds with
  |nil=>cases hl
  | cons d ds =>
   simp only[List.cons_append,sD];by_cases h:k0=k
   .rw[aE h,aE h]
   .rw[aF h,aF h];exact ih (by simpa using hl)
def Memo.get {es:au Int}{ts:au Tk}{A:Nat}{ks:au (au Key)}{ds:au D}(h:Memo es ts A ks ds)(a i j:Nat):(stK a i j∉ks/\sD ks ds (stK a i j)=none)\/(stK a i j∈ks/\sD ks ds (stK a i j)=some (.int<|j0 es ts (a+1) i j)):=by
 induction h with
 |nil=>exact .inl ⟨by simp,rfl⟩
 | @add ks ds h b k l ha hi hj hn ih =>
  rw[JF _ h.len];rcases ih with⟨h1,h2⟩|⟨h1,h2⟩
  .rw[h2];by_cases e:stK b k l=stK a i j
   .obtain⟨rfl,rfl,rfl⟩:=FI e;right;exact⟨by simp,by simp[sD]⟩
   .left;refine⟨λz=>?_,by simp only[sD];rw[aF e]⟩;rcases List.mem_append.mp z with z|z
    .exact h1 z
    .exact e (List.mem_singleton.mp z).symm
  .rw[h2];right;exact⟨dP _ h1,rfl⟩
def stN (L a i j:Nat):Nat:=(a*L+i)*L+j
theorem Cq:∀(N:Nat) (l:au Nat),l.Nodup->(∀ x∈l,x<N)->l.length<=N
 | 0,l,_,h=>by
  cases l with
  |nil=>exact aw _
  |cons x l=>exact absurd (h x<|by simp) (Nat.not_lt_zero _)
 | N+1,l,nd,h=>by
  have h1:=Cq N (l.filter λx=>decide (x≠N)) (nd.sublist dU) λx hx=>by rw[fk,bS]at hx;have:=h x hx.1;lia
  have h2:l.length<=(l.filter λx=>decide (x≠N)).length+1:=by
   clear h1 h;induction l with
   |nil=>simp
   | cons x l ih =>
    rw[List.nodup_cons]at nd;rw[cu];by_cases e:x=N
    .subst e;have:l.filter (λy=>decide (y≠x))=l:=List.filter_eq_self.mpr λy hy=>by rw[bS];rintro rfl;exact nd.1 hy
     rw[aF (by simp),this,a8];lia
    .rw[aE (by simp[e]),a8,a8];have:=ih nd.2;lia
  lia
def Memo.codes {es:au Int}{ts:au Tk}{A:Nat}{ks:au (au Key)}{ds:au D}(h:Memo es ts A ks ds):∃ cs:au (Nat×Nat×Nat),cs.Nodup/\(∀ c∈cs,c.1<=A/\c.2.1<es.length/\c.2.2<es.length)/\ks=cs.map λc=>stK c.1 c.2.1 c.2.2:=by
 induction h with
 |nil=>exact⟨[],by simp,by simp,rfl⟩
 | @add ks ds h a i j ha hi hj hn ih =>
  obtain⟨cs,h1,h2,rfl⟩:=ih;refine⟨cs++[(a,i,j)],?_,?_,by simp⟩
  .rw[eP];refine⟨h1,by simp,λx hx y hy=>?_⟩;rw[List.mem_singleton.mp hy];rintro rfl;exact hn (List.mem_map.mpr ⟨_,hx,rfl⟩)
  .intro c hc;rcases List.mem_append.mp hc with hc|hc
   .exact h2 c hc
   .rw[List.mem_singleton.mp hc];exact⟨ha,hi,hj⟩
def RW {L a i j A:Nat}(ha:a<=A)(hi:i<L)(hj:j<L):stN L a i j<(A+1)*L*L:=by
 unfold stN;have h1:a*L+i<(A+1)*L:=by have:(a+1)*L<=(A+1)*L:=Nat.mul_le_mul_right L (by lia);rw[Nat.add_mul]at this;lia
 have h2:(a*L+i+1)*L<=(A+1)*L*L:=Nat.mul_le_mul_right L h1;rw[Nat.add_mul]at h2;lia
def Fy {L x y x' y':Nat}(hy:y<L)(To:y'<L)(h:x*L+y=x'*L+y'):x=x'/\y=y':=by
 have hL:0<L:=by lia
 have q:∀ u v:Nat,v<L->(u*L+v) / L=u:=λu v hv=>by rw[Nat.mul_comm,Nat.mul_add_div hL,Nat.div_eq_of_lt hv,Nat.add_zero]
 have e:x=x':=by rw[<- q x y hy,h,q x' y' To]
 subst e;exact⟨rfl,by lia⟩
def N5 {L a i j b k l:Nat}(hi:i<L)(hj:j<L)(hk:k<L)(hl:l<L)(h:stN L a i j=stN L b k l):a=b/\i=k/\j=l:=by obtain⟨h1,h2⟩:=Fy hj hl h;obtain⟨h3,h4⟩:=Fy hi hk h1;exact⟨h3,h4,h2⟩
def Memo.bd {es:au Int}{ts:au Tk}{A:Nat}{ks:au (au Key)}{ds:au D}(h:Memo es ts A ks ds):ks.length<=(A+1)*es.length*es.length:=by
 obtain⟨cs,h1,h2,rfl⟩:=h.codes;rw[gP];have:=Cq ((A+1)*es.length*es.length) (cs.map λc=>stN es.length c.1 c.2.1 c.2.2) ?_ ?_
 .rwa [gP]at this
 .refine List.pairwise_map.mpr (List.Pairwise.imp_of_mem (λ{x y} hx hy ne e=>ne ?_) h1);obtain⟨x1,x2,x3⟩:=h2 _ hx;obtain⟨y1,y2,y3⟩:=h2 _ hy;obtain⟨e1,e2,e3⟩:=N5 x2 x3 y2 y3 e;exact Prod.ext e1 (Prod.ext e2 e3)
 .intro x hx;obtain⟨c,hc,rfl⟩:=List.mem_map.mp hx;obtain⟨a1,a2,a3⟩:=h2 c hc;exact RW a1 a2 a3
structure Bm (C:ao)(μ:MS)(k:Nat)(es:List Int)(ts:List Tk)(A j a i b:Nat):Prop where
 at_:μ[k]?=some (.ins C Ff<|IV es ts A j)
 ha:a<=A
 Iv:i<b
 hb:b<es.length
 hl:es.length<=100
 ht:ts.length<=100
 hA:A<=100
 ok:fQ es ts (a+1) i b<(es.length:Int) - 1
def vB {C:ao}{μ:MS}{k:Nat}{ns:au Str}{ds:au D}{f:Str}{d:D}(h:μ[k]?=some (.ins C ns ds))(e:lG f ns ds=some d):(AD C μ k).bind (λq=>lG f q.1 q.2)=some d:=by rw[o9 h];exact e
def qR {C:ao}{μ:MS}{k:Nat}{ns:au Str}{ds:au D}{f:Str}(h:μ[k]?=some (.ins C ns ds))(e:lG f ns ds=none):(AD C μ k).map (λq=>lG f q.1 q.2)=some none:=by rw[o9 h];exact cD some e
section
variable {es:au Int}{ts:au Tk}{A j:Nat}
def zw:lG "places" Ff (IV es ts A j)=some (.lst<|es.map D.int):=by kernel_rfl
def P0:lG "rows" Ff (IV es ts A j)=some (.lst<|ts.map<|jk es):=by kernel_rfl
def uP:lG "tables" Ff (IV es ts A j)=some (.jS (mI<|A+1)<|nH es ts<|A+1):=by kernel_rfl
def Dl:lG "whole" Ff (IV es ts A j)=some (vt A 0<|es.length - 1):=by kernel_rfl
def uQ:lG "counts" Ff (IV es ts A j)=some (.mr j):=by kernel_rfl
def qY {f:Str}(h:f∈([("is_take" : Str), "clean_takes","halves","counted","count_anew","numbered","rank"]:au Str)):lG f Ff (IV es ts A j)=none:=by simp only[a6,aN,cb]at h;rcases h with rfl|rfl|rfl|rfl|rfl|rfl|rfl<;>kernel_rfl
def zS {a:Nat}(ha:a<=A):qW ((mI<|A+1).zip<|nH es ts<|A+1) (.inl (a:Int))=some (.lst<|kQ es.length<|fQ es ts<|a+1) :=
 vX (xs:=List.range<|A+1) (k:=a) (λk=>D.lst<|kQ es.length<|fQ es ts<|k+1) (List.mem_range.mpr<|by lia)
def zV {T:Nat->Nat->Int}{L i:Nat}(h:i<L):kr (kQ L T) (i:Int)=some (.lst<|jU L<|T i):=kM (pZ h)
def Af {f:Nat->Int}{L i:Nat}(h:i<L):kr (jU L f) (i:Int)=some (.int<|f i):=kM (ni h)
end
def AZ (C:ao):j4:=λds μ K=>match ds with
 |[.mr k,s]=>∃(es:au Int) (ts:au Tk) (A j a i b:Nat),Bm C μ k es ts A j a i b/\s=vt a i b/\K (.bl<|decide (fQ es ts (a+1) i b=0)) μ
 |_=>False
def A4 (C:ao):j4:=λds μ K=>match ds with
 |[.mr k,s]=>∃(es:au Int) (ts:au Tk) (A j a i b:Nat),Bm C μ k es ts A j a i b/\s=vt a i b/\K (.lst<|(vw es ts a i b).map λx=>.int (x:Nat)) μ
 |_=>False
def Gw (es:au Int)(a i b k:Nat):D:=.tup [.int (es.getD k 0),vt ((a:Int) - 1) i k,vt ((a:Int) - 1) k b]
def A0 (C:ao):j4:=λds μ K=>match ds with
 |[.mr k,s]=>∃(es:au Int) (ts:au Tk) (A j a i b:Nat),Bm C μ k es ts A j a i b/\s=vt a i b/\1<=a/\K (.lst<|(o7 (fQ es ts<|a+1) (fQ es ts a) i b).map<|Gw es a i b) μ
 |_=>False
structure Uk (es:List Int)(ts:List Tk):Prop where
 nn:∀ a x y,x<es.length->y<es.length->0<=fQ es ts a x y
 z:∀ x y,x<es.length->y<es.length->fQ es ts 1 x y<(es.length:Int) - 1->fQ es ts 1 x y=0
def uJ (C:ao)(n:Nat):j4:=λds μ K=>match ds with
 | [.mr k,s]=>∃(es:au Int) (ts:au Tk) (A j a i b:Nat) (ks:au (au Key)) (dd:au D),Bm C μ k es ts A j a i b/\s=vt a i b/\a<n/\Uk es ts/\k≠j/\μ[j]?=some (.nA ks dd)/\Memo es ts A ks dd /\
  ∀ oi oO,Memo es ts A oi oO->K (.int<|j0 es ts (a+1) i b) (μ.set j<|.nA oi oO)
 |_=>False
def Bm.put {C:ao}{μ:MS}{k:Nat}{es:au Int}{ts:au Tk}{A j a i b:Nat}{m:MO}(h:Bm C μ k es ts A j a i b)(hk:k≠j):Bm C (μ.set j m) k es ts A j a i b:=⟨by rw[bp (bX hk)];exact h.at_,h.ha,h.Iv,h.hb,h.hl,h.ht,h.hA,h.ok⟩
def gD.never {P:ah}{w:ai}{K:aa}{mg:Str->av ar}{fB:Heap}{CX:Hn}{k:Nat}{f:ao}{fd:aj}{ps:au Str}{sp:Sp}(h:∀ vs H Q E,¬ sp vs H Q E):gD P w K mg fB CX k f fd ps sp :=
 ⟨λvs H Q E q=>(h vs H Q E q).elim,λA fY s H args us vs Q E _ _ _ _ q=>(h vs H Q E q).elim⟩
def IB {C:ao}(vs:au V)(H:Hp)(Q:VK)(E:XK):¬ iB (uJ C 0) vs H Q E:=λh=>by
 obtain⟨φ,ds,μ,K,_,_,h,_⟩:=h;unfold uJ at h;split at h
 .obtain⟨es,ts,A,j,a,i,b,ks,dd,_,_,h,_⟩:=h;lia
 .exact h
def L7 (C:ao):j4:=λds μ K=>match ds with
 | [.mr k,.int n,.lst x,.lst y]=>∃(cs:au Int) (ts:au Tk),x=cs.map D.int/\y=ts.map nB/\gv n cs ts/\cs.length<=60/\jT (fw n cs) ts=none/\μ[k]?=some (.ins C [] []) /\
  ∀ A:Nat,A<=66->iM (fw n cs) ts n A->K .iC (μ.set k (.ins C Ff<|IV (fw n cs) ts A μ.length)++[.nA [] []])
 |_=>False
def yL {n:Int}{cs:au Int}{ts:au Tk}(S:gv n cs ts)(x y:Nat)(hx:x<(fw n cs).length)(hy:y<(fw n cs).length)(h:fQ (fw n cs) ts 1 x y<((fw n cs).length:Int) - 1):fQ (fw n cs) ts 1 x y=0:=by
 have s0:=kH S 0;have s1:=kH S 1 x y hx hy;by_cases q:y<=x
 .exact s1.1 q
 .rcases s1.2 (by lia)with⟨_,e⟩ | ⟨g1,g2,g3⟩
  .lia
  .rw[g3];have:mL (fw n cs) ts 1 x y<=1:=by
    show lB (fw n cs) (i0 (fw n cs) ts (0:Nat)) (mL (fw n cs) ts 0) x y<=1;unfold lB;split
    .lia
    .split
     .lia
     .have:pJ (mL (fw n cs) ts 0) x y=[]:=List.eq_nil_iff_forall_not_mem.mpr λv hv=>by obtain⟨k,_,_,z,_⟩:=lI.mp hv;exact absurd z (by show ¬ (0:Int)<0*0;lia)
      rw[this];show(0:Int)<=1;lia
   lia
theorem GA {α:Type}(p:α->Bool)(f:α->D):∀ xs:au α,xs.filterMap (λx=>if p x=true then some (f x)else none)=(xs.filter p).map f
 |[]=>rfl
 | x::xs=>by
  rw[cH,cu];by_cases h:p x=true
  .rw[aE h,aE h];show _::_=_;rw[GA p f xs];rfl
  .rw[aF h,aF h];exact GA p f xs
def E7 (ds:au D):nT ds=(List.range ds.length).map λx=>D.tup [.int (x:Nat),ds.getD x .iC]:=by
 apply cy;intro i;rw[mS];by_cases h:i<ds.length
 .rw[aY h];unfold nT;rw[bQ,aY h,iD h];simp[aA,iD h]
 .rw[eY (by rw[mY];lia),eY (by rw[pF];lia)];rfl
def Oh (i:Int)(n:Nat):ky i n=(List.range n).map λx=>D.int (i+(x:Nat)):=rfl
def J4 {es:au Int}{ts:au Tk}{x:Nat}{t:Tk}(h:ts[x]?=some t):(ts.map<|jk es).getD x .iC=jk es t:=by rw[aA,mS,h];rfl
def BR {n:Int}{cs:au Int}{ts:au Tk}(S:gv n cs ts):Uk (fw n cs) ts:=by
 refine⟨λa x y hx hy=>?_,λx y hx hy h=>yL S x y hx hy h⟩;have s:=kH S a x y hx hy;by_cases q:y<=x
 .rw[s.1 q];lia
 .rcases s.2 (by lia)with⟨_,e⟩|⟨_,_,e⟩<;> lia
def Gv (es:au Int)(a i b:Nat):Gw es (a+1) i b=λk=>D.tup [.int (es.getD k 0),vt a i k,vt a k b]:=by funext k;unfold Gw;rw[show((a+1:Nat):Int) - 1=(a:Int) by lia]
def BU {f:Nat->Int}{M:au Nat}{z:Nat}(h:z<M.length):((M.take<|z+1).map f).sum=((M.take z).map f).sum+f M[z]:=by rw[List.take_succ,iD h,bB,List.sum_append];simp
def Et (T U:Nat->Nat->Int)(i b:Nat):o7 T U i b=((List.range<|b - (i+1)).filter λx=>decide (U i (i+1+x)+U (i+1+x) b+1=T i b)).map (i+1+·):=by unfold o7;rw[List.filter_map];rfl
def Memo.same {es:au Int}{ts:au Tk}{A:Nat}{ks:au (au Key)}{ds:au D}(h:Memo es ts A ks ds)(a i b:Nat):∀ p∈ks.zip ds,p.1=stK a i b->p.2=.int (j0 es ts (a+1) i b):=by
 induction h with
 |nil=>intro p hp;cases hp
 | @add ks ds h b' k' l' ha hi hj hn ih =>
  intro p hp e;rw[List.zip_append h.len.symm]at hp;rcases List.mem_append.mp hp with hp|hp
  .exact ih p hp e
  .simp only[cK,List.zip_nil_right,List.mem_singleton]at hp;subst hp;obtain⟨rfl,rfl,rfl⟩:=FI e;rfl
def Memo.put {es:au Int}{ts:au Tk}{A:Nat}{ks:au (au Key)}{ds:au D}(h:Memo es ts A ks ds){a i b:Nat}(ha:a<=A)(hi:i<es.length)(hb:b<es.length):
 Memo es ts A (zR ks ds (stK a i b)<|.int<|j0 es ts (a+1) i b).1 (zR ks ds (stK a i b)<|.int<|j0 es ts (a+1) i b).2/\stK a i b∈(zR ks ds (stK a i b)<|.int<|j0 es ts (a+1) i b).1:=by
 have em:(ks.any λx=>decide (x=stK a i b))=true↔stK a i b∈ks:=by simp only[fc,bS];exact⟨λpT=>by obtain⟨x,h1,h2⟩:=pT;exact h2▸h1,λh=>⟨_,h,rfl⟩⟩
 unfold zR;by_cases q:stK a i b∈ks
 .rw[aE (em.mpr q)];refine⟨?_,q⟩;have e:(ks.zip ds).map (λp=>if p.1=stK a i b then D.int (j0 es ts (a+1) i b)else p.2)=ds:=by
   have e1:(ks.zip ds).map (λp=>if p.1=stK a i b then D.int (j0 es ts (a+1) i b)else p.2)=(ks.zip ds).map (·.2):=bY λp hp=>by
    by_cases z:p.1=stK a i b
    .rw[aE z,h.same a i b p hp z]
    .rw[aF z]
   rw[e1,List.map_snd_zip (by rw[h.len];exact aw _)]
  rw[e];exact h
 .rw[aF λz=>q<|em.mp z];exact⟨h.add ha hi hb q,by simp⟩
inductive Nj (es:List Int)(ts:List Tk)(n:Int):Int->Prop
 |no (h:jT es ts≠none):Nj es ts n 0
 |yes (a:Nat) (ha:a<=66) (hb:jT es ts=none) (h:iM es ts n a):Nj es ts n (j0 es ts (a+1) 0<|es.length - 1)
theorem Nj.uniq {es:au Int}{ts:au Tk}{n c c':Int}(h:Nj es ts n c)(h':Nj es ts n c'):c'=c:=by
 cases h with
 | no h =>
  cases h' with
  |no _=>rfl
  |yes a ha hb _=>exact absurd hb h
 | yes a ha hb la =>
  cases h' with
  |no h=>exact absurd hb h
  |yes b _ _ lb=>rw[la.uniq lb]
abbrev At (g:Heap)(b:ao):Prop:=∃ u,g.get? b=some u
structure Kp (g:Heap)(l:List Env)(h h':Heap):Prop where
 other:∀ b o,h.get? b=some o->At g b->b∉AK l->h'.get? b=some o
 slot:∀ b o,h.get? b=some o->At g b->b∈AK l->∃ sl,h'.get? b=some { o with slots:=sl}
def Kp.trans (a:Kp g l h1 h2)(b:Kp g l h2 h3):Kp g l h1 h3 :=
 ⟨λc o q lt hc=>b.other c o (a.other c o q lt hc) lt hc,λc o q lt hc=>by
  let ⟨sl,e⟩:=a.slot c o q lt hc
  let ⟨Vr,e'⟩:=b.slot c _ e lt hc
  exact⟨Vr,e'⟩⟩
def Kp.any (a:Kp g l h h')(q:h.get? b=some o)(lt:At g b):∃ sl,h'.get? b=some { o with slots:=sl}:=by
 by_cases hb:b∈AK l
 .exact a.slot b o q lt hb
 .exact⟨o.slots,a.other b o q lt hb⟩
def Kp.of (k:∀ b o,h.get? b=some o->At g b->h'.get? b=some o):Kp g l h h':=⟨λb o q lt _=>k b o q lt,λb o q lt _=>⟨o.slots,k b o q lt⟩⟩
abbrev Gk (g h:Heap):Prop:=∀ b,At g b->At h b
def Kp.gk (a:Kp g l h h')(k:Gk g h):Gk g h':=λb hb=>by let ⟨o,e⟩:=k b hb;let ⟨sl,e'⟩:=a.any e hb;exact⟨_,e'⟩
def Gk.fresh (k:Gk g h):g.get? h.objs.size=none:=by
 cases q:g.get? h.objs.size with
 |none=>rfl
 |some o=>let ⟨o',e⟩:=k _ ⟨o,q⟩;exact absurd (jd e) (cf _)
def Hc (h:At g b)(hc:g.get? c=none):c≠b:=λz=>by let ⟨u,e⟩:=h;rw[<- z,hc]at e;cases e
def Fm (g:Heap)(e:ao)(cls fl:ar)(h:Heap):Prop:=∃(oe:Obj) (vs:Array ar) (T:ao) (oT:Obj) (ts:Array ar),(h.get? e=some oe/\(oe.cls=cls/\oe.dict=none)/\oe.data=.fields vs/\vs[1]?=some (.ref T)/\vs[2]?=some .none)/\(g.get? T=none/\T≠e/\h.get? T=some oT/\oT.data=.fields ts/\ts[3]?=some fl)/\g.get? e=none
section
variable {M:Model}{A:Around}{E:ar->ak->Prop}{s:ak}
def zj
 (Ph:A.frames=some (env::fY)) (hl:s.heap.FunFrames fB (env::fY)) (hf:env.frame=some L) (he:s.heap.get? e=some oe) (Z4:oe.dict=none) (hd:oe.data=.fields vs) (h1:1<vs.size) (h2:vs[2]?=some .none) (hn:g.get? e=none) (hs:Gk g s.heap)
 (h:∀ h',Fm g e oe.cls (rawInt L) h'->Kp g (env::fY) s.heap h'->Q () {s with heap:=h'}):
 wpAny M A (do let a <- frameOf env;let pl <- entryPlaceOf L Ye;let b <- EntryCells.newEntry head a .none (rawInt L) .none pl;setField (.ref e) 1 b) Q E s:=by
 have ZW:e∉(env::fY).filterMap (·.frame):=λhm=>by obtain⟨_,o,ho,hnf⟩:=hl.mem hm;rw[he]at ho;injection ho with ho;subst ho;exact hnf vs hd
 refine fW (wpAny_frameOf_fun Ph hl hf λm x=>?_);refine fW (wpAny_entryPlaceOf λpl ql=>?_);refine fW<|dk ?_<|ql.sizeOk5 _ _ _ _ _;obtain⟨rec,Tr⟩:∃ rec:Obj,rec={ cls:=.type "traceback",dict:=none,data:=.fields ([head,.ref L,.none,rawInt L,.none]++(if pl.isEmpty then List.replicate 6 Value.none else pl)).toArray}:=⟨_,rfl⟩;rw[<- Tr];have e1:=(x.2.1 e ZW).trans he;have e2:=jw rec e1;have hT:(m.push rec).get? m.objs.size=some rec:=aD m (by rw[Tr];rfl);have TF:=bE<|jd e1;have Wo:=d8 hd (·.setIfInBounds 1 (Value.ref m.objs.size));have e3:=bF (Obj.mapFields (·.setIfInBounds 1 (Value.ref m.objs.size))) e2<|eX Wo;refine eG e2 hd h1 (h _ ⟨_,_,m.objs.size,rec,_,⟨e3,⟨Obj.cls_mapFields _ _,by unfold Obj.mapFields;split<;>exact Z4⟩,Wo,by simp[h1],by rw[Array.getElem?_setIfInBounds_ne (by decide)];exact h2⟩,⟨by rw[x.1];exact hs.fresh,TF,?_,by rw[Tr],?_⟩,hn⟩ ⟨λb o q lt hb=>?_,λb o q lt hb=>?_⟩)
 .rw[aX _ _ (bX TF)];exact hT
 .first|(simp;done)|(rcases ql with rfl|⟨_,_,_,_,_,_,_,rfl⟩<;> simp)
 .rw[aX _ _ (Hc lt hn)];exact jw _ ((x.2.1 b hb).trans q)
 .obtain⟨sl,q'⟩:=x.2.2 b o q;exact⟨sl,by rw[aX _ _ (Hc lt hn)];exact jw _ q'⟩
def Ep
 (Ph:A.frames=some (env::fY)) (hl:s.heap.FunFrames fB (env::fY)) (hf:env.frame=some L) (he:s.heap.get? e=some oe) (Z4:oe.dict=none) (hd:oe.data=.fields vs) (h1:vs[1]?=some .none) (h2:vs[2]?=some .none) (hn:g.get? e=none) (hs:Gk g s.heap)
 (h:∀ h',Fm g e oe.cls (rawInt L) h'->Kp g (env::fY) s.heap h'->Q () {s with heap:=h'}):wpAny M A (noteFrame (.ref e) env) Q E s:=by
 unfold noteFrame;simp only[hf];exact fW (aT he hd h1<|zj Ph hl hf he Z4 hd (Array.getElem?_eq_some_iff.mp h1).1 h2 hn hs h)
def HV
 (Ph:A.frames=some (env::fY)) (hl:s.heap.FunFrames fB (env::fY)) (hf:env.frame=some L) (hs:Gk g s.heap) (x:Fm g e cls .none s.heap)
 (h:∀ h',Fm g e cls (rawInt L) h'->Kp g (env::fY) s.heap h'->Q () {s with heap:=h'}):wpAny M A (noteFrame (.ref e) env) Q E s:=by
 let ⟨oe,vs,T,oT,ts,⟨he,hc,hd,h1,h2⟩,⟨hn,TF,hT,TB,h3⟩,EJ⟩:=x;unfold noteFrame;simp only[hf];refine fW<|aT he hd h1<|fW<|aT hT TB h3<|fW<|eG hT TB (Array.getElem?_eq_some_iff.mp h3).1 ?_;have other:∀ b,b≠T->(s.heap.update T (Obj.mapFields (·.setIfInBounds 3 Value.none))).get? b=s.heap.get? b:=λb hb=>aX _ _<|bX hb;have ff:=hl.of_keeps λb o q nf=>⟨o,(other b λz=>by rw[z,hT]at q;cases q;exact nf _ TB).trans q,rfl⟩;have k0:Kp g (env::fY) s.heap (s.heap.update T (Obj.mapFields (·.setIfInBounds 3 Value.none))):=Kp.of λb o q lt=>(other b<|bX<|Hc lt hn).trans q;exact zj Ph ff hf ((other e<|bX TF).trans he) hc.2 hd (Array.getElem?_eq_some_iff.mp h1).1 h2 EJ (k0.gk hs) λh' a k=>h h' (hc.1▸a) (k0.trans k)
def vf (x:Fm g e cls fl s.heap)
 (h:∀ h',Fm g e cls .none h'->Kp g l s.heap h'->(∀ b o,s.heap.get? b=some o->(∀ vs,o.data≠.fields vs)->h'.get? b=some o)->Q () {s with heap:=h'}):wpAny M A (setFlight (.ref e) none) Q E s:=by
 let ⟨oe,vs,T,oT,ts,⟨he,hc,hd,h1,h2⟩,⟨hn,TF,hT,TB,h3⟩,EJ⟩:=x;refine fW<|aT he hd h1 ?_;have h3s:=(Array.getElem?_eq_some_iff.mp h3).1;have Wo:=d8 TB (·.setIfInBounds 3 ((none:av ao).elim Value.none λf=>rawInt f));have other:∀ b,b≠T->(s.heap.update T (Obj.mapFields (·.setIfInBounds 3 ((none:av ao).elim Value.none λf=>rawInt f)))).get? b=s.heap.get? b:=λb hb=>aX _ _<|bX hb;refine eG hT TB h3s (h _ ⟨oe,vs,T,_,_,⟨(other e<|bX TF).trans he,hc,hd,h1,h2⟩,⟨hn,TF,bF _ hT<|eX Wo,Wo,by simp[h3s]⟩,EJ⟩ (Kp.of λb o q lt=>(other b<|bX<|Hc lt hn).trans q) λb o q nf=>(other b λz=>by rw[z,hT]at q;cases q;exact nf _ TB).trans q)
end
def Jr (P:ah)(w:ai):Hn:=λfY H s E ev s'=>∃(e:ao) (cls:ar) (H':Hp) (g:Heap),ev=.ref e/\s'.os=s.os/\AllBare s'.gens/\Un (AK fY) [] H H' s.heap s'.heap/\qO P w H' s'.heap/\(Gk s.heap g/\(∀ b,H' b≠none->At g b)/\Gk g s'.heap)/\Fm g e cls .none s'.heap/\E cls none H'
def at_of (x:qO P w H h)(e:H a=some o):At h a:=by
 have x:=x a o e;cases o with
 |lst xs=>let ⟨_,_,_,_,e⟩:=x;exact⟨_,e⟩
 |tup xs=>let ⟨_,_,_,_,e,_⟩:=x;exact⟨_,e⟩
 |dK fO=>let ⟨_,_,_,_,o,_,_,e,_⟩:=x;exact⟨_,e⟩
 |dT fO=>let ⟨_,_,_,_,o,_,_,e,_⟩:=x;exact⟨_,e⟩
 |set S n=>let ⟨o,_,_,_,e,_⟩:=x;exact⟨_,e⟩
 |ins C dx fs=>let ⟨_,_,_,e,_⟩:=x;exact⟨_,e⟩
 |own y=>let ⟨_,e⟩:=x;exact⟨_,e⟩
 |xd fs=>let ⟨_,⟨_,_,_,e,_⟩,_⟩:=x;exact⟨_,e⟩
 |XU lo hi=>let ⟨_,_,_,e⟩:=x;exact⟨_,e⟩
 |CN ob u=>let ⟨e,_⟩:=x;exact⟨_,e⟩
 |Qy ps=>exact⟨_,x⟩
 |met f y=>exact⟨_,x⟩
 |ext φ=>let ⟨_,⟨_,e⟩,_⟩:=x;exact⟨_,e⟩
def LI (x:qO P w H h)(hb:∀ b,H b≠none->At g b/\b∉AK l)(k:Kp g l h h'):qO P w H h':=λa o e =>
 (x a o e).zX (λb u EM q=>by
   have hn:H b≠none:=by rcases EM with rfl|z<;>intro y<;>simp_all
   exact k.other b u q (hb b hn).1 (hb b hn).2) (λ_ q=>q) λ_ _ q=>q
section
variable {X:Cx}{fA:au (ao×Obj)}{σ:St}{H H':Hp}{s:ak}{g h1 h2:Heap}
def Inv.exit (I:Inv X fA σ H s)(hx:X.ex=[])(u:Un (AK X.stack) [] H H' s.heap h1)(hg:Gk s.heap g)(k:Kp g X.stack h1 h2):Un X.fs [] X.H₀ H' X.s₀.heap h2:=by
 have nx:∀ b,b∉X.ex:=λb z=>by rw[hx]at z;cases z
 have nn:∀ b:ao,b∉([]:au ao):=λb z=>by cases z
 have atg:∀ b o,X.s₀.heap.get? b=some o->At g b:=λb o e=>by let ⟨o',e'⟩:=I.fB.there b o e<|nx b;exact hg b ⟨o',e'⟩
 refine⟨λb o e n hb _=>?_,λb o e n hb _=>?_,λb o e n _=>?_,λb o e _=>?_,λb xs e=>u.uf b xs<|I.fB.uf b xs e,λb o xs e=>u.tI b o xs<|I.fB.tI b o xs e,λb ps e=>?_⟩
 .have e1:=I.fB.keep b o e n hb<|nx b;have n1:=I.fB.free b o e n<|nx b;have hs:b∉AK X.stack:=λz=>by
   rcases List.mem_cons.mp (I.wx b z)with y|y
   .exact absurd y (aC<|aL (jd e) I.ok.above)
   .exact hb y
  exact k.other b o (u.keep b o e1 n1 hs<|nn b) (atg b o e) hs
 .let ⟨sl,e1⟩:=I.fB.slot b o e n hb<|nx b;have n1:=I.fB.free b o e n<|nx b;let ⟨sl2,e2⟩:=u.any e1 n1<|nn b;let ⟨sl3,e3⟩:=k.any e2<|atg b o e;exact⟨sl3,e3⟩
 .let ⟨o',e1⟩:=I.fB.there b o e<|nx b;exact u.free b o' e1 (I.fB.free b o e n<|nx b) (nn b)
 .let ⟨o',e1⟩:=I.fB.there b o e<|nx b;let ⟨o2,e2⟩:=u.there b o' e1<|nn b;obtain⟨sl,e3⟩:=k.any e2<|atg b o e;exact⟨_,e3⟩
 .obtain⟨m1,e1⟩:=I.fB.ui b ps e;obtain⟨m2,e2⟩:=u.ui b _ e1;exact⟨m1++m2,by rw[e2,Array.append_assoc]⟩
end
section
variable {P:ah}{w:ai}{K:aa}{mg:Str->av ar}{fB:Heap}{N:au Str}{qual:Str}{scope:Scope}{f:ao}{cd:ar}{A:Around}{fY:au Env}{s₀ s:ak}{H₀ H:Hp}{E:XK}{fA:au (ao×Obj)}{σ:St}
def Wz:Passes (Jr P w) (rZ (Jr P w) P w K mg fB N qual scope f cd A fY s₀ H₀ E) E:=λfA σ H s ev s' I c=>by
 obtain⟨e,cls,H',g,rfl,os,bare,un,iH,⟨g1,g2,g3⟩,ex,hE⟩:=c;have I2:=I.ML (s':=s') os un iH bare (λb z=>absurd z<|by simp);have Ph:=I.ok.frames;refine fW (HV Ph I2.stack rfl g3 ex λh1 x1 k1=>vf (l:=envOfC qual scope s₀.heap.objs.size f cd::fY) x1 λh2 x2 k2 _=>?_);have k:=k1.trans k2;exact⟨e,cls,H',g,rfl,os.trans I.os,bare,I.exit rfl un g1 k,LI iH (λb hb=>⟨g2 b hb,λz=>hb<|I2.sF b z⟩) k,⟨λb hb=>by
  let ⟨o,e0⟩:=hb
  let ⟨o',e1⟩:=I.fB.there b o e0 (by simp[rZ])
  exact g1 b ⟨o',e1⟩,g2,k.gk g3⟩,x2,hE⟩
def raises (I:Inv (rZ (Jr P w) P w K mg fB N qual scope f cd A fY s₀ H₀ E) fA σ H s)(x:Heap.MadeExcOf s.heap h' e cls vs)(hE:E cls none H):(rZ (Jr P w) P w K mg fB N qual scope f cd A fY s₀ H₀ E).xe (.ref e) { s with heap:=h'}:=by
 have Ph:=I.ok.frames;obtain⟨t,he,htn,ht⟩:=x.there;have ff:=I.stack.of_keeps λb o q _=>⟨o,x.keeps b o q,rfl⟩;have gk:Gk s.heap h':=λb pS=>by obtain⟨o,q⟩:=pS;exact⟨o,x.keeps b o q⟩
 refine fW (Ep Ph ff rfl he rfl rfl rfl rfl x.new gk λh1 x1 k1=>?_);refine vf (l:=envOfC qual scope s₀.heap.objs.size f cd::fY) x1 λh2 x2 k2 _=>?_;have k:=k1.trans k2;have un:Un (AK<|envOfC qual scope s₀.heap.objs.size f cd::fY) [] H H s.heap h':=Un.iR x.keeps;have iH:=I.iH.iR x.keeps;refine⟨e,cls,H,s.heap,rfl,I.os,I.bare,I.exit rfl un (λb hb=>hb) k,LI iH (λb hb=>⟨?_,λz=>hb<|I.sF b z⟩) k,⟨λb hb=>?_,λb hb=>?_,k.gk gk⟩,x2,hE⟩
 .cases q:H b with
  |none=>exact absurd q hb
  |some o=>exact at_of I.iH q
 .obtain⟨o,e0⟩:=hb;obtain⟨o',e1⟩:=I.fB.there b o e0 (by simp[rZ]);exact⟨o',e1⟩
 .cases q:H b with
  |none=>exact absurd q hb
  |some o=>exact at_of I.iH q
end
abbrev DX:=ar->MS->Prop
def Dv (φ:au ao)(H:Hp)(Kx:DX)(E:XK):Prop:=∀ c fZ gO H',Kx c fZ->Fr φ H gO H'->gy gO H' fZ->E c none H'
abbrev Dx:=au D->MS->DK->DX->Prop
def Vn (f:Dx):Sp:=λvs H Q E=>∃ φ ds μ K Kx,fV φ H ds vs/\gy φ H μ/\f ds μ K Kx/\wg φ H K Q/\Dv φ H Kx E
structure Uq (P:ah)(w:ai)(K:aa)(mg:Str->Option ar)(fB:Heap)(x:Str)(k:Nat)(ps:List Str)(sp:Sp):Prop where
 ex:∃ f fd,gD P w K mg fB (Jr P w) k f fd ps sp/\mg x=some (.ref f)/\W.keepIn K (.ref f)=true/\Binds K fd ps []
structure Rm (X:Cx)(lS:List ao)(H0:Hp)(Kx:DX):Prop where
 ex:∃ E:XK,Dv lS H0 Kx E/\Passes (Jr X.prog X.w) X E/\∀(fA:List (ao×Obj)) (σ:St) (H:Hp) (s:ak) (h':Heap) (e:ao) (cls:ar) (vs:List ar),Inv X fA σ H s->Heap.MadeExcOf s.heap h' e cls vs->E cls none H->X.xe (.ref e) {s with heap:=h'}
def gy.ZS (M:gy φ H μ)(e:μ[0]?=some (.gx lS H0)):Fr lS H0 φ H:=let ⟨_,_,h⟩:=M.at_ 0 _ e;h.1
def yA.nt (h:yA φ H m p)(zs:au V):H p≠some (.tup zs):=λe=>by
 cases m with
 |box=>let ⟨q,ns,i,r,z,h1,_⟩:=h;rw[e]at h1;cases h1
 |lst ds=>let ⟨vs,h1,_⟩:=h;rw[e]at h1;cases h1
 |jS ks ds=>let ⟨fO,vs,h1,_⟩:=h;rw[e]at h1;cases h1
 |xn o fO ds=>have h1:=h.1;rw[e]at h1;cases h1
 |ins C ns ds=>let ⟨dx,fs,h1,_⟩:=h;rw[e]at h1;cases h1
 |nA ks ds=>let ⟨fO,h1,_⟩:=h;rw[e]at h1;cases h1
 |gx lS H0=>exact h.2.2.2 zs e
 |exc c=>rw[show _=_ from h]at e;cases e
def gy.ghost (M:gy φ H μ)(e:μ[0]?=some m):gy φ H (μ.set 0<|.gx φ H):=by
 have h0:=(kB e).1;refine⟨M.nd,by rw[ck];exact M.len,λk n en=>?_⟩;by_cases hk:k=0
 .subst hk;rw[aW h0]at en;cases en;let ⟨p,e1,e2⟩:=M.at_ 0 m e;exact⟨p,e1,.refl _ _,rfl,e2.ex,e2.nt⟩
 .rw[bp (bX hk)]at en;exact M.at_ k n en
def gy.back (M:gy φ H μ)(e:μ[0]?=some m)(M':gy gO H' fZ)(e':fZ[0]?=some (.gx φ H)):gy gO H' (fZ.set 0 m):=by
 have h0:=(kB e').1;refine⟨M'.nd,by rw[ck];exact M'.len,λk n en=>?_⟩;by_cases hk:k=0
 .subst hk;rw[aW h0]at en;cases en;let ⟨p',e1,f,hp,_⟩:=M'.at_ 0 _ e';let ⟨p,e2,im⟩:=M.at_ 0 m e;have:=f.get e2;rw[e1]at this;cases this;exact⟨p',e1,im.mono f λo q=>hp.trans q⟩
 .rw[bp (bX hk)]at en;exact M'.at_ k n en
def gK (lS:au ao)(H0:Hp)(m:MO)(K:DK):DK:=λd fZ=>fZ[0]?=some (.gx lS H0)/\K d (fZ.set 0 m)
def gX (lS:au ao)(H0:Hp)(m:MO)(K:DX):DX:=λc fZ=>fZ[0]?=some (.gx lS H0)/\K c (fZ.set 0 m)
def wg.ghost {K:DK}(L:wg φ H K Q)(M:gy φ H μ)(e:μ[0]?=some m):wg φ H (gK φ H m K) Q:=λd fZ gO v H' ⟨e',k⟩ f M' i=>L d _ gO v H' k f (M.back e M' e') i
def Dv.ghost {K:DX}(L:Dv φ H K Q)(M:gy φ H μ)(e:μ[0]?=some m):Dv φ H (gX φ H m K) Q:=λc fZ gO H' ⟨e',k⟩ f M'=>L c _ gO H' k f (M.back e M' e')
section
variable {X:Cx}{e:Expr}{es:au Expr}{pos:Pos}{lS:au ao}{H0:Hp}{Kx:DX}
def T8 (lS:au ao)(H0:Hp)(Kx:DX)(C:ao)(w:DA):Ds:=λ_ ρ μ=>w ρ μ λds gc=>ds.length<=sizeLine/\gc[0]?=some (.gx lS H0)/\Kx (.ref C) gc
def FO {Ff:au ar}(Z:Rm X lS H0 Kx)(hc:X.gH=true)(O:OwnCls x C bm newId X.mg X.fB)(Fn:ExcBaseFacts Bn newId inN Ff)(hBn:bm.contains (.type Bn)=true)
 (FB:ExcBaseFacts B nid Zl bm) (hg:Gl X x) (ha:we X (e::es) w) (hd:(x==("__debug__" : Str))=false:=by decide)
 (he:starEach (e::es) X.env=(false,eval e X.env)::starEach es X.env:=by rfl) (ql:(backTo my<|starEach es X.env).any (·.1)=false:=by rfl):
 zE X (.Raise (some<|.Call (.Name x np) (e::es) [] my) none pos) (T8 lS H0 Kx C w):=λfA s σ H D I hq=>by
 obtain⟨φ,ρ,μ,N,A,M,k,L⟩:=hq;obtain⟨E,LX,hp,mk⟩:=Z.ex;obtain⟨tl,Na,nm,q,bs,hdct,sn,sub,ab,col,dd,k0,k1,k2,k3,k5,mN,hC,hN,ZF,T⟩:=O.obj;refine wpAny_Raise_call_subU (nm:=nm) (q:=q) (N:=Na) (bs:=bs) (hdct:=hdct) (sn:=sn) (sub:=sub) (ab:=ab) (col:=col) (dd:=dd) (k0:=k0) (k1:=k1) (k2:=k2) (k3:=k3) (k5:=k5)
  Fn hBn FB (T.hasType FB.hasBase) (I.ok.hd hc) (by rw[he];show(false||(backTo my<|starEach es X.env).any (·.1))=false;rw[ql];rfl) ZF (Ay I hg O.bound ⟨rfl,?_⟩ hd)
 have h:=ha my fA s σ H (λvs H1=>vs.length<=sizeLine/\E (.ref C) none H1) I ⟨φ,ρ,μ,_,A,M,k,λds gc gL vs H1 k1 f1 M1 i1=>⟨by rw[i1.len];exact k1.1,LX (.ref C) gc gL H1 k1.2.2 (M1.ZS k1.2.1) M1⟩⟩;rw[he]at h ⊢
 refine Calls.evalArgs_plain (bV h (λus s2 qk=>by obtain⟨vs,H1,I1,r1,q1⟩:=qk;exact⟨rfl,by rw[<- r1.length];exact q1.1,I1.bk _ _ hC,hN.keeps I1.bk,T.keeps I1.bk,λh' e' mx=>mk fA σ H1 s2 h' e' _ _ I1 mx q1.2⟩) λ_ _ y=>y)
end
def FX (n:Nat)(K:DX):DX:=λc fZ=>K c fZ\/((∀(j:Nat) (m:MO),j<n->fZ[j]?=some m->BF n m)/\K c (fZ.take n))
def Dv.fx {K:DX}(M:gy φ H μ)(L:Dv φ H K E):Dv φ H (FX μ.length K) E:=λc fZ gO H' k f M'=>by
 rcases k with k|⟨hm,k⟩
 .exact L c fZ gO H' k f M'
 .have GJ:gO.take μ.length=φ:=by obtain⟨⟨ψ,rfl,_⟩,_,_⟩:=f;rw[<- M.len,cG]
  have f0:Fr φ H (gO.take μ.length) H':=by rw[GJ];exact⟨⟨[],by simp,λ_ h=>nomatch h⟩,f.keep,f.Ym⟩
  exact L c _ _ H' k f0 (M'.kF hm)
section
variable {P:ah}{w:ai}{K:aa}{mg:Str->av ar}{fB:Heap}
def jW.okX {x qual:Str}{st:Stmt}{f:ao}{fd:aj}{N ps:au Str}{k:Nat}{fs:Dx}(F:jW K x qual st f fd)(S:fT N ps (fI st))(len:∀ ds μ Kd Kx,fs ds μ Kd Kx->ds.length=ps.length/\∃ m,μ[0]?=some m)
 (xh:∀(lj:ar) (A:Around) (fY:au Env) (s:ak) (H:Hp) (E:XK),jF k (A.deeper<|envOfC qual (fI st) s.heap.objs.size f lj)->∀(lS:au ao) (Kb:DX),Rm (rZ (Jr P w) P w K mg fB N qual (fI st) f lj A fY s H E) lS H Kb ->
   ∃ W,Je (rZ (Jr P w) P w K mg fB N qual (fI st) f lj A fY s H E) (jq st) W/\∀ ds μ m Kd Kx,(∀(j:Nat) (m':MO),(μ.set 0<|.gx lS H)[j]?=some m'->BF (μ.set 0<|.gx lS H).length m')->u4 (μ.set 0<|.gx lS H).length ds->μ[0]?=some m->fs ds μ Kd Kx->Kb=FX (μ.set 0<|.gx lS H).length (gX lS H m Kx) ->
    W (HG (μ.set 0<|.gx lS H).length<|gK lS H m Kd) (rF N ds) (μ.set 0<|.gx lS H)):gD P w K mg fB (Jr P w) (k+1) f fd ps (Vn fs):=by
 obtain⟨oc,od,kV,doc,pm,an,lj,ct,OI,rfl,lk,EL⟩:=F.ex
 refine Rg lk EL S (λvs H Q E h=>?_) λA fY s H vs Q E hr NF=>?_
 .let ⟨φ,ds,μ,Kd,Kx,ha,M,hf,L,LX⟩:=h;rw[ha.len];exact(len ds μ Kd Kx hf).1
 .let ⟨φ,ds,μ,Kd,Kx,ha,M,hf,L,LX⟩:=NF;let ⟨_,m,em⟩:=len ds μ Kd Kx hf;have Mg:=M.ghost em;have Lg:=(L.ghost M em).fz Mg;let ⟨W,hW,q⟩:=xh lj A fY s H E hr φ (FX (μ.set 0<|.gx φ H).length<|gX φ H m Kx) ⟨E,(LX.ghost M em).fx Mg,Wz,λfA σ H' s' h' e cls vs I x hE=>raises I x hE⟩;exact⟨_,hW,φ,rF N ds,μ.set 0<|.gx φ H,HG (μ.set 0<|.gx φ H).length<|gK φ H m Kd,.start ha,Mg,q ds μ m Kd Kx Mg.bound (by rw[<- Mg.len];exact ha.bound) em hf rfl,⟨λkO fZ gO jb H' k' f' A' M'=>Lg .iC fZ gO .iC H' k' f' M' rfl,Lg,λ_ _ _ _ _ k' _ _ _=>k'.elim,λ_ _ _ _ _ k' _ _ _=>k'.elim⟩⟩
end
abbrev hC (lS:au ao)(H0:Hp)(k:Nat):MS->Prop:=λμ=>μ[0]?=some (.gx lS H0)/\∃ c,μ[k]?=some (.exc c)
abbrev Yw:au ar:=[.type "ValueError",.type "Exception",.type "BaseException",.type "object"]
def Ug {K:aa}(q:W.excIn K C bmB newId=true):∃(bm:au ar) (ns:ao) (nm qn:Str) (bs:au ar) (hd:Bool) (sn:au Str) (sub:au ar) (ab:Bool) (col:av Bool) (dd:av ao) (k0 k1 k2 k3 k5:av ar),
 K.lookup C=some (excClassObj nm qn C ns bs bm hd sn sub ab col dd k0 k1 k2 k3 k5 newId)/\W.nsOkIn K ns=true/\W.nsIn K ns "__init__"=some none/\W.tailIn K bmB bm=true:=by
 unfold W.excIn at q;split at q
 .rename_i dd cd sl ho;split at q
  .rename_i C' bm k0 k1 k2 k3 n k5 hm hs;simp at q;let ⟨⟨⟨⟨⟨rfl,rfl⟩,Z6⟩,ht⟩,iH⟩,ZF⟩:=q;let ⟨nm,bs,mro,ns,qn,hd,sn,sub,ab,col,del⟩:=cd;subst hm Z6;have hsl:sl=#[k0,k1,k2,k3,some (.builtin n),k5]:=by let ⟨l⟩:=sl;simp only at hs;rw[hs]
   subst hsl;exact⟨bm,ns,nm,qn,bs,hd,sn,sub,ab,col,dd,k0,k1,k2,k3,k5,ho,iH,ZF,ht⟩
  .cases q
 .cases q
def Sv {K:aa}{h:Heap}{mg:Str->av ar}{x:Str}{C:ao}(X:K.In h)(G:h.Ns mainGlobals mg)(e:W.nsIn K mainGlobals x=some (some<|.ref C))(q:W.excIn K C Yw "ValueError.__new__"=true):OwnCls x C Yw "ValueError.__new__" mg h:=by let ⟨bm,ns,nm,qn,bs,hd,sn,sub,ab,col,dd,k0,k1,k2,k3,k5,h1,h2,h3,h4⟩:=Ug q;exact⟨W.mg_of X G e,bm,ns,nm,qn,bs,hd,sn,sub,ab,col,dd,k0,k1,k2,k3,k5,_,X _ _ h1,.of_isNs<|W.isNs_of_in X h2,W.nsMap_none_of_in X h2 h3,W.tail_of_in X h4⟩
def PV {P:ah}{w:ai}{K:aa}{mg:Str->av ar}{fB h:Heap}{x q:Str}{st:Stmt}{f:ao}{fd:aj}{k:Nat}{ps:au Str}{sp:Sp}(G:K.In h)(N:h.Ns mainGlobals mg)(F:jW K x q st f fd)(ok:gD P w K mg fB (Jr P w) k f fd ps sp)(hb:Binds K fd ps [])
 (a:W.nsIn K mainGlobals x=some (some<|.ref f):=by kernel_rfl):Uq P w K mg fB x k ps sp:=⟨f,fd,ok,W.mg_of G N a,F.kp,hb⟩
def CJ {μ:MS}(em:μ[0]?=some m):(μ.set 0 n)[0]?=some n:=aW (kB em).1
def AI {μ:MS}(em:μ[0]?=some m):(μ.set 0 n).set 0 m=μ:=by
 cases μ with
 |nil=>cases em
 |cons a r=>cases em;rfl
def Wu (hK:Kb=FX n (gX lS H m Kx))(em:μ[0]?=some m)(k:Kx c μ):(μ.set 0<|.gx lS H)[0]?=some (.gx lS H)/\Kb c (μ.set 0<|.gx lS H):=⟨CJ em,by rw[hK];exact .inl ⟨CJ em,by rwa [AI em]⟩⟩
def Ww {K:DK}(em:μ[0]?=some m)(k:K d μ):gK lS H m K d (μ.set 0<|.gx lS H):=⟨CJ em,by rwa [AI em]⟩
def QJ (n e a b:Int):Prop:=e<a/\a<b/\b<=n
instance (n e a b:Int):Decidable (QJ n e a b):=by unfold QJ;infer_instance
def cX (f:Dx):j4:=λds μ K=>f ds μ K λ_ _=>False
def VE:Passes (Jr X.prog X.w) X (λ_ _ _=>False):=λfA σ H s e s' I c=>by let ⟨_,_,_,_,_,_,_,_,_,_,_,z⟩:=c;exact z.elim
section
variable {X:Cx}{a b e o:Expr}{es:au Expr}{pos:Pos}{C:ao}{lS:au ao}{H0:Hp}{Kx:DX}
def MA (C:Uq X.prog X.w X.K X.mg X.fB x k ps (Vn f))(hr:jF k X.A)(hg:Gl X x)(ha:we X (e::es) w)
 (yt:(x==("__debug__" : Str))=false:=by decide) (he:starEach (e::es) X.env=(false,eval e X.env)::starEach es X.env:=by rfl) (ql:(backTo pos<|starEach es X.env).any (·.1)=false:=by rfl):
 PD X (.Call (.Name x p) (e::es) [] pos) (vh (cX f) w):=by
 let ⟨f',fd,F,hm,hk,hb⟩:=C.ex;exact(Ga F hr hg hm hk hb .nil VE ha yt he ql).imp λσ H Q ⟨φ,ρ,μ,K,Ee,M,w,L⟩ =>⟨φ,ρ,μ,_,Ee,M,w,λds gc gL vs H1 k1 f1 M1 i1=>by show Vn f (vs++[]) H1 Q _;rw[b8];exact⟨gL,ds,gc,K,_,i1,M1,k1,L.mono f1,λ_ _ _ _ z _ _=>z.elim⟩⟩
end
inductive Pt where
 |fst (b:List Nat) (a:Int)
 |jn (l r:Str) (p:Int)
structure RS where
 n:Int
 iR:List (Str×Pt)
 YV:List (Int×Unit)
inductive Dd where
 |put (nm b:Str) (a:Int)|join (nm l r:Str) (p:Int)|found (nm:Str) (bar:Int) (sg:Str)|aged (nm:Str) (a:Int)|drop (nm:Str)|free (p:Int)|YV (p:Int)
section
variable {α β:Type}[DecidableEq α]
def yz (l:au (α×β))(k:α):av β:=(l.find? λp=>decide (p.1=k)).map (·.2)
def Dp (l:au (α×β))(k:α):au (α×β):=l.filter λp=>decide (p.1≠k)
def uT {p:α×β}:yz (p::l) k=if p.1=k then some p.2 else yz l k:=by
 unfold yz;rw[b7];by_cases h:p.1=k
 .rw[aI h,aE h];rfl
 .rw[aO h,aF h]
def M9 {l:au (α×β)}(h:yz l k=some v):(k,v)∈l:=by
 induction l with
 |nil=>cases h
 | cons p l ih =>
  rw[uT]at h;by_cases q:p.1=k
  .rw[aE q]at h;cases h;rw[<- q];exact aH
  .rw[aF q]at h;exact ny _ (ih h)
def Ja {j:α}(h:j≠k):yz (Dp l k) j=yz l j:=by
 unfold Dp;induction l with
 |nil=>rfl
 | cons p l ih =>
  rw[cu,uT];by_cases q:p.1=k
  .rw[aF (by simp[q]),ih,aF (λy=>h<|by rw[<- y,q])]
  .rw[aE (by simp[q]),uT,ih]
end
section
variable {α β:Type}[DecidableEq α]{κ:α->Key}(hi:∀ a b,κ a=κ b->a=b)(f:β->D)
include hi
end
def evF {γ:Type}(gf:Str->au Nat->Int->γ)(gj:γ->γ->Int->γ)(z:γ)(iR:au (Str×Pt)):Nat->Str->γ
 |0,_=>z
 | f+1,nm=>match yz iR nm with
  |some (.fst b a)=>gf nm b a
  |some (.jn l r p)=>gj (evF gf gj z iR f l) (evF gf gj z iR f r) p
  |none=>z
def LC (iR:au (Str×Pt))(nm:Str):Nat:=(iR.map (·.1)).idxOf nm
structure Kpt (iR:List (Str×Pt)):Prop where
 nd:(iR.map (·.1)).Nodup
 low:∀ nm l r p,yz iR nm=some (.jn l r p)->LC iR l<LC iR nm/\LC iR r<LC iR nm
section
variable {γ:Type}{gf:Str->au Nat->Int->γ}{gj:γ->γ->Int->γ}{z:γ}{iR:au (Str×Pt)}
def ev (gf:Str->au Nat->Int->γ)(gj:γ->γ->Int->γ)(z:γ)(iR:au (Str×Pt))(nm:Str):γ:=evF gf gj z iR iR.length nm
end
theorem rT {p:Str->Bool}{a b:Str}:∀ {l:au Str},p a=true->p b=true->l.idxOf a<l.idxOf b->(l.filter p).idxOf a<(l.filter p).idxOf b
 |[],_,_,h=>by simp at h
 | x::t,ha,hb,h=>by
  by_cases e1:x=a
  .subst e1;have e2:¬ x=b:=λe2=>by subst e2;exact absurd h (cf _)
   rw[cu,aE ha,cY,cY,show(x==x)=true from beq_self_eq_true _,show(x==b)=false from dh e2];simp
  .have e2:¬ x=b:=λe2=>by subst e2;simp at h
   rw[cY,cY,show(x==a)=false from dh e1,show(x==b)=false from dh e2]at h
   have h':t.idxOf a<t.idxOf b:=by simpa using h
   have ih:=rT ha hb h'
   rw[cu]
   split
   .rw[cY,cY,show(x==a)=false from dh e1,show(x==b)=false from dh e2];simpa using ih
   .exact ih
def Kpt.drop (h:Kpt l)(hx:∀ z a b p,yz l z=some (.jn a b p)->a≠nm/\b≠nm):Kpt (Dp l nm):=by
 have hk:(Dp l nm).map (·.1)=(l.map (·.1)).filter λz=>decide (z≠nm):=by rw[List.filter_map];rfl
 refine⟨by rw[hk];exact h.nd.sublist<|dU,λz a b p e=>?_⟩;have hz:z≠nm:=λy=>by subst y;have:=M9 e;unfold Dp at this;rw[fk]at this;simpa using this.2
 rw[Ja hz]at e;let ⟨h1,h2⟩:=h.low z a b p e;let ⟨n1,n2⟩:=hx z a b p e;unfold LC at h1 h2 ⊢
 rw[hk];exact⟨rT (aI n1) (aI hz) h1,rT (aI n2) (aI hz) h2⟩
section
variable {α β:Type}[DecidableEq α]{κ:α->Key}(hi:∀ a b,κ a=κ b->a=b)(f:β->D)
include hi
end
open PySem PySem.Spec PyProof.Rows PyProof
def TV (c:Dt)(ρ:DE)(μ:MS)(b:Bool):Prop:=∀ K:Bool->MS->Prop,K b μ->c ρ μ K
section
variable {a c:Dt}{t u:Ds}{N:DN}{ρ:DE}{μ:MS}{x y b:Bool}{e:De}
def TV.FA (h:∀ K:DK,K (.bl b) μ->e ρ μ K):TV (pj e) ρ μ b:=λK k=>h _ k
def TV.and (h1:TV a ρ μ x)(h2:x=true->TV c ρ μ y):TV (GN a c) ρ μ (x&&y):=λK k=>h1 _ (by
 cases x with
 |true=>rw[aE rfl];exact h2 rfl K k
 |false=>rwa [aF (by decide)])
def TV.or (h1:TV a ρ μ x)(h2:x=false->TV c ρ μ y):TV (Ms a c) ρ μ (x||y):=λK k=>h1 _ (by
 cases x with
 |true=>rwa [aE rfl]
 |false=>rw[aF (by decide)];exact h2 rfl K k)
def TV.not (h1:TV a ρ μ x):TV (Rr a) ρ μ (!x):=λK k=>h1 _ k
def uN (b:Bool)(h:TV c ρ μ b)(ht:b=true->t N ρ μ)(hu:b=false->u N ρ μ):Ua c t u N ρ μ:=h _ (by
 cases b with
 |true=>rw[aE rfl];exact ht rfl
 |false=>rw[aF (by decide)];exact hu rfl)
end
def rY (h:N.nx ρ μ):dNx N ρ μ:=h
section
variable {α β:Type}[DecidableEq α]{κ:α->Key}(hi:∀ a b,κ a=κ b->a=b){f:β->D}{μ:MS}{j:Nat}{l:au (α×β)}
include hi
end
end L2
namespace L2
open PySem PySem.W PyProof.Rows
end L2
namespace L2
open PySem PySem.Spec PyProof.Rows PyProof PySem.W
end L2
namespace L2
open PySem PySem.Spec PyProof.Rows PyProof
section
variable {iR:au (Str×Pt)}{z:Str}{b b':au Nat}{a:Int}(h:yz iR z=some (.fst b a))
include h
end
def zs (h:Nat.ble n 100=true:=by rfl):n<=sizeLine:=aV (Nat.le_of_ble_eq_true h) (sz<|by decide)
section
variable {X:Cx}{a b e e1 e2 e3:Expr}{wa wb w w1 w2 w3:De}{pos p:Pos}
def a1 (h:PD X e w)(s:starEach [e] X.env=(false,eval e X.env)::starEach [] X.env:=by rfl):we X [e] (tO w II):=fK h iL s
def a2 (h:PD X e w)(h1:PD X e1 w1)(s:starEach [e,e1] X.env=(false,eval e X.env)::starEach [e1] X.env:=by rfl)(s1:starEach [e1] X.env=(false,eval e1 X.env)::starEach [] X.env:=by rfl):we X [e,e1] (tO w<|tO w1 II):=fK h (a1 h1 s1) s
def a3 (h:PD X e w)(h1:PD X e1 w1)(h2:PD X e2 w2)(s:starEach [e,e1,e2] X.env=(false,eval e X.env)::starEach [e1,e2] X.env:=by rfl)(s1:starEach [e1,e2] X.env=(false,eval e1 X.env)::starEach [e2] X.env:=by rfl)(s2:starEach [e2] X.env=(false,eval e2 X.env)::starEach [] X.env:=by rfl):we X [e,e1,e2] (tO w<|tO w1<|tO w2 II):=fK h (a2 h1 h2 s1 s2) s
def iY (ha:PD X a wa)(hb:PD X b wb)(hs:Bs b:=by exact λ_ _=>rfl):PD X (.Subscript a b pos) (vZ W3 wa wb):=d_ix Lw Vo ha hb hs
def oP (ha:PD X a wa)(hb:PD X b wb):PD X (.BinOp a .Add b pos) (vZ (Ub false) wa wb):=rX Nb R1 ha hb
def Bb (ha:PD X a wa)(hb:PD X b wb):PD X (.BinOp a .Sub b pos) (vZ (vD λi j=>.int<|i - j) wa wb):=rX YR R0 ha hb
def Nv (ha:PD X a wa)(hb:PD X b wb):PT X (.Compare a [.Lt] [b] pos) (yd<|pj<|vZ (vD λi j=>.bl<|decide (i<j)) wa wb):=l9 UK nX ha hb (iG _)
def Kn (ha:PD X a wa)(hb:PD X b wb):PT X (.Compare a [.LtE] [b] pos) (yd<|pj<|vZ (vD λi j=>.bl<|decide (i<=j)) wa wb):=l9 leC nX ha hb (iG _)
def UD (ha:PD X a wa)(hb:PD X b wb):PT X (.Compare a [.Gt] [b] pos) (yd<|pj<|vZ (vD λi j=>.bl<|decide (j<i)) wa wb):=l9 gtC nX ha hb (iG _)
def Y1 (ha:PD X a wa)(hb:PD X b wb):PT X (.Compare a [.GtE] [b] pos) (yd<|pj<|vZ (vD λi j=>.bl<|decide (j<=i)) wa wb):=l9 geC nX ha hb (iG _)
def Nw (ha:PD X a wa)(hb:PD X b wb):PT X (.Compare a [.Eq] [b] pos) (yd<|pj<|vZ (MG false) wa wb):=l9 TU rH ha hb (iG _)
def QT (ha:PD X a wa)(hb:PD X b wb):PT X (.Compare a [.NotEq] [b] pos) (yd<|pj<|vZ (MG true) wa wb):=l9 DL rH ha hb (iG _)
def sA (T:lA X.mg)(h:PD X e w)(hg:Gl X "len":=by rfl)(he:starEach [e] X.env=(false,eval e X.env)::starEach [] X.env:=by rfl)(ql:(backTo pos<|starEach [] X.env).any (·.1)=false:=by rfl):PD X (.Call (.Name "len" p) [e] [] pos) (vh Po<|tO w II):=lR O2 RZ hg T.len PySem.boot_len (a1 h he) (by decide) (by decide) he ql
section
variable {es:au Expr}{x:Str}{k k0:Nat}{ps:au Str}{f:j4}{fx:Dx}{u:DA}
def qC (C:mH X.prog X.w X.K X.mg X.fB x k ps (iB f))(hr:jF k0 X.A)(ha:we X (e::es) u)(hk:k<=k0:=by first | decide | exact aw _ | lia)(hg:Gl X x:=by rfl)(yt:(x==("__debug__" : Str))=false:=by decide)(he:starEach (e::es) X.env=(false,eval e X.env)::starEach es X.env:=by rfl)(ql:(backTo pos<|starEach es X.env).any (·.1)=false:=by rfl):
 PD X (.Call (.Name x p) (e::es) [] pos) (vh f u):=T6 C (hr.mono hk) hg ha yt he ql
end
def qS (i:Nat)(hN:X.N.Nodup)(he:PD X e w)(hi:X.N[i]?=some x:=by rfl)(hx:Loc X.env.scope x:=by first | exact Or.inl rfl | exact Or.inr rfl)(hf:X.fn x=true\/X.env.scope.names.lookup x=some .local:=by first | exact .inl rfl | exact .inr rfl | assumption)
 (LF:swapsWith e (some<|.Name x pos') pos.line X.env=pure false:=by rfl):zE X (.Assign [.Name x pos'] e pos) (MC i w):=Vt hN hi hx he hf LF
def qN (i:Nat)(hN:X.N.Nodup)(hi:X.N[i]?=some x:=by rfl)(hx:Loc X.env.scope x:=by first|exact Or.inl rfl|exact Or.inr rfl)(hf:X.fn x=true\/X.env.scope.names.lookup x=some .local:=by first|exact .inl rfl|exact .inr rfl|assumption):PG X (.Name x pos) (tG i):=vM hN hi hx hf
def qT (i:Nat)(hN:X.N.Nodup)(hi:X.N[i]?=some x:=by rfl)(hx:Loc X.env.scope x:=by first|exact Or.inl rfl|exact Or.inr rfl)(hf:X.fn x=true\/X.env.scope.names.lookup x=some .local:=by first|exact .inl rfl|exact .inr rfl|assumption):Tg X (.Name x pos) (tG i) (Ba i) [i]:=⟨vM hN hi hx hf,fR i,fC i⟩
def qL (S:fT N0 ps XS)(h:v9 N0 XS N js sc=true)(hN:X.N=N0:=by rfl)(hs:X.env.scope=XS:=by rfl):kh X N js sc:=Fd h hN hs
section
variable {tg iter elt:Expr}{ifs:au Expr}{sc:Scope}{N:au Str}{js:au (av Nat)}{g:TG}{y:DG}{S:au Nat}{t:Dt}{wi:DI}
def XT (i:Nat)(m:Bool){pos' ye:Pos}{x:Str}(hN:X.N.Nodup)(hc:kh X N js sc)(so:Nf g y S)(mo:pO g)(hi:Hj X tg iter wi)(hg:∀ fp s H,N.Nodup->PG (oj X N sc fp s H) tg g)
 (ht:∀ fp s H,Bu (oj X N sc fp s H) ifs t) (he:∀ fp s H,PD (oj X N sc fp s H) elt w) (ho:rg S js=true:=by rfl) (gH:X.gH=true:=by rfl) (yr:X.N[i]?=some x:=by rfl) (hx:Loc X.env.scope x:=by first|exact Or.inl rfl|exact Or.inr rfl) (LF:swapsWith (.ListComp elt [⟨tg,iter,ifs,0⟩] sc pos) (some<|.Name x pos') ye.line X.env=pure true:=by rfl)
 (hs:∀ x,foldedSetIterable iter X.env x=pure x:=by intro _;rfl) (hf:X.fn x=true\/X.env.scope.names.lookup x=some .local:=by first|exact .inl rfl|exact .inr rfl|assumption):
 zE X (.Assign [.Name x pos'] (.ListComp elt [⟨tg,iter,ifs,0⟩] sc pos) ye) (MC i<|xJ m wi js y t w):=HC m hc gH so mo ho hN yr hx hi (λfp s H=>hg fp s H hc.nd) ht he LF hs hf
def GV (m:Bool)(hc:kh X N js sc)(so:Nf g y S)(mo:pO g)(hi:Hj X tg iter wi)(hg:∀ fp s H,N.Nodup->PG (oj X N sc fp s H) tg g)(ht:∀ fp s H,Bu (oj X N sc fp s H) ifs t)(he:∀ fp s H,PD (oj X N sc fp s H) elt w)(ho:rg S js=true:=by rfl)(gH:X.gH=true:=by rfl)
 (hs:∀ x,foldedSetIterable iter X.env x=pure x:=by intro _;rfl):PD X (.ListComp elt [⟨tg,iter,ifs,0⟩] sc pos) (xJ m wi js y t w):=T5 m hc gH so mo ho hi (λfp s H=>hg fp s H hc.nd) ht he hs
def sC1 (i:Nat)(m:Bool){pos' ye:Pos}{x:Str}(hN:X.N.Nodup)(hc:kh X N js sc)(hi:Hj X tg iter wi)(hg:∀ fp s H,N.Nodup->PG (oj X N sc fp s H) tg (tG 0))
 (ht:∀ fp s H,Bu (oj X N sc fp s H) ifs t) (he:∀ fp s H,PD (oj X N sc fp s H) elt w) (ho:rg [0] js=true:=by rfl) (gH:X.gH=true:=by rfl) (yr:X.N[i]?=some x:=by rfl) (hx:Loc X.env.scope x:=by first|exact Or.inl rfl|exact Or.inr rfl) (LF:swapsWith (.ListComp elt [⟨tg,iter,ifs,0⟩] sc pos) (some<|.Name x pos') ye.line X.env=pure true:=by rfl)
 (hs:∀ x,foldedSetIterable iter X.env x=pure x:=by intro _;rfl) (hf:X.fn x=true\/X.env.scope.names.lookup x=some .local:=by first|exact .inl rfl|exact .inr rfl|assumption):
 zE X (.Assign [.Name x pos'] (.ListComp elt [⟨tg,iter,ifs,0⟩] sc pos) ye) (MC i<|xJ m wi js (Ba 0) t w):=XT i m hN hc (fR 0) (fC 0) hi hg ht he ho gH yr hx LF hs hf
def Bc (m:Bool)(hc:kh X N js sc)(hi:Hj X tg iter wi)(hg:∀ fp s H,N.Nodup->PG (oj X N sc fp s H) tg (tG 0))(ht:∀ fp s H,Bu (oj X N sc fp s H) ifs t)(he:∀ fp s H,PD (oj X N sc fp s H) elt w)(ho:rg [0] js=true:=by rfl)(gH:X.gH=true:=by rfl)
 (hs:∀ x,foldedSetIterable iter X.env x=pure x:=by intro _;rfl):PD X (.ListComp elt [⟨tg,iter,ifs,0⟩] sc pos) (xJ m wi js (Ba 0) t w):=GV m hc (fR 0) (fC 0) hi hg ht he ho gH hs
end
end
end L2
namespace L2
open PySem PySem.Spec PyProof.Rows PyProof PySem.W
abbrev pA (s:Stmt):au Str:=(jZ s).args.map (·.arg)
def iW (h1:sc.kind=.function:=by rfl)(h2:sc.isCoroutine=false:=by rfl)(h3:sc.isGenerator=false:=by rfl)(h4:N.Nodup:=by decide +kernel)(h5:N.take P.length=P:=by rfl)
 (h6:∀ x∈P,sc.names.lookup x=some .local\/sc.names.lookup x=some .cell:=by decide +kernel) (h7:∀ y∈sc.names,y.2≠.free:=by decide +kernel):fT N P sc:=⟨h1,h2,h3,h4,h5,h6,h7⟩
def kf (f c:ao)(x q:Str)(s:Stmt)(pm:ar)(t l a r1 r2:Nat)(v1 v2:ar)(r3 t2:Nat):au (ao×Obj):=[ko f (Yi x q s pm c),ko c (coQ x q t l a r1 r2 v1 v2 r3 t2)]
def kf1 (f c:ao)(x:Str)(s:Stmt)(pm:ar)(t l a r1 r2:Nat)(v1 v2:ar)(r3 t2:Nat):au (ao×Obj):=kf f c x x s pm t l a r1 r2 v1 v2 r3 t2
def kx (P:Params)(a n h:ao)(x:Str)(sl:av ar)(t u:Nat)(m:ar)(i l:Nat)(st:ao)(sub:au ar:=[])(bs:au ar:=[.ref h])(mro:au ar:=[.ref a,.ref h,.type "ValueError",.type "Exception",.type "BaseException",.type "object"]):au (ao×Obj) :=
 [ko a ⟨.type "type",none,.cls ⟨x,bs,mro,n,x,true,[],sub,false,none,false⟩,#[sl,none,some (.str x t),some (.str x u),some (.builtin "ValueError.__new__"),some (.bool true)]⟩,
  ko n ⟨.type "dict",none,.dict #[vW P "__module__" i m,vW P "__firstlineno__" (i+4) (.int l<|i+3),vW P "__static_attributes__" (i+5) (.ref st),vW P "__doc__" (i+6) .none] 2,#[]⟩]
section
variable {K:Frag}{x q:Str}{s:Stmt}{f:ao}{fd:aj}{ps:au Str}(F:jW K x q s f fd)
include F
def Qb (hl:ps.length=1:=by rfl)(h:∀(kV doc pm:ar) (an:av ao) (lj ct a:ar),bindArgs (fnOf x q (jZ s) (jq s) (fI s) .none kV doc pm an lj ct) ⟨[a],[]⟩=pure (ps.zip [a]):=by intros;rfl):Binds K fd ps []:=F.binds λk d p n c t=>by rw[hl];exact RC λa=>h k d p n c t a
def DQ (hl:ps.length=2:=by rfl)(h:∀(kV doc pm:ar) (an:av ao) (lj ct a b:ar),bindArgs (fnOf x q (jZ s) (jq s) (fI s) .none kV doc pm an lj ct) ⟨[a,b],[]⟩=pure (ps.zip [a,b]):=by intros;rfl):Binds K fd ps []:=F.binds λk d p n c t=>by rw[hl];exact G6 λa=>RC λb=>h k d p n c t a b
def Fg (hl:ps.length=3:=by rfl)(h:∀(kV doc pm:ar) (an:av ao) (lj ct a b e:ar),bindArgs (fnOf x q (jZ s) (jq s) (fI s) .none kV doc pm an lj ct) ⟨[a,b,e],[]⟩=pure (ps.zip [a,b,e]):=by intros;rfl):Binds K fd ps []:=F.binds λk d p n c t=>by rw[hl];exact G6 λa=>G6 λb=>RC λe=>h k d p n c t a b e
def MY (hl:ps.length=4:=by rfl)(h:∀(kV doc pm:ar) (an:av ao) (lj ct a b e g:ar),bindArgs (fnOf x q (jZ s) (jq s) (fI s) .none kV doc pm an lj ct) ⟨[a,b,e,g],[]⟩=pure (ps.zip [a,b,e,g]):=by intros;rfl):Binds K fd ps []:=F.binds λk d p n c t=>by rw[hl];exact G6 λa=>G6 λb=>G6 λe=>RC λg=>h k d p n c t a b e g
def bd5 (hl:ps.length=5:=by rfl)(h:∀(kV doc pm:ar) (an:av ao) (lj ct a b e g i:ar),bindArgs (fnOf x q (jZ s) (jq s) (fI s) .none kV doc pm an lj ct) ⟨[a,b,e,g,i],[]⟩=pure (ps.zip [a,b,e,g,i]):=by intros;rfl):Binds K fd ps []:=F.binds λk d p n c t=>by rw[hl];exact G6 λa=>G6 λb=>G6 λe=>G6 λg=>RC λi=>h k d p n c t a b e g i
end
end L2
namespace L2
open PySem PySem.Spec PyProof.Rows PyProof
def Zk (i:Int):Str:=toString i
def tT:D->Str
 |.str z=>z
 |.int i=>Zk i
 |_=> ""
def PJ (B:Bool->Prop)(h:∀ K:Bool->MS->Prop,(∀ b,B b->K b μ)->c ρ μ K)(ht:B true->t N ρ μ)(hu:B false->u N ρ μ):Ua c t u N ρ μ:=h _ λb hb=>by
 cases b with
 |true=>rw[aE rfl];exact ht hb
 |false=>rw[aF (by decide)];exact hu hb
structure Xq (S0:RS)(ps:List (RS×Dd))(ss:List RS)(rs:List Dd)(d:Nat):Prop where
 hs:ss.take (d+1)=S0::ps.map (·.1)
 hr:rs.take d=ps.map (·.2)
section
variable {cR cS:ao}{μ:MS}{k j1 j2:Nat}{ss:au RS}{rs:au Dd}{d:Nat}{S0 S:RS}{ps:au (RS×Dd)}
def Xq.len (h:Xq S0 ps ss rs d)(hle:d<=rs.length):ps.length=d:=by have:=cD List.length h.hr;rw[bg,gP]at this;lia
end
def w0 (n:Nat):Bool:=n==0
def w1 (n:Nat):Bool:=n==1
structure Later (qs:List (RS×Dd))(ss:List RS)(rs:List Dd)(d:Nat):Prop where
 hs:ss.drop (d+1)=qs.map (·.1)
 hr:rs.drop d=qs.map (·.2)
section
variable {ss:au RS}{rs:au Dd}{d:Nat}{S0:RS}{ps qs:au (RS×Dd)}{x:RS×Dd}
def Later.len (h:Later qs ss rs d):qs.length=rs.length - d:=by have:=cD List.length h.hr;rw[bG,gP]at this;lia
end
open PySem PySem.Spec PyProof.Rows
def kN.vo (cs:au Int)(ts:au Tk):kN->av Tk
 |.num n=>if 0<=n then ts[n.toNat]? else none
 | .ua p l r=>match l.vo cs ts,r.vo cs ts with
  |some a,some b=>if p∈cs then some (rj a b p)else none
  |_,_=>none
theorem kN.yG {cs:au Int}{ts:au Tk}:∀ {t:kN} {v:Tk},t.vo cs ts=some v->t.ok cs ts.length/\t.val ts=v
 | .num n,v,h=>by
  have h:(if 0<=n then ts[n.toNat]? else none)=some v:=h;split at h
  .have:=(kB h).1;exact⟨⟨by lia,by lia⟩,by show(ts[n.toNat]?).getD ([],0)=v;rw[h];rfl⟩
  .cases h
 | .ua p l r,v,h=>by
  have h:(match l.vo cs ts,r.vo cs ts with|some a,some b=>if p∈cs then some (rj a b p)else none|_,_=>none)=some v:=h;cases el:l.vo cs ts with
  |none=>rw[el]at h;cases h
  | some a =>
   cases er:r.vo cs ts with
   |none=>rw[el,er]at h;cases h
   | some b =>
    rw[el,er]at h;have h:(if p∈cs then some (rj a b p)else none)=some v:=h;split at h
    .rename_i hp;cases h;obtain⟨l1,l2⟩:=yG el;obtain⟨r1,r2⟩:=yG er;exact⟨⟨hp,l1,r1⟩,by show rj (l.val ts) (r.val ts) p=_;rw[l2,r2]⟩
    .cases h
theorem kN.KS {cs:au Int}{ts:au Tk}:∀ {t:kN},t.ok cs ts.length->t.vo cs ts=some (t.val ts)
 | .num n,h=>by obtain⟨h0,h1⟩:0<=n/\n<ts.length:=h;show(if 0<=n then ts[n.toNat]? else none)=some ((ts[n.toNat]?).getD ([],0));rw[aE h0,iD (by lia)];rfl
 | .ua p l r,h=>by show(match l.vo cs ts,r.vo cs ts with|some a,some b=>if p∈cs then some (rj a b p)else none|_,_=>none)=_;rw[KS h.2.1,KS h.2.2];exact aE h.1
def Yk (cB:ao):Dx:=λds μ K Kx=>match ds with
 |[.lst y,.int p]=>(∃ m,μ[0]?=some m)/\∃ cs:au Int,y=cs.map D.int/\(p∈cs->K (.int p) μ)/\(¬ p∈cs->Kx (.ref cB) μ)
 |_=>False
def aas (cB:ao):Dx:=λds μ K Kx=>match ds with
 |[.int n,.lst x,.lst y,d]=>(∃ m,μ[0]?=some m)/\∃(cs:au Int) (ts:au Tk) (t:kN),x=cs.map D.int/\y=ts.map nB/\d=HZ t/\t.cnt<=1000/\(∀ p∈cs,0<=p)/\n<=1000/\(∀ t∈ts,Bq n t)/\(match t.vo cs ts with|some v=>K (nB v) μ|none=>Kx (.ref cB) μ)
 |_=>False
def Va (o:av Tk):D:=match o with
 |some v=>nB v
 |none=>.iC
def uH (n:Nat):j4:=λds μ K=>match ds with
 |[.lst c,.lst y,d]=>∃(cs:au Int) (ts:au Tk) (t:kN) (z:Int),c=cs.map D.int/\y=ts.map nB/\d=HZ t/\t.dep<=n/\(∀ p∈cs,0<=p)/\z<=1000/\(∀ t∈ts,Bq z t)/\K (Va<|t.vo cs ts) μ
 |_=>False
def u3 (f:Nat->Int):au Nat->Int->av (Nat×Int)
 |[],_=>none
 |k::M,r=>if r<f k then some (k,r)else u3 f M (r - f k)
def G7 (es:au Int)(ts:au Tk):Nat->Nat->Nat->Int->kN
 |0,_,_,_=>.num 0
 | a+1,i,j,r=>if fQ es ts (a+1) i j=0 then .num ((vw es ts a i j).getD r.toNat 0:Nat)else
  match u3 (λk=>j0 es ts a i k*j0 es ts a k j) (o7 (fQ es ts<|a+1) (fQ es ts a) i j) r with
  |some (k,q)=>.ua (es.getD k 0) (G7 es ts a i k<|q / j0 es ts a k j) (G7 es ts a k j<|q%j0 es ts a k j)
  |none=>.num 0
def yE (es:au Int)(ts:au Tk):Nat->Nat->Nat->kN->Prop
 |0,_,_,_=>False
 | a+1,i,j,t=>if fQ es ts (a+1) i j=0 then ∃ x∈vw es ts a i j,t=.num (x:Nat)else
  ∃ k∈o7 (fQ es ts<|a+1) (fQ es ts a) i j,∃ l r,t=.ua (es.getD k 0) l r/\yE es ts a i k l/\yE es ts a k j r
def pB (es:au Int)(f:Nat->Int)(p:Int):au Nat->av (Nat×Int)
 |[]=>none
 |k::M=>if es.getD k 0=p then some (k,0)else(pB es f p M).map λq=>(q.1,f k+q.2)
def rkT (l:au Nat):kN->av Int
 |.num n=>(l.findIdx? λx:Nat=>decide ((x:Int)=n)).map λi=>((i:Nat):Int)
 |.ua _ _ _=>none
def Oi (es:au Int)(ts:au Tk):Nat->Nat->Nat->kN->av Int
 |0,_,_,_=>none
 | a+1,i,j,t=>if fQ es ts (a+1) i j=0 then rkT (vw es ts a i j) t else
  match t with
  |.num _=>none
  | .ua p l r=>match pB es (λk=>j0 es ts a i k*j0 es ts a k j) p (o7 (fQ es ts<|a+1) (fQ es ts a) i j)with
   |none=>none
   | some (k,h)=>match Oi es ts a i k l,Oi es ts a k j r with
    |some x,some y=>some (h+x*j0 es ts a k j+y)
    |_,_=>none
theorem yU {f:Nat->Int}:∀ {M:au Nat} {r:Int},0<=r->r<(M.map f).sum->∃ z k,M[z]?=some k/\u3 f M r=some (k,r - ((M.take z).map f).sum)/\0<=r - ((M.take z).map f).sum/\r - ((M.take z).map f).sum<f k
 |[],r,h0,h=>by simp at h;lia
 | k::M,r,h0,h=>by
  by_cases q:r<f k
  .exact⟨0,k,rfl,by unfold u3;rw[aE q];simp,by simpa using h0,by simpa using q⟩
  .rw[aB,cq]at h;obtain⟨z,k',h1,h2,h3,h4⟩:=yU (f:=f) (M:=M) (r:=r - f k) (by lia) (by lia);refine⟨z+1,k',h1,?_,?_,?_⟩
   .unfold u3;rw[aF q,h2,c0,aB,cq];congr 2;lia
   .rw[c0,aB,cq];lia
   .rw[c0,aB,cq];lia
theorem xT {es:au Int}{f:Nat->Int}{p:Int}:∀ {M:au Nat} {k:Nat} {h:Int},pB es f p M=some (k,h)->∃ z,M[z]?=some k/\es.getD k 0=p/\h=((M.take z).map f).sum
 |[],k,h,e=>by cases e
 | k'::M,k,h,e=>by
  unfold pB at e;by_cases q:es.getD k' 0=p
  .rw[aE q]at e;cases e;exact⟨0,rfl,q,rfl⟩
  .rw[aF q]at e;cases e2:pB es f p M with
   |none=>rw[e2]at e;cases e
   | some x =>rw[e2]at e;obtain⟨k2,h2⟩:=x;cases e;obtain⟨z,h1,h3,h4⟩:=xT e2;exact⟨z+1,h1,h3,by rw[c0,aB,cq,h4]⟩
theorem xU {es:au Int}{f:Nat->Int}:∀ {M:au Nat} {z k:Nat},(∀ x∈M,∀ y∈M,es.getD x 0=es.getD y 0->x=y)->M.Nodup->M[z]?=some k->pB es f (es.getD k 0) M=some (k,((M.take z).map f).sum)
 |[],z,k,_,_,h=>by cases h
 |k'::M,0,k,hi,nd,h=>by cases h;unfold pB;rw[aE rfl];rfl
 | k'::M,z+1,k,hi,nd,h=>by have hk:k∈M:=kq<|show M[z]?=some k from h;obtain⟨n1,n2⟩:=List.nodup_cons.mp nd;unfold pB;rw[aF λe=>n1 (by rw[hi k' aH k (ny _ hk) e];exact hk),xU (z:=z) (λx hx y hy=>hi x (ny _ hx) y<|ny _ hy) n2 h,c0,aB,cq];rfl
theorem Ah {f:Nat->Int}:∀ {M:au Nat} {z k:Nat} {q:Int},(∀ x∈M,0<=f x)->M[z]?=some k->0<=q->q<f k->u3 f M (((M.take z).map f).sum+q)=some (k,q)/\((M.take z).map f).sum+q<(M.map f).sum/\0<=((M.take z).map f).sum
 |[],z,k,q,_,h,_,_=>by cases h
 | k'::M,0,k,q,hn,h,h0,h1=>by
  cases h;have:=(D1 (f:=f) (l:=M) λx hx=>hn x<|ny _ hx);refine⟨?_,?_,?_⟩
  .unfold u3;rw[List.take_zero,List.map_nil,List.sum_nil,c4,aE h1]
  .rw[List.take_zero,List.map_nil,List.sum_nil,aB,cq];lia
  .rw[List.take_zero,List.map_nil,List.sum_nil];exact bw _
 | k'::M,z+1,k,q,hn,h,h0,h1=>by obtain⟨g1,g2,g3⟩:=Ah (M:=M) (z:=z) (λx hx=>hn x<|ny _ hx) h h0 h1;have:=hn k' aH;rw[c0,aB,cq,aB,cq];refine⟨?_,by lia,by lia⟩;unfold u3;rw[aF (by lia),show f k'+(List.map f<|M.take z).sum+q - f k'=(List.map f<|M.take z).sum+q by lia];exact g1
where D1 {f:Nat->Int}:∀ {l:au Nat},(∀ x∈l,0<=f x)->0<=(l.map f).sum
 |[],_=>bw _
 | x::l,h=>by have:=h x aH;have:=D1 (l:=l) λy hy=>h y<|ny _ hy;rw[aB,cq];lia
def K9 (T U:Nat->Nat->Int)(i j:Nat):(o7 T U i j).Nodup:=by unfold o7;exact List.Pairwise.sublist dU (List.pairwise_map.mpr<|List.Pairwise.imp (λ{a b} (q:a<b)=>by lia) List.pairwise_lt_range)
def SM (es:au Int)(ts:au Tk)(a:Int)(i j:Nat):(vw es ts a i j).Nodup:=by unfold vw;exact List.Pairwise.sublist dU List.nodup_range
section
variable {es:au Int}{ts:au Tk}(hu:es.Pairwise (·<·))(hL:es.length<=100)(ht:ts.length<=100)
def Mh (hu:es.Pairwise (·<·)){x y:Nat}(hx:x<es.length)(hy:y<es.length)(e:es.getD x 0=es.getD y 0):x=y:=by
 rcases eL x y with q|q|q
 .have:=kD hu (getD_some hx) (getD_some hy) q;lia
 .exact q
 .have:=kD hu (getD_some hy) (getD_some hx) q;lia
include hu hL ht
theorem D9:∀(a i j:Nat) (r:Int),i<j->j<es.length->0<=r->r<j0 es ts a i j->Oi es ts a i j (G7 es ts a i j r)=some r
 |0,i,j,r,_,_,h0,h=>by have:r<0:=h;lia
 | a+1,i,j,r,pE,hj,h0,h=>by
  unfold j0 at h;unfold Oi G7;by_cases q:fQ es ts (a+1) i j=0
  .rw[aE q]at h;rw[aE q,aE q];have hr:r.toNat<(vw es ts a i j).length:=by lia
   show((vw es ts a i j).findIdx? _).map _=_;have e:(vw es ts a i j).findIdx? (λx:Nat=>decide ((x:Int)=(((vw es ts a i j).getD r.toNat 0:Nat):Int)))=some r.toNat:=by rw[List.findIdx?_eq_some_iff_getElem];refine⟨hr,aI (by rw[aA,iD hr];rfl),λk hk=>?_⟩;rw[bS];intro e;rw[aA,iD hr]at e;have e:(vw es ts a i j)[k]=(vw es ts a i j)[r.toNat]:=Int.ofNat_inj.mp (by simpa using e);exact absurd ((List.getElem_inj<|SM es ts a i j).mp e) (by lia)
   rw[e];show some ((r.toNat:Nat):Int)=some r;rw[cw h0]
  .rw[aF q]at h;rw[aF q,aF q];obtain⟨z,k,e1,e2,e3,e4⟩:=yU (f:=λk=>j0 es ts a i k*j0 es ts a k j) h0 h;obtain⟨k1,k2,k3⟩:=jY.mp<|kq e1;generalize hq:r - ((List.take z<|o7 (fQ es ts<|a+1) (fQ es ts a) i j).map λk=>j0 es ts a i k*j0 es ts a k j).sum=v at e2 e3 e4;rw[e2];dsimp only;rw[xU (z:=z) (λx hx y hy e=>Mh hu (by have:=jY.mp hx;lia) (by have:=jY.mp hy;lia) e) (K9 _ _ i j) e1];dsimp only;have b1:=pI hL ht a i k k1 (by lia);have b2:=pI hL ht a k j k2 hj;have pos:0<j0 es ts a k j:=by
    rcases Int.lt_or_eq_of_le b2.1 with q|q
    .exact q
    .rw[<- q,Int.mul_zero]at e4;lia
   have d1:0<=v / j0 es ts a k j:=Int.ediv_nonneg e3 b2.1;have d2:v / j0 es ts a k j<j0 es ts a i k:=Int.ediv_lt_of_lt_mul pos e4;have m1:=fv v (show j0 es ts a k j≠0 by lia);have m2:=eh v pos;rw[D9 a i k _ k1 (by lia) d1 d2,D9 a k j _ k2 hj m1 m2];dsimp only;congr 1;have:=Int.mul_ediv_add_emod v<|j0 es ts a k j;rw[Int.mul_comm]at this;lia
end
section
variable {es:au Int}{ts:au Tk}(hL:es.length<=100)(ht:ts.length<=100)
include hL ht
end
section
variable {es:au Int}{ts:au Tk}(hu:es.Pairwise (·<·))
include hu
theorem sN:∀(a i j:Nat) (t:kN),i<j->j<es.length->((Oi es ts a i j t).isSome=true↔yE es ts a i j t)
 |0,i,j,t,_,_=>⟨λh=>(by cases h),λh=>h.elim⟩
 | a+1,i,j,t,pE,hj=>by
  unfold Oi yE;by_cases q:fQ es ts (a+1) i j=0
  .rw[aE q,aE q];cases t with
   |ua _ _ _=>exact⟨λh=>(by cases h),λ⟨x,_,e⟩=>by cases e⟩
   | num n =>
    show(((vw es ts a i j).findIdx? λx:Nat=>decide ((x:Int)=n)).map λi=>((i:Nat):Int)).isSome=true↔_;rw[Option.isSome_map,List.findIdx?_isSome,fc];constructor
    .rintro⟨x,hx,e⟩;exact⟨x,hx,by rw[bR e]⟩
    .rintro⟨x,hx,e⟩;cases e;exact⟨x,hx,aI rfl⟩
  .rw[aF q,aF q];cases t with
   |num _=>exact⟨λh=>(by cases h),λ⟨x,_,_,_,e,_⟩=>by cases e⟩
   | ua p l r =>
    dsimp only;constructor
    .intro h;cases ea:pB es (λk=>j0 es ts a i k*j0 es ts a k j) p (o7 (fQ es ts<|a+1) (fQ es ts a) i j)with
     |none=>rw[ea]at h;cases h
     | some x =>
      obtain⟨k,hd⟩:=x;rw[ea]at h;dsimp only at h;obtain⟨z,e1,e2,e3⟩:=xT ea;have km:=kq e1;obtain⟨k1,k2,k3⟩:=jY.mp km;refine⟨k,km,l,r,by rw[e2],(sN a i k l k1<|by lia).mp ?_,(sN a k j r k2 hj).mp ?_⟩
      .cases el:Oi es ts a i k l with
       |none=>rw[el]at h;cases h
       |some x=>rfl
      .cases er:Oi es ts a k j r with
       |none=>rw[er]at h;cases el:Oi es ts a i k l<;>(rw[el]at h;cases h)
       |some x=>rfl
    .rintro⟨k,km,l',r',e,bl,br⟩;cases e;obtain⟨k1,k2,k3⟩:=jY.mp km;obtain⟨z,hz,ez⟩:=aJ km;have e1:(o7 (fQ es ts<|a+1) (fQ es ts a) i j)[z]?=some k:=by rw[iD hz,ez]
     rw[xU (z:=z) (λx hx y hy e=>Mh hu (by have:=jY.mp hx;lia) (by have:=jY.mp hy;lia) e) (K9 _ _ i j) e1];dsimp only;obtain⟨x,hx⟩:=Option.isSome_iff_exists.mp ((sN a i k l k1<|by lia).mpr bl);obtain⟨y,hy⟩:=Option.isSome_iff_exists.mp<|(sN a k j r k2 hj).mpr br;rw[hx,hy];rfl
end
def As {es:au Int}{ts:au Tk}{a:Int}{i j x:Nat}:x∈vw es ts a i j↔∃ t,ts[x]?=some t/\t.2<=a/\es.getD j 0<=iS es t.1 (es.getD i 0):=by
 unfold vw;rw[fk,cc];constructor
 .rintro⟨h1,h2⟩;rw[iD h1]at h2 ⊢
  dsimp only at h2;rw[cv,bS,bS]at h2;exact⟨_,rfl,h2⟩
 .rintro⟨t,e,h1,h2⟩;refine⟨(kB e).1,?_⟩;rw[e];dsimp only;rw[aI h1,aI h2];rfl
def Pq {n:Int}{cs:au Int}{k:Nat}(h0:0<k)(h1:k<cs.length+1):(fw n cs).getD k 0∈cs:=by
 obtain⟨k,rfl⟩:∃ x,k=x+1:=⟨k - 1,by lia⟩;have e:(fw n cs)[k+1]?=some cs[k]:=by unfold fw;rw[List.cons_append,eF,vd (by lia),iD]
 rw[aA,e];exact bJ _
def PL {n:Int}{cs:au Int}{p:Int}(h:p∈cs):∃ k,k<(fw n cs).length/\(fw n cs).getD k 0=p:=by
 have:p∈fw n cs:=by unfold fw;simp[h]
 obtain⟨k,hk,e⟩:=aJ this;exact⟨k,hk,by rw[aA,iD hk,e];rfl⟩
def Qt {es:au Int}(hu:es.Pairwise (·<·)){x y:Nat}(hx:x<es.length)(hy:y<es.length)(h:es.getD x 0<es.getD y 0):x<y:=by
 rcases eL x y with q|q|q
 .exact q
 .subst q;lia
 .have:=kD hu (getD_some hy) (getD_some hx) q;lia
def JJ {n:Int}{cs:au Int}{ts:au Tk}{a i j:Nat}(hi:i<(fw n cs).length)(h:(fw n cs).getD j 0<=i7 (fw n cs) ts a ((fw n cs).getD i 0)):fQ (fw n cs) ts (a+1) i j=0:=by show iE _ _ _ _ i j=0;unfold iE;rw[aE];rw[jC (getD_some hi)];exact h
theorem Av {cs:au Int}{ts:au Tk}:∀ {t:kN},t.ok cs ts.length->Bv cs ts t.dep (t.val ts).1 (t.val ts).2
 | .num x,ok=>by obtain⟨t,e⟩:∃ t,ts[x.toNat]?=some t:=⟨_,iD (by have:=ok.1;have:=ok.2;lia)⟩;rw[kN.zL e];exact kq e
 |.ua p l r,ok=>.inr ⟨_,_,_,_,p,(Av ok.2.1).le<|Nat.le_max_left _ _,(Av ok.2.2).le<|Nat.le_max_right _ _,ok.1,rfl,rfl⟩
section
variable {n:Int}{cs:au Int}{ts:au Tk}(S:gv n cs ts)
include S
def JK {a i j k:Nat}(h1:i<k)(h2:k<j)(hj:j<(fw n cs).length):fQ (fw n cs) ts (a+1) i j<=fQ (fw n cs) ts a i k+fQ (fw n cs) ts a k j+1:=by
 have tb:=BR S;have n1:=tb.nn a i k (by lia) (by lia);have n2:=tb.nn a k j (by lia) hj;show iE _ _ _ _ i j<=_;unfold iE;split
 .lia
 .exact(jQ _ _).2.2 _ (kL.mpr ⟨k,h1,h2,rfl⟩)
def uh:∀ t∈ts,Bq n t:=λt h=>⟨(S.takes.ok t h).1,(S.takes.ok t h).2.2.1⟩
theorem uR:∀(a i j:Nat) (t:kN),i<j->j<(fw n cs).length->yE (fw n cs) ts a i j t->t.ok cs ts.length/\(t.cnt:Int)=fQ (fw n cs) ts a i j+1/\(t.val ts).2+1<=a/\Qm (t.val ts).1 ((fw n cs).getD i 0) ((fw n cs).getD j 0)
 |0,i,j,t,_,_,h=>h.elim
 | a+1,i,j,t,pE,hj,h=>by
  unfold yE at h;have nv:=fU n cs;by_cases q:fQ (fw n cs) ts (a+1) i j=0
  .rw[aE q]at h;obtain⟨x,hx,rfl⟩:=h;obtain⟨t,e,h1,h2⟩:=As.mp hx;have hxl:=(kB e).1;have ok:=S.takes.ok t<|kq e;have ev:(kN.num (x:Nat)).val ts=t:=kN.zL (by rw[sx];exact e);have ei:=hX S.n1 S.iI (kq<|getD_some<|show i<(fw n cs).length by lia);refine⟨⟨by lia,by lia⟩,by rw[q];rfl,by rw[ev];lia,?_⟩;rw[ev];exact GG ok.2.1 ei.1 (by have:=ok.1;lia) h2
  .rw[aF q]at h;obtain⟨k,hk,l,r,rfl,bl,br⟩:=h;obtain⟨k1,k2,k3⟩:=jY.mp hk;obtain⟨l1,l2,l3,l4⟩:=uR a i k l k1 (by lia) bl;obtain⟨r1,r2,r3,r4⟩:=uR a k j r k2 hj br;have hc:=Pq (n:=n) (cs:=cs) (k:=k) (by lia) (by lia);have hp:=S.iI.Q4 _ hc;have vl:=(kN.oR (uh S) l1).1;refine⟨⟨hc,l1,r1⟩,?_,?_,?_⟩
   .show((l.cnt+r.cnt:Nat):Int)=_;lia
   .show max (l.val ts).2 (r.val ts).2+1+1<=_;lia
   .intro x x1 x2;show(ND (l.val ts).1 (r.val ts).1 _)[x]?=_;by_cases z:(x:Int)<(fw n cs).getD k 0
    .rw[tf (by lia) z];exact l4 x x1 z
    .rw[qi (by lia) (by lia) (by lia)];exact r4 x (by lia) x2
theorem nr:∀(t:kN) (a i j:Nat),i<j->j<(fw n cs).length->t.ok cs ts.length->(t.val ts).2<=a->Qm (t.val ts).1 ((fw n cs).getD i 0) ((fw n cs).getD j 0)->fQ (fw n cs) ts (a+1) i j+1<=t.cnt/\((t.cnt:Int)=fQ (fw n cs) ts (a+1) i j+1->yE (fw n cs) ts (a+1) i j t)
 | .num x,a,i,j,pE,hj,ok,ha,hc=>by
  obtain⟨x,rfl⟩:∃ y:Nat,x=y:=⟨x.toNat,by have:=ok.1;lia⟩;have hx:x<ts.length:=by have:=ok.2;lia
  obtain⟨t,e⟩:∃ t,ts[x]?=some t:=⟨_,iD hx⟩;have ev:(kN.num (x:Nat)).val ts=t:=kN.zL (by rw[sx];exact e);rw[ev]at ha hc;have tk:=S.takes.ok t<|kq e;have hu:=hV S.n1 S.iI;have gi:=getD_some (show i<(fw n cs).length by lia);have gj:=getD_some hj;have ei:=hX S.n1 S.iI<|kq gi;have ej:=hX S.n1 S.iI<|kq gj;have lt:=kD hu gi gj pE;have Ri:=Bf (es:=fw n cs) tk.2.1 ei.1 (by lia) (by have:=tk.1;lia) (kq gj) hc;have t0:=JJ (n:=n) (cs:=cs) (ts:=ts) (a:=a) (i:=i) (j:=j) (by lia)<|bu Ri<|l7 (kq e) ha;refine⟨by rw[t0];show(0:Int)+1<=((1:Nat):Int);decide,λ_=>?_⟩;unfold yE;rw[aE t0];exact⟨x,As.mpr ⟨t,e,ha,Ri⟩,rfl⟩
 | .ua p l r,a,i,j,pE,hj,ok,ha,hc=>by
  obtain⟨pc,ol,or⟩:=ok;have hp:=S.iI.Q4 p pc;have hu:=hV S.n1 S.iI;have vl:=kN.oR (uh S) ol;have vr:=kN.oR (uh S) or;have X8:=vl.1;have ha:max (l.val ts).2 (r.val ts).2+1<=(a:Int):=ha;have hc:Qm (ND (l.val ts).1 (r.val ts).1 p) ((fw n cs).getD i 0) ((fw n cs).getD j 0):=hc;have cp:=l.Be;have cr:=r.Be;have ec:(((kN.ua p l r).cnt:Nat):Int)=(l.cnt:Int)+r.cnt:=by show((l.cnt+r.cnt:Nat):Int)=_;lia
  rw[ec];by_cases q1:(fw n cs).getD j 0<=p
  .have:=(nr l a i j pE hj ol (by lia) λk k1 k2=>by rw[<- tf (l2:=(r.val ts).1) (p:=p) (by lia) (by lia)];exact hc k k1 k2).1;exact⟨by lia,λe=>by lia⟩
  by_cases q2:p<=(fw n cs).getD i 0
  .have:=(nr r a i j pE hj or (by lia) λk k1 k2=>by rw[<- qi (l1:=(l.val ts).1) (p:=p) (by lia) (by lia) (by lia)];exact hc k k1 k2).1;exact⟨by lia,λe=>by lia⟩
  obtain⟨k,hk,ek⟩:=PL (n:=n) pc;have k1:i<k:=Qt hu (by lia) hk (by lia);have k2:k<j:=Qt hu hk hj (by lia);have v0:=vl.2;have v1:=vr.2;obtain⟨a,rfl⟩:∃ x,a=x+1:=⟨a - 1,by lia⟩;have il:=nr l a i k k1 hk ol (by lia) λx x1 x2=>by rw[<- tf (l2:=(r.val ts).1) (p:=p) (by lia) (by lia)];exact hc x x1 (by lia)
  have ir:=nr r a k j k2 hj or (by lia) λx x1 x2=>by rw[<- qi (l1:=(l.val ts).1) (p:=p) (by lia) (by lia) (by lia)];exact hc x (by lia) x2
  have tj:=JK S (a:=a+1) k1 k2 hj;refine⟨by lia,λe=>?_⟩;have tb:=BR S;have n1:=tb.nn (a+1) i k (by lia) (by lia);have n2:=tb.nn (a+1) k j (by lia) hj;unfold yE;rw[aF (by lia)];exact⟨k,jY.mpr ⟨k1,k2,by lia⟩,l,r,by rw[ek],il.2<|by lia,ir.2<|by lia⟩
def IK {t:kN}{A:Nat}(hl:iM (fw n cs) ts n A)(ok:t.ok cs ts.length)(hc:Qm (t.val ts).1 0 n):(A:Int)<=(t.val ts).2:=by
 have v:=kN.oR (uh S) ok;have v2:=v.2;have n1:=S.n1;have nm:n∈fw n cs:=by unfold fw;simp
 have h:=sW S (a:=(t.val ts).2.toNat) (Av ok) (by lia) 0 n (oF n cs) nm (by lia) hc;have h2:=hX S.n1 S.iI<|(mh S (t.val ts).2.toNat).mem 0<|oF n cs;have:=least_le S (a:=(t.val ts).2.toNat) (by lia) hl;lia
def MW {t:kN}{A:Nat}(hl:iM (fw n cs) ts n A):yE (fw n cs) ts (A+1) 0 (cs.length+1) t↔(t.ok cs ts.length/\t.val ts=(List.replicate n.toNat 111,(A:Int))/\(t.cnt:Int)=fQ (fw n cs) ts (A+1) 0 (cs.length+1)+1):=by
 have nv:=fU n cs;have g0:(fw n cs).getD 0 0=0:=by rw[aA,A8];rfl
 have gn:(fw n cs).getD (cs.length+1) 0=n:=by rw[aA,rW];rfl
 constructor
 .intro h;obtain⟨h1,h2,h3,h4⟩:=uR S _ _ _ _ (by lia) (by lia) h;rw[g0,gn]at h4;have:=IK S hl h1 h4;have v:=kN.oR (uh S) h1;exact⟨h1,Prod.ext (PQ v.1 h4) (by show(t.val ts).2=(A:Int);lia),h2⟩
 .rintro⟨h1,h2,h3⟩;refine(nr S t A 0 (cs.length+1) (by lia) (by lia) h1 (by rw[h2];exact bw _) ?_).2 h3;rw[g0,gn,h2];exact Qd n 0 n (bw _) (bw _)
end
section
variable {es:au Int}{ts:au Tk}(hu:es.Pairwise (·<·))(hL:es.length<=100)(ht:ts.length<=100)
include hu hL ht
end
def vg (C:ao)(n:Nat):j4:=λds μ K=>match ds with
 | [.mr k,s,.int r]=>∃(es:au Int) (ts:au Tk) (A j a i b:Nat) (ks:au (au Key)) (dd:au D),Bm C μ k es ts A j a i b/\s=vt a i b/\a<n/\Uk es ts/\k≠j/\μ[j]?=some (.nA ks dd)/\Memo es ts A ks dd/\0<=r/\r<j0 es ts (a+1) i b /\
  ∀ oi oO,Memo es ts A oi oO->K (HZ<|G7 es ts (a+1) i b r) (μ.set j<|.nA oi oO)
 |_=>False
def EV {C:ao}(vs:au V)(H:Hp)(Q:VK)(E:XK):¬ iB (vg C 0) vs H Q E:=λh=>by
 obtain⟨φ,ds,μ,K,_,_,h,_⟩:=h;unfold vg at h;split at h
 .obtain⟨es,ts,A,j,a,i,b,ks,dd,_,_,h,_⟩:=h;lia
 .exact h
def Pb {X:Cx}:Um X .Sub (V5 λi j=>i - j):=by
 intro fA s σ H x y v u Q I r1 r2 h;unfold V5 at h;split at h
 .exact Tf fA s σ H _ _ v u Q I r1 r2 ⟨_,_,rfl,rfl,h⟩
 .cases h
def DH (_ j:Int):Prop:=0<j/\∃ d:Nat,d<=1000/\j<=128 ^ d
def Y6 {i j:Int}(h:DH i j):Builtin.divisionGoesByPylong i j=false:=by
 obtain⟨h0,d,hd,h⟩:=h;have e:(128:Int) ^ d=((2 ^ (7*d):Nat):Int):=by rw[Nat.pow_mul];norm_cast
 have h1:j.natAbs<2 ^ (7*d+1):=by rw[Nat.pow_succ];lia
 have h2:j.natAbs.log2<7*d+1:=(Nat.log2_lt<|by lia).mpr h1;unfold Builtin.divisionGoesByPylong;dsimp only;rw[Bool.and_eq_false_iff];left;rw[decide_eq_false_iff_not];split<;>lia
section
variable {X:Cx}
def KP:lq X (binaryOp .FloorDiv) (rI DH λi j=>.int<|i / j):=UE λi j _ _ _ _ _ hc q=>by have h1:(0:Int)<j:=hc.1;exact floordiv_int (by lia) (by rw[Int.fdiv_eq_ediv_of_nonneg i (by lia)];exact q) (.inl<|Y6 hc)
end
def Ry:Dz:=λx y μ K=>match x,y with
 |.int i,.int j=>DH i j/\K (.int<|i / j) μ
 |_,_=>False
def N9:qZ (rI DH λi j=>.int<|i / j) Ry:=λφ H x y dx dy μ K Q M hx hy k L=>by
 unfold Ry at k;split at k
 .cases(show x=_ from hx);cases(show y=_ from hy);exact⟨_,_,rfl,rfl,k.1,L.val M k.2 rfl⟩
 .exact k.elim
def Ud {es:au Int}{ts:au Tk}(hL:es.length<=100)(ht:ts.length<=100){a i j:Nat}(h1:i<j)(hj:j<es.length){v:Int}(h:0<j0 es ts a i j):DH v (j0 es ts a i j):=⟨h,_,by lia,(pI hL ht a i j h1 hj).2⟩
def aaq:j4:=λds μ K=>match ds with
 |[.mr k,.int n]=>μ[k]?=some .box/\0<n/\(∃ d:Nat,d<=1000/\n<=128 ^ d)/\∀ v,0<=v->v<n->K (.int v) μ
 |_=>False
structure BmG (C:ao)(ν g:MS)(es:List Int)(ts:List Tk)(a:Nat):Prop where
 e0:∀ ks dd,(g.set (ν.length+1)<|.nA ks dd)[ν.length]?=some (.ins C Ff<|IV es ts a<|ν.length+1)
 e1:∀ ks dd,(g.set (ν.length+1)<|.nA ks dd)[ν.length+1]?=some (.nA ks dd)
 ol:∀ ks dd j m',j<ν.length->(g.set (ν.length+1)<|.nA ks dd)[j]?=some m'->BF ν.length m'
 tk:∀ ks dd,(g.set (ν.length+1)<|.nA ks dd).take ν.length=ν
 z0:∀ ks dd m,ν[0]?=some m->(g.set (ν.length+1)<|.nA ks dd)[0]?=some m
 nw:g=g.set (ν.length+1) (.nA [] [])
def bmG {C:ao}{ν g:MS}{es:au Int}{ts:au Tk}{a:Nat}(hm:∀(j:Nat) (m':MO),ν[j]?=some m'->BF ν.length m')(hg:g=(ν++[MO.ins C [] []]).set ν.length (.ins C Ff<|IV es ts a (ν++[MO.ins C [] []]).length)++[.nA [] []]):BmG C ν g es ts a:=by
 have eg:g=ν++[.ins C Ff (IV es ts a<|ν.length+1),.nA [] []]:=by rw[hg,cI _ _ (aw _),aZ,bq,lP];rfl
 have gl:ν.length+1<g.length:=by rw[eg,lP];show _<_+2;lia
 refine⟨λks dd=>?_,λks dd=>aW gl,λks dd j m' hj e=>?_,λks dd=>?_,λks dd m hz=>?_,?_⟩
 .rw[bp (by lia),eg,qV (aw _),aZ];rfl
 .rw[bp (by lia),eg,vd hj]at e;exact hm j m' e
 .rw[List.take_set_of_le (by lia),eg,cG]
 .have:=(kB hz).1;rw[bp (by lia),eg,vd this];exact hz
 .exact(m5 (by rw[eg,qV (by lia),show ν.length+1 - ν.length=1 by lia];rfl)).symm
def U0 (cB:ao):Dx:=λds μ K Kx=>match ds with
 |[.lst y,x]=>(∃ m,μ[0]?=some m)/\∃(l:au Nat) (t:kN),y=l.map (λx=>.int (x:Nat))/\l.length<=1000/\x=HZ t/\(match rkT l t with|some r=>K (.int r) μ|none=>Kx (.ref cB) μ)
 |_=>False
def MX (es:au Int)(ts:au Tk)(n:Int)(r:Int)(μ:MS)(K:DK)(X:Prop):Prop:=match jT es ts with
 |some _=>X
 |none=>∀ a:Nat,a<=66->iM es ts n a->if 0<=r/\r<j0 es ts (a+1) 0 (es.length - 1)then K (HZ<|G7 es ts (a+1) 0 (es.length - 1) r) μ else X
def tL (cN:ao):Dx:=λds μ K Kx=>match ds with
 |[.int n,.lst x,.lst y,.int r]=>(∃ m,μ[0]?=some m)/\∃(cs:au Int) (ts:au Tk),x=cs.map D.int/\y=ts.map nB/\gv n cs ts/\cs.length<=60/\MX (fw n cs) ts n r μ K (Kx (.ref cN) μ)
 |_=>False
def CS {cN:ao}{ds:au D}{μ:MS}{K:DK}{Kx:DX}(h:tL cN ds μ K Kx):ds.length=4/\∃ m,μ[0]?=some m:=by
 unfold tL at h;split at h
 .exact⟨rfl,h.1⟩
 .cases h
def AU:j4:=λds μ K=>match ds with
 |[d]=>∃ t:kN,d=HZ t/\K (.bl<|!Q0 t) μ
 |_=>False
def zf (n:Nat):j4:=λds μ K=>match ds with
 |[d]=>∃ t:kN,d=HZ t/\t.dep<=n/\K (.bl true) μ
 |_=>False
theorem kN.qH:∀ t:kN,t.dep+1<=t.cnt
 |.num _=>aw _
 | .ua _ l r=>by have:=l.qH;have:=r.qH;show max l.dep r.dep+1+1<=l.cnt+r.cnt;lia
theorem FH {f:Nat->Int}:∀ {l:au Nat} {x:Nat},(∀ y∈l,0<=f y)->x∈l->0<f x->0<(l.map f).sum
 |[],x,_,h,_=>by cases h
 | y::l,x,hn,h,hx=>by
  have h0:=hn y aH;have h1:=Ah.D1 (f:=f) (l:=l) λz hz=>hn z<|ny _ hz;rw[aB,cq];rcases List.mem_cons.mp h with rfl|h
  .lia
  .have:=FH (f:=f) (l:=l) (x:=x) (λz hz=>hn z<|ny _ hz) h hx;lia
section
variable {n:Int}{cs:au Int}{ts:au Tk}(S:gv n cs ts)
include S
def GX (a i j:Nat)(pE:i<j)(hj:j<(fw n cs).length)(h0:fQ (fw n cs) ts (a+1) i j=0):0<j0 (fw n cs) ts (a+1) i j:=by
 have nv:=fU n cs;have tb:=BR S;have hu:=hV S.n1 S.iI;unfold j0;rw[aE h0];have e:fQ (fw n cs) ts (a+1) i j=iE (fw n cs).length (fw n cs) (i0 (fw n cs) ts (a:Int)) (fQ (fw n cs) ts a) i j:=rfl;unfold iE at e;split at e
 .rename_i q;have lt:=kD hu (getD_some<|show i<(fw n cs).length by lia) (getD_some hj) pE;rw[jC (getD_some<|show i<(fw n cs).length by lia),jO]at q;rcases jD ((ts.filter λt=>decide (t.2<=(a:Int))).map λt=>iS (fw n cs) t.1<|(fw n cs).getD i 0) ((fw n cs).getD i 0)with z|z
  .lia
  .obtain⟨t,ht,et⟩:=List.mem_map.mp z;obtain⟨t1,t2⟩:=List.mem_filter.mp ht;obtain⟨x,hx,ex⟩:=aJ t1;have:x∈vw (fw n cs) ts a i j:=As.mpr ⟨t,by rw[iD hx,ex],bR t2,by rw[et];exact q⟩;have:=List.length_pos_of_mem this;lia
 .exfalso;rcases(jQ (mJ (fQ (fw n cs) ts a) i j)<|((fw n cs).length:Int) - 1).1 with z|z
  .lia
  .obtain⟨k,k1,k2,k3⟩:=kL.mp z;have n1:=tb.nn a i k (by lia) (by lia);have n2:=tb.nn a k j (by lia) hj;lia
def Uc (CH:cs.length<=60):∀(a i j:Nat),i<j->j<(fw n cs).length->fQ (fw n cs) ts (a+1) i j<((fw n cs).length:Int) - 1->0<j0 (fw n cs) ts (a+1) i j:=by
 intro a;have nv:=fU n cs;have ft:=S.takes.lL;have tb:=BR S;have hu:=hV S.n1 S.iI;induction a with
 | zero =>intro i j pE hj h;have h0:=yL S i j (by lia) hj h;exact GX S 0 i j pE hj h0
 | succ a ih =>
  intro i j pE hj h;by_cases q:fQ (fw n cs) ts (a+1+1) i j=0
  .exact GX S (a+1) i j pE hj q
  .unfold j0;rw[aF q];have e:fQ (fw n cs) ts (a+1+1) i j=iE (fw n cs).length (fw n cs) (i0 (fw n cs) ts ((a+1:Nat):Int)) (fQ (fw n cs) ts<|a+1) i j:=rfl;unfold iE at e;split at e
   .exact absurd e q
   .rcases(jQ (mJ (fQ (fw n cs) ts<|a+1) i j)<|((fw n cs).length:Int) - 1).1 with z | z
    .lia
    .obtain⟨k,k1,k2,k3⟩:=kL.mp z;have n1:=tb.nn (a+1) i k (by lia) (by lia);have n2:=tb.nn (a+1) k j (by lia) hj;refine FH (x:=k) (λy hy=>?_) (jY.mpr ⟨k1,k2,by lia⟩) (Int.mul_pos (ih i k k1 (by lia)<|by lia)<|ih k j k2 hj<|by lia);obtain⟨y1,y2,_⟩:=jY.mp hy;exact Int.mul_nonneg (pI (by lia) (by lia) (a+1) i y y1<|by lia).1 (pI (by lia) (by lia) (a+1) y j y2 hj).1
def zT {A:Nat}(la:iM (fw n cs) ts n A):fQ (fw n cs) ts (A+1) 0 (cs.length+1)=mL (fw n cs) ts (A+1) 0 (cs.length+1) - 1/\fQ (fw n cs) ts (A+1) 0 (cs.length+1)<((fw n cs).length:Int) - 1:=by
 have nv:=fU n cs;have tl:=yK S la;rcases(kH S (A+1) 0 (cs.length+1) (by lia)<|by lia).2 (by lia)with⟨z,_⟩|⟨z1,z2,z3⟩
 .lia
 .exact⟨z3,by lia⟩
def MV {A:Nat}(CH:cs.length<=60)(la:iM (fw n cs) ts n A){r:Int}(r0:0<=r)(r1:r<j0 (fw n cs) ts (A+1) 0 (cs.length+1)):(G7 (fw n cs) ts (A+1) 0 (cs.length+1) r).ok cs ts.length/\(G7 (fw n cs) ts (A+1) 0 (cs.length+1) r).val ts=(List.replicate n.toNat 111,(A:Int))/\((G7 (fw n cs) ts (A+1) 0 (cs.length+1) r).cnt:Int)=mL (fw n cs) ts (A+1) 0 (cs.length+1)/\(G7 (fw n cs) ts (A+1) 0 (cs.length+1) r).dep<=cs.length:=by have nv:=fU n cs;have ft:=S.takes.lL;have rk:=D9 (hV S.n1 S.iI) (by lia) (by lia) (A+1) 0 (cs.length+1) r (by lia) (by lia) r0 r1;have b:=(MW S la).mp ((sN (hV S.n1 S.iI) (A+1) 0 (cs.length+1) _ (by lia)<|by lia).mp (by rw[rk];rfl));obtain⟨t1,t2⟩:=zT S la;have d:=(G7 (fw n cs) ts (A+1) 0 (cs.length+1) r).qH;exact⟨b.1,b.2.1,by lia,by have:=b.2.2;lia⟩
end
def aar (n:Nat):j4:=λds μ K=>match ds with
 |[x,y]=>∃ d,LS μ x=some d/\LS μ y=some d/\BW n d/\K (.bl true) μ
 |_=>False
def oE (n:Nat):j4:=λds μ K=>match ds with
 |[d]=>∃ t:kN,d=HZ t/\t.dep<=n/\K (.int<|(t.cnt:Int) - 1) μ
 |_=>False
end L2
namespace L2
open PySem PySem.Spec PyProof.Rows PyProof PySem.W
end L2
namespace L2
open PySem PySem.Spec PyProof.Rows PyProof
section
variable {n:Int}{cs:au Int}{ts:au Tk}(S:gv n cs ts)(CH:cs.length<=60)
include S CH
end
section
variable {n:Int}{cs:au Int}{ts:au Tk}(S:gv n cs ts)(CH:cs.length<=60)
include S CH
end
open PySem PySem.Spec PyProof.Rows
structure zC (μ:MS)(m0:Nat)(es:List Int)(ts:List Tk)(a j:Nat)(js:List Nat):Prop where
 len:js.length=a
 lst:nP μ j=some (js.map D.mr)
 row:∀(i k:Nat),js[i]?=some k->nP μ k=some ((gh es ts i).map D.int)
 ge:m0<=j
 new:∀ k∈js,m0<=k/\k≠j
def zC.app {μ g:MS}{m0 a j:Nat}{es:au Int}{ts:au Tk}{js:au Nat}(h:zC μ m0 es ts a j js):zC (μ++g) m0 es ts a j js:=⟨h.len,o8 h.lst,λi k e=>o8<|h.row i k e,h.ge,h.new⟩
theorem rb.app {μ g:MS}{n0 n1:Nat}{us:Us}{pp:au (au<|au Int)}(h:rb μ n0 us pp)(hn:n1<=n0):rb (μ++g) n1 us pp:=⟨h.len,λi u tb e1 e2=>(h.tab i u tb e1 e2).app hn,h.ord⟩
structure RE (n:Int)(cs:List Int)(ts:List Tk)(a:Nat)(t:kN):Prop where
 QY:jT (fw n cs) ts=none
 least:iM (fw n cs) ts n a
 age:a<=66
 ok:t.ok cs ts.length
 val:t.val ts=(List.replicate n.toNat 111,(a:Int))
 cnt:(t.cnt:Int)=mL (fw n cs) ts (a+1) 0 (cs.length+1)
 dep:t.dep<=63
inductive Nc (μ:MS)(m0:Nat)(n:Int)(cs:List Int)(ts:List Tk):D->Prop
 |bar (p:Int×Int) (hb:jT (fw n cs) ts=some p):Nc μ m0 n cs ts (.tup [.str "bar",.int p.1,.int p.2])
 |make (a:Nat) (t:kN) (j:Nat) (js:List Nat) (j2:Nat) (us:Us) (M:RE n cs ts a t) (y:zC μ m0 (fw n cs) ts a j js) (f:nP μ j2=some (Ji us)) (f1:m0<=j2) (pm:rb μ m0 us (Cc (fw n cs) ts a<|t.cnt - 1)):Nc μ m0 n cs ts (.tup [.str "make",HZ t,.mr j,.mr j2])
def rV:j4:=λds μ K=>match ds with
 |[.int n,.lst x,.lst y,.int a,.int m]=>∃(cs:au Int) (ts:au Tk),x=cs.map D.int/\y=ts.map nB/\gv n cs ts/\0<=a/\a<=1000/\0<=m/\m<=1000/\∀(j:Nat) (us:Us) (g:MS),rb (μ++g) μ.length us (Cc (fw n cs) ts a.toNat m.toNat)->nP (μ++g) j=some (Ji us)->μ.length<=j->K (.mr j) (μ++g)
 |_=>False
def AR:j4:=λds μ K=>match ds with
 |[.lst b,.lst y,.int z,.mr j]=>∃(n:Int) (cs:au Int) (ts:au Tk) (a m0:Nat) (js:au Nat),b=(fw n cs).map D.int/\y=ts.map nB/\z=(a:Int)/\gv n cs ts/\iM (fw n cs) ts n a/\a<=1000/\zC μ m0 (fw n cs) ts a j js/\K (.bl true) μ
 |_=>False
def EY:j4:=λds μ K=>match ds with
 |[.lst b,.lst y,.int a,.int m,.mr j]=>∃(n:Int) (cs:au Int) (ts:au Tk) (us:Us) (pp:au (au<|au Int)),b=(fw n cs).map D.int/\y=ts.map nB/\nP μ j=some (Ji us)/\gv n cs ts/\rb μ 0 us pp/\0<=a/\a<=1000/\0<=m/\m<=1000/\Hl (fw n cs) ts n a m pp/\K (.bl true) μ
 |_=>False
def A6:j4:=λds μ K=>match ds with
 |[.int n,.lst x,.lst y]=>(∃ m,μ[0]?=some m)/\∃(cs:au Int) (ts:au Tk),x=cs.map D.int/\y=ts.map nB/\gv n cs ts/\cs.length<=60/\∀(d:D) (g:MS),Nc (μ++g) μ.length n cs ts d->K d (μ++g)
 |_=>False
end L2
namespace L2
open PySem PySem.Spec PyProof.Rows PyProof Builtin Builtin.Str
end L2
namespace L2
open PySem PySem.Spec PyProof.Rows PyProof Builtin Builtin.Str
end L2
namespace L2
open PySem PySem.Spec PyProof.Rows PyProof Builtin Builtin.Str
end L2
namespace L2
open PySem PySem.Spec PyProof.Rows PyProof Builtin Builtin.Str
end L2
namespace L2
open PySem PySem.Spec PyProof.Rows PyProof
end L2
namespace L2
open PySem PySem.Spec PyProof.Rows PyProof Builtin Builtin.Str
end L2
namespace L2
open PySem PySem.Spec PyProof.Rows PyProof
end L2
namespace L2
open PySem PySem.Spec PyProof.Rows PyProof PySem.W.KIN
end L2
namespace L2
open PySem PySem.Spec PyProof.Rows PyProof PySem.W.KIN
end L2
namespace L2
open PySem PySem.Spec PyProof.Rows PyProof Builtin Builtin.Str
end L2
namespace L2
open PySem PySem.Spec PyProof.Rows PyProof PySem.W.KIN PySem.NumText
end L2
namespace L2
open PySem PySem.Spec PyProof.Rows PyProof PySem.W.KIN PySem.NumText
end L2
namespace L2
open PySem PySem.Spec PyProof.Rows PyProof PySem.W.KIN PySem.NumText
end L2
namespace L2
open PySem PySem.Spec PyProof.Rows PyProof PySem.W.KIN PySem.NumText
theorem qH:∀ t:kN,t.dep+1<=t.cnt
 |.num _=>aw _
 | .ua p l r=>by have a:=qH l;have b:=qH r;show max l.dep r.dep+1+1<=l.cnt+r.cnt;lia
end L2
namespace L2
open PySem PySem.Spec PyProof.Rows
section
variable {prog:ah}{w:ai}{A:Around}{E:ar->ak->Prop}{s:ak}
def wV {Q:ar->ak->Prop}(hit:IsRangeIter s.heap it x left 1)(hl:0<left)(hQ:∀ h',IsRangeIter h' it (x+1) (left - 1) 1->Heap.SameBut it s.heap h'->Q (.int x s.toks) { s with heap:=h',toks:=s.toks+1}):
 wpAny (model prog w) A (Builtin.SmallTypes.nextOf<|.ref it) Q E s:=by
 have hT:s.TypeIs (.ref it) "range_iterator":=⟨_,hit,rfl⟩;refine fW (b9 hT F.slot_range_iterator_next<|call_meets F.slot_range_iterator_next hT F.entry_range_iterator_next (F.args_range_iterator_next_1 _) (AutoRange.range_iterator___next___range_iterator_1 it x left 1<|by lia) ⟨hit,?_⟩);exact az (hQ _ (bF _ (bF _ hit rfl) rfl)<|(dW ..).trans<|dW ..)
structure ZR (z TI TO i1 i2 l1:ao)(f:ar)(bb:Bool)(a b:ar)(k m:Nat)(xs:Array ar)(h:Heap):Prop where
 z:kX h z TI TO f bb
 ti:IsPair h TI (.ref i1) (.ref i2)
 to:IsPair h TO a b
 n1:mG false h i1 l1 k
 n2:IsRangeIter h i2 m (xs.size - m) 1
 q1:ke false h l1 xs
section
variable {z TI TO i1 i2 l1:ao}{f f' a b x y:ar}{bb bb':Bool}{k m:Nat}{xs:Array ar}{h h':Heap}
def ZR.mz (S:ZR z TI TO i1 i2 l1 f bb a b k m xs h)(D:ZipApart z TI TO i1 i2 l1 l1)(e:kX h' z TI TO f' bb')(k':Heap.ExtBut z h h'):ZR z TI TO i1 i2 l1 f' bb' a b k m xs h' :=
 ⟨e,k' _ _ D.TIz S.ti,k' _ _ D.TOz S.to,S.n1.extBut k' D.i1z,k' _ _ D.i2z S.n2,S.q1.extBut k' D.l1z⟩
def ZR.m1 {j:Nat}(S:ZR z TI TO i1 i2 l1 f bb a b k m xs h)(D:ZipApart z TI TO i1 i2 l1 l1)(e:mG false h' i1 l1 j)(k':Heap.ExtBut i1 h h'):ZR z TI TO i1 i2 l1 f bb a b j m xs h' :=
 ⟨k' _ _ D.i1z.symm S.z,k' _ _ D.TIi1 S.ti,k' _ _ D.TOi1 S.to,e,k' _ _ D.i12.symm S.n2,S.q1.extBut k' D.l1i1⟩
def ZR.m2 {j:Nat}(S:ZR z TI TO i1 i2 l1 f bb a b k m xs h)(D:ZipApart z TI TO i1 i2 l1 l1)(e:IsRangeIter h' i2 j (xs.size - j) 1)(k':Heap.ExtBut i2 h h'):ZR z TI TO i1 i2 l1 f bb a b k j xs h' :=
 ⟨k' _ _ D.i2z.symm S.z,k' _ _ D.TIi2 S.ti,k' _ _ D.TOi2 S.to,S.n1.extBut k' D.i12,e,S.q1.extBut k' D.l1i2⟩
def ZR.mo (S:ZR z TI TO i1 i2 l1 f bb a b k m xs h)(D:ZipApart z TI TO i1 i2 l1 l1)(e:IsPair h' TO x y)(k':Heap.ExtBut TO h h'):ZR z TI TO i1 i2 l1 f bb x y k m xs h' :=
 ⟨k' _ _ D.TOz.symm S.z,k' _ _ D.TITO S.ti,e,S.n1.extBut k' D.TOi1.symm,k' _ _ D.TOi2.symm S.n2,S.q1.extBut k' D.l1TO⟩
def ZR.kp (S:ZR z TI TO i1 i2 l1 f bb a b k m xs h)(e:∀ c o,c∈[z,TI,TO,i1,i2,l1]->h.get? c=some o->h'.get? c=some o):ZR z TI TO i1 i2 l1 f bb a b k m xs h' :=
 ⟨e _ _ (by simp) S.z,e _ _ (by simp) S.ti,e _ _ (by simp) S.to,S.n1.at λo=>e _ o<|by simp,e _ _ (by simp) S.n2,let ⟨o,q,r⟩:=S.q1;⟨o,e _ o (by simp) q,r⟩⟩
end
section
variable {z TI TO i1 i2 l1:ao}{k:Nat}{xs:Array ar}{x a b f:ar}{bb:Bool}
def Fw {Q:ar->ak->Prop}(D:ZipApart z TI TO i1 i2 l1 l1)(S:ZR z TI TO i1 i2 l1 f bb a b k k xs s.heap)(hf:f=.none\/∃ T0:ao,f=rawInt T0/\s.heap.get? T0=none)(hx:xs[k]?=some x)
 (hQ:∀ h',ZR z TI TO i1 i2 l1 (rawInt s.heap.objs.size) false x (.int k s.toks) (k+1) (k+1) xs h'->IsPair h' s.heap.objs.size x (.int k s.toks)->h'.objs.size=s.heap.objs.size+1->ZK z TO i1 i2 s.heap h'->Q (.ref s.heap.objs.size) {s with heap:=h',toks:=s.toks+1}):
 wpAny (model prog w) A (Builtin.«zip.__next__» ⟨[.ref z],[]⟩) (λfin s'=>∃ v,fin=.done (.ret v)/\Q v s') E s:=by
 have hk:k<xs.size:=(Array.getElem?_eq_some_iff.mp hx).1;refine fW<|az<|fW<|aT S.z rfl (x:=.bool false) rfl (fW<|aT S.z rfl (x:=.ref TI) rfl (fW<|bz S.ti rfl ?_));refine fW (m:=Builtin.SmallTypes.ownedTupleIsFree<|.ref z)<|vU S.z hf ?_;refine fW (dN<|fW<|aT S.z rfl (x:=.ref TO) rfl (fW<|bj S.z (by simp) λg1 e1 t1=>?_));have S1:=S.mz D (f':=.ellipsis) (bb':=bb) e1 t1.extBut;refine fW ?_;rw[show(#[Value.ref i1,Value.ref i2]:Array ar).toList.zipIdx=[(.ref i1,0),(.ref i2,1)]from rfl,bO];refine fW (fW<|dn<|fW<|kb S1.n1 S1.q1 hx λg2 e2 t2=>az ?_);have S2:=S1.m1 D e2 t2.extBut;refine fW (bz S2.to rfl (fW<|dj S2.to λg3 e3 t3=>fW<|c5<|az ?_));have S3:=S2.mo D (x:=x) (y:=b) e3 t3.extBut;dsimp only;rw[bO];refine fW (fW<|dn<|fW<|wV S3.n2 (by lia) λg4 e4 t4=>az ?_);have S4:=S3.m2 D (j:=k+1) (by rw[show(xs.size:Int) - ((k+1:Nat):Int)=xs.size - k - 1 by lia];exact e4) t4.extBut;refine fW (bz S4.to rfl (fW<|dj S4.to λg5 e5 t5=>fW<|c5<|az ?_));have S5:=S4.mo D (x:=x) (y:=.int k s.toks) e5 t5.extBut;dsimp only;rw[List.forIn_nil];have sz:g5.objs.size=s.heap.objs.size:=t5.1.trans<|t4.1.trans<|t3.1.trans<|t2.1.trans t1.1;refine az<|fW<|bz S5.to rfl (fW<|eJ ?_);have S6:=S5.kp λc o _ e=>jw { cls:=.type "tuple",data:=.seq #[x,.int k s.toks]} e;refine fW (fW<|bj S6.z (by simp) λg7 e7 t7=>?_);have S7:=S6.mz D (f':=rawInt g5.objs.size) (bb':=bb) e7 t7.extBut;refine bj S7.z (by simp) λg8 e8 t8=>?_;have S8:=S7.mz D (f':=rawInt g5.objs.size) (bb':=false) e8 t8.extBut;have RI:g5.objs.size≠z:=bE<|jd S5.z;have hT:IsPair g8 g5.objs.size x (.int k s.toks):=t8.extBut _ _ RI<|t7.extBut _ _ RI<|aD _ rfl;have z8:g8.objs.size=s.heap.objs.size+1:=by rw[t8.1,t7.1,aR,sz]
 have kk:ZK z TO i1 i2 s.heap g8:=((((((pP t1.extBut).trans<|ya t2.extBut).trans<|Jt t3.extBut).trans<|Hq t4.extBut).trans<|Jt t5.extBut).trans λd o _ _ _ _ e=>jw _ e).trans<|(pP t7.extBut).trans<|pP t8.extBut;rw[sz]at S8 hT;refine az ⟨_,rfl,?_⟩;show Q (.ref g5.objs.size) _;rw[sz];exact hQ g8 S8 hT z8 kk
def NK {Q:ar->ak->Prop}{T0:ao}{o:Obj}(D:ZipApart z TI TO i1 i2 l1 l1)(S:ZR z TI TO i1 i2 l1 (rawInt T0) bb a b k k xs s.heap)(hd:s.heap.get? T0=some o)(hx:xs[k]?=some x)
 (hQ:∀ h',ZR z TI TO i1 i2 l1 (rawInt T0) true a b (k+1) (k+1) xs h'->IsPair h' s.heap.objs.size x (.int k s.toks)->h'.objs.size=s.heap.objs.size+1->ZK z TO i1 i2 s.heap h'->Q (.ref s.heap.objs.size) {s with heap:=h',toks:=s.toks+1}):
 wpAny (model prog w) A (Builtin.«zip.__next__» ⟨[.ref z],[]⟩) (λfin s'=>∃ v,fin=.done (.ret v)/\Q v s') E s:=by
 have hk:k<xs.size:=(Array.getElem?_eq_some_iff.mp hx).1;refine fW<|az<|fW<|aT S.z rfl (x:=.bool false) rfl (fW<|aT S.z rfl (x:=.ref TI) rfl (fW<|bz S.ti rfl ?_));refine fW (wc S.z hd λg1 e1 t1=>?_);have S1:=S.mz D (bb':=true) e1 t1.extBut;show wpAny _ _ (forIn (#[Value.ref i1,Value.ref i2]:Array ar) (none,#[]) _>>=_) _ _ _;rw[<- eB];refine fW ?_;rw[show(#[Value.ref i1,Value.ref i2]:Array ar).toList=[.ref i1,.ref i2]from rfl,bO];refine fW (fW<|bN<|fW<|kb (s:={s with heap:=g1}) S1.n1 S1.q1 hx λg2 e2 t2=>az<|az ?_);have S2:=S1.m1 D e2 t2.extBut;dsimp only;rw[bO];refine fW (fW<|bN<|fW<|wV (s:={s with heap:=g2}) S2.n2 (by lia) λg3 e3 t3=>az<|az ?_);have S3:=S2.m2 D (j:=k+1) (by rw[show(xs.size:Int) - ((k+1:Nat):Int)=xs.size - k - 1 by lia];exact e3) t3.extBut;dsimp only;rw[List.forIn_nil];refine az (fW<|eJ (az ⟨_,rfl,?_⟩) (by show 2<=sizeLine;decide));have sz:g3.objs.size=s.heap.objs.size:=t3.1.trans<|t2.1.trans t1.1;have S4:=S3.kp λc o _ e=>jw { cls:=.type "tuple",data:=.seq #[x,.int k s.toks]} e;have hT:IsPair (g3.push { cls:=.type "tuple",data:=.seq #[x,.int k s.toks]}) g3.objs.size x (.int k s.toks):=aD _ rfl;have z4:(g3.push { cls:=.type "tuple",data:=.seq #[x,.int k s.toks]}).objs.size=s.heap.objs.size+1:=by rw[aR,sz]
 have kk:ZK z TO i1 i2 s.heap (g3.push { cls:=.type "tuple",data:=.seq #[x,.int k s.toks]}):=(((pP t1.extBut).trans<|ya t2.extBut).trans<|Hq t3.extBut).trans λd o _ _ _ _ e=>jw _ e;show Q (.ref g3.objs.size) _;rw[sz]at hT ⊢
 exact hQ _ S4 hT z4 kk
def sC {Q:Fin->ak->Prop}(hh:A.handled=none)(D:ZipApart z TI TO i1 i2 l1 l1)(S:ZR z TI TO i1 i2 l1 f bb a b k m xs s.heap)(hf:f=.none\/∃ T0:ao,f=rawInt T0/\s.heap.get? T0=none)(ex:xs[k]?=none)
 (hE:∀ h' e,ZK z TO i1 i2 s.heap h'->(∃ o,h'.get? e=some o/\o.cls=.type "StopIteration")->E (.ref e) {s with heap:=h'}):
 wpAny (model prog w) A (Builtin.«zip.__next__» ⟨[.ref z],[]⟩) Q E s:=by
 refine fW<|az<|fW<|aT S.z rfl (x:=.bool false) rfl (fW<|aT S.z rfl (x:=.ref TI) rfl (fW<|bz S.ti rfl ?_));refine fW<|vU S.z hf ?_;refine fW (dN<|fW<|aT S.z rfl (x:=.ref TO) rfl (fW<|bj S.z (by simp) λg1 e1 t1=>?_));have S1:=S.mz D (f':=.ellipsis) (bb':=bb) e1 t1.extBut;refine fW ?_;rw[show(#[Value.ref i1,Value.ref i2]:Array ar).toList.zipIdx=[(.ref i1,0),(.ref i2,1)]from rfl,bO];refine fW (fW<|dn<|fW<|mX hh S1.n1 S1.q1 ex λg2 e t2 he=>?_);obtain⟨oe,LJ,Ra⟩:=he;have Io:kX g2 z TI TO .ellipsis bb:=t2 _ _ D.i1z.symm S1.z;have Wn:e≠z:=λq=>by subst q;rw[Io]at LJ;cases LJ;simp at Ra
 exact bj Io (by simp) λg3 _ t3=>hE g3 e (((pP t1.extBut).trans<|ya t2).trans<|pP t3.extBut) ⟨oe,t3.extBut _ _ Wn LJ,Ra⟩
def zG {Q:Fin->ak->Prop}{T0:ao}{o:Obj}(hh:A.handled=none)(D:ZipApart z TI TO i1 i2 l1 l1)(S:ZR z TI TO i1 i2 l1 (rawInt T0) bb a b k m xs s.heap)(hd:s.heap.get? T0=some o)(ex:xs[k]?=none)
 (hE:∀ h' e,ZK z TO i1 i2 s.heap h'->(∃ o,h'.get? e=some o/\o.cls=.type "StopIteration")->E (.ref e) {s with heap:=h'}):
 wpAny (model prog w) A (Builtin.«zip.__next__» ⟨[.ref z],[]⟩) Q E s:=by
 refine fW<|az<|fW<|aT S.z rfl (x:=.bool false) rfl (fW<|aT S.z rfl (x:=.ref TI) rfl (fW<|bz S.ti rfl ?_));refine fW (wc S.z hd λg1 e1 t1=>?_);have S1:=S.mz D (bb':=true) e1 t1.extBut;show wpAny _ _ (forIn (#[Value.ref i1,Value.ref i2]:Array ar) (none,#[]) _>>=_) _ _ _;rw[<- eB];refine fW ?_;rw[show(#[Value.ref i1,Value.ref i2]:Array ar).toList=[.ref i1,.ref i2]from rfl,bO];exact fW (fW<|bN<|fW<|mX hh S1.n1 S1.q1 ex λg2 e t2 he=>hE g2 e ((pP t1.extBut).trans<|ya t2) he)
def Xk (z TI TO i1 i2 l1:ao)(k:Nat)(xs:Array ar)(h:Heap):Prop:=∃ f bb a b,(f=.none\/∃ T0:ao,f=rawInt T0)/\ZR z TI TO i1 i2 l1 f bb a b k k xs h
def NI {Q:av ar->ak->Prop}(D:ZipApart z TI TO i1 i2 l1 l1)(Z:Xk z TI TO i1 i2 l1 k xs s.heap)(hx:xs[k]?=some x)
 (hQ:∀ h',Xk z TI TO i1 i2 l1 (k+1) xs h'->IsPair h' s.heap.objs.size x (.int k s.toks)->h'.objs.size=s.heap.objs.size+1->ZK z TO i1 i2 s.heap h'->Q (some<|.ref s.heap.objs.size) {s with heap:=h',toks:=s.toks+1}):
 wpAny (model prog w) A (pyNext<|.ref z) Q E s:=by
 obtain⟨f,bb,a,b,h2,S⟩:=Z;refine ue S.z ?_;rcases h2 with rfl|⟨T0,rfl⟩
 .exact Fw D S (.inl rfl) hx λh' S'=>hQ h' ⟨_,_,_,_,.inr ⟨_,rfl⟩,S'⟩
 .cases hd:s.heap.get? T0 with
  |none=>exact Fw D S (.inr ⟨T0,rfl,hd⟩) hx λh' S'=>hQ h' ⟨_,_,_,_,.inr ⟨_,rfl⟩,S'⟩
  |some o=>exact NK D S hd hx λh' S'=>hQ h' ⟨_,_,_,_,.inr ⟨_,rfl⟩,S'⟩
def NJ {Q:av ar->ak->Prop}(hh:A.handled=none)(D:ZipApart z TI TO i1 i2 l1 l1)(Z:Xk z TI TO i1 i2 l1 k xs s.heap)(hx:xs[k]?=none)
 (hQ:∀ h',ZK z TO i1 i2 s.heap h'->Q none {s with heap:=h'}):wpAny (model prog w) A (pyNext<|.ref z) Q E s:=by
 obtain⟨f,bb,a,b,h2,S⟩:=Z;refine ue S.z ?_;rcases h2 with rfl|⟨T0,rfl⟩
 .exact sC hh D S (.inl rfl) hx λh' e hk tE=>by obtain⟨o,he⟩:=tE;exact⟨⟨o,e,rfl,he⟩,hQ h' hk⟩
 .cases hd:s.heap.get? T0 with
  |none=>exact sC hh D S (.inr ⟨T0,rfl,hd⟩) hx λh' e hk qU=>by obtain⟨o,he⟩:=qU;exact⟨⟨o,e,rfl,he⟩,hQ h' hk⟩
  |some o=>exact zG hh D S hd hx λh' e hk pT=>by obtain⟨o,he⟩:=pT;exact⟨⟨o,e,rfl,he⟩,hQ h' hk⟩
end
end
def RJ:entryFor table "zip.__getattribute__"=some Builtin.«object.__getattribute__» :=
 entryFor_alias (id':= "object.__getattribute__") (by kernel_rfl) (by decide +kernel) (by decide +kernel) (by kernel_rfl)
def BJ:typeLookup (.type "zip") "keys"=pure none:=by rw[typeLookup_type,builtinLookup_eq_fast];kernel_rfl
def BK:typeLookup (.type "zip") "__getattr__"=pure none:=by rw[typeLookup_type,builtinLookup_eq_fast];kernel_rfl
section
variable {TI TO a:ao}
def NM (u:Tok):Meets (Builtin.«object.__getattribute__» ⟨[.ref a,.str "keys" u],[]⟩) (λA R s=>kX s.heap a TI TO f bb/\raisesAttr (.ref a) "keys" A R s) :=
 Meets.of_wp λprog w A R s hs=>by
  obtain⟨hp,g,d,tk,os⟩:=s;obtain⟨hx,hs⟩:=hs;have hT:(⟨hp,g,d,tk,os⟩:ak).TypeIs (.ref a) "zip":=⟨_,hx,rfl⟩;have f4:=BJ;unfold Builtin.«object.__getattribute__»
  repeat (any_goals (first|assumption|wp_step))
  exact wpAny_raiseAttrError hs.1 hs.2 (attrMsg_fits (by decide +kernel)<|by size_fits)
set_option maxHeartbeats 2000000 in
def NL {prog:ah}{w:ai}{A:Around}{E:ar->ak->Prop}{s:ak}{Q:av ar->ak->Prop}(hx:kX s.heap a TI TO f bb)(hA:A.handled=none)
 (h:∀ h' tk,(∀ b o,s.heap.get? b=some o->h'.get? b=some o)->Q none {s with heap:=h',toks:=tk}):wpAny (model prog w) A (getAttr? (.ref a) "keys") Q E s:=by
 obtain⟨hp,g,d,tk,os⟩:=s;have hT:∀ Vb,(⟨hp,g,d,Vb,os⟩:ak).TypeIs (.ref a) "zip":=λ_=>⟨_,hx,rfl⟩;have f1:=sub_AttributeError;have f3:=F.slot_zip_getattribute.lookup;have f4:=F.slot_zip_getattribute.bind<|.ref a;have f5:=BK;unfold getAttr? getAttrBy? getAttrBy;repeat (any_goals (first|assumption|exact hT _|((with_reducible show wpAny _ _ (call (Value.builtin "zip.__getattribute__") _ _) _ _ _);refine call_meets F.slot_zip_getattribute (hT _) RJ (F.args_zip_getattribute_2 _ _) (NM _) ⟨hx,hA,λh' Vb e yr=>?_⟩)|wp_step))
 obtain⟨t',u',he⟩:=yr.there;have ht:Shared.TypeIs ⟨h',g,d,Vb,os⟩ (.ref e) "AttributeError":=⟨_,he,rfl⟩;show wpAny _ _ (getattributeRaised (.ref a) (.str "keys" tk) (.type "zip") (.ref e) none false false) _ _ _;refine fW<|e9 ht f1 ?_;refine fW (m:=hookBehind (.type "zip") none)<|wpAny_of_eq (a:=none) f5 ?_;refine wpAny_throw ?_;exact fW (e9 ht f1<|az<|h _ _ yr.keeps)
end
def Rq:entryFor table "dict.update.loop"=some Builtin.«dict.update.loop»:=entryFor_of_tree (by kernel_rfl)
def Gb:plainId "dict.update.loop"=true:=by decide +kernel
def y7 (ns:au Int):au (Key×V):=ns.zipIdx.map λp=>(.inl p.1,.int (p.2:Nat))
def O5 (ns:au Int):(y7 ns).length=ns.length:=by unfold y7;rw[gP,List.length_zipIdx]
def Cz (ns:au Int):(y7 ns).map (·.1)=ns.map .inl:=by unfold y7;rw[aQ];exact(aQ (l:=ns.zipIdx) (f:=Prod.fst) (g:=(Sum.inl:Int->Key))).symm.trans (by rw[List.zipIdx_map_fst])
def Lo {ns:au Int}(h:n∉ns):putK (y7 ns) (.inl n) (.int (ns.length:Nat))=y7 (ns++[n]):=by
 rw[Ko]
 .unfold y7;rw[List.zipIdx_append,bB];simp
 .cases q:nV (y7 ns) (.inl n)with
  |none=>rfl
  | some v =>
   have hm:(Sum.inl n:Key)∈(y7 ns).map (·.1):=by
    unfold nV at q;cases q2:(y7 ns).find? (λkv=>decide (kv.1=Sum.inl n))with
    |none=>rw[q2]at q;cases q
    | some p =>have:=List.find?_some q2;exact List.mem_map.mpr ⟨p,dR q2,bR this⟩
   rw[Cz]at hm;obtain⟨m,hm,e⟩:=List.mem_map.mp hm;cases e;exact absurd hm h
section
variable {X:Cx}{fA:au (ao×Obj)}{σ:St}
def Pr {A:Around}{R:Result->ak->Prop}{z TI TO i1 i2 l1 S:ao}{H0:Hp}{ns:au Int}{xv:au ar}(hh:A.handled=none)(D:ZipApart z TI TO i1 i2 l1 l1)(rx:gC (ns.map V.int) xv)(hz:ns.length<sizeLine)(nd:ns.Nodup)
 (nS:S∉[z,TI,TO,i1,i2,l1]) (h0:H0 S=none) (hR:∀ s' H',Inv X fA σ H' s'->iA H0 H'->H' S=some (.dK<|y7 ns)->R (.ok<|.ret .none) s'):
 ∀(k i:Nat) (s:ak) (H:Hp),ns.length - i=k->i<=ns.length->Inv X fA σ H s->iA H0 H->(∀ b∈[z,TO,i1,i2],mE X fA H b)->H S=some (.dK<|y7<|ns.take i)->Xk z TI TO i1 i2 l1 i xv.toArray s.heap ->
  codeAny (model X.prog X.w) A (.builtin "dict.update.loop" ⟨[.ref S,.ref z,rawInt i,.none],[]⟩) R s:=by
 have lx:=rx.length
 rw[gP]at lx
 have zk:∀ {h h':Heap},ZK z TO i1 i2 h h'->∀ b o,b∉[z,TO,i1,i2]->h.get? b=some o->h'.get? b=some o:=λkk b o hb e=>kk b o (λq=>hb<|by simp[q]) (λq=>hb<|by simp[q]) (λq=>hb<|by simp[q]) (λq=>hb<|by simp[q]) e
 have sub:∀ b∈[z,TO,i1,i2],b∈[z,TI,TO,i1,i2,l1]:=λb hb=>by
  simp only[a6,aN,cb]at hb ⊢
  rcases hb with q|q|q|q<;>simp[q]
 intro k
 induction k with
 | zero =>
  intro i s H hk hi I hS fp gS Z;have ei:i=ns.length:=by lia
  refine dg Rq ?_;rw[dm Gb _];show wpAny _ A.in1 (pyNext (.ref z)>>=_) _ _ s;refine fW (NJ (A:=A.in1) hh D Z (by simp;lia) λh' kk=>?_);have I':=I.yJ (ch:=[z,TO,i1,i2]) fp<|zk kk;rw[ei,List.take_length]at gS;exact fW (m:=Builtin.Dict.addKeywords S []) (az<|az<|hR _ H I' hS gS)
 | succ k ih =>
  intro i s H hk hi I hS fp gS Z;have mv:i<ns.length:=by lia
  obtain⟨u,eu,tk,rfl⟩:=rx.get (x:=.int ns[i]) (i:=i) (by rw[mS,iD mv];rfl);refine dg Rq ?_;rw[dm Gb _];show wpAny _ A.in1 (pyNext (.ref z)>>=_) _ _ s;refine fW (NI (A:=A.in1) D Z (by simpa using eu) λh' Z' hT hs kk=>?_);have I':=I.yI (ch:=[z,TO,i1,i2]) (x:=.int ns[i]) (y:=.int i) fp (zk kk) hT ⟨tk,rfl⟩ ⟨s.toks,rfl⟩;have hn:H s.heap.objs.size=none:=I.iH.fresh<|aw _;have I1:Inv X fA σ (upd H s.heap.objs.size<|.tup [.int ns[i],.int i]) {s with heap:=h',toks:=s.toks+1}:=I'.iR (t':=s.toks+1) λ_ _ e=>e;have e1:upd H s.heap.objs.size (.tup [.int ns[i],.int i]) S=some (.dK<|y7<|ns.take i):=by rw[gp (gG gS hn)];exact gS
  refine fW<|bN<|fW<|dM ?_;have tT:Shared.TypeIs {s with heap:=h',toks:=s.toks+1} (.ref s.heap.objs.size) "tuple":=⟨_,hT,rfl⟩;refine fW<|wpAny_typeOf tT ?_;rw[aE (by decide)];refine fW<|bz hT rfl (az ?_);show wpAny _ A.in1 (holding [_,_]<|dictSet S (.int ns[i] tk)<|.int i s.toks) _ _ _;obtain⟨z1,hd,vs,rel,dd⟩:=Mw I1.iH e1;have Wb:vs.length<=sizeLine:=by rwa [<- rel.length]
  have nm:ns[i]∉ns.take i:=λq=>by obtain⟨j,hj,e⟩:=aJ q;rw[bg]at hj;rw[List.getElem_take]at e;have:=(List.getElem_inj nd).mp e;lia
  have sn:putK (y7<|ns.take i) (.inl ns[i]) (.int i)=y7 (ns.take<|i+1):=by have:=Lo nm;rw[bg,bZ (by lia)]at this;rw[this,List.take_succ_eq_append_getElem mv]
  refine bN (wpAny_dictSet_pairs (k:=.inl ns[i]) (za (k:=.inl ns[i]) ⟨tk,rfl⟩) dd λh2 IE rm=>?_);have he:∃ q,h2.get? S=some q:=let ⟨q,_,_,hq,_⟩:=IE;⟨q,hq⟩
  have I2:=vY (t':=s.toks+1+1) I1 (by rw[e1];exact True.intro) rm he (E9 (H':=upd (upd H s.heap.objs.size<|.tup [.int ns[i],.int i]) S<|.dK<|putK (y7<|ns.take i) (.inl ns[i])<|.int i) (by have:=nQ (y7<|ns.take i) (.inl ns[i])<|.int i;rw[O5,bg]at this;lia) hd (rel.put (.inl ns[i])<|show gB (.int i) (.int i s.toks)from⟨s.toks,rfl⟩) IE);rw[sn]at I2;refine az ⟨dq Gb _,?_⟩;have nSb:∀ b∈[z,TI,TO,i1,i2,l1],b≠S:=λb hb q=>nS<|q▸hb;have nTb:∀ b∈[z,TO,i1,i2],b≠s.heap.objs.size:=λb hb q=>by
   obtain⟨f,bb,a,b',_,Z1⟩:=Z;obtain⟨_,z3⟩:=Z1.n1.ex;simp only[a6,aN,cb]at hb;rcases hb with e|e|e|e
   .exact aC (jd Z1.z) (e.symm.trans q)
   .exact aC (jd Z1.to) (e.symm.trans q)
   .exact aC (jd z3) (e.symm.trans q)
   .exact aC (jd Z1.n2) (e.symm.trans q)
  refine ih (i+1) _ _ (by lia) mv I2 ?_ (λb hb=>⟨by rw[gp (nSb b<|sub b hb),gp (nTb b hb)];exact(fp b hb).1,(fp b hb).2⟩) fX ?_
  .intro c o e;rw[gp (λq=>by subst q;rw[h0]at e;cases e)];exact iA.upd hn _ _ (hS _ _ e)
  .obtain⟨f,bb,a,b',g,Z1⟩:=Z';exact⟨f,bb,a,b',g,Z1.kp λc o hc e=>(rm.2 c<|nSb c hc).trans e⟩
end
def QQ (n:Int):Obj:={ cls:=.type "range_iterator",data:=.fields #[rawInt 0,rawInt n,rawInt 1]}
def Nx (a:ao):Obj:={ cls:=.type "list_iterator",data:=.fields #[.ref a,.int 0 0]}
def zP (i:ao):Obj:={ cls:=.type "tuple",data:=.seq #[.ref i,.ref (i+1)]}
def zN:Obj:={ cls:=.type "tuple",data:=.seq #[.none,.none]}
def zO (i:ao):Obj:={ cls:=.type "zip",data:=.fields #[.none,.bool false,.bool false,.ref (i+2),.ref (i+3)]}
def Np (l:ao)(n:Int)(h:Heap):Heap:=((((h.push<|Nx l).push<|QQ n).push<|zP h.objs.size).push zN).push (zO h.objs.size)
def R9 (n:Nat):Builtin.Range.rangeSize 0 n 1=n:=by rw[rangeSize_one];split<;>lia
def Jw (l r:ao)(xs:Array ar)(n:Nat)(t u v:Tok)(hn:n<sizeLine):Meets (Builtin.«zip.__new__» ⟨[.type "zip",.ref l,.ref r],[]⟩) (λ_ R s=>s.heap.IsList l xs/\IsRange s.heap r 0 n 1 t u v /\
 R (.ok<|.ret<|.ref<|s.heap.objs.size+4) {s with heap:=Np l n s.heap}):=
 .of_wp λprog w A R s h=>by obtain⟨hp,g,d,tk,os⟩:=s;obtain⟨X8,sv,h⟩:=h;have We:=sub_zip;have sm:Builtin.Range.small 0 n 1=true:=small_one (by decide) (by decide) (by lia) (by have:=sizeLine_eq;lia);have t2:IsRange (Shared.heap ⟨hp.push { cls:=.type "list_iterator",data:=.fields #[.ref l,.int 0 0]},g,d,tk,os⟩) r 0 n 1 t u v:=jw _ sv;wp_walk using cP X8,wpAny_pyIter_range t2 sm;refine⟨_,rfl,?_⟩;simp only[aR,R9];exact h
section
variable {X:Cx}{fA:au (ao×Obj)}{σ:St}
def ID {H:Hp}{s:ak}{a:ao}{ns:au Int}{Q:VK}(I:Inv X fA σ H s)(gH:X.gH=true)(ha:H a=some (.lst<|ns.map V.int))(nd:ns.Nodup)(hn:ns.length<sizeLine)
 (hQ:∀ l H',H l=none->iA H H'->H' l=some (.dK<|y7 ns)->Q (.ref l) H'):
 wpAny (model X.prog X.w) X.A (call (.type "range") [.int ns.length tk]) (λv s1=>wpAny (model X.prog X.w) X.A (call (.type "zip") [.ref a,v]) (λv s2=>wpAny (model X.prog X.w) X.A (call (.type "dict") [v]) (EP X fA σ Q) X.xe s2) X.xe s1) X.xe s:=by
 obtain⟨z1,xv,n1,rx,lx,ea⟩:=I.mq ha;refine call_range_1 ?_;have la:(a:Nat)<s.heap.objs.size:=jd ea;have hxl:xv.length=ns.length:=by have:=rx.length;rw[gP]at this;exact this.symm
 generalize hg:s.heap.push { cls:=.type "range",data:=.fields #[.int 0 s.toks,.int ns.length tk,.int 1 (s.toks+1)]}=g;have kg:∀ b o,s.heap.get? b=some o->g.get? b=some o:=λb o e=>by rw[<- hg];exact jw _ e
 have hr:IsRange g s.heap.objs.size 0 ns.length 1 s.toks tk (s.toks+1):=by rw[<- hg];exact IsRange.new ..
 have sg:g.objs.size=s.heap.objs.size+1:=by rw[<- hg];exact aR ..
 refine callType_new F.called_zip (by decide) (F.typeCall_zip_2 _ _) (F.newCall_zip_2 _ _) (λobj=>F.args_object_init_3 obj _ _) F.entry_zip_new (Jw a s.heap.objs.size xv.toArray ns.length s.toks tk (s.toks+1) hn) ⟨⟨_,kg _ _ ea,rfl,n1,rfl⟩,hr,?_⟩;dsimp only;have y0:(g.push<|Nx a).objs.size=g.objs.size+1:=aR ..
 have y1:((g.push<|Nx a).push<|QQ ns.length).objs.size=g.objs.size+2:=by rw[aR,y0]
 have y2:(((g.push<|Nx a).push<|QQ ns.length).push<|zP g.objs.size).objs.size=g.objs.size+3:=by rw[aR,y1]
 have y3:((((g.push<|Nx a).push<|QQ ns.length).push<|zP g.objs.size).push zN).objs.size=g.objs.size+4:=by rw[aR,y2]
 have g0:(Np a ns.length g).get? g.objs.size=some (Nx a):=jw _<|jw _<|jw _<|jw _<|aD _ rfl;have g1:(Np a ns.length g).get? (g.push<|Nx a).objs.size=some (QQ ns.length):=jw _<|jw _<|jw _<|aD _ rfl;have g2:(Np a ns.length g).get? ((g.push<|Nx a).push<|QQ ns.length).objs.size=some (zP g.objs.size):=jw _<|jw _<|aD _ rfl;have g3:(Np a ns.length g).get? (((g.push<|Nx a).push<|QQ ns.length).push<|zP g.objs.size).objs.size=some zN:=jw _<|aD _ rfl;have g4:(Np a ns.length g).get? ((((g.push<|Nx a).push<|QQ ns.length).push<|zP g.objs.size).push zN).objs.size=some (zO g.objs.size):=aD _ rfl;rw[y0]at g1;rw[y1]at g2;rw[y2]at g3;rw[y3]at g4;have y4:(Np a ns.length g).objs.size=g.objs.size+5:=by unfold Np;rw[aR,y3]
 have kz:∀ b o,g.get? b=some o->(Np a ns.length g).get? b=some o:=λb o e=>jw _<|jw _<|jw _<|jw _<|jw _ e;refine⟨⟨_,g4,rfl⟩,?_⟩;generalize hG:Np a ns.length g=G at g0 g1 g2 g3 g4 y4 kz;have D:ZipApart (g.objs.size+4) (g.objs.size+2) (g.objs.size+3) g.objs.size (g.objs.size+1) a a:=zipApart_new (by lia) (by lia);have Z:Xk (g.objs.size+4) (g.objs.size+2) (g.objs.size+3) g.objs.size (g.objs.size+1) a 0 xv.toArray G:=⟨_,_,_,_,.inl rfl,g4,g2,g3,⟨_,g0,rfl,rfl⟩,by rw[show((xv.toArray.size:Int) - ((0:Nat):Int))=ns.length by rw[aG];lia];exact g1,⟨_,kz _ _<|kg _ _ ea,rfl,n1,rfl⟩⟩;have I1:Inv X fA σ H {s with heap:=G,toks:=s.toks+1+1}:=I.iR (t':=s.toks+1+1) λb o e=>kz b o<|kg b o e;have Yh:∀ c,s.heap.objs.size<=c->mE X fA H c:=λc hc=>I.ES hc<|I.iH.fresh hc;refine callType_codes (Q₁:=λobj s₁=>obj=.ref G.objs.size/\s₁={s with heap:=G.push { cls:=.type "dict",data:=.dict #[]},toks:=s.toks+1+1}) F.kt_called_dict (F.kt_typeCall_dict_1 _) F.entry_dict_init (kt_code_dict_new _ ⟨rfl,rfl⟩) ?_;rintro obj s₁ ⟨rfl,rfl⟩;have I2:Inv X fA σ (upd H G.objs.size<|.dK []) {s with heap:=G.push { cls:=.type "dict",data:=.dict #[]},toks:=s.toks+1+1}:=I1.laid (t':=s.toks+1+1) (λ_ _ q=>jw _ q) (aw _)<|xB G I1.big;have tD:Shared.TypeIs {s with heap:=G.push { cls:=.type "dict",data:=.dict #[]},toks:=s.toks+1+1} (.ref G.objs.size) "dict":=⟨_,aD _ rfl,rfl⟩;have gz:kX (G.push { cls:=.type "dict",data:=.dict #[]}) (g.objs.size+4) (g.objs.size+2) (g.objs.size+3) .none false:=jw _ g4;have tZ:Shared.TypeIs {s with heap:=G.push { cls:=.type "dict",data:=.dict #[]},toks:=s.toks+1+1} (.ref<|g.objs.size+4) "zip":=⟨_,gz,rfl⟩;refine⟨tD,F.args_dict_init_2 _ _,?_⟩;unfold Builtin.«dict.__init__»
 refine fW ?_;unfold Builtin.Dict.selfAndRest;refine fW<|wpAny_notOrdered_dict tD ?_;show wpAny _ _ (pure (G.objs.size,[Value.ref (g.objs.size+4)])) _ _ _;refine az ?_;show wpAny _ _ (Builtin.Dict.updateFrom "dict.__init__" G.objs.size (.ref<|g.objs.size+4) [] .none) _ _ _;unfold Builtin.Dict.updateFrom;refine fW<|wpAny_typeOf tZ ?_;rw[aE (by decide)];refine fW (NL gz (I.ok.hd gH) λh' Vb kp=>?_);refine fW<|dN<|fW<|cJ (kp _ _ gz)<|az ⟨dq Gb _,?_⟩;have Nz:∀ b o,G.get? b=some o->h'.get? b=some o:=λb o e=>kp b o<|jw _ e;have nS:G.objs.size∉[g.objs.size+4,g.objs.size+2,g.objs.size+3,g.objs.size,g.objs.size+1,a]:=by simp only[a6,aN,cb,not_or];refine⟨?_,?_,?_,?_,?_,?_⟩<;> (intro q;lia)
 have hS0:H G.objs.size=none:=I.iH.fresh (by lia);refine Pr (A:=X.A.in1) (R:=wants (λr s₂=>r=.none/\EP X fA σ Q (.ref G.objs.size) s₂) X.xe) (H0:=H) (I.ok.hd gH) D rx hn nd nS hS0 (λs' H' I' S' e'=>⟨rfl,.ref _,H',I',rfl,hQ _ _ hS0 S' e'⟩) _ 0 _ (upd H G.objs.size<|.dK []) rfl (bA _) (I2.iR (t':=Vb) kp) (iA.upd hS0) (λb hb=>?_) fX ?_
 .simp only[a6,aN,cb]at hb;have hb1:s.heap.objs.size<=b/\b≠G.objs.size:=by rcases hb with e|e|e|e<;>subst e<;>lia
  have f:=Yh b hb1.1;exact⟨by rw[gp hb1.2];exact f.1,f.2⟩
 .obtain⟨f,bb,x,y,q,Z1⟩:=Z;exact⟨f,bb,x,y,q,Z1.kp λc o _ e=>Nz c o e⟩
end
def Il (n:Nat):au D:=(List.range n).map λi=>D.int (i:Nat)
def Ln (ns:au Int):(y7 ns).map (·.2)=(List.range ns.length).map λi=>V.int (i:Nat):=by unfold y7;rw[aQ];exact(aQ (l:=ns.zipIdx) (f:=Prod.snd) (g:=λi:Nat=>V.int (i:Nat))).symm.trans (by rw[List.zipIdx_map_snd,List.range_eq_range'])
def Yl (K:DK)(d e:D)(μ:MS):Prop:=match d,e with
 |.lst ds,.int n=>∃ ns:au Int,ds=ns.map D.int/\n=ns.length/\ns.Nodup/\ns.length<sizeLine/\K (.jS (ns.map .inl)<|Il ns.length) μ
 |_,_=>False
def dDZ (w1 w2:De):De:=λρ μ K=>w1 ρ μ λd gc=>w2 ρ gc λe iP=>Yl K d e iP
section
variable {X:Cx}{a b:Expr}{pos:Pos}
def Mz {w1 w2:De}{p p2 p3 mO Ei:Pos}(gH:X.gH=true)(hg:Gl X "dict")(hm:X.mg "dict"=none)(LM:Gl X "zip")(EK:X.mg "zip"=none)(hg3:Gl X "range")(hm3:X.mg "range"=none)(h1:PD X a w1)(h2:PD X b w2)
 (hs:starEach [b] X.env=[(false,eval b X.env)]:=by rfl) (rm:starEach [.Call (.Name "range" p3) [b] [] Ei] X.env=[(false,eval (.Call (.Name "range" p3) [b] [] Ei) X.env)]:=by rfl)
 (hs1:starEach [a,.Call (.Name "range" p3) [b] [] Ei] X.env=[(false,eval a X.env),(false,eval (.Call (.Name "range" p3) [b] [] Ei) X.env)]:=by rfl)
 (CG:starEach [.Call (.Name "zip" p2) [a,.Call (.Name "range" p3) [b] [] Ei] [] mO] X.env=[(false,eval (.Call (.Name "zip" p2) [a,.Call (.Name "range" p3) [b] [] Ei] [] mO) X.env)]:=by rfl):
 PD X (.Call (.Name "dict" p) [.Call (.Name "zip" p2) [a,.Call (.Name "range" p3) [b] [] Ei] [] mO] [] pos) (dDZ w1 w2):=by
 intro fA s σ H Q I h;refine cA<|kc I hg hm boot_dict ?_;obtain⟨φ,ρ,μ,K,A,M,k,L⟩:=h;refine aS ?_ CG rfl;rw[CG];refine cC ?_;refine Call_ (kc I LM EK boot_zip<|aS ?_ (by rw[hs1,rm]) (by rw[rm];rfl));rw[hs1];have q1:tD w1 σ H λv1 H1=>∃ gL d1 gc,Fr φ H gL H1/\gy gL H1 gc/\jy gL H1 d1 v1/\w2 ρ gc λe iP=>Yl K d1 e iP:=⟨φ,ρ,μ,_,A,M,k,λd1 gc gL v1 H1 k1 f1 M1 i1=>⟨gL,d1,gc,f1,M1,i1,k1⟩⟩;refine cC (iN (h1 fA s σ H _ I q1) λu s1 pS=>?_);obtain⟨v1,H1,I1,r1,gL,d1,gc,f1,M1,i1,k1⟩:=pS;refine cC<|Call_<|kc I1 hg3 hm3 boot_range<|aS ?_ hs rfl;rw[hs];have q2:tD w2 σ H1 λv2 H2=>∃ lg d2 iP,Fr gL H1 lg H2/\gy lg H2 iP/\jy lg H2 d2 v2/\Yl K d1 d2 iP:=⟨gL,ρ,gc,_,A.mono f1,M1,k1,λd2 iP lg v2 H2 k2 f2 M2 i2=>⟨lg,d2,iP,f2,M2,i2,k2⟩⟩;refine cC (iN (h2 fA s1 σ H1 _ I1 q2) λu2 s2 qk=>?_);obtain⟨v2,H2,I2,r2,lg,d2,iP,f2,M2,i2,k2⟩:=qk;refine cV ?_;unfold Yl at k2;split at k2
 .obtain⟨ns,rfl,rfl,nd,hn,kk⟩:=k2;obtain⟨p,vs,rfl,hp,e1,al⟩:=i1.mono f2;cases fV.ints al;cases(show v2=_ from i2);cases(show u=_ from r1);obtain⟨t,rfl⟩:=(show ∃ t,u2=Value.int _ t from r2);refine iN (ID I2 gH e1 nd hn λl H' hl S' e'=>?_) λv s3 hv=>cV (iN hv λv4 s4 hv4=>cV hv4);exact L _ iP lg _ H' kk ((f1.trans f2).trans<|.same S') (M2.same S') ⟨l,_,_,rfl,M2.fresh hl,e',Cz ns,rfl,by rw[Ln];unfold Il;rw[show(λi:Nat=>D.int (i:Nat))=D.int ∘ λi:Nat=>(i:Int)from rfl,show(λi:Nat=>V.int (i:Nat))=V.int ∘ λi:Nat=>(i:Int)from rfl,<- aQ,<- aQ];exact fV.ofInts _⟩
 .exact k2.elim
end
theorem CU:∀ {ns:au Int} {x:Int} (i:Nat) (j:Nat),x∈ns->j=i+ns.idxOf x->qW ((ns.map (Sum.inl:Int->Key)).zip<|(List.range' i ns.length).map λk=>D.int (k:Nat)) (.inl x)=some (.int (j:Nat))
 | n::ns,x,i,j,h,e=>by
  rw[a8,List.range'_succ,aB,aB,cK];unfold qW;rw[b7];by_cases q:n=x
  .subst q;rw[aI rfl,e,List.idxOf_cons_self];rfl
  .rw[aO λz=>q<|Sum.inl.inj z];rcases List.mem_cons.mp h with z|z
   .exact absurd z.symm q
   .exact CU (i+1) j z (by rw[e,cY,show(n==x)=false from beq_eq_false_iff_ne.mpr q];simp;lia)
def Pu {ns:au Int}{x:Int}(h:x∈ns):qW ((ns.map (Sum.inl:Int->Key)).zip<|Il ns.length) (.inl x)=some (.int (ns.idxOf x:Nat)):=by unfold Il;rw[List.range_eq_range'];exact CU 0 _ h (dw _).symm
def La {es:au Int}{ts:au Tk}{o:Int}{e m:Int}(ho:∀ t∈ts,t.2<=o)(h1:m∈ts.map λt=>iS es t.1 e)(h2:∀ y∈ts.map (λt=>iS es t.1 e),y<=m):m=i7 es ts o e:=by
 let ⟨t,ht,et⟩:=List.mem_map.mp h1;have g1:=l7 (es:=es) (e:=e) ht<|ho t ht;have g2:=AQ es t.1 e;have g3:i7 es ts o e<=m:=by
  rw[jO];rcases jD ((ts.filter λt=>decide (t.2<=o)).map λt=>iS es t.1 e) e with q|q
  .lia
  .let ⟨u,hu,eu⟩:=List.mem_map.mp q;rw[<- eu];exact h2 _ (List.mem_map.mpr ⟨u,(List.mem_filter.mp hu).1,rfl⟩)
 lia
def OG {n:Int}{cs:au Int}{ts:au Tk}(S:gv n cs ts)(a e:Int):i7 (fw n cs) ts a e<=i7 (fw n cs) ts 60 e:=by
 rw[jO _ ts a];rcases jD ((ts.filter λt=>decide (t.2<=a)).map λt=>iS (fw n cs) t.1 e) e with q|q
 .rw[q];exact mP _ _ _ _
 .let ⟨t,ht,et⟩:=List.mem_map.mp q;rw[<- et];have hm:=(List.mem_filter.mp ht).1;exact l7 hm (S.takes.ok t hm).2.2.2
theorem D0 {n:Int}{cs:au Int}{ts:au Tk}(S:gv n cs ts):∀(k i j:Nat),i<j->j<(fw n cs).length->fQ (fw n cs) ts k i j<((fw n cs).length:Int) - 1 ->
 (fw n cs).getD j 0<=zd (i7 (fw n cs) ts 60) ((fQ (fw n cs) ts k i j).toNat+1) ((fw n cs).getD i 0)
 | 0,i,j,pE,hj,h=>by exfalso;unfold fQ jx at h;rw[aF (by lia)]at h;lia
 | k+1,i,j,pE,hj,h=>by
  have hs:=qc S 60;have gi:=getD_some (xs:=fw n cs) (i:=i) (by lia);have side:=kH S k;unfold fQ iE at h ⊢
  by_cases q:(fw n cs).getD j 0<=(i0 (fw n cs) ts k).getD i 0
  .rw[aE q];rw[jC gi]at q;exact bu q (OG S k _)
  .rw[aF q]at h ⊢
   rcases(jQ (mJ (fQ (fw n cs) ts k) i j)<|((fw n cs).length:Int) - 1).1 with z|z
   .lia
   .obtain⟨m,h1,h2,e⟩:=kL.mp z;rw[e]at h ⊢
    have s1:=jX side (i:=i) (j:=m) (by lia) (by lia);have s2:=jX side (i:=m) (j:=j) (by lia) (by lia);have a1:=D0 S k i m h1 (by lia) (by lia);have a2:=D0 S k m j h2 hj (by lia);rw[show(fQ (fw n cs) ts k i m+fQ (fw n cs) ts k m j+1).toNat+1=(fQ (fw n cs) ts k i m).toNat+1+((fQ (fw n cs) ts k m j).toNat+1) by lia,Gp];exact bu a2 (CC hs (kq<|getD_some<|by lia) (tq hs (kq gi) _) a1 _)
def O0 {n:Int}{cs:au Int}{ts:au Tk}(S:gv n cs ts){k M:Nat}(h:fQ (fw n cs) ts k 0 (cs.length+1)<(cs.length:Int)+1)(hl:∀ m,m<M->zd (i7 (fw n cs) ts 60) m 0<n):(M:Int)<=fQ (fw n cs) ts k 0 (cs.length+1)+1:=by
 have el:=fU n cs;have:=D0 S k 0 (cs.length+1) (by lia) (by lia) (by lia);rw[E8,show(fw n cs).getD 0 0=0 from rfl]at this;have s1:=(jX (kH S k) (i:=0) (j:=cs.length+1) (by lia)<|by lia).1;rcases cg ((fQ (fw n cs) ts k 0<|cs.length+1).toNat+1) M with q|q
 .have:=hl _ q;lia
 .lia
def uG:j4:=λds μ K=>match ds with
 |[.lst b,.lst y]=>∃(n:Int) (cs:au Int) (ts:au Tk),b=(fw n cs).map D.int/\y=ts.map nB/\gv n cs ts/\ts≠[]/\∀ M:Nat,M<=cs.length+2->(∀ m,m<M->zd (i7 (fw n cs) ts 60) m 0<n)->K (.int M) μ
 |_=>False
end L2
namespace Pf
open PySem L2 PyProof.Rows
def top (i:Nat):Stmt:=PySem.Challenge.pw_hissroom_k52_whole_answers_of_longer_son.main.body.getD i (.Pass ⟨0,0,0,0⟩)
def met (i j:Nat):Stmt:=(PN<|top i).getD j (.Pass ⟨0,0,0,0⟩)
abbrev wH:Stmt:=top 32
abbrev rJ:Stmt:=top 33
abbrev rP:Stmt:=top 34
abbrev rO:Stmt:=top 35
abbrev lU:Stmt:=top 36
abbrev s_same:Stmt:=top 54
abbrev rN:Stmt:=top 2
abbrev m7:Stmt:=top 3
abbrev ng:Stmt:=top 5
abbrev kW:Stmt:=top 4
abbrev jH:Stmt:=top 12
abbrev j9:Stmt:=top 13
abbrev jL:Stmt:=top 14
abbrev kS:Stmt:=top 11
abbrev j6:Stmt:=top 10
abbrev lV:Stmt:=top 17
abbrev jj:Stmt:=top 18
abbrev iX:Stmt:=top 20
abbrev jh:Stmt:=top 19
abbrev jM:Stmt:=top 16
abbrev m8:Stmt:=top 22
abbrev hJ:Stmt:=met 24 1
abbrev gF:Stmt:=met 24 2
abbrev ij:Stmt:=met 24 3
abbrev gI:Stmt:=met 24 5
abbrev hU:Stmt:=met 24 4
abbrev gW:Stmt:=met 24 0
abbrev gU:Stmt:=met 24 6
abbrev lW:Stmt:=top 23
abbrev ju:Stmt:=top 26
abbrev o3:Stmt:=top 29
abbrev kU:Stmt:=top 28
abbrev j8:Stmt:=top 27
abbrev wF:Stmt:=top 40
abbrev wD:Stmt:=top 41
abbrev rK:Stmt:=top 42
abbrev m9:Stmt:=top 43
abbrev oZ:Stmt:=top 44
abbrev p9:Stmt:=top 45
abbrev kT:Stmt:=top 46
abbrev o5:Stmt:=top 47
abbrev o4:Stmt:=top 49
abbrev jK:Stmt:=top 48
abbrev jv:Stmt:=top 56
abbrev j7:Stmt:=top 57
abbrev j5:Stmt:=top 58
abbrev oY:Stmt:=top 52
abbrev rL:Stmt:=top 39
abbrev rM:Stmt:=top 53
abbrev m6:Stmt:=top 55
abbrev nh:Stmt:=top 30
abbrev nK:Stmt:=top 59
structure ja (K:aa)(C:ao):Prop where
 cl:Hm K C
 sU:W.findIn K (.ref C) "places"=some none
 K8:W.findIn K (.ref C) "rows"=some none
 sT:W.findIn K (.ref C) "tables"=some none
 Ar:W.findIn K (.ref C) "whole"=some none
 sV:W.findIn K (.ref C) "counts"=some none
def R5:fT ["_law_script"] (pA wH) (fI wH):=iW
def sI:fT ["_law_box_here","_law_many","_law_rest","_law_cell","_law_one","_law_two"] (pA rJ) (fI rJ):=iW
def oX:fT ["_law_box_here","_law_size","_law_kind","_law_first","_law_behind"] (pA rP) (fI rP):=iW
def vI:fT ["_law_box_here","_law_size","_law_kind"] (pA rO) (fI rO):=iW
def lT:fT ["_law_box_here","_law_size","_law_cuts_here","_law_texts","_law_border","_law_k","_law_at","_law_old","_law_clean"] (pA lU) (fI lU):=iW
def Od:fT ["_law_found","_law_due"] (pA s_same) (fI s_same):=iW
def Of:fT ["size","cuts"] (pA rN) (fI rN):=iW
def yQ:fT ["size","cuts","places"] (pA m7) (fI m7):=iW
def qD:fT ["size","cuts","takes","first","behind"] (pA ng) (fI ng):=iW
def nJ:fT ["size","cuts","text","end","spoilt","clean_to"] (pA kW) (fI kW):=iW
def oV:fT ["size","cuts","takes","places"] (pA jH) (fI jH):=iW
def ku:fT ["places","rows","age","told","take_age","row"] (pA j9) (fI j9):=iW
def kJ:fT ["places","rows","before","age","where","clean"] (pA jL) (fI jL):=iW
def uY:fT ["takes"] (pA kS) (fI kS):=iW
def jJ:fT ["size","cuts","takes","places","rows","age","told"] (pA j6) (fI j6):=iW
def D5:fT ["places"] (pA lV) (fI lV):=iW
def nZ:fT ["places","none"] (pA jj) (fI jj):=iW
def ou:fT ["lefts","rights","none"] (pA iX) (fI iX):=iW
def iT:fT ["places","clean","before","columns","none","told","first","row","far"] (pA jh) (fI jh):=iW
def gZ:fT ["size","cuts","takes","age","places","rows","ages","table","changing","told","now","before"] (pA jM) (fI jM):=iW
def yR:fT ["size","cuts","takes","age","many"] (pA m8) (fI m8):=iW
def jg:fT ["self","stretch","age","first","behind"] (pA hJ) (fI hJ):=iW
def gM:fT ["self","stretch","age","first","behind","end"] (pA gF) (fI gF):=iW
def g9:fT ["self","stretch","age","first","behind","many","before"] (pA ij) (fI ij):=iW
def gT:fT ["self","stretch","many","place","left","right"] (pA gI) (fI gI):=iW
def p8:fT ["self","stretch"] (pA hU) (fI hU):=iW
def lM:fT ["self","size","cuts","takes","least"] (pA gW) (fI gW):=iW
def gN:fT ["self","stretch","number","rest","place","left","right","many"] (pA gU) (fI gU):=iW
def wC:fT ["size","cuts","takes","number","best"] (pA lW) (fI lW):=iW
def i8:fT ["size","cuts","takes","age","places","rows","told","row","now"] (pA ju) (fI ju):=iW
def BZ:fT ["row","behind","joins"] (pA o3) (fI o3):=iW
def jG:fT ["places","table","many","told","behinds","joins","enough"] (pA kU) (fI kU):=iW
def mM:fT ["size","cuts","takes","age","many","places","tables"] (pA j8) (fI j8):=iW
def Ad:fT ["_law_border","_law_text","_law_end","_law_at"] (pA wF) (fI wF):=iW
def Ab:fT ["_law_border","_law_takes","_law_age","_law_row","_law_end"] (pA wD) (fI wD):=iW
def oW:fT ["_law_border","_law_takes","_law_many","_law_rows_here","_law_age","_law_row","_law_last"] (pA rK) (fI rK):=iW
def qB:fT ["_law_border","_law_takes","_law_k","_law_part"] (pA m9) (fI m9):=iW
def sJ:fT ["_law_border","_law_takes","_law_rows_here"] (pA oZ) (fI oZ):=iW
def FN:fT ["_law_border","_law_takes"] (pA p9) (fI p9):=iW
def k7:fT ["_law_border","_law_fars_here","_law_age","_law_row","_law_last","_law_k","_law_old","_law_far_here"] (pA kT) (fI kT):=iW
def B3:fT ["_law_border","_law_row","_law_first","_law_second","_law_k"] (pA o5) (fI o5):=iW
def B1:fT ["_law_row","_law_ahead"] (pA o4) (fI o4):=iW
def nY:fT ["_law_border","_law_takes","_law_age","_law_paper","_law_fars_here","_law_k"] (pA jK) (fI jK):=iW
def jB:fT ["_law_border","_law_fars_here","_law_old","_law_table","_law_last","_law_at","_law_t","_law_row","_law_u"] (pA jv) (fI jv):=iW
def lC:fT ["_law_border","_law_takes","_law_age","_law_many","_law_paper","_law_fars_here","_law_last","_law_old"] (pA j7) (fI j7):=iW
def jI:fT ["_law_border","_law_takes","_law_end","_law_many","_law_turn"] (pA j5) (fI j5):=iW
def JY:fT ["_law_found"] (pA oY) (fI oY):=iW
def Ac:fT ["_law_cuts_here","_law_takes","_law_make","_law_left","_law_right"] (pA rL) (fI rL):=iW
def Oe:fT ["_law_make"] (pA rM) (fI rM):=iW
def HB:fT ["_law_make"] (pA m6) (fI m6):=iW
def ow:fT ["size","cuts","takes","bar","age","many","make"] (pA nh) (fI nh):=iW
def kR:fT ["_law_script","_law_box_here","_law_size","_law_cuts_here","_law_many","_law_texts","_law_takes","_law_border","_law_told","_law_age","_law_bar","_law_few"] (pA nK) (fI nK):=iW
def fL:ao:=200
def l5:ao:=68
def Uh:ao:=55
section
variable (P:ah)(w:ai)(K:aa)(mg:Str->av ar)(fB:Heap)
abbrev RA:Prop:=mH P w K mg fB "_law_box" 1 (pA wH) (zY K)
abbrev xN:Prop:=mH P w K mg fB "_law_take" 1 (pA rJ) (iB GH)
abbrev MT:Prop:=mH P w K mg fB "_law_bars" 2 (pA rP) (iB Md)
abbrev MR:Prop:=mH P w K mg fB "_law_cuts" 2 (pA rO) (iB Mc)
abbrev zt:Prop:=mH P w K mg fB "_law_patched" 2 (pA lU) (iB xp)
abbrev MM:Prop:=mH P w K mg fB "_law_same" 6 (pA s_same) (iB L1)
abbrev px:Prop:=mH P w K mg fB "ends" 1 (pA rN) (iB Mb)
abbrev Dj:Prop:=mH P w K mg fB "pieces" 2 (pA m7) (iB AW)
abbrev tU:Prop:=mH P w K mg fB "bar_of" 3 (pA ng) (iB E4)
abbrev xQ:Prop:=mH P w K mg fB "farthest" 2 (pA kW) (iB uI)
abbrev mB:Prop:=mH P w K mg fB "take_rows" 3 (pA jH) (iB uF)
abbrev qt:Prop:=mH P w K mg fB "clean_row" 1 (pA j9) (iB uK)
abbrev pw:Prop:=mH P w K mg fB "next_reach" 2 (pA jL) (iB EW)
abbrev sj:Prop:=mH P w K mg fB "youngest" 1 (pA kS) (iB uE)
abbrev qr:Prop:=mH P w K mg fB "least_age" 4 (pA j6) (iB EX)
abbrev qK:Prop:=mH P w K mg fB "no_make" 1 (pA lV) (iB AX)
abbrev tS:Prop:=mH P w K mg fB "bare_table" 2 (pA jj) (iB EZ)
abbrev pK:Prop:=mH P w K mg fB "fewest_joined" 1 (pA iX) (iB xr)
abbrev tR:Prop:=mH P w K mg fB "next_table" 2 (pA jh) (iB xq)
abbrev mV:Prop:=mH P w K mg fB "few_tables" 4 (pA jM) (iB xu)
abbrev xO:Prop:=mH P w K mg fB "fewest" 5 (pA m8) (iB A1)
abbrev iZ:Prop:=xW P w K mg fB fL "is_take" 1 (pA hJ) (iB<|AZ fL)
abbrev iw:Prop:=xW P w K mg fB fL "clean_takes" 1 (pA gF) (iB<|A4 fL)
abbrev i9:Prop:=xW P w K mg fB fL "halves" 1 (pA ij) (iB<|A0 fL)
abbrev Bk:Prop:=xW P w K mg fB fL "count_anew" 143 (pA gI) (iB<|uJ fL 71)
abbrev jA:Prop:=xW P w K mg fB fL "counted" 144 (pA hU) (iB<|uJ fL 71)
abbrev mD:Prop:=Ur P w K mg fB "BestMakes" fL 5 (pA gW) (iB<|L7 fL)
abbrev mC:Prop:=xW P w K mg fB fL "numbered" 216 (pA gU) (iB<|vg fL 71)
abbrev zu:Prop:=Uq P w K mg fB "best_of" 217 (pA lW) (Vn<|tL l5)
abbrev rA:Prop:=mH P w K mg fB "young_paper" 4 (pA ju) (iB AS)
abbrev G1:Prop:=mH P w K mg fB "go_on" 1 (pA o3) (iB L9)
abbrev xP:Prop:=mH P w K mg fB "few_rows" 2 (pA kU) (iB xw)
abbrev vn:Prop:=mH P w K mg fB "few_paper" 5 (pA j8) (iB rV)
abbrev G2:Prop:=mH P w K mg fB "_law_far" 1 (pA wF) (iB TR)
abbrev Rz:Prop:=mH P w K mg fB "_law_own" 2 (pA wD) (iB TQ)
abbrev MN:Prop:=mH P w K mg fB "_law_rows" 3 (pA rK) (iB L4)
abbrev xR:Prop:=mH P w K mg fB "_law_barred" 1 (pA m9) (iB A5)
abbrev GZ:Prop:=mH P w K mg fB "_law_least" 4 (pA oZ) (iB AY)
abbrev Fe:Prop:=mH P w K mg fB "_law_fars" 2 (pA p9) (iB Ma)
abbrev sk:Prop:=mH P w K mg fB "_law_row_good" 1 (pA kT) (iB L5)
abbrev G4:Prop:=mH P w K mg fB "_law_above" 1 (pA o5) (iB A7)
abbrev G3:Prop:=mH P w K mg fB "_law_falls" 1 (pA o4) (iB A3)
abbrev tQ:Prop:=mH P w K mg fB "_law_young_good" 3 (pA jK) (iB AR)
abbrev rB:Prop:=mH P w K mg fB "_law_table_shown" 2 (pA jv) (iB AV)
abbrev vm:Prop:=mH P w K mg fB "_law_few_shown" 3 (pA j7) (iB EY)
abbrev vk:Prop:=mH P w K mg fB "_law_stretches" 2 (pA j5) (iB uG)
abbrev Bj:Prop:=mH P w K mg fB "_law_whole" 1 (pA oY) (iB AU)
abbrev MP:Prop:=mH P w K mg fB "_law_made" 64 (pA rL) (iB<|uH 63)
abbrev MQ:Prop:=mH P w K mg fB "_law_form" 65 (pA rM) (iB<|zf 63)
abbrev Di:Prop:=mH P w K mg fB "_law_tuples" 64 (pA m6) (iB<|oE 63)
abbrev Dk:Prop:=mH P w K mg fB "answer" 218 (pA nh) (iB A6)
end
section
variable {P:ah}{w:ai}{K:aa}{mg:Str->av ar}{fB:Heap}{f:ao}{fd:aj}
def oA {x qual:Str}{st:Stmt}{N ps:au Str}{k:Nat}{fs:j4}(F:jW K x qual st f fd)(S:fT N ps (fI st))(h:∃ W,(∀ {lj A fY s H E},jF k (A.deeper<|envOfC qual (fI st) s.heap.objs.size f lj)->Je (rZ kl P w K mg fB N qual (fI st) f lj A fY s H E).UG (jq st) W)/\∀ ds μ Kd,fs ds μ Kd->ds.length=ps.length/\((∀(j:Nat) (m:MO),μ[j]?=some m->BF μ.length m)->u4 μ.length ds->W (HG μ.length Kd) (rF N ds) μ)):gD P w K mg fB kl (k+1) f fd ps (iB fs):=let ⟨_,a,b⟩:=h;F.SJ S (λds μ Kd q=>(b ds μ Kd q).1) λlj A o s H E hr=>⟨_,a hr,λds μ Kd u v q=>(b ds μ Kd q).2 u v⟩
def SI (F:jW K "_law_box" "_law_box" wH f fd)(T:lA mg)  : gD P w K mg fB kl 1 f fd (pA wH) (zY K):=by
 refine F.ok R5 (λvs H Q E h=>?_) (λlj A fY s H vs Q E hr h=>?_)
 .unfold zY at h;split at h
  .rfl
  .cases h
 .unfold zY at h;split at h
  .rename_i a;obtain⟨ns,hs,k⟩:=h;refine⟨_,(lE<|n8<|Kz<|gg (yV xa (by rfl) T.list bh<|gg (lN 0) iV)<|gg ip<|gg ip<|gg ip iV),?_⟩;refine⟨_,hs,λl hl=>?_⟩;refine⟨(zs),λb hb=>?_⟩;have ZO:l≠b:=gG (o:=.lst<|ns.map V.int) fX hb;have hb0:H b=none:=by rw[gp ZO.symm]at hb;exact hb
   refine k b l _ ⟨ns,0,0,1,fX,by rw[gp ZO];exact fX,ZO,by decide,by decide,by decide⟩ hb0 hl λc o e=>?_;rw[gp (gG e hb0),gp (gG e hl)];exact e
  .cases h
def OL (F:jW K "_law_take" "_law_take" rJ f fd)(T:lA mg)  : gD P w K mg fB kl 1 f fd (pA rJ) (iB GH):=by
 refine gD.imp (sp:=vH) ?_ λvs H Q E h=>JI h;refine F.ok sI (λvs H Q E h=>?_) (λlj A fY s H vs Q E hr h=>?_)
 .obtain⟨b,n,q,rfl,_⟩:=uX h;rfl
 .obtain⟨b,n,q,rfl,⟨ns,i,r,z,hb,hq,X1,hi,hz,Io⟩,hn,Jm,k⟩:=uX h;refine⟨_,(iU (uZ (nM gtC (qa Lw (lN 0) ip λ_ _=>rfl) ip<|iG _)
   (iU (uv (i:=2) sI.nd rfl (by first|exact Or.inl rfl|exact Or.inr rfl)<|qa Lw (lN 0) ip λ_ _=>rfl)
   (iU (uw (k9 divC (lN 2)<|lN 1)<|wM (lN 0) ip setC)
   (lE<|n8<|k9 Ct (lN 2)<|lN 1)))
   nN)
   (iU (uw (k9 Ct (k9 Nb (k9 mulC (qa Lw (lN 0) ip λ_ _=>rfl) ip) ip) ip)<|wM (lN 0) ip setC)
   (Ot (uZ (nM UK (qa Lw (lN 0) ip λ_ _=>rfl) (iu O2 (by rfl) T.len PySem.boot_len<|gg (qa Lw (lN 0) ip λ_ _=>rfl) iV)<|iG _)
   (iU (uv (i:=3) sI.nd rfl (by first|exact Or.inl rfl|exact Or.inr rfl)<|qa Lw (qa Lw (lN 0) ip λ_ _=>rfl) (qa Lw (lN 0) ip λ_ _=>rfl) λ_ _=>rfl)
   (iU (Ov (lN 0) ip getC ip tu setC)
   (iU (uZ (nM geC (lN 3) (k9 powC ip ip)<|iG _)
   (iU (uw (k9 divC (lN 3)<|lN 1)<|wM (lN 0) ip setC)
   (lE<|n8<|k9 Ct (lN 3)<|lN 1))
   nN)
   (lE<|uw (k9 Ct (k9 Nb (qa Lw (lN 0) ip λ_ _=>rfl)<|k9 mulC (lN 3) ip) ip)<|wM (lN 0) ip setC))))
   nN)
   (iU (uv (i:=4) sI.nd rfl (by first|exact Or.inl rfl|exact Or.inr rfl)<|qa Lw (lN 0) ip λ_ _=>rfl)
   (iU (uv (i:=5) sI.nd rfl (by first|exact Or.inl rfl|exact Or.inr rfl)<|k9 Ct (k9 Nb (k9 mulC (lN 4)<|lN 4)<|k9 divC (lN 4) ip) ip)
   (lE<|n8<|k9 Ct (k9 Ct (k9 Nb (k9 mulC (lN 5) ip)<|lN 4) ip)<|lN 1)))))),?_⟩
  have fin:∀(v:Int) (H':Hp) (i' r' z':Int),OB b H H'->H' b=some (.lst [.ref q,.int i',.int r',.int z'])->0<=i'->0<=z'->z'<2147483647->Q (.int<|v%n) H':=λv H' i' r' z' ob EM h1 h2 h3 =>k _ _ (fv _<|by lia) (eh _ hn) ⟨ns,i',r',z',EM,(ob q X1).trans hq,X1,h1,h2,h3⟩ ob
  have md:∀ x:Int,0<=x%2147483647/\x%2147483647<2147483647:=λx=>⟨fv _<|by decide,eh _<|by decide⟩;refine⟨_,.inl hb,?_⟩;refine jV (λh1=>?_) (λh1=>?_)
  .refine⟨_,.inl hb,⟨hn,Jm⟩,_,hb,hn,?_⟩;exact fin _ _ _ _ _ OB.refl.upd fX hi hz Io
  .refine⟨_,.inl hb,.inr ⟨by decide,by decide⟩,pM,_,hb,?_⟩;have ob1:∀ o,OB b H (upd H b o):=λo=>OB.refl.upd;refine⟨λjb H'=>∃(c:av V) (i' r' z':Int),jb=[some (.ref b),some (.int n),none,c,none,none]/\OB b H H'/\H' b=some (.lst [.ref q,.int i',.int r',.int z'])/\0<=i'/\0<=z'/\z'<2147483647,?_,?_⟩
   .refine⟨_,.inl fX,_,.inl fX,_,.inl<|(ob1 _ q X1).trans hq,?_⟩;refine jV (λh2=>?_) (λh2=>?_)
    .have h2':i<(ns.length:Int):=by simpa using h2
     obtain⟨c,hc⟩:∃ c,ns[i.toNat]?=some c:=⟨ns[i.toNat]'(by lia),iD _⟩
     have e:kr (ns.map V.int) i=some (.int c):=by have q:=kM (xs:=ns.map V.int) (j:=i.toNat) (v:=.int c) (by rw[mS,hc];rfl);rwa [cw hi]at q
     refine⟨_,.inl fX,_,.inl fX,_,.inl<|(ob1 _ q X1).trans hq,fF e ?_⟩
     refine⟨_,fX,by decide,_,fX,?_⟩
     refine⟨⟨by decide,by decide,by decide⟩,?_⟩
     refine jV (λh3=>?_) (λh3=>?_)
     .refine⟨⟨hn,Jm⟩,_,fX,hn,?_⟩;exact fin _ _ (i+1) _ _ OB.refl.upd.upd.upd fX (by lia) (md _).1 (md _).2
     .refine⟨_,.inl fX,.inr ⟨by decide,by decide⟩,pM,_,fX,?_⟩;exact⟨_,i+1,_,_,rfl,OB.refl.upd.upd.upd,fX,by lia,(md _).1,(md _).2⟩
    .exact⟨_,i,_,_,rfl,OB.refl.upd,fX,hi,(md _).1,(md _).2⟩
   .rintro jb H' ⟨c,i',r',z',rfl,ob,EM,h1,h2,h3⟩;refine⟨_,.inl EM,.inl ⟨by lia,by lia⟩,⟨by decide,by decide⟩,pN,.inr ⟨by decide,by decide⟩,pM,hn,?_⟩;exact fin _ _ i' _ _ ob EM h1 h2 h3
def OP (F:jW K "_law_cuts" "_law_cuts" rO f fd)(T:lA mg)(jR:xN P w K mg fB):gD P w K mg fB kl 2 f fd (pA rO) (iB Mc):=by
 refine oA F vI ⟨_,λhr=>(fG (qS 2 vI.nd<|qC jR hr<|a2 (dv 0) fM)
  (fG (ji (Nw (dv 2) fM)
  (fP<|f9<|mw false iL)
  hZ)
  (fG (ji (Nw (dv 2) fM)
  (fP<|f9<|Bc false (qL (N:=["_law_place"]) (js:=[none]) vI<|by decide +kernel) (tx rfl T.range<|a2 fM<|dv 1) (λ_ _ _ nd=>(qN 0 nd)) (λ_ _ _=>ig) λ_ _ _=>(dv 0))
  hZ)
  (fP<|f9<|Bc false (qL (N:=["_law_place","_law_box_here"]) (js:=[none,some 0]) vI<|by decide +kernel) (tx rfl T.range<|a2 fM<|dv 1) (λ_ _ _ nd=>(qN 0 nd)) (λ_ _ _=>(rD<|UD (qC jR hr<|a2 (dv 1) fM) fM)) λ_ _ _=>(dv 0))))),λds μ Kd h=>?_⟩
 unfold Mc at h;split at h
 .rename_i k n;refine⟨rfl,λhm hl=>?_⟩;obtain⟨hb,h1,h2,kk⟩:=h;refine⟨hb,by decide,by decide,λv v0 v1=>?_⟩;refine oC (λhv=>?_) (λhv=>?_)
  .exact⟨bA _,.keep<|kk [] (bA _) ⟨(λ_ q=>nomatch q),.nil⟩⟩
  refine oC (λWc=>?_) (λWc=>?_)
  .refine⟨⟨by decide,by decide,by lia,by lia⟩,sz (by rw[iF];lia),?_⟩;refine ia trivial (λd=>some d) (λd hd K' k'=>k') ?_;rw[List.filterMap_some,vJ];obtain⟨c1,c2⟩:=B6 h1<|List.Sublist.refl _;exact .keep (kk _ c1 c2)
  .refine⟨⟨by decide,by decide,by lia,by lia⟩,sz (by rw[iF];lia),?_⟩;refine uO trivial (λd hd K' k1 k2=>?_) λzs hz=>?_
   .refine⟨hb,by decide,by decide,λv v0 v1=>?_⟩;exact jV (λ_=>k1) (λ_=>k2)
   .rw[vJ]at hz;obtain⟨bs,hs,rfl⟩:=N1 hz;obtain⟨c1,c2⟩:=B6 h1 hs;exact .keep (kk _ c1 c2)
 .cases h
def uS {μ:MS}{n:Nat}{it:D->MS->(av D->MS->Prop)->Prop}{K:DK}(hn:n<=1000)(hit:∀(d:D) (K':av D->MS->Prop),(∀ c:Nat,(c=111\/c=120)->K' (some<|.str ⟨#[c]⟩) μ)->it d μ K')(k:∀ l:au Nat,l.length=n->OX l->K (.str<|txt l) μ):
 rq it (λ_=>True) (ky 0 n) μ λys iP=>nL false ys iP λx t9=>L6 (.str<|Str.ofString "") [x] t9 K:=by
 refine qJ (λc:Nat=>D.str ⟨#[c]⟩) (λc=>c=111\/c=120) trivial (λd hd K' k'=>hit d K' k') λl hl ho=>?_;rw[iF]at hl;refine⟨rfl,l.map λc=>⟨#[c]⟩,by unfold lv;rw[aQ];rfl,by rw[yM];lia,?_⟩;rw[xl];exact k l hl λc hc=>ho c hc
def OQ (F:jW K "_law_bars" "_law_bars" rP f fd)(T:lA mg)(jR:xN P w K mg fB):gD P w K mg fB kl 2 f fd (pA rP) (iB Md):=by
 refine oA F oX ⟨_,λhr=>(fG (qS 2 oX.nd<|qC jR hr<|a2 (dv 0) fM)
  (fG (ji (Nw (dv 2) fM)
  (fP<|f9<|xH du eV eT Lu z5 kC<|a1<|Bc false (qL (N:=["_law_k","_law_box_here"]) (js:=[none,some 0]) oX<|by decide +kernel) (gY rfl T.range<|a1<|dv 1) (λ_ _ _ nd=>(qN 0 nd)) (λ_ _ _=>ig) λ_ _ _=>(iY kC<|qC jR hr<|a2 (dv 1) fM))
  hZ)
  (fG (ji (Nw (dv 2) fM)
  (fP<|f9<|xH du eV eT Lu z5 kC<|a1<|Bc false (qL (N:=["_law_k","_law_box_here"]) (js:=[none,some 0]) oX<|by decide +kernel) (gY rfl T.range<|a1<|dv 1) (λ_ _ _ nd=>(qN 0 nd)) (λ_ _ _=>ig) λ_ _ _=>(iY kC<|qC jR hr<|a2 (dv 1) fM))
  hZ)
  (fG (ji (Nw (dv 2) fM)
  (fG (qS 3 oX.nd<|qC jR hr<|a2 (dv 0)<|dv 1)
  (fG (qS 4 oX.nd<|oP (oP (dv 3) fM)<|qC jR hr<|a2 (dv 0)<|Bb (dv 1)<|dv 3)
  (fP<|f9<|oP (oP (rX mulC p6 kC<|dv 3)<|rX mulC p6 kC<|Bb (dv 4)<|dv 3)<|rX mulC p6 kC<|Bb (dv 1)<|dv 4)))
  hZ)
  (fG (ji (Nw (dv 2) fM)
  (fP<|f9<|xH du eV eT Lu z5 kC<|a1<|Bc false (qL (N:=["_law_k","_law_box_here"]) (js:=[none,some 0]) oX<|by decide +kernel) (gY rfl T.range<|a1<|dv 1) (λ_ _ _ nd=>(qN 0 nd)) (λ_ _ _=>ig) λ_ _ _=>(iY kC<|qC jR hr<|a2 (dv 1) fM))
  hZ)
  (fP<|f9<|rX mulC p6 (iY kC<|qC jR hr<|a2 (dv 0) fM)<|dv 1)))))),λds μ Kd h=>?_⟩
 unfold Md at h;split at h
 .rename_i k n;refine⟨rfl,λhm hl=>?_⟩;obtain⟨hb,h1,h2,kk⟩:=h;refine⟨hb,by decide,by decide,λv v0 v1=>?_⟩;refine oC (λhv=>?_) (λhv=>?_)
  .refine⟨rfl,by lia,by lia,sz (by rw[iF];lia),?_⟩;refine uS (n:=n.toNat) (by lia) (λd K' k'=>?_) λl hl ho=>.keep<|kk l hl ho;refine⟨hb,by decide,by decide,λv v0 v1=>⟨by decide,?_⟩⟩;obtain⟨c,e,hc⟩:=Bo (l:=(Str.ofString "ox").cps.toList) v0 v1;exact fF e (k' c<|(OX.of (l:=(Str.ofString "ox").cps.toList)<|by decide +kernel) c hc)
  refine oC (λhv=>?_) (λhv=>?_)
  .refine⟨rfl,by lia,by lia,sz (by rw[iF];lia),?_⟩;refine uS (n:=n.toNat) (by lia) (λd K' k'=>?_) λl hl ho=>.keep<|kk l hl ho;refine⟨hb,by decide,by decide,λv v0 v1=>⟨by decide,?_⟩⟩;obtain⟨c,e,hc⟩:=Bo (l:=(Str.ofString "ooooox").cps.toList) v0 v1;exact fF e (k' c<|(OX.of (l:=(Str.ofString "ooooox").cps.toList)<|by decide +kernel) c hc)
  refine oC (λhv=>?_) (λhv=>?_)
  .refine⟨hb,by lia,by lia,λp p0 p1=>⟨hb,by lia,by lia,λg g0 g1=>?_⟩⟩;refine⟨120,rfl,by lia,by lia,111,rfl,by lia,by lia,?_,120,rfl,by lia,by lia,?_,?_⟩
   .rw[Ib,Ib,a9,a9];exact sz (by lia)
   .rw[pz,Ib,Ib,lP,a9,a9,a9];exact sz (by lia)
   rw[pz,pz];refine .keep<|kk _ ?_<|((OX.rep<|.inr rfl).app<|OX.rep<|.inl rfl).app<|OX.rep<|.inr rfl;rw[lP,lP,a9,a9,a9];lia
  refine oC (λhv=>?_) (λhv=>?_)
  .refine⟨rfl,by lia,by lia,sz (by rw[iF];lia),?_⟩;refine uS (n:=n.toNat) (by lia) (λd K' k'=>?_) λl hl ho=>.keep<|kk l hl ho;refine⟨hb,by decide,by decide,λv v0 v1=>⟨by decide,?_⟩⟩;obtain⟨c,e,hc⟩:=Bo (l:=(Str.ofString "xxxo").cps.toList) v0 v1;exact fF e (k' c<|(OX.of (l:=(Str.ofString "xxxo").cps.toList)<|by decide +kernel) c hc)
  refine⟨hb,by decide,by decide,λp p0 p1=>⟨by decide,?_⟩⟩;obtain⟨c,e,hc⟩:=Bo (l:=(Str.ofString "ox").cps.toList) p0 p1;exact fF e ⟨c,rfl,by lia,by lia,.keep<|kk _ (a9 ..)<|OX.rep<|(OX.of (l:=(Str.ofString "ox").cps.toList)<|by decide +kernel) c hc⟩
 .cases h
def Em (F:jW K "_law_patched" "_law_patched" lU f fd)(T:lA mg)(jR:xN P w K mg fB):gD P w K mg fB kl 2 f fd (pA lU) (iB xp):=by
 refine oA F lT ⟨_,λhr=>(fG (qS 4 lT.nd<|oP (oP (mw false<|a1 fM)<|dv 2)<|mw false<|a1<|dv 1)
  (fG (k8 ba rfl (gY rfl T.range<|a1<|Bb (sA T<|dv 4) fM) (qT 5 lT.nd)
  (fG (qS 6 lT.nd<|qC jR hr<|a2 (dv 0)<|sA T<|dv 3)
  (fG (qS 7 lT.nd<|iY (dv 3)<|dv 6)
  (fG (qS 8 lT.nd<|rX mulC p6 kC<|Bb (iY (dv 4)<|oP (dv 5) fM)<|iY (dv 4)<|dv 5)
  (fP<|R7 (oP (oP (mT false (dv 7) K1<|lX<|iY (dv 4)<|dv 5)<|dv 8)<|mT false (dv 7) (lX<|iY (dv 4)<|oP (dv 5) fM) K1) (dv 3)<|dv 6)))))
  (fP<|f9<|dv 3))),λds μ Kd h=>?_⟩
 unfold xp at h;split at h
 .rename_i k n cs0 t;refine⟨rfl,λhm hl=>?_⟩;obtain⟨hb,hkt,h1,h2,cs,ls,rfl,CH,hc,ht,EJ,hll,hg,kk⟩:=h;have lt:t<μ.length:=(kB ht).1;refine⟨zs,?_⟩;refine⟨by rw[gP];exact sz (by show 1+cs.length<=_;lia),?_⟩;refine⟨zs,?_⟩;refine⟨by rw[lP,gP];exact sz (by show 1+cs.length+1<=_;lia),?_⟩;rw[oG n cs];obtain⟨es,he⟩:∃ es,es=fw n cs:=⟨_,rfl⟩;rw[<- he];have Zt:es.Pairwise (·<·):=by rw[he];exact hV h1 hc
  have xf:∀ x∈es,0<=x/\x<=n:=λx hx=>hX h1 hc (by rw[<- he];exact hx);have nv:es.length=cs.length+2:=by rw[he,fU]
  have mQ:((es.map D.int).length:Int)=(es.length:Nat):=by rw[gP]
  refine⟨by rw[mQ];lia,by rw[mQ];lia,?_⟩;refine iO (λds ρ fZ=>(∀ d∈ds,∃ j:Nat,j+1<es.length/\d=.int j)/\∃ vP a b c d,ρ=[some (.mr k),some (.int n),some (.lst<|cs.map D.int),some (.mr t),some (.lst<|es.map D.int),a,b,c,d]/\fZ=μ.set t (.lst<|vP.map Nr)/\vP.length=ls.length/\Good n vP) ⟨λd hd=>?_,ls,none,none,none,none,rfl,?_,rfl,hg⟩ ?_ ?_
  .obtain⟨j,hj,rfl⟩:=wK hd;rw[mQ]at hj;exact⟨j,by lia,by rw[c4]⟩
  .exact(m5 ht).symm
  .rintro d sy ρ fZ ⟨hd,vP,a,b,c,e,rfl,rfl,oN,Q6⟩;refine⟨trivial,λnx pD=>?_⟩;obtain⟨j,hj,rfl⟩:=hd d aH;have hbx:(μ.set t<|.lst<|vP.map Nr)[k]?=some .box:=by rw[bp (bX hkt)];exact hb
   have lls:0<vP.length:=by rw[oN];exact List.length_pos_iff.mpr EJ
   refine fF (sX lt) ⟨hbx,by rw[gP];lia,by rw[gP];lia,λv v0 v1=>?_⟩;rw[gP]at v1;obtain⟨l,sv⟩:∃ l,vP[v.toNat]?=some l:=⟨vP[v.toNat]'(by lia),iD _⟩;obtain⟨hll2,ZC⟩:=Q6 l<|kq sv;have ev:kr (vP.map Nr) v=some (Nr l):=by have:=gR (g:=Nr) sv;rwa [cw v0]at this
   refine fF (sX lt)<|fF ev ?_;obtain⟨x,hx⟩:∃ x,es[j]?=some x:=⟨es[j]'(by lia),iD _⟩;obtain⟨y,hy⟩:∃ y,es[j+1]?=some y:=⟨es[j+1]'(by lia),iD _⟩;have Zo:=kD Zt hx hy<|bD _;have hx2:=xf x<|kq hx;have Jk:=xf y<|kq hy;have e1:kr (es.map D.int) (j:Int)=some (.int x):=gR hx;have e2:kr (es.map D.int) ((j:Int)+1)=some (.int y):=gR (i:=j+1) hy;refine fF e2 (fF e1 ⟨111,rfl,by lia,by lia,?_⟩);have lz:(txt l).length<=sizeLine:=by rw[jf];exact sz (by lia)
   refine fF e1 ⟨lz,?_⟩;have c1:=v7 l none<|some x;have c2:=v7 l (some y) none;refine⟨?_,?_⟩
   .show(txt<|lh l none<|some x).length+(txt<|List.replicate (y - x).toNat 111).length<=sizeLine;rw[jf,jf,a9];exact sz (by lia)
   refine fF e2 ⟨lz,?_,?_⟩
   .show(txt (lh l none<|some x)++txt (List.replicate (y - x).toNat 111)).length+(txt<|lh l (some y) none).length<=sizeLine;rw[pz,Ib,jf,lP,a9];exact sz (by lia)
   have ei:EE (vP.map Nr).length v=some v.toNat:=by unfold EE;rw[aE v0,aE (by rw[gP];lia)]
   refine fF (sX lt) (fF ei<|pD _ _ ⟨λd Jq=>hd d<|ny _ Jq,vP.set v.toNat<|l.take x.toNat++List.replicate (y - x).toNat 111++l.drop y.toNat,_,_,_,_,rfl,?_,by rw[ck];exact oN,λl' ZP=>?_⟩)
   .rw[cm,List.map_set];congr 3;show D.str (txt (lh l none<|some x)++txt (List.replicate (y - x).toNat 111)++txt (lh l (some y) none))=_;rw[pz,pz,GW hx2.1,zo Jk.1];rfl
   .rcases List.mem_or_eq_of_mem_set ZP with q | q
    .exact Q6 l' q
    .rw[q];refine⟨?_,((show OX (l.take x.toNat)from λc hc=>ZC c<|bo hc).app<|OX.rep<|.inl rfl).app<|show OX (l.drop y.toNat)from λc hc=>ZC c<|fh hc⟩;rw[lP,lP,bg,a9,bG];lia
  .rintro ρ fZ ⟨_,vP,a,b,c,e,rfl,rfl,oN,Q6⟩;exact⟨trivial,.keep<|kk vP oN Q6⟩
 .cases h
def OO (F:jW K "ends" "ends" rN f fd)(T:lA mg)  : gD P w K mg fB kl 1 f fd (pA rN) (iB Mb):=by
 refine oA F Of ⟨_,λhr=>(fP<|f9<|oP (oP (mw false<|a1 fM)<|CY xa (qA (m:=false)) (by rfl) T.list bh<|a1<|dv 1)<|mw false<|a1<|dv 0),λds μ Kd h=>?_⟩;unfold Mb at h;split at h
 .rename_i n x;refine⟨rfl,λhm hl=>?_⟩;obtain⟨cs,ex,hc,kk⟩:=h;refine⟨zs,fF ex ⟨by rw[gP];exact sz (by show 1+cs.length<=_;lia),zs,by rw[lP,gP];exact sz (by show 1+cs.length+1<=_;lia),?_⟩⟩;rw[oG];exact .keep kk
 .cases h
def Ow (es:au Int):List.zipWith (λa b=>D.tup [a,b]) (es.map D.int) (L2.cutD (es.map D.int) (some 1) none)=(BE es).map VB:=by
 have e:L2.cutD (es.map D.int) (some 1) none=es.tail.map D.int:=by
  unfold L2.cutD;rw[show(1:Int)=((1:Nat):Int)from rfl,HT.lD,HT.wI,gP];cases es with
  |nil=>rfl
  |cons a es=>rw[a8,bZ (by lia)];simp[bU]
 rw[e];unfold BE;have key:∀(xs ys:au Int),List.zipWith (λa b=>D.tup [a,b]) (xs.map D.int) (ys.map D.int)=(xs.zip ys).map VB:=by
  intro xs;induction xs with
  |nil=>intro ys;simp
  | cons x xs ih =>
   intro ys;cases ys with
   |nil=>simp
   |cons y ys=>rw[aB,aB,bT,ih,cK,aB];rfl
 exact key es es.tail
def HN (F:jW K "pieces" "pieces" m7 f fd)(T:lA mg)(kZ:px P w K mg fB):gD P w K mg fB kl 2 f fd (pA m7) (iB AW):=by
 refine oA F yQ ⟨_,λhr=>(fG (qS 2 yQ.nd<|qC kZ hr<|a2 (dv 0)<|dv 1)
  (fP<|f9<|IG false rfl (by rfl) T.list (by rfl) T.zip<|a2 (dv 2)<|mT false (dv 2) (lX fM) K1)),λds μ Kd h=>?_⟩
 unfold AW at h;split at h
 .rename_i n x;refine⟨rfl,λhm hl=>?_⟩;obtain⟨cs,ex,hc,kk⟩:=h;refine⟨cs,ex,hc,?_⟩;show Fz _ _ (.lst<|List.zipWith (λa b=>D.tup [a,b]) ((fw n cs).map D.int)<|L2.cutD ((fw n cs).map D.int) (some 1) none) μ;rw[Ow];exact .keep kk
 .cases h
def HR (F:jW K "bar_of" "bar_of" ng f fd)(T:lA mg)(Nk:Dj P w K mg fB):gD P w K mg fB kl 3 f fd (pA ng) (iB E4):=by
 refine oA F qD ⟨_,λhr=>(fG (k8 ba rfl (jc<|qC Nk hr<|a2 (dv 0)<|dv 1) ⟨(gQ (n:=2) rfl (fJ (qN 3 qD.nd)<|fJ (qN 4 qD.nd) gw)),(iJ<|fS (fR 3) (fC 3) (fS (fR 4) (fC 4) iK fN)<|fH (fC 4) fN),(ib<|fH (fC 3)<|fH (fC 4) fN)⟩
  (fP (ji (ic<|lR (Xi rfl) z6 (by rfl) T.all PyProof.Rows.boot_all<|a1<|GV false (qL (N:=["text","age","first","behind"]) (js:=[none,none,some 3,some 4]) qD<|by decide +kernel) (iJ<|fS (fR 0) (fC 0) (fS (fR 1) (fC 1) iK fN)<|fH (fC 1) fN) (ib<|fH (fC 0)<|fH (fC 1) fN) (jc<|dv 2) (λ_ _ _ nd=>(gQ (n:=2) rfl (fJ (qN 0 nd)<|fJ (qN 1 nd) gw))) (λ_ _ _=>ig) λ_ _ _=>(oH inC FJ kC (mT false (dv 0) (lX<|dv 2)<|lX<|dv 3)<|by with_unfolding_all rfl))
  (fP<|f9<|nq<|a2 (dv 3)<|dv 4)
  hZ)))
  (fP<|f9 xG)),λds μ Kd h=>?_⟩
 unfold E4 at h;split at h
 .rename_i n x y;refine⟨rfl,λhm hl=>?_⟩;obtain⟨cs,ts,ex,ey,hc,ht,hn,kk⟩:=h;refine⟨cs,ex,hc,?_⟩;refine iO (λds ρ fZ=>∃(ps:au (Int×Int)) (a b:av D),ds=ps.map VB/\jT (fw n cs) ts=ps.find? (bad ts)/\ρ=[some (.int n),some x,some y,a,b]/\fZ=μ) ⟨_,none,none,rfl,rfl,rfl,rfl⟩ ?_ ?_
  .rintro d sy ρ fZ ⟨ps,a,b,e,hf,rfl,rfl⟩;refine⟨trivial,λnx pD=>?_⟩;cases ps with
   |nil=>cases e
   | cons p ps =>
    cases e;refine⟨rfl,?_⟩;refine fF ey ⟨by rw[gP];exact sz (by have:=ht.lL;lia),?_⟩;refine ia (qh ey) (λd=>match d with|.tup [.str z,_]=>some (.bl<|decide (120∈lh z.cps.toList (some p.1) (some p.2)))|_=>none) (λd hd K' k'=>?_) ?_
    .obtain⟨t,CF,rfl⟩:=List.mem_map.mp hd;have hz:=ht.ok t CF;refine⟨rfl,?_⟩;refine⟨by rw[jf];exact sz<|by lia,120,rfl,?_⟩;rw[UZ];exact k'
    .refine⟨ts.map λt=>decide (120∈mU t.1 p.1 p.2),?_,?_⟩
     .show some _=_;rw[List.filterMap_map,aQ];congr 1;rw[<- eZ];rfl
     .have eb:(ts.map λt=>decide (120∈mU t.1 p.1 p.2)).all id=bad ts p:=by unfold bad;rw[List.all_map];rfl
      rw[b7,<- eb]at hf
      refine Td (b:=(ts.map λt=>decide (120∈mU t.1 p.1 p.2)).all id) (λhb=>?_) (λhb=>?_)
      .refine⟨zs,.keep ?_⟩;rw[hb]at hf;rw[hf]at kk;exact kk
      .rw[hb]at hf;exact pD _ _ ⟨ps,_,_,rfl,hf,rfl,rfl⟩
  .rintro ρ fZ ⟨ps,a,b,e,hf,rfl,rfl⟩;cases ps with
   | nil =>rw[hf]at kk;exact⟨trivial,.keep kk⟩
   |cons p ps=>cases e
 .cases h
def Cg (n:Nat){f:ao}{fd:aj}(F:jW K "_law_same" "_law_same" s_same f fd)(T:lA mg)(Bz:mH P w K mg fB "_law_same" n ["_law_found","_law_due"] (spS n)):gD P w K mg fB kl (n+1) f fd ["_law_found","_law_due"] (uo n):=by
 refine F.ok Od (λvs H Q E h=>?_) (λlj A fY s H vs Q E hr h=>?_)
 .unfold uo at h;split at h
  .rfl
  .cases h
 .unfold uo at h;split at h
  .rename_i x y;obtain⟨d,hd,hw,hx,hy,k⟩:=h;refine⟨_,(iU (uZ (PW.pt<|pw_or (sP<|iu rS (by rfl) T.isinstance aP<|gg (lN 1)<|gg (jN (v:=.ty "bool") rfl T.bool cF rfl) iV)<|pw_or1<|sP<|iu rS (by rfl) T.isinstance aP<|gg (lN 0)<|gg (jN (v:=.ty "bool") rfl T.bool cF rfl) iV)
   (lE<|n8<|vO (iu rS (by rfl) T.isinstance aP<|gg (lN 1)<|gg (jN (v:=.ty "bool") rfl T.bool cF rfl) iV)<|vO (iu rS (by rfl) T.isinstance aP<|gg (lN 0)<|gg (jN (v:=.ty "bool") rfl T.bool cF rfl) iV)<|Ej<|vN eqN (lN 0) (lN 1)<|iG _)
   nN)
   (iU (uZ (PW.pt<|pw_or (sP<|iu rS (by rfl) T.isinstance aP<|gg (lN 1)<|gg (jN (v:=.ty "list") rfl T.list bh rfl) iV)<|pw_or1<|sP<|iu rS (by rfl) T.isinstance aP<|gg (lN 1)<|gg (jN (v:=.ty "tuple") rfl T.tuple cQ rfl) iV)
   (iU (uZ (PW.pt<|pw_or (nM DL (iu rS (by rfl) T.isinstance aP<|gg (lN 1)<|gg (jN (v:=.ty "list") rfl T.list bh rfl) iV) (iu rS (by rfl) T.isinstance aP<|gg (lN 0)<|gg (jN (v:=.ty "list") rfl T.list bh rfl) iV)<|iG _)<|pw_or1<|nM DL (iu rS (by rfl) T.isinstance aP<|gg (lN 1)<|gg (jN (v:=.ty "tuple") rfl T.tuple cQ rfl) iV) (iu rS (by rfl) T.isinstance aP<|gg (lN 0)<|gg (jN (v:=.ty "tuple") rfl T.tuple cQ rfl) iV)<|iG _)
   (lE<|n8 KH)
   nN)
   (lE<|n8<|vO (vN TU (iu O2 (by rfl) T.len PySem.boot_len<|gg (lN 0) iV) (iu O2 (by rfl) T.len PySem.boot_len<|gg (lN 1) iV)<|iG _)<|Ej<|iu (Xi rfl) (by rfl) T.all PyProof.Rows.boot_all<|gg (FZ (Fd (XN:=["_law_found","_law_due"]) (xsc:=(fI s_same)) (N:=["_law_one","_law_other"]) (js:=[none,none])<|by decide +kernel) rfl (Ks rfl T.zip<|gg (lN 0)<|gg (lN 1) iV) (λ_ _ _=>(gQ (n:=2) rfl (fJ (vM (i:=0) (show List.Nodup (["_law_one","_law_other"]:au Str) by decide +kernel) rfl (by first|exact Or.inl rfl|exact Or.inr rfl))<|fJ (vM (i:=1) (show List.Nodup (["_law_one","_law_other"]:au Str) by decide +kernel) rfl (by first|exact Or.inl rfl|exact Or.inr rfl)) gw))) (λ_ _ _=>FU) λ_ _ _=>(wN Bz (hr.mono<|by first|decide|exact aw _|lia) rfl (gg (lN 0)<|gg (lN 1) iV))) iV))
   nN)
   (iU (uZ (PW.pt<|pw_or (nM DL (iu rS (by rfl) T.isinstance aP<|gg (lN 1)<|gg (jN (v:=.ty "str") rfl T.str PyProof.Rows.boot_str rfl) iV) (iu rS (by rfl) T.isinstance aP<|gg (lN 0)<|gg (jN (v:=.ty "str") rfl T.str PyProof.Rows.boot_str rfl) iV)<|iG _)<|pw_or1<|nM DL (iu rS (by rfl) T.isinstance aP<|gg (lN 1)<|gg (jN (v:=.ty "int") rfl T.int cz rfl) iV) (iu rS (by rfl) T.isinstance aP<|gg (lN 0)<|gg (jN (v:=.ty "int") rfl T.int cz rfl) iV)<|iG _)
   (lE<|n8 KH)
   nN)
   (lE<|n8<|vN eqN (lN 0) (lN 1)<|iG _)))),?_⟩
   cases d with
   | bl b =>obtain rfl:x=.bl b:=hx;obtain rfl:y=.bl b:=hy;refine⟨_,true,kG.bl b,jm K _,_,true,kG.bl b,jm K _,_,true,kG.bl b,jm K _,?_⟩;show Q (.bl<|decide (b=b)) H;rw[aI rfl];exact k H (iA.refl H)
   | int i =>obtain rfl:x=.int i:=hx;obtain rfl:y=.int i:=hy;refine⟨_,false,.int i,rfl,_,false,.int i,rfl,_,false,.int i,rfl,_,false,.int i,rfl,_,false,.int i,rfl,_,false,.int i,rfl,_,true,.int i,jm K _,_,true,.int i,jm K _,?_⟩;show Q (.bl<|decide (i=i)) H;rw[aI rfl];exact k H (iA.refl H)
   | str z =>obtain rfl:x=.str z:=hx;obtain rfl:y=.str z:=hy;refine⟨_,false,.str z,rfl,_,false,.str z,rfl,_,false,.str z,rfl,_,false,.str z,rfl,_,true,.str z,jm K _,_,true,.str z,jm K _,_,false,.str z,rfl,_,false,.str z,rfl,?_⟩;show Q (.bl<|decide (z=z)) H;rw[aI rfl];exact k H (iA.refl H)
   | iC =>obtain rfl:x=.iC:=hx;obtain rfl:y=.iC:=hy;refine⟨_,false,.iC,rfl,_,false,.iC,rfl,_,false,.iC,rfl,_,false,.iC,rfl,_,false,.iC,rfl,_,false,.iC,rfl,_,false,.iC,rfl,_,false,.iC,rfl,?_⟩;exact k H (iA.refl H)
   | lst ds =>
    obtain⟨p,vs,rfl,hp,qp⟩:=hx;obtain⟨q,ws,rfl,hq,qq⟩:=hy;obtain⟨m,rfl⟩:∃ m,n=m+1:=⟨n - 1,by unfold dep at hd;lia⟩;have Jq:yu ds<=m:=by unfold dep at hd;lia
    have hw1:ds.length<sizeLine:=by unfold Nq at hw;lia
    have Zq:yc ds<sizeLine:=by unfold Nq at hw;lia
    have len:vs.length=ws.length:=by rw[qp.len,qq.len]
    refine⟨_,false,kG.lst hq,rfl,_,false,kG.lst hp,rfl,_,true,kG.lst hq,jm K _,_,true,kG.lst hq,jm K _,_,true,kG.lst hp,jm K _,_,false,kG.lst hq,rfl,_,false,kG.lst hp,rfl,?_⟩;refine⟨_,.inl hp,_,.inl hq,?_⟩;refine oC (λ_=>?_) (λh=>(h<|by rw[len]).elim);refine⟨false,_,_,hp,hq,?_⟩;refine GY len (λi ys H'=>ys=List.replicate i (V.bl true)/\iA H H') ⟨rfl,iA.refl H⟩ (λi ys H' h=>⟨h.2 _ _ hp,h.2 _ _ hq⟩) ?_ ?_
    .rintro i x' y' ys H' T' hi ex ey ⟨rfl,S⟩ hT;refine⟨_,fX,rfl,Ext.VF,?_⟩;obtain⟨d1,e1,i1⟩:=qp.get ex;obtain⟨d2,e2,i2⟩:=qq.get ey;rw[e1]at e2;cases e2;have S2:iA H (upd H' T'<|.tup [x',y']):=S.trans<|iA.upd hT;refine⟨d1,aV (xE e1) Jq,cj (wq e1) Zq,i1.mono S2 _ _,i2.mono S2 _ _,λH3 S3=>?_⟩;exact cnx hi (by rw[a9];have:=qp.len;lia) ⟨by rw[List.replicate_succ'],S2.trans S3⟩
    .rintro ys H' ⟨rfl,S⟩ D hD;refine⟨List.replicate vs.length true,by rw[fX,List.map_replicate],?_⟩;have e:(List.replicate vs.length true).all id=true:=by rw[c8];intro b hb;rw[(List.mem_replicate.mp hb).2];rfl
     show Q (.bl<|(List.replicate vs.length true).all id) (upd H' D<|.lst<|List.replicate vs.length<|V.bl true);rw[e];exact k _ (S.trans<|iA.upd hD)
   | tup ds =>
    obtain⟨p,vs,rfl,hp,qp⟩:=hx;obtain⟨q,ws,rfl,hq,qq⟩:=hy;obtain⟨m,rfl⟩:∃ m,n=m+1:=⟨n - 1,by unfold dep at hd;lia⟩;have Jq:yu ds<=m:=by unfold dep at hd;lia
    have hw1:ds.length<sizeLine:=by unfold Nq at hw;lia
    have Zq:yc ds<sizeLine:=by unfold Nq at hw;lia
    have len:vs.length=ws.length:=by rw[qp.len,qq.len]
    refine⟨_,false,kG.tup hq,rfl,_,false,kG.tup hp,rfl,_,false,kG.tup hq,rfl,_,true,kG.tup hq,jm K _,_,false,kG.tup hq,rfl,_,false,kG.tup hp,rfl,_,true,kG.tup hq,jm K _,_,true,kG.tup hp,jm K _,?_⟩;refine⟨_,.inr hp,_,.inr hq,?_⟩;refine oC (λ_=>?_) (λh=>(h<|by rw[len]).elim);refine⟨true,_,_,hp,hq,?_⟩;refine GY len (λi ys H'=>ys=List.replicate i (V.bl true)/\iA H H') ⟨rfl,iA.refl H⟩ (λi ys H' h=>⟨h.2 _ _ hp,h.2 _ _ hq⟩) ?_ ?_
    .rintro i x' y' ys H' T' hi ex ey ⟨rfl,S⟩ hT;refine⟨_,fX,rfl,Ext.VF,?_⟩;obtain⟨d1,e1,i1⟩:=qp.get ex;obtain⟨d2,e2,i2⟩:=qq.get ey;rw[e1]at e2;cases e2;have S2:iA H (upd H' T'<|.tup [x',y']):=S.trans<|iA.upd hT;refine⟨d1,aV (xE e1) Jq,cj (wq e1) Zq,i1.mono S2 _ _,i2.mono S2 _ _,λH3 S3=>?_⟩;exact cnx hi (by rw[a9];have:=qp.len;lia) ⟨by rw[List.replicate_succ'],S2.trans S3⟩
    .rintro ys H' ⟨rfl,S⟩ D hD;refine⟨List.replicate vs.length true,by rw[fX,List.map_replicate],?_⟩;have e:(List.replicate vs.length true).all id=true:=by rw[c8];intro b hb;rw[(List.mem_replicate.mp hb).2];rfl
     show Q (.bl<|(List.replicate vs.length true).all id) (upd H' D<|.lst<|List.replicate vs.length<|V.bl true);rw[e];exact k _ (S.trans<|iA.upd hD)
  .cases h
theorem Gd {f:ao}{fd:aj}(F:jW K "_law_same" "_law_same" s_same f fd)(T:lA mg)(hm:mg "_law_same"=some (.ref f))(hk:W.keepIn K (.ref f)=true)(hb:Binds K fd ["_law_found","_law_due"] []):∀ n,gD P w K mg fB kl (n+1) f fd ["_law_found","_law_due"] (uo n)
 |0=>Cg 0 F T ⟨f,fd,⟨λ_ _ _ _ h=>h.elim,λ_ _ _ _ _ _ _ _ _ _ _ _ _ h=>h.elim⟩,hm,hk,hb⟩
 |n+1=>Cg (n+1) F T ⟨f,fd,Gd F T hm hk hb n,hm,hk,hb⟩
def HQ (F:jW K "_law_barred" "_law_barred" m9 f fd)(T:lA mg)  : gD P w K mg fB kl 1 f fd (pA m9) (iB A5):=by
 refine oA F qB ⟨_,λhr=>(fG (k8 ba rfl (gY rfl T.range<|a1<|Bb (sA T<|dv 0) fM) (qT 2 qB.nd)
  (fG (qS 3 qB.nd<|rX mulC p6 kC<|Bb (iY (dv 0)<|oP (dv 2) fM)<|iY (dv 0)<|dv 2)
  (fP (ji (m4<|ic<|lR (anyC rfl) z6 (by rfl) T.any eW<|a1<|GV false (qL (N:=["_law_text","_law_old","_law_border","_law_k","_law_part"]) (js:=[none,none,some 0,some 2,some 3]) qB<|by decide +kernel) (iJ<|fS (fR 0) (fC 0) (fS (fR 1) (fC 1) iK fN)<|fH (fC 1) fN) (ib<|fH (fC 0)<|fH (fC 1) fN) (jc<|dv 1) (λ_ _ _ nd=>(gQ (n:=2) rfl (fJ (qN 0 nd)<|fJ (qN 1 nd) gw))) (λ_ _ _=>ig) λ_ _ _=>(oH TU rH (mT false (dv 0) (lX<|iY (dv 2)<|dv 3)<|lX<|iY (dv 2)<|oP (dv 3) fM) (dv 4)<|iG _))
  (fP<|f9<|nq<|a2 (iY (dv 0)<|dv 2)<|iY (dv 0)<|oP (dv 2) fM)
  hZ))))
  (fP<|f9 xG)),λds μ Kd h=>?_⟩
 unfold A5 at h;split at h
 .rename_i bd y;refine⟨rfl,λhm hl=>?_⟩;obtain⟨n,cs,ts,rfl,ey,hc,h1,h2,hcu,ht,kk⟩:=h;obtain⟨es,he⟩:∃ es,es=fw n cs:=⟨_,rfl⟩;rw[<- he]at kk ⊢
  have Zt:es.Pairwise (·<·):=by rw[he];exact hV h1 hcu
  have xf:∀ x∈es,0<=x/\x<=n:=λx hx=>hX h1 hcu (by rw[<- he];exact hx);have nv:es.length=cs.length+2:=by rw[he,fU]
  have mQ:((es.map D.int).length:Int)=(es.length:Nat):=by rw[gP]
  refine⟨by rw[mQ];lia,by rw[mQ];lia,?_⟩;have NG:(((es.map D.int).length:Int) - 1).toNat=(BE es).length:=by unfold BE;rw[mQ,List.length_zip,List.length_tail];lia
  rw[NG];refine iO (λds ρ fZ=>∃(i:Nat) (a b:av D),ds=(ky 0 (BE es).length).drop i/\jT es ts=((BE es).drop i).find? (bad ts)/\ρ=[some (.lst<|es.map D.int),some y,a,b]/\fZ=μ) ⟨0,none,none,rfl,rfl,rfl,rfl⟩ ?_ ?_
  .rintro d sy ρ fZ ⟨i,a,b,e,hf,rfl,rfl⟩;refine⟨trivial,λnx pD=>?_⟩;have hi:i<(BE es).length:=by
    by_cases q:i<(BE es).length
    .exact q
    .rw[bM (by rw[iF];lia)]at e;cases e
   rw[bL (by rw[iF];exact hi)]at e;cases e;have ed:(ky 0 (BE es).length)[i]'(by rw[iF];exact hi)=.int i:=by unfold ky;simp
   rw[ed];have hlz:(BE es).length=es.length - 1:=by unfold BE;rw[List.length_zip,List.length_tail];lia
   obtain⟨u,hu⟩:∃ u,es[i]?=some u:=⟨es[i]'(by lia),iD _⟩;obtain⟨v,hv⟩:∃ v,es[i+1]?=some v:=⟨es[i+1]'(by lia),iD _⟩;have hp:(BE es)[i]=(u,v):=by have q:=vL (es:=es) (i:=i);rw[hu,hv,iD hi]at q;exact aK q
   have Zr:=kD Zt hu hv<|bD _;have Wd:=xf u<|kq hu;have Ip:=xf v<|kq hv;have e1:kr (es.map D.int) (i:Int)=some (.int u):=gR hu;have e2:kr (es.map D.int) ((i:Int)+1)=some (.int v):=gR (i:=i+1) hv;refine fF e2 (fF e1 ⟨111,rfl,by lia,by lia,?_⟩);refine fF ey ⟨by rw[gP];exact sz (by have:=ht.lL;lia),?_⟩;refine je (qh ey) nB (λt=>.bl<|!decide (120∈mU t.1 u v)) (λt CF K' k'=>?_) ?_
   .have hz:=ht.ok t CF;refine⟨rfl,?_⟩;refine fF e1 (fF e2 ⟨by rw[jf];exact sz<|by lia,?_⟩);show K' (some<|.bl<|false != decide (txt (mU t.1 u v)=txt (List.replicate (v - u).toNat 111))) fZ;rw[UZ,IJ hz.2.1 Wd.1 (by lia) (by lia)];exact k'
   .refine⟨ts.map λt=>!decide (120∈mU t.1 u v),by show some _=_;rw[aQ];rfl,?_⟩
    .have eb:(!(ts.map λt=>!decide (120∈mU t.1 u v)).any id)=bad ts (u,v):=by unfold bad;rw[List.any_map,List.not_any_eq_all_not];congr 1;funext t;simp
     rw[bL hi,b7,hp,<- eb]at hf
     refine Td (b:=!(ts.map λt=>!decide (120∈mU t.1 u v)).any id) (λhb=>?_) (λhb=>?_)
     .refine fF e1<|fF e2 ⟨zs,.keep ?_⟩;rw[hb]at hf;rw[hf]at kk;exact kk
     .rw[hb]at hf;exact pD _ _ ⟨i+1,_,_,rfl,hf,rfl,rfl⟩
  .rintro ρ fZ ⟨i,a,b,e,hf,rfl,rfl⟩;refine⟨trivial,.keep ?_⟩;have hi:(BE es).length<=i:=by have:=cD List.length e;rw[bG,iF]at this;simp at this;lia
   rw[bM hi]at hf;rw[hf]at kk;exact kk
 .cases h
def Cn (F:jW K "farthest" "farthest" kW f fd)(T:lA mg)(kZ:px P w K mg fB):gD P w K mg fB kl 2 f fd (pA kW) (iB uI):=by
 refine oA F nJ ⟨_,λhr=>(fG (qS 4 nJ.nd<|xH du PySem.F.slot_str_find PySem.F.type_str_find WA N8 (dv 2)<|a2 kC<|dv 3)
  (fG (qS 5 nJ.nd<|My (Nv (dv 4) fM) (dv 0)<|dv 4)
  (fP<|f9<|lR (Lb rfl) sG (by rfl) T.max bP<|a1<|oP (mw false<|a1<|dv 3)<|Bc false (qL (N:=["place","clean_to"]) (js:=[none,some 5]) nJ<|by decide +kernel) (jc<|qC kZ hr<|a2 (dv 0)<|dv 1) (λ_ _ _ nd=>(qN 0 nd)) (λ_ _ _=>(rD<|Kn (dv 0)<|dv 1)) λ_ _ _=>(dv 0)))),λds μ Kd h=>?_⟩
 unfold uI at h;split at h
 .rename_i n x z e;refine⟨rfl,λhm hl=>?_⟩;obtain⟨cs,ex,hc,hn,Jm,ho,h0,h1,Jo,kk⟩:=h;have len:(z.cps.toList.length:Int)=n:=by rw[<- hn];simp[Str.length]
  refine⟨rfl,120,rfl,h0,by lia,λr hr=>?_⟩;obtain⟨q1,q2⟩:=hr.cl ho (by lia);have nv:(fw n cs).length=cs.length+2:=fU n cs;refine jV (λJl=>?_) (λJl=>?_);all_goals
   refine⟨zs,cs,ex,hc,by rw[gP];exact sz<|by lia,?_⟩
  .have ct:=q1 Jl;refine ia trivial (rh λi=>decide (i<=n)) (λd hd K' k'=>?_) ?_
   .obtain⟨i,hi,rfl⟩:=List.mem_map.mp hd;refine jV (λg=>?_) (λg=>?_)
    .exact vR (aI g) k'
    .exact sY (by simp[g]) k'
   .rw[tK];have fl:=dc (λi=>decide (i<=n))<|fw n cs;refine⟨by rw[gP];exact sz (by show 1+_<=_;lia),?_⟩;refine⟨e::(fw n cs).filter λi=>decide (i<=n),rfl,by simp,λm a b=>.keep ?_⟩;rw[EU ho h0 (by lia) Jo (m:=m) ⟨_,ct,?_,?_,?_⟩]
    .exact kk
    .rcases List.mem_cons.mp a with q | q
     .rw[q];exact Jo
     .exact(List.mem_filter.mp q).1
    .rcases List.mem_cons.mp a with q | q
     .lia
     .have:=bR (List.mem_filter.mp q).2;lia
    .exact λy hy Jk=>b y (ny _<|List.mem_filter.mpr ⟨hy,aI<|by lia⟩)
  .obtain⟨ct,hrt⟩:=q2 Jl;refine ia trivial (rh λi=>decide (i<=r)) (λd hd K' k'=>?_) ?_
   .obtain⟨i,hi,rfl⟩:=List.mem_map.mp hd;refine jV (λg=>?_) (λg=>?_)
    .exact vR (aI g) k'
    .exact sY (by simp[g]) k'
   .rw[tK];have fl:=dc (λi=>decide (i<=r))<|fw n cs;refine⟨by rw[gP];exact sz (by show 1+_<=_;lia),?_⟩;refine⟨e::(fw n cs).filter λi=>decide (i<=r),rfl,by simp,λm a b=>.keep ?_⟩;rw[EU ho h0 (by lia) Jo (m:=m) ⟨_,ct,?_,?_,?_⟩]
    .exact kk
    .rcases List.mem_cons.mp a with q | q
     .rw[q];exact Jo
     .exact(List.mem_filter.mp q).1
    .rcases List.mem_cons.mp a with q | q
     .have:=ct.1;lia
     .have:=bR (List.mem_filter.mp q).2;lia
    .exact λy hy Jk=>b y (ny _<|List.mem_filter.mpr ⟨hy,aI<|by lia⟩)
 .cases h
def Ak (F:jW K "take_rows" "take_rows" jH f fd)(T:lA mg)(kZ:px P w K mg fB)(Fp:xQ P w K mg fB):gD P w K mg fB kl 3 f fd (pA jH) (iB uF):=by
 refine oA F oV ⟨_,λhr=>(fG (qS 3 oV.nd<|qC kZ hr<|a2 (dv 0)<|dv 1)
  (fP<|f9<|GV false (qL (N:=["text","age","places","size","cuts"]) (js:=[none,none,some 3,some 0,some 1]) oV<|by decide +kernel) (iJ<|fS (fR 0) (fC 0) (fS (fR 1) (fC 1) iK fN)<|fH (fC 1) fN) (ib<|fH (fC 0)<|fH (fC 1) fN) (jc<|dv 2) (λ_ _ _ nd=>(gQ (n:=2) rfl (fJ (qN 0 nd)<|fJ (qN 1 nd) gw))) (λ_ _ _=>ig) λ_ _ _=>(nq<|a2 (dv 1)<|Bc false (v8 (xsc:=(fI jH)) (N:=["end","size","cuts","text"]) (js:=[none,some 3,some 4,some 0]) rfl (by decide +kernel)) (jc<|dv 2) (λ_ _ _ nd=>(qN 0 nd)) (λ_ _ _=>ig) λ_ _ _=>(qC Fp hr<|fK (dv 1)<|fK (dv 2)<|fK (dv 3)<|fK (dv 0) iL)))),λds μ Kd h=>?_⟩
 unfold uF at h;split at h
 .rename_i n x y;refine⟨rfl,λhm hl=>?_⟩;obtain⟨cs,ts,ex,ey,S,kk⟩:=h;have nv:(fw n cs).length=cs.length+2:=fU n cs;have lL:=S.lL;have ft:=S.takes.lL;refine⟨cs,ex,S.lL,?_⟩;refine fF ey ⟨by rw[gP];exact sz<|by lia,?_⟩;refine ia (qh ey) (Ld<|jk<|fw n cs) (λd hd K' k'=>?_) ?_
  .obtain⟨t,ht,rfl⟩:=List.mem_map.mp hd;have hz:=S.takes.ok t ht;refine⟨rfl,by rw[gP];exact sz<|by lia,?_⟩;refine ia trivial (Le λe=>.int<|iS (fw n cs) t.1 e) (λd hd K'' Zg=>?_) ?_
   .obtain⟨e,he,rfl⟩:=List.mem_map.mp hd;have xf:=hX S.n1 S.iI he;exact⟨cs,ex,S.lL,by rw[jf];exact hz.1,S.n2,by rw[ml];exact hz.2.1,xf.1,xf.2,he,by rw[ml];exact Zg⟩
   .refine⟨zs,?_⟩;rw[AN,show(fw n cs).map (λe=>D.int<|iS (fw n cs) t.1 e)=(sL (fw n cs) t).map D.int by unfold sL;rw[aQ];rfl];exact k'
  .refine .keep ?_;rw[vV];exact kk
 .cases h
def yj (F:jW K "next_reach" "next_reach" jL f fd)(T:lA mg)(qx:qt P w K mg fB):gD P w K mg fB kl 2 f fd (pA jL) (iB EW):=by
 refine oA F kJ ⟨_,λhr=>(fG (qS 4 kJ.nd<|PF (qL (N:=["at","end"]) (js:=[none,none]) kJ<|by decide +kernel) rfl (iJ<|fS (fR 0) (fC 0) (fS (fR 1) (fC 1) iK fN)<|fH (fC 1) fN) (ib<|fH (fC 0)<|fH (fC 1) fN) rfl (AE rfl T.enumerate<|a1<|dv 0) (λ_ _ _=>(gQ (n:=2) rfl (fJ (qN 0<|show List.Nodup (["at","end"]:au Str) by decide +kernel)<|fJ (qN 1<|show List.Nodup (["at","end"]:au Str) by decide +kernel) gw))) (λ_ _ _=>ig) (λ_ _ _=>(dv 1)) λ_ _ _=>(dv 0))
  (fG (qS 5 kJ.nd<|qC qx hr<|a3 (dv 0) (dv 1)<|dv 3)
  (fP<|f9<|GV true (qL (N:=["far","middle","before","where"]) (js:=[none,none,some 2,some 4]) kJ<|by decide +kernel) (iJ<|fS (fR 0) (fC 0) (fS (fR 1) (fC 1) iK fN)<|fH (fC 1) fN) (ib<|fH (fC 0)<|fH (fC 1) fN) (CD rfl T.zip<|a2 (dv 5)<|dv 2) (λ_ _ _ nd=>(gQ (n:=2) rfl (fJ (qN 0 nd)<|fJ (qN 1 nd) gw))) (λ_ _ _=>ig) λ_ _ _=>(lR (Lc rfl) wz (by rfl) T.max bP<|a2 (dv 0)<|iY (dv 2)<|xI (qj hr) (dv 3) (dv 1) λ_ _=>rfl)))),λds μ Kd h=>?_⟩
 unfold EW at h;split at h
 .rename_i x r y a;refine⟨rfl,λhm hl=>?_⟩;obtain⟨es,ts,bf,ex,rfl,nv,Zv,nd,ey,ok,kk⟩:=h;have lb:=ok.len;refine fF ex ⟨by rw[mY,gP];exact sz<|by lia,?_⟩;rw[Mn];refine BP (λm=>qh<|Aw ex) (λi e fZ K' k'=>⟨rfl,k'⟩) es 0 [] nd (λ_ h=>nomatch h) ?_;refine⟨es,ts,ex,rfl,nv,Zv,?_⟩;refine fF ey ⟨by rw[bH,gP,gP];exact sz<|by lia,?_⟩;refine ia ⟨trivial,qh ey⟩ (Ew λf m=>.int<|max f<|rowAt es bf m) (λd hd K' k'=>?_) ?_
  .obtain⟨f,hf,m,Wf,rfl⟩:=zI hd;refine⟨rfl,?_⟩;have Jn:=ok.mem m Wf;have e1:qW (((rC 0 es).map (·.1)).zip ((rC 0 es).map (·.2))) (kI m)=some (.int (es.idxOf m:Nat)):=by rw[zip_parts,yF Jn,dw]
   have e2:kr (bf.map D.int) ((es.idxOf m:Nat):Int)=some (.int<|rowAt es bf m):=gR<|ka ok Jn;exact fF e1 (ME ey e2 k')
  .rw[AM,show List.zipWith (λf m=>D.int<|max f<|rowAt es bf m) (i0 es ts a) bf=(lO es ts bf a).map D.int from(zF D.int (λf m=>max f<|rowAt es bf m) _ _).symm];exact .keep kk
 .cases h
def Cf (F:jW K "youngest" "youngest" kS f fd)(T:lA mg)  : gD P w K mg fB kl 1 f fd (pA kS) (iB uE):=by
 refine oA F uY ⟨_,λhr=>(fP<|f9<|TZ rfl (by rfl) T.min (GV false (qL (N:=["text","age"]) (js:=[none,none]) uY<|by decide +kernel) (iJ<|fS (fR 0) (fC 0) (fS (fR 1) (fC 1) iK fN)<|fH (fC 1) fN) (ib<|fH (fC 0)<|fH (fC 1) fN) (jc<|dv 0) (λ_ _ _ nd=>(gQ (n:=2) rfl (fJ (qN 0 nd)<|fJ (qN 1 nd) gw))) (λ_ _ _=>ig) λ_ _ _=>(dv 1)) fM),λds μ Kd h=>?_⟩;unfold uE at h;split at h
 .rename_i y;refine⟨rfl,λhm hl=>?_⟩;obtain⟨ts,ey,Zv,kk⟩:=h;refine fF ey ⟨by rw[gP];exact sz<|by lia,?_⟩;refine ia (qh ey) (Ld λt=>.int t.2) (λd hd K' k'=>?_) ?_
  .obtain⟨t,ht,rfl⟩:=List.mem_map.mp hd;exact⟨rfl,k'⟩
  .rw[vV];refine⟨ts.map (·.2),by unfold lv;rw[aQ];rfl,?_⟩;split
   .rename_i e;refine .keep ?_;have:kP ts=0:=by unfold kP;rw[e]
    rw[this]at kk;exact kk
   .exact λm a b=>.keep (by rw[JA a b];exact kk)
 .cases h
def SH (F:jW K "_law_far" "_law_far" wF f fd)(T:lA mg)  : gD P w K mg fB kl 1 f fd (pA wF) (iB TR):=by
 refine oA F Ad ⟨_,λhr=>(fG (qS 3 Ad.nd<|dv 2)
  (fG (Ae ba (PW.pt<|sE (Nv (dv 3)<|sA T<|dv 1)<|oS<|Nw (iY (dv 1)<|dv 3) kC)
  (fP<|B5 (i:=3) Ad.nd rfl lo fM tu wA))
  (fP<|f9<|lR (Lb rfl) sG (by rfl) T.max bP<|a1<|Bc false (qL (N:=["_law_one","_law_end","_law_at"]) (js:=[none,some 2,some 3]) Ad<|by decide +kernel) (jc<|dv 0) (λ_ _ _ nd=>(qN 0 nd)) (λ_ _ _=>(rD<|PW.pt<|sE (Kn (dv 1)<|dv 0)<|oS<|Kn (dv 0)<|dv 2)) λ_ _ _=>(dv 0)))),λds μ Kd h=>?_⟩
 unfold TR at h;split at h
 .rename_i b z e;refine⟨rfl,λhm hl=>?_⟩;obtain⟨es,rfl,nv,hz,ho,h0,h1,he,kk⟩:=h;have len:z.cps.toList.length=z.length:=by simp[Str.length]
  have ct:=sf ho (e:=e.toNat) (by lia);refine⟨λm ρ fZ=>∃ at_:Nat,m=sh z.cps.toList e.toNat - at_/\e.toNat<=at_/\at_<=sh z.cps.toList e.toNat/\ρ=[some (.lst<|es.map D.int),some (.str z),some (.int e),some (.int (at_:Int))]/\fZ=μ,⟨_,e.toNat,rfl,aw _,ct.1,by rw[cw h0];rfl,rfl⟩,?_⟩;rintro m ρ fZ ⟨at_,rfl,g1,g2,rfl,rfl⟩;have test:∀ K:Bool->MS->Prop,K (decide (at_<sh z.cps.toList e.toNat)) fZ->GN (pj<|vZ (vD λi j=>D.bl<|decide (i<j)) (vC 3)<|vh Po<|tO (vC 1) II)
   (pj<|vZ (MG false) (vZ W3 (vC 1)<|vC 3)<|dC<|D.str<|Str.ofString "o")
   [some (D.lst<|List.map D.int es),some (D.str z),some (D.int e),some (D.int ↑at_)] fZ K:=by
   intro K k;refine⟨sz<|by lia,jV (c:=(at_:Int)<(z.length:Nat)) (λmv=>?_) λmv=>?_⟩
   .have hat:at_<z.cps.toList.length:=by lia
    have ga:z.cps.toList[at_]?=some (z.cps.toList[at_]):=iD hat
    have ea:kr z.cps.toList (at_:Int)=some (z.cps.toList[at_]):=kM ga
    refine⟨sz<|by lia,fF ea ?_⟩
    by_cases q:at_<sh z.cps.toList e.toNat
    .have:=ct.2.2.1 at_ g1 q;rw[ga]at this;rw[aK this];rw[aI q]at k;exact k
    .have eat:sh z.cps.toList e.toNat=at_:=by lia
     have:=ct.2.2.2
     rw[eat,ga]at this
     rcases this with z'|z'
     .lia
     .rw[aK z'];rw[aO q]at k;exact k
   .rw[aO (by have:=ct.2.1;lia)]at k;exact k
  refine test _ ?_;refine jV (λmv=>?_) (λmv=>?_)
  .exact⟨_,by lia,at_+1,rfl,by lia,by lia,rfl,rfl⟩
  .refine⟨by rw[gP];exact sz<|by lia,?_⟩;refine ia trivial (rh λi=>decide (e<=i)&&decide (i<=(at_:Int))) (λd hd K' k'=>?_) ?_
   .obtain⟨i,hi,rfl⟩:=List.mem_map.mp hd;refine jV (c:=e<=i) (λp1=>?_) (λp1=>?_)
    .refine jV (c:=i<=(at_:Int)) (λp2=>?_) (λp2=>?_)
     .exact vR (by simp[p1,p2]) k'
     .exact sY (by simp[p2]) k'
    .exact sY (by simp[p1]) k'
   .rw[tK];have ein:e∈es.filter λi=>decide (e<=i)&&decide (i<=(at_:Int)):=List.mem_filter.mpr ⟨he,by simp;lia⟩;refine⟨_,rfl,(λq=>by rw[q]at ein;cases ein),λm a b=>.keep ?_⟩;have eat:sh z.cps.toList e.toNat=at_:=by lia
    rw[eat]at ct;obtain⟨a1,a2⟩:=List.mem_filter.mp a;simp only[cv,bS]at a2;rw[EU ho h0 (by lia) he (m:=m) ⟨_,ct,a1,a2.2,λy hy Jk=>?_⟩]
    .exact kk
    .by_cases q:e<=y
     .exact b y (List.mem_filter.mpr ⟨hy,by simp;lia⟩)
     .lia
 .cases h
def Am (F:jW K "least_age" "least_age" j6 f fd)(T:lA mg)(qy:tU P w K mg fB)(kZ:px P w K mg fB)(ki:mB P w K mg fB)(sq:sj P w K mg fB)(mW:pw P w K mg fB):gD P w K mg fB kl 4 f fd (pA j6) (iB EX):=by
 refine oA F jJ ⟨_,λhr=>(fG (ji (zW<|qC qy hr<|a3 (dv 0) (dv 1)<|dv 2)
  (fP<|f9 xG)
  hZ)
  (fG (qS 3 jJ.nd<|qC kZ hr<|a2 (dv 0)<|dv 1)
  (fG (qS 4 jJ.nd<|qC ki hr<|a3 (dv 0) (dv 1)<|dv 2)
  (fG (qS 5 jJ.nd<|qC sq hr<|a1<|dv 2)
  (fG (qS 6 jJ.nd<|qC mW hr<|fK (dv 3)<|fK (dv 4)<|fK (dv 3)<|fK (dv 5) iL)
  (fG (Ae ba (QT (iY (dv 6) fM)<|dv 0)
  (fG (B5 (i:=5) jJ.nd rfl lo fM tu wA)
  (fP<|qS 6 jJ.nd<|qC mW hr<|fK (dv 3)<|fK (dv 4)<|fK (dv 6)<|fK (dv 5) iL)))
  (fP<|f9<|dv 5))))))),λds μ Kd h=>?_⟩
 unfold EX at h;split at h
 .rename_i n x y;refine⟨rfl,λhm hl=>?_⟩;obtain⟨cs,ts,ex,ey,S,CH,kk⟩:=h;have lL:=S.lL;have ft:=S.takes.lL;have n2:=S.n2;have nd:=tM S.n1 S.iI;have nv:(fw n cs).length=cs.length+2:=fU n cs;refine⟨cs,ts,ex,ey,by lia,S.takes,by lia,?_⟩;unfold rR at kk;cases hb:jT (fw n cs) ts with
  | some p =>rw[hb]at kk;exact .keep kk
  | none =>
   rw[hb]at kk;obtain⟨a,ha,la⟩:=Ez S CH hb;have ly:=Cy S la;have kk:=kk a ha la;refine⟨cs,ex,S.lL,?_⟩;refine⟨cs,ts,ex,ey,S,?_⟩;refine⟨ts,ey,by lia,?_⟩;have yn:=BM S.takes;have yl:=BN (ts:=ts);obtain⟨y0,hy0⟩:∃ y0:Nat,kP ts=(y0:Int):=⟨(kP ts).toNat,by lia⟩;rw[hy0]at yn yl ly ⊢
   obtain⟨es,he⟩:∃ es,es=fw n cs:=⟨_,rfl⟩;rw[<- he]at nd nv la ⊢
   refine⟨es,ts,es,rfl,rfl,by lia,by lia,nd,rfl,GK es,?_⟩;have e0:lO es ts es (y0:Int)=gh es ts y0:=by have:=Dm es ts y0;rwa [IW (b:=y0) yl]at this
   rw[e0];refine⟨λm ρ fZ=>∃(b j:Nat) (g:MS),m=a - b/\b<=a/\ρ=[some (.int n),some x,some y,some (.lst<|es.map D.int),some (.lst<|ts.map<|jk es),some (.int b),some (.mr j)]/\fZ=μ++g/\nP fZ j=some ((gh es ts b).map D.int),⟨_,y0,_,[.lst ((gh es ts y0).map D.int)],rfl,by lia,rfl,rfl,jl⟩,?_⟩;rintro m ρ fZ ⟨b,j,g,rfl,hba,rfl,rfl,el⟩;have Og:=jz es ts b;obtain⟨z,hz⟩:∃ z,(gh es ts b)[0]?=some z:=⟨_,iD (by rw[Og.len];lia)⟩;refine fF (show lv _ (.mr j)=_ from el)<|fF (show kr _ (0:Int)=_ from gR (i:=0) hz) ?_;refine zc (λq=>?_) (λq=>?_)
   .have mv:b<a:=by
     rcases cg b a with z'|z'
     .exact z'
     .have e:b=a:=by lia
      rw[e,la.at_]at hz
      exact absurd (aK hz).symm q
    refine⟨es,ts,gh es ts b,rfl,rfl,by lia,by lia,nd,el,Og,?_⟩
    exact⟨_,by lia,b+1,_,g++[.lst ((gh es ts<|b+1).map D.int)],rfl,by lia,rfl,by rw[bq];rfl,jl⟩
   .have e:b=a:=by
     rcases cg b a with z'|z'
     .rw[q]at hz;exact absurd hz (la.low b z')
     .lia
    refine Fz.drop True.intro (sR hm) ?_
    rw[cG,e]
    exact kk
 .cases h
def CQ {es:au Int}{ts:au Tk}{n:Int}{a N:Nat}(la:iM es ts n a)(h:a<N):((List.range N).filter λb=>decide ((gh es ts b)[0]?=some n))[0]?=some a:=by
 have key:∀ N,a<N->∃ r,(List.range N).filter (λb=>decide ((gh es ts b)[0]?=some n))=a::r:=by
  intro N;induction N with
  |zero=>intro h;lia
  | succ N ih =>
   intro h;rw[cW,List.filter_append];by_cases q:a<N
   .obtain⟨r,e⟩:=ih q;exact⟨_,by rw[e];rfl⟩
   .have e:N=a:=by lia
    subst e
    refine⟨[],?_⟩
    rw[List.filter_eq_nil_iff.mpr λb hb=>by have:=la.low b<|List.mem_range.mp hb;simp[this]]
    simp[la.at_]
 obtain⟨r,e⟩:=key N h;rw[e];rfl
def KU (F:jW K "_law_least" "_law_least" oZ f fd)(T:lA mg)(xY:xR P w K mg fB)(Ut:MN P w K mg fB):gD P w K mg fB kl 4 f fd (pA oZ) (iB AY):=by
 refine oA F sJ ⟨_,λhr=>(fG (ji (zW<|qC xY hr<|a2 (dv 0)<|dv 1)
  (fP<|f9 xG)
  hZ)
  (fG (qS 2 sJ.nd<|qC Ut hr<|a3 (dv 0) (dv 1)<|oP (lR (Lb rfl) sG (by rfl) T.max bP<|a1<|GV false (qL (N:=["_law_text","_law_old"]) (js:=[none,none]) sJ<|by decide +kernel) (iJ<|fS (fR 0) (fC 0) (fS (fR 1) (fC 1) iK fN)<|fH (fC 1) fN) (ib<|fH (fC 0)<|fH (fC 1) fN) (jc<|dv 1) (λ_ _ _ nd=>(gQ (n:=2) rfl (fJ (qN 0 nd)<|fJ (qN 1 nd) gw))) (λ_ _ _=>ig) λ_ _ _=>(dv 1)) fM)
  (fP<|f9<|iY (Bc false (qL (N:=["_law_age","_law_rows_here","_law_border"]) (js:=[none,some 2,some 0]) sJ<|by decide +kernel) (gY rfl T.range<|a1<|sA T<|dv 2) (λ_ _ _ nd=>(qN 0 nd)) (λ_ _ _=>(rD<|Nw (iY (iY (dv 1)<|dv 0) fM)<|iY (dv 2)<|tN fM)) λ_ _ _=>(dv 0)) fM))),λds μ Kd h=>?_⟩
 unfold AY at h;split at h
 .rename_i b y;refine⟨rfl,λhm hl=>?_⟩;obtain⟨n,cs,ts,rfl,ey,S,CH,kk⟩:=h;have lL:=S.lL;have ft:=S.takes.lL;have n2:=S.n2;have nv:(fw n cs).length=cs.length+2:=fU n cs;refine⟨n,cs,ts,rfl,ey,by lia,S.n1,by lia,S.iI,S.takes,?_⟩;unfold rR at kk;cases hb:jT (fw n cs) ts with
  | some p =>rw[hb]at kk;exact .keep kk
  | none =>
   rw[hb]at kk;have Ux:=zB S hb;refine fF ey ⟨by rw[gP];exact sz<|by lia,?_⟩;refine ia (qh ey) (Ld λt=>.int t.2) (λd hd K' k'=>?_) ?_
   .obtain⟨t,ht,rfl⟩:=List.mem_map.mp hd;exact⟨rfl,k'⟩
   .rw[vV];refine⟨ts.map (·.2),by unfold lv;rw[aQ];rfl,by simpa using Ux,λm h1 h2=>?_⟩;obtain⟨t,ht,rfl⟩:=List.mem_map.mp h1;have tok:=S.takes.ok t ht;obtain⟨a,ha,la⟩:=xb S CH hb (a:=t.2.toNat) λu hu=>by have:=h2 u.2<|List.mem_map.mpr ⟨u,hu,rfl⟩;lia
    have kk:=kk a (by lia) la;refine⟨n,cs,ts,rfl,ey,S,by lia,by lia,?_⟩;obtain⟨es,he⟩:∃ es,es=fw n cs:=⟨_,rfl⟩;have el:kr ((fw n cs).map D.int) (-1)=some (.int n):=by rw[<- oG];exact tV _ _
    rw[<- he]at la nv el ⊢
    have e8:(t.2+8).toNat=((t.2+8).toNat:Nat):=rfl;obtain⟨N,hN⟩:∃ N:Nat,(t.2+8).toNat=N:=⟨_,rfl⟩;rw[hN];have O1:(((List.range N).map λa=>D.lst<|(gh es ts a).map D.int).length:Int)=(N:Int):=by rw[gP,pF]
    refine⟨by rw[O1];lia,by rw[O1];lia,sz (by rw[iF,O1];lia),?_⟩;rw[O1,sx];refine ia trivial (rh λb=>decide ((gh es ts b.toNat)[0]?=some n)) (λd hd K' k'=>?_) ?_
    .obtain⟨b,hbN,rfl⟩:=wK hd;rw[c4]at k' ⊢
     have Og:=jz es ts b;obtain⟨z,hz⟩:∃ z,(gh es ts b)[0]?=some z:=⟨_,iD (by rw[Og.len];lia)⟩;have er:kr ((List.range N).map λa=>D.lst<|(gh es ts a).map D.int) (b:Int)=some (.lst<|(gh es ts b).map D.int):=gR<|aY hbN;refine fF er<|fF (show kr _ (0:Int)=_ from gR (i:=0) hz)<|fF el ?_;refine oC (λq=>vR ?_ k') (λq=>sY ?_ k')
     .rw[sx,hz,q];simp
     .rw[sx,hz];simp[q]
    .rw[vJ,tK];have ef:(List.filter (λb:Int=>decide ((gh es ts b.toNat)[0]?=some n))<|(List.range N).map λi=>(0:Int)+(i:Nat))=((List.range N).filter λb=>decide ((gh es ts b)[0]?=some n)).map λi=>((i:Nat):Int):=by
      rw[List.filter_map];have:(λb:Int=>decide ((gh es ts b.toNat)[0]?=some n)) ∘ (λi:Nat=>(0:Int)+(i:Int))=λb=>decide ((gh es ts b)[0]?=some n):=by funext i;show decide ((gh es ts ((0:Int)+(i:Int)).toNat)[0]?=some n)=_;rw[c4,sx]
      rw[this];exact bY λi _=>c4 _
     rw[ef,aQ];have fl:=CQ la (N:=N) (by lia);refine fF (show kr _ (0:Int)=_ from gR (i:=0) fl) (.keep kk)
 .cases h
def ON (F:jW K "_law_fars" "_law_fars" p9 f fd)(T:lA mg)(DF:G2 P w K mg fB):gD P w K mg fB kl 2 f fd (pA p9) (iB Ma):=by
 refine oA F FN ⟨_,λhr=>(fP<|f9<|GV false (qL (N:=["_law_text","_law_old","_law_border"]) (js:=[none,none,some 0]) FN<|by decide +kernel) (iJ<|fS (fR 0) (fC 0) (fS (fR 1) (fC 1) iK fN)<|fH (fC 1) fN) (ib<|fH (fC 0)<|fH (fC 1) fN) (jc<|dv 1) (λ_ _ _ nd=>(gQ (n:=2) rfl (fJ (qN 0 nd)<|fJ (qN 1 nd) gw))) (λ_ _ _=>ig) λ_ _ _=>(nq<|a2 (dv 1)<|Bc false (v8 (xsc:=(fI p9)) (N:=["_law_end","_law_border","_law_text"]) (js:=[none,some 2,some 0]) rfl (by decide +kernel)) (jc<|dv 2) (λ_ _ _ nd=>(qN 0 nd)) (λ_ _ _=>ig) λ_ _ _=>(qC DF hr<|a3 (dv 1) (dv 2)<|dv 0))),λds μ Kd h=>?_⟩;unfold Ma at h;split at h
 .rename_i b y;refine⟨rfl,λhm hl=>?_⟩;obtain⟨n,cs,ts,rfl,ey,S,kk⟩:=h;have nv:(fw n cs).length=cs.length+2:=fU n cs;have lL:=S.lL;have ft:=S.takes.lL;have n2:=S.n2;refine fF ey ⟨by rw[gP];exact sz<|by lia,?_⟩;refine ia (qh ey) (Ld<|jk<|fw n cs) (λd hd K' k'=>?_) ?_
  .obtain⟨t,ht,rfl⟩:=List.mem_map.mp hd;have hz:=S.takes.ok t ht;refine⟨rfl,by rw[gP];exact sz<|by lia,?_⟩;refine ia trivial (Le λe=>.int<|iS (fw n cs) t.1 e) (λd hd K'' Zg=>?_) ?_
   .obtain⟨e,he,rfl⟩:=List.mem_map.mp hd;have xf:=hX S.n1 S.iI he;exact⟨_,rfl,by lia,by rw[jf];lia,by rw[ml];exact hz.2.1,xf.1,by rw[jf];lia,he,by rw[ml];exact Zg⟩
   .refine⟨zs,?_⟩;rw[AN,show(fw n cs).map (λe=>D.int<|iS (fw n cs) t.1 e)=(sL (fw n cs) t).map D.int by unfold sL;rw[aQ];rfl];exact k'
  .refine .keep ?_;rw[vV];exact kk
 .cases h
def FL {μ g:MS}{y:MO}:(μ++g).set μ.length y=μ++g.set 0 y:=by rw[cI _ _ (aw _),aZ]
def wQ (F:jW K "young_paper" "young_paper" ju f fd)(T:lA mg)(kZ:px P w K mg fB)(ki:mB P w K mg fB)(mW:pw P w K mg fB):gD P w K mg fB kl 4 f fd (pA ju) (iB AS):=by
 refine oA F i8 ⟨_,λhr=>(fG (qS 4 i8.nd<|qC kZ hr<|a2 (dv 0)<|dv 1)
  (fG (qS 5 i8.nd<|qC ki hr<|a3 (dv 0) (dv 1)<|dv 2)
  (fG (qS 6 i8.nd<|mw true iL)
  (fG (qS 7 i8.nd<|dv 4)
  (fG (k8 ba rfl (gY rfl T.range<|a1<|dv 3) (qT 8 i8.nd)
  (fG (qS 7 i8.nd<|qC mW hr<|fK (dv 4)<|fK (dv 5)<|fK (dv 7)<|fK (dv 8) iL)
  (fP<|wG<|xH cn cO cM tX ot (dv 6)<|a1<|dv 7)))
  (fP<|f9<|dv 6)))))),λds μ Kd h=>?_⟩
 unfold AS at h;split at h
 .rename_i n x y a;refine⟨rfl,λhm hl=>?_⟩;obtain⟨cs,ts,ex,ey,S,Yg,Ws,kk⟩:=h;have lL:=S.lL;have ft:=S.takes.lL;have nv:(fw n cs).length=cs.length+2:=fU n cs;have nd:=tM S.n1 S.iI;refine⟨cs,ex,S.lL,?_⟩;refine⟨cs,ts,ex,ey,S,?_⟩;refine⟨zs,?_⟩;refine⟨by lia,by lia,?_⟩;obtain⟨es,he⟩:∃ es,es=fw n cs:=⟨_,rfl⟩;rw[<- he]at kk nd nv ⊢
  refine iO (λds ρ fZ=>∃(i c:Nat) (g:MS) (js:au Nat) (rd:D) (v:av D),ds=ky i c/\i+c=a.toNat/\ρ=[some (.int n),some x,some y,some (.int a),some (.lst<|es.map D.int),some (.lst<|ts.map<|jk es),some (.mr μ.length),some rd,v]/\fZ=μ++g/\js.length=i/\nP (μ++g) μ.length=some (js.map D.mr)/\(∀ i k,js[i]?=some k->nP (μ++g) k=some ((gh es ts i).map D.int))/\(∀ k∈js,μ.length<=k/\k≠μ.length)/\lv (μ++g) rd=some ((vE es ts i).map D.int)/\((∃ k,rd=.mr k/\k≠μ.length)\/∃ q,rd=.lst q)) ⟨0,a.toNat,[.lst []],[],.lst<|es.map D.int,none,rfl,by lia,rfl,rfl,rfl,jl,λi k e=>(by simp at e),λk hk=>(nomatch hk),rfl,.inr ⟨_,rfl⟩⟩ ?_ ?_
  .rintro d sy ρ fZ ⟨i,c,g,js,rd,v,e,Jp,rfl,rfl,UT,oN,Tq,Yb,Zy,Gq⟩;refine⟨trivial,λnx pD=>?_⟩;cases c with
   |zero=>cases e
   | succ c =>
    rw[h9]at e;cases e;refine⟨es,ts,vE es ts i,rfl,rfl,by lia,by lia,nd,Zy,Ui es ts i,?_⟩;rw[Dm];have gl:0<g.length:=by have:=(kB<|jP oN).1;rw[lP]at this;lia
    refine⟨wX<|o8 oN,fF (o8 oN) ⟨Uz (by rw[gP];lia),?_⟩⟩;have sl:μ.length<(μ++(g++[MO.lst ((vE es ts<|i+1).map D.int)])).length:=by rw[lP,lP];lia
    have Rp:((μ++g++[MO.lst ((vE es ts<|i+1).map D.int)]).set μ.length<|.lst<|js.map D.mr++[D.mr (μ++g).length])=μ++(g++[MO.lst ((vE es ts<|i+1).map D.int)]).set 0 (.lst<|js.map D.mr++[D.mr (μ++g).length]):=by rw[bq];exact FL
    have other:∀ {k:Nat} {ds:au D},k≠μ.length->nP (μ++g) k=some ds->nP ((μ++g++[MO.lst ((vE es ts<|i+1).map D.int)]).set μ.length<|.lst<|js.map D.mr++[D.mr (μ++g).length]) k=some ds:=λhk e=>by rw[Ax (bX hk)];exact o8 e
    have VQ:nP ((μ++g++[MO.lst ((vE es ts<|i+1).map D.int)]).set μ.length<|.lst<|js.map D.mr++[D.mr (μ++g).length]) (μ++g).length=some ((vE es ts<|i+1).map D.int):=by rw[Ax (by rw[lP];lia)];exact jl
    refine pD _ _ ⟨i+1,c,_,js++[(μ++g).length],.mr (μ++g).length,_,rfl,by lia,rfl,Rp,by rw[lP,UT];rfl,?_,λi' k ek=>?_,λk hk=>?_,?_,.inl ⟨_,rfl,by rw[lP];lia⟩⟩
    .rw[<- Rp,bB];exact sX (by rw[lP,lP];lia)
    .rw[<- Rp];rcases cg i' js.length with q|q
     .rw[vd q]at ek;exact other (Yb k<|kq ek).2 (Tq i' k ek)
     .have Gs:i'=js.length:=by have:=(kB ek).1;rw[lP,bx]at this;lia
      rw[Gs,qV (aw _),aZ]at ek
      cases ek
      rw[Gs,UT]
      exact VQ
    .rcases List.mem_append.mp hk with q | q
     .exact Yb k q
     .rw[List.mem_singleton.mp q,lP];lia
    .rw[<- Rp];exact VQ
  .rintro ρ fZ ⟨i,c,g,js,rd,v,e,Jp,rfl,rfl,UT,oN,Tq,Yb,Zy,Gq⟩;cases c with
   |succ c=>rw[h9]at e;cases e
   |zero=>exact⟨trivial,.keep<|kk μ.length js g (by lia) oN Tq (aw _) Yb⟩
 .cases h
def En (F:jW K "no_make" "no_make" lV f fd)(T:lA mg)  : gD P w K mg fB kl 1 f fd (pA lV) (iB AX):=by
 refine oA F D5 ⟨_,λhr=>(fP<|f9<|Bb (sA T<|dv 0) fM),λds μ Kd h=>?_⟩;unfold AX at h;split at h
 .rename_i b;refine⟨rfl,λhm hl=>?_⟩;obtain⟨hl,kk⟩:=h;exact .keep kk
 .cases h
def yp (F:jW K "bare_table" "bare_table" jj f fd)(T:lA mg)(oK:qK P w K mg fB):gD P w K mg fB kl 2 f fd (pA jj) (iB EZ):=by
 refine oA F nZ ⟨_,λhr=>(fG (qS 1 nZ.nd<|qC oK hr<|a1<|dv 0)
  (fP<|f9<|Bc false (qL (N:=["first","places","none"]) (js:=[none,some 0,some 1]) nZ<|by decide +kernel) (gY rfl T.range<|a1<|sA T<|dv 0) (λ_ _ _ nd=>(qN 0 nd)) (λ_ _ _=>ig) λ_ _ _=>(Bc false (v8 (xsc:=(fI jj)) (N:=["behind","first","none"]) (js:=[none,some 0,some 2]) rfl (by decide +kernel)) (gY rfl T.range<|a1<|sA T<|dv 1) (λ_ _ _ nd=>(qN 0 nd)) (λ_ _ _=>ig) λ_ _ _=>(My (Kn (dv 0)<|dv 1) fM<|dv 2)))),λds μ Kd h=>?_⟩
 unfold EZ at h;split at h
 .rename_i b;refine⟨rfl,λhm hl=>?_⟩;obtain⟨hl,kk⟩:=h;refine⟨hl,?_⟩;refine⟨by lia,by lia,?_⟩;rw[sx];refine⟨sz (by rw[iF];lia),?_⟩;refine je trivial (λi:Nat=>D.int<|0+(i:Nat)) (λi=>D.lst<|jU b.length<|jx b.length i) (λi hi K' k'=>?_)<|.keep kk;refine⟨by lia,by lia,?_⟩;rw[sx];refine⟨sz (by rw[iF];lia),?_⟩;refine je trivial (λj:Nat=>D.int<|0+(j:Nat)) (λj=>D.int<|jx b.length i j) (λj hj K' k'=>?_) k';unfold jx at k';refine jV (c:=(0+(j:Nat):Int)<=0+(i:Nat)) (λq=>?_) (λq=>?_)
  .rw[aE (by lia)]at k';exact k'
  .rw[aF (by lia)]at k';exact k'
 .cases h
def uA (F:jW K "fewest_joined" "fewest_joined" iX f fd)(T:lA mg)  : gD P w K mg fB kl 1 f fd (pA iX) (iB xr):=by
 refine oA F ou ⟨_,λhr=>(fP<|f9<|lR (Y8 rfl) N6 (by rfl) T.min dH<|a1<|oP (mw false<|a1<|dv 2)<|GV false (qL (N:=["left","right"]) (js:=[none,none]) ou<|by decide +kernel) (iJ<|fS (fR 0) (fC 0) (fS (fR 1) (fC 1) iK fN)<|fH (fC 1) fN) (ib<|fH (fC 0)<|fH (fC 1) fN) (CD rfl T.zip<|a2 (dv 0)<|dv 1) (λ_ _ _ nd=>(gQ (n:=2) rfl (fJ (qN 0 nd)<|fJ (qN 1 nd) gw))) (λ_ _ _=>ig) λ_ _ _=>(oP (oP (dv 0)<|dv 1) fM)),λds μ Kd h=>?_⟩;unfold xr at h;split at h
 .rename_i l r m;refine⟨rfl,λhm hl=>?_⟩;obtain⟨ls,rs,rfl,rfl,h1,h2,kk⟩:=h;refine⟨zs,?_⟩;refine⟨by rw[bH,gP,gP];exact sz<|by lia,?_⟩;rw[Jy];refine je ⟨trivial,trivial⟩ (λp:Int×Int=>D.tup [.int p.1,.int p.2]) (λp=>D.int<|p.1+p.2+1) (λp hp K' k'=>⟨rfl,k'⟩) ?_;rw[Ju];refine⟨by rw[gP,bH];exact sz (by show 1+_<=_;lia),?_⟩;obtain⟨b1,b2,b3⟩:=jQ (List.zipWith (λa b=>a+b+1) ls rs) m;refine⟨m::List.zipWith (λa b=>a+b+1) ls rs,rfl,by simp,λv hv Ip=>.keep ?_⟩;have e:v=(List.zipWith (λa b=>a+b+1) ls rs).foldl min m:=by
   have g1:=Ip m aH;rcases b1 with q|q
   .rcases List.mem_cons.mp hv with z | z
    .lia
    .have:=b3 v z;lia
   .have:=Ip _<|ny _ q;rcases List.mem_cons.mp hv with z|z
    .lia
    .have:=b3 v z;lia
  rw[e];exact kk
 .cases h
def HP (F:jW K "fewest" "fewest" m8 f fd)(T:lA mg)(lK:mV P w K mg fB):gD P w K mg fB kl 5 f fd (pA m8) (iB A1):=by
 refine oA F yR ⟨_,λhr=>(fG (qS 4 yR.nd<|iY (iY (xI (qj hr) (qC lK hr<|fK (dv 0)<|fK (dv 1)<|fK (dv 2)<|fK (dv 3) iL) (dv 3) λ_ _=>rfl) fM)<|tN fM)
  (fP<|f9<|My (Kn (dv 4)<|sA T<|dv 1) (dv 4) xG)),λds μ Kd h=>?_⟩
 unfold A1 at h;split at h
 .rename_i n x y a;refine⟨rfl,λhm hl=>?_⟩;obtain⟨cs,ts,rfl,rfl,S,a0,a1,kk⟩:=h;refine⟨cs,ts,rfl,rfl,S,a0,a1,?_⟩;have nv:(fw n cs).length=cs.length+2:=fU n cs;have e1:qW ((mI<|a.toNat+1).zip<|nH (fw n cs) ts<|a.toNat+1) (.inl a)=some (.lst<|kQ (fw n cs).length<|fQ (fw n cs) ts<|a.toNat+1):=by have:=vX (xs:=List.range<|a.toNat+1) (k:=a.toNat) (λk=>D.lst<|kQ (fw n cs).length<|fQ (fw n cs) ts<|k+1) (List.mem_range.mpr<|by lia);rw[cw a0]at this;exact this
  have e2:kr (kQ (fw n cs).length<|fQ (fw n cs) ts<|a.toNat+1) 0=some (.lst<|jU (fw n cs).length<|fQ (fw n cs) ts (a.toNat+1) 0):=kM (j:=0) (pZ<|by lia);have e3:kr (jU (fw n cs).length<|fQ (fw n cs) ts (a.toNat+1) 0) (-1)=some (.int<|fQ (fw n cs) ts (a.toNat+1) 0<|cs.length+1):=tW (by rw[sM,nv];exact ni<|by lia);refine fF e1<|fF e2<|fF e3 ?_;unfold Pl at kk;refine jV (c:=fQ (fw n cs) ts (a.toNat+1) 0 (cs.length+1)<=((cs.map D.int).length:Int)) (λq=>?_) (λq=>?_)
  .rw[gP]at q;rw[aE q]at kk;exact .keep kk
  .rw[gP]at q;rw[aF q]at kk;exact .keep kk
 .cases h
def qd (F:jW K "is_take" "BestMakes.is_take" hJ f fd)(T:lA mg)(fE:ja K fL):gD P w K mg fB kl 1 f fd (pA hJ) (iB<|AZ fL):=by
 refine oA F jg ⟨_,λhr=>(fG (J0 (dv 1) ⟨(gQ (n:=3) rfl (fJ (qN 2 jg.nd)<|fJ (qN 3 jg.nd)<|fJ (qN 4 jg.nd) gw)),(iJ<|fS (fR 2) (fC 2) (fS (fR 3) (fC 3) (fS (fR 4) (fC 4) iK fN)<|fH (fC 4) fN)<|fH (fC 3)<|fH (fC 4) fN),(ib<|fH (fC 2)<|fH (fC 3)<|fH (fC 4) fN)⟩)
  (fP<|f9<|oH TU rH (iY (iY (xI (qj hr) (pH fE.cl fE.sT<|dv 0) (dv 2) λ_ _=>rfl)<|dv 3)<|dv 4) fM<|iG _)),λds μ Kd h=>?_⟩
 unfold AZ at h;split at h
 .rename_i k s;refine⟨rfl,λhm hl=>?_⟩;obtain⟨es,ts,A,j,a,i,b,B,rfl,kk⟩:=h;have Iv:=B.Iv;have hb:=B.hb;refine⟨rfl,_,vB B.at_ uP,?_⟩;refine fF (zS B.ha) ?_;refine fF (zV<|by lia) ?_;refine fF (Af hb)<|.keep ?_;generalize decide (fQ es ts (a+1) i b=0)=c at kk ⊢
  cases c<;>exact kk
 .cases h
def n9 (F:jW K "clean_takes" "BestMakes.clean_takes" gF f fd)(T:lA mg)(fE:ja K fL):gD P w K mg fB kl 1 f fd (pA gF) (iB<|A4 fL):=by
 refine oA F gM ⟨_,λhr=>(fG (J0 (dv 1) ⟨(gQ (n:=3) rfl (fJ (qN 2 gM.nd)<|fJ (qN 3 gM.nd)<|fJ (qN 4 gM.nd) gw)),(iJ<|fS (fR 2) (fC 2) (fS (fR 3) (fC 3) (fS (fR 4) (fC 4) iK fN)<|fH (fC 4) fN)<|fH (fC 3)<|fH (fC 4) fN),(ib<|fH (fC 2)<|fH (fC 3)<|fH (fC 4) fN)⟩)
  (fG (qS 5 gM.nd<|iY (pH fE.cl fE.sU<|dv 0)<|dv 4)
  (fP<|f9<|GV false (qL (N:=["number","old","row","age","first","end"]) (js:=[none,none,none,some 2,some 3,some 5]) gM<|by decide +kernel) (iJ<|fS (fR 0) (fC 0) (fS (iJ<|fS (fR 1) (fC 1) (fS (fR 2) (fC 2) iK fN)<|fH (fC 2) fN) (ib<|fH (fC 1)<|fH (fC 2) fN) iK fN)<|fH (ib<|fH (fC 1)<|fH (fC 2) fN) fN) (ib<|fH (fC 0)<|fH (ib<|fH (fC 1)<|fH (fC 2) fN) fN) (AE rfl T.enumerate<|a1<|pH fE.cl fE.K8<|dv 0) (λ_ _ _ nd=>(gQ (n:=2) rfl (fJ (qN 0 nd)<|fJ (gQ (n:=2) rfl (fJ (qN 1 nd)<|fJ (qN 2 nd) gw)) gw))) (λ_ _ _=>(rD<|PW.pt<|sE (Kn (dv 1)<|dv 3)<|oS<|Y1 (iY (dv 2)<|dv 4)<|dv 5)) λ_ _ _=>(dv 0)))),λds μ Kd h=>?_⟩
 unfold A4 at h;split at h
 .rename_i k s;refine⟨rfl,λhm hl=>?_⟩;obtain⟨es,ts,A,j,a,i,b,B,rfl,kk⟩:=h;have Iv:=B.Iv;have hb:=B.hb;have oN:=B.hl;have CF:=B.ht;have eb:(es.map D.int)[b]?=some (.int<|es.getD b 0):=by rw[mS,getD_some hb];rfl
  refine⟨rfl,_,vB B.at_ zw,fF (kM eb) ?_⟩;refine⟨_,vB B.at_ P0,?_⟩;refine⟨by rw[mY,gP];exact sz<|by lia,?_⟩;rw[E7,gP];refine qI trivial _ (λx=>if(match ts[x]? with|some t=>decide (t.2<=(a:Int))&&decide (es.getD b 0<=iS es t.1 (es.getD i 0))|none=>false)=true then some (D.int (x:Nat))else none) (λx hx K' k'=>?_) ?_
  .rw[cc]at hx;obtain⟨t,et⟩:∃ t,ts[x]?=some t:=⟨_,iD hx⟩;rw[J4 et];rw[et]at k';dsimp only at k';refine⟨rfl,rfl,?_⟩;refine jV (c:=t.2<=(a:Int)) (λq=>?_) (λq=>?_)
   .have er:((sL es t).map D.int)[i]?=some (.int<|iS es t.1<|es.getD i 0):=by unfold sL;rw[mS,mS,getD_some (by lia)];rfl
    refine fF (kM er) ?_
    refine jV (c:=es.getD b 0<=iS es t.1 (es.getD i 0)) (λq2=>?_) (λq2=>?_)
    .rw[aE (by rw[aI q,aI q2];rfl)]at k';exact k'
    .rw[aF (by rw[aO q2,eS];exact aM)]at k';exact k'
   .rw[aF (by rw[aO q];exact aM)]at k';exact k'
  .rw[GA];exact .keep kk
 .cases h
def qQ (F:jW K "halves" "BestMakes.halves" ij f fd)(T:lA mg)(fE:ja K fL):gD P w K mg fB kl 1 f fd (pA ij) (iB<|A0 fL):=by
 refine oA F g9 ⟨_,λhr=>(fG (J0 (dv 1) ⟨(gQ (n:=3) rfl (fJ (qN 2 g9.nd)<|fJ (qN 3 g9.nd)<|fJ (qN 4 g9.nd) gw)),(iJ<|fS (fR 2) (fC 2) (fS (fR 3) (fC 3) (fS (fR 4) (fC 4) iK fN)<|fH (fC 4) fN)<|fH (fC 3)<|fH (fC 4) fN),(ib<|fH (fC 2)<|fH (fC 3)<|fH (fC 4) fN)⟩)
  (fG (qS 5 g9.nd<|iY (iY (xI (qj hr) (pH fE.cl fE.sT<|dv 0) (dv 2) λ_ _=>rfl)<|dv 3)<|dv 4)
  (fG (qS 6 g9.nd<|xI (qj hr) (pH fE.cl fE.sT<|dv 0) (Bb (dv 2) fM) λ_ _=>rfl)
  (fP<|f9<|Bc false (qL (N:=["middle","self","age","first","behind","before","many"]) (js:=[none,some 0,some 2,some 3,some 4,some 6,some 5]) g9<|by decide +kernel) (tx rfl T.range<|a2 (oP (dv 3) fM)<|dv 4) (λ_ _ _ nd=>(qN 0 nd)) (λ_ _ _=>(rD<|Nw (oP (oP (iY (iY (dv 5)<|dv 3)<|dv 0)<|iY (iY (dv 5)<|dv 0)<|dv 4) fM)<|dv 6)) λ_ _ _=>(nq<|a3 (iY (pH fE.cl fE.sU<|dv 1)<|dv 0) (nq<|a3 (Bb (dv 2) fM) (dv 3)<|dv 0)<|nq<|a3 (Bb (dv 2) fM) (dv 0)<|dv 4))))),λds μ Kd h=>?_⟩
 unfold A0 at h;split at h
 .rename_i k s;refine⟨rfl,λhm hl=>?_⟩;obtain⟨es,ts,A,j,a,i,b,B,rfl,h1,kk⟩:=h;have Iv:=B.Iv;have hb:=B.hb;have ha:=B.ha;have oN:=B.hl;obtain⟨a',rfl⟩:∃ a',a=a'+1:=⟨a - 1,by lia⟩;refine⟨rfl,_,vB B.at_ uP,fF (zS ha)<|fF (zV<|by lia)<|fF (Af hb) ?_⟩;have ek:qW ((mI<|A+1).zip<|nH es ts<|A+1) (.inl<|((a'+1:Nat):Int) - 1)=some (.lst<|kQ es.length<|fQ es ts<|a'+1):=by rw[show((a'+1:Nat):Int) - 1=(a':Int) by lia];exact zS (by lia)
  refine⟨_,vB B.at_ uP,fF ek ?_⟩;refine⟨⟨by lia,by lia,by lia,by lia⟩,?_⟩;refine⟨by unfold ky;rw[gP,pF];exact sz<|by lia,?_⟩;rw[Oh];refine qI trivial _ (λx=>if decide (fQ es ts (a'+1) i (i+1+x)+fQ es ts (a'+1) (i+1+x) b+1=fQ es ts (a'+1+1) i b)=true then some (Gw es (a'+1) i b<|i+1+x)else none) (λx hx K' k'=>?_) ?_
  .rw[cc]at hx;have hx1:i+1+x<b:=by lia
   rw[show(i:Int)+1+(x:Nat)=((i+1+x:Nat):Int) by lia];generalize i+1+x=m at hx1 k' ⊢
   refine fF (zV<|by lia) (fF (Af<|by lia)<|fF (zV<|by lia)<|fF (Af hb) ?_);refine oC (λq=>?_) (λq=>?_)
   .rw[aE (aI q)]at k';have ep:(es.map D.int)[m]?=some (.int<|es.getD m 0):=by rw[mS,getD_some (by lia)];rfl
    refine⟨_,vB B.at_ zw,fF (kM ep) ⟨zs,zs,zs,?_⟩⟩;exact k'
   .rw[aF (by rw[aO q];exact aM)]at k';exact k'
  .rw[GA];rw[Et,aQ]at kk;rw[show((b:Int) - ((i:Int)+1)).toNat=b - (i+1) by lia];exact .keep kk
 .cases h
def pR (F:jW K "__init__" "BestMakes.__init__" gW f fd)(T:lA mg)(fE:ja K fL)(kZ:px P w K mg fB)(ki:mB P w K mg fB)(qw:qr P w K mg fB)(lK:mV P w K mg fB):gD P w K mg fB kl 5 f fd (pA gW) (iB<|L7 fL):=by
 refine oA F lM ⟨_,λhr=>(fG (B4 fE.cl fE.sU (qC kZ hr<|a2 (dv 1)<|dv 2)<|dv 0)
  (fG (B4 fE.cl fE.K8 (qC ki hr<|a3 (dv 1) (dv 2)<|dv 3)<|dv 0)
  (fG (qS 4 lM.nd<|qC qw hr<|a3 (dv 1) (dv 2)<|dv 3)
  (fG (B4 fE.cl fE.sT (qC lK hr<|fK (dv 1)<|fK (dv 2)<|fK (dv 3)<|fK (dv 4) iL)<|dv 0)
  (fG (B4 fE.cl fE.Ar (nq<|a3 (dv 4) fM<|Bb (sA T<|pH fE.cl fE.sU<|dv 0) fM)<|dv 0)
  (fP<|B4 fE.cl fE.sV PB<|dv 0)))))),λds μ Kd h=>?_⟩
 unfold L7 at h;split at h
 .rename_i k n x y;refine⟨rfl,λhm hl=>?_⟩;obtain⟨cs,ts,rfl,rfl,S,CH,hb,hk,kk⟩:=h;have lL:=S.lL;have X9:k<μ.length:=(kB hk).1;have at_:∀ {m:MO},(μ.set k m)[k]?=some m:=aW X9;have nv:(fw n cs).length=cs.length+2:=fU n cs;obtain⟨es,he⟩:∃ es,es=fw n cs:=⟨_,rfl⟩;refine⟨cs,rfl,lL,_,(["places"],[.lst (es.map D.int)]),o9 hk,by rw[<- he];kernel_rfl,by decide,?_⟩;refine⟨cs,ts,rfl,rfl,S,_,(["places","rows"],[.lst (es.map D.int),.lst (ts.map<|jk es)]),o9 at_,by rw[<- he];kernel_rfl,by show 1<1000;decide,?_⟩;rw[cm];refine⟨cs,ts,rfl,rfl,S,CH,?_⟩;unfold rR;rw[hb];intro a ha la;refine⟨cs,ts,rfl,rfl,S,by lia,by lia,_,(["places","rows","tables"],[.lst (es.map D.int),.lst (ts.map<|jk es),.jS (mI<|a+1) (nH es ts<|a+1)]),o9 at_,by rw[<- he];kernel_rfl,by show 2<1000;decide,?_⟩;rw[cm];refine⟨_,vB at_ (d:=.lst<|es.map D.int)<|by kernel_rfl,fF rfl ⟨zs,?_⟩⟩;have el:((es.map D.int).length:Int) - 1=((es.length - 1:Nat):Int):=by rw[gP,he];lia
  refine⟨_,(["places","rows","tables","whole"],[.lst (es.map D.int),.lst (ts.map<|jk es),.jS (mI<|a+1) (nH es ts<|a+1),vt a 0 (es.length - 1)]),o9 at_,by show putN "whole" (.tup [.int a,.int 0,.int (((es.map D.int).length:Int) - 1)]) _ _=_;rw[el];kernel_rfl,by show 3<1000;decide,?_⟩;rw[cm];have at2:∀ {m m':MO},(μ.set k m++[m'])[k]?=some m:=λ{m m'}=>by rw[vd (by rw[ck];exact X9)];exact at_
  refine⟨_,(Ff,IV es ts a μ.length),o9 at2,by rw[ck];kernel_rfl,by show 4<1000;decide,.keep ?_⟩;have kk:=kk a ha<|he▸la;rw[List.set_append_left _ _ (by rw[ck];exact X9),cm,he];exact kk
 .cases h
def oz {f:ao}{fd:aj}(F:jW K "count_anew" "BestMakes.count_anew" gI f fd)(T:lA mg)(fE:ja K fL){l n:Nat}(hl:1<=l)(gE:iZ P w K mg fB)(gq:iw P w K mg fB)(gJ:i9 P w K mg fB)(gu:xW P w K mg fB fL "counted" l ["self","stretch"] (iB<|uJ fL n)):gD P w K mg fB kl (l+1) f fd ["self","stretch"] (iB<|uJ fL<|n+1):=by
 refine F.SJ gT (λds μ Kd h=>by unfold uJ at h;split at h <;> first | rfl | exact h.elim) (λlj A fY s H E hr=>⟨_,(fG (ji (ic<|kE gE fE.cl hr.le (dv 0)<|a1<|dv 1)
  (fP<|f9<|sA T<|kE gq fE.cl hr.le (dv 0)<|a1<|dv 1)
  hZ)
  (fG (qS 2 gT.nd fM)
  (fG (k8 ba rfl (jc<|kE gJ fE.cl hr.le (dv 0)<|a1<|dv 1) ⟨(gQ (n:=3) rfl (fJ (qN 3 gT.nd)<|fJ (qN 4 gT.nd)<|fJ (qN 5 gT.nd) gw)),(iJ<|fS (fR 3) (fC 3) (fS (fR 4) (fC 4) (fS (fR 5) (fC 5) iK fN)<|fH (fC 5) fN)<|fH (fC 4)<|fH (fC 5) fN),(ib<|fH (fC 3)<|fH (fC 4)<|fH (fC 5) fN)⟩
  (fP<|B5 (i:=2) gT.nd rfl lo (rX SN zZ (kE gu fE.cl hr.le (dv 0)<|a1<|dv 4)<|kE gu fE.cl hr.le (dv 0)<|a1<|dv 5) tu wA))
  (fP<|f9<|dv 2)))),λds μ Kd hm hl h=>?_⟩)
 unfold uJ at h;split at h
 .rename_i k s;obtain⟨es,ts,A,j,a,i,b,ks,dd,B,rfl,han,h1,DP,hj,mm,kk⟩:=h;have Iv:=B.Iv;have hb:=B.hb;have ha:=B.ha;have oN:=B.hl;have CF:=B.ht;have hA:=B.hA;have iH:=B.ok;refine⟨qR B.at_<|qY<|by simp,es,ts,A,j,a,i,b,B,rfl,?_⟩;refine jV (c:=fQ es ts (a+1) i b=0) (λq=>?_) (λq=>?_)
  .refine⟨qR B.at_<|qY<|by simp,es,ts,A,j,a,i,b,B,rfl,fF rfl (.keep ?_)⟩;have kk:=kk ks dd mm;rw[m5 hj]at kk;unfold j0 at kk;rw[aE q]at kk;rw[gP];exact kk
  .have Ws:a≠0:=λz=>by subst z;exact q (h1.z i b (by lia) hb iH)
   obtain⟨a',rfl⟩:∃ a',a=a'+1:=⟨a - 1,by lia⟩
   refine⟨qR B.at_<|qY<|by simp,es,ts,A,j,a'+1,i,b,B,rfl,by lia,?_⟩
   rw[Gv]
   obtain⟨M,hM⟩:∃ M,M=o7 (fQ es ts<|a'+1+1) (fQ es ts<|a'+1) i b:=⟨_,rfl⟩
   rw[<- hM]
   obtain⟨g,hg⟩:∃ g:Nat->Int,g=λx=>j0 es ts (a'+1) i x*j0 es ts (a'+1) x b:=⟨_,rfl⟩
   have X5:∀ x∈M,i<x/\x<b/\fQ es ts (a'+1) i x+fQ es ts (a'+1) x b+1=fQ es ts (a'+1+1) i b:=λx hx=>jY.mp (hM▸hx)
   refine fF rfl ?_
   refine iO (λds ρ fZ=>∃(z:Nat) (oi:au (au Key)) (oO:au D) (u v w:av D),ds=(M.drop z).map (λk=>D.tup [.int (es.getD k 0),vt a' i k,vt a' k b])/\Memo es ts A oi oO/\ρ=[some (.mr k),some (vt ((a'+1:Nat):Int) i b),some (.int ((M.take z).map g).sum),u,v,w]/\fZ=μ.set j (.nA oi oO)) ⟨0,ks,dd,none,none,none,rfl,mm,rfl,(m5 hj).symm⟩ ?_ ?_
   .rintro d sy ρ fZ ⟨z,oi,oO,u,v,w,e,UJ,rfl,rfl⟩;refine⟨trivial,λnx pD=>?_⟩;have hz:z<M.length:=by
     by_cases y:z<M.length
     .exact y
     .rw[bM (by lia)]at e;cases e
    rw[bL hz,aB,fo]at e;obtain⟨rfl,rfl⟩:=e;obtain⟨x1,x2,x3⟩:=X5 _<|bJ hz;have U2:=BU (f:=g) hz;generalize M[z]=x at x1 x2 x3 U2 ⊢
    have n1:=h1.nn (a'+1) i x (by lia) (by lia);have n2:=h1.nn (a'+1) x b (by lia) hb;have Gr:j<μ.length:=(kB hj).1;have B':=B.put (m:=.nA oi oO) DP;have Bl:Bm fL (μ.set j<|.nA oi oO) k es ts A j a' i x:=⟨B'.at_,by lia,x1,by lia,oN,CF,hA,by lia⟩;refine⟨rfl,qR B'.at_<|qY<|by simp,es,ts,A,j,a',i,x,oi,oO,Bl,rfl,by lia,h1,DP,aW Gr,UJ,λNy IE UI=>?_⟩;rw[cm];have B2:=B.put (m:=.nA Ny IE) DP;have Br:Bm fL (μ.set j<|.nA Ny IE) k es ts A j a' x b:=⟨B2.at_,by lia,x2,hb,oN,CF,hA,by lia⟩;refine⟨qR B2.at_<|qY<|by simp,es,ts,A,j,a',x,b,Ny,IE,Br,rfl,by lia,h1,DP,aW Gr,UI,λV2 WQ X2=>?_⟩;rw[cm];refine⟨Fc oN CF (a'+1) i x b x1 x2 hb,?_⟩;refine pD _ _ ⟨z+1,V2,WQ,some<|.int<|es.getD x 0,some<|vt a' i x,some<|vt a' x b,rfl,X2,?_,rfl⟩;rw[U2,hg];rfl
   .rintro ρ fZ ⟨z,oi,oO,u,v,w,e,UJ,rfl,rfl⟩;refine⟨trivial,?_⟩;have hz:M.length<=z:=by have:=cD List.length e;rw[gP,bG]at this;simp at this;lia
    rw[bU hz];have kk:=kk oi oO UJ;unfold j0 at kk;rw[aF q,<- hM]at kk;rw[hg];exact .keep kk
 .cases h
def mn {f:ao}{fd:aj}(F:jW K "counted" "BestMakes.counted" hU f fd)(T:lA mg)(fE:ja K fL){l n:Nat}(pC:xW P w K mg fB fL "count_anew" l ["self","stretch"] (iB<|uJ fL n)):gD P w K mg fB kl (l+1) f fd ["self","stretch"] (iB<|uJ fL n):=by
 refine F.SJ p8 (λds μ Kd h=>by unfold uJ at h;split at h <;> first | rfl | exact h.elim) (λlj A fY s H E hr=>⟨_,(Hb (ji (JN (qj hr) (dv 1) (pH fE.cl fE.sV<|dv 0)<|by with_unfolding_all rfl)
  (fP<|R6 (qj hr) (kE pC fE.cl hr.le (dv 0)<|a1<|dv 1) (pH fE.cl fE.sV<|dv 0)<|dv 1)
  hZ)
  (fP<|f9<|WT (qj hr) (pH fE.cl fE.sV<|dv 0) (dv 1) λ_ _=>rfl)),λds μ Kd hm hl h=>?_⟩)
 unfold uJ at h;split at h
 .rename_i k s;obtain⟨es,ts,A,j,a,i,b,ks,dd,B,rfl,han,h1,DP,hj,mm,kk⟩:=h;have ha:=B.ha;have Iv:=B.Iv;have hb:=B.hb;have oN:=B.hl;have hA:=B.hA;have Gr:j<μ.length:=(kB hj).1;have bd:∀ {oi:au (au Key)} {oO:au D},Memo es ts A oi oO->oi.length<sizeLine:=λm=>by have h2:=m.bd;have h3:(A+1)*es.length*es.length<=101*100*100:=Nat.mul_le_mul (Nat.mul_le_mul (by lia) oN) oN;exact cj (aV h2 h3) (by decide)
  have fin:∀ {oi:au (au Key)} {oO:au D},Memo es ts A oi oO->stK a i b∈oi->WV (vZ W0 (W7 fL "counts"<|vC 0)<|vC 1) (HG μ.length Kd) [some (.mr k),some (vt a i b)] (μ.set j<|.nA oi oO):=λ{oi oO} m xf=>by
   have B':=B.put (m:=.nA oi oO) DP;rcases m.get a i b with⟨z,_⟩|⟨_,z⟩
   .exact absurd xf z
   .refine⟨_,vB B'.at_ uQ,_,?_,.keep<|kk oi oO m⟩;unfold UL Mq;rw[aW Gr];exact cD some z
  refine⟨λkO fZ=>∃ oi oO,Memo es ts A oi oO/\stK a i b∈oi/\kO=[some (.mr k),some (vt a i b)]/\fZ=μ.set j (.nA oi oO),?_,?_⟩
  .have ei:UL μ j (vt a i b)=some (sD ks dd<|stK a i b):=by unfold UL Mq;rw[hj];rfl
   refine⟨_,vB B.at_ uQ,_,ei,?_⟩
   rcases mm.get a i b with⟨z1,z2⟩|⟨z1,z2⟩
   .rw[z2];refine Zi ?_;refine⟨qR B.at_<|qY<|by simp,es,ts,A,j,a,i,b,ks,dd,B,rfl,han,h1,DP,hj,mm,λNy IE UI=>?_⟩;have B2:=B.put (m:=.nA Ny IE) DP;refine⟨_,vB B2.at_ uQ,Ny,IE,stK a i b,aW Gr,bd UI,rfl,?_⟩;rw[cm];obtain⟨m1,m2⟩:=UI.put (i:=i) ha (by lia) hb;exact⟨_,_,m1,m2,rfl,rfl⟩
   .rw[z2];refine Zj ?_;exact⟨ks,dd,mm,z1,rfl,(m5 hj).symm⟩
  .rintro kO fZ ⟨oi,oO,m,xf,rfl,rfl⟩;exact fin m xf
 .cases h
theorem yX {f1 f2:ao}{Pm Yj:aj}(F1:jW K "counted" "BestMakes.counted" hU f1 Pm)(F2:jW K "count_anew" "BestMakes.count_anew" gI f2 Yj)(T:lA mg)(fE:ja K fL)(m1:Meth K fL "counted" f1)(m2:Meth K fL "count_anew" f2)(b1:Binds K Pm ["self","stretch"] [])(b2:Binds K Yj ["self","stretch"] [])(gE:iZ P w K mg fB)(gq:iw P w K mg fB)(gJ:i9 P w K mg fB):∀ n,gD P w K mg fB kl (2*n+2) f1 Pm ["self","stretch"] (iB<|uJ fL n)
 |0=>mn F1 T fE (l:=1) ⟨f2,Yj,.never IB,m2,b2⟩
 |n+1=>mn F1 T fE (l:=2*n+3) ⟨f2,Yj,oz F2 T fE (by lia) gE gq gJ ⟨f1,Pm,yX F1 F2 T fE m1 m2 b1 b2 gE gq gJ n,m1,b1⟩,m2,b2⟩
def pQ {f:ao}{fd:aj}(F:jW K "numbered" "BestMakes.numbered" gU f fd)(T:lA mg)(fE:ja K fL){l n:Nat}(hl:144<=l)(hn:n<=70)(gE:iZ P w K mg fB)(gq:iw P w K mg fB)(gJ:i9 P w K mg fB)(gu:jA P w K mg fB)(jt:xW P w K mg fB fL "numbered" l ["self","stretch","number"] (iB<|vg fL n)):gD P w K mg fB kl (l+1) f fd ["self","stretch","number"] (iB<|vg fL<|n+1):=by
 refine F.SJ gN (λds μ Kd h=>by unfold vg at h;split at h <;> first | rfl | exact h.elim) (λlj A fY s H E hr=>⟨_,(fG (ji (ic<|kE gE fE.cl hr.le (dv 0)<|a1<|dv 1)
  (fP<|f9<|iY (kE gq fE.cl hr.le (dv 0)<|a1<|dv 1)<|dv 2)
  hZ)
  (fG (qS 3 gN.nd<|dv 2)
  (fP (k8 ba rfl (jc<|kE gJ fE.cl hr.le (dv 0)<|a1<|dv 1) ⟨(gQ (n:=3) rfl (fJ (qN 4 gN.nd)<|fJ (qN 5 gN.nd)<|fJ (qN 6 gN.nd) gw)),(iJ<|fS (fR 4) (fC 4) (fS (fR 5) (fC 5) (fS (fR 6) (fC 6) iK fN)<|fH (fC 6) fN)<|fH (fC 5)<|fH (fC 6) fN),(ib<|fH (fC 4)<|fH (fC 5)<|fH (fC 6) fN)⟩
  (fG (qS 7 gN.nd<|kE gu fE.cl hr.le (dv 0)<|a1<|dv 6)
  (fG (ji (Nv (dv 3)<|rX SN zZ (kE gu fE.cl hr.le (dv 0)<|a1<|dv 5)<|dv 7)
  (fP<|f9<|nq<|a3 (dv 4) (kE jt fE.cl hr.le (dv 0)<|a2 (dv 5)<|rX KP N9 (dv 3)<|dv 7)<|kE jt fE.cl hr.le (dv 0)<|a2 (dv 6)<|rX Ct Vp (dv 3)<|dv 7)
  hZ)
  (fP<|B5 (i:=3) gN.nd rfl lo (rX SN zZ (kE gu fE.cl hr.le (dv 0)<|a1<|dv 5)<|dv 7) Pb wA))))))),λds μ Kd hm hl h=>?_⟩)
 unfold vg at h;split at h
 .rename_i k s r;obtain⟨es,ts,A,j,a,i,b,ks,dd,B,rfl,han,h1,DP,hj,mm,r0,r1,kk⟩:=h;have Iv:=B.Iv;have hb:=B.hb;have ha:=B.ha;have oN:=B.hl;have CF:=B.ht;have hA:=B.hA;have iH:=B.ok;refine⟨qR B.at_<|qY<|by simp,es,ts,A,j,a,i,b,B,rfl,?_⟩;refine jV (c:=fQ es ts (a+1) i b=0) (λq=>?_) (λq=>?_)
  .refine⟨qR B.at_<|qY<|by simp,es,ts,A,j,a,i,b,B,rfl,?_⟩;have kk:=kk ks dd mm;rw[m5 hj]at kk;unfold j0 at r1;rw[aE q]at r1;unfold G7 at kk;rw[aE q]at kk;have e1:(vw es ts a i b)[r.toNat]?=some ((vw es ts a i b).getD r.toNat 0):=by rw[aA,iD (by lia)];rfl
   have e2:kr ((vw es ts a i b).map λx=>D.int (x:Nat)) r=some (.int ((vw es ts a i b).getD r.toNat 0:Nat)):=by have:=xS (g:=λx:Nat=>D.int (x:Nat)) e1;rwa [cw r0]at this
   exact fF e2 (.keep kk)
  .have Ws:a≠0:=λz=>by subst z;exact q (h1.z i b (by lia) hb iH)
   obtain⟨a',rfl⟩:∃ a',a=a'+1:=⟨a - 1,by lia⟩
   refine⟨qR B.at_<|qY<|by simp,es,ts,A,j,a'+1,i,b,B,rfl,by lia,?_⟩
   rw[Gv]
   obtain⟨M,hM⟩:∃ M,M=o7 (fQ es ts<|a'+1+1) (fQ es ts<|a'+1) i b:=⟨_,rfl⟩
   rw[<- hM]
   obtain⟨g,hg⟩:∃ g:Nat->Int,g=λx=>j0 es ts (a'+1) i x*j0 es ts (a'+1) x b:=⟨_,rfl⟩
   have X5:∀ x∈M,i<x/\x<b/\fQ es ts (a'+1) i x+fQ es ts (a'+1) x b+1=fQ es ts (a'+1+1) i b:=λx hx=>jY.mp (hM▸hx)
   have gnn:∀ x∈M,0<=g x:=λx hx=>by have:=X5 x hx;rw[hg];exact Int.mul_nonneg (pI oN CF (a'+1) i x this.1<|by lia).1 (pI oN CF (a'+1) x b this.2.1 hb).1
   unfold j0 at r1
   rw[aF q,<- hM,<- hg]at r1
   unfold G7 at kk
   rw[aF q,<- hM,<- hg]at kk
   refine fF rfl ?_
   refine iO (λds ρ fZ=>∃(z:Nat) (oi:au (au Key)) (oO:au D) (u v w m:av D),ds=(M.drop z).map (λk=>D.tup [.int (es.getD k 0),vt a' i k,vt a' k b])/\Memo es ts A oi oO/\0<=r - ((M.take z).map g).sum/\ρ=[some (.mr k),some (vt ((a'+1:Nat):Int) i b),some (.int r),some (.int<|r - ((M.take z).map g).sum),u,v,w,m]/\fZ=μ.set j (.nA oi oO)) ⟨0,ks,dd,none,none,none,none,rfl,mm,by simpa using r0,by simp;rfl,(m5 hj).symm⟩ ?_ ?_
   .rintro d sy ρ fZ ⟨z,oi,oO,u,v,w,m,e,UJ,rn,rfl,rfl⟩;refine⟨trivial,λnx pD=>?_⟩;have hz:z<M.length:=by
     by_cases y:z<M.length
     .exact y
     .rw[bM (by lia)]at e;cases e
    rw[bL hz,aB,fo]at e;obtain⟨rfl,rfl⟩:=e;obtain⟨x1,x2,x3⟩:=X5 _<|bJ hz;have U2:=BU (f:=g) hz;have ez:M[z]?=some M[z]:=iD hz;generalize M[z]=x at x1 x2 x3 U2 ez ⊢
    have n1:=h1.nn (a'+1) i x (by lia) (by lia);have n2:=h1.nn (a'+1) x b (by lia) hb;have Gr:j<μ.length:=(kB hj).1;have Bl:∀ {ks:au (au Key)} {dd:au D},Bm fL (μ.set j<|.nA ks dd) k es ts A j a' i x:=λ{ks dd}=>⟨(B.put (m:=.nA ks dd) DP).at_,by lia,x1,by lia,oN,CF,hA,by lia⟩;have Br:∀ {ks:au (au Key)} {dd:au D},Bm fL (μ.set j<|.nA ks dd) k es ts A j a' x b:=λ{ks dd}=>⟨(B.put (m:=.nA ks dd) DP).at_,by lia,x2,hb,oN,CF,hA,by lia⟩;have at_:∀ {m:MO},(μ.set j m)[j]?=some m:=aW Gr;have c2:=pI oN CF (a'+1) x b x2 hb;refine⟨rfl,qR Br.at_<|qY<|by simp,es,ts,A,j,a',x,b,oi,oO,Br,rfl,by lia,h1,DP,at_,UJ,λNy IE UI=>?_⟩;rw[cm];refine⟨qR Bl.at_<|qY<|by simp,es,ts,A,j,a',i,x,Ny,IE,Bl,rfl,by lia,h1,DP,at_,UI,λV2 WQ X2=>?_⟩;rw[cm];refine⟨Fc oN CF (a'+1) i x b x1 x2 hb,?_⟩;obtain⟨v,hv⟩:∃ v,v=r - ((M.take z).map g).sum:=⟨_,rfl⟩;rw[<- hv]at rn ⊢
    have gx:g x=j0 es ts (a'+1) i x*j0 es ts (a'+1) x b:=by rw[hg]
    refine jV (c:=v<j0 es ts (a'+1) i x*j0 es ts (a'+1) x b) (λq2=>?_) (λq2=>?_)
    .have pos:0<j0 es ts (a'+1) x b:=by
      rcases Int.lt_or_eq_of_le c2.1 with y|y
      .exact y
      .rw[<- y,Int.mul_zero]at q2;lia
     have d1:0<=v / j0 es ts (a'+1) x b:=Int.ediv_nonneg rn c2.1
     have d2:v / j0 es ts (a'+1) x b<j0 es ts (a'+1) i x:=Int.ediv_lt_of_lt_mul pos q2
     have m1:=fv v (show j0 es ts (a'+1) x b≠0 by lia)
     have m2:=eh v pos
     have pk:=(Ah (f:=g) gnn ez rn (by rw[gx];exact q2)).1
     rw[show((M.take z).map g).sum+v=r by lia]at pk
     rw[pk]at kk
     dsimp only at kk
     refine⟨qR Bl.at_<|qY<|by simp,Ud oN CF x2 hb pos,es,ts,A,j,a',i,x,V2,WQ,Bl,rfl,by lia,h1,DP,at_,X2,d1,d2,λZd dd4 Y7=>?_⟩
     rw[cm]
     refine⟨qR Br.at_<|qY<|by simp,pos,es,ts,A,j,a',x,b,Zd,dd4,Br,rfl,by lia,h1,DP,at_,Y7,m1,m2,λks5 dd5 mm5=>?_⟩
     rw[cm]
     exact⟨zs,.keep<|kk ks5 dd5 mm5⟩
    .refine rY ?_;refine⟨qR Bl.at_<|qY<|by simp,es,ts,A,j,a',i,x,V2,WQ,Bl,rfl,by lia,h1,DP,at_,X2,λZd dd4 Y7=>?_⟩;rw[cm];refine⟨Fc oN CF (a'+1) i x b x1 x2 hb,?_⟩;refine pD _ _ ⟨z+1,Zd,dd4,some<|.int<|es.getD x 0,some<|vt a' i x,some<|vt a' x b,some<|.int<|j0 es ts (a'+1) x b,rfl,Y7,by rw[U2,gx];lia,?_,rfl⟩;rw[U2,gx,show r - (((M.take z).map g).sum+j0 es ts (a'+1) i x*j0 es ts (a'+1) x b)=v - j0 es ts (a'+1) i x*j0 es ts (a'+1) x b by lia];rfl
   .rintro ρ fZ ⟨z,oi,oO,u,v,w,m,e,UJ,rn,rfl,rfl⟩;exfalso;have hz:M.length<=z:=by have:=cD List.length e;rw[gP,bG]at this;simp at this;lia
    rw[bU hz]at rn;lia
 .cases h
theorem Ge {f1:ao}{Pm:aj}(F1:jW K "numbered" "BestMakes.numbered" gU f1 Pm)(T:lA mg)(fE:ja K fL)(m1:Meth K fL "numbered" f1)(b1:Binds K Pm ["self","stretch","number"] [])(gE:iZ P w K mg fB)(gq:iw P w K mg fB)(gJ:i9 P w K mg fB)(gu:jA P w K mg fB)   : ∀ n,n<=71->gD P w K mg fB kl (n+145) f1 Pm ["self","stretch","number"] (iB<|vg fL n)
 |0,_=>.never EV
 |n+1,h=>pQ F1 T fE (l:=n+145) (by lia) (by lia) gE gq gJ gu ⟨f1,Pm,Ge F1 T fE m1 b1 gE gq gJ gu n<|by lia,m1,b1⟩
def Eo (F:jW K "best_of" "best_of" lW f fd)(T:lA mg)(fE:ja K fL)(nU:OwnCls "BadNumber" l5 Yw "ValueError.__new__" mg fB)(qy:tU P w K mg fB)(qz:mD P w K mg fB)(gu:jA P w K mg fB)(jt:mC P w K mg fB):gD P w K mg fB (Jr P w) 217 f fd (pA lW) (Vn<|tL l5):=by
 refine F.okX wC (λds μ Kd Kx h=>CS h) (λlj A fY s H E hr lS Kb Z=>⟨_,(fG (ji (zW<|qC qy hr<|a3 (dv 0) (dv 1)<|dv 2)
  (fP<|FO Z rfl nU c9 (by decide) c9 rfl (a1 kC))
  hZ)
  (fG (qS 4 wC.nd<|T3 qz hr.le rfl (a3 (dv 0) (dv 1)<|dv 2))
  (fG (ji (PW.pt<|p4 (Nv (dv 3) fM)<|oq<|Y1 (dv 3)<|kE gu fE.cl hr.le (dv 4)<|a1<|pH fE.cl fE.Ar<|dv 4)
  (fP<|FO Z rfl nU c9 (by decide) c9 rfl (a1 kC))
  hZ)
  (fP<|f9<|kE jt fE.cl hr.le (dv 4)<|a2 (pH fE.cl fE.Ar<|dv 4)<|dv 3)))),λds μ m Kd Kx hm hl em h hK=>?_⟩)
 unfold tL at h;split at h
 .rename_i n x y r;obtain⟨_,cs,ts,rfl,rfl,S,CH,kk⟩:=h;have lL:=S.lL;have nv:(fw n cs).length=cs.length+2:=fU n cs;have ft:=S.takes.lL;obtain⟨ν,UN⟩:∃ ν,ν=μ.set 0 (.gx lS H):=⟨_,rfl⟩;have g0:ν[0]?=some (.gx lS H):=by rw[UN];exact CJ em
  have l0:0<ν.length:=(kB g0).1;rw[<- UN]at hm ⊢
  refine⟨cs,ts,rfl,rfl,lL,S.takes,S.n2,?_⟩;unfold MX at kk;cases hb:jT (fw n cs) ts with
  | some p =>rw[hb]at kk;exact⟨zs,by rw[UN];exact Wu hK em kk⟩
  | none =>
   rw[hb]at kk;dsimp only at kk;refine⟨cs,ts,rfl,rfl,S,CH,hb,by rw[qV (aw _),aZ];rfl,λa ha la=>⟨rfl,?_⟩⟩;have kk:=kk a ha la;obtain⟨es,he⟩:∃ es,es=fw n cs:=⟨_,rfl⟩;have tl:=yK S la;have sd:=(kH S (a+1) 0 (cs.length+1) (by lia)<|by lia).2 (by lia);have tb:=BR S;rw[<- he]at tl sd tb kk nv ⊢
   obtain⟨g,hg⟩:∃ g,g=(ν++[MO.ins fL [] []]).set ν.length (.ins fL Ff<|IV es ts a (ν++[MO.ins fL [] []]).length)++[.nA [] []]:=⟨_,rfl⟩;rw[<- hg];have G:=bmG hm hg;have B:∀ {ks:au (au Key)} {dd:au D},Bm fL (g.set (ν.length+1)<|.nA ks dd) ν.length es ts a (ν.length+1) a 0 (es.length - 1):=λ{ks dd}=>⟨G.e0 ks dd,aw _,by lia,by lia,by lia,by lia,by lia,by rw[show es.length - 1=cs.length+1 by lia];lia⟩;have bad:∀ {ks:au (au Key)} {dd:au D},Kx (.ref l5) μ->Kb (.ref l5) (g.set (ν.length+1)<|.nA ks dd):=λ{ks dd} kx=>by rw[hK,<- UN];refine .inr ⟨G.ol ks dd,?_⟩;rw[G.tk,UN];exact⟨CJ em,by rw[AI em];exact kx⟩
   rw[G.nw];refine jV (c:=r<0) (λq=>?_) (λq=>?_)
   .rw[aF (by lia)]at kk;exact⟨zs,G.z0 _ _ _ g0,bad kk⟩
   refine⟨qR B.at_<|qY<|by simp,_,vB B.at_ Dl,es,ts,a,ν.length+1,a,0,es.length - 1,[],[],B,rfl,by lia,tb,by lia,G.e1 _ _,.nil,λNy IE m2=>?_⟩;rw[cm];refine jV (c:=j0 es ts (a+1) 0 (es.length - 1)<=r) (λq2=>?_) (λq2=>?_)
   .rw[aF (by lia)]at kk;exact⟨zs,G.z0 _ _ _ g0,bad kk⟩
   rw[aE (by lia)]at kk;refine⟨qR B.at_<|qY<|by simp,_,vB B.at_ Dl,es,ts,a,ν.length+1,a,0,es.length - 1,Ny,IE,B,rfl,by lia,tb,by lia,G.e1 _ _,m2,by lia,by lia,λV2 WQ m3=>?_⟩;rw[cm];refine .drop (Es _) (G.ol _ _) ?_;rw[G.tk,UN];exact Ww em kk
 .cases h
def KW (F:jW K "go_on" "go_on" o3 f fd)(T:lA mg)  : gD P w K mg fB kl 1 f fd (pA o3) (iB L9):=by
 refine oA F BZ ⟨_,λhr=>(fG (Ae ba (PW.pt<|sE (Nv (oP (dv 1) fM)<|sA T<|dv 0)<|oS<|Kn (iY (dv 0)<|oP (dv 1) fM)<|dv 2)
  (fP<|B5 (i:=1) BZ.nd rfl lo fM tu wA))
  (fP<|f9<|dv 1)),λds μ Kd h=>?_⟩
 unfold L9 at h;split at h
 .rename_i r b q;refine⟨rfl,λhm hl=>?_⟩;obtain⟨L,f,c,rfl,hL,rfl,hc,mono,hq,kk⟩:=h;have mQ:((jU L f).length:Int)=(L:Int):=by rw[sM]
  refine⟨λm' ρ fZ=>∃ d:Nat,m'=L - d/\d<L/\f d<=q/\ρ=[some (.lst<|jU L f),some (.int (d:Int)),some (.int q)]/\fZ=μ,⟨_,c,rfl,hc,hq,rfl,rfl⟩,?_⟩;rintro m' ρ fZ ⟨d,rfl,hd,hf,rfl,rfl⟩;refine jV (c:=(d:Int)+1<((jU L f).length:Nat)) (λz=>?_) (λz=>?_)
  .rw[mQ]at z;have e:kr (jU L f) ((d:Int)+1)=some (.int<|f<|d+1):=kM (j:=d+1) (ni<|by lia);refine fF e ?_;refine jV (c:=f (d+1)<=q) (λw=>?_) (λw=>?_)
   .exact⟨L - (d+1),by lia,d+1,rfl,by lia,w,rfl,rfl⟩
   .rw[EO hd hf λx x1 x2 y=>w<|bu (mono _ _ x1 x2) y]at kk;exact .keep kk
  .rw[mQ]at z;rw[EO hd hf λx x1 x2=>absurd x2<|by lia]at kk;exact .keep kk
 .cases h
def KZ (F:jW K "_law_above" "_law_above" o5 f fd)(T:lA mg)  : gD P w K mg fB kl 1 f fd (pA o5) (iB A7):=by
 refine oA F B3 ⟨_,λhr=>(fG (k8 ba rfl (gY rfl T.range<|a1<|sA T<|dv 0) (qT 4 B3.nd)
  (fP (ji (Nv (iY (dv 1)<|dv 4)<|iY (dv 3)<|xH cn eE PySem.F.type_list_index LA BV (dv 0)<|a1<|iY (dv 2)<|dv 4)
  (fP<|f9 nG)
  hZ)))
  (fP<|f9 nG)),λds μ Kd h=>?_⟩
 unfold A7 at h;split at h
 .rename_i b x y z;refine⟨rfl,λhm hl=>?_⟩;obtain⟨es,row,fi,se,rfl,nv,nd,ex,ey,ez,XY,XX,ok3,ab,kk⟩:=h;have mQ:((es.map D.int).length:Int)=(es.length:Nat):=by rw[gP]
  refine⟨by lia,by lia,?_⟩;refine tJ es.length mQ (AbO (some<|.lst<|es.map D.int) (some<|.mr x) (some<|.mr y) (some<|.mr z) es.length μ) (.mk 0 es.length none rfl (dw _)) ?_ ?_
  .intro d sy ρ fZ hI;cases hI with|mk k c u e Ir=>?_;refine⟨trivial,λnx pD=>?_⟩;cases c with
   |zero=>cases e
   | succ c =>rw[h9]at e;cases e;obtain⟨p,hp⟩:∃ p,row[k]?=some p:=⟨_,iD (by rw[XY.len];lia)⟩;obtain⟨m,Wf⟩:∃ m,fi[k]?=some m:=⟨_,iD (by rw[XX.len];lia)⟩;have Jn:=XX.mem m<|kq Wf;have a1:kr (row.map D.int) (k:Int)=some (.int p):=gR hp;have a2:kr (fi.map D.int) (k:Int)=some (.int m):=gR Wf;have a3:kr (se.map D.int) ((es.idxOf m:Nat):Int)=some (.int<|rowAt es se m):=gR<|ka ok3 Jn;refine fF ex<|fF a1 ⟨rfl,?_⟩;refine fF ey<|fF a2 ⟨es,es.idxOf m,rfl,l8 Jn,ze nd Jn,?_⟩;refine fF ez<|fF a3 ?_;exact jV (c:=p<rowAt es se m) (λlt=>absurd lt<|Int.not_lt.mpr<|ab k p m hp Wf) (λ_=>pD _ _<|.mk (k+1) c _ rfl (by lia))
  .intro ρ fZ hI;cases hI with|mk k c u e Ir=>?_;exact⟨trivial,.keep kk⟩
 .cases h
def Ci (F:jW K "_law_row_good" "_law_row_good" kT f fd)(T:lA mg)  : gD P w K mg fB kl 1 f fd (pA kT) (iB L5):=by
 refine oA F k7 ⟨_,λhr=>(fG (ji (PW.pt<|p4 (m4<|ic<|qo (T := "list") (by simp) (by rfl) T.isinstance (by rfl) T.list bh<|dv 3)<|oq<|QT (sA T<|dv 3)<|sA T<|dv 0)
  (fP<|f9 nG)
  hZ)
  (fG (qS 4 k7.nd fM)
  (fG (k8 ba rfl (gY rfl T.range<|a1<|sA T<|dv 3) (qT 5 k7.nd)
  (fG (ji (PW.pt<|p4 (ic<|qo (T:= "bool") (by simp) (by rfl) T.isinstance (by rfl) T.bool cF<|iY (dv 3)<|dv 5)<|oq<|l9 K3 FJ (iY (dv 3)<|dv 5) (dv 0)<|by with_unfolding_all rfl)
  (fP<|f9 nG)
  hZ)
  (fG (ji (Nv (iY (dv 3)<|dv 5)<|lR (Lc rfl) wz (by rfl) T.max bP<|a2 (iY (dv 0)<|dv 5)<|dv 4)
  (fP<|f9 nG)
  hZ)
  (fG (qS 4 k7.nd<|iY (dv 3)<|dv 5)
  (fP (k8 ba rfl (jc<|dv 1) ⟨(gQ (n:=2) rfl (fJ (qN 6 k7.nd)<|fJ (qN 7 k7.nd) gw)),(iJ<|fS (fR 6) (fC 6) (fS (fR 7) (fC 7) iK fN)<|fH (fC 7) fN),(ib<|fH (fC 6)<|fH (fC 7) fN)⟩
  (fP (ji (PW.pt<|sE (Kn (dv 6)<|dv 2)<|oS<|Nv (iY (dv 3)<|dv 5)<|iY (dv 7)<|dv 5)
  (fP<|f9 nG)
  hZ))))))))
  (fP<|f9 nG)))),λds μ Kd h=>?_⟩
 unfold L5 at h;split at h
 .rename_i b f a k0;refine⟨rfl,λhm hl=>?_⟩;obtain⟨es,ts,row,rfl,rfl,nv,EH,lk,g,kk⟩:=h;have hle:=g.ok.len;have mQ:((row.map D.int).length:Int)=(row.length:Nat):=by rw[gP]
  have ty:Qv (.mr k0) μ=some "list":=zQ (x:=.mr k0) lk;refine fF ty ?_;rw[AA];refine fF lk ?_;refine zc (c:=((row.map D.int).length:Int)=(es.map D.int).length) (λq=>absurd (by rw[gP,gP,hle]) q) (λ_=>?_);refine fF lk ?_;refine⟨by lia,by lia,?_⟩;refine tJ row.length mQ (RgO (some<|.lst<|es.map D.int) (some<|.lst<|ts.map<|jk es) (some<|.int a) (some<|.mr k0) row μ) (.mk 0 row.length 0 none none none rfl (dw _) λx hx=>?_) ?_ ?_
  .obtain⟨e,he⟩:∃ e,es[0]?=some e:=⟨_,iD (by rw[<- hle];exact(kB hx).1)⟩;exact bu (EH e<|kq he) (g.ge 0 x e hx he)
  .intro d sy ρ fZ hI;cases hI with|mk i c l u v w' e Jp ll=>?_;refine⟨trivial,λnx pD=>?_⟩;cases c with
   |zero=>cases e
   | succ c =>
    rw[h9]at e;cases e;obtain⟨x,hx⟩:∃ x,row[i]?=some x:=⟨_,iD<|by lia⟩;obtain⟨e,he⟩:∃ e,es[i]?=some e:=⟨_,iD<|by lia⟩;have ax:kr (row.map D.int) (i:Int)=some (.int x):=gR hx;have ae:kr (es.map D.int) (i:Int)=some (.int e):=gR he;have xm:=g.ok.mem x<|kq hx;refine fF lk<|fF ax ?_;refine fF (show Qv (.int x) _=some "int" from rfl) ?_;rw[Te];refine fF lk<|fF ax ⟨rfl,CO es,?_⟩;rw[He];refine zc (λnm=>absurd xm nm) (λ_=>?_);refine fF lk<|fF ax<|fF ae ?_;have h1:=g.ge i x e hx he;have h2:=ll x hx;refine jV (c:=x<max e l) (λlt=>absurd lt<|by lia) (λ_=>?_);refine fF lk<|fF ax ?_;refine iO (RgI (some<|.lst<|es.map D.int) (some<|.lst<|ts.map<|jk es) (some<|.int a) (some<|.mr k0) (some<|.int x) (some<|.int i) es ts μ) (.mk ts _ _ rfl λ_ h=>h) ?_ ?_
    .intro d2 ds2 oh iP hI;cases hI with|mk us v2 w2 e2 Zs=>?_;refine⟨trivial,λnx2 Pg=>?_⟩;cases us with
     |nil=>cases e2
     | cons t us =>cases e2;refine⟨rfl,?_⟩;have af:kr ((sL es t).map D.int) (i:Int)=some (.int<|iS es t.1 e):=gR (by unfold sL;rw[mS,he];rfl);have sub:=λu hu=>Zs u<|ny t hu;refine jV (c:=t.2<=a) (λha=>?_) (λ_=>Pg _ _<|.mk us _ _ rfl sub);refine fF lk<|fF ax<|fF af ?_;exact jV (c:=x<iS es t.1 e) (λlt=>absurd lt<|Int.not_lt.mpr<|g.Ri i x e hx he t (Zs t aH) ha) (λ_=>Pg _ _<|.mk us _ _ rfl sub)
    .intro oh iP hI;cases hI with|mk us v2 w2 e2 Zs=>?_;exact⟨trivial,pD _ _<|.mk (i+1) c x _ _ _ rfl (by lia) λy hy=>g.up i (i+1) x y (dt i) hx hy⟩
  .intro ρ fZ hI;cases hI with|mk i c l u v w' e Jp ll=>?_;exact⟨trivial,.keep kk⟩
 .cases h
def Cm (F:jW K "few_rows" "few_rows" kU f fd)(T:lA mg)(oK:qK P w K mg fB)(Qo:G1 P w K mg fB):gD P w K mg fB kl 2 f fd (pA kU) (iB xw):=by
 refine oA F jG ⟨_,λhr=>(fG (qS 3 jG.nd<|mw true iL)
  (fG (qS 4 jG.nd<|Pz rfl (by rfl) T.list (by rfl) T.range<|a1<|sA T<|dv 0)
  (fG (k8 ba rfl (gY rfl T.range<|a1<|dv 2) (qT 5 jG.nd)
  (fG (qS 6 jG.nd<|lR (Y9 rfl) RY (by rfl) T.min dH<|a2 (dv 5)<|Bb (qC oK hr<|a1<|dv 0) fM)
  (fG (XT 4 false jG.nd (qL (N:=["row","behind","enough"]) (js:=[none,none,some 6]) jG<|by decide +kernel) (iJ<|fS (fR 0) (fC 0) (fS (fR 1) (fC 1) iK fN)<|fH (fC 1) fN) (ib<|fH (fC 0)<|fH (fC 1) fN) (CD rfl T.zip<|a2 (dv 1)<|dv 4) (λ_ _ _ nd=>(gQ (n:=2) rfl (fJ (qN 0 nd)<|fJ (qN 1 nd) gw))) (λ_ _ _=>ig) λ_ _ _=>(qC Qo hr<|a3 (dv 0) (dv 1)<|dv 2))
  (fP<|wG<|xH cn cO cM tX ot (dv 3)<|a1<|Bc true (qL (N:=["behind","places"]) (js:=[none,some 0]) jG<|by decide +kernel) (jc<|dv 4) (λ_ _ _ nd=>(qN 0 nd)) (λ_ _ _=>ig) λ_ _ _=>(iY (dv 1)<|dv 0)))))
  (fP<|f9<|dv 3)))),λds μ Kd h=>?_⟩
 unfold xw at h;split at h
 .rename_i p t m;refine⟨rfl,λhm hl=>?_⟩;obtain⟨es,P,rfl,rfl,hL,hL2,o,X7,NG,kk⟩:=h;have mQ:((es.map D.int).length:Int)=(es.length:Int):=by rw[gP]
  refine⟨zs,?_⟩;refine⟨by lia,by lia,?_⟩;rw[mQ,sx];refine⟨by lia,by lia,?_⟩;refine iO (FrO (some<|.lst<|es.map D.int) (some<|.lst<|kQ es.length P) (some<|.int m) (some<|.mr μ.length) es P m.toNat μ) ?_ ?_ ?_
  .rw[aQ];exact .mk 0 m.toNat [.lst []] [] none none rfl (dw _) ⟨rfl,jl,λt k r e=>(by simp at e),aw _,λk hk=>nomatch hk⟩
  .intro d sy ρ fZ hI;cases hI with|mk i c g ks u v e Jp tm=>?_;refine⟨trivial,λnx pD=>?_⟩;cases c with
   |zero=>cases e
   | succ c =>
    rw[h9]at e;cases e;refine⟨by rw[gP];exact hL2,?_⟩;have eq:min (i:Int) (((es.map D.int).length:Int) - 1 - 1)=vK es.length i:=by rw[mQ];unfold vK;lia
    refine⟨by rw[bH,mZ,gP,pF];exact sz<|by lia,?_⟩;unfold kQ;rw[BI];refine je ⟨trivial,trivial⟩ (λx:Nat=>D.tup [.lst (jU es.length<|P x),.int (RB es.length P i x:Nat)]) (λx=>D.int (RB es.length P (i+1) x:Nat)) (λx hx K' k'=>?_) ?_
    .rw[cc]at hx;have b:=MU o hL i hx;refine⟨rfl,es.length,P x,RB es.length P i x,rfl,hL2,rfl,b.1,λu v h1 h2=>o.mj x u v hx h1 h2,by rw[eq];exact b.2,?_⟩;rw[eq];exact k'
    refine⟨wX tm.lst,?_⟩;refine⟨by rw[gP,pF];exact sz<|by lia,?_⟩;refine je trivial (λx:Nat=>D.int (RB es.length P (i+1) x:Nat)) (λx=>D.int<|es.getD (RB es.length P (i+1) x) 0) (λx hx K' k'=>?_) ?_
    .rw[cc]at hx;exact fF (gR (g:=D.int)<|getD_some (MU o hL (i+1) hx).1) k'
    obtain⟨g',eg,RO⟩:=tm.push<|rQ es P<|vK es.length i;rw[<- Hv]at RO;refine fF (o8 tm.lst) ⟨by rw[gP,tm.len,JM];exact Uz<|by lia,?_⟩;unfold rQ at eg;rw[aQ]at eg;refine(show ∀ fZ,fZ=μ++g'->_ from λfZ e=>?_) _ eg;subst e;exact pD _ _ (.mk (i+1) c g' (ks++[(μ++g).length]) _ _ rfl (by lia) RO)
  .intro ρ fZ hI;cases hI with|mk i c g ks u v e Jp tm=>?_;cases c with
   |succ c=>rw[h9]at e;cases e
   | zero =>
    have:i=m.toNat:=by lia
    subst this;exact⟨trivial,.keep<|kk _ ks g tm⟩
 .cases h
def yo (F:jW K "few_tables" "few_tables" jM f fd)(T:lA mg)(kZ:px P w K mg fB)(ki:mB P w K mg fB)(BD:tS P w K mg fB)(sq:sj P w K mg fB)(BA:tR P w K mg fB)(qx:qt P w K mg fB):gD P w K mg fB kl 4 f fd (pA jM) (iB xu):=by
 refine oA F gZ ⟨_,λhr=>(fG (qS 4 gZ.nd<|qC kZ hr<|a2 (dv 0)<|dv 1)
  (fG (qS 5 gZ.nd<|qC ki hr<|a3 (dv 0) (dv 1)<|dv 2)
  (fG (XT 6 false gZ.nd (qL (N:=["text","old"]) (js:=[none,none]) gZ<|by decide +kernel) (iJ<|fS (fR 0) (fC 0) (fS (fR 1) (fC 1) iK fN)<|fH (fC 1) fN) (ib<|fH (fC 0)<|fH (fC 1) fN) (jc<|dv 2) (λ_ _ _ nd=>(gQ (n:=2) rfl (fJ (qN 0 nd)<|fJ (qN 1 nd) gw))) (λ_ _ _=>ig) λ_ _ _=>(dv 1))
  (fG (qS 7 gZ.nd<|qC BD hr<|a1<|dv 4)
  (fG (qS 8 gZ.nd nG)
  (fG (qS 9 gZ.nd T4)
  (fG (k8 ba rfl (tx rfl T.range<|a2 (lR (VV rfl) N7 (by rfl) T.min dH<|a3 (qC sq hr<|a1<|dv 2) fM<|dv 3)<|oP (dv 3) fM) (qT 10 gZ.nd)
  (Hb (ji (PW.pt<|p4 (ic<|dv 8)<|oq<|l9 inC FJ (dv 10) (dv 6)<|by with_unfolding_all rfl)
  (fG (qS 11 gZ.nd<|dv 7)
  (fG (qS 7 gZ.nd<|qC BA hr<|a3 (dv 4) (qC qx hr<|a3 (dv 4) (dv 5)<|dv 10)<|dv 11)
  (fP<|qS 8 gZ.nd<|oH (K7 (n:=4)<|Qu hr<|by decide) JV (dv 7) (dv 11)<|iG _)))
  hZ)
  (fP<|R8 (qj hr) (dv 7) (dv 9)<|dv 10)))
  (fP<|f9<|dv 9)))))))),λds μ Kd h=>?_⟩
 unfold xu at h;split at h
 .rename_i n x y a;refine⟨rfl,λhm hl=>?_⟩;obtain⟨cs,ts,rfl,rfl,S,a0,a1,kk⟩:=h;have lL:=S.lL;have ft:=S.takes.lL;have nv:(fw n cs).length=cs.length+2:=fU n cs;refine⟨cs,rfl,lL,cs,ts,rfl,rfl,S,?_⟩;refine⟨sz (by rw[gP];lia),?_⟩;refine je trivial nB (λt=>D.int t.2) (λt ht K' k'=>⟨rfl,k'⟩) ?_;have WJ:ts.map (λt=>D.int t.2)=(ts.map (·.2)).map D.int:=by rw[aQ];rfl
  rw[WJ];refine⟨by rw[gP];lia,?_⟩;rw[gP];have fs:=IA S;obtain⟨es,he⟩:∃ es,es=fw n cs:=⟨_,rfl⟩;rw[<- he]at kk nv fs ⊢
  refine⟨ts,rfl,by lia,?_⟩;have yn:=BM S.takes;have ym:min (kP ts) (min 0 a)=0:=by lia
  refine⟨⟨by lia,by lia,by lia,by lia⟩,?_⟩;rw[ym];refine iO (FtO (some<|.int n) (some<|.lst<|cs.map D.int) (some<|.lst<|ts.map nB) (some<|.int a) (some<|.lst<|es.map D.int) (some<|.lst<|ts.map<|jk es) (some (.lst ((ts.map (·.2)).map D.int))) es ts a μ) (.mk 0 (a+1).toNat false none none (by rw[Int.sub_zero];rfl) (by lia) λ_=>fs) ?_ ?_
  .intro d sy ρ fZ hI;cases hI with|mk k c ch u v e Ir Gu=>?_;refine⟨trivial,λnx pD=>?_⟩;cases c with
   |zero=>cases e
   | succ c =>
    rw[h9]at e;cases e;refine⟨λkO fZ=>∃(Yn:Bool) (v':av D),(Yn=false->∀ i j,i<es.length->j<es.length->iE es.length es (i0 es ts<|((k+1:Nat):Int) - 1) (fQ es ts<|k+1) i j=fQ es ts (k+1) i j)/\kO=[some (.int n),some (.lst<|cs.map D.int),some (.lst<|ts.map nB),some (.int a),some (.lst<|es.map D.int),some (.lst<|ts.map<|jk es),some (.lst ((ts.map (·.2)).map D.int)),some (.lst<|kQ es.length<|fQ es ts<|k+1),some (.bl Yn),some (.mr μ.length),some (.int (k:Int)),v']/\fZ=μ++[.jS (mI k) (nH es ts k)],?_,?_⟩
    .refine VG (i:=8) (j:=10) (k:=6) ch (k:Int) (ts.map (·.2)) rfl rfl rfl λb hb=>?_;refine Td (b:=b) (λhbT=>?_) (λhbF=>?_)
     .refine⟨es,ts,rfl,rfl,by lia,by lia,?_⟩;refine⟨es,i0 es ts k,fQ es ts k,rfl,rfl,(uz _ _ _).len,by lia,rfl,?_⟩;refine⟨yP<|FK _ _<|by lia,yP<|FK _ _<|by lia,rfl,?_⟩;refine⟨_,_,λhf=>CP<|Px ?_,rfl,rfl⟩;exact(show ∀ b:Bool,(true != b)=false->b=true by decide) _ hf
     .obtain⟨h1,h2⟩:=hb hbF;have fx:=LY (Gu h1) λt ht et=>h2 (by rw[<- et];exact List.mem_map_of_mem ht);rw[JL fx];refine⟨ch,_,λ_=>CP fx,rfl,rfl⟩
    .rintro kO fZ ⟨Yn,v',hch',rfl,rfl⟩;refine⟨_,_,(by rw[qV (aw _),aZ];rfl),Uz (by unfold mI;rw[gP,pF];lia),Lq k,?_⟩;rw[sH,<- EC,<- DZ];exact pD _ _ (.mk (k+1) c Yn _ _ rfl (by lia) hch')
  .intro ρ fZ hI;cases hI with|mk k c ch u v e Ir Gu=>?_;refine⟨trivial,?_⟩;cases c with
   |succ c=>rw[h9]at e;cases e
   | zero =>
    have hk:k=a.toNat+1:=by lia
    subst hk;refine Fz.jS (aw _) (by rw[qV (aw _),aZ];rfl) (wW λd hd=>by obtain⟨i,_,rfl⟩:=List.mem_map.mp hd;exact OV _ _) (sR hm) ?_;rw[cG];exact kk
 .cases h
def Ap (F:jW K "clean_row" "clean_row" j9 f fd)(T:lA mg)  : gD P w K mg fB kl 1 f fd (pA j9) (iB uK):=by
 refine oA F ku ⟨_,λhr=>(fG (qS 3 ku.nd<|CY xa (qA (m:=false)) (by rfl) T.list bh<|a1<|dv 0)
  (fG (k8 ba rfl (jc<|dv 1) ⟨(gQ (n:=2) rfl (fJ (qN 4 ku.nd)<|fJ (qN 5 ku.nd) gw)),(iJ<|fS (fR 4) (fC 4) (fS (fR 5) (fC 5) iK fN)<|fH (fC 5) fN),(ib<|fH (fC 4)<|fH (fC 5) fN)⟩
  (fP (ji (Kn (dv 4)<|dv 2)
  (fP<|XT 3 false ku.nd (qL (N:=["far","other"]) (js:=[none,none]) ku<|by decide +kernel) (iJ<|fS (fR 0) (fC 0) (fS (fR 1) (fC 1) iK fN)<|fH (fC 1) fN) (ib<|fH (fC 0)<|fH (fC 1) fN) (CD rfl T.zip<|a2 (dv 3)<|dv 5) (λ_ _ _ nd=>(gQ (n:=2) rfl (fJ (qN 0 nd)<|fJ (qN 1 nd) gw))) (λ_ _ _=>ig) λ_ _ _=>(lR (Lc rfl) wz (by rfl) T.max bP<|a2 (dv 0)<|dv 1))
  hZ)))
  (fP<|f9<|dv 3))),λds μ Kd h=>?_⟩
 unfold uK at h;split at h
 .rename_i x r a;refine⟨rfl,λhm hl=>?_⟩;obtain⟨es,ts,ex,rfl,nv,Zv,kk⟩:=h;refine fF ex ?_;refine iO (CrO (some x) (some<|.lst<|ts.map<|jk es) (some<|.int a) es ts a μ) (.mk ts es none none rfl (MJ es ts a) nv) ?_ ?_
  .intro d sy ρ fZ hI;cases hI with|mk us tl u v e hf oN=>?_;refine⟨trivial,λnx pD=>?_⟩;cases us with
   |nil=>cases e
   | cons t us =>
    cases e;refine⟨rfl,?_⟩;rw[cZ]at hf;refine jV (λg=>?_) (λg=>?_)
    .unfold r9 at hf;rw[aE g]at hf;have lr:(sL es t).length=es.length:=by unfold sL;rw[gP]
     refine⟨by rw[bH,gP,gP];exact sz<|by lia,?_⟩;refine ia ⟨trivial,trivial⟩ (Ew λa b=>.int<|max a b) (λd hd K' k'=>?_) ?_
     .obtain⟨p,hp,q,hq,rfl⟩:=zI hd;exact⟨rfl,k'⟩
     .rw[AM,<- zF D.int max];exact pD _ _ (.mk us (List.zipWith max tl<|sL es t) _ _ rfl hf (by rw[bH];lia))
    .unfold r9 at hf;rw[aF g]at hf;exact pD _ _ (.mk us tl _ _ rfl hf oN)
  .intro ρ fZ hI;cases hI with|mk us tl u v e hf oN=>?_;cases us with
   | nil =>refine⟨trivial,.keep ?_⟩;rw[show i0 es ts a=tl from hf.symm]at kk;exact kk
   |cons t us=>cases e
 .cases h
def yi (F:jW K "next_table" "next_table" jh f fd)(T:lA mg)(oK:qK P w K mg fB)(vF:pK P w K mg fB):gD P w K mg fB kl 2 f fd (pA jh) (iB xq):=by
 refine oA F iT ⟨_,λhr=>(fG (qS 3 iT.nd<|Bc false (qL (N:=["at","before"]) (js:=[none,some 2]) iT<|by decide +kernel) (gY rfl T.range<|a1<|sA T<|dv 2) (λ_ _ _ nd=>(qN 0 nd)) (λ_ _ _=>ig) λ_ _ _=>(Bc false (v8 (xsc:=(fI jh)) (N:=["row","at"]) (js:=[none,some 0]) rfl (by decide +kernel)) (jc<|dv 1) (λ_ _ _ nd=>(qN 0 nd)) (λ_ _ _=>ig) λ_ _ _=>(iY (dv 0)<|dv 1)))
  (fG (qS 4 iT.nd<|qC oK hr<|a1<|dv 0)
  (fG (qS 5 iT.nd<|mw true iL)
  (fG (k8 ba rfl (Pc rfl T.enumerate rfl T.zip<|a2 (dv 2)<|dv 1) ⟨(gQ (n:=2) rfl (fJ (qN 6 iT.nd)<|fJ (gQ (n:=2) rfl (fJ (qN 7 iT.nd)<|fJ (qN 8 iT.nd) gw)) gw)),(iJ<|fS (fR 6) (fC 6) (fS (iJ<|fS (fR 7) (fC 7) (fS (fR 8) (fC 8) iK fN)<|fH (fC 8) fN) (ib<|fH (fC 7)<|fH (fC 8) fN) iK fN)<|fH (ib<|fH (fC 7)<|fH (fC 8) fN) fN),(ib<|fH (fC 6)<|fH (ib<|fH (fC 7)<|fH (fC 8) fN) fN)⟩
  (fP<|wG<|xH cn cO cM tX ot (dv 5)<|a1<|GV false (qL (N:=["behind","end","far","row","first","columns","none"]) (js:=[none,none,some 8,some 7,some 6,some 3,some 4]) iT<|by decide +kernel) (iJ<|fS (fR 0) (fC 0) (fS (fR 1) (fC 1) iK fN)<|fH (fC 1) fN) (ib<|fH (fC 0)<|fH (fC 1) fN) (AE rfl T.enumerate<|a1<|dv 0) (λ_ _ _ nd=>(gQ (n:=2) rfl (fJ (qN 0 nd)<|fJ (qN 1 nd) gw))) (λ_ _ _=>ig) λ_ _ _=>(My (Kn (dv 1)<|dv 2) fM<|qC vF hr<|a3 (mT false (dv 3) (lX<|oP (dv 4) fM)<|lX<|dv 0) (mT false (iY (dv 5)<|dv 0) (lX<|oP (dv 4) fM)<|lX<|dv 0)<|dv 6)))
  (fP<|f9<|dv 5))))),λds μ Kd h=>?_⟩
 unfold xq at h;split at h
 .rename_i b c l;refine⟨rfl,λhm hl=>?_⟩;obtain⟨es,own,P,rfl,rfl,UP,nv,rfl,kk⟩:=h;obtain⟨L,hL⟩:∃ L,L=es.length:=⟨_,rfl⟩;rw[<- hL]at UP nv kk ⊢
  refine⟨by rw[mZ];lia,by rw[mZ];lia,?_⟩;rw[mZ,sx];refine⟨sz (by rw[iF];lia),?_⟩;refine je trivial (λj:Nat=>D.int<|0+(j:Nat)) (λj=>D.lst<|jU L λi=>P i j) (λj hj K' k'=>?_) ?_
  .rw[cc]at hj;refine⟨sz (by rw[mZ];lia),?_⟩;refine je trivial (λi:Nat=>D.lst<|jU L<|P i) (λi=>D.int<|P i j) (λi hi K' k'=>?_) k';have a1:kr (jU L<|P i) (0+(j:Nat):Int)=some (.int<|P i j):=by rw[c4];exact kM (ni hj)
   exact fF a1 k'
  refine⟨by rw[gP];lia,?_⟩;rw[gP,<- hL];refine⟨zs,?_⟩;obtain⟨Q,hQ⟩:∃ Q,Q=iE L es own P:=⟨_,rfl⟩;rw[<- hQ]at kk;refine iO (NtO (some<|.lst<|es.map D.int) (some<|.lst<|own.map D.int) (some<|.lst<|kQ L P) (some<|.lst<|(List.range L).map λj=>D.lst<|jU L λi=>P i j) (some<|.int<|(L:Int) - 1) L P Q own μ) (.mk 0 none none none (bA _) (Mm UP) rfl) ?_ ?_
  .intro d sy ρ fZ hI;cases hI with|mk k u v w hk e ht=>?_;subst ht;refine⟨⟨trivial,trivial⟩,λnx pD=>?_⟩;have hi:k<(List.range L).length:=by
    by_cases q:k<(List.range L).length
    .exact q
    .rw[bM (by lia)]at e;cases e
   have hkL:k<L:=by rwa [pF]at hi
   rw[bL hi,List.getElem_range]at e;cases e;refine⟨rfl,rfl,?_⟩;refine⟨wX jl,?_⟩;refine⟨by rw[mY,gP];exact sz<|by lia,?_⟩;rw[Pp,<- hL];refine je trivial (λj:Nat=>D.tup [.int (j:Nat),.int (es.getD j 0)]) (λj=>D.int<|Q k j) (λj hj K' k'=>?_) ?_
   .rw[cc]at hj;refine⟨rfl,?_⟩;have eQ:Q k j=if es.getD j 0<=own.getD k 0 then 0 else(mJ P k j).foldl min ((L:Int) - 1):=by rw[hQ];rfl
    refine jV (c:=es.getD j 0<=own.getD k 0) (λq=>?_) (λq=>?_)
    .rw[aE q]at eQ;rw[eQ]at k';exact k'
    .rw[aF q]at eQ;rw[eQ]at k';have ac:kr ((List.range L).map λj=>D.lst<|jU L λi=>P i j) (j:Int)=some (.lst<|jU L λi=>P i j):=xS (g:=λj=>D.lst<|jU L λi=>P i j)<|aY hj;refine fF ac ?_;refine⟨(List.range<|j - (k+1)).map λx=>P k<|k+1+x,(List.range<|j - (k+1)).map λx=>P (k+1+x) j,?_,?_,?_,?_,?_⟩
     .rw[Dc (by lia),aQ];rfl
     .rw[Dc (by lia),aQ];rfl
     .rw[gP,pF];lia
     .rw[gP,pF];lia
     .rw[Jx (L:=L)];exact k'
   .refine fF jl ⟨Uz (by rw[gP,pF];lia),?_⟩;rw[sH];exact pD _ _ (.mk (k+1) _ _ _ (by lia) rfl (by rw[Hu];rfl))
  .intro ρ fZ hI;cases hI with|mk k u v w hk e ht=>?_;subst ht;refine⟨⟨trivial,trivial⟩,?_⟩;have hkL:k=L:=by have:=cD List.length e;rw[gP,bG,pF]at this;simp at this;lia
   subst hkL;refine Fz.lst (aw _) (jP jl) (OU _ _ _) (sR hm) ?_;rw[cG];exact kk
 .cases h
def SF (F:jW K "_law_own" "_law_own" wD f fd)(T:lA mg)(DF:G2 P w K mg fB):gD P w K mg fB kl 2 f fd (pA wD) (iB TQ):=by
 refine oA F Ab ⟨_,λhr=>(fG (qS 3 Ab.nd<|mw true iL)
  (fG (k8 ba rfl (jc<|dv 0) (qT 4 Ab.nd)
  (fP<|wG<|xH cn cO cM tX ot (dv 3)<|a1<|lR (Lb rfl) sG (by rfl) T.max bP<|a1<|oP (mw false<|a1<|dv 4)<|GV false (qL (N:=["_law_text","_law_old","_law_border","_law_end","_law_age"]) (js:=[none,none,some 0,some 4,some 2]) Ab<|by decide +kernel) (iJ<|fS (fR 0) (fC 0) (fS (fR 1) (fC 1) iK fN)<|fH (fC 1) fN) (ib<|fH (fC 0)<|fH (fC 1) fN) (jc<|dv 1) (λ_ _ _ nd=>(gQ (n:=2) rfl (fJ (qN 0 nd)<|fJ (qN 1 nd) gw))) (λ_ _ _=>(rD<|Kn (dv 1)<|dv 4)) λ_ _ _=>(qC DF hr<|a3 (dv 2) (dv 0)<|dv 3)))
  (fP<|f9<|dv 3))),λds μ Kd h=>?_⟩
 unfold TQ at h;split at h
 .rename_i b y a;refine⟨rfl,λhm hl=>?_⟩;obtain⟨n,cs,ts,rfl,ey,S,kk⟩:=h;have lL:=S.lL;have ft:=S.takes.lL;have nv:(fw n cs).length=cs.length+2:=fU n cs;have xf:∀ x∈fw n cs,0<=x/\x<=n:=λx hx=>hX S.n1 S.iI hx;obtain⟨es,he⟩:∃ es,es=fw n cs:=⟨_,rfl⟩;rw[<- he]at kk nv xf ⊢
  refine⟨zs,?_⟩;refine iO (OwO (some<|.lst<|es.map D.int) (some y) (some<|.int a) es ts a μ) (.mk 0 none rfl) ?_ ?_
  .intro d sy ρ fZ hI;cases hI with|mk i v e=>?_;refine⟨trivial,λnx pD=>?_⟩;have hi:i<es.length:=by
    by_cases q:i<es.length
    .exact q
    .rw[bM (by lia)]at e;cases e
   rw[bL hi]at e;cases e;have AG:es[i]∈es:=bJ hi;have h2:=xf _ AG;refine⟨wX jl,zs,?_⟩;refine fF (Aw ey) ⟨by rw[gP];exact sz<|by lia,?_⟩;refine ia (qh<|Aw ey) (CB (λt=>decide (t.2<=a)) λt=>.int<|iS es t.1 es[i]) (λd hd K' k'=>?_) ?_
   .obtain⟨t,ht,rfl⟩:=List.mem_map.mp hd;have hz:=S.takes.ok t ht;refine⟨rfl,jV (λq=>?_) λq=>O7 (by simp[q]) k'⟩;have n2:=S.n2;exact⟨es,rfl,by lia,by rw[jf];lia,by rw[ml];exact hz.2.1,h2.1,by rw[jf];lia,AG,by rw[ml];exact O6 (by simp[q]) k'⟩
   .rw[xk];have fl:=dc (λt:Tk=>decide (t.2<=a)) ts;refine⟨by rw[gP];exact sz (by show 1+_<=_;lia),?_⟩;refine⟨es[i]::(ts.filter λt=>decide (t.2<=a)).map λt=>iS es t.1 es[i],(by show some (D.int es[i]::_)=_;rw[aB,aQ];rfl),by simp,λm p1 p2=>?_⟩;have em:m=i7 es ts a es[i]:=by rw[jO];exact Pj p1 p2
    refine fF jl ⟨Uz (by rw[gP,gP,bg];lia),?_⟩;have et:((es.take i).map<|i7 es ts a).map D.int++[D.int m]=((es.take<|i+1).map<|i7 es ts a).map D.int:=by rw[List.take_succ,iD hi,em,bB,bB];rfl
    rw[sH,et];exact pD _ _ (.mk (i+1) _ rfl)
  .intro ρ fZ hI;cases hI with|mk i v e=>?_;refine⟨trivial,?_⟩;have hi:es.length<=i:=by have:=cD List.length e;rw[gP,bG]at this;simp at this;lia
   rw[bU hi];refine Fz.lst (aw _) (jP jl) (Cs _) (sR hm) ?_;rw[cG];exact kk
 .cases h
def OM (F:jW K "_law_rows" "_law_rows" rK f fd)(T:lA mg)(XE:Rz P w K mg fB):gD P w K mg fB kl 3 f fd (pA rK) (iB L4):=by
 refine oA F oW ⟨_,λhr=>(fG (qS 3 oW.nd<|mw true iL)
  (fG (k8 ba rfl (gY rfl T.range<|a1<|dv 2) (qT 4 oW.nd)
  (fG (qS 5 oW.nd<|qC XE hr<|a3 (dv 0) (dv 1)<|dv 4)
  (Hb (ji (UD (dv 4) fM)
  (fG (qS 6 oW.nd<|iY (dv 3)<|tN fM)
  (fP<|qS 5 oW.nd<|Bc false (qL (N:=["_law_k","_law_row","_law_last","_law_border"]) (js:=[none,some 5,some 6,some 0]) oW<|by decide +kernel) (gY rfl T.range<|a1<|sA T<|dv 0) (λ_ _ _ nd=>(qN 0 nd)) (λ_ _ _=>ig) λ_ _ _=>(lR (Lc rfl) wz (by rfl) T.max bP<|a2 (iY (dv 1)<|dv 0)<|iY (dv 2)<|xH cn eE PySem.F.type_list_index LA BV (dv 3)<|a1<|iY (dv 2)<|dv 0)))
  hZ)
  (fP<|wG<|xH cn cO cM tX ot (dv 3)<|a1<|dv 5))))
  (fP<|f9<|dv 3))),λds μ Kd h=>?_⟩
 unfold L4 at h;split at h
 .rename_i b y m;refine⟨rfl,λhm hl=>?_⟩;obtain⟨n,cs,ts,rfl,ey,S,X7,NG,kk⟩:=h;have lL:=S.lL;have ft:=S.takes.lL;have nv:(fw n cs).length=cs.length+2:=fU n cs;have nd:=tM S.n1 S.iI;obtain⟨es,he⟩:∃ es,es=fw n cs:=⟨_,rfl⟩;refine⟨zs,?_⟩;refine⟨by lia,by lia,?_⟩;rw[<- he]at kk nv nd ⊢
  refine iO (RwO (some<|.lst<|es.map D.int) (some y) (some<|.int m) es ts m.toNat μ) (.mk 0 m.toNat none none none rfl (dw _)) ?_ ?_
  .intro d sy ρ fZ hI;cases hI with|mk i k u v w' e hik=>?_;refine⟨trivial,λnx pD=>?_⟩;cases k with
   |zero=>cases e
   | succ k =>
    rw[h9]at e;cases e;refine⟨n,cs,ts,by rw[he],Aw ey,S,?_⟩;rw[<- he];refine⟨λkO fZ=>∃ w':av D,kO=[some (.lst<|es.map D.int),some y,some (.int m),some (.mr μ.length),some (.int i),some (.lst<|(gh es ts i).map D.int),w']/\fZ=μ++[.lst ((List.range i).map λa=>.lst<|(gh es ts a).map D.int)],?_,?_⟩
    .refine jV (c:=(0:Int)<i) (λq=>?_) (λq=>?_)
     .obtain⟨j,rfl⟩:∃ j,i=j+1:=⟨i - 1,by lia⟩;have el:kr ((List.range<|j+1).map λa=>D.lst<|(gh es ts a).map D.int) (-1)=some (.lst<|(gh es ts j).map D.int):=by rw[cW,bB];exact Fh _ _
      refine ME (show lv _ (.mr μ.length)=_ from jl) el ?_;have Og:=jz es ts j;have XW:=uz es ts ((j+1:Nat):Int);have nok:=Aq (ts:=ts) (a:=((j+1:Nat):Int)) Og;have mQ:((es.map D.int).length:Int)=(es.length:Nat):=by rw[gP]
      refine⟨by rw[mQ];lia,by rw[mQ];lia,sz (by rw[iF,mQ];lia),?_⟩;rw[mQ,sx,show es.length=(lO es ts (gh es ts j) ((j+1:Nat):Int)).length from nok.len.symm];refine ia trivial (Le λk=>.int<|((lO es ts (gh es ts j) ((j+1:Nat):Int))[k.toNat]?).getD 0) (λd hd K' k'=>?_) ?_
      .obtain⟨c,hc,rfl⟩:=wK hd;rw[c4]at k' ⊢
       have lc':=nok.len;have lo:=XW.len;have lr:=Og.len;obtain⟨f,hf⟩:∃ f,(i0 es ts ((j+1:Nat):Int))[c]?=some f:=⟨_,iD<|by lia⟩;obtain⟨p,hp⟩:∃ p,(gh es ts j)[c]?=some p:=⟨_,iD<|by lia⟩;have ZA:=Og.mem p<|kq hp;refine fF (gR hf) ⟨rfl,fF (gR hp) ⟨es,es.idxOf p,rfl,l8 ZA,ze nd ZA,fF (gR<|ka Og ZA) ?_⟩⟩;have k2:K' (some<|.int<|((lO es ts (gh es ts j) ((j+1:Nat):Int))[((c:Nat):Int).toNat]?).getD 0) _:=k';rw[sx,nO hf hp]at k2;exact k2
      .rw[Pk D.int _ _ λi x e=>by show D.int (((lO es ts (gh es ts j) ((j+1:Nat):Int))[((i:Nat):Int).toNat]?).getD 0)=_;rw[sx,e];rfl];exact⟨_,rfl,rfl⟩
     .obtain rfl:i=0:=by lia
      exact⟨_,rfl,rfl⟩
    .rintro kO fZ ⟨w',rfl,rfl⟩;refine⟨wX jl,fF jl ⟨Uz (by rw[gP,pF];lia),?_⟩⟩;have ee:((List.range i).map λa=>D.lst<|(gh es ts a).map D.int)++[.lst ((gh es ts i).map D.int)]=(List.range<|i+1).map λa=>D.lst ((gh es ts a).map D.int):=by rw[cW,bB];rfl
     rw[sH,ee];exact pD _ _ (.mk (i+1) k _ _ _ rfl (by lia))
  .intro ρ fZ hI;cases hI with|mk i k u v w' e hik=>?_;cases k with
   |succ k=>rw[h9]at e;cases e
   | zero =>
    refine⟨trivial,?_⟩;rw[show i=m.toNat by lia];refine Fz.lst (aw _) (jP jl) (Au λd hd=>?_) (sR hm) ?_
    .obtain⟨a,_,rfl⟩:=List.mem_map.mp hd;exact Cs _
    .rw[cG];exact kk
 .cases h
def KR (F:jW K "_law_whole" "_law_whole" oY f fd)(T:lA mg)  : gD P w K mg fB kl 1 f fd (pA oY) (iB AU):=by
 refine oA F JY ⟨_,λhr=>(fP<|f9<|MB (qo (T:= "int") (by simp) (by rfl) T.isinstance (by rfl) T.int cz<|dv 0)<|CZ<|WS<|qo (T:= "bool") (by simp) (by rfl) T.isinstance (by rfl) T.bool cF<|dv 0),λds μ Kd h=>?_⟩;unfold AU at h;split at h
 .rename_i d;refine⟨rfl,λhm hl=>?_⟩;obtain⟨t,rfl,kk⟩:=h;refine fF (JE t _) ?_;cases t with
  |num _=>exact .keep kk
  |ua _ _ _=>exact .keep kk
 .cases h
def Ck (n:Nat){f:ao}{fd:aj}(F:jW K "_law_form" "_law_form" rM f fd)(T:lA mg)(qP:Bj P w K mg fB)(BC:mH P w K mg fB "_law_form" (n+1) ["_law_make"] (iB<|TN zf n)):gD P w K mg fB kl (n+2) f fd ["_law_make"] (iB<|zf n):=by
 refine F.SJ Oe (λds μ Kd h=>by unfold zf at h;split at h <;> first | rfl | exact h.elim) (λlj A fY s H E hr=>⟨_,(fG (ji (ic<|qC qP hr<|a1<|dv 0)
  (fP<|f9 nG)
  hZ)
  (fG (ji (PW.pt<|p4 (m4<|ic<|qo (T:= "tuple") (by simp) (by rfl) T.isinstance (by rfl) T.tuple cQ<|dv 0)<|p4 (QT (sA T<|dv 0) fM)<|oq<|m4<|ic<|qC qP hr<|a1<|iY (dv 0) fM)
  (fP<|f9 nG)
  hZ)
  (fP<|f9<|MB (qC BC hr<|a1<|iY (dv 0) fM)<|CZ<|qC BC hr<|a1<|iY (dv 0) fM))),λds μ Kd hm hl h=>?_⟩)
 unfold zf at h;split at h
 .rename_i d;obtain⟨t,rfl,hd,kk⟩:=h;cases t with
  |num v=>exact⟨.num v,rfl,.keep kk⟩
  | ua p l r =>have Jq:max l.dep r.dep+1<=n:=hd;obtain⟨n,rfl⟩:∃ n',n=n'+1:=⟨n - 1,by lia⟩;refine⟨.ua p l r,rfl,?_⟩;refine⟨.num p,rfl,?_⟩;exact⟨l,rfl,by lia,r,rfl,by lia,.keep kk⟩
 .cases h
theorem Gg {f:ao}{fd:aj}(F:jW K "_law_form" "_law_form" rM f fd)(T:lA mg)(hm:mg "_law_form"=some (.ref f))(hk:W.keepIn K (.ref f)=true)(hb:Binds K fd ["_law_make"] [])(qP:Bj P w K mg fB):∀ n,gD P w K mg fB kl (n+2) f fd ["_law_make"] (iB<|zf n)
 |0=>Ck 0 F T qP ⟨f,fd,⟨λ_ _ _ _ rp=>by obtain⟨_,_,_,_,_,_,h,_⟩:=rp;exact h.elim,λ_ _ _ _ _ _ _ _ _ _ _ _ _ uD=>by obtain⟨_,_,_,_,_,_,h,_⟩:=uD;exact h.elim⟩,hm,hk,hb⟩
 |n+1=>Ck (n+1) F T qP ⟨f,fd,Gg F T hm hk hb qP n,hm,hk,hb⟩
def Cj (n:Nat){f:ao}{fd:aj}(F:jW K "_law_made" "_law_made" rL f fd)(T:lA mg)(BB:mH P w K mg fB "_law_made" n ["_law_cuts_here","_law_takes","_law_make"] (iB<|TN uH n)):gD P w K mg fB kl (n+1) f fd ["_law_cuts_here","_law_takes","_law_make"] (iB<|uH n):=by
 refine F.SJ Ac (λds μ Kd h=>by unfold uH at h;split at h <;> first | rfl | exact h.elim) (λlj A fY s H E hr=>⟨_,(fG (ji (ic<|qo (T := "int") (by simp) (by rfl) T.isinstance (by rfl) T.int cz<|dv 2)
  (fG (ji (PW.pt<|p4 (Nv (dv 2) fM)<|oq<|Y1 (dv 2)<|sA T<|dv 1)
  (fP<|f9 xG)
  hZ)
  (fP<|f9<|iY (dv 1)<|dv 2))
  hZ)
  (fG (qS 3 Ac.nd<|qC BB hr<|a3 (dv 0) (dv 1)<|iY (dv 2) fM)
  (fG (qS 4 Ac.nd<|qC BB hr<|a3 (dv 0) (dv 1)<|iY (dv 2) fM)
  (fG (ji (PW.pt<|p4 (l9 K3 FJ (iY (dv 2) fM) (dv 0)<|by with_unfolding_all rfl)<|p4 (JO<|dv 3)<|oq<|JO<|dv 4)
  (fP<|f9 xG)
  hZ)
  (fP<|f9<|nq<|a2 (oP (mT false (iY (dv 3) fM) K1<|lX<|iY (dv 2) fM)<|mT false (iY (dv 4) fM) (lX<|iY (dv 2) fM) K1)<|oP (lR (Lc rfl) wz (by rfl) T.max bP<|a2 (iY (dv 3) fM)<|iY (dv 4) fM) fM))))),λds μ Kd hm hl h=>?_⟩)
 unfold uH at h;split at h
 .rename_i c y d;obtain⟨cs,ts,t,z,rfl,rfl,rfl,hd,Z7,hz,UO,kk⟩:=h;refine fF (JE t _) ?_;cases t with
  | num k =>
   have kk:Kd (Va<|if 0<=k then ts[k.toNat]? else none) μ:=kk;refine jV (c:=k<0) (λq=>?_) (λq0=>?_)
   .rw[aF (by lia)]at kk;exact .keep kk
   rw[aE (by lia)]at kk;refine jV (c:=((ts.map nB).length:Int)<=k) (λq=>?_) (λq=>?_)
   .rw[gP]at q;rw[eY (by lia)]at kk;exact .keep kk
   .rw[gP]at q;have hx:ts[k.toNat]?=some ts[k.toNat]:=iD (by lia);have a1:kr (ts.map nB) k=some (nB ts[k.toNat]):=by have:=xS (g:=nB) hx;rwa [cw (by lia)]at this
    rw[hx]at kk;exact fF a1 (.keep kk)
  | ua p l r =>
   have Jq:max l.dep r.dep+1<=n:=hd;obtain⟨n,rfl⟩:∃ n',n=n'+1:=⟨n - 1,by lia⟩;refine⟨cs,ts,l,z,rfl,rfl,rfl,by lia,Z7,hz,UO,?_⟩;refine⟨cs,ts,r,z,rfl,rfl,rfl,by lia,Z7,hz,UO,?_⟩;have kk:Kd (Va (match l.vo cs ts,r.vo cs ts with|some a,some b=>if p∈cs then some (rj a b p)else none|_,_=>none)) μ:=kk;dsimp only;refine uN ((true != decide (p∈cs))||((l.vo cs ts).isNone||(r.vo cs ts).isNone)) ?_ (λq=>?_) (λq=>?_)
   .refine .or (.FA λK k=>⟨rfl,CO cs,by rw[He];exact k⟩) λ_=>.or (.FA λK k=>?_) λ_=>.FA λK k=>?_
    .cases e:l.vo cs ts with
     |none=>rw[e]at k;exact k
     |some v=>rw[e]at k;exact k
    .cases e:r.vo cs ts with
     |none=>rw[e]at k;exact k
     |some v=>rw[e]at k;exact k
   .refine .keep (d:=.iC) ?_;cases el:l.vo cs ts with
    |none=>rw[el]at kk;exact kk
    | some a =>
     cases er:r.vo cs ts with
     |none=>rw[el,er]at kk;exact kk
     | some b =>rw[el,er]at kk q;have kk:Kd (Va<|if p∈cs then some (rj a b p)else none) μ:=kk;rw[aF (λhp=>by rw[aI hp]at q;cases q)]at kk;exact kk
   .cases el:l.vo cs ts with
    |none=>rw[el]at q;simp at q
    | some a =>
     cases er:r.vo cs ts with
     |none=>rw[el,er]at q;simp at q
     | some b =>
      rw[el,er]at kk q;have hp:p∈cs:=by
       by_cases hp:p∈cs
       .exact hp
       .rw[aO hp]at q;cases q
      have kk:Kd (Va<|if p∈cs then some (rj a b p)else none) μ:=kk;rw[aE hp]at kk;have vl:=(kN.yG el).2▸kN.oR UO (kN.yG el).1;have vr:=(kN.yG er).2▸kN.oR UO (kN.yG er).1;have wl:=vl.1;have wr:=vr.1;have p0:=Z7 p hp;have lz1:(txt a.1).length<=sizeLine:=by rw[jf];exact sz (by lia)
      have lz2:(txt b.1).length<=sizeLine:=by rw[jf];exact sz (by lia)
      have c1:=v7 a.1 none<|some p;have c2:=v7 b.1 (some p) none;refine⟨lz1,lz2,?_,zs,.keep ?_⟩
      .show(txt<|lh a.1 none<|some p).length+(txt<|lh b.1 (some p) none).length<=sizeLine;rw[jf,jf];exact sz (by lia)
      .show Kd (.tup [.str (txt (lh a.1 none<|some p)++txt (lh b.1 (some p) none)),.int (max a.2 b.2+1)]) μ;rw[pz,GW p0,zo p0];exact kk
 .cases h
theorem Gf {f:ao}{fd:aj}(F:jW K "_law_made" "_law_made" rL f fd)(T:lA mg)(hm:mg "_law_made"=some (.ref f))(hk:W.keepIn K (.ref f)=true)(hb:Binds K fd ["_law_cuts_here","_law_takes","_law_make"] []):∀ n,gD P w K mg fB kl (n+1) f fd ["_law_cuts_here","_law_takes","_law_make"] (iB<|uH n)
 |0=>Cj 0 F T ⟨f,fd,⟨λ_ _ _ _ tE=>by obtain⟨_,_,_,_,_,_,h,_⟩:=tE;exact h.elim,λ_ _ _ _ _ _ _ _ _ _ _ _ _ qU=>by obtain⟨_,_,_,_,_,_,h,_⟩:=qU;exact h.elim⟩,hm,hk,hb⟩
 |n+1=>Cj (n+1) F T ⟨f,fd,Gf F T hm hk hb n,hm,hk,hb⟩
def wR (n:Nat){f:ao}{fd:aj}(F:jW K "_law_tuples" "_law_tuples" m6 f fd)(T:lA mg)(t6:mH P w K mg fB "_law_tuples" n ["_law_make"] (iB<|TN oE n)):gD P w K mg fB kl (n+1) f fd ["_law_make"] (iB<|oE n):=by
 refine F.SJ HB (λds μ Kd h=>by unfold oE at h;split at h<;>first|rfl|exact h.elim) (λlj A fY s H E hr=>⟨_,(fP<|f9<|My (ic<|qo (T:= "int") (by simp) (by rfl) T.isinstance (by rfl) T.int cz<|dv 0) fM<|oP (oP fM<|qC t6 hr<|a1<|iY (dv 0) fM)<|qC t6 hr<|a1<|iY (dv 0) fM),λds μ Kd hm hl h=>?_⟩);unfold oE at h;split at h
 .rename_i d;obtain⟨t,rfl,hd,kk⟩:=h;refine fF (JE t _) ?_;cases t with
  |num _=>exact .keep kk
  | ua p l r =>have Jq:max l.dep r.dep+1<=n:=hd;obtain⟨n,rfl⟩:∃ n',n=n'+1:=⟨n - 1,by lia⟩;refine⟨l,rfl,by lia,r,rfl,by lia,.keep ?_⟩;have kk':Kd (.int<|((l.cnt+r.cnt:Nat):Int) - 1) μ:=kk;rw[show((l.cnt+r.cnt:Nat):Int) - 1=1+((l.cnt:Int) - 1)+((r.cnt:Int) - 1) by lia]at kk';exact kk'
 .cases h
theorem yW {f:ao}{fd:aj}(F:jW K "_law_tuples" "_law_tuples" m6 f fd)(T:lA mg)(hm:mg "_law_tuples"=some (.ref f))(hk:W.keepIn K (.ref f)=true)(hb:Binds K fd ["_law_make"] []):∀ n,gD P w K mg fB kl (n+1) f fd ["_law_make"] (iB<|oE n)
 |0=>wR 0 F T ⟨f,fd,⟨λ_ _ _ _ pT=>by obtain⟨_,_,_,_,_,_,h,_⟩:=pT;exact h.elim,λ_ _ _ _ _ _ _ _ _ _ _ _ _ pS=>by obtain⟨_,_,_,_,_,_,h,_⟩:=pS;exact h.elim⟩,hm,hk,hb⟩
 |n+1=>wR (n+1) F T ⟨f,fd,yW F T hm hk hb n,hm,hk,hb⟩
def KY (F:jW K "_law_falls" "_law_falls" o4 f fd)(T:lA mg)  : gD P w K mg fB kl 1 f fd (pA o4) (iB A3):=by
 refine oA F B1 ⟨_,λhr=>(fP<|f9<|lR (anyC rfl) z6 (by rfl) T.any eW<|a1<|GV false (qL (N:=["_law_one","_law_other"]) (js:=[none,none]) B1<|by decide +kernel) (iJ<|fS (fR 0) (fC 0) (fS (fR 1) (fC 1) iK fN)<|fH (fC 1) fN) (ib<|fH (fC 0)<|fH (fC 1) fN) (CD rfl T.zip<|a2 (dv 0)<|dv 1) (λ_ _ _ nd=>(gQ (n:=2) rfl (fJ (qN 0 nd)<|fJ (qN 1 nd) gw))) (λ_ _ _=>ig) λ_ _ _=>(oH UK nX (dv 0) (dv 1)<|iG _)),λds μ Kd h=>?_⟩;unfold A3 at h;split at h
 .rename_i x y;refine⟨rfl,λhm hl=>?_⟩;obtain⟨xs,ys,ex,ey,oN,by_,kk⟩:=h;refine fF ex (fF ey ⟨sz (by rw[bH,gP,gP];lia),?_⟩);refine ia ⟨qh (d:=.mr x) ex,qh (d:=.mr y) ey⟩ (Ew λa b=>.bl<|decide (a<b)) (λd hd K' k'=>?_) ?_
  .obtain⟨p,hp,q,hq,rfl⟩:=zI hd;exact⟨rfl,k'⟩
  .rw[AM,<- zF D.bl (λa b=>decide (a<b))];refine⟨_,rfl,.keep ?_⟩;show Kd (.bl<|(List.zipWith (λa b=>decide (a<b)) xs ys).any id) μ;rw[any_none by_];exact kk
 .cases h
def Ao (F:jW K "few_paper" "few_paper" j8 f fd)(T:lA mg)(kZ:px P w K mg fB)(lK:mV P w K mg fB)(Fo:xP P w K mg fB):gD P w K mg fB kl 5 f fd (pA j8) (iB rV):=by
 refine oA F mM ⟨_,λhr=>(fG (qS 5 mM.nd<|qC kZ hr<|a2 (dv 0)<|dv 1)
  (fG (qS 6 mM.nd<|qC lK hr<|fK (dv 0)<|fK (dv 1)<|fK (dv 2)<|fK (dv 3) iL)
  (fP<|f9<|Bc true (qL (N:=["now","places","tables","many"]) (js:=[none,some 5,some 6,some 4]) mM<|by decide +kernel) (gY rfl T.range<|a1<|oP (dv 3) fM) (λ_ _ _ nd=>(qN 0 nd)) (λ_ _ _=>ig) λ_ _ _=>(qC Fo hr<|a3 (dv 1) (xI (qj hr) (dv 2) (dv 0) λ_ _=>rfl)<|dv 3)))),λds μ Kd h=>?_⟩
 unfold rV at h;split at h
 .rename_i n x y a m;refine⟨rfl,λhm hl=>?_⟩;obtain⟨cs,ts,rfl,rfl,S,Yg,Ws,X7,NG,kk⟩:=h;have lL:=S.lL;have nv:(fw n cs).length=cs.length+2:=fU n cs;refine⟨cs,rfl,S.lL,?_⟩;refine⟨cs,ts,rfl,rfl,S,Yg,Ws,?_⟩;refine⟨by lia,by lia,sz (by rw[iF];lia),?_⟩;refine zp (λds ys fZ=>∃(i c:Nat) (us:Us) (g:MS),ds=ky i c/\i+c=a.toNat+1/\ys=Ji us/\fZ=μ++g/\rb (μ++g) μ.length us ((List.range i).map λk=>uk (fw n cs) (fQ (fw n cs) ts<|k+1) m.toNat)) (ys:=[]) ⟨0,a.toNat+1,[],[],by rw[show(a+1).toNat=a.toNat+1 by lia];rfl,by lia,rfl,by rw[b8],rb.nil _ _⟩ ?_ ?_ ?_
  .rintro d sy ys fZ ⟨i,c,us,g,e,Jp,rfl,rfl,pm⟩;refine⟨trivial,λK' k'=>?_⟩;cases c with
   |zero=>cases e
   | succ c =>
    rw[h9]at e;cases e;have e1:qW ((mI<|a.toNat+1).zip<|nH (fw n cs) ts<|a.toNat+1) (.inl (i:Int))=some (.lst<|kQ (fw n cs).length<|fQ (fw n cs) ts<|i+1) :=
     vX (xs:=List.range<|a.toNat+1) (k:=i) (λk=>D.lst<|kQ (fw n cs).length<|fQ (fw n cs) ts<|k+1) (List.mem_range.mpr<|by lia)
    refine fF e1 ?_;refine⟨_,_,rfl,rfl,by lia,by lia,uj S<|i+1,X7,NG,λj ks g' tm=>?_⟩;rw[bq]at tm ⊢
    refine k' _ _ ⟨i+1,c,us++[(j,ks)],g++g',rfl,by lia,by unfold Ji;rw[bB];rfl,rfl,?_⟩;rw[<- bq]at tm ⊢
    rw[cW,bB];exact pm.snoc (by rw[lP];lia) tm
  .rintro ys fZ ⟨i,c,us,g,e,Jp,rfl,rfl,pm⟩;exact trivial
  .rintro zs fZ ⟨i,c,us,g,e,Jp,ez,rfl,pm⟩;cases c with
   |succ c=>rw[h9]at e;cases e
   | zero =>
    have:i=a.toNat+1:=by lia
    subst this;cases ez;have k2:=kk (μ++g).length us (g++[.lst (Ji us)]) (by rw[<- bq];exact pm.app<|aw _) (by rw[<- bq];exact jl) (by rw[lP];lia);rw[<- bq]at k2;exact Fz.keep k2
 .cases h
def yh (F:jW K "_law_young_good" "_law_young_good" jK f fd)(T:lA mg)(Fq:Fe P w K mg fB)(su:sk P w K mg fB)(Qq:G4 P w K mg fB):gD P w K mg fB kl 3 f fd (pA jK) (iB AR):=by
 refine oA F nY ⟨_,λhr=>(fG (qS 4 nY.nd<|qC Fq hr<|a2 (dv 0)<|dv 1)
  (fG (ji (PW.pt<|p4 (m4<|ic<|qo (T:= "list") (by simp) (by rfl) T.isinstance (by rfl) T.list bh<|dv 3)<|oq<|QT (sA T<|dv 3)<|dv 2)
  (fP<|f9 nG)
  hZ)
  (fG (k8 ba rfl (gY rfl T.range<|a1<|sA T<|dv 3) (qT 5 nY.nd)
  (fG (ji (m4<|ic<|qC su hr<|fK (dv 0)<|fK (dv 4)<|fK (dv 5)<|fK (iY (dv 3)<|dv 5) iL)
  (fP<|f9 nG)
  hZ)
  (fP (ji (PW.pt<|sE (UD (dv 5) fM)<|oS<|m4<|ic<|qC Qq hr<|fK (dv 0)<|fK (iY (dv 3)<|dv 5)<|fK (iY (dv 3)<|Bb (dv 5) fM)<|fK (iY (dv 3)<|Bb (dv 5) fM) iL)
  (fP<|f9 nG)
  hZ))))
  (fP<|f9<|WR (oH TU rH (dv 2) fM<|iG _)<|CZ<|oH UK nX (iY (iY (dv 3)<|tN fM) fM) (iY (dv 0)<|tN fM)<|iG _)))),λds μ Kd h=>?_⟩
 unfold AR at h;split at h
 .rename_i b y z j;refine⟨rfl,λhm hl=>?_⟩;obtain⟨n,cs,ts,a,m0,js,rfl,rfl,rfl,S,la,ha,Y,kk⟩:=h;have lL:=S.lL;have nv:(fw n cs).length=cs.length+2:=fU n cs;have nd:=tM S.n1 S.iI;have EH:∀ e∈fw n cs,0<=e:=λe he=>(hX S.n1 S.iI he).1;have Mo:kr ((fw n cs).map D.int) (-1)=some (.int n):=by rw[<- oG];exact tV _ _
  have yg:=DS S (a:=a) (by lia) (BY S la<|by lia);rw[sx]at yg;have ex:=Y.lst;have yl:=Y.len;have at_:∀ k,k<a->∃ p,kr (js.map D.mr) (k:Int)=some (.mr p)/\nP μ p=some ((gh (fw n cs) ts k).map D.int)/\((List.range a).map<|gh (fw n cs) ts)[k]?=some (gh (fw n cs) ts k):=λk hk=>by have e:=iD (show k<js.length by lia);exact⟨_,gR e,Y.row k _ e,by rw[mS,aY hk];rfl⟩
  refine⟨n,cs,ts,rfl,rfl,S,?_⟩;refine fF (zQ (x:=.mr j) ex) ?_;rw[AA];refine fF ex ?_;refine zc (c:=((js.map D.mr).length:Int)=(a:Int)) (λq=>absurd (by rw[gP,yl]) q) (λ_=>?_);refine fF ex ⟨by lia,by lia,?_⟩;rw[sx,gP,yl];refine iO (λds ρ fZ=>∃(k c:Nat) (u:av D),ds=ky k c/\k+c=a/\ρ=[some (.lst<|(fw n cs).map D.int),some (.lst<|ts.map nB),some (.int a),some (.mr j),some (.lst<|ts.map<|jk<|fw n cs),u]/\fZ=μ) ⟨0,a,none,rfl,by lia,rfl,rfl⟩ ?_ ?_
  .rintro d sy ρ fZ ⟨k,c,u,e,Ir,rfl,rfl⟩;refine⟨trivial,λnx pD=>?_⟩;cases c with
   |zero=>cases e
   | succ c =>rw[h9]at e;cases e;obtain⟨p,ap,lp,hp⟩:=at_ k (by lia);have gr:=yg.row k _ hp;refine fF ex (fF ap ⟨fw n cs,ts,_,rfl,rfl,by lia,EH,lp,gr,?_⟩);refine jV (c:=(0:Int)<k) (λk1=>?_) (λk1=>pD _ _ ⟨k+1,c,_,rfl,by lia,rfl,rfl⟩);obtain⟨i,rfl⟩:∃ i,k=i+1:=⟨k - 1,by lia⟩;obtain⟨p0,U4,X3,hp0⟩:=at_ i (by lia);have gr0:=yg.row i _ hp0;rw[show(i:Int)=((i+1:Nat):Int) - 1 by lia]at U4;refine fF ex (fF ap<|fF ex<|fF U4<|fF ex<|fF U4 ⟨fw n cs,_,_,_,rfl,by lia,nd,lp,X3,X3,gr.ok,gr0.ok,gr0.ok,yg.above i _ _ hp hp0,?_⟩);exact pD _ _ ⟨i+1+1,c,_,rfl,by lia,rfl,rfl⟩
  .rintro ρ fZ ⟨k,c,u,e,Ir,rfl,rfl⟩;refine⟨trivial,?_⟩;refine oC (c:=(a:Int)=0) (λa0=>.keep kk) (λa0=>?_);obtain⟨p,ap,lp,hp⟩:=at_ (a - 1) (by lia);rcases yg.last with q1|⟨r,x,q1,q2,q3⟩
   .exact absurd q1 a0
   rw[gP,pF,hp]at q1;cases q1;have e:=iD (show a - 1<js.length by lia);have am:kr (js.map D.mr) (-1)=some (.mr _):=tW (by rw[gP,yl,mS,e];rfl);refine fF ex<|fF am<|fF (Y.row _ _ e)<|fF (gR (i:=0) q2)<|fF Mo<|.keep ?_;show Kd (.bl<|decide (x<n)) _;rw[aI q3];exact kk
 .cases h
def HS (F:jW K "answer" "answer" nh f fd)(T:lA mg)(qy:tU P w K mg fB)(qw:qr P w K mg fB)(xX:xO P w K mg fB)(Jg:zu P w K mg fB)(yC:rA P w K mg fB)(DD:vn P w K mg fB):gD P w K mg fB kl 218 f fd (pA nh) (iB A6):=by
 refine oA F ow ⟨_,λhr=>(fG (qS 3 ow.nd<|qC qy hr<|a3 (dv 0) (dv 1)<|dv 2)
  (fG (ji (zW<|dv 3)
  (fP<|f9<|nq<|a3 kC (iY (dv 3) fM)<|iY (dv 3) fM)
  hZ)
  (fG (qS 4 ow.nd<|qC qw hr<|a3 (dv 0) (dv 1)<|dv 2)
  (fG (qS 5 ow.nd<|qC xX hr<|fK (dv 0)<|fK (dv 1)<|fK (dv 2)<|fK (dv 4) iL)
  (fG (qS 6 ow.nd<|MA Jg hr.le rfl (fK (dv 0)<|fK (dv 1)<|fK (dv 2)<|fK fM iL))
  (fP<|f9<|nq<|fK kC<|fK (dv 6)<|fK (qC yC hr<|fK (dv 0)<|fK (dv 1)<|fK (dv 2)<|fK (dv 4) iL)<|fK (qC DD hr<|fK (dv 0)<|fK (dv 1)<|fK (dv 2)<|fK (dv 4)<|fK (dv 5) iL) iL)))))),λds μ Kd h=>?_⟩
 unfold A6 at h;split at h
 .rename_i n x y;refine⟨rfl,λhm hl=>?_⟩;obtain⟨h0,cs,ts,rfl,rfl,S,Yo,kk⟩:=h;have lL:=S.lL;have ft:=S.takes.lL;have nv:(fw n cs).length=cs.length+2:=fU n cs;have el:(fw n cs).length - 1=cs.length+1:=by lia
  refine⟨cs,ts,rfl,rfl,S.lL,S.takes,S.n2,?_⟩;cases hb:jT (fw n cs) ts with
  | some p =>have k2:=kk _ []<|.bar p hb;rw[b8]at k2;exact⟨zs,.keep k2⟩
  | none =>
   refine⟨cs,ts,rfl,rfl,S,Yo,?_⟩;unfold rR;rw[hb];intro a ha la;obtain⟨tf1,tf2⟩:=zT S la;refine⟨cs,ts,rfl,rfl,S,by lia,by lia,?_⟩;rw[sx,show Pl (fQ (fw n cs) ts (a+1) 0<|cs.length+1) cs.length=.int (fQ (fw n cs) ts (a+1) 0<|cs.length+1)from aE (by lia)];have tp:=(jX (kH S<|a+1) (i:=0) (j:=cs.length+1) (by lia)<|by lia).1;have cp:=Uc S Yo a 0 (cs.length+1) (by lia) (by lia) tf2;refine⟨h0,cs,ts,rfl,rfl,S,Yo,?_⟩;unfold MX;rw[hb];intro a' _ la';obtain rfl:=la.uniq la';rw[el,aE ⟨bw 0,cp⟩];obtain⟨t1,t2,t3,t4⟩:=MV S Yo la (bw 0) cp;generalize G7 (fw n cs) ts (a+1) 0 (cs.length+1) 0=t at t1 t2 t3 t4;have M:RE n cs ts a t:=⟨hb,la,ha,t1,t2,t3,by lia⟩;have tc:fQ (fw n cs) ts (a+1) 0 (cs.length+1)=(t.cnt:Int) - 1:=by lia
   have ep:(fQ (fw n cs) ts (a+1) 0<|cs.length+1).toNat=t.cnt - 1:=by lia
   refine⟨cs,ts,rfl,rfl,S,by lia,by lia,λj js g y1 y2 y3 y4 y5=>?_⟩;refine⟨cs,ts,rfl,rfl,S,by lia,by lia,by lia,by lia,λj2 us g2 pm f f1=>?_⟩;rw[sx]at y1;rw[sx,ep,bq]at pm;rw[bq]at f;have yy:zC (μ++g) μ.length (fw n cs) ts a j js:=⟨y1,y2,y3,y4,y5⟩;have yy2:=yy.app (g:=g2);rw[bq]at yy2;have sv:μ.length<=(μ++g).length:=by rw[lP];lia
   have pm2:=pm.app (g:=[]) sv;rw[b8]at pm2;have k2:=kk _ (g++g2) (.make a t j js j2 us M yy2 f (by lia) pm2);rw[<- bq]at k2;exact⟨zs,.keep k2⟩
 .cases h
def wU (F:jW K "_law_table_shown" "_law_table_shown" jv f fd)(T:lA mg)(su:sk P w K mg fB)(Qp:G3 P w K mg fB):gD P w K mg fB kl 2 f fd (pA jv) (iB AV):=by
 refine oA F jB ⟨_,λhr=>(fG (qS 5 jB.nd<|Mz rfl (by rfl) T.dict (by rfl) T.zip (by rfl) T.range (dv 0)<|sA T<|dv 0)
  (fG (k8 ba rfl (gY rfl T.range<|a1<|sA T<|dv 3) (qT 6 jB.nd)
  (fG (qS 7 jB.nd<|iY (dv 3)<|dv 6)
  (fG (ji (PW.pt<|p4 (m4<|ic<|qC su hr<|fK (dv 0)<|fK (dv 1)<|fK (dv 2)<|fK (dv 7) iL)<|oq<|PW.pt<|sE (UD (dv 6) fM)<|oS<|ic<|qC Qp hr<|a2 (dv 7)<|iY (dv 3)<|Bb (dv 6) fM)
  (fP<|f9 nG)
  hZ)
  (fP (k8 ba rfl (gY rfl T.range<|a1<|rX mulC p6 (dv 6)<|CY V6 JU (by rfl) T.int cz<|a1<|oH gtC nX (dv 2) fM<|iG _) (qT 8 jB.nd)
  (fP (ji (ic<|lR (anyC rfl) z6 (by rfl) T.any eW<|a1<|Bc false (qL (N:=["_law_k","_law_row","_law_last","_law_t","_law_u","_law_at"]) (js:=[none,some 7,some 4,some 6,some 8,some 5]) jB<|by decide +kernel) (gY rfl T.range<|a1<|sA T<|dv 0) (λ_ _ _ nd=>(qN 0 nd)) (λ_ _ _=>ig) λ_ _ _=>(oH UK nX (iY (dv 1)<|dv 0) (iY (iY (dv 2)<|Bb (Bb (dv 3)<|dv 4) fM)<|xI (qj hr) (dv 5) (iY (iY (dv 2)<|dv 4)<|dv 0) λ_ _=>rfl)<|iG _))
  (fP<|f9 nG)
  hZ)))))))
  (fP<|f9 nG))),λds μ Kd h=>?_⟩
 unfold AV at h;split at h
 .rename_i b f a j y;refine⟨rfl,λhm hl=>?_⟩;obtain⟨es,ts,tb,ls,ks,rfl,rfl,EH,nd,nv,Tp,Yg,tm,hy,g,kk⟩:=h;have mQ:((ks.map D.mr).length:Int)=(tb.length:Nat):=by rw[gP,tm.len]
  have VZ:((es.map D.int).length:Int)=(es.length:Nat):=by rw[gP]
  refine⟨es,rfl,VZ,nd,cj nv (by show 2000<sizeLine;decide),?_⟩;refine fF tm.lst ?_;refine⟨by lia,by lia,?_⟩;refine tJ tb.length mQ (λds ρ fZ=>∃(k c:Nat) (u v w:av D),ds=ky k c/\k+c=tb.length/\ρ=[some (.lst<|es.map D.int),some (.lst<|ts.map<|jk es),some (.int a),some (.mr j),some y,some (.jS (es.map .inl)<|Il es.length),u,v,w]/\fZ=μ) ⟨0,tb.length,none,none,none,rfl,dw _,rfl,rfl⟩ ?_ ?_
  .rintro d sy ρ fZ ⟨k,c,u,v,w,e,Ir,rfl,rfl⟩;refine⟨trivial,λnx pD=>?_⟩;cases c with
   |zero=>cases e
   | succ c =>
    rw[h9]at e;cases e;obtain⟨p,r,Jl,_,ap,lp⟩:=tm.get (t:=k) (by lia);have gr:=g.row k r Jl;have hrl:=gr.ok.len;refine fF tm.lst<|fF ap ?_;dsimp only;refine uN (!true||(decide ((0:Int)<k)&&false)) (.or (.not<|.FA λK k'=>⟨es,ts,r,rfl,rfl,nv,EH,lp,gr,k'⟩) λ_=>.and (.FA λK k'=>k') λk1=>.FA λK k'=>?_) (λq=>by simp at q) (λ_=>rY ?_)
    .have k1:=bR k1;obtain⟨p0,r0,hr0,_,U4,X3⟩:=tm.get (t:=k - 1) (by lia);rw[show((k - 1:Nat):Int)=(k:Int) - 1 by lia]at U4;exact fF tm.lst (fF U4 ⟨r,r0,lp,X3,by lia,g.up (k - 1) r r0 (by rw[show k - 1+1=k by lia];exact Jl) hr0,k'⟩)
    have eN:((k:Int)*(if(decide (0<a))=true then 1 else 0))=((if 0<a then k else 0:Nat):Int):=by
     by_cases pa:0<a
     .simp[pa]
     .simp[pa]
    refine⟨(by unfold Jh;by_cases pa:0<a<;>simp[pa]<;> lia),by rw[eN];split<;>lia,by rw[eN];split<;>lia,?_⟩;refine tJ _ eN (λds ρ t9=>∃(i c:Nat) (w:av D),ds=ky i c/\i+c=(if 0<a then k else 0)/\ρ=[some (.lst<|es.map D.int),some (.lst<|ts.map<|jk es),some (.int a),some (.mr j),some y,some (.jS (es.map .inl)<|Il es.length),some (.int (k:Int)),some (.mr p),w]/\t9=fZ) ⟨0,_,w,rfl,dw _,rfl,rfl⟩ ?_ ?_
    .rintro d2 ds2 oh iP ⟨i,c',w2,e2,Jp,rfl,rfl⟩;refine⟨trivial,λnx2 Pg=>?_⟩;cases c' with
     |zero=>cases e2
     | succ c' =>
      rw[h9]at e2;cases e2;have pa:0<a:=by
       by_cases z:0<a
       .exact z
       .rw[aF z]at Jp;lia
      rw[aE pa]at Jp;obtain⟨hll,Q5,j',oi,rfl,RO⟩:=hy pa;obtain⟨q1,f1,Wm,_,a1,l1⟩:=RO.get (t:=i) (by lia);obtain⟨q2,f2,Wl,_,a2,l2⟩:=RO.get (t:=k - i - 1) (by lia);rw[show((k - i - 1:Nat):Int)=(k:Int) - (i:Int) - 1 by lia]at a2;have XY:=Q5 f1<|kq Wm;have XX:=Q5 f2<|kq Wl;have ab:=g.two pa k i r f1 f2 Jl (by lia) Wm Wl;refine uN false (.FA λK k'=>?_) (λq=>by cases q) (λ_=>rY<|Pg _ _ ⟨i+1,c',_,rfl,by rw[aE pa];lia,rfl,rfl⟩);refine⟨by lia,by lia,sz (by rw[iF];lia),?_⟩;rw[VZ,sx];refine je (xs:=List.range es.length) trivial (λx:Nat=>D.int<|0+(x:Nat)) (λ_=>D.bl false) (λx hx K' k2=>?_) ?_
      .rw[cc]at hx;obtain⟨z,hz⟩:∃ z,r[x]?=some z:=⟨_,iD<|by lia⟩;obtain⟨m,Jo⟩:∃ m,f1[x]?=some m:=⟨_,iD (by rw[XY.len];exact hx)⟩;have Jn:=XY.mem m<|kq Jo;have e0:kr (r.map D.int) (0+(x:Int))=some (.int z):=by rw[c4];exact gR hz
       have e1:kr (f1.map D.int) (0+(x:Int))=some (.int m):=by rw[c4];exact gR Jo
       have a3:kr (f2.map D.int) ((es.idxOf m:Nat):Int)=some (.int<|rowAt es f2 m):=gR<|ka XX Jn;refine fF lp<|fF e0<|fF RO.lst<|fF a2<|fF RO.lst<|fF a1<|fF l1<|fF e1<|fF (Pu Jn)<|fF l2<|fF a3 ?_;show K' (some<|.bl<|decide (z<rowAt es f2 m)) _;rw[aO (Int.not_lt.mpr<|ab x z m hz Jo)];exact k2
      .refine⟨(List.range es.length).map λ_=>false,by rw[aQ];rfl,?_⟩;show K (.bl<|((List.range es.length).map λ_=>false).any id) _;rw[show(((List.range es.length).map λ_=>false).any id)=false by rw[List.any_map];exact List.any_eq_false.mpr λ_ _=>by simp];exact k'
    .rintro oh iP ⟨i,c',w2,e2,Jp,rfl,rfl⟩;exact⟨trivial,pD _ _ ⟨k+1,c,_,_,_,rfl,by lia,rfl,rfl⟩⟩
  .rintro ρ fZ ⟨k,c,u,v,w,e,Ir,rfl,rfl⟩;exact⟨trivial,.keep kk⟩
 .cases h
def An (F:jW K "_law_few_shown" "_law_few_shown" j7 f fd)(T:lA mg)(Fq:Fe P w K mg fB)(yD:rB P w K mg fB):gD P w K mg fB kl 3 f fd (pA j7) (iB EY):=by
 refine oA F lC ⟨_,λhr=>(fG (qS 5 lC.nd<|qC Fq hr<|a2 (dv 0)<|dv 1)
  (fG (ji (PW.pt<|p4 (m4<|ic<|qo (T:= "list") (by simp) (by rfl) T.isinstance (by rfl) T.list bh<|dv 4)<|oq<|QT (sA T<|dv 4)<|oP (dv 2) fM)
  (fP<|f9 nG)
  hZ)
  (fG (qS 6 lC.nd<|mw false iL)
  (fG (k8 ba rfl (gY rfl T.range<|a1<|oP (dv 2) fM) (qT 7 lC.nd)
  (fG (ji (PW.pt<|p4 (m4<|ic<|qo (T:= "list") (by simp) (by rfl) T.isinstance (by rfl) T.list bh<|iY (dv 4)<|dv 7)<|oq<|QT (sA T<|iY (dv 4)<|dv 7)<|dv 3)
  (fP<|f9 nG)
  hZ)
  (fG (ji (m4<|ic<|qC yD hr<|fK (dv 0)<|fK (dv 5)<|fK (dv 7)<|fK (iY (dv 4)<|dv 7)<|fK (dv 6) iL)
  (fP<|f9 nG)
  hZ)
  (fP<|qS 6 lC.nd<|iY (dv 4)<|dv 7))))
  (fP<|f9<|WR (oH TU rH (dv 3) fM<|iG _)<|CZ<|oH UK nX (iY (iY (iY (dv 4)<|tN fM)<|tN fM) fM) (iY (dv 0)<|tN fM)<|iG _))))),λds μ Kd h=>?_⟩
 unfold EY at h;split at h
 .rename_i b y a m j;refine⟨rfl,λhm hl=>?_⟩;obtain⟨n,cs,ts,us,pp,rfl,rfl,ex,S,pm,Yg,Ws,X7,NG,g,kk⟩:=h;have lL:=S.lL;have nv:(fw n cs).length=cs.length+2:=fU n cs;have nd:=tM S.n1 S.iI;have EH:∀ e∈fw n cs,0<=e:=λe he=>(hX S.n1 S.iI he).1;have Mo:kr ((fw n cs).map D.int) (-1)=some (.int n):=by rw[<- oG];exact tV _ _
  have gl:=g.len;have ul:((Ji us).length:Int)=a+1:=by unfold Ji;rw[gP,pm.len];exact gl
  have at_:∀ k,k<pp.length->∃ u tb,us[k]?=some u/\pp[k]?=some tb/\og μ 0 u.1 u.2 tb:=λk hk=>by
   have hu:k<us.length:=by rw[pm.len];exact hk
   exact⟨_,_,iD hu,iD hk,pm.tab k _ _ (iD hu)<|iD hk⟩
  refine⟨n,cs,ts,rfl,rfl,S,?_⟩;refine fF (zQ (x:=.mr j) ex) ?_;rw[AA];refine fF ex ?_;refine zc (c:=((Ji us).length:Int)=a+1) (λq=>absurd ul q) (λ_=>?_);refine⟨zs,by lia,by lia,?_⟩;refine iO (FgO (some<|.lst<|(fw n cs).map D.int) (some<|.lst<|ts.map nB) (some<|.int a) (some<|.int m) (some<|.mr j) (some<|.lst<|ts.map<|jk<|fw n cs) us pp μ) (.mk 0 (a+1).toNat (.lst []) none rfl (by lia) λz=>absurd z<|cf _) ?_ ?_
  .intro d sy ρ fZ hI;cases hI with|mk k c ld v e Ir ZN=>?_;refine⟨trivial,λnx pD=>?_⟩;cases c with
   |zero=>cases e
   | succ c =>
    rw[h9]at e;cases e;obtain⟨u,tb,hu,Tp,tm⟩:=at_ k (by lia);have aq:kr (Ji us) (k:Int)=some (.mr u.1):=gR (g:=λu:Nat×au Nat=>D.mr u.1) hu;have gm:=g.many k tb Tp;have ty:Qv (.mr u.1) μ=some "list":=zQ (x:=.mr u.1) tm.lst;refine fF ex<|fF aq<|fF ty ?_;rw[AA];refine fF ex<|fF aq<|fF tm.lst ?_;refine zc (c:=((u.2.map D.mr).length:Int)=m) (λq=>absurd (by rw[gP,tm.len];exact gm) q) (λ_=>?_);refine fF ex (fF aq ⟨fw n cs,ts,tb,lastOf pp k,u.2,rfl,rfl,EH,nd,by lia,by lia,by lia,tm,λk0=>?_,g.tab k tb Tp,?_⟩)
    .obtain⟨i,rfl⟩:∃ i,k=i+1:=⟨k - 1,by lia⟩;obtain⟨u0,t0,h1,h2,tm0,rfl⟩:=ZN<|Nat.succ_pos i;rw[Nat.add_sub_cancel]at h1 h2;have el:lastOf pp (i+1)=t0:=by show(pp[i]?).getD []=t0;rw[h2];rfl
     rw[el];have:=g.many i t0 h2;refine⟨by lia,λr Jl=>?_,u0.1,u0.2,rfl,tm0⟩;obtain⟨i',Gs,e'⟩:=aJ Jl;exact((g.tab i t0 h2).row i' r<|by rw[iD Gs,e']).ok
    .exact fF ex (fF aq<|pD _ _<|.mk (k+1) c (.mr u.1) _ rfl (by lia) λ_=>⟨u,tb,hu,Tp,tm,rfl⟩)
  .intro ρ fZ hI;cases hI with|mk k c ld v e Ir ZN=>?_;refine⟨trivial,?_⟩;refine oC (c:=m=0) (λm0=>.keep kk) (λm0=>?_);rcases g.last with q1|⟨tb,r,x,q1,q2,q3,q4⟩
   .exact absurd q1 m0
   obtain⟨u,tb',hu,Tp,tm⟩:=at_ (pp.length - 1) (by lia);rw[q1]at Tp;cases Tp;have tl:=g.many _ tb q1;obtain⟨p,r',Jl,hp,_,lp⟩:=tm.get (t:=tb.length - 1) (by lia);rw[q2]at Jl;cases Jl;have aq:kr (Ji us) (-1)=some (.mr u.1):=tW (by unfold Ji;rw[gP,pm.len,mS,hu];rfl);have ap':kr (u.2.map D.mr) (-1)=some (.mr p):=tW (by rw[gP,tm.len,mS,hp];rfl);have ax:kr (r.map D.int) 0=some (.int x):=gR (i:=0) q3;refine fF ex<|fF aq<|fF tm.lst<|fF ap'<|fF lp<|fF ax<|fF Mo<|.keep ?_;show Kd (.bl<|decide (x<n)) μ;rw[aI q4];exact kk
 .cases h
def Al (F:jW K "_law_stretches" "_law_stretches" j5 f fd)(T:lA mg)(DF:G2 P w K mg fB):gD P w K mg fB kl 2 f fd (pA j5) (iB uG):=by
 refine oA F jI ⟨_,λhr=>(fG (qS 2 jI.nd fM)
  (fG (qS 3 jI.nd fM)
  (fG (k8 ba rfl (gY rfl T.range<|a1<|sA T<|dv 0) (qT 4 jI.nd)
  (fP (ji (Nv (dv 2)<|iY (dv 0)<|tN fM)
  (fG (qS 2 jI.nd<|lR (Lb rfl) sG (by rfl) T.max bP<|a1<|GV false (qL (N:=["_law_text","_law_old","_law_border","_law_end"]) (js:=[none,none,some 0,some 2]) jI<|by decide +kernel) (iJ<|fS (fR 0) (fC 0) (fS (fR 1) (fC 1) iK fN)<|fH (fC 1) fN) (ib<|fH (fC 0)<|fH (fC 1) fN) (jc<|dv 1) (λ_ _ _ nd=>(gQ (n:=2) rfl (fJ (qN 0 nd)<|fJ (qN 1 nd) gw))) (λ_ _ _=>ig) λ_ _ _=>(qC DF hr<|a3 (dv 2) (dv 0)<|dv 3))
  (fP<|qS 3 jI.nd<|oP (dv 3) fM))
  hZ)))
  (fP<|f9<|dv 3)))),λds μ Kd h=>?_⟩
 unfold uG at h;split at h
 .rename_i b y;refine⟨rfl,λhm hl=>?_⟩;obtain⟨n,cs,ts,rfl,rfl,S,EJ,kk⟩:=h;have lL:=S.lL;have ft:=S.takes.lL;have n2:=S.n2;have nv:(fw n cs).length=cs.length+2:=fU n cs;have hs:=qc S 60;have m0:=oF n cs;have xf:∀ x∈fw n cs,0<=x/\x<=n:=λx hx=>hX S.n1 S.iI hx;have al:kr ((fw n cs).map D.int) (-1)=some (.int n):=by have g:=qG n cs;exact tW (by rw[gP,mS,g];rfl)
  obtain⟨es,he⟩:∃ es,es=fw n cs:=⟨_,rfl⟩;rw[<- he]at kk nv hs m0 xf al ⊢
  obtain⟨F,hF⟩:∃ F,F=i7 es ts 60:=⟨_,rfl⟩;rw[<- hF]at kk hs;refine⟨by rw[gP];lia,by rw[gP];lia,?_⟩;rw[gP,sx];refine iO (λds ρ fZ=>∃(k c M:Nat) (v:av D),ds=ky (k:Int) c/\k+c=es.length/\M<=k/\(∀ m,m<M->zd F m 0<n)/\ρ=[some (.lst<|es.map D.int),some (.lst<|ts.map nB),some (.int<|zd F M 0),some (.int (M:Int)),v]/\fZ=μ) ⟨0,es.length,0,none,rfl,by lia,by lia,λm hm=>by lia,rfl,rfl⟩ ?_ ?_
  .rintro d sy ρ fZ ⟨k,c,M,v,e,Ir,hMk,Q5,rfl,rfl⟩;refine⟨trivial,λnx pD=>?_⟩;cases c with
   |zero=>cases e
   | succ c =>
    rw[h9]at e;cases e;refine fF al ?_;refine jV (c:=zd F M 0<n) (λq=>?_) (λq=>?_)
    .have AG:=tq hs m0 M;have h2:=xf _ AG;refine⟨sz (by rw[gP];lia),?_⟩;refine je trivial nB (λt=>D.int<|iS es t.1<|zd F M 0) (λt ht K' k'=>?_) ?_
     .have hz:=S.takes.ok t ht;refine⟨rfl,?_⟩;exact⟨es,rfl,by lia,by rw[jf];lia,by rw[ml];exact hz.2.1,h2.1,by rw[jf];lia,AG,by rw[ml];exact k'⟩
     .refine⟨ts.map λt=>iS es t.1<|zd F M 0,(by show some _=_;rw[aQ];rfl),(by simpa using EJ),λm p1 p2=>?_⟩;have em:m=zd F (M+1) 0:=by
       show m=F (zd F M 0);rw[hF]at p1 p2 ⊢
       exact La (λt ht=>(S.takes.ok t ht).2.2.2) p1 p2
      rw[em];refine pD _ _ ⟨k+1,c,M+1,_,rfl,by lia,by lia,λm' Jo=>?_,rfl,rfl⟩;rcases cg m' M with z|z
      .exact Q5 m' z
      .rw[show m'=M by lia];exact q
    .exact pD _ _ ⟨k+1,c,M,_,rfl,by lia,by lia,Q5,rfl,rfl⟩
  .rintro ρ fZ ⟨k,c,M,v,e,Ir,hMk,Q5,rfl,rfl⟩;cases c with
   |succ c=>rw[h9]at e;cases e
   |zero=>exact⟨trivial,.keep<|kk M (by lia) Q5⟩
 .cases h
set_option maxHeartbeats 8000000 in
def SG (F:jW K "law" "law" nK f fd)(T:lA mg)(XF:RA P w K mg fB)(jR:xN P w K mg fB)(Uu:MR P w K mg fB)(Uv:MT P w K mg fB)(Jf:zt P w K mg fB)(Nl:Dk P w K mg fB)(Qn:GZ P w K mg fB)(xY:xR P w K mg fB)(Bz:MM P w K mg fB)(BC:MQ P w K mg fB)(BB:MP P w K mg fB)(By:tQ P w K mg fB)(t6:Di P w K mg fB)(DC:vm P w K mg fB)(DB:vk P w K mg fB)(xX:xO P w K mg fB):gD P w K mg fB kl 220 f fd (pA nK) (QI K):=by
 refine F.ok kR (λvs H Q E h=>?_) (λlj A fY s H vs Q E hr h=>?_)
 .obtain⟨a,ns,rfl,_⟩:=h;rfl
 .obtain⟨a,ns,rfl,hs,hl,k⟩:=h;refine⟨_,iU (uv (i:=1) kR.nd rfl (by first | exact Or.inl rfl | exact Or.inr rfl)<|wN XF (hr.mono<|by first | decide | exact aw _ | lia) rfl (gg (lN 0) iV)) (fG (qS 2 kR.nd<|oP fM<|qC jR hr<|a2 (dv 1) fM)
   (fG (qS 3 kR.nd<|qC Uu hr<|a2 (dv 1)<|dv 2)
   (fG (qS 4 kR.nd<|iY (mw false<|a2 (qC jR hr<|a2 (dv 1) fM) fM)<|CY V6 JU (by rfl) T.int cz<|a1<|oH TU rH (qC jR hr<|a2 (dv 1) fM) fM<|iG _)
   (fG (sC1 5 true kR.nd (qL (N:=["_law_k","_law_box_here","_law_size"]) (js:=[none,some 1,some 2]) kR<|by decide +kernel) (gY rfl T.range<|a1<|dv 4) (λ_ _ _ nd=>(qN 0 nd)) (λ_ _ _=>ig) λ_ _ _=>(qC Uv hr<|a2 (dv 1)<|dv 2))
   (Hb (ji (PW.pt<|sE (UD (dv 4) fM)<|oS<|UD (qC jR hr<|a2 (dv 1) fM) fM)
   (fP<|qS 5 kR.nd<|qC Jf hr<|fK (dv 1)<|fK (dv 2)<|fK (dv 3)<|fK (dv 5) iL)
   hZ)
   (fG (sC1 6 false kR.nd (qL (N:=["_law_text","_law_box_here"]) (js:=[none,some 1]) kR<|by decide +kernel) (jc<|dv 5) (λ_ _ _ nd=>(qN 0 nd)) (λ_ _ _=>ig) λ_ _ _=>(nq<|a2 (dv 0)<|qC jR hr<|a2 (dv 1) fM))
   (fG (qS 7 kR.nd<|oP (oP (mw false<|a1 fM)<|dv 3)<|mw false<|a1<|dv 2)
   (fG (qS 8 kR.nd<|qC Nl hr<|a3 (dv 2) (CY xa (qA (m:=false)) (by rfl) T.list bh<|a1<|dv 3)<|CY xa (qA (m:=false)) (by rfl) T.list bh<|a1<|dv 6)
   (fG (qS 9 kR.nd<|qC Qn hr<|a2 (dv 7)<|dv 6)
   (fG (ji (JO<|dv 9)
   (fG (qS 10 kR.nd<|qC xY hr<|a2 (dv 7)<|dv 6)
   (fP<|f9<|qC Bz hr<|a2 (dv 8)<|nq<|a3 kC (iY (dv 10) fM)<|iY (dv 10) fM))
   hZ)
   (fG (ji (PW.pt<|p4 (m4<|ic<|qo (T:= "tuple") (by simp) (by rfl) T.isinstance (by rfl) T.tuple cQ<|dv 8)<|p4 (QT (sA T<|dv 8) fM)<|p4 (QT (iY (dv 8) fM) kC)<|oq<|m4<|ic<|qC BC hr<|a1<|iY (dv 8) fM)
   (fP<|f9 nG)
   hZ)
   (fG (ji (PW.pt<|p4 (l9 (K7 (n:=3)<|Qu hr<|by decide) JV (qC BB hr<|a3 (dv 3) (dv 6)<|iY (dv 8) fM) (nq<|a2 (rX mulC p6 kC<|dv 2)<|dv 9)<|iG _)<|oq<|m4<|ic<|qC By hr<|fK (dv 7)<|fK (dv 6)<|fK (dv 9)<|fK (iY (dv 8) fM) iL)
   (fP<|f9 nG)
   hZ)
   (fG (qS 11 kR.nd<|qC t6 hr<|a1<|iY (dv 8) fM)
   (fG (ji (PW.pt<|sE (Nw (qC jR hr<|a2 (dv 1) fM) fM)<|oS<|m4<|ic<|qC DC hr<|fK (dv 7)<|fK (dv 6)<|fK (dv 9)<|fK (dv 11)<|fK (iY (dv 8) fM) iL)
   (fP<|f9 nG)
   hZ)
   (fP<|f9<|MB (oH geC nX (dv 11) (Bb (qC DB hr<|a2 (dv 7)<|dv 6) fM)<|iG _)<|CZ<|qC Bz hr<|a2 (qC xX hr<|fK (dv 2)<|fK (CY xa (qA (m:=false)) (by rfl) T.list bh<|a1<|dv 3)<|fK (CY xa (qA (m:=false)) (by rfl) T.list bh<|a1<|dv 6)<|fK (dv 9) iL)<|dv 11))))))))))))))),?_⟩
  refine⟨ns,hs,λb q H0 B0 hb0 rp S0=>?_⟩;refine SR (m:=10) B0 ?_ k;refine⟨rfl,by decide,by decide,λv v0 v1=>?_⟩;refine⟨rfl,by lia,by lia,λcs CH hc=>?_⟩;refine⟨rfl,by decide,by decide,λw w0 w1=>⟨zs,rfl,by decide,by decide,λu u0 u1=>?_⟩⟩;obtain⟨mm,em,mm0,mm1⟩:∃ mm,kr [D.int w,D.int 20] (if(false != decide (u=0))=true then 1 else 0)=some (.int mm)/\0<=mm/\mm<=20:=by
   by_cases q:u=0
   .rw[aI q];exact⟨20,rfl,by decide,by decide⟩
   .rw[aO q];exact⟨w,rfl,w0,by lia⟩
  refine fF em ?_;refine⟨by lia,by lia,sz (by rw[iF];lia),?_⟩;refine qJ Nr (λl=>(l.length:Int)=13+v/\OX l) trivial (λd hd K' k'=>⟨rfl,by lia,by lia,λl hl ho=>k' l ⟨by lia,ho⟩⟩) λls US hg=>?_;rw[iF]at US;refine⟨λkO fZ=>∃ vP:au (au Nat),vP.length=mm.toNat/\Good (13+v) vP/\kO=[none,some (.mr 0),some (.int<|13+v),some (.lst<|cs.map D.int),some (.int mm),some (.mr 1),none,none,none,none,none,none]/\fZ=[.box,.lst (vP.map Nr)],?_,?_⟩
  .refine jV (λhp=>?_) (λhp=>⟨ls,US,hg,rfl,rfl⟩);refine⟨rfl,by decide,by decide,λx x0 x1=>?_⟩;refine jV (λ_=>?_) (λ_=>⟨ls,US,hg,rfl,rfl⟩);refine⟨rfl,by decide,by lia,by lia,cs,ls,rfl,by lia,hc,rfl,λe=>by rw[e]at US;simp at US;lia,by lia,hg,λvP oN Q6=>⟨vP,oN.trans US,Q6,rfl,rfl⟩⟩
  rintro kO fZ ⟨vP,oN,Q6,rfl,rfl⟩;refine fF rfl ⟨sz (by rw[gP];lia),?_⟩;refine qJ nB (λt=>(t.1.length:Int)=13+v/\OX t.1/\0<=t.2/\t.2<=60) (by exact rfl) (λd hd K' k'=>?_) λts UO hgt=>?_
  .obtain⟨l,ZP,rfl⟩:=List.mem_map.mp hd;have:=Q6 l ZP;exact⟨rfl,by decide,by decide,λo o0 o1=>⟨zs,k' (l,o) ⟨this.1,this.2,o0,by lia⟩⟩⟩
  rw[gP]at UO;have S:gv (13+v) cs ts:=⟨by lia,by lia,by lia,hc,by lia,hgt⟩;have nv:(fw (13+v) cs).length=cs.length+2:=fU _ cs;refine nLf ?_;refine⟨zs,by rw[gP];exact sz (by show 1+cs.length<=_;lia),zs,by rw[lP,gP];exact sz (by show 1+cs.length+1<=_;lia),?_⟩;rw[oG];refine⟨⟨_,rfl⟩,cs,ts,rfl,rfl,S,by lia,λd g ht=>?_⟩;refine⟨13+v,cs,ts,rfl,rfl,S,by lia,?_⟩;unfold rR;cases ht with
  | bar p hb =>rw[hb];refine⟨13+v,cs,ts,rfl,rfl,S.lL,S.n1,S.n2,S.iI,S.takes,?_⟩;rw[hb];exact⟨zs,_,rfl,rfl,JW (by simp) (λd hd=>by simp only[a6,aN,cb]at hd;rcases hd with rfl|rfl|rfl<;>trivial),rfl⟩
  | make a t j js j2 us M y f f1 pm =>
   rw[M.QY];intro a' UX la;obtain rfl:=la.uniq M.least;have m1:=M.dep;obtain⟨tf1,tf2⟩:=zT S M.least;have mc:=M.cnt;have tp:=(jX (kH S<|a'+1) (i:=0) (j:=cs.length+1) (by lia)<|by lia).1;have fg:=LZ S (a:=a') (m:=t.cnt - 1) (by lia);rw[show((t.cnt - 1:Nat):Int)=(t.cnt:Int) - 1 by lia]at fg;have EJ:=zB S M.QY;have n1:=S.n1;dsimp only;refine uN false (.FA λK k=>k) (λq=>by cases q) (λ_=>rY ?_);dsimp only;refine uN (!true||(false||(false||!true))) (.or (.not<|.FA λK k=>k) λ_=>.or (.FA λK k=>k) λ_=>.or (.FA λK k=>k) λ_=>.not<|.FA λK k=>⟨t,rfl,m1,k⟩) (λq=>by cases q) (λ_=>rY ?_);dsimp only;refine uN (false||!true) (.or (.FA λK k=>?_) λ_=>.not<|.FA λK k=>⟨13+v,cs,ts,a',2,js,rfl,rfl,rfl,S,M.least,by lia,y,k⟩) (λq=>by cases q) (λ_=>rY ?_)
   .refine⟨cs,ts,t,13+v,rfl,rfl,rfl,m1,λp hp=>by have:=S.iI.Q4 p hp;lia,S.n2,uh S,?_⟩;rw[kN.KS M.ok,M.val];refine⟨111,rfl,by lia,by lia,zs,?_⟩;have YU:BW 3 (nB (List.replicate (13+v).toNat 111,(a':Int))):=Vq _;refine⟨yP YU,yP YU,rfl,?_⟩;show K (.bl<|true != ud (nB (List.replicate (13+v).toNat 111,(a':Int))) (nB (List.replicate (13+v).toNat 111,(a':Int)))) _;rw[GP _ 3 (yP YU)];exact k
   dsimp only;refine⟨t,rfl,m1,?_⟩;dsimp only;refine PJ (λb=>b=false) (λK k=>?_) (λq=>by cases q) (λ_=>rY ?_)
   .refine⟨rfl,by decide,by decide,λx x0 x1=>?_⟩;exact oC (c:=x=0) (λq=>⟨13+v,cs,ts,us,_,rfl,rfl,f,S,pm.zero,by lia,by lia,by lia,by lia,fg,k _ rfl⟩) (λq=>k _ rfl)
   dsimp only;refine⟨13+v,cs,ts,rfl,rfl,S,EJ,λN hN ZL=>?_⟩;have lf:=O0 S (k:=a'+1) (by lia) ZL;refine jV (c:=(N:Int) - 1<=(t.cnt:Int) - 1) (λ_=>?_) (λq=>absurd (show(N:Int) - 1<=(t.cnt:Int) - 1 by lia) q);refine⟨cs,ts,rfl,rfl,S,by lia,by lia,?_⟩;rw[sx,show Pl (fQ (fw (13+v) cs) ts (a'+1) 0<|cs.length+1) cs.length=.int ((t.cnt:Int) - 1)from(aE<|by lia).trans (by rw[tf1,mc])];exact⟨_,rfl,rfl,D3,rfl⟩
end
def kp (b:Nat)(x q:Str)(s:Stmt)(pm:ar)(t l a t2:Nat):au (ao×Obj):=kf (b+6) (b+5) x q s pm t l a b (b+1) (.ref<|b+2) (.ref<|b+3) (b+4) t2
def y8 (b:Nat)(x:Str):=kp b x x
def kn (b:Nat)(x q:Str)(s:Stmt)(pm:ar)(t l a t2:Nat):au (ao×Obj):=kf (b+4) (b+3) x q s pm t l a b (b+1) .none .none (b+2) t2
def vz (b:Nat)(x:Str):=kn b x x
def kM0:ar:=(.str "hissroom.errors" 225)
def mR:ar:=(.str "law_hissroom_k52_whole_answers_of_longer_son" 510)
def Q3:ar:=(.str "hissroom.ends" 194)
def NC:ar:=(.str "hissroom.reach" 261)
def NB:ar:=(.str "hissroom.tables" 300)
def BG:ar:=(.str "hissroom.few" 333)
def NA:ar:=(.str "hissroom.papers" 459)
def kk (P:Params):aa:=List.flatten [[ko 3 (VW P "law_hissroom_k52_whole_answers_of_longer_son" 510 [me "_wall" 193 (.ref 21),me "ends" 203 (.ref 28),me "pieces" 212 (.ref 35),me "farthest" 218 (.ref 40),me "bar_of" 224 (.ref 45),me "HissError" 244 (.ref 55),me "BadNumber" 260 (.ref 68),me "least_age" 275 (.ref 77),me "youngest" 281 (.ref 82),me "take_rows" 287 (.ref 87),me "clean_row" 293 (.ref 92),me "next_reach" 299 (.ref 97),me "few_tables" 307 (.ref 102),me "no_make" 314 (.ref 109),me "bare_table" 320 (.ref 114),me "next_table" 326 (.ref 119),me "fewest_joined" 332 (.ref 124),me "fewest" 345 (.ref 131),me "best_of" 356 (.ref 138),me "BestMakes" 458 (.ref 200),me "young_paper" 475 (.ref 211),me "few_paper" 481 (.ref 216),me "few_rows" 487 (.ref 221),me "go_on" 496 (.ref 228),me "answer" 509 (.ref 235),me "_law_box" 518 (.ref 242),me "_law_take" 530 (.ref 249),me "_law_bars" 536 (.ref 254),me "_law_cuts" 542 (.ref 259),me "_law_patched" 557 (.ref 266),me "_law_shelf" 563 (.ref 271),me "_law_near" 569 (.ref 276),me "_law_made" 580 (.ref 283),me "_law_far" 586 (.ref 288),me "_law_own" 592 (.ref 293),me "_law_rows" 598 (.ref 298),me "_law_barred" 604 (.ref 303),me "_law_least" 610 (.ref 308),me "_law_fars" 616 (.ref 313),me "_law_row_good" 630 (.ref 320),me "_law_above" 641 (.ref 327),me "_law_young_good" 653 (.ref 334),me "_law_falls" 659 (.ref 339),me "_law_table_good" 672 (.ref 346),me "_law_few_good" 686 (.ref 353),me "_law_whole" 693 (.ref 360),me "_law_form" 700 (.ref 367),me "_law_same" 706 (.ref 372),me "_law_tuples" 713 (.ref 379),me "_law_table_shown" 719 (.ref 384),me "_law_few_shown" 733 (.ref 391),me "_law_stretches" 739 (.ref 396),me "law" 745 (.ref 401)])],[ko 200 ⟨.type "type",none,(.cls ⟨"BestMakes",[.type "object"],[.ref 200,.type "object"],199, "BestMakes",true,[],[],false,none,false⟩),#[none,none,(some<|.str "BestMakes" 357),(some<|.str "BestMakes" 365),(some<|.builtin "object.__new__"),(some<|.bool true)]⟩,ko 199 ⟨.type "dict",none,(.dict #[vW P "__module__" 364 (.str "hissroom.few" 333),vW P "__firstlineno__" 368 (.int 91 367),vW P "__init__" 379 (.ref 152),vW P "is_take" 390 (.ref 159),vW P "clean_takes" 396 (.ref 164),vW P "halves" 402 (.ref 169),vW P "counted" 410 (.ref 176),vW P "count_anew" 422 (.ref 183),vW P "numbered" 436 (.ref 190),vW P "rank" 445 (.ref 197),vW P "__static_attributes__" 451 (.ref 198),vW P "__dict__" 453 (.ref 201),vW P "__weakref__" 455 (.ref 202),vW P "__doc__" 456 (.none)] 4),#[]⟩],kx P 68 67 55 "BadNumber" (some<|.ref 59) 245 253 kM0 252 22 66,[ko 55 ⟨.type "type",none,(.cls ⟨"HissError",[.type "ValueError"],[.ref 55,.type "ValueError",.type "Exception",.type "BaseException",.type "object"],54, "HissError",true,[],[.ref 68],false,none,false⟩),#[(some<|.ref 46),none,(some<|.str "HissError" 227),(some<|.str "HissError" 235),(some<|.builtin "ValueError.__new__"),(some<|.bool true)]⟩,ko 54 ⟨.type "dict",none,(.dict #[vW P "__module__" 234 (.str "hissroom.errors" 225),vW P "__firstlineno__" 238 (.int 20 237),vW P "__static_attributes__" 239 (.ref 53),vW P "__weakref__" 241 (.ref 56),vW P "__doc__" 242 (.none)] 3),#[]⟩],y8 236 "_law_box" wH mR 512 176 1 516,y8 243 "_law_take" rJ mR 519 178 2 528,vz 250 "_law_bars" rP mR 531 194 2 534,vz 255 "_law_cuts" rO mR 537 207 2 540,y8 260 "_law_patched" lU mR 543 214 4 555,vz 368 "_law_same" s_same mR 701 340 2 704,y8 22 "ends" rN Q3 196 5 2 201,y8 29 "pieces" m7 Q3 204 7 2 210,vz 41 "bar_of" ng Q3 219 14 3 222,vz 36 "farthest" kW Q3 213 10 4 216,vz 83 "take_rows" jH NC 282 38 3 285,vz 88 "clean_row" j9 NC 288 41 3 291,vz 93 "next_reach" jL NC 294 47 4 297,vz 78 "youngest" kS NC 276 36 1 279,y8 71 "least_age" j6 NC 263 25 3 273,y8 103 "no_make" lV NB 308 66 1 312,vz 110 "bare_table" jj NB 315 68 1 318,vz 120 "fewest_joined" iX NB 327 78 3 330,vz 115 "next_table" jh NB 321 71 3 324,vz 98 "few_tables" jM NB 302 52 4 305,y8 125 "fewest" m8 BG 335 81 4 343,kp 153 "is_take" "BestMakes.is_take" hJ BG 380 101 2 388,kn 160 "clean_takes" "BestMakes.clean_takes" gF BG 391 105 2 394,kn 165 "halves" "BestMakes.halves" ij BG 397 110 2 400,kp 177 "count_anew" "BestMakes.count_anew" gI BG 411 121 2 420,kp 170 "counted" "BestMakes.counted" hU BG 403 116 2 408,kp 146 "__init__" "BestMakes.__init__" gW BG 369 93 4 377,kp 184 "numbered" "BestMakes.numbered" gU BG 423 129 3 434,y8 132 "best_of" lW BG 346 84 4 354,y8 205 "young_paper" ju NA 461 142 4 473,y8 222 "go_on" o3 NA 488 163 3 494,vz 217 "few_rows" kU NA 482 155 3 485,vz 212 "few_paper" j8 NA 476 151 5 479,vz 284 "_law_far" wF mR 581 247 3 584,vz 289 "_law_own" wD mR 587 252 3 590,vz 294 "_law_rows" rK mR 593 257 3 596,vz 299 "_law_barred" m9 mR 599 266 2 602,vz 304 "_law_least" oZ mR 605 272 2 608,vz 309 "_law_fars" p9 mR 611 277 2 614,y8 314 "_law_row_good" kT mR 617 279 4 628,y8 321 "_law_above" o5 mR 631 293 4 639,vz 335 "_law_falls" o4 mR 654 308 2 657,y8 328 "_law_young_good" jK mR 642 298 4 651,vz 380 "_law_table_shown" jv mR 714 352 5 717,y8 385 "_law_few_shown" j7 mR 720 362 5 731,vz 392 "_law_stretches" j5 mR 734 374 2 737,y8 354 "_law_whole" oY mR 687 332 1 691,y8 277 "_law_made" rL mR 570 237 3 578,y8 361 "_law_form" rM mR 694 334 1 698,y8 373 "_law_tuples" m6 mR 707 350 1 711,y8 229 "answer" nh NA 497 167 3 507,vz 397 "law" nK mR 740 382 1 743]
def hk:W.Hook:=W.kHook kk [3,200,199,68,67,55,54,242,241,249,248,254,253,259,258,266,265,372,371,28,27,35,34,45,44,40,39,87,86,92,91,97,96,82,81,77,76,109,108,114,113,124,123,119,118,102,101,131,130,159,158,164,163,169,168,183,182,176,175,152,151,190,189,138,137,211,210,228,227,221,220,216,215,288,287,293,292,298,297,303,302,308,307,313,312,320,319,327,326,339,338,334,333,384,383,391,390,396,395,360,359,283,282,367,366,379,378,235,234,401,400] (λ_=>by kernel_rfl)
def lw:W.OpenLaw:=PySem.Challenge.rw_hissroom_k52_whole_answers_of_longer_son
def qq:ah:={ lw.prog with main:={ lw.prog.main with body:=[nK]}}
def ll:au Str:=[sS "_wall",sS "ends",sS "pieces",sS "farthest",sS "bar_of",sS "HissError",sS "BadNumber",sS "least_age",sS "youngest",sS "take_rows",sS "clean_row",sS "next_reach",sS "few_tables",sS "no_make",sS "bare_table",sS "next_table",sS "fewest_joined",sS "fewest",sS "best_of",sS "BestMakes",sS "young_paper",sS "few_paper",sS "few_rows",sS "go_on",sS "answer",sS "_law_box",sS "_law_take",sS "_law_bars",sS "_law_cuts",sS "_law_patched",sS "_law_shelf",sS "_law_near",sS "_law_made",sS "_law_far",sS "_law_own",sS "_law_rows",sS "_law_barred",sS "_law_least",sS "_law_fars",sS "_law_row_good",sS "_law_above",sS "_law_young_good",sS "_law_falls",sS "_law_table_good",sS "_law_few_good",sS "_law_whole",sS "_law_form",sS "_law_same",sS "_law_tuples",sS "_law_table_shown",sS "_law_few_shown",sS "_law_stretches"]
def xt (s:ak):Bool:=W.xlAt qq [] s&&W.recOk (W.RowW.records lw.row.toRowW) s
def left:W.LeftO lw.prog qq ll xt hk.obs hk.val 2391:=O3 (M:=2391) (by kernel_rfl) rfl (λs=>by kernel_rfl) rfl (λw os=>by kernel_rfl)
def YW:lw.wellSaid=true:=(congrFun W.Fast.te9446332074065402090 lw).trans (by kernel_rfl)
def dd:DefRec:=⟨"law",jZ nK,jq nK,fI nK,TY nK⟩
def holds (F:W.WalkO qq ll (W.XL qq []) hk.says lw.row.toRowW dd [] (λf vs=>PySem.call f vs)):lw.Holds:=W.holds_law YW λk1=>W.holds_open (q:=qq) (loose:=ll) (Xt:=xt) (XP:=W.XL qq []) (d:=dd) (kwd:=[]) left hk.of hk.keeps (λs e=>W.xl_of s (Bool.and_eq_true_iff.mp e).1) W.XL.keeps (by kernel_rfl) (by kernel_rfl) rfl (λs e=>W.recFacts_of (Bool.and_eq_true_iff.mp e).2) rfl k1 (by kernel_rfl) ⟨rfl,rfl,rfl,rfl,rfl,by kernel_rfl⟩ ⟨[.list []],by kernel_rfl,by kernel_rfl⟩ F
abbrev lx (f:ah->ai->aa->(Str->av ar)->Heap->Prop)(w:ai)(mg:Str->av ar)(fB:Heap):Prop:=f lw.prog w (kk w.params) mg fB
def fq (w:ai)(x q:Str)(s:Stmt)(f:ao)(pm:ar)(c:ao)(l:(kk w.params).lookup f=some (Yi x q s pm c):=by kernel_rfl)(c':W.codeIn (kk w.params) (.ref c) q=true:=by kernel_rfl)(k:W.keepIn (kk w.params) (.ref f)=true:=by kernel_rfl):=LR l c' k
def nE (w:ai)(x:Str)(s:Stmt)(f:ao)(pm:ar)(c:ao)(l:(kk w.params).lookup f=some (Yi x x s pm c):=by kernel_rfl)(c':W.codeIn (kk w.params) (.ref c) x=true:=by kernel_rfl)(k:W.keepIn (kk w.params) (.ref f)=true:=by kernel_rfl):=LR l c' k
set_option maxHeartbeats 40000000 in
def fin:W.WalkO qq ll (W.XL qq []) hk.says lw.row.toRowW dd [] (λf vs=>PySem.call f vs):=by
 refine L2.NP (l:=lw) (d:=dd) (n:=63) (k:=220) (x:= "_law_script") (K:=kk) (CX:=λ_=>kl) (sp:=λw=>QI<|kk w.params) rfl (by decide) rfl ⟨rfl,by decide,by decide⟩ (λw h Y=>W.kIn_of Y) (λw mg fa h X G hfa=>?_) (λ_ _ a ns hl _ hS=>⟨a,ns,rfl,hS,hl,λ_=>rfl⟩) λ_ _ _ _ _ z=>z;have e:=hfa.symm.trans (W.mg_of X G<|show W.nsIn (kk w.params) mainGlobals "law"=sr 401 by kernel_rfl);cases e;have T:lA mg:=⟨bW X G<|by kernel_rfl,bW X G<|by kernel_rfl,bW X G<|by kernel_rfl,bW X G<|by kernel_rfl,bW X G<|by kernel_rfl,bW X G<|by kernel_rfl,bW X G<|by kernel_rfl,bW X G<|by kernel_rfl,bW X G<|by kernel_rfl,bW X G<|by kernel_rfl,bW X G<|by kernel_rfl,bW X G<|by kernel_rfl,bW X G<|by kernel_rfl,bW X G<|by kernel_rfl,bW X G<|by kernel_rfl,bW X G<|by kernel_rfl,bW X G<|by kernel_rfl⟩;have fE:ja (kk w.params) fL:=⟨⟨by kernel_rfl,by kernel_rfl,by kernel_rfl,by kernel_rfl⟩,by kernel_rfl,by kernel_rfl,by kernel_rfl,by kernel_rfl,by kernel_rfl⟩;have F0:=nE w "_law_box" wH 242 mR 241;have F1:=nE w "_law_take" rJ 249 mR 248;have F2:=nE w "_law_bars" rP 254 mR 253;have F3:=nE w "_law_cuts" rO 259 mR 258;have F4:=nE w "_law_patched" lU 266 mR 265;have F5:=nE w "_law_same" s_same 372 mR 371;have F6:=nE w "ends" rN 28 Q3 27;have F7:=nE w "pieces" m7 35 Q3 34;have F8:=nE w "bar_of" ng 45 Q3 44;have F9:=nE w "farthest" kW 40 Q3 39;have F10:=nE w "take_rows" jH 87 NC 86;have F11:=nE w "clean_row" j9 92 NC 91;have F12:=nE w "next_reach" jL 97 NC 96;have F13:=nE w "youngest" kS 82 NC 81;have F14:=nE w "least_age" j6 77 NC 76;have F15:=nE w "no_make" lV 109 NB 108;have F16:=nE w "bare_table" jj 114 NB 113;have F17:=nE w "fewest_joined" iX 124 NB 123;have F18:=nE w "next_table" jh 119 NB 118;have F19:=nE w "few_tables" jM 102 NB 101;have F20:=nE w "fewest" m8 131 BG 130;have F21:=fq w "is_take" "BestMakes.is_take" hJ 159 BG 158;have F22:=fq w "clean_takes" "BestMakes.clean_takes" gF 164 BG 163;have F23:=fq w "halves" "BestMakes.halves" ij 169 BG 168;have F24:=fq w "count_anew" "BestMakes.count_anew" gI 183 BG 182;have Ys:=fq w "counted" "BestMakes.counted" hU 176 BG 175;have F26:=fq w "__init__" "BestMakes.__init__" gW 152 BG 151;have Yr:=fq w "numbered" "BestMakes.numbered" gU 190 BG 189;have F28:=nE w "best_of" lW 138 BG 137;have F29:=nE w "young_paper" ju 211 NA 210;have F30:=nE w "go_on" o3 228 NA 227;have F31:=nE w "few_rows" kU 221 NA 220;have F32:=nE w "few_paper" j8 216 NA 215;have F33:=nE w "_law_far" wF 288 mR 287;have F34:=nE w "_law_own" wD 293 mR 292;have F35:=nE w "_law_rows" rK 298 mR 297;have F36:=nE w "_law_barred" m9 303 mR 302;have F37:=nE w "_law_least" oZ 308 mR 307;have F38:=nE w "_law_fars" p9 313 mR 312;have F39:=nE w "_law_row_good" kT 320 mR 319;have F40:=nE w "_law_above" o5 327 mR 326;have F41:=nE w "_law_falls" o4 339 mR 338;have F42:=nE w "_law_young_good" jK 334 mR 333;have F43:=nE w "_law_table_shown" jv 384 mR 383;have F44:=nE w "_law_few_shown" j7 391 mR 390;have F45:=nE w "_law_stretches" j5 396 mR 395;have F46:=nE w "_law_whole" oY 360 mR 359
 have XB:=nE w "_law_made" rL 283 mR 282;have XA:=nE w "_law_form" rM 367 mR 366;have Xz:=nE w "_law_tuples" m6 379 mR 378;have F50:=nE w "answer" nh 235 NA 234;have F51:=nE w "law" nK 401 mR 400;refine⟨W.fnOf "law" "law" (jZ nK) (jq nK) (fI nK) .none .none .none mR none (.ref 400) .none,λs v=>.of_eq rfl,λfB X0 G0=>?_⟩;have nU:=Sv (x:= "BadNumber") (C:=l5) (h:=fB) X0 G0 (by kernel_rfl) (by kernel_rfl);have C0:lx RA w mg fB:=gA X G F0 (SI F0 T )<|Qb F0;have C1:lx xN w mg fB:=gA X G F1 (OL F1 T )<|DQ F1;have C2:lx MT w mg fB:=gA X G F2 (OQ F2 T  C1)<|DQ F2;have C3:lx MR w mg fB:=gA X G F3 (OP F3 T  C1)<|DQ F3;have C4:lx zt w mg fB:=gA X G F4 (Em F4 T  C1)<|MY F4;have C5:lx MM w mg fB:=gA X G F5 ((Gd F5 T  (W.mg_of X G<|by kernel_rfl) F5.kp (DQ F5)  5).imp λvs H Q E h=>JZ h)<|DQ F5;have C6:lx px w mg fB:=gA X G F6 (OO F6 T )<|DQ F6;have C7:lx Dj w mg fB:=gA X G F7 (HN F7 T  C6)<|DQ F7;have C8:lx tU w mg fB:=gA X G F8 (HR F8 T  C7)<|Fg F8;have C9:lx xQ w mg fB:=gA X G F9 (Cn F9 T  C6)<|MY F9;have Yt:lx mB w mg fB:=gA X G F10 (Ak F10 T  C6 C9)<|Fg F10;have C11:lx qt w mg fB:=gA X G F11 (Ap F11 T )<|Fg F11;have C12:lx pw w mg fB:=gA X G F12 (yj F12 T  C11)<|MY F12;have C13:lx sj w mg fB:=gA X G F13 (Cf F13 T )<|Qb F13;have C14:lx qr w mg fB:=gA X G F14 (Am F14 T  C8 C6 Yt C13 C12)<|Fg F14;have C15:lx qK w mg fB:=gA X G F15 (En F15 T )<|Qb F15;have C16:lx tS w mg fB:=gA X G F16 (yp F16 T  C15)<|Qb F16;have C17:lx pK w mg fB:=gA X G F17 (uA F17 T )<|Fg F17;have C18:lx tR w mg fB:=gA X G F18 (yi F18 T  C15 C17)<|Fg F18;have C19:lx mV w mg fB:=gA X G F19 (yo F19 T  C6 Yt C16 C13 C18 C11)<|MY F19;have C20:lx xO w mg fB:=gA X G F20 (HP F20 T  C19)<|MY F20;have C21:lx iZ w mg fB:=tP F21 (qd F21 T fE)<|DQ F21;have C22:lx iw w mg fB:=tP F22 (n9 F22 T fE)<|DQ F22;have C23:lx i9 w mg fB:=tP F23 (qQ F23 T fE)<|DQ F23;have C25:lx jA w mg fB:=tP Ys (yX Ys F24 T fE ⟨by kernel_rfl,by kernel_rfl,by kernel_rfl⟩ ⟨by kernel_rfl,by kernel_rfl,by kernel_rfl⟩ (Ys.binds λ_ _ _ _ _ _=>G6 λ_=>RC λ_=>rfl) (F24.binds λ_ _ _ _ _ _=>G6 λ_=>RC λ_=>rfl) C21 C22 C23 71)<|DQ Ys;have C26:lx mD w mg fB:=PX X G F26 (pR F26 T fE C6 Yt C14 C19)<|MY F26;have C27:lx mC w mg fB:=tP Yr (Ge Yr T fE ⟨by kernel_rfl,by kernel_rfl,by kernel_rfl⟩ (Yr.binds λ_ _ _ _ _ _=>G6 λ_=>G6 λ_=>RC λ_=>rfl) C21 C22 C23 C25 71<|by decide)<|Fg Yr;have C28:lx zu w mg fB:=PV X G F28 (Eo F28 T fE nU C8 C26 C25 C27)<|MY F28;have C29:lx rA w mg fB:=gA X G F29 (wQ F29 T  C6 Yt C12)<|MY F29;have C30:lx G1 w mg fB:=gA X G F30 (KW F30 T )<|Fg F30;have C31:lx xP w mg fB:=gA X G F31 (Cm F31 T  C15 C30)<|Fg F31;have C32:lx vn w mg fB:=gA X G F32 (Ao F32 T  C6 C19 C31)<|bd5 F32;have C33:lx G2 w mg fB:=gA X G F33 (SH F33 T )<|Fg F33;have C34:lx Rz w mg fB:=gA X G F34 (SF F34 T  C33)<|Fg F34;have C35:lx MN w mg fB:=gA X G F35 (OM F35 T  C34)<|Fg F35;have C36:lx xR w mg fB:=gA X G F36 (HQ F36 T )<|DQ F36;have C37:lx GZ w mg fB:=gA X G F37 (KU F37 T  C36 C35) (DQ F37)
 have C38:lx Fe w mg fB:=gA X G F38 (ON F38 T  C33)<|DQ F38;have C39:lx sk w mg fB:=gA X G F39 (Ci F39 T )<|MY F39;have C40:lx G4 w mg fB:=gA X G F40 (KZ F40 T )<|MY F40;have C41:lx G3 w mg fB:=gA X G F41 (KY F41 T )<|DQ F41;have C42:lx tQ w mg fB:=gA X G F42 (yh F42 T  C38 C39 C40)<|MY F42;have C43:lx rB w mg fB:=gA X G F43 (wU F43 T  C39 C41)<|bd5 F43;have C44:lx vm w mg fB:=gA X G F44 (An F44 T  C38 C43)<|bd5 F44;have C45:lx vk w mg fB:=gA X G F45 (Al F45 T  C33)<|DQ F45;have C46:lx Bj w mg fB:=gA X G F46 (KR F46 T )<|Qb F46;have C47:lx MP w mg fB:=gA X G XB (Gf XB T  (W.mg_of X G<|by kernel_rfl) XB.kp (Fg XB)  63)<|Fg XB;have C48:lx MQ w mg fB:=gA X G XA (Gg XA T  (W.mg_of X G<|by kernel_rfl) XA.kp (Qb XA) C46 63)<|Qb XA;have C49:lx Di w mg fB:=gA X G Xz (yW Xz T  (W.mg_of X G<|by kernel_rfl) Xz.kp (Qb Xz)  63)<|Qb Xz;have C50:lx Dk w mg fB:=gA X G F50 (HS F50 T  C8 C14 C20 C28 C29 C32)<|Fg F50;exact SG F51 T  C0 C1 C3 C2 C4 C50 C37 C36 C5 C48 C47 C42 C49 C44 C45 C20
end Pf
theorem PySem.Challenge.cw_hissroom_k52_whole_answers_of_longer_son_holds : PySem.Challenge.rw_hissroom_k52_whole_answers_of_longer_son.Holds :=
 Pf.holds Pf.fin