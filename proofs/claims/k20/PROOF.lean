import PyProof.Rows.All
import Wide.All
import OpenK.AllK
import Wide.FinOn
import Lean
import PyProof.EqAt
import PyProof.EqKinds
import PyProof.TupleCall
import PyProof.NeKinds
import PyProof.ListRange
import PyProof.MaxThree
import PyProof.DictWalks
import PyProof.Rows.SortWalk
import PyProof.Rows.TopTwo
import PyProof.RangeIter
import PyProof.ExcArgsOwn
import PyProof.ExcBaseAll.ValueError
import PyProof.ExcAttrAll.ValueError
import KE.KIsAll
import OpenK.KOwn
import PyProof.StrBlock
import PyProof.DictItems
import PyProof.DictItemsLoops
import PyProof.DictValues
import PySem.Challenge.RW_hissroom_k20_numbers_and_makes_refused
set_option Elab.async false
set_option linter.all false
set_option maxRecDepth 100000
set_option genSizeOf false
set_option maxHeartbeats 4000000
theorem jo{α:Type _}{l:List α}{i:Nat}(h:i<l.length):l[i]?=some l[i]:=List.getElem?_eq_getElem h
theorem kN{α:Type _}{l:List α}{i:Nat}{a:α}(h:l[i]?=some a):∃ h:i<l.length,l[i]=a:=List.getElem?_eq_some_iff.mp h
theorem iE{α β:Type _}{as:List α}(f:α->β):(as.map f).length=as.length:=List.length_map f
theorem mR{α:Type _}{l:List α}{i:Nat}{a:α}(e:l[i]?=some a):a∈l:=List.mem_of_getElem? e
theorem o4{α:Type _}{as bs:List α}:(as++bs).length=as.length+bs.length:=List.length_append
theorem uO{α:Type _}{G J:List α}{i:Nat}(h:i<G.length):(G++J)[i]?=G[i]?:=List.getElem?_append_left h
theorem pW{α:Type _}{G J:List α}{i:Nat}(h:G.length<=i):(G++J)[i]?=J[i - G.length]?:=List.getElem?_append_right h
theorem nM{α:Type _}{a:α}(b:α){l:List α}(h:a∈l):a∈b::l:=List.mem_cons_of_mem b h
theorem tP{n:Nat}:(List.range n).length=n:=List.length_range
theorem vD(n:Nat):(n:Int).toNat=n:=Int.toNat_natCast n
theorem j4{h:PySem.Heap}{a:PySem.Addr}{u:PySem.Obj}(v:PySem.Obj)(e:h.get? a=some u):(h.push v).get? a=some u:=PySem.Heap.get?_push_of_some v e
theorem fV{α β:Type}{M:PySem.Model}{A:PySem.Around}{E:PySem.Value->PySem.Shared->Prop}{s:PySem.Shared}{m:PySem.Sem α}{f:α->PySem.Sem β}{Q:β->PySem.Shared->Prop}(h:PySem.wpAny M A m (λa s=>PySem.wpAny M A (f a) Q E s) E s):PySem.wpAny M A (m>>=f) Q E s:=PySem.wpAny_bind h
theorem jf{h:PySem.Heap}{a:PySem.Addr}{o:PySem.Obj}(e:h.get? a=some o):a<h.objs.size:=PySem.Heap.lt_size e
theorem oC{α β:Type _}{f:α->β}{l:List α}{i:Nat}:(l.map f)[i]?=(l[i]?).map f:=List.getElem?_map ..
abbrev aa:=PySem.W.Frag
abbrev ae:=PySem.Program
abbrev af:=PySem.World
abbrev ag:=PySem.FuncData
abbrev ah:=PySem.Shared
abbrev ai:=PySem.Addr
abbrev ak:=PySem.Value
abbrev ao:=List.{0}
abbrev aq:=Option.{0}
abbrev ar:=@Nat.le_refl
abbrev au:=@PySem.wpAny_pure
abbrev av:=@List.getD_eq_getElem?_getD
abbrev aw:=@List.map_cons
abbrev aA:=@Nat.ne_of_lt
abbrev aB:=@if_pos
abbrev aC:=@if_neg
abbrev aD:=@List.size_toArray
abbrev aE:=@PySem.Heap.get?_push_size
abbrev aF:=@List.mem_cons_self
abbrev aG:=@List.getElem?_set_self
abbrev aH:=@List.not_mem_nil
abbrev aI:=@PySem.wpAny_field
abbrev aJ:=@List.getElem?_set_ne
abbrev aK:=@Bool.false_ne_true
abbrev aL:=@Nat.lt_of_lt_of_le
abbrev aM:=@decide_eq_true
abbrev aN:=@Option.some.inj
abbrev aO:=@List.mem_cons
abbrev aP:=@PyProof.Rows.boot_isinstance
abbrev aQ:=@PySem.Heap.get?_update_other
abbrev aR:=@Nat.le_add_right
abbrev aS:=@List.mem_append_right
abbrev aT:=@List.length_replicate
abbrev aU:=@List.length_cons
abbrev aV:=@Nat.lt_succ_of_lt
abbrev aW:=@decide_eq_false
abbrev aX:=@Nat.le_trans
abbrev aY:=@Nat.sub_self
abbrev aZ:=@List.getElem_of_mem
abbrev a6:=@PySem.wpAny_setField_rec
abbrev a8:=@Nat.ne_of_gt
abbrev a9:=@PySem.F.excBase_ValueError
abbrev ba:=@PyProof.Rows.boot_list
abbrev bc:=@PySem.wpAny_seqItems
abbrev bg:=@PySem.Heap.size_push
abbrev bh:=@PyProof.Rows.callWith_type1
abbrev bj:=@Ne.symm
abbrev bo:=@List.getElem?_range
abbrev bp:=@List.mem_of_mem_take
abbrev bq:=@decide_eq_true_eq
abbrev bu:=@List.drop_eq_getElem_cons
abbrev bw:=@PySem.wpAny_callSpecial?_slot
abbrev bx:=@List.map_map
abbrev bz:=@PySem.Heap.get?_update_self
abbrev bA:=@Nat.zero_le
abbrev bB:=@PySem.wpAny_holding
abbrev bC:=@List.drop_of_length_le
abbrev bD:=@List.length_drop
abbrev bE:=@Bool.and_eq_true
abbrev bF:=@List.forIn_cons
abbrev bG:=@Nat.lt_succ_self
abbrev bH:=@List.length_take
abbrev bI:=@List.getElem_mem
abbrev bJ:=@PySem.PassesOwn.never
abbrev bL:=@List.length_set
abbrev bM:=@List.length_singleton
abbrev bN:=@or_false
abbrev bO:=@List.length_zipWith
abbrev bP:=@List.zipWith_cons_cons
abbrev bQ:=@List.take_of_length_le
abbrev bR:=@List.getElem?_take_of_lt
abbrev bS:=@Int.le_refl
abbrev bT:=@List.map_append
abbrev bU:=@PySem.wpAny_mono
abbrev bV:=@List.getElem?_zipWith
abbrev bW:=@List.map_congr_left
abbrev bX:=@PySem.F.slot_zip_next
abbrev bY:=@PySem.W.mg_none_of
abbrev bZ:=@List.take_left
abbrev b7:=@List.set_set
abbrev b8:=@PyProof.Rows.boot_max
abbrev b9:=@List.append_nil
abbrev cc:=@PySem.wpAny_call_entry
abbrev cf:=@congrArg
abbrev cj:=@List.mem_range
abbrev ck:=@Nat.lt_of_le_of_lt
abbrev cq:=@Nat.lt_irrefl
abbrev cu:=@List.sum_cons
abbrev cw:=@List.find?_cons
abbrev cx:=@List.cons.injEq
abbrev cy:=@PySem.F.plain_min_loop
abbrev cz:=@Int.toNat_of_nonneg
abbrev cA:=@PySem.wpAny_newObj_type
abbrev cC:=@of_decide_eq_true
abbrev cD:=@List.ext_getElem?
abbrev cE:=@Nat.min_eq_left
abbrev cF:=@Int.le_trans
abbrev cG:=@List.mem_append_left
abbrev cI:=@Int.eq_ofNat_of_zero_le
abbrev cJ:=@PySem.wpAny_truthy_bool
abbrev cK:=@List.append_assoc
abbrev cL:=@List.filterMap_cons
abbrev cM:=@PySem.wpAny_pyIter_zip
abbrev cO:=@PySem.wpAny_Call_Name_kw
abbrev cP:=@List.zip_cons_cons
abbrev cQ:=@PySem.wpAny_onRaise
abbrev cR:=@PySem.wpAny_attempt
abbrev cS:=@List.all_cons
abbrev cU:=@PySem.wpAny_updateSeq_pair
abbrev cV:=@PySem.wpAny_letGo
abbrev cW:=@PySem.F.plainAttrs_list
abbrev cY:=@PySem.F.args_zip_next_1
abbrev cZ:=@List.foldl_cons
abbrev c4:=@List.take_succ_cons
abbrev c6:=@Int.zero_add
abbrev c7:=@List.all_eq_true
abbrev c8:=@PySem.F.entry_zip_next
abbrev c9:=@PySem.wpAny_setField
abbrev da:=@List.getElem?_drop
abbrev dc:=@PySem.F.slot_tuple_iterator_next
abbrev de:=@PyProof.Rows.boot_int
abbrev df:=@List.length_filter_le
abbrev dg:=@PySem.wpAny_updateSeq
abbrev dh:=@PySem.wpAny_passesOwn
abbrev dj:=@List.range_succ
abbrev dk:=@PySem.wpAny_pyIter_list
abbrev dm:=@Int.le_of_lt
abbrev dn:=@PySem.Around.under_plainId
abbrev dq:=@PySem.wpAny_comprehension_free
abbrev dr:=@List.any_cons
abbrev dt:=@PySem.mem_of_lookup
abbrev du:=@PySem.W.kia_one
abbrev dw:=@PyProof.Rows.boot_tuple
abbrev dz:=@List.getElem?_replicate
abbrev dA:=@PySem.wpAny_rule
abbrev dD:=@PySem.F.plainAttrs_str
abbrev dE:=@PyProof.Rows.boot_bool
abbrev dF:=@Bool.false_eq_true
abbrev dG:=@PySem.codeAny_builtin
abbrev dH:=@List.of_mem_zip
abbrev dJ:=@Bool.eq_iff_iff
abbrev dM:=@PyProof.Rows.boot_min
abbrev dN:=@List.set_append_right
abbrev dP:=@PySem.F.slot_enumerate_next
abbrev dQ:=@List.forIn_nil
abbrev dR:=@PySem.wpAny_isInstance
abbrev dU:=@Nat.lt_trans
abbrev dW:=@List.zipWith_map
abbrev dX:=@List.lookup_cons
abbrev dY:=@List.filter_cons
abbrev dZ:=@List.cons_append
abbrev d4:=@PySem.Heap.SameBut.update
abbrev d7:=@PySem.F.plain_extend_loop
abbrev d9:=@PySem.wpAny_standAt
abbrev eh:=@PySem.plainId_quiet
abbrev eA:=@PySem.F.type_list_append
abbrev eB:=@PySem.F.slot_list_append
abbrev eE:=@PySem.wpAny_execs_nil
abbrev eF:=@PySem.pushCells_keeps
abbrev eG:=@List.length_nil
abbrev eI:=@PySem.Obj.data_mapFields
abbrev eJ:=@List.lookup_append
abbrev eK:=@Int.emod_lt_of_pos
abbrev eL:=@Array.forIn_toList
abbrev eM:=@PySem.F.slot_list_index
abbrev eO:=@List.getElem?_cons_succ
abbrev eP:=@List.findIdx?_eq_some_iff_getElem
abbrev eR:=@PySem.wpAny_tryCatch
abbrev eS:=@PySem.wpAny_pyIter_enum
abbrev eT:=@PySem.wpAny_newTuple
abbrev eV:=@PySem.isSubtype_stop
abbrev eW:=@PySem.W.mg_of
abbrev eX:=@PySem.F.entry_min_loop
abbrev eY:=@Option.isSome_map
abbrev eZ:=@Nat.lt_trichotomy
abbrev e9:=@Nat.le_of_lt
abbrev fb:=@List.nodup_append
abbrev fc:=@List.any_eq_false
abbrev fg:=@Int.mul_nonneg
abbrev fh:=@Bool.and_false
abbrev fj:=@PySem.F.type_str_join
abbrev fk:=@PySem.F.slot_str_join
abbrev fo:=@PySem.Obj.isFreed_of_fields
abbrev fv:=@List.getElem?_eq_none
abbrev fw:=@List.filterMap_eq_map
abbrev fA:=@Nat.min_eq_right
abbrev fB:=@List.any_eq_true
namespace L2
open PySem PySem.Spec PyProof.Rows
variable{Q:ak->ah->Prop}{i:Nat}{fE:ao (ai×Obj)}{x:Str}{ps:ao Str}{w:af}{s:ah}{mg:Str->aq ak}{h fF:Heap}{f b:ai}{u:ak}{us:ao ak}{e tg:Expr}{pl:Sem Bool}{scope:Scope}{body:ao Stmt}{op:CmpOp}{o:Obj}{fN:ao Env}{kw:ao (Str×ak)}{ch fp:ao ai}
abbrev Key:=Sum Int Str
def zx:Key->ak->Bool
 |.inl k,v=>Value.isInt k v
 |.inr x,v=>Value.isStrOf x v
def keyH(w:af):Key->Int
 |.inl k=>hashInt k
 |.inr x=>hashStr w x
def jw:∀ {k:Key} {v:ak},zx k v=true->(∃ i t,k=Sum.inl i/\v=Value.int i t)\/(∃ x t,k=Sum.inr x/\v=Value.str x t)
 | .inl i,v,h=>by obtain⟨t,e⟩:=Value.isInt_shape (k:=i) (v:=v) h;exact .inl ⟨i,t,rfl,e⟩
 | .inr x,v,h=>by obtain⟨t,e⟩:=Value.isStrOf_shape (x:=x) (v:=v) h;exact .inr ⟨x,t,rfl,e⟩
def Jf(i:Int)(t:Tok):zx (.inl i) (.int i t)=true:=by simp[zx,Value.isInt]
def Je(x:Str)(t:Tok):zx (.inr x) (.str x t)=true:=by simp[zx,Value.isStrOf]
def Ur(a b:Int):decide ((Sum.inl a:Key)=Sum.inl b)=(a==b):=by
 by_cases e:a=b
 .subst e;simp
 .have h:¬ (Sum.inl a:Key)=Sum.inl b:=λq=>e (Sum.inl.inj q);rw[aW h];exact(beq_eq_false_iff_ne.mpr e).symm
def Uo(a b:Str):decide ((Sum.inr a:Key)=Sum.inr b)=decide (a=b):=by
 by_cases e:a=b
 .subst e;simp
 .have h:¬ (Sum.inr a:Key)=Sum.inr b:=λq=>e (Sum.inr.inj q);rw[aW h,aW e]
def Uq(a:Int)(b:Str):decide ((Sum.inl a:Key)=Sum.inr b)=false:=aW (λq=>nomatch q)
def Up(a:Str)(b:Int):decide ((Sum.inr a:Key)=Sum.inl b)=false:=aW (λq=>nomatch q)
def kG(prog:ae)(w:af):PySem.KeyKind prog w Key where
 is:=zx
 hash:=keyH w
 inj:=λv a b ha hb=>by
  rcases jw ha with⟨i,t,rfl,rfl⟩|⟨x,t,rfl,rfl⟩
  .rcases jw hb with⟨j,u,rfl,e⟩ | ⟨y,u,rfl,e⟩
   .injection e with e1 _;rw[e1]
   .exact nomatch e
  .rcases jw hb with⟨j,u,rfl,e⟩ | ⟨y,u,rfl,e⟩
   .exact nomatch e
   .injection e with e1 _;rw[e1]
 byValue:=λk v h=>by rcases jw h with⟨i,t,rfl,rfl⟩|⟨x,t,rfl,rfl⟩<;> rfl
 pyHash:=λG h=>by
  rcases jw G with⟨i,t,rfl,rfl⟩|⟨x,t,rfl,rfl⟩
  .exact wpAny_pyHash_int h
  .exact wpAny_pyHash_str h
 eqBool:=λhu G h=>by
  rcases jw hu with⟨i,t,rfl,rfl⟩|⟨x,t,rfl,rfl⟩
  .rcases jw G with⟨j,u,rfl,rfl⟩ | ⟨y,u,rfl,rfl⟩
   .rw[Ur]at h;exact wpAny_eqBool_int h
   .rw[Uq]at h;exact SeqAt.EqAt.int_str i t y u _ _ _ _ h
  .rcases jw G with⟨j,u,rfl,rfl⟩ | ⟨y,u,rfl,rfl⟩
   .rw[Up]at h;exact SeqAt.EqAt.str_int x t j u _ _ _ _ h
   .rw[Uo]at h;exact wpAny_eqBool_str h
 «strs»:=λk x t v h=>by
  rcases jw h with⟨i,u,rfl,e⟩|⟨y,u,rfl,e⟩
  .exact nomatch e
  .injection e with e1 _;subst e1;cases v<;>rfl
def Df(prog:ae)(w:af)(i:Int)(t:Tok):(kG prog w).is (.inl i) (.int i t)=true:=Jf i t
def Dc(prog:ae)(w:af)(x:Str)(t:Tok):(kG prog w).is (.inr x) (.str x t)=true:=Je x t
inductive V where
 |iz|bl (b:Bool)|int (i:Int)|str (x:Str)|JH (b:Array UInt8)|Sg (b:UInt64)|ref (a:ai)|ty (n:String)
 deriving DecidableEq
variable{vs:ao V}{v:V}
def gB:V->ak->Prop
 |.iz,u=>u=Value.none
 |.bl b,u=>u=Value.bool b
 |.int i,u=>∃ t,u=Value.int i t
 |.str x,u=>∃ t,u=Value.str x t
 |.JH b,u=>∃ t,u=Value.bytes b t
 |.Sg b,u=>∃ t,u=Value.float b t
 |.ref a,u=>u=Value.ref a
 |.ty n,u=>u=Value.type n
abbrev gG:ao V->ao ak->Prop:=Paired gB
def gG.length{xs:ao V}{us:ao ak}(r:gG xs us):xs.length=us.length:=Paired.length r
theorem gG.get:∀ {xs:ao V} {us:ao ak} {i:Nat} {x:V},gG xs us->xs[i]?=some x->∃ u,us[i]?=some u/\gB x u
 |_,_,_,_,.nil,e=>by simp at e
 |_,_,0,_,.cons r _,e=>by simp at e;subst e;exact⟨_,rfl,r⟩
 | _,_,i+1,x,.cons _ t,e=>by obtain⟨u,h1,h2⟩:=gG.get (i:=i) (x:=x) t (by simpa using e);exact⟨u,by simpa using h1,h2⟩
theorem gG.set{x:V}{u:ak}(r:gB x u):∀ {xs:ao V} {us:ao ak} (i:Nat),gG xs us->gG (xs.set i x) (us.set i u)
 |_,_,_,.nil=>.nil
 |_,_,0,.cons _ t=>.cons r t
 |_,_,i+1,.cons q t=>.cons q (gG.set r i t)
def gG.append{xs ys:ao V}{ws:ao ak}(h:gG xs us)(s:gG ys ws):gG (xs++ys) (us++ws):=by
 induction h with
 |nil=>exact s
 |cons r t G=>exact .cons r G
theorem gG.take:∀ {xs:ao V} {us:ao ak} (n:Nat),gG xs us->gG (xs.take n) (us.take n)
 |_,_,0,_=>.nil
 |_,_,_+1,.nil=>.nil
 |_,_,n+1,.cons r t=>.cons r (gG.take n t)
theorem gG.drop:∀ {xs:ao V} {us:ao ak} (n:Nat),gG xs us->gG (xs.drop n) (us.drop n)
 |_,_,0,r=>r
 |_,_,_+1,.nil=>.nil
 |_,_,n+1,.cons _ t=>gG.drop n t
def gG.none_of:∀ {xs:ao V} {us:ao ak} {i:Nat},gG xs us->xs[i]?=none->us[i]?=none:=λ{xs us i} r e=>by have h1:=r.length;have h2:xs.length<=i:=List.getElem?_eq_none_iff.mp e;exact List.getElem?_eq_none_iff.mpr (by lia)
def rK:aq V->aq ak->Prop
 |some v,some u=>gB v u
 |none,none=>True
 |_,_=>False
def KV{κ:Type}:ao (κ×V)->ao (κ×ak)->Prop:=Paired λ(p:κ×V) (q:κ×ak)=>p.1=q.1/\gB p.2 q.2
def kV:Key->V
 |.inl i=>.int i
 |.inr x=>.str x
inductive HO where
 |lst (xs:List V)
 |tup (xs:List V)
 |dK (fR:List (Key×V))|dT (fR:List (List Key×V))
 |set (S:Int->Bool) (n:Nat)
 |ins (C dx:ai) (fs:List (Str×V))
 |own (x:ai)
 |xd (fs:List (Str×V))
 |met (f x:ai)
 |YZ (lo hi:Int)
 |Dv (o:Obj) (u:HO)
 |Rn (ps:Array ak)
 |ext (φ:Heap->Prop)
abbrev Hp:=ai->aq HO
variable{H:Hp}
def upd(H:Hp)(a:ai)(o:HO):Hp:=λb=>if b=a then some o else H b
def gc{a:ai}{o:HO}:upd H a o a=some o:=by unfold upd;rw[aB rfl]
def gr{a:ai}{o:HO}(h:b≠a):upd H a o b=H b:=by unfold upd;rw[aC h]
def WW{a:ai}{o u:HO}(h:H a=some o)(h':H b=some u)(d:o≠u):a≠b:=by intro e;subst e;rw[h]at h';exact d (aN h')
def gJ{a:ai}{o:HO}(h:H a=some o)(h':H b=none):a≠b:=by intro e;subst e;rw[h]at h';cases h'
section
variable (P:ae)(w:af)
def jj(H:Hp)(h:Heap)(a:ai):HO->Prop
 |.lst xs=>xs.length<=sizeLine/\∃(G:ao ak) (n:Nat),gG xs G/\h.get? a=some { cls:=.type "list",data:=.seq G.toArray n}
 |.tup xs=>xs.length<=sizeLine/\∃ G:ao ak,gG xs G/\IsTup h a G.toArray
 |.dK fR=>fR.length<=sizeLine/\(a==sysModules)=false/\∃ vs,KV fR vs/\h.DictOf (kG P w) a vs
 | .dT fR=>fR.length<=sizeLine/\(a==sysModules)=false/\∃ xs:ao (ao Key×ai×ak),
  Paired (λ(p:ao Key×V) (q:ao Key×ai×ak)=>p.1=q.1/\H q.2.1=some (.tup (p.1.map kV))/\gB p.2 q.2.2) fR xs /\
  ∃ o es J,h.get? a=some o/\o.ExactDict/\o.data=.dict es J/\es.toList=xs.map (entryOfKey (tupleKind (kG P w)))/\(xs.map (·.1)).Nodup
 |.set S n=>h.SetOf (intKind P w) a S n
 | .ins C dx fs=>H dx=some (.own a)/\fs.length<=1000/\dx≠a/\h.get? a=some (W.instObj C dx) /\
  ∃ mA,h.Ns1 dx mA/\(∀ f,rK (fs.lookup f) (mA f))/\PySem.Within mA (fs.map (·.1))
 |.own _=>∃ o,h.get? a=some o
 |.xd fs=>∃ mA,h.Ns1 a mA/\∀ f,rK (fs.lookup f) (mA f)
 |.YZ lo hi=>∃ t u v,h.get? a=some { cls:=.type "range",data:=.fields #[.int lo t,.int hi u,.int 1 v]}
 |.Dv o u=>h.get? a=some o/\jj H h a u
 |.Rn ps=>h.get? a=some { cls:=.none,data:=.fields ps}
 |.met f x=>h.get? a=some (W.methodObj (.ref f) (.ref x))
 |.ext φ=>φ h/\(∃ o,h.get? a=some o)/\∀ h1 h2:Heap,φ h1->(∀ o,h1.get? a=some o->h2.get? a=some o)->φ h2
def pT(H:Hp)(h:Heap):Prop:=∀ a o,H a=some o->jj P w H h a o
end
section
variable {P:ae}{w:af}{H H':Hp}{h h':Heap}{a:ai}{o:HO}
def jj.lt(x:jj P w H h a o):a<h.objs.size:=by
 cases o with
 |lst xs=>obtain⟨_,_,_,_,e⟩:=x;exact jf e
 |tup xs=>obtain⟨_,_,_,p⟩:=x;exact p.lt
 |dK fR=>obtain⟨_,_,_,_,o,_,_,e,_⟩:=x;exact jf e
 |dT fR=>obtain⟨_,_,_,_,o,_,_,e,_⟩:=x;exact jf e
 |set S n=>obtain⟨o,_,_,_,e,_⟩:=x;exact jf e
 |ins C dx fs=>obtain⟨_,_,_,e,_⟩:=x;exact jf e
 |own y=>obtain⟨_,e⟩:=x;exact jf e
 |xd fs=>obtain⟨_,⟨_,_,_,e,_⟩,_⟩:=x;exact jf e
 |YZ lo hi=>obtain⟨_,_,_,e⟩:=x;exact jf e
 |Dv G u=>obtain⟨e,_⟩:=x;exact jf e
 |Rn ps=>exact jf (show h.get? a=some _ from x)
 |met f y=>exact jf (show h.get? a=some _ from x)
 |ext φ=>obtain⟨_,⟨_,e⟩,_⟩:=x;exact jf e
def Paired.Ja{α β:Type}{F G:α->β->Prop}{L:ao α}{J:ao β}(h:Paired F L J)(f:∀ a b,F a b->G a b):Paired G L J:=by
 induction h with
 |nil=>exact .nil
 |cons r t O=>exact .cons (f _ _ r) O
def jj.xf(x:jj P w H h a o)(k:∀ b u,(b=a\/H b=some (.own a))->h.get? b=some u->h'.get? b=some u)
 (Y:∀ b,H b=some (.own a)->H' b=some (.own a)) (ht:∀ b xs,H b=some (.tup xs)->H' b=some (.tup xs)):jj P w H' h' a o:=by
 induction o with
 |lst xs=>obtain⟨z,O,n,r,e⟩:=x;exact⟨z,O,n,r,k _ _ (.inl rfl) e⟩
 |tup xs=>obtain⟨z,O,r,G,e,c⟩:=x;exact⟨z,O,r,G,k _ _ (.inl rfl) e,c⟩
 |dK fR=>obtain⟨z,y,vs,r,G,es,J,e,c⟩:=x;exact⟨z,y,vs,r,G,es,J,k _ _ (.inl rfl) e,c⟩
 | dT fR =>obtain⟨z,y,xs,r,G,es,J,e,c⟩:=x;exact⟨z,y,xs,Paired.Ja r λp q z=>⟨z.1,ht _ _ z.2.1,z.2.2⟩,G,es,J,k _ _ (.inl rfl) e,c⟩
 |set S n=>obtain⟨G,es,J,t,e,c⟩:=x;exact⟨G,es,J,t,k _ _ (.inl rfl) e,c⟩
 | ins C dx fs =>obtain⟨d,z,ne,e,mA,⟨L,es,J,e2,c⟩,r⟩:=x;exact⟨Y _ d,z,ne,k _ _ (.inl rfl) e,mA,⟨L,es,J,k _ _ (.inr d) e2,c⟩,r⟩
 |own y=>obtain⟨G,e⟩:=x;exact⟨G,k _ _ (.inl rfl) e⟩
 |xd fs=>obtain⟨mA,⟨L,es,J,e,c⟩,r⟩:=x;exact⟨mA,⟨L,es,J,k _ _ (.inl rfl) e,c⟩,r⟩
 |YZ lo hi=>obtain⟨t,u,v,e⟩:=x;exact⟨t,u,v,k _ _ (.inl rfl) e⟩
 |Dv G u U=>obtain⟨e,q⟩:=x;exact⟨k _ _ (.inl rfl) e,U q⟩
 | Rn ps =>have e:h.get? a=some { cls:=.none,data:=.fields ps}:=x;show h'.get? a=some { cls:=.none,data:=.fields ps};exact k a _ (.inl rfl) e
 | met f y =>have e:h.get? a=some (W.methodObj (.ref f) (.ref y)):=x;show h'.get? a=some (W.methodObj (.ref f) (.ref y));exact k a _ (.inl rfl) e
 |ext φ=>obtain⟨p,⟨o,e⟩,st⟩:=x;exact⟨st _ _ p λo q=>k _ _ (.inl rfl) q,⟨o,k _ _ (.inl rfl) e⟩,st⟩
def pT.lt(x:pT P w H h)(e:H a=some o):a<h.objs.size:=(x a o e).lt
def pT.fresh(x:pT P w H h)(e:h.objs.size<=a):H a=none:=by
 cases q:H a with
 |none=>rfl
 |some u=>exact absurd (aL (x.lt q) e) (cq _)
def pT.jk(x:pT P w H h)(k:∀ b u,h.get? b=some u->h'.get? b=some u):pT P w H h':=λa o e =>(x a o e).xf (λb u _ q=>k b u q) (λ_ q=>q) λ_ _ q=>q
def pT.laid(x:pT P w H h)(k:∀ b u,h.get? b=some u->h'.get? b=some u)(J:h.objs.size<=a)(new:jj P w (upd H a o) h' a o):pT P w (upd H a o) h':=λb u e=>by
 have G:=x.fresh J;by_cases hb:b=a
 .subst hb;rw[gc]at e;cases e;exact new
 .rw[gr hb]at e;exact(x b u e).xf (λc v _ q=>k c v q) (λc q=>by rw[gr (gJ q G)];exact q) λc xs q=>by rw[gr (gJ q G)];exact q
end
def Rd(H:Hp)(a:ai)(u:HO):Prop:=H a=some u\/∃ o,H a=some (.Dv o u)
def Rd.ok{P:ae}{a:ai}{u:HO}(r:Rd H a u)(x:pT P w H h):jj P w H h a u:=by
 rcases r with r|⟨o,r⟩
 .exact x a u r
 .obtain⟨_,q⟩:=x a _ r;exact q
def Yx:aq HO->Prop
 |some (.lst _)=>True
 |some (.dK _)=>True
 |some (.dT _)=>True
 |some (.set _ _)=>True
 |some (.ins _ _ _)=>True
 |some (.ext _)=>True
 |_=>False
section
variable {P:ae}{w:af}{H:Hp}{h h':Heap}{x e:ai}{o':HO}
def pT.write(ok:pT P w H h)(J:Yx (H x))(he:e=x\/H e=some (.own x))(k:∀ b u,b≠e->h.get? b=some u->h'.get? b=some u)(Y:∃ u,h'.get? e=some u)
 (new:jj P w (upd H x o') h' x o'):pT P w (upd H x o') h':=λb u q=>by
 have U:∀ c y,H c=some (.own y)->c≠x:=λc y r z=>by subst z;rw[r]at J;exact J
 have G:∀ c xs,H c=some (.tup xs)->c≠x:=λc xs r z=>by subst z;rw[r]at J;exact J
 by_cases hb:b=x
 .subst hb;rw[gc]at q;cases q;exact new
 .rw[gr hb]at q;by_cases O:b=e
  .have q':H b=some (.own x):=by
    rcases he with z|z
    .exact absurd (O.trans z) hb
    .rw[O];exact z
   rw[q]at q';cases q'
   obtain⟨v,W⟩:=Y
   exact⟨v,by rw[O];exact W⟩
  .refine(ok b u q).xf (λc v L r=>k c v ?_ r) (λc r=>by rw[gr (U c b r)];exact r) λc xs r=>by rw[gr (G c xs r)];exact r
   rcases L with rfl|L
   .exact O
   .rintro rfl;rcases he with z|z
    .exact U c b L z
    .rw[L]at z;cases z;exact hb rfl
end
structure Un (fs ex:List ai)(H H':Hp)(h h':Heap):Prop where
 keep:∀ b o,h.get? b=some o->H b=none->b∉fs->b∉ex->h'.get? b=some o
 slot:∀ b o,h.get? b=some o->H b=none->b∈fs->b∉ex->∃ sl,h'.get? b=some { o with slots:=sl}
 free:∀ b o,h.get? b=some o->H b=none->b∉ex->H' b=none
 there:∀ b o,h.get? b=some o->b∉ex->∃ o',h'.get? b=some o'
 uy:∀ b xs,H b=some (.tup xs)->H' b=some (.tup xs)
 tS:∀ b o u,H b=some (.Dv o u)->H' b=some (.Dv o u)
 uC:∀ b ps,H b=some (.Rn ps)->∃ more,H' b=some (.Rn (ps++more))
section
variable {fs fs' ex ex':ao ai}{H H1 H2:Hp}{h h1 h2 h':Heap}{a x e:ai}{o:HO}
def Un.any(u:Un fs ex H H1 h h1){G:Obj}(q:h.get? b=some G)(n:H b=none)(J:b∉ex):∃ L,h1.get? b=some { G with slots:=L}:=by
 by_cases hb:b∈fs
 .exact u.slot b G q n hb J
 .exact⟨G.slots,u.keep b G q n hb J⟩
def Un.jk(k:∀ b u,h.get? b=some u->h'.get? b=some u):Un fs ex H H h h' :=
 ⟨λb G q _ _ _=>k b G q,λb G q _ _ _=>⟨G.slots,k b G q⟩,λ_ _ _ n _=>n,λb G q _=>⟨G,k b G q⟩,λ_ _ q=>q,λ_ _ _ q=>q,λ_ ps q=>⟨#[],by rw[q];simp⟩⟩
def Un.refl:Un fs ex H H h h:=Un.jk λ_ _ q=>q
def Un.laid(k:∀ b u,h.get? b=some u->h'.get? b=some u)(J:h.objs.size<=a)(G:H a=none):Un fs ex H (upd H a o) h h' where
 keep:=λb u q _ _ _=>k b u q
 slot:=λb u q _ _ _=>⟨u.slots,k b u q⟩
 free:=λb u q n _=>by rw[gr (aA (aL (jf q) J))];exact n
 there:=λb u q _=>⟨u,k b u q⟩
 uy:=λb xs q=>by rw[gr (gJ q G)];exact q
 tS:=λb u xs q=>by rw[gr (gJ q G)];exact q
 uC:=λb ps q=>⟨#[],by rw[gr (gJ q G),q];simp⟩
def Un.write(G:Yx (H x))(he:e=x\/H e=some (.own x))(k:∀ b u,b≠e->h.get? b=some u->h'.get? b=some u)(U:∃ u,h'.get? e=some u):Un fs ex H (upd H x o) h h':=by
 have L:∀ b,H b=none->b≠x:=λb n z=>by subst z;rw[n]at G;exact G
 have hb:∀ b,H b=none->b≠e:=λb n z=>by
  subst z;rcases he with r|r
  .exact L b n r
  .rw[n]at r;cases r
 have J:∀ b u,H b=some u->¬ Yx (some u)->b≠x:=λb u q nm z=>by subst z;rw[q]at G;exact nm G
 refine⟨λb u q n _ _=>k b u (hb b n) q,λb u q n _ _=>⟨u.slots,k b u (hb b n) q⟩,λb u q n _=>by rw[gr (L b n)];exact n,λb u q _=>?_,
  λb xs q=>by rw[gr (J b _ q λz=>z)];exact q,λb u xs q=>by rw[gr (J b _ q λz=>z)];exact q,λb ps q=>⟨#[],by rw[gr (J b _ q λz=>z),q];simp⟩⟩
 by_cases O:b=e
 .subst O;exact U
 .exact⟨u,k b u O q⟩
end
def YO(h:Heap)(H:Hp):ao ai:=(List.range h.objs.size).filter λa=>(H a).isSome
def AY(h:Heap)(H:Hp):Heap:=W.hideAll h (YO h H)
def Jp(h:Heap)(H:Hp):(AY h H).objs.size=h.objs.size:=W.hideAll_size _ _
def MH(e:h.get? b=some o)(n:H b=none):(AY h H).get? b=some o :=
 W.hideAll_get _ e λG=>by have q:(H b).isSome=true:=(List.mem_filter.mp G).2;rw[n]at q;simp at q
def PF(e:(AY h H).get? b=some o):h.get? b=some o/\H b=none:=by
 have G:h.get? b=some o:=W.of_hideAll (YO h H) e;refine⟨G,?_⟩;cases q:H b with
 |none=>rfl
 | some x =>have J:b∈YO h H:=List.mem_filter.mpr ⟨List.mem_range.mpr (jf G),by simp[q]⟩;have z:(AY h H).get? b=none:=W.hideAll_none (YO h H) J;rw[z]at e;cases e
def Q5(g h:Heap)(L:ai):ao (ai×Obj):=(List.range h.objs.size).filterMap λa=>if a=L\/(g.get? a).isSome=true then none else(h.get? a).map λo=>(a,o)
def rest(g h:Heap)(L d:ai):ao (ai×Obj):=(Q5 g h L).filter λp=>decide (p.1≠d)
structure Mod (K:aa)(mg:Str->Option ak)(fF:Heap):Prop where
 Um:K.In fF
 glob:fF.Ns mainGlobals mg
 blt:∃ mb,fF.Ns builtinsNs mb/\∀ x:Str,x ≠ "__name__"->mb x=bootBuiltins x
 nolimit:fF.NoLimit
structure Cx where
 prog:ae
 w:af
 K:aa
 mg:Str->Option ak
 fF:Heap
 A:Around
 N:List Str
 s₀:ah
 H₀:Hp
 env:Env
 fN:List Env
 stack:List Env
 ex:List ai
 fn:Str->Bool
 gY:Bool
 pn:List (ai×Obj)
 xe:ak->ah->Prop
variable{X:Cx}
def yO(l:ao Env):ao ai:=l.filterMap (·.frame)
abbrev Cx.fs(X:Cx):ao ai:=yO X.fN
def Yq(sc:Scope)(x:Str):Prop:=sc.names.lookup x=some .local\/sc.names.lookup x=some .cell\/sc.names.lookup x=some .free
def Loc(sc:Scope)(x:Str):Prop:=sc.names.lookup x=some .local\/sc.names.lookup x=some .cell
def Look(env:Env)(h:Heap)(m:Str->aq ak)(x:Str)(u:ak):Prop :=
 (env.kindOf x=some .local/\m x=some u)\/((env.kindOf x=some .cell\/env.kindOf x=some .free)/\∃ c,env.cells.lookup x=some c/\h.IsCell c (some u))
structure Cx.Ok (X:Cx):Prop where
 mod:Mod X.K X.mg X.fF
 kind:X.env.scope.kind=.function
 glob:X.env.globals=mainGlobals
 blt:X.env.builtins=builtinsNs
 above:X.s₀.heap.objs.size<=X.env.locals
 inj:∀ x y c,X.env.cells.lookup x=some c->X.env.cells.lookup y=some c->x=y
 has:∀ x,(X.env.kindOf x=some .cell\/X.env.kindOf x=some .free)->∃ c,X.env.cells.lookup x=some c
 Vm:∀ x c,X.fn x=true->X.env.cells.lookup x=some c->X.s₀.heap.objs.size<=c
 hd:X.gY=true->X.A.handled=none
 frames:X.A.frames=some X.stack
 VI:X.stack=X.fN\/(X.stack=X.env::X.fN/\X.env.frame=some X.env.locals)
 Sm:∀ b∈X.ex,b≠X.env.locals/\∀ x c,X.env.cells.lookup x=some c->c≠b
 bs:∀ b o,X.fF.get? b=some o->X.s₀.heap.get? b=some o/\X.H₀ b=none
 Eh:X.fF.objs.size<=X.s₀.heap.objs.size
 CU:∀ b o,X.fF.get? b=some o->b∉X.ex
 DD:∀ b∈X.ex,b∉X.fs
 qE:X.s₀.heap.FunFrames X.fF X.fN
 MV:∀ b∈X.fs,X.H₀ b=none
structure Inv (X:Cx)(fE:List (ai×Obj))(σ:List (Option V))(H:Hp)(s:ah):Prop where
 ok:X.Ok
 os:s.os=X.s₀.os
 bare:AllBare s.gens
 fF:Un X.fs X.ex X.H₀ H X.s₀.heap s.heap
 loc:∃ m,s.heap.Ns X.env.locals m/\∀(i:Nat) (x:Str) (v:V),X.N[i]?=some x->σ[i]?=some (some v)->Yq X.env.scope x->∃ u,gB v u/\Look X.env s.heap m x u
 cell:∀ x c,X.env.cells.lookup x=some c->∃ v,s.heap.IsCell c v
 free:H X.env.locals=none
 lZ:∀ x c,X.env.cells.lookup x=some c->H c=none
 pin:∀ p∈X.pn++fE,s.heap.get? p.1=some p.2/\H p.1=none/\p.1≠X.env.locals/\p.1∉X.fs/\∀ v,p.2.data≠.cell v
 hG:pT X.prog X.w H s.heap
 len:σ.length=X.N.length
section
variable {X:Cx}{fE:ao (ai×Obj)}{σ:ao (aq V)}{H H':Hp}{s:ah}{h':Heap}
def Cx.Ok.nofr(ok:X.Ok)(e:X.fF.get? b=some o):b∉X.fs:=λhb=>by have:=(ok.qE.mem hb).1;rw[e]at this;cases this
def Inv.bs(I:Inv X fE σ H s):∀ b o,X.fF.get? b=some o->s.heap.get? b=some o/\H b=none:=λb o e =>⟨I.fF.keep b o (I.ok.bs b o e).1 (I.ok.bs b o e).2 (I.ok.nofr e) (I.ok.CU b o e),I.fF.free b o (I.ok.bs b o e).1 (I.ok.bs b o e).2 (I.ok.CU b o e)⟩
def Inv.bk(I:Inv X fE σ H s):∀ b o,X.fF.get? b=some o->s.heap.get? b=some o:=λb o e=>(I.bs b o e).1
def Inv.mod(I:Inv X fE σ H s):Mod X.K X.mg X.fF:=I.ok.mod
def Inv.tH(I:Inv X fE σ H s):X.K.In s.heap:=I.ok.mod.Um.keeps I.bk
def Inv.fr(I:Inv X fE σ H s):∃ m,Fr X.fF X.env.locals s.heap m :=
 let ⟨m,hn,_⟩:=I.loc
 ⟨m,hn,I.bk,aX I.ok.Eh I.ok.above⟩
def Inv.lt(I:Inv X fE σ H s):X.env.locals<s.heap.objs.size:=let ⟨_,hn,_⟩:=I.loc;hn.lt
def Inv.sz(I:Inv X fE σ H s):X.s₀.heap.objs.size<=s.heap.objs.size:=aX I.ok.above (e9 I.lt)
def Inv.nofs(I:Inv X fE σ H s){a:ai}(h:s.heap.objs.size<=a):a∉X.fs:=λhb=>by obtain⟨_,o,G,_⟩:=I.ok.qE.mem hb;exact absurd (aL (jf G) (aX I.sz h)) (cq _)
def Inv.Sy(I:Inv X fE σ H s):∀ x c,X.env.cells.lookup x=some c->c≠X.env.locals:=λx c e z=>by obtain⟨v,o,G,hd⟩:=I.cell x c e;obtain⟨m,⟨o',es,O,J,L,_⟩,_⟩:=I.loc;rw[z,J]at G;cases G;rw[L]at hd;cases hd
def Inv.qE(I:Inv X fE σ H s):s.heap.FunFrames X.fF X.fN:=by
 have all:∀(l:ao Env),(∀ b∈yO l,b∈X.fs)->X.s₀.heap.FunFrames X.fF l->s.heap.FunFrames X.fF l:=by
  intro l;induction l with
  |nil=>intro _ _;trivial
  | cons env r O =>intro J hl;obtain⟨hk,⟨L,o,G,Y,W,hd⟩,U⟩:=hl;have hL:L∈X.fs:=J L (by unfold yO;rw[cL,G];exact aF);obtain⟨Z,e⟩:=I.fF.slot L o W (I.ok.MV L hL) hL λz=>I.ok.DD L z hL;exact⟨hk,⟨L,_,G,Y,e,hd⟩,O (λb hb=>J b (by unfold yO;rw[cL,G];exact nM _ hb)) U⟩
 exact all X.fN (λ_ hb=>hb) I.ok.qE
def Inv.stack(I:Inv X fE σ H s):s.heap.FunFrames X.fF X.stack:=by
 rcases I.ok.VI with e|⟨e,J⟩
 .rw[e];exact I.qE
 .rw[e];obtain⟨m,G,_⟩:=I.loc;refine .cons (by rw[I.ok.kind];decide) J G ?_ I.qE;exact Heap.get?_none_of_le (aX I.ok.Eh I.ok.above)
def Inv.xc(I:Inv X fE σ H s):∀ b∈yO X.stack,b∈X.env.locals::X.fs:=λb hb=>by
 rcases I.ok.VI with e|⟨e,G⟩
 .rw[e]at hb;exact nM _ hb
 .rw[e]at hb;unfold yO at hb;rw[cL,G]at hb;exact hb
def Inv.qU(I:Inv X fE σ H s):∀ b∈yO X.stack,H b=none:=λb hb=>by
 rcases List.mem_cons.mp (I.xc b hb)with e|hb
 .rw[e];exact I.free
 .obtain⟨_,o,ho,_⟩:=I.ok.qE.mem hb;exact I.fF.free b o ho (I.ok.MV b hb) λz=>I.ok.DD b z hb
def Inv.step{g':Array GenState}{t':Nat}{d':Drawn}(I:Inv X fE σ H s)
 (Y:∀ b∈ch,(b∈X.ex\/X.s₀.heap.objs.size<=b)/\b≠X.env.locals/\(∀ x c,X.env.cells.lookup x=some c->c≠b)/\∀ p∈X.pn++fE,p.1≠b)
 (keep:∀ b o,b≠X.env.locals->b∉X.fs->b∉ch->s.heap.get? b=some o->H b=none->h'.get? b=some o)
 (slot:∀ b o,b≠X.env.locals->b∈X.fs->b∉ch->s.heap.get? b=some o->H b=none->∃ Z,h'.get? b=some { o with slots:=Z}) (free:∀ b o,b∉ch->s.heap.get? b=some o->H b=none->H' b=none)
 (there:∀ b o,b∉ch->s.heap.get? b=some o->∃ o',h'.get? b=some o')
 (uy:∀ b xs,H b=some (.tup xs)->H' b=some (.tup xs)) (tS:∀ b o u,H b=some (.Dv o u)->H' b=some (.Dv o u)) (uC:∀ b ps,H b=some (.Rn ps)->∃ U,H' b=some (.Rn (ps++U)))
 (ns:∀ m,s.heap.Ns X.env.locals m->h'.Ns X.env.locals m) (hG:pT X.prog X.w H' h') (hg:AllBare g'):
 Inv X fE σ H' {s with heap:=h',gens:=g',drawn:=d',toks:=t'}:=by
 have O:∀ b o,X.s₀.heap.get? b=some o->b≠X.env.locals:=λb o e=>aA (aL (jf e) I.ok.above);have BY:∀ b o,X.s₀.heap.get? b=some o->b∉X.ex->b∉ch:=λb o e G hb=>by
  rcases(Y b hb).1 with z|z
  .exact G z
  .exact absurd (aL (jf e) z) (cq _)
 have J:∀ x c,X.env.cells.lookup x=some c->∀ v,s.heap.IsCell c v->h'.IsCell c v:=λx c e v ⟨o,L,hd⟩=>by
  have W:c∉ch:=λz=>(Y c z).2.2.1 x c e rfl;by_cases hc:c∈X.fs
  .obtain⟨Z,q⟩:=slot c o (I.Sy x c e) hc W L (I.lZ x c e);exact⟨_,q,hd⟩
  .exact⟨o,keep c o (I.Sy x c e) hc W L (I.lZ x c e),hd⟩
 refine⟨I.ok,I.os,hg,⟨λb o e n hb G=>?_,λb o e n hb G=>?_,λb o e n G=>?_,λb o e G=>?_,λb xs e=>uy b xs (I.fF.uy b xs e),λb o xs e=>tS b o xs (I.fF.tS b o xs e),λb ps e=>?_⟩,?_,λx c e=>?_,?_,λx c e=>?_,λp hp=>?_,hG,I.len⟩
 .exact keep b o (O b o e) hb (BY b o e G) (I.fF.keep b o e n hb G) (I.fF.free b o e n G)
 .obtain⟨Z,e1⟩:=I.fF.slot b o e n hb G;obtain⟨Wq,e2⟩:=slot b _ (O b o e) hb (BY b o e G) e1 (I.fF.free b o e n G);exact⟨Wq,e2⟩
 .obtain⟨o',e1⟩:=I.fF.there b o e G;exact free b o' (BY b o e G) e1 (I.fF.free b o e n G)
 .obtain⟨o',e1⟩:=I.fF.there b o e G;exact there b o' (BY b o e G) e1
 .obtain⟨m1,e1⟩:=I.fF.uC b ps e;obtain⟨m2,e2⟩:=uC b _ e1;exact⟨m1++m2,by rw[e2,Array.append_assoc]⟩
 .obtain⟨m,hn,hl⟩:=I.loc;refine⟨m,ns m hn,λi x v e1 e2 e3=>?_⟩;obtain⟨u,r,l⟩:=hl i x v e1 e2 e3;refine⟨u,r,?_⟩;rcases l with l|⟨k,c,e,z⟩
  .exact .inl l
  .exact .inr ⟨k,c,e,J x c e _ z⟩
 .obtain⟨v,z⟩:=I.cell x c e;exact⟨v,J x c e v z⟩
 .obtain⟨m,⟨o,_,_,L,_⟩,_⟩:=I.loc;exact free _ o (λz=>(Y _ z).2.1 rfl) L I.free
 .obtain⟨v,o,L,hd⟩:=I.cell x c e;exact free c o (λz=>(Y c z).2.2.1 x c e rfl) L (I.lZ x c e)
 .obtain⟨e,n,ne,nf,d⟩:=I.pin p hp;have W:p.1∉ch:=λz=>(Y p.1 z).2.2.2 p hp rfl;exact⟨keep p.1 p.2 ne nf W e n,free p.1 p.2 W e n,ne,nf,d⟩
def Inv.un{t':Nat}(I:Inv X fE σ H s)(u:Un X.fs [] H H' s.heap h')(hG:pT X.prog X.w H' h'):Inv X fE σ H' { s with heap:=h',toks:=t'}:=by
 obtain⟨m,⟨o,es,ep,L,r⟩,_⟩:=id I.loc;obtain⟨Y,hL⟩:=u.any L I.free (by simp);exact I.step (g':=s.gens) (d':=s.drawn) (ch:=[]) (λ_ z=>nomatch z) (λb o _ hb _ e n=>u.keep b o e n hb (by simp)) (λb o _ hb _ e n=>u.slot b o e n hb (by simp)) (λb o _ e n=>u.free b o e n (by simp)) (λb o _ e=>u.there b o e (by simp)) u.uy u.tS u.uC (λZ W=>by
  obtain⟨o',G,J,O,U⟩:=W
  rw[L]at O;cases O
  exact⟨_,G,J,hL,U⟩) hG I.bare
def Inv.call{g':Array GenState}{t':Nat}{d':Drawn}(I:Inv X fE σ H s)(u:Un (yO X.stack) ch H H' s.heap h')(hG:pT X.prog X.w H' h')(hg:AllBare g')
 (W:∀ b∈ch,(b∈X.ex\/X.s₀.heap.objs.size<=b)/\b≠X.env.locals/\(∀ x c,X.env.cells.lookup x=some c->c≠b)/\∀ p∈X.pn++fE,p.1≠b):
 Inv X fE σ H' {s with heap:=h',gens:=g',drawn:=d',toks:=t'}:=by
 obtain⟨m,⟨o,es,ep,O,r⟩,_⟩:=id I.loc;obtain⟨sl,hL⟩:=u.any O I.free λz=>(W _ z).2.1 rfl;exact I.step (ch:=ch) W (λb o hL hb G e n=>u.keep b o e n (λz=>(List.mem_cons.mp (I.xc b z)).elim hL hb) G) (λb o _ _ G e n=>u.any e n G) (λb o G e n=>u.free b o e n G) (λb o G e=>u.there b o e G) u.uy u.tS u.uC (λm' Z=>by
  obtain⟨o',J,L,U,Y⟩:=Z
  rw[O]at U;cases U
  exact⟨_,J,L,hL,Y⟩) hG hg
def Inv.turned{t':Nat}{it:ai}(I:Inv X fE σ H s)(k:∀ b o,b≠it->s.heap.get? b=some o->h'.get? b=some o)(L:H it=none)(hL:it≠X.env.locals)
 (h1:it∈X.ex\/X.s₀.heap.objs.size<=it) (h2:∀ x c,X.env.cells.lookup x=some c->c≠it) (U:∀ p∈X.pn++fE,p.1≠it):Inv X fE σ H {s with heap:=h',toks:=t'}:=by
 have J:∀ b u,H b=some u->b≠it:=λb u e z=>by rw[z,L]at e;cases e
 refine I.step (g':=s.gens) (d':=s.drawn) (ch:=[it]) (λb hb=>?_) (λb o _ _ G e _=>k b o (λz=>G (by simp[z])) e) (λb o _ _ G e _=>⟨o.slots,k b o (λz=>G (by simp[z])) e⟩) (λ_ _ _ _ n=>n)
  (λb o G e=>⟨o,k b o (λz=>G (by simp[z])) e⟩) (λ_ _ e=>e) (λ_ _ _ e=>e) (λb ps e=>⟨#[],by rw[e];simp⟩) (λm O=>?_) (λb u e=>?_) I.bare
 .have e:b=it:=by simpa using hb
  subst e
  exact⟨h1,hL,h2,U⟩
 .obtain⟨o,es,ep,ho,r⟩:=O;exact⟨o,es,ep,k _ o (bj hL) ho,r⟩
 .refine(I.hG b u e).xf (λc v G q=>k c v ?_ q) (λ_ q=>q) λ_ _ q=>q;rcases G with z|z
  .rw[z];exact J b u e
  .exact J c _ z
def Inv.tok(I:Inv X fE σ H s)(t:Nat):Inv X fE σ H {s with toks:=t}:=I.un (h':=s.heap) (t':=t) Un.refl I.hG
def Inv.jk{t':Nat}(I:Inv X fE σ H s)(k:∀ b u,s.heap.get? b=some u->h'.get? b=some u):Inv X fE σ H {s with heap:=h',toks:=t'}:=I.un (Un.jk k) (I.hG.jk k)
def Inv.laid{a:ai}{o:HO}{t':Nat}(I:Inv X fE σ H s)(k:∀ b u,s.heap.get? b=some u->h'.get? b=some u)(G:s.heap.objs.size<=a)(new:jj X.prog X.w (upd H a o) h' a o):
 Inv X fE σ (upd H a o) {s with heap:=h',toks:=t'}:=I.un (Un.laid k G (I.hG.fresh G)) (I.hG.laid k G new)
def Inv.write{x e:ai}{o:HO}{t':Nat}(I:Inv X fE σ H s)(G:Yx (H x))(he:e=x\/H e=some (.own x))(k:∀ b u,b≠e->s.heap.get? b=some u->h'.get? b=some u)(J:∃ u,h'.get? e=some u)
 (new:jj X.prog X.w (upd H x o) h' x o):Inv X fE σ (upd H x o) {s with heap:=h',toks:=t'}:=I.un (Un.write G he k J) (I.hG.write G he k J new)
def Inv.weak{G:ao (aq V)}(I:Inv X fE σ H s)(hl:G.length=σ.length)(w:∀(i:Nat) v,G[i]?=some (some v)->σ[i]?=some (some v)):Inv X fE G H s :=
 ⟨I.ok,I.os,I.bare,I.fF,let ⟨m,hn,oB⟩:=I.loc;⟨m,hn,λi x v e1 e2 e3=>oB i x v e1 (w i v e2) e3⟩,I.cell,I.free,I.lZ,I.pin,I.hG,hl.trans I.len⟩
def Inv.pD{pins':ao (ai×Obj)}(I:Inv X fE σ H s)(h:∀ p∈pins',s.heap.get? p.1=some p.2/\H p.1=none/\p.1≠X.env.locals/\p.1∉X.fs/\∀ v,p.2.data≠.cell v):Inv X pins' σ H s :=
 ⟨I.ok,I.os,I.bare,I.fF,I.loc,I.cell,I.free,I.lZ,λp G=>(List.mem_append.mp G).elim (λz=>I.pin p (cG _ z)) (h p),I.hG,I.len⟩
def CV{N:ao Str}(G:N.Nodup){j:Nat}(a:N[i]?=some x)(b:N[j]?=some x):i=j:=by obtain⟨h1,e1⟩:=kN a;obtain⟨h2,e2⟩:=kN b;exact(List.getElem_inj G).mp (e1.trans e2.symm)
def ze{M:Model}{A:Around}{E:ak->ah->Prop}{Q:Unit->ah->Prop}(I:Inv X fE σ H s)(hN:X.N.Nodup)(hi:X.N[i]?=some x)(O:Loc X.env.scope x)(r:gB v u)
 (h:∀ s',Inv X fE (σ.set i (some v)) H s'->(∃ a,Heap.SameBut a s.heap s'.heap/\(a=X.env.locals\/X.env.cells.lookup x=some a))->Q () s') (hf:X.fn x=true\/X.env.scope.names.lookup x=some .local:=by first|exact .inl rfl|exact .inr rfl|assumption):wpAny M A (storeName X.env x u) Q E s:=by
 obtain⟨m,hn,hl⟩:=id I.loc;have UT:(X.env.scope.kind==.class||(X.env.scope.kind==.module&&X.env.locals != X.env.globals))=false:=by rw[I.ok.kind];rfl
 have Xr:i<σ.length:=by rw[I.len];exact(kN hi).1
 have Sy:=I.Sy;have J:∀ {a:ai} {h':Heap},(∃ o,s.heap.get? a=some o/\H a=none)->Heap.SameBut a s.heap h'->pT X.prog X.w H h':=λ{a h'} ha G b ob e=>by
  obtain⟨_,_,Sa⟩:=ha;refine(I.hG b ob e).xf (λc Y L q=>(G.2 c ?_).trans q) (λ_ q=>q) λ_ _ q=>q;rintro rfl;rcases L with rfl|L
  .rw[Sa]at e;cases e
  .rw[Sa]at L;cases L
 rcases O with hk|hk
 .refine wpAny_storeName_local hk hn (λh' hn' G=>?_) UT;obtain⟨oL,_,_,hoL,_⟩:=id hn;refine h _ ⟨I.ok,I.os,I.bare,⟨λb o e n hb O=>?_,λb o e n hb O=>?_,I.fF.free,λb o e O=>?_,I.fF.uy,I.fF.tS,I.fF.uC⟩,⟨_,hn',λj y v' e1 e2 e3=>?_⟩,λy c e=>?_,I.free,I.lZ,λp hp=>?_,J ⟨oL,hoL,I.free⟩ G,by simpa using I.len⟩ ⟨_,G,.inl rfl⟩
  .exact(G.2 b (aA (aL (jf e) I.ok.above))).trans (I.fF.keep b o e n hb O)
  .obtain⟨sl,e1⟩:=I.fF.slot b o e n hb O;exact⟨sl,(G.2 b (aA (aL (jf e) I.ok.above))).trans e1⟩
  .obtain⟨o',e1⟩:=I.fF.there b o e O;exact⟨o',(G.2 b (aA (aL (jf e) I.ok.above))).trans e1⟩
  .by_cases hj:j=i
   .subst hj;rw[hi]at e1;cases e1;rw[aG Xr]at e2;cases e2;exact⟨u,r,.inl ⟨hk,by simp⟩⟩
   .rw[aJ (bj hj)]at e2;obtain⟨u',r',q⟩:=hl j y v' e1 e2 e3;refine⟨u',r',?_⟩;rcases q with⟨k,e⟩|⟨k,c,e,z⟩
    .refine .inl ⟨k,?_⟩;have:y≠x:=λe=>hj (CV hN e1 (e▸hi));simp[this,e]
    .exact .inr ⟨k,c,e,z.sameBut G (Sy y c e)⟩
  .obtain⟨Y,z⟩:=I.cell y c e;exact⟨Y,z.sameBut G (Sy y c e)⟩
  .obtain⟨e,n,ne,nf,d⟩:=I.pin p hp;exact⟨(G.2 p.1 ne).trans e,n,ne,nf,d⟩
 .have hfn:X.fn x=true:=by
   rcases hf with z|z
   .exact z
   .rw[z]at hk;cases hk
  obtain⟨c,L⟩:=I.ok.has x (.inl hk)
  obtain⟨Y,z⟩:=I.cell x c L
  refine wpAny_storeName_cell I.ok.kind hk L z (λh' tO G=>?_)
  obtain⟨oc,W,U⟩:=id z
  refine h {s with heap:=h'} ⟨I.ok,I.os,I.bare,⟨λb o e n hb O=>?_,λb o e n hb O=>?_,I.fF.free,λb o e O=>?_,I.fF.uy,I.fF.tS,I.fF.uC⟩,⟨m,hn.sameBut G (bj (Sy x c L)),λj y v' e1 e2 e3=>?_⟩,λy Z e=>?_,I.free,I.lZ,λp hp=>?_,J ⟨oc,W,I.lZ x c L⟩ G,by simpa using I.len⟩ ⟨c,G,.inr L⟩
  .exact(G.2 b (aA (aL (jf e) (I.ok.Vm x c hfn L)))).trans (I.fF.keep b o e n hb O)
  .obtain⟨sl,e1⟩:=I.fF.slot b o e n hb O;exact⟨sl,(G.2 b (aA (aL (jf e) (I.ok.Vm x c hfn L)))).trans e1⟩
  .obtain⟨o',e1⟩:=I.fF.there b o e O;exact⟨o',(G.2 b (aA (aL (jf e) (I.ok.Vm x c hfn L)))).trans e1⟩
  .by_cases hj:j=i
   .subst hj;rw[hi]at e1;cases e1;rw[aG Xr]at e2;cases e2;exact⟨u,r,.inr ⟨.inl hk,c,L,tO⟩⟩
   .rw[aJ (bj hj)]at e2;obtain⟨u',r',q⟩:=hl j y v' e1 e2 e3;refine⟨u',r',?_⟩;rcases q with q|⟨k,Z,e,z'⟩
    .exact .inl q
    .refine .inr ⟨k,Z,e,z'.sameBut G ?_⟩;rintro rfl;exact hj (CV hN e1 (I.ok.inj _ _ _ e L▸hi))
  .by_cases VX:Z=c
   .subst VX;exact⟨_,tO⟩
   .obtain⟨w2,z2⟩:=I.cell y Z e;exact⟨w2,z2.sameBut G VX⟩
  .obtain⟨e,n,ne,nf,d⟩:=I.pin p hp;refine⟨(G.2 p.1 ?_).trans e,n,ne,nf,d⟩;intro q;rw[q,W]at e;have q':oc=p.2:=aN e;exact d Y (by rw[<- q'];exact U)
def sN{M:Model}{A:Around}{E:ak->ah->Prop}{Q:Unit->ah->Prop}(I:Inv X fE σ H s)(J:X.N.Nodup)(hi:X.N[i]?=some x)(G:Loc X.env.scope x)(r:gB v u)
 (h:∀ s',Inv X fE (σ.set i (some v)) H s'->Q () s') (hf:X.fn x=true\/X.env.scope.names.lookup x=some .local:=by first|exact .inl rfl|exact .inr rfl|assumption):wpAny M A (storeName X.env x u) Q E s:=
 ze I J hi G r (λs' L _=>h s' L) hf
def Inv.zP{s':ah}(I:Inv X fE σ H s)(G:s'.os=s.os)(u:Un (yO X.stack) ch H H' s.heap s'.heap)(hG:pT X.prog X.w H' s'.heap)(J:AllBare s'.gens)
 (L:∀ b∈ch,(b∈X.ex\/X.s₀.heap.objs.size<=b)/\b≠X.env.locals/\(∀ x c,X.env.cells.lookup x=some c->c≠b)/\∀ p∈X.pn++fE,p.1≠b):Inv X fE σ H' s':=by
 obtain⟨h',g',d',t',o'⟩:=s';have e:o'=s.os:=G;subst e;exact I.call (g':=g') (t':=t') (d':=d') u hG J L
end
abbrev XK:=ak->aq ai->Hp->Prop
abbrev St:=ao (aq V)
variable{σ:St}
abbrev VK:=V->Hp->Prop
abbrev TE:=St->Hp->VK->Prop
abbrev TT:=St->Hp->(Bool->Hp->Prop)->Prop
abbrev TA:=St->Hp->(ao V->Hp->Prop)->Prop
structure Ends where
 nx:St->Hp->Prop
 rt:VK
 bk:St->Hp->Prop:=λ_ _=>False
 ct:St->Hp->Prop:=λ_ _=>False
abbrev TS:=Ends->St->Hp->Prop
def EP(X:Cx)(fE:ao (ai×Obj))(σ:St)(Q:VK)(u:ak)(s':ah):Prop:=∃ v H',Inv X fE σ H' s'/\gB v u/\Q v H'
def TP(X:Cx)(fE:ao (ai×Obj))(σ:St)(Q:Bool->Hp->Prop)(b:Bool)(s':ah):Prop:=∃ H',Inv X fE σ H' s'/\Q b H'
def AP(X:Cx)(fE:ao (ai×Obj))(σ:St)(Q:ao V->Hp->Prop)(us:ao ak)(s':ah):Prop:=∃ vs H',Inv X fE σ H' s'/\gG vs us/\Q vs H'
def SP(X:Cx)(fE:ao (ai×Obj))(D:Ends)(f:Flow)(s':ah):Prop :=
 match f with
 |.next=>∃ G H',Inv X fE G H' s'/\D.nx G H'
 |.brk=>∃ G H',Inv X fE G H' s'/\D.bk G H'
 |.cont=>∃ G H',Inv X fE G H' s'/\D.ct G H'
 |.ret u=>∃ v G H',Inv X fE G H' s'/\gB v u/\D.rt v H'
def PE(X:Cx)(e:Expr)(t:TE):Prop :=
 ∀(fE:ao (ai×Obj)) (s:ah) (σ:St) (H:Hp) (Q:VK),Inv X fE σ H s->t σ H Q->wpAny (model X.prog X.w) X.A (eval e X.env) (EP X fE σ Q) X.xe s
def PT(X:Cx)(e:Expr)(t:TT):Prop :=
 ∀(fE:ao (ai×Obj)) (s:ah) (σ:St) (H:Hp) (Q:Bool->Hp->Prop),Inv X fE σ H s->t σ H Q->wpAny (model X.prog X.w) X.A (isTrue e X.env (eval e X.env)) (TP X fE σ Q) X.xe s
def PW(X:Cx)(e:Expr)(t:TT):Prop :=
 ∀(G:Sem ak) (fE:ao (ai×Obj)) (s:ah) (σ:St) (H:Hp) (Q:Bool->Hp->Prop),Inv X fE σ H s->t σ H Q->wpAny (model X.prog X.w) X.A (isTrue e X.env G) (TP X fE σ Q) X.xe s
def PW.pt{t:TT}(h:PW X e t):PT X e t:=h _
def PA(X:Cx)(es:ao Expr)(t:TA):Prop :=
 ∀(pos:Pos) (fE:ao (ai×Obj)) (s:ah) (σ:St) (H:Hp) (Q:ao V->Hp->Prop),Inv X fE σ H s->t σ H Q->wpAny (model X.prog X.w) X.A (spliced (backTo pos (starEach es X.env))) (AP X fE σ Q) X.xe s
def PS(X:Cx)(st:Stmt)(t:TS):Prop :=
 ∀(fE:ao (ai×Obj)) (s:ah) (σ:St) (H:Hp) (D:Ends),Inv X fE σ H s->t D σ H->wpAny (model X.prog X.w) X.A (exec st X.env) (SP X fE D) X.xe s
def BG(X:Cx)(st:ao Stmt)(t:TS):Prop :=
 ∀(fE:ao (ai×Obj)) (s:ah) (σ:St) (H:Hp) (D:Ends),Inv X fE σ H s->t D σ H->wpAny (model X.prog X.w) X.A (execs st X.env) (SP X fE D) X.xe s
def iN{α:Type}{t:Sem α}{Q G:α->ah->Prop}{M:Model}{A:Around}{E:ak->ah->Prop}(h:wpAny M A t Q E s)(J:∀ a s,Q a s->G a s):wpAny M A t G E s:=bU h J λ_ _ x=>x
section
variable {X:Cx}
def bin{a b:Expr}{ta tb:TE}(ha:PE X a ta)(hb:PE X b tb){R:V->V->Hp->Prop}(I:Inv X fE σ H s)(h:ta σ H λx H1=>tb σ H1 λy H2=>R x y H2)
 {α:Type} {Q:α->ah->Prop} {f:ak->ak->Sem α}
 (hf:∀ v u L x y H2,Inv X fE σ H2 L->gB x v->gB y u->R x y H2->wpAny (model X.prog X.w) X.A (f v u) Q X.xe L):
 wpAny (model X.prog X.w) X.A (eval a X.env) (λv J=>wpAny (model X.prog X.w) X.A (eval b X.env) (λu G=>wpAny (model X.prog X.w) X.A (f v u) Q X.xe G) X.xe J) X.xe s:=by
 refine iN (ha fE s σ H _ I h) λv O Z=>?_;obtain⟨x,H1,I1,Y,q1⟩:=Z;refine iN (hb fE O σ H1 _ I1 q1) λu L U=>?_;obtain⟨y,H2,I2,W,q2⟩:=U;exact hf v u L x y H2 I2 Y W q2
def ZM(i:Nat):TE:=λσ H Q=>∃ v,σ[i]?=some (some v)/\Q v H
def tC(v:V):TE:=λ_ H Q=>Q v H
def Lq{pos:Pos}(W:X.N[i]?=some x)(L:Yq X.env.scope x)(hd:(x==("__debug__" : Str))=false:=by decide)(Dq:(x==("__classdict__" : Str))=false:=by decide):PE X (.Name x pos) (ZM i):=by
 intro fE s σ H Q I h;obtain⟨v,e,h⟩:=h;obtain⟨m,O,hl⟩:=I.loc;obtain⟨u,r,l⟩:=hl i x v W e L;have fin:EP X fE σ Q u s:=⟨v,H,I,r,h⟩;rcases l with⟨hk,U⟩|⟨hk,c,J,G⟩
 .exact wpAny_Name (wpAny_loadName_local I.ok.kind hk O U fin) hd
 .rcases hk with hk | hk
  .exact wpAny_Name (wpAny_loadName_cell I.ok.kind hk J G fin) hd
  .exact wpAny_Name (wpAny_loadName_free I.ok.kind hk J G fin Dq) hd
def iw{i j pos}:PE X (.Constant (.int i) j pos) (tC (.int i)):=λ_ _ _ H _ I h=>wpAny_Constant_int ⟨.int i,H,I.tok _,⟨_,rfl⟩,h⟩
def LA{b j pos}:PE X (.Constant (.bool b) j pos) (tC (.bl b)):=λ_ _ _ H _ I h=>Constant_bool ⟨.bl b,H,I,rfl,h⟩
def TM{j pos}:PE X (.Constant .none j pos) (tC .iz):=λ_ _ _ H _ I h=>Constant_none ⟨.iz,H,I,rfl,h⟩
def TL{x j pos}:PE X (.Constant (.str x) j pos) (tC (.str x)):=λ_ _ _ H _ I h=>Calls.Constant_str ⟨.str x,H,I.tok _,⟨_,rfl⟩,h⟩
def Gl(X:Cx)(x:Str):Prop:=X.env.kindOf x=some .globalImplicit
def rj{E:ak->ah->Prop}{pos:Pos}(I:Inv X fE σ H s)(G:Gl X x)(hm:X.mg x=some u)(h:Q u s)
 (hd:(x==("__debug__" : Str))=false:=by decide):wpAny (model X.prog X.w) X.A (eval (.Name x pos) X.env) Q E s:=
 Calls.Name_function_global I.ok.kind G (Calls.loadGlobal_global (by rw[I.ok.glob];exact I.mod.glob.keeps I.bk) hm h) hd
def lM{E:ak->ah->Prop}{pos:Pos}(I:Inv X fE σ H s)(L:Gl X x)(hm:X.mg x=none)(G:bootBuiltins x=some u)(h:Q u s)
 (J:x ≠ "__name__":=by decide) (hd:(x==("__debug__" : Str))=false:=by decide):wpAny (model X.prog X.w) X.A (eval (.Name x pos) X.env) Q E s:=by
 obtain⟨mb,h1,h2⟩:=I.mod.blt;exact Calls.Name_function_global I.ok.kind L (Calls.loadGlobal_builtin (by rw[I.ok.glob];exact I.mod.glob.keeps I.bk) hm (by rw[I.ok.blt];exact h1.keeps I.bk) ((h2 x J).trans G) h) hd
def Po{pos:Pos}(G:Gl X x)(hm:X.mg x=some u)(r:gB v u)(hd:(x==("__debug__" : Str))=false:=by decide):PE X (.Name x pos) (tC v) :=
 λ_ _ _ H _ I h=>rj I G hm ⟨v,H,I,r,h⟩ hd
def jF{pos:Pos}(L:Gl X x)(hm:X.mg x=none)(G:bootBuiltins x=some u)(r:gB v u)(J:x ≠ "__name__":=by decide)(hd:(x==("__debug__" : Str))=false:=by decide):PE X (.Name x pos) (tC v) :=
 λ_ _ _ H _ I h=>lM I L hm G ⟨v,H,I,r,h⟩ J hd
variable {a b:Expr}{ta tb:TE}{pos:Pos}
def PC(X:Cx)(op:CmpOp)(a b:Expr)(t:TE):Prop :=
 ∀(fE:ao (ai×Obj)) (s:ah) (σ:St) (H:Hp) (Q:VK),Inv X fE σ H s->t σ H Q ->
  wpAny (model X.prog X.w) X.A (eval a X.env) (λv J=>wpAny (model X.prog X.w) X.A (eval b X.env) (λu G=>wpAny (model X.prog X.w) X.A (compareOp op v u) (EP X fE σ Q) X.xe G) X.xe J) X.xe s
def LW(b:Expr)(h:op≠.In)(h2:op≠.NotIn):behindInMarks op b=false:=by
 have e1:(op==CmpOp.In)=false:=by cases op<;>first|rfl|exact absurd rfl h
 have e2:(op==CmpOp.NotIn)=false:=by cases op<;>first|rfl|exact absurd rfl h2
 cases b<;>simp[behindInMarks,e1,e2]
def Wg(ta:TE):TE:=λσ H Q=>ta σ H λx H1=>Q (.bl (decide (x=.iz))) H1
def Rp(ta:TE):TE:=λσ H Q=>ta σ H λx H1=>Q (.bl (!decide (x=.iz))) H1
def gB.CT{x:V}{v:ak}(r:gB x v):(v==Value.none)=decide (x=.iz):=by
 cases x with
 |iz=>cases r;rfl
 |bl _=>cases r;rfl
 |int _=>obtain⟨t,rfl⟩:=r;rfl
 |str _=>obtain⟨t,rfl⟩:=r;rfl
 |JH _=>obtain⟨t,rfl⟩:=r;rfl
 |Sg _=>obtain⟨t,rfl⟩:=r;rfl
 |ref _=>cases r;rfl
 |ty _=>cases r;rfl
def TQ{j pos'}(ha:PE X a ta):PC X .Is a (.Constant .none j pos') (Wg ta):=by intro fE s σ H Q I h;refine iN (ha fE s σ H _ I h) λv O G=>?_;obtain⟨x,H1,L,J,q1⟩:=G;exact Constant_none (is_none_gen ⟨.bl _,H1,L,by rw[J.CT];rfl,q1⟩)
def Pp{j pos'}(ha:PE X a ta):PC X .IsNot a (.Constant .none j pos') (Rp ta):=by intro fE s σ H Q I h;refine iN (ha fE s σ H _ I h) λv O G=>?_;obtain⟨x,H1,L,J,q1⟩:=G;exact Constant_none (isnot_none_gen ⟨.bl _,H1,L,by rw[J.CT];rfl,q1⟩)
def tB(t:TE):TT:=λσ H Q=>t σ H λx H1=>∃ c,x=.bl c/\Q c H1
def EG{t:TE}(h:PC X op a b t)(h1:behindInMarks op b=false:=by first | exact LW _ (by decide) (by decide) | rfl):PT X (.Compare a [op] [b] pos) (tB t):=by intro fE s σ H Q I L;refine wpAny_isTrue_Compare1 (iN (h fE s σ H _ I L) λv Y h1=>iN h1 λu W h2=>iN h2 λc U G=>?_) h1;obtain⟨x,H1,O,J,q1⟩:=G;obtain⟨d,rfl,q⟩:=q1;cases J;exact cJ ⟨H1,O,q⟩
variable {tA YU:TT}{rest:ao Expr}
def Wm(t u:TT):TT:=λσ H Q=>t σ H λc H1=>if c=true then u σ H1 Q else Q false H1
def tOr(t u:TT):TT:=λσ H Q=>t σ H λc H1=>if c=true then Q true H1 else u σ H1 Q
def ZQ(t:TT):TT:=λσ H Q=>t σ H λc H1=>Q (!c) H1
def pw_and1(ha:PT X a tA):PW X (.BoolOp .And [a] pos) tA:=by
 intro G fE s σ H Q I h;refine isTrue_and (iN (ha fE s σ H Q I h) λc J e=>?_);cases c with
 |true=>exact isTrue_and_nil e
 |false=>exact e
def pw_or1(ha:PT X a tA):PW X (.BoolOp .Or [a] pos) tA:=by
 intro G fE s σ H Q I h;refine isTrue_or (iN (ha fE s σ H Q I h) λc J e=>?_);cases c with
 |false=>exact isTrue_or_nil e
 |true=>exact e
def pw_and(ha:PT X a tA)(hb:PW X (.BoolOp .And (b::rest) pos) YU):PW X (.BoolOp .And (a::b::rest) pos) (Wm tA YU):=by
 intro J fE s σ H Q I h;refine isTrue_and (iN (ha fE s σ H _ I h) λc L O=>?_);obtain⟨H1,G,q1⟩:=O;cases c with
 |true=>exact hb J fE L σ H1 Q G q1
 |false=>exact⟨H1,G,q1⟩
def pw_or(ha:PT X a tA)(hb:PW X (.BoolOp .Or (b::rest) pos) YU):PW X (.BoolOp .Or (a::b::rest) pos) (tOr tA YU):=by
 intro J fE s σ H Q I h;refine isTrue_or (iN (ha fE s σ H _ I h) λc L O=>?_);obtain⟨H1,G,q1⟩:=O;cases c with
 |true=>exact⟨H1,G,q1⟩
 |false=>exact hb J fE L σ H1 Q G q1
def Tv(ha:PT X a tA):PT X (.UnaryOp .Not a pos) (ZQ tA):=by intro fE s σ H Q I h;exact isTrue_not (ha fE s σ H (λc H1=>Q (!c) H1) I h)
def Ls{op}{t:TE}(h:PE X a t):PE X (.BoolOp op [a] pos) t:=λfE s σ H Q I G=>BoolOp_one (h fE s σ H Q I G)
def tIf(t:TT)(ta tb:TE):TE:=λσ H Q=>t σ H λc H1=>if c=true then ta σ H1 Q else tb σ H1 Q
def Lv{c:Expr}(O:PT X c tA)(ha:PE X a ta)(hb:PE X b tb):PE X (.IfExp c a b pos) (tIf tA ta tb):=by
 intro fE s σ H Q I h;refine wpAny_IfExp (iN (O fE s σ H _ I h) λd G L=>?_);obtain⟨H1,J,q1⟩:=L;cases d with
 |true=>exact ha fE G σ H1 Q J q1
 |false=>exact hb fE G σ H1 Q J q1
end
def pS(K:aa)(H:Hp)(a:ai)(xs:ao V):Prop :=
 Rd H a (.lst xs) \/
  ∃(o:Obj) (gp:Array ak) (n:Nat),K.lookup a=some o/\o.cls=.type "list"/\o.dict=none/\o.data=.seq gp n/\gp.size<=sizeLine/\gG xs gp.toList
def FI(K:aa)(H:Hp)(a:ai)(xs:ao V):Prop :=
 Rd H a (.tup xs) \/
  ∃(o:Obj) (gp:Array ak) (n:Nat),K.lookup a=some o/\o.cls=.type "tuple"/\o.data=.seq gp n/\gp.size<=sizeLine/\gG xs gp.toList
def absV:ak->aq V
 |.none=>some .iz
 |.bool b=>some (.bl b)
 |.int i _=>some (.int i)
 |.str x _=>some (.str x)
 |.bytes b _=>some (.JH b)
 |.float b _=>some (.Sg b)
 |.ref a=>some (.ref a)
 |.type n=>some (.ty n)
 |_=>none
def gB.abs{x:V}(r:gB x u):absV u=some x:=by
 cases x with
 |iz=>cases r;rfl
 |bl _=>cases r;rfl
 |int _=>obtain⟨t,rfl⟩:=r;rfl
 |str _=>obtain⟨t,rfl⟩:=r;rfl
 |JH _=>obtain⟨t,rfl⟩:=r;rfl
 |Sg _=>obtain⟨t,rfl⟩:=r;rfl
 |ref _=>cases r;rfl
 |ty _=>cases r;rfl
def gB.inj{x y:V}(r:gB x u)(q:gB y u):x=y:=aN (r.abs.symm.trans q.abs)
def gG.inj{xs ys:ao V}{us:ao ak}(h:gG xs us)(g:gG ys us):xs=ys:=by
 induction h generalizing ys with
 |nil=>cases g;rfl
 | cons r t L =>
  cases g with
  |cons J G=>rw[r.inj J,L G]
section
variable {X:Cx}{fE:ao (ai×Obj)}{σ:St}{H:Hp}{s:ah}{a:ai}{xs ys:ao V}
def pS.of{K:aa}(h:H a=some (.lst xs)):pS K H a xs:=.inl (.inl h)
def FI.of{K:aa}(h:H a=some (.tup xs)):FI K H a xs:=.inl (.inl h)
def Inv.list(I:Inv X fE σ H s)(h:pS X.K H a xs):∃ G:ao ak,gG xs G/\PlainL s.heap a G.toArray/\xs.length<=sizeLine:=by
 rcases h with h|⟨o,G,n,hk,L,hd,J,O,r⟩
 .obtain⟨z,G,n,r,e⟩:=h.ok I.hG;exact⟨G,r,⟨_,n,e,rfl,rfl,rfl⟩,z⟩
 .refine⟨G.toList,r,⟨o,n,I.tH a o hk,L,hd,by simpa using J⟩,?_⟩;have e:=r.length;simp only[Array.length_toList]at e;lia
def Inv.tuple(I:Inv X fE σ H s)(h:FI X.K H a xs):∃ G:ao ak,gG xs G/\IsTup s.heap a G.toArray/\xs.length<=sizeLine:=by
 rcases h with h|⟨o,G,n,hk,L,J,O,r⟩
 .obtain⟨z,G,r,p⟩:=h.ok I.hG;exact⟨G,r,p,z⟩
 .refine⟨G.toList,r,⟨o,I.tH a o hk,L,n,by simpa using J⟩,?_⟩;have e:=r.length;simp only[Array.length_toList]at e;lia
def Inv.Me(I:Inv X fE σ H s)(h:pS X.K H a xs)(h':pS X.K H a ys):xs=ys:=by
 obtain⟨U,r,⟨o,n,e,_,_,d⟩,_⟩:=I.list h;obtain⟨G,O,⟨o',W,J,_,_,L⟩,_⟩:=I.list h';rw[e]at J;cases J;rw[d]at L;injection L with d1 _;have:U=G:=by simpa using cf Array.toList d1
 subst this;exact r.inj O
end
abbrev Cx.yB(X:Cx)(E:ak->ah->Prop):Cx:={ X with xe:=E}
abbrev Cx.WT(X:Cx):Cx:=X.yB λ_ _=>False
def Cx.Ok.yB{X:Cx}(ok:X.Ok)(E:ak->ah->Prop):(X.yB E).Ok :=
 ⟨ok.mod,ok.kind,ok.glob,ok.blt,ok.above,ok.inj,ok.has,ok.Vm,ok.hd,ok.frames,ok.VI,ok.Sm,ok.bs,ok.Eh,ok.CU,ok.DD,ok.qE,ok.MV⟩
def Cx.Ok.qd{E:ak->ah->Prop}(ok:(X.yB E).Ok):X.Ok :=
 ⟨ok.mod,ok.kind,ok.glob,ok.blt,ok.above,ok.inj,ok.has,ok.Vm,ok.hd,ok.frames,ok.VI,ok.Sm,ok.bs,ok.Eh,ok.CU,ok.DD,ok.qE,ok.MV⟩
section
variable {X:Cx}{fE:ao (ai×Obj)}{σ:St}{H:Hp}{s:ah}{E:ak->ah->Prop}
def Inv.yB(I:Inv X fE σ H s)(E:ak->ah->Prop):Inv (X.yB E) fE σ H s:=⟨I.ok.yB E,I.os,I.bare,I.fF,I.loc,I.cell,I.free,I.lZ,I.pin,I.hG,I.len⟩
def Inv.qd(I:Inv (X.yB E) fE σ H s):Inv X fE σ H s:=⟨I.ok.qd,I.os,I.bare,I.fF,I.loc,I.cell,I.free,I.lZ,I.pin,I.hG,I.len⟩
def SP.qd{D:Ends}{f:Flow}{s':ah}(h:SP (X.yB E) fE D f s'):SP X fE D f s':=by
 cases f with
 |next=>obtain⟨G,H',I,q⟩:=h;exact⟨G,H',I.qd,q⟩
 |brk=>obtain⟨G,H',I,q⟩:=h;exact⟨G,H',I.qd,q⟩
 |cont=>obtain⟨G,H',I,q⟩:=h;exact⟨G,H',I.qd,q⟩
 |ret u=>obtain⟨v,G,H',I,r,q⟩:=h;exact⟨v,G,H',I.qd,r,q⟩
def BG.WT{st:ao Stmt}{t:TS}(h:BG X.WT st t):BG X st t:=λfE s σ H D I G =>bU (h fE s σ H D (I.yB _) G) (λ_ _ q=>q.qd) λ_ _ z=>False.elim z
end
section
variable {X:Cx}{st:Stmt}{rest:ao Stmt}{t u:TS}{e:Expr}{te:TE}{pos:Pos}
def Wf:TS:=λD σ H=>D.nx σ H
def ZO(t u:TS):TS:=λD σ H=>t { D with nx:=u D} σ H
def nV:BG X [] Wf:=λ_ _ σ H _ I h=>eE ⟨σ,H,I,h⟩
def iT(h1:PS X st t)(h2:BG X rest u):BG X (st::rest) (ZO t u):=by
 intro fE s σ H D I h;refine wpAny_execs_cons (iN (h1 fE s σ H { D with nx:=u D} I h) λf G q=>?_);cases f with
 | next =>obtain⟨J,H',L,q⟩:=q;exact h2 fE G J H' D L q
 |ret v=>exact q
 |brk=>exact q
 |cont=>exact q
def lI(h1:PS X st t):BG X [st] t:=by
 intro fE s σ H D I h;refine wpAny_execs_cons (iN (h1 fE s σ H D I h) λf G q=>?_);cases f with
 |next=>exact eE q
 |ret v=>exact q
 |brk=>exact q
 |cont=>exact q
def Inv.quiet(I:Inv X fE σ H s):interactive X.env=false:=by simp[interactive,I.ok.kind]
def Wh(te:TE):TS:=λD σ H=>te σ H λ_ H1=>D.nx σ H1
def Pc(he:PE X e te)(J:swapsWith e none pos.line X.env=pure false:=by rfl):PS X (.Expr e pos) (Wh te):=by intro fE s σ H D I h;exact wpAny_Expr_any (iN (he fE s σ H _ I h) λv O G=>by obtain⟨x,H1,L,U,q1⟩:=G;exact⟨σ,H1,L,q1⟩) I.quiet J
def ZP(te:TE):TS:=λD σ H=>te σ H D.rt
def ow(he:PE X e te):PS X (.Return (some e) pos) (ZP te):=by intro fE s σ H D I h;exact wpAny_Return_some (iN (he fE s σ H _ I h) λv O G=>by obtain⟨x,H1,L,J,q1⟩:=G;exact⟨x,σ,H1,L,J,q1⟩)
def ZT(c:TT)(t u:TS):TS:=λD σ H=>c σ H λb H1=>if b=true then t D σ H1 else u D σ H1
def vn{c:Expr}{a b:ao Stmt}{tc:TT}(O:PT X c tc)(ha:BG X a t)(hb:BG X b u):PS X (.If c a b pos) (ZT tc t u):=by
 intro fE s σ H D I h;refine wpAny_If (iN (O fE s σ H _ I h) λd G L=>?_);obtain⟨H1,J,q1⟩:=L;cases d with
 |true=>exact ha fE G σ H1 D J q1
 |false=>exact hb fE G σ H1 D J q1
end
abbrev TG:=V->St->Hp->(St->Hp->Prop)->Prop
abbrev zY:=ao V->St->Hp->(St->Hp->Prop)->Prop
def PG(X:Cx)(target:Expr)(t:TG):Prop :=
 ∀(fE:ao (ai×Obj)) (s:ah) (σ:St) (H:Hp) (v:V) (u:ak) (Q:St->Hp->Prop),Inv X fE σ H s->gB v u->t v σ H Q ->
  wpAny (model X.prog X.w) X.A (assign target X.env u) (λ_ s'=>∃ G H',Inv X fE G H' s'/\Q G H') X.xe s
def N8(X:Cx)(ts:ao Expr)(t:zY):Prop :=
 ∀(fE:ao (ai×Obj)) (s:ah) (σ:St) (H:Hp) (vs:ao V) (us:ao ak) (Q:St->Hp->Prop),Inv X fE σ H s->gG vs us->t vs σ H Q ->
  wpAny (model X.prog X.w) X.A (assignInOrder ((assignEach ts X.env).map (·.2)) us) (λ_ s'=>∃ G H',Inv X fE G H' s'/\Q G H') X.xe s
abbrev FH:=V->V->V->Hp->(Hp->Prop)->Prop
def Rb(X:Cx)(t:FH):Prop :=
 ∀(fE:ao (ai×Obj)) (s:ah) (σ:St) (H:Hp) (o i v:V) (ov iv u:ak) (Q:Hp->Prop),Inv X fE σ H s->gB o ov->gB i iv->gB v u->t o i v H Q ->
  wpAny (model X.prog X.w) X.A (setItem ov iv u) (λ_ s'=>∃ H',Inv X fE σ H' s'/\Q H') X.xe s
abbrev Q9:=V->V->Hp->VK->Prop
def Vs(X:Cx)(op:Operator)(t:Q9):Prop :=
 ∀(fE:ao (ai×Obj)) (s:ah) (σ:St) (H:Hp) (x y:V) (v u:ak) (Q:VK),Inv X fE σ H s->gB x v->gB y u->t x y H Q ->
  wpAny (model X.prog X.w) X.A (inplaceOp op v u) (EP X fE σ Q) X.xe s
section
variable {X:Cx}{pos:Pos}
def tR(i:Nat):TG:=λv σ H Q=>Q (σ.set i (some v)) H
def wg(J:X.N.Nodup)(hi:X.N[i]?=some x)(G:Loc X.env.scope x)(hf:X.fn x=true\/X.env.scope.names.lookup x=some .local:=by first | exact .inl rfl | exact .inr rfl | assumption):PG X (.Name x pos) (tR i):=by intro fE s σ H v u Q I r h;exact wpAny_assign_Name (sN I J hi G r (λs' L=>⟨_,H,L,h⟩) hf)
def gNil:zY:=λvs σ H Q=>vs=[]/\Q σ H
def Xy(t:TG)(u:zY):zY:=λvs σ H Q=>∃ v r,vs=v::r/\t v σ H λG H'=>u r G H' Q
def Pl:N8 X [] gNil:=by intro fE s σ H vs us Q I r h;obtain⟨e,h⟩:=h;subst e;cases r;exact assignInOrder_nil ⟨σ,H,I,h⟩
def Lp{es:ao Expr}{t:TG}{u:zY}(h1:PG X e t)(h2:N8 X es u)
 (L:(assignEach (e::es) X.env).map (·.2)=assign e X.env::(assignEach es X.env).map (·.2):=by rfl):N8 X (e::es) (Xy t u):=by
 intro fE s σ H vs us Q I r h;obtain⟨v,W,e1,h⟩:=h;subst e1;cases r with
 | cons r rr =>rw[L];refine assignInOrder_cons (iN (h1 fE s σ H _ _ _ I r h) λ_ J G=>?_);obtain⟨U,H1,O,q1⟩:=G;exact h2 fE J U H1 _ _ Q O rr q1
def gTup(K:aa)(n:Nat)(t:zY):TG:=λv σ H Q=>∃ a xs,v=.ref a/\FI K H a xs/\xs.length=n/\t xs σ H Q
def TJ{es:ao Expr}{k:Nat}{t:zY}{n:Nat}(W:X.gY=true)(h:N8 X es t)
 (U:(assignEach es X.env).length=n:=by rfl) (B1:(assignEach es X.env).findIdx? (·.1)=none:=by rfl):PG X (.Tuple es k pos) (gTup X.K n t):=by
 intro fE s σ H v u Q I r G;obtain⟨a,xs,e1,O,hl,G⟩:=G;subst e1;cases r;obtain⟨gp,J,ht,Z⟩:=I.tuple O;refine assign_Tuple_tuple (I.ok.hd W) ht (by simp[U,<- hl,J.length]) B1 λh' L=>?_;have Y:Inv X fE σ H {s with heap:=h'}:=I.jk (t':=s.toks) λb o e=>L b o (aA (jf e)) e;exact h fE _ σ H xs _ Q Y (by simpa using J) G
def gSub(to ti:TE)(t:FH):TG:=λv σ H Q=>to σ H λo H1=>ti σ H1 λi H2=>t o i v H2 λG=>Q σ G
def xB{o i:Expr}{to ti:TE}{t:FH}(ho:PE X o to)(hi:PE X i ti)(hs:Rb X t)
 (ha:∀ v,assign (.Subscript o i pos) X.env v=(do
   let G <- holding [v] (eval o X.env)
   let J <- holding [v,G] (eval i X.env)
   standAt pos
   holding [v,G,J] (setItem G J v)
   release [v,G,J] []):=by intro _;rfl):PG X (.Subscript o i pos) (gSub to ti t):=by
 intro fE s σ H v u Q I r h
 rw[ha]
 refine fV (bB (iN (ho fE s σ H _ I h) λG O U=>?_))
 obtain⟨x,H1,I1,Z,q1⟩:=U
 refine fV (bB (iN (hi fE O σ H1 _ I1 q1) λJ L W=>?_))
 obtain⟨y,H2,I2,Y,q2⟩:=W
 refine fV (d9 (fV (bB (iN (hs fE L σ H2 x y v G J u _ I2 Z Y r q2) λ_ s3 qz=>?_))))
 obtain⟨H3,I3,q3⟩:=qz
 exact wpAny_release ⟨σ,H3,I3,q3⟩
def SX(te:TE)(g:TG):TS:=λD σ H=>te σ H λx H1=>g x σ H1 D.nx
def uI{te:TE}{g:TG}(he:PE X e te)(U:PG X tg g)(O:swapsWithSole [tg] e pos.line X.env=pure false:=by rfl)(hw:swappedStores [tg] e X.env=pure none:=by rfl)
 (h1:(assignEach [tg] X.env).map (·.2)=[assign tg X.env]:=by rfl):PS X (.Assign [tg] e pos) (SX te g):=by
 intro fE s σ H D I h;refine wpAny_Assign_stores (iN (he fE s σ H _ I h) λv G J=>?_) O hw;obtain⟨x,H1,W,L,q1⟩:=J;rw[h1];exact iN (U fE G σ H1 x v _ W L q1) λ_ Y q=>q
def uH{te:TE}{pos':Pos}(U:X.N.Nodup)(hi:X.N[i]?=some x)(L:Loc X.env.scope x)(he:PE X e te)(O:swapsWith e (some (.Name x pos')) pos.line X.env=pure false:=by rfl)(hf:X.fn x=true\/X.env.scope.names.lookup x=some .local:=by first | exact .inl rfl | exact .inr rfl | assumption):
 PS X (.Assign [.Name x pos'] e pos) (SX te (tR i)):=by
 intro fE s σ H D I h;refine wpAny_Assign_Name (iN (he fE s σ H _ I h) λv s1 G=>?_) O;obtain⟨y,H1,Y,J,q1⟩:=G;exact sN Y U hi L J (λZ W=>⟨_,H1,W,q1⟩) hf
def ZY(i:Nat)(te:TE)(ti:Q9):TS:=λD σ H=>∃ x,σ[i]?=some (some x)/\te σ H λy H1=>ti x y H1 λz H2=>D.nx (σ.set i (some z)) H2
def TB{te:TE}{op:Operator}{ti:Q9}{pos':Pos}(hN:X.N.Nodup)(hi:X.N[i]?=some x)(O:Loc X.env.scope x)(he:PE X e te)(ho:Vs X op ti)(hf:X.fn x=true\/X.env.scope.names.lookup x=some .local:=by first | exact .inl rfl | exact .inr rfl | assumption):
 PS X (.AugAssign (.Name x pos') op e pos) (ZY i te ti):=by
 intro fE s σ H D I h;obtain⟨v,e1,h⟩:=h;obtain⟨m,hn,hl⟩:=I.loc;have L:Yq X.env.scope x:=by rcases O with k|k;exact .inl k;exact .inr (.inl k)
 obtain⟨u,r,l⟩:=hl i x v hi e1 L;refine wpAny_AugAssign_Name ?_;have go:wpAny (model X.prog X.w) X.A (eval e X.env) (λw J=>wpAny (model X.prog X.w) X.A (inplaceOp op u w) (λr G=>wpAny (model X.prog X.w) X.A (storeName X.env x r) (λ_=>SP X fE D .next) X.xe G) X.xe J) X.xe s:=by refine iN (he fE s σ H _ I h) λw Z W=>?_;obtain⟨y,H1,I1,r1,q1⟩:=W;refine iN (ho fE Z σ H1 v y u w _ I1 r r1 q1) λz s2 Y=>?_;obtain⟨zv,H2,I2,r2,q2⟩:=Y;exact sN I2 hN hi O r2 (λs3 I3=>⟨_,H2,I3,q2⟩) hf
 rcases l with⟨hk,hm⟩|⟨hk,c,hc,U⟩
 .exact wpAny_loadName_local I.ok.kind hk hn hm go
 .rcases hk with hk | hk
  .exact wpAny_loadName_cell I.ok.kind hk hc U go
  .rcases O with k | k
   .have:X.env.scope.names.lookup x=some .free:=hk;rw[k]at this;cases this
   .have:X.env.scope.names.lookup x=some .free:=hk;rw[k]at this;cases this
def Wl(to ti te:TE)(J:V->V->Hp->VK->Prop)(G:Q9)(L:FH):TS:=λD σ H=>to σ H λo H1=>ti σ H1 λi H2=>J o i H2 λx Y=>te σ Y λy W=>G x y W λz U=>L o i z U λO=>D.nx σ O
def Yv(X:Cx)(t:V->V->Hp->VK->Prop):Prop :=
 ∀(fE:ao (ai×Obj)) (s:ah) (σ:St) (H:Hp) (o i:V) (ov iv:ak) (Q:VK),Inv X fE σ H s->gB o ov->gB i iv->t o i H Q ->
  wpAny (model X.prog X.w) X.A (getItem ov iv) (EP X fE σ Q) X.xe s
def Pd{o i:Expr}{to ti te:TE}{OH:V->V->Hp->VK->Prop}{Z:Q9}{OG:FH}{op:Operator}{tpos:Pos}(ho:PE X o to)(hi:PE X i ti)(hg:Yv X OH)(he:PE X e te)(hp:Vs X op Z)(hs:Rb X OG)
 (ha:∀ G J new,augStore i G J new=(do holding [new,G,J] (setItem G J new);release [new,G,J] [];pure .next):=by intros;rfl):PS X (.AugAssign (.Subscript o i tpos) op e pos) (Wl to ti te OH Z OG):=by
 intro fE s σ H D I h;refine wpAny_AugAssign_SubscriptAny (iN (ho fE s σ H _ I h) λG s1 rO=>?_) ha;obtain⟨U,H1,I1,Y,q1⟩:=rO;refine iN (hi fE s1 σ H1 _ I1 q1) λJ s2 rH=>?_;obtain⟨O,H2,I2,W,q2⟩:=rH;refine iN (hg fE s2 σ H2 U O G J _ I2 Y W q2) λL s3 qz=>?_;obtain⟨x3,H3,I3,r3,q3⟩:=qz;refine iN (he fE s3 σ H3 _ I3 q3) λv s4 rG=>?_;obtain⟨x4,H4,I4,r4,q4⟩:=rG;refine iN (hp fE s4 σ H4 x3 x4 L v _ I4 r3 r4 q4) λnew s5 rF=>?_;obtain⟨x5,H5,I5,r5,q5⟩:=rF;exact iN (hs fE s5 σ H5 U O x5 G J new _ I5 Y W r5 q5) λ_ s6 tM=>by obtain⟨H6,I6,q6⟩:=tM;exact⟨σ,H6,I6,q6⟩
def ipI(f:Int->Int->Int):Q9:=λx y H Q=>∃ i j,x=.int i/\y=.int j/\Q (.int (f i j)) H
def Uz:Vs X .Add (ipI λi j=>i+j):=by intro fE s σ H x y v u Q I J G h;obtain⟨i,j,e1,e2,q⟩:=h;subst e1;subst e2;obtain⟨t,rfl⟩:=J;obtain⟨L,rfl⟩:=G;exact iadd_int ⟨.int _,H,I.tok _,⟨_,rfl⟩,q⟩
def Uy:Vs X .Sub (ipI λi j=>i - j):=by intro fE s σ H x y v u Q I J G h;obtain⟨i,j,e1,e2,q⟩:=h;subst e1;subst e2;obtain⟨t,rfl⟩:=J;obtain⟨L,rfl⟩:=G;exact isub_int ⟨.int _,H,I.tok _,⟨_,rfl⟩,q⟩
end
section
variable {X:Cx}{pos:Pos}
def SR(c:TT)(tb:TS):TS:=λD σ H=>∃ W:Nat->St->Hp->Prop,(∃ m,W m σ H)/\∀ m σ H,W m σ H ->
 c σ H λb H1=>if b=true then ∃ N:St->Hp->Prop,(∀ J H',N J H'->∃ G,G<m/\W G J H')/\tb { D with nx:=N,ct:=N,bk:=D.nx} σ H1 else D.nx σ H1
def Ll{c:Expr}{tc:TT}{tb:TS}(hp:PassesOwn (model X.prog X.w) X.A X.env X.xe)(hc:PT X c tc)(hb:BG X body tb):PS X (.While c body [] pos) (SR tc tb):=by
 intro fE s σ H D I h;obtain⟨W,⟨m0,w0⟩,G⟩:=h;refine wpAny_While (codeAny_whileLoop (λn s'=>∃ iS H',Inv X fE iS H' s'/\W n iS H') ?_ m0 ⟨σ,H,I,w0⟩);rintro n s1 ⟨U,H1,I1,w1⟩;refine dh hp (iN (hc fE s1 U H1 _ I1 (G n U H1 w1)) λb s2 tL=>?_);obtain⟨H2,I2,q2⟩:=tL;cases b with
 | true =>
  obtain⟨N,hN,q2⟩:=q2;rw[aB rfl];refine dh hp (iN (hb fE s2 U H2 _ I2 q2) λf s3 O=>?_);cases f with
  | next =>obtain⟨L,J,I3,Y⟩:=O;obtain⟨Z,hm,w3⟩:=hN L J Y;exact⟨Z,hm,L,J,I3,w3⟩
  | cont =>obtain⟨L,J,I3,Y⟩:=O;obtain⟨Z,hm,w3⟩:=hN L J Y;exact⟨Z,hm,L,J,I3,w3⟩
  |brk=>exact O
  |ret v=>exact O
 | false =>rw[aC aK];exact eE ⟨U,H2,I2,q2⟩
end
structure It where
 go:Nat->Hp->Prop
 Kn:Nat->Hp->V->Hp->Prop
 stop:Nat->Hp->Prop
def mT(X:Cx)(fE:ao (ai×Obj))(H:Hp)(b:ai):Prop :=
 H b=none/\b≠X.env.locals/\b∉X.fs/\(b∈X.ex\/X.s₀.heap.objs.size<=b)/\(∀ x c,X.env.cells.lookup x=some c->c≠b)/\∀ p∈X.pn++fE,p.1≠b
def Inv.Dw{H':Hp}(I:Inv X fE σ H s)(hb:s.heap.objs.size<=b)(J:H' b=none):mT X fE H' b:=by
 refine⟨J,a8 (aL I.lt hb),I.nofs hb,.inr (aX I.sz hb),λx c e z=>?_,λp G z=>?_⟩
 .obtain⟨v,q⟩:=I.cell x c e;exact absurd (aL q.lt (by rw[z];exact hb)) (cq _)
 .exact absurd (aL (jf (I.pin p G).1) (by rw[z];exact hb)) (cq _)
structure Turn (P:ae)(w:af)(K:aa)(tg:Expr)(J:It)(fp:List ai)(it:ai)(tn:Nat->Heap->Prop)(CM:Cx->Prop:=λX=>X.gY=true):Prop where
 mem:it∈fp
 obj:∀ i h,tn i h->∀ b∈fp,∃ o,h.get? b=some o/\∀ v,o.data≠.cell v
 keep:∀ i h h',tn i h->(∀ b∈fp,∀ o,h.get? b=some o->h'.get? b=some o)->tn i h'
 item:∀(X:Cx),X.prog=P->X.w=w->X.K=K->CM X->∀(i:Nat) (fE:List (ai×Obj)) (s:ah) (σ:St) (H:Hp) (E:ak->ah->Prop),Inv X fE σ H s->(∀ b∈fp,mT X fE H b)->tn i s.heap->J.go i H ->
  wpAny (model P w) X.A (pyNext (.ref it)) (λr s1=>∃ u,r=some u /\
   wpAny (model P w) X.A (letOwnedTupleGo tg (.ref it) u) (λ_ s2=>∃ x H',Inv X fE σ H' s2/\gB x u/\J.Kn i H x H'/\tn (i+1) s2.heap/\∀ b∈fp,H' b=none) E s1) E s
 done:∀(X:Cx),X.prog=P->X.w=w->X.K=K->CM X->∀(i:Nat) (fE:List (ai×Obj)) (s:ah) (σ:St) (H:Hp) (E:ak->ah->Prop),Inv X fE σ H s->(∀ b∈fp,mT X fE H b)->tn i s.heap->J.stop i H ->
  wpAny (model P w) X.A (pyNext (.ref it)) (λr s1=>r=none/\Inv X fE σ H s1) E s
 self:∀(A:Around) (i:Nat) (s:ah) (Q:ak->ah->Prop) (E:ak->ah->Prop),tn i s.heap->Q (.ref it) s->wpAny (model P w) A (pyIter (.ref it)) Q E s
abbrev TI:=St->Hp->(It->Hp->Prop)->Prop
def PIE(X:Cx)(fE:ao (ai×Obj))(σ:St)(tg:Expr)(R:It->Hp->Prop)(L:ak)(s2:ah):Prop :=
 ∃(G:ai) (fp:ao ai) (tn:Nat->Heap->Prop) (J:It) (H':Hp),L=.ref G/\Inv X fE σ H' s2/\Turn X.prog X.w X.K tg J fp G tn/\tn 0 s2.heap/\(∀ b∈fp,mT X fE H' b)/\R J H'
def PI(X:Cx)(tg iter:Expr)(wi:TI):Prop :=
 ∀(fE:ao (ai×Obj)) (s:ah) (σ:St) (H:Hp) (R:It->Hp->Prop),Inv X fE σ H s->wi σ H R ->
  wpAny (model X.prog X.w) X.A (eval iter X.env) (λv G=>wpAny (model X.prog X.w) X.A (pyIter v) (PIE X fE σ tg R) X.xe G) X.xe s
def MR{M:Model}{A:Around}{E:ak->ah->Prop}{it:ai}{n:String}{vs:Array ak}{Q:Unit->ah->Prop}(J:s.heap.get? it=some o)(O:o.cls=.type n)(hd:o.data=.fields vs)
 (L:["enumerate","zip","dict_itemiterator","dict_reverseitemiterator","odict_iterator","itertools.zip_longest","itertools.pairwise"].contains n=false) (G:Q () s):wpAny M A (letOwnedTupleGo tg (.ref it) u) Q E s:=by
 unfold letOwnedTupleGo;cases tg <;> first
  |exact au G
  | (cases u <;> first
      |exact au G
      | (refine fV (wpAny_load J ?_)
         rw[O,hd]
         show wpAny M A (if(["enumerate","zip","dict_itemiterator","dict_reverseitemiterator","odict_iterator","itertools.zip_longest","itertools.pairwise"].contains n&&vs[0]?==some (rawInt _))=true then _ else _) Q E s
         rw[aC (by intro h;rw[L,Bool.false_and]at h;cases h)]
         exact au G))
def Itl(K:aa)(a:ai):It :=
 ⟨λi H=>∃ xs x,pS K H a xs/\xs[i]?=some x,λi H x H'=>H'=H/\∀ xs,pS K H a xs->xs[i]?=some x,λi H=>∃ xs,pS K H a xs/\xs.length<=i⟩
def YA(lo:Int)(n:Nat):It:=⟨λi _=>i<n,λi H x H'=>H'=H/\x=.int (lo+i),λi _=>n<=i⟩
def Ik{P:ae}{K:aa}(a it:ai):Turn P w K tg (Itl K a) [it] it (λi h=>h.IsListIter it a i) where
 mem:=by simp
 obj:=λi h st b hb=>by
  have e:b=it:=by simpa using hb
  subst e;obtain⟨o,e,c,d⟩:=st;exact⟨o,e,λv z=>by rw[d]at z;cases z⟩
 keep:=λi h h' st k=>st.at λo e=>k it (by simp) o e
 item:=by intro X Y U Z hc i fE s σ H E I J st W;subst Y U Z;obtain⟨xs,x,G,O⟩:=W;obtain⟨gp,L,p,hz⟩:=I.list G;obtain⟨u,hu,ru⟩:=L.get O;obtain⟨f0,f1,f2,f3,f4,f5⟩:=J it (by simp);refine wpAny_pyNext_list_item st p.isList (x:=u) (by simpa using hu) λh' Rw sb=>?_;have I1:Inv X fE σ H {s with heap:=h'}:=I.turned (t':=s.toks) (λb o hb e=>(sb.2 b hb).trans e) f0 f1 f3 f4 f5;obtain⟨o,e,c,d⟩:=id Rw;exact⟨u,rfl,MR (s:={s with heap:=h'}) e c d (by decide) ⟨x,H,I1,ru,⟨rfl,λys hy=>by rw[I.Me hy G];exact O⟩,Rw,λb hb=>(J b hb).1⟩⟩
 done:=by intro X Y U Z hc i fE s σ H E I J st W;subst Y U Z;obtain⟨xs,G,O⟩:=W;obtain⟨gp,L,p,hz⟩:=I.list G;obtain⟨f0,f1,f2,f3,f4,f5⟩:=J it (by simp);have hl:=L.length;exact wpAny_pyNext_list_end (I.ok.hd hc) st p.isList (by simp;lia) λh' eb=>⟨rfl,I.turned (t':=s.toks) (λb o hb e=>eb b o hb e) f0 f1 f3 f4 f5⟩
 self:=λ_ _ _ _ _ st h=>wpAny_pyIter_listiter st h
def o7{P:ae}{K:aa}(it:ai)(lo:Int)(n:Nat):Turn P w K tg (YA lo n) [it] it (λi h=>IsRangeIter h it (lo+(i:Nat)*1) ((n:Int) - (i:Nat)) 1) where
 mem:=by simp
 obj:=λi h st b hb=>by
  have e:b=it:=by simpa using hb
  subst e;exact⟨_,st,λv z=>by
   have z':Data.fields _=Data.cell v:=z
   cases z'⟩
 keep:=λi h h' st k=>k it (by simp) _ st
 item:=by intro X U J Y O i fE s σ H E I G st L;subst U J Y;obtain⟨f0,f1,f2,f3,f4,Z⟩:=G it (by simp);have W:=Walks.range (prog:=X.prog) (w:=X.w) (I.ok.hd O) it lo 1 n;refine W.item i s _ _ L st λv h' tk hv Rw kk=>?_;obtain⟨t,rfl⟩:=hv;have I1:Inv X fE σ H {s with heap:=h',toks:=tk}:=I.turned (λb o hb e=>kk b o (by simpa using hb) e) f0 f1 f3 f4 Z;refine⟨_,rfl,MR (s:={s with heap:=h',toks:=tk}) (n:= "range_iterator") Rw rfl rfl (by decide) ⟨.int (lo+i),H,I1,⟨t,?_⟩,⟨rfl,rfl⟩,Rw,λb hb=>(G b hb).1⟩⟩;rw[Int.mul_one]
 done:=by intro X U J Y O i fE s σ H E I G st L;subst U J Y;obtain⟨f0,f1,f2,f3,f4,Z⟩:=G it (by simp);exact wpAny_pyNext_range_end (I.ok.hd O) st (by have:n<=i:=L;lia) λh' eb=>⟨rfl,I.turned (t':=s.toks) (λb o hb e=>eb b o hb e) f0 f1 f3 f4 Z⟩
 self:=λ_ _ _ _ _ st h=>wpAny_pyIter_rangeiter st h
section
variable {X:Cx}{tg:Expr}
def Xj(K:aa)(tl:TE):TI:=λσ H R=>tl σ H λx H1=>∃ a,x=.ref a/\(∃ xs,pS K H1 a xs)/\R (Itl K a) H1
def Pk{l:Expr}{tl:TE}(hl:PE X l tl):PI X tg l (Xj X.K tl):=by
 intro fE s σ H R I h;refine iN (hl fE s σ H _ I h) λv G L=>?_;obtain⟨x,H1,J,O,q1⟩:=L;obtain⟨a,e,⟨xs,U⟩,q⟩:=q1;subst e;cases O;obtain⟨Z,W,p,Y⟩:=J.list U;refine dk p.isList ?_;refine⟨G.heap.objs.size,[G.heap.objs.size],_,_,H1,rfl,J.jk (t':=G.toks) λb o e=>j4 _ e,Ik a _,⟨_,aE _ rfl,rfl,rfl⟩,λb hb=>?_,q⟩;have e:b=G.heap.objs.size:=by simpa using hb
 subst e;exact J.Dw (ar _) (J.hG.fresh (ar _))
def Cw{R:It->Hp->Prop}{E:ak->ah->Prop}{lo hi:Int}{t u v:Tok}{tk:Nat}(I:Inv X fE σ H s)(h1:-(2 ^ 62)<=lo)(h2:lo<2 ^ 62)(L:-(2 ^ 62)<=hi)(J:hi<2 ^ 62)
 (q:R (YA lo (hi - lo).toNat) H):wpAny (model X.prog X.w) X.A (pyIter (.ref s.heap.objs.size)) (PIE X fE σ tg R) E {s with heap:=s.heap.push { cls:=.type "range",data:=.fields #[.int lo t,.int hi u,.int 1 v]},toks:=tk}:=by
 refine wpAny_pyIter_range (IsRange.new ..) (small_one h1 h2 L J) ?_;have G:Inv X fE σ H {s with heap:=s.heap.push { cls:=.type "range",data:=.fields #[.int lo t,.int hi u,.int 1 v]},toks:=tk}:=I.jk λb o e=>j4 _ e;refine⟨(s.heap.push { cls:=.type "range",data:=.fields #[.int lo t,.int hi u,.int 1 v]}).objs.size,[(s.heap.push { cls:=.type "range",data:=.fields #[.int lo t,.int hi u,.int 1 v]}).objs.size],_,_,H,rfl,
  G.jk (t':=tk) λb o e=>j4 _ e,o7 _ lo (hi - lo).toNat,?_,λb hb=>?_,q⟩
 .have e1:lo+((0:Nat):Int)*1=lo:=by simp
  have e2:(((hi - lo).toNat:Nat):Int) - ((0:Nat):Int)=Builtin.Range.rangeSize lo hi 1:=by rw[rangeSize_one];split<;>lia
  show IsRangeIter _ _ (lo+((0:Nat):Int)*1) ((((hi - lo).toNat:Nat):Int) - ((0:Nat):Int)) 1
  rw[e1,e2]
  exact aE _ rfl
 .have e:b=(s.heap.push { cls:=.type "range",data:=.fields #[.int lo t,.int hi u,.int 1 v]}).objs.size:=by simpa using hb
  subst e
  exact G.Dw (ar _) (G.hG.fresh (ar _))
def Xi(ta:TA):TI:=λσ H R=>ta σ H λvs H1=>∃ j:Int,vs=[.int j] /\ -(2 ^ 62)<=j/\j<2 ^ 62/\R (YA 0 j.toNat) H1
def Xh(ta:TA):TI:=λσ H R=>ta σ H λvs H1=>∃ i j:Int,vs=[.int i,.int j]/\(-(2 ^ 62)<=i/\i<2 ^ 62 /\ -(2 ^ 62)<=j/\j<2 ^ 62)/\R (YA i (j - i).toNat) H1
def IF{a:Expr}{ta:TA}{p pos:Pos}(O:Gl X "range")(hm:X.mg "range"=none)(ha:PA X [a] ta)(L:starEach [a] X.env=[(false,eval a X.env)]:=by rfl):PI X tg (.Call (.Name "range" p) [a] [] pos) (Xi ta):=by
 intro fE s σ H R I h;refine Call_ (lM I O hm boot_range (bh (iN (ha pos fE s σ H _ I h) λus W G=>?_) L rfl));obtain⟨vs,H1,U,J,q1⟩:=G;obtain⟨j,e,q1,q2,q⟩:=q1;subst e;cases J with
 | cons r rr =>cases rr;obtain⟨t,rfl⟩:=r;exact call_range_1 (Cw U (by lia) (by lia) q1 q2 (by simpa using q))
def IE{a b:Expr}{ta:TA}{p pos:Pos}(Y:Gl X "range")(hm:X.mg "range"=none)(ha:PA X [a,b] ta)(W:starEach [a,b] X.env=[(false,eval a X.env),(false,eval b X.env)]:=by rfl)(rE:starEach [b] X.env=[(false,eval b X.env)]:=by rfl):
 PI X tg (.Call (.Name "range" p) [a,b] [] pos) (Xh ta):=by
 intro fE s σ H R I h;refine Call_ (lM I Y hm boot_range (bh (iN (ha pos fE s σ H _ I h) λus s1 L=>?_) (by rw[W,rE]) (by rw[rE];rfl)));obtain⟨vs,H1,Z,G,q1⟩:=L;obtain⟨i,j,e,⟨q1,q2,U,O⟩,q⟩:=q1;subst e;cases G with
 | cons r rr =>
  cases rr with
  | cons J rr =>cases rr;obtain⟨t,rfl⟩:=r;obtain⟨t',rfl⟩:=J;exact call_range_2 (Cw Z q1 q2 U O q)
def ZU(wi:TI)(g:TG)(tb:TS):TS:=λD σ H=>wi σ H λJ H1=>∃ W:Nat->Nat->St->Hp->Prop,(∃ m,W 0 m σ H1)/\∀ i m σ H,W i m σ H ->
 (J.stop i H/\D.nx σ H)\/(J.go i H/\∃ N:St->Hp->Prop,(∀ L H',N L H'->∃ G,G<m/\W (i+1) G L H')/\∀ x H',J.Kn i H x H'->g x σ H' λO H2=>tb { D with nx:=N,ct:=N,bk:=D.nx} O H2)
def uJ(fp:ao ai)(h:Heap):ao (ai×Obj):=fp.filterMap λb=>(h.get? b).map λo=>(b,o)
def ml(hb:b∈fp)(e:h.get? b=some o):(b,o)∈uJ fp h:=List.mem_filterMap.mpr ⟨b,hb,by rw[e];rfl⟩
def IT{p:ai×Obj}(G:p∈uJ fp h):p.1∈fp/\h.get? p.1=some p.2:=by
 obtain⟨b,hb,e⟩:=List.mem_filterMap.mp G;cases q:h.get? b with
 |none=>rw[q]at e;cases e
 | some o =>rw[q]at e;have J:(b,o)=p:=aN e;subst J;exact⟨hb,q⟩
def Inv.pinned(I:Inv X fE σ H s)(hf:∀ b∈fp,mT X fE H b)(L:∀ b∈fp,∃ o,s.heap.get? b=some o/\∀ v,o.data≠.cell v):Inv X (fE++uJ fp s.heap) σ H s :=
 I.pD λp J=>(List.mem_append.mp J).elim (λz=>I.pin p (aS _ z)) λz=>by obtain⟨hb,e⟩:=IT z;obtain⟨W,U,O,_⟩:=hf p.1 hb;obtain⟨o,G,d⟩:=L p.1 hb;rw[e]at G;cases G;exact⟨e,W,U,O,d⟩
def Inv.qe{pl:ao (ai×Obj)}(I:Inv X (fE++pl) σ H s):Inv X fE σ H s:=I.pD λp G=>I.pin p (aS _ (cG _ G))
def Tw{iter:Expr}{wi:TI}{g:TG}{tb:TS}{pos:Pos}(hp:PassesOwn (model X.prog X.w) X.A X.env X.xe)(hc:X.gY=true)(hi:PI X tg iter wi)(hg:PG X tg g)(hb:BG X body tb)
 (hs:∀ x,foldedSetIterable iter X.env x=pure x:=by intro _;rfl):PS X (.For tg iter body [] pos) (ZU wi g tb):=by
 intro fE s σ H D I h;refine wpAny_For (iN (hi fE s σ H _ I h) λv s1 h1=>iN h1 λR1 s2 h2=>?_) hs;obtain⟨it,fp,tn,J,H2,e,I2,T,JS,f2,W,⟨m0,w0⟩,Z⟩:=h2;subst e;have xg:∀ {H':Hp},(∀ b∈fp,H' b=none)->∀ b∈fp,mT X fE H' b:=λhn b hb=>⟨hn b hb,(f2 b hb).2⟩;refine codeAny_forLoop_any (λn s'=>∃ i iS H',Inv X fE iS H' s'/\tn i s'.heap/\(∀ b∈fp,H' b=none)/\W i n iS H') ?_ m0 ⟨0,σ,H2,I2,JS,λb hb=>(f2 b hb).1,w0⟩;rintro n s3 ⟨i,FW,H3,I3,Oi,Sd,w3⟩;rcases Z i n FW H3 w3 with⟨stop,qn⟩|⟨go,N,hN,step⟩
 .refine dh hp (iN (T.done X rfl rfl rfl hc i fE s3 FW H3 X.xe I3 (xg Sd) Oi stop) λr s4 rG=>?_);obtain⟨hr,I4⟩:=rG;subst hr;exact eE ⟨FW,H3,I4,qn⟩
 .refine dh hp (iN (T.item X rfl rfl rfl hc i fE s3 FW H3 X.xe I3 (xg Sd) Oi go) λr s4 rF=>?_);obtain⟨u,hr,h4⟩:=rF;subst hr;refine dh hp (iN h4 λ_ s5 tM=>?_);obtain⟨x,H5,I5,r5,y5,KS,Xz⟩:=tM;have YD:=I5.pinned (xg Xz) (T.obj _ _ KS);refine dh hp (iN (hg _ s5 FW H5 x u _ YD r5 (step x H5 y5)) λ_ s6 tL=>?_);obtain⟨Of,H6,I6,q6⟩:=tL;refine dh hp (iN (hb _ s6 Of H6 _ I6 q6) λf s7 Y=>?_);have G:∀ {L:St} {U:Hp},Inv X (fE++uJ fp s5.heap) L U s7->N L U->∃ m,m<n/\∃ i iS H',Inv X fE iS H' s7/\tn i s7.heap/\(∀ b∈fp,H' b=none)/\W i m iS H':=λ{L U} O n7=>by obtain⟨m',hm,w7⟩:=hN L U n7;refine⟨m',hm,i+1,L,U,O.qe,T.keep _ _ _ KS λb hb o e=>(O.pin (b,o) (aS _ (aS _ (ml hb e)))).1,λb hb=>?_,w7⟩;obtain⟨o,e,d⟩:=T.obj _ _ KS b hb;exact(O.pin (b,o) (aS _ (aS _ (ml hb e)))).2.1
  cases f with
  |next=>obtain⟨L,U,O,n7⟩:=Y;exact G O n7
  |cont=>obtain⟨L,U,O,n7⟩:=Y;exact G O n7
  |brk=>obtain⟨L,U,O,Y⟩:=Y;exact⟨L,U,O.qe,Y⟩
  |ret v=>obtain⟨x7,L,U,O,r7,Y⟩:=Y;exact⟨x7,L,U,O.qe,r7,Y⟩
end
abbrev R2:=V->V->Hp->VK->Prop
def k7(X:Cx)(f:ak->ak->Sem ak)(r:R2):Prop :=
 ∀(fE:ao (ai×Obj)) (s:ah) (σ:St) (H:Hp) (x y:V) (v u:ak) (Q:VK),Inv X fE σ H s->gB x v->gB y u->r x y H Q ->
  wpAny (model X.prog X.w) X.A (f v u) (EP X fE σ Q) X.xe s
def UnR(X:Cx)(f:ak->Sem ak)(r:V->Hp->VK->Prop):Prop :=
 ∀(fE:ao (ai×Obj)) (s:ah) (σ:St) (H:Hp) (x:V) (v:ak) (Q:VK),Inv X fE σ H s->gB x v->r x H Q ->
  wpAny (model X.prog X.w) X.A (f v) (EP X fE σ Q) X.xe s
def jM(X:Cx)(f:ak)(r:ao V->Hp->VK->Prop):Prop :=
 ∀(fE:ao (ai×Obj)) (s:ah) (σ:St) (H:Hp) (xs:ao V) (us:ao ak) (Q:VK),Inv X fE σ H s->gG xs us->r xs H Q ->
  wpAny (model X.prog X.w) X.A (call f us) (EP X fE σ Q) X.xe s
def We(r:R2)(ta tb:TE):TE:=λσ H Q=>ta σ H λx H1=>tb σ H1 λy H2=>r x y H2 Q
def tUn(r:V->Hp->VK->Prop)(ta:TE):TE:=λσ H Q=>ta σ H λx H1=>r x H1 Q
def rI(C:Int->Int->Prop)(g:Int->Int->V):R2:=λx y H Q=>∃ i j,x=.int i/\y=.int j/\C i j/\Q (g i j) H
def O6(g:Int->Int->V):R2:=λx y H Q=>∃ i j,x=.int i/\y=.int j/\Q (g i j) H
def rU(g:Int->V):V->Hp->VK->Prop:=λx H Q=>∃ i,x=.int i/\Q (g i) H
section
variable {X:Cx}{a b c:Expr}{ta tb tc:TE}{pos:Pos}
def Q0(ha:PE X a ta)(hb:PE X b tb){R:V->V->Hp->Prop}(I:Inv X fE σ H s)
 (h:ta σ H λx H1=>tb σ H1 λy H2=>R x y H2) {Q:ak->ah->Prop} {f:ak->ak->Sem ak}
 (hf:∀ v u L x y H2,Inv X fE σ H2 L->gB x v->gB y u->R x y H2->wpAny (model X.prog X.w) X.A (f v u) Q X.xe L):
 wpAny (model X.prog X.w) X.A (eval a X.env) (λv J=>wpAny (model X.prog X.w) X.A (eval b X.env) (λu G=>wpAny (model X.prog X.w) X.A (f v u) Q X.xe G) X.xe J) X.xe s:=by
 refine iN (ha fE s σ H _ I h) λv O U=>?_;obtain⟨x,H1,I1,Z,q1⟩:=U;refine iN (hb fE O σ H1 _ I1 q1) λu L W=>?_;obtain⟨y,H2,I2,Y,q2⟩:=W;exact hf v u L x y H2 I2 Z Y q2
def lp{op:Operator}{r:R2}(O:k7 X (binaryOp op) r)(ha:PE X a ta)(hb:PE X b tb):PE X (.BinOp a op b pos) (We r ta tb):=by intro fE s σ H Q I h;exact wpAny_BinOp (Q0 ha hb I h λv u G x y H2 U L J q=>O fE G σ H2 x y v u Q U L J q)
def WG{op:UnaryOp}{r:V->Hp->VK->Prop}(O:UnR X (unaryOp op) r)(ha:PE X a ta):PE X (.UnaryOp op a pos) (tUn r ta):=by intro fE s σ H Q I h;exact UnaryOp_ (iN (ha fE s σ H _ I h) λv G L=>by obtain⟨x,H1,U,J,q1⟩:=L;exact O fE G σ H1 x v Q U J q1)
def VN{f:ak->ak->Sem ak}{C:Int->Int->Prop}{g:Int->Int->Int}
 (rule:∀(i j:Int) (t u:Tok) (s:ah) (Q:ak->ah->Prop) (E:ak->ah->Prop),C i j->Q (.int (g i j) s.toks) {s with toks:=s.toks+1}->wpAny (model X.prog X.w) X.A (f (.int i t) (.int j u)) Q E s):
 k7 X f (rI C λi j=>.int (g i j)):=by
 intro fE s σ H x y v u Q I L J h;obtain⟨i,j,rfl,rfl,O,q⟩:=h;obtain⟨t,rfl⟩:=L;obtain⟨G,rfl⟩:=J;exact rule i j t G s _ _ O ⟨.int (g i j),H,I.tok _,⟨_,rfl⟩,q⟩
def WR{f:ak->ak->Sem ak}{g:Int->Int->Int}
 (rule:∀(i j:Int) (t u:Tok) (s:ah) (Q:ak->ah->Prop) (E:ak->ah->Prop),Q (.int (g i j) s.toks) {s with toks:=s.toks+1}->wpAny (model X.prog X.w) X.A (f (.int i t) (.int j u)) Q E s):
 k7 X f (O6 λi j=>.int (g i j)):=by
 intro fE s σ H x y v u Q I L J h;obtain⟨i,j,rfl,rfl,q⟩:=h;obtain⟨t,rfl⟩:=L;obtain⟨G,rfl⟩:=J;exact rule i j t G s _ _ ⟨.int (g i j),H,I.tok _,⟨_,rfl⟩,q⟩
def Pr{f:ak->ak->Sem ak}{g:Int->Int->Bool}
 (rule:∀(i j:Int) (t u:Tok) (s:ah) (Q:ak->ah->Prop) (E:ak->ah->Prop),Q (.bool (g i j)) s->wpAny (model X.prog X.w) X.A (f (.int i t) (.int j u)) Q E s):
 k7 X f (O6 λi j=>.bl (g i j)):=by
 intro fE s σ H x y v u Q I L J h;obtain⟨i,j,rfl,rfl,q⟩:=h;obtain⟨t,rfl⟩:=L;obtain⟨G,rfl⟩:=J;exact rule i j t G s _ _ ⟨.bl (g i j),H,I,rfl,q⟩
def YM(i j:Int):Prop:=0<j/\j<1073741824
def VF(i j:Int):Prop:=0<=j/\j<=1000000/\i.natAbs<2 ^ 64
def JR(i j:Int):Prop:=(-(2 ^ 64)<i/\i<2 ^ 64)\/(-(2 ^ 64)<j/\j<2 ^ 64)
def JR.ok{i j:Int}(h:JR i j):IntMulOk i j:=by
 rcases h with⟨h1,h2⟩|⟨h1,h2⟩
 .exact .of_left (intBits_le_64 h1 h2)
 .exact .of_right (intBits_le_64 h1 h2)
def T3:k7 X (binaryOp .Add) (O6 λi j=>.int (i+j)):=WR λ_ _ _ _ _ _ _ q=>add_int q
def TR:k7 X (binaryOp .Sub) (O6 λi j=>.int (i - j)):=WR λ_ _ _ _ _ _ _ q=>sub_int q
def TX:k7 X (binaryOp .Mult) (rI JR λi j=>.int (i*j)):=VN λ_ _ _ _ _ _ _ G q=>mul_int q G.ok
def Pq:k7 X (binaryOp .FloorDiv) (rI YM λi j=>.int (i / j)):=VN λi j _ _ _ _ _ G q=>by have h1:(0:Int)<j:=G.1;have h2:j<1073741824:=G.2;exact floordiv_int (by lia) (by rw[Int.fdiv_eq_ediv_of_nonneg i (by lia)];exact q) (.inl (PyProof.noPylong_small (by lia)))
def TY:k7 X (binaryOp .Mod) (rI (λ_ j=>0<j) λi j=>.int (i%j)):=VN λi j _ _ _ _ _ G q=>by have h1:(0:Int)<j:=G;exact mod_int' (by lia) (by rw[Int.fmod_eq_emod_of_nonneg i (by lia)];exact q)
def TU:k7 X (binaryOp .Pow) (rI VF λi j=>.int (i ^ j.toNat)):=VN λ_ _ _ _ _ _ _ G q=>pow_int_small G.1 G.2.1 G.2.2 q
def unI{f:ak->Sem ak}{g:Int->Int}
 (rule:∀(i:Int) (t:Tok) (s:ah) (Q:ak->ah->Prop) (E:ak->ah->Prop),Q (.int (g i) s.toks) {s with toks:=s.toks+1}->wpAny (model X.prog X.w) X.A (f (.int i t)) Q E s):
 UnR X f (rU λi=>.int (g i)):=by
 intro fE s σ H x v Q I G h;obtain⟨i,rfl,q⟩:=h;obtain⟨t,rfl⟩:=G;exact rule i t s _ _ ⟨.int (g i),H,I.tok _,⟨_,rfl⟩,q⟩
def SN:UnR X (unaryOp .USub) (rU λi=>.int (-i)):=unI λ_ _ _ _ _ q=>neg_int q
end
def Wr:V->V->Bool
 |.iz,.iz=>true|.iz,.int _=>true|.int _,.iz=>true|.iz,.bl _=>true|.bl _,.iz=>true|.iz,.str _=>true|.str _,.iz=>true
 |.int _,.int _=>true|.bl _,.bl _=>true|.str _,.str _=>true|.JH _,.JH _=>true
 |.int _,.str _=>true|.str _,.int _=>true|.bl _,.str _=>true|.str _,.bl _=>true
 |_,_=>false
def rEq:R2:=λx y H Q=>Wr x y=true/\Q (.bl (decide (x=y))) H
def rNe:R2:=λx y H Q=>Wr x y=true/\Q (.bl (!decide (x=y))) H
def HC{i j:Int}:decide (V.int i=V.int j)=(i==j):=by rw[dJ];simp
def Nv{i j:Bool}:decide (V.bl i=V.bl j)=(i==j):=by rw[dJ];simp
def HB{i j:Str}:decide (V.str i=V.str j)=(i==j):=by rw[dJ];simp
def HD{i j:Array UInt8}:decide (V.JH i=V.JH j)=(i.toList==j.toList):=by rw[dJ];cases i;cases j;simp
section
variable {X:Cx}{a b c:Expr}{ta tb tc:TE}{pos:Pos}
def iA{Q:VK}{k G:Bool}(I:Inv X fE σ H s)(q:Q (.bl k) H)(e:k=G):EP X fE σ Q (.bool G) s:=by subst e;exact⟨.bl k,H,I,rfl,q⟩
def RQ:k7 X (compareOp .Eq) rEq:=by
 intro fE s σ H x y v u Q I O G h;obtain⟨L,q⟩:=h;cases x with
 | iz =>
  cases O;cases y with
  |iz=>cases G;exact PySem.EqNone.eq_none_none (iA I q (by simp))
  |bl j=>cases G;exact PySem.EqNone.eq_none_bool (iA I q (by simp))
  |int j=>obtain⟨J,rfl⟩:=G;exact PySem.EqNone.eq_none_int (iA I q (by simp))
  |str j=>obtain⟨J,rfl⟩:=G;exact PySem.EqNone.eq_none_str (iA I q (by simp))
  |_=>exact absurd (show false=true from L) aK
 | bl i =>
  cases O;cases y with
  |iz=>cases G;exact PySem.EqNone.eq_bool_none (iA I q (by simp))
  |bl j=>cases G;exact eq_bool (iA I q Nv)
  |str j=>obtain⟨J,rfl⟩:=G;exact PySem.EqMixed.eq_bool_str (iA I q (by simp))
  |_=>exact absurd (show false=true from L) aK
 | int i =>
  obtain⟨t,rfl⟩:=O;cases y with
  |iz=>cases G;exact PySem.EqNone.eq_int_none (iA I q (by simp))
  |int j=>obtain⟨J,rfl⟩:=G;exact eq_int (iA I q HC)
  |str j=>obtain⟨J,rfl⟩:=G;exact PySem.EqMixed.eq_int_str (iA I q (by simp))
  |_=>exact absurd (show false=true from L) aK
 | str i =>
  obtain⟨t,rfl⟩:=O;cases y with
  |iz=>cases G;exact PySem.EqNone.eq_str_none (iA I q (by simp))
  |bl j=>cases G;exact PySem.EqMixed.eq_str_bool (iA I q (by simp))
  |int j=>obtain⟨J,rfl⟩:=G;exact PySem.EqMixed.eq_str_int (iA I q (by simp))
  |str j=>obtain⟨J,rfl⟩:=G;exact eq_str (iA I q HB)
  |_=>exact absurd (show false=true from L) aK
 | JH i =>
  obtain⟨t,rfl⟩:=O;cases y with
  |JH j=>obtain⟨J,rfl⟩:=G;exact W.eq_bytes (iA I q HD)
  |_=>exact absurd (show false=true from L) aK
 |_=>cases y<;>exact absurd (show false=true from L) aK
def WL:k7 X (compareOp .NotEq) rNe:=by
 intro fE s σ H x y v u Q I O G h;obtain⟨L,q⟩:=h;cases x with
 | iz =>
  cases O;cases y with
  |iz=>cases G;exact PySem.EqNone.ne_none_none (iA I q (by simp))
  |bl j=>cases G;exact PySem.EqNone.ne_none_bool (iA I q (by simp))
  |int j=>obtain⟨J,rfl⟩:=G;exact PySem.EqNone.ne_none_int (iA I q (by simp))
  |str j=>obtain⟨J,rfl⟩:=G;exact PySem.EqNone.ne_none_str (iA I q (by simp))
  |_=>exact absurd (show false=true from L) aK
 | bl i =>
  cases O;cases y with
  |iz=>cases G;exact PySem.EqNone.ne_bool_none (iA I q (by simp))
  |bl j=>cases G;exact ne_bool (iA I q (cf not Nv))
  |str j=>obtain⟨J,rfl⟩:=G;exact PySem.EqMixed.ne_bool_str (iA I q (by simp))
  |_=>exact absurd (show false=true from L) aK
 | int i =>
  obtain⟨t,rfl⟩:=O;cases y with
  |iz=>cases G;exact PySem.EqNone.ne_int_none (iA I q (by simp))
  |int j=>obtain⟨J,rfl⟩:=G;exact ne_int (iA I q (cf not HC))
  |str j=>obtain⟨J,rfl⟩:=G;exact PySem.EqMixed.ne_int_str (iA I q (by simp))
  |_=>exact absurd (show false=true from L) aK
 | str i =>
  obtain⟨t,rfl⟩:=O;cases y with
  |iz=>cases G;exact PySem.EqNone.ne_str_none (iA I q (by simp))
  |bl j=>cases G;exact PySem.EqMixed.ne_str_bool (iA I q (by simp))
  |int j=>obtain⟨J,rfl⟩:=G;exact PySem.EqMixed.ne_str_int (iA I q (by simp))
  |str j=>obtain⟨J,rfl⟩:=G;exact ne_str (iA I q (cf not HB))
  |_=>exact absurd (show false=true from L) aK
 | JH i =>
  obtain⟨t,rfl⟩:=O;cases y with
  |JH j=>obtain⟨J,rfl⟩:=G;exact W.ne_bytes (iA I q (cf not HD))
  |_=>exact absurd (show false=true from L) aK
 |_=>cases y<;>exact absurd (show false=true from L) aK
def WM:k7 X (compareOp .Lt) (O6 λi j=>.bl (decide (i<j))):=Pr λ_ _ _ _ _ _ _ q=>lt_int q
def WN:k7 X (compareOp .LtE) (O6 λi j=>.bl (decide (i<=j))):=Pr λ_ _ _ _ _ _ _ q=>le_int q
def WO:k7 X (compareOp .Gt) (O6 λi j=>.bl (decide (j<i))):=Pr λ_ _ _ _ _ _ _ q=>gt_int q
def WQ:k7 X (compareOp .GtE) (O6 λi j=>.bl (decide (j<=i))):=Pr λ_ _ _ _ _ _ _ q=>ge_int q
def IL:k7 X (compareOp .In) (λx y H Q=>∃ i j,x=.str i/\y=.str j/\Q (.bl (!(Builtin.Str.occurrences j i 0 j.length 1).isEmpty)) H):=by intro fE s σ H x y v u Q I J G h;obtain⟨i,j,rfl,rfl,q⟩:=h;obtain⟨t,rfl⟩:=J;obtain⟨L,rfl⟩:=G;exact in_str (iA I q rfl)
def k7.or{f:ak->ak->Sem ak}{r L:R2}(h:k7 X f r)(h':k7 X f L):k7 X f (λx y H Q=>r x y H Q\/L x y H Q):=by
 intro fE s σ H x y v u Q I J G q;rcases q with q|q
 .exact h fE s σ H x y v u Q I J G q
 .exact h' fE s σ H x y v u Q I J G q
def jm(b:Expr)(h:op≠.In:=by decide)(h2:op≠.NotIn:=by decide):behindInMarks op b=false:=by
 have e1:(op==CmpOp.In)=false:=by cases op<;>first|rfl|exact absurd rfl h
 have e2:(op==CmpOp.NotIn)=false:=by cases op<;>first|rfl|exact absurd rfl h2
 cases b<;>simp[behindInMarks,e1,e2]
def sW{r:R2}(O:k7 X (compareOp op) r)(ha:PE X a ta)(hb:PE X b tb)(hm:behindInMarks op b=false):PE X (.Compare a [op] [b] pos) (We r ta tb):=by intro fE s σ H Q I h;exact wpAny_Compare1 (Q0 ha hb I h λv u G x y H2 U L J q=>O fE G σ H2 x y v u Q U L J q) hm
def qv:(sizeLine:Nat)<2 ^ 63:=by rw[sizeLine_eq];decide
def EK:k7 X (binaryOp .Add) (λx y H Q=>∃ i j,x=.str i/\y=.str j/\i.length+j.length<=sizeLine/\Q (.str (i++j)) H):=by intro fE s σ H x y v u Q I L J h;obtain⟨i,j,rfl,rfl,O,q⟩:=h;obtain⟨t,rfl⟩:=L;obtain⟨G,rfl⟩:=J;exact add_str (λG tk=>⟨.str (i++j),H,I.tok _,⟨_,rfl⟩,q⟩) O
def vals1{x:V}(r:gG [x] us):∃ u,us=[u]/\gB x u:=by
 cases r with
 |cons J G=>cases G;exact⟨_,rfl,J⟩
def vals2{x y:V}(r:gG [x,y] us):∃ u G,us=[u,G]/\gB x u/\gB y G:=by
 cases r with
 | cons U O =>
  cases O with
  |cons L J=>cases J;exact⟨_,_,rfl,U,L⟩
def JG(J:X.gY=true):jM X (.builtin "max") (λxs H Q=>∃ i j,xs=[.int i,.int j]/\Q (.int (if j>i then j else i)) H):=by
 intro fE s σ H xs us Q I r h;obtain⟨i,j,rfl,q⟩:=h;obtain⟨u,L,rfl,⟨t,rfl⟩,⟨O,rfl⟩⟩:=vals2 r;refine max_two_ints (I.ok.hd J) λh' tk k=>⟨_,H,I.jk k,?_,q⟩;by_cases G:j>i
 .rw[aB G,aB G];exact⟨_,rfl⟩
 .rw[aC G,aC G];exact⟨_,rfl⟩
end
structure FK (h:Heap)(x dx C:ai)(mA:Str->Option ak):Prop where
 obj:h.get? x=some (W.instObj C dx)
 ns:h.Ns1 dx mA
 ne:dx≠x
def Jb{dx:ai}{mA:Str->aq ak}(n:h.Ns1 dx mA):∃ od,h.get? dx=some od/\∀ name,W.lookIn name od=some (mA name):=by
 obtain⟨o,es,Y,L,hd,hk,_,O⟩:=n;refine⟨o,L,λname=>?_⟩;have e:=O name;unfold nsFind findBy at e;rw[<- Array.find?_toList]at e;unfold W.lookIn;rw[hd];dsimp only;split
 .rename_i y q;rw[q]at e;exact cf some e
 .rename_i q;rw[q]at e;have a:es.toList.any (·.refKey)=false:=by rw[fc];intro y J;obtain⟨z,t,G⟩:=hk y (Array.mem_toList_iff.mp J);simp[DictEntry.refKey,G]
  have U:¬ es.toList.any (·.refKey)=true:=by rw[a];exact aK
  rw[aC U];exact cf some e
def FK.look{x dx C:ai}{mA:Str->aq ak}(I:FK h x dx C mA):∃ od,W.InstAt h x (W.instObj C dx) C (some od)/\∀ name,W.lookIn name od=some (mA name) :=
 let ⟨od,ho,hl⟩:=Jb I.ns
 ⟨od,⟨I.obj,rfl,rfl,ho⟩,hl⟩
section
variable {prog:ae}{w:af}{A:Around}{E:ak->ah->Prop}{s:ah}{K:aa}{x dx C f:ai}{mA:Str->aq ak}{name:Str}{v:ak}
def get_map{expr:Bool}(X:K.In s.heap)(I:FK s.heap x dx C mA)(L:W.plainGet K C name=true)(hh:W.hasDictIn K C=true)
 (ha:W.findIn K (.ref C) name=some none) (G:mA name=some v) (O:W.handedIn v=true) (h:Q v {s with toks:=s.toks+1}):
 wpAny (model prog w) A (getAttr (.ref x) name expr) Q E s:=by
 obtain⟨U,J,hl⟩:=I.look;exact W.get_value X J (W.plainGet_of L).1 (W.findObj_own hh ha rfl (by rw[hl,G])) O h
def MT{Q:ak×ao ak->ah->Prop}(X:K.In s.heap)(I:FK s.heap x dx C mA)(G:W.plainGet K C name=true)
 (hf:W.findIn K (.ref C) name=some (some (.ref f))) (ht:W.isFn K (.ref f)=true) (O:mA name=none) (h:Q (.ref f,[.ref x]) s):
 wpAny (model prog w) A (getMethod (.ref x) name pl) Q E s:=by
 obtain⟨L,J,hl⟩:=I.look;exact W.method_fn X J (W.plainGet_of G).1 (W.plainGet_of G).2 hf (beq_iff_eq.mp ht) (by show(W.lookIn name L).map (·.isSome)=some false;rw[hl,O];rfl) h
def OZ{ns:ao Str}{Q:Unit->ah->Prop}(X:K.In s.heap)(I:FK s.heap x dx C mA)
 (Z:W.findIn K (.ref C) "__setattr__"=some (some (.builtin "object.__setattr__"))) (hp:W.plainOver K C=true) (ht:W.takerIn K C name=some none) (hh:W.hasDictIn K C=true)
 (hw:PySem.Within mA ns) (hsz:ns.length<=sizeLine)
 (h:∀ h',FK h' x dx C (λy=>if y=name then some v else mA y)->Heap.SameBut dx s.heap h'->Q () {s with heap:=h',toks:=s.toks+2}):
 wpAny (model prog w) A (setAttr (.ref x) name v) Q E s:=by
 obtain⟨od,J,hl⟩:=I.look;refine W.set_plain X J Z (W.osa_open (s:={s with toks:=s.toks+1}) (r:=none) X J hp ht λb=>?_);obtain⟨cd,hc,G8⟩:=W.any_some hh;have Y:s.heap.get? x=some ⟨.ref C,some dx,.plain,#[]⟩:=I.obj;refine fV (au (fV (fV (wpAny_loadPart Y (fV (W.Looks.here (s:={s with toks:=s.toks+1}) (W.looks_clsIn X hc) ?_))))));rw[G8];refine au (a:=some dx) (fV (au (fV ?_)));refine wpAny_nsSet1 (s:={s with toks:=s.toks+1}) I.ns λh' U O=>?_;obtain⟨oD,esD,epD,G,L,Qo⟩:=U.count (PySem.Within.cons name v hw);refine fV (wpAny_lookBehind G (by rw[L];exact pastItsLine_dict (aX Qo (by rw[aU];lia))) ?_);exact au (h _ ⟨(O.2 _ (bj I.ne)).trans I.obj,U,I.ne⟩ O)
def Ma{R:Result->ah->Prop}{vs:ao ak}(X:K.In s.heap)(hm:W.makesIn K C=true)
 (hi:W.findIn K (.ref C) "__init__"=some (some (.ref f))) (hf:W.typeIn K (.ref f)=some (.type "function"))
 (h:codeAny (model prog w) (A.under (.builtin "type.__call__" ⟨.ref C::vs,kw⟩)) (.call (.ref f) ⟨.ref (s.heap.objs.size+1)::vs,kw⟩) (W.InitBack (s.heap.objs.size+1) R)
   {s with heap:=(s.heap.push W.emptyDict).push (W.instObj C s.heap.objs.size)}):
 codeAny (model prog w) A (.call (.ref C) ⟨vs,kw⟩) R s:=by
 obtain⟨G,g,d,t,os⟩:=s;exact W.make_core (W.makes_of X hm) (W.looks_findIn X hi) (λself=>W.bind_fn X self hf) (.inl rfl) h
end
def oO(f:Str)(v:V):ao (Str×V)->ao (Str×V)
 |[]=>[(f,v)]
 |(g,x)::r=>if g=f then(g,v)::r else(g,x)::oO f v r
theorem vq(f g:Str)(v:V):∀ fs:ao (Str×V),(oO f v fs).lookup g=if g=f then some v else fs.lookup g
 | []=>by
  show List.lookup g [(f,v)]=_;by_cases h:g=f
  .have hb:(g==f)=true:=beq_iff_eq.mpr h;simp only[List.lookup,hb,aB h]
  .have hb:(g==f)=false:=beq_eq_false_iff_ne.mpr h;simp only[List.lookup,hb,aC h]
 | (k,x)::r=>by
  have G:=vq f g v r;rw[show oO f v ((k,x)::r)=(if k=f then(k,v)::r else(k,x)::oO f v r)from rfl];by_cases hk:k=f
  .rw[aB hk];by_cases h:g=k
   .have hb:(g==k)=true:=beq_iff_eq.mpr h;simp only[List.lookup,hb,aB (h.trans hk)]
   .have hb:(g==k)=false:=beq_eq_false_iff_ne.mpr h;simp only[List.lookup,hb,aC (λe:g=f=>h (e.trans hk.symm))]
  .rw[aC hk];by_cases h:g=k
   .have hb:(g==k)=true:=beq_iff_eq.mpr h;simp only[List.lookup,hb,aC (λe:g=f=>hk (h.symm.trans e))]
   .have hb:(g==k)=false:=beq_eq_false_iff_ne.mpr h;simp only[List.lookup,hb];exact G
theorem uL(f:Str)(v:V):∀ fs:ao (Str×V),f∈(oO f v fs).map (·.1)/\∀ g,g∈fs.map (·.1)->g∈(oO f v fs).map (·.1)
 |[]=>⟨by simp[oO],λg h=>by simp at h⟩
 | (k,x)::r=>by
  obtain⟨i1,i2⟩:=uL f v r;rw[show oO f v ((k,x)::r)=(if k=f then(k,v)::r else(k,x)::oO f v r)from rfl];by_cases hk:k=f
  .rw[aB hk];subst hk;exact⟨by simp,λg h=>by simpa using h⟩
  .rw[aC hk];refine⟨?_,λg h=>?_⟩
   .rw[aw];exact nM _ i1
   .rw[aw]at h ⊢
    rcases List.mem_cons.mp h with e|e
    .exact List.mem_cons.mpr (.inl e)
    .exact nM _ (i2 g e)
theorem vw(f:Str)(v:V):∀ fs:ao (Str×V),(oO f v fs).length<=fs.length+1
 |[]=>by simp[oO]
 | (k,x)::r=>by
  have G:=vw f v r;rw[show oO f v ((k,x)::r)=(if k=f then(k,v)::r else(k,x)::oO f v r)from rfl];by_cases hk:k=f
  .rw[aB hk,aU,aU];lia
  .rw[aC hk,aU,aU];lia
def rK.some_of{o:aq ak}(r:rK (some v) o):∃ u,o=some u/\gB v u:=by
 cases o with
 |none=>exact(show False from r).elim
 |some u=>exact⟨u,rfl,r⟩
def rK.none_of{o:aq ak}(r:rK none o):o=none:=by
 cases o with
 |none=>rfl
 |some u=>exact(show False from r).elim
def Jt(r:gB v u):W.handedIn u=true:=by
 cases v with
 |iz=>cases(show u=Value.none from r);rfl
 |bl b=>cases(show u=Value.bool b from r);rfl
 |int i=>obtain⟨t,e⟩:=(show ∃ t,u=Value.int i t from r);cases e;rfl
 |str x=>obtain⟨t,e⟩:=(show ∃ t,u=Value.str x t from r);cases e;rfl
 |JH b=>obtain⟨t,e⟩:=(show ∃ t,u=Value.bytes b t from r);cases e;rfl
 |Sg b=>obtain⟨t,e⟩:=(show ∃ t,u=Value.float b t from r);cases e;rfl
 |ref a=>cases(show u=Value.ref a from r);rfl
 |ty n=>cases(show u=Value.type n from r);rfl
section
variable {P:ae}{w:af}{H H':Hp}{h h':Heap}{a C dx:ai}{fs fs':ao (Str×V)}
def wy(hG:pT P w H h)(e:H a=some (.ins C dx fs)):∃ mA,FK h a dx C mA/\(∀ f,rK (fs.lookup f) (mA f))/\PySem.Within mA (fs.map (·.1))/\fs.length<=1000/\H dx=some (.own a):=by obtain⟨d,z,ne,G,mA,n,r,q⟩:=(show jj P w H h a (.ins C dx fs)from hG a _ e);exact⟨mA,⟨G,n,ne⟩,r,q,z,d⟩
end
structure FQ (K:aa)(C:ai):Prop where
 pg:W.plainGet K C Str.empty=true
 hd:W.hasDictIn K C=true
 po:W.plainOver K C=true
 sa:W.findIn K (.ref C) "__setattr__"=some (some (.builtin "object.__setattr__"))
def FQ.get{K:aa}{C:ai}(c:FQ K C)(f:Str):W.plainGet K C f=true:=c.pg
def qO(K:aa)(C:ai)(f:Str):Prop:=W.findIn K (.ref C) f=some none
def qO.Wb{K:aa}{C:ai}{f:Str}(n:qO K C f):W.takerIn K C f=some none:=by unfold W.takerIn;rw[show W.findIn K (.ref C) f=some none from n];rfl
structure Meth (K:aa)(C:ai)(m:Str)(f:ai):Prop where
 at_:W.findIn K (.ref C) m=some (some (.ref f))
 fn:W.isFn K (.ref f)=true
 kp:W.keepIn K (.ref f)=true
section
variable {X:Cx}{fE:ao (ai×Obj)}{σ:St}{H:Hp}{s:ah}{a C dx:ai}{fs:ao (Str×V)}{f:Str}{v:V}{A:Around}{E:ak->ah->Prop}
def Fh{b:Bool}(I:Inv X fE σ H s)(e:H a=some (.ins C dx fs))(c:FQ X.K C)(n:qO X.K C f)(l:fs.lookup f=some v)
 (h:∀ u s',Inv X fE σ H s'->gB v u->Q u s'):wpAny (model X.prog X.w) A (getAttr (.ref a) f b) Q E s:=by
 obtain⟨mA,O,r,_,_,_⟩:=wy I.hG e;obtain⟨u,hu,G⟩:=rK.some_of (v:=v) (o:=mA f) (by rw[<- l];exact r f);exact get_map I.tH O (c.get f) c.hd n hu (Jt G) (h u _ (I.tok _) G)
def xO{m:Str}{g:ai}{Q:ak×ao ak->ah->Prop}(I:Inv X fE σ H s)(e:H a=some (.ins C dx fs))(c:FQ X.K C)(k:Meth X.K C m g)(l:fs.lookup m=none)
 (h:Q (.ref g,[.ref a]) s):wpAny (model X.prog X.w) A (getMethod (.ref a) m pl) Q E s:=by
 obtain⟨mA,O,r,_,_,_⟩:=wy I.hG e;have G:mA m=none:=rK.none_of (by rw[<- l];exact r m);exact MT I.tH O (c.get m) k.at_ k.fn G h
def Ew{y:V}{Q:Unit->ah->Prop}(I:Inv X fE σ H s)(e:H a=some (.ins C dx fs))(c:FQ X.K C)(n:qO X.K C f)(hl:fs.length<1000)(U:gB y u)
 (h:∀ s',Inv X fE σ (upd H a (.ins C dx (oO f y fs))) s'->Q () s'):wpAny (model X.prog X.w) A (setAttr (.ref a) f u) Q E s:=by
 obtain⟨mA,O,r,wi,_,J⟩:=wy I.hG e;have W:(fs.map (·.1)).length<=sizeLine:=by rw[iE,sizeLine_eq];lia
 refine OZ I.tH O c.sa c.po n.Wb c.hd wi W λh' G L=>h _ ?_;have hd:∃ o,h'.get? dx=some o:=let ⟨o,_,_,e',_⟩:=G.ns;⟨o,e'⟩
 refine I.write (x:=a) (e:=dx) (by rw[e];exact True.intro) (.inr J) (λb q hb z=>(L.2 b hb).trans z) hd ?_;refine⟨by rw[gr O.ne];exact J,?_,O.ne,G.obj,_,G.ns,λg=>?_,λg Y=>?_⟩
 .have:=vw f y fs;lia
 .show rK ((oO f y fs).lookup g) (if g=f then some u else mA g);rw[vq];by_cases q:g=f
  .rw[aB q,aB q];exact U
  .rw[aC q,aC q];exact r g
 .by_cases q:g=f
  .rw[q];exact(uL f y fs).1
  .refine(uL f y fs).2 g (wi g λz=>Y ?_);show(if g=f then some u else mA g)=none;rw[aC q];exact z
def Inv.made(I:Inv X fE σ H s):Inv X fE σ (upd (upd H s.heap.objs.size (.own (s.heap.objs.size+1))) (s.heap.objs.size+1) (.ins C s.heap.objs.size []))
 {s with heap:=(s.heap.push W.emptyDict).push (W.instObj C s.heap.objs.size)}:=by
 have e1:(s.heap.push W.emptyDict).get? s.heap.objs.size=some W.emptyDict:=aE s.heap rfl;have e2:((s.heap.push W.emptyDict).push (W.instObj C s.heap.objs.size)).get? (s.heap.objs.size+1)=some (W.instObj C s.heap.objs.size):=by have:=aE (s.heap.push W.emptyDict) (o:=W.instObj C s.heap.objs.size) rfl;rwa [bg]at this
 have e3:(s.heap.push W.emptyDict).Ns s.heap.objs.size (λ_=>none):=⟨W.emptyDict,#[],_,e1,rfl,(λe J=>absurd J (by simp)),λ_=>rfl⟩;have L:=I.laid (a:=s.heap.objs.size) (o:=.own (s.heap.objs.size+1)) (h':=s.heap.push W.emptyDict) (t':=s.toks) (λb u q=>j4 _ q) (ar _) ⟨_,e1⟩;refine L.laid (a:=s.heap.objs.size+1) (o:=.ins C s.heap.objs.size []) (t':=s.toks) (λb u q=>j4 _ q) (Nat.le_of_eq (bg _ _)) ?_;have ne:s.heap.objs.size≠s.heap.objs.size+1:=aA (bG _);refine⟨by rw[gr ne,gc],bA _,ne,e2,λ_=>none,(Heap.Ns1.of_empty e3).at λo q=>j4 _ q,λ_=>True.intro,λy G=>absurd rfl G⟩
def Q1{prog:ae}{env:Env}{f:Str}{pos:Pos}{s:ah}(hb:attributeBase e f env (eval e env)=eval e env)
 (h:wpAny (model prog w) A (eval e env) (λo G=>wpAny (model prog w) A (getAttr o f true) Q E G) E s):wpAny (model prog w) A (eval (.Attribute e f pos) env) Q E s:=
 Attribute_any_ h (by rw[arm_eval_Attribute,hb])
end
def ZV(K:aa)(ta:TE)(f:Str):TE:=λσ H Q=>ta σ H λx H1=>∃ a C dx fs v,x=.ref a/\H1 a=some (.ins C dx fs)/\FQ K C/\qO K C f/\fs.lookup f=some v/\Q v H1
def Z8(K:aa)(ta tv:TE)(f:Str):TS:=λD σ H=>tv σ H λy H1=>ta σ H1 λx H2=>∃ a C dx fs,x=.ref a/\H2 a=some (.ins C dx fs)/\FQ K C/\qO K C f/\fs.length<1000 /\
 D.nx σ (upd H2 a (.ins C dx (oO f y fs)))
section
variable {X:Cx}{o e value:Expr}{f:Str}{pos pos' tpos:Pos}{ta tv:TE}
def TN(he:PE X e ta)(hb:attributeBase e f X.env (eval e X.env)=eval e X.env):PE X (.Attribute e f pos) (ZV X.K ta f):=by intro fE s σ H Q I h;refine Q1 hb (iN (he fE s σ H _ I h) λu Z L=>?_);obtain⟨x,H1,U,G,a,C,dx,fs,v,ex,ea,c,n,l,q⟩:=L;subst ex;obtain rfl:u=Value.ref a:=G;exact Fh U ea c n l λW Y O J=>⟨v,H1,O,J,q⟩
def Tx(ha:PE X o ta)(Y:PE X value tv)(Z:swapsWith value (some (.Attribute o f pos')) pos.line X.env=pure false):PS X (.Assign [.Attribute o f pos'] value pos) (Z8 X.K ta tv f):=by intro fE s σ H D I h;refine plainObj_wpAny_Assign_Attribute (iN (Y fE s σ H _ I h) λu J U=>?_) Z;obtain⟨y,H1,I1,L,q⟩:=U;refine iN (ha fE J σ H1 _ I1 q) λW s2 G=>?_;obtain⟨x,H2,I2,O,a,C,dx,fs,ex,ea,c,n,l,q2⟩:=G;subst ex;obtain rfl:W=Value.ref a:=O;exact Ew I2 ea c n l L λs3 I3=>⟨σ,_,I3,q2⟩
def RV{m:Str}{mL:Pos}{args:ao Expr}{te:TE}(he:PE X e te)(I:Inv X fE σ H s)
 (h:te σ H λx H1=>∃ a C dx fs g,x=.ref a/\H1 a=some (.ins C dx fs)/\FQ X.K C/\Meth X.K C m g/\fs.lookup m=none /\
   ∀ G,Inv X fE σ H1 G->wpAny (model X.prog X.w) X.A (callWith pos (.ref g) [.ref a] (backTo pos (starEach args X.env)) (backToKw pos (keywordEach [] X.env))) Q X.xe G)
 (ht:eval (.Call (.Attribute e m mL) args [] pos) X.env=(do
   let J <- eval e X.env
   standAt mL.atName
   let (f,first) <- holding [J] (getMethod J m pl)
   callWith pos f first (backTo pos (starEach args X.env)) (backToKw pos (keywordEach [] X.env)))):
 wpAny (model X.prog X.w) X.A (eval (.Call (.Attribute e m mL) args [] pos) X.env) Q X.xe s:=by
 refine W.methodCall_KW (pl:=pl) (iN (he fE s σ H _ I h) λu G O=>?_) ht;obtain⟨x,H1,L,U,a,C,dx,fs,g,ex,ea,c,k,l,q⟩:=O;subst ex;obtain rfl:u=Value.ref a:=U;exact xO L ea c k l (q G L)
end
section
variable {X:Cx}{fE:ao (ai×Obj)}{σ:St}{H:Hp}{s:ah}{A:Around}{E:ak->ah->Prop}{Q:ak->ah->Prop}{c:ak}{b:Bool}
inductive kM (K:aa)(H:Hp):V->ak->Prop where
 |iz:kM K H .iz (.type "NoneType")
 |bl (x:Bool):kM K H (.bl x) (.type "bool")
 |int (i:Int):kM K H (.int i) (.type "int")
 |str (x:Str):kM K H (.str x) (.type "str")
 |Sg (x:UInt64):kM K H (.Sg x) (.type "float")
 |lst {a:ai} {xs:List V} (e:H a=some (.lst xs)):kM K H (.ref a) (.type "list")
 |Dv {a:ai} {o:Obj} {xs:List V} (e:H a=some (.Dv o (.lst xs))):kM K H (.ref a) (.type "list")
 |tup {a:ai} {xs:List V} (e:H a=some (.tup xs)):kM K H (.ref a) (.type "tuple")
 |dK {a:ai} {fR:List (Key×V)} (e:H a=some (.dK fR)):kM K H (.ref a) (.type "dict")
 |dT {a:ai} {fR:List (List Key×V)} (e:H a=some (.dT fR)):kM K H (.ref a) (.type "dict")
 | ins {a C dx:ai} {fs:List (Str×V)} (e:H a=some (.ins C dx fs)) (cl:FQ K C) (ha:W.findIn K (.ref C) "__class__"=some (some (.builtin "object.__class__")))
  (hn:W.specialIn K (.builtin "object.__class__") "__get__"=some (some (.builtin "getset_descriptor.__get__"))) (htk:W.takesIn K (.builtin "object.__class__")=some true)
  (hm:W.mroIn K C (.type "object")=some true):kM K H (.ref a) (.ref C)
def Ji{x:V}{t:ak}(I:Inv X fE σ H s)(G:gB x u)(ty:kM X.K H x t)(e:W.kitOne X.K t c=some b)(h:∀ tk,Q (.bool b) { s with toks:=tk}):
 wpAny (model X.prog X.w) A (call (.builtin "isinstance") [u,c]) Q E s:=by
 cases ty with
 |iz=>cases(show u=Value.none from G);exact du W.kitx_none I.tH True.intro e (λz=>nomatch z) h
 |bl y=>cases(show u=Value.bool y from G);exact du W.kitx_bool I.tH True.intro e (λz=>nomatch z) h
 |int i=>obtain⟨t,q⟩:=(show ∃ t,u=Value.int i t from G);cases q;exact du W.kitx_int I.tH True.intro e (λz=>nomatch z) h
 |str y=>obtain⟨t,q⟩:=(show ∃ t,u=Value.str y t from G);cases q;exact du W.kitx_str I.tH True.intro e (λz=>nomatch z) h
 |Sg y=>obtain⟨t,q⟩:=(show ∃ t,u=Value.float y t from G);cases q;exact du W.kitx_float I.tH True.intro e (λz=>nomatch z) h
 | @lst a xs ea =>cases(show u=Value.ref a from G);obtain⟨_,_,n,_,h1⟩:=(show jj X.prog X.w H s.heap a (.lst xs)from I.hG a _ ea);exact du W.kitx_list I.tH ⟨_,h1,rfl⟩ e (λz=>nomatch z) h
 | @Dv a U xs ea =>cases(show u=Value.ref a from G);obtain⟨_,_,_,n,_,h1⟩:=(show jj X.prog X.w H s.heap a (.Dv U (.lst xs))from I.hG a _ ea);exact du W.kitx_list I.tH ⟨_,h1,rfl⟩ e (λz=>nomatch z) h
 | @tup a xs ea =>cases(show u=Value.ref a from G);obtain⟨_,_,_,p⟩:=(show jj X.prog X.w H s.heap a (.tup xs)from I.hG a _ ea);obtain⟨o,h1,h2,_⟩:=p;exact du W.kitx_tuple I.tH ⟨o,h1,h2⟩ e (λz=>nomatch z) h
 | @dK a fR ea =>cases(show u=Value.ref a from G);obtain⟨_,_,vs,_,p⟩:=(show jj X.prog X.w H s.heap a (.dK fR)from I.hG a _ ea);obtain⟨o,es,Z,h1,h2,_⟩:=p;exact du W.kitx_dict I.tH ⟨o,h1,h2.1⟩ e (λz=>nomatch z) h
 | @dT a fR ea =>cases(show u=Value.ref a from G);obtain⟨_,_,xs,_,o,es,Z,h1,h2,_⟩:=(show jj X.prog X.w H s.heap a (.dT fR)from I.hG a _ ea);exact du W.kitx_dict I.tH ⟨o,h1,h2.1⟩ e (λz=>nomatch z) h
 | @ins a C dx fs ea cl ha Y L hm =>cases(show u=Value.ref a from G);obtain⟨mA,O,_⟩:=wy I.hG ea;obtain⟨od,J,_⟩:=O.look;exact du (W.kitx_own (cl.get _) cl.hd ha Y L hm) I.tH J e (λz=>nomatch z) h
end
structure jE (k:Nat)(A:Around):Prop where
 hd:A.handled=none
 dp:A.depth+3*k+5<recursionLimit
 un:A.units+16*k+200<cLine
def jE.mono{j k:Nat}{A:Around}(r:jE k A)(h:j<=k):jE j A:=⟨r.hd,by have:=r.dp;lia,by have:=r.un;lia⟩
def jE.deeper{k:Nat}{A:Around}(r:jE (k+1) A)(env:Env):jE k (A.deeper env) :=
 ⟨r.hd,by have:=r.dp;show A.depth+1+3*k+5<_;lia,by have:=r.un;show A.units+3+16*k+200<_;lia⟩
def jE.in1{k:Nat}{A:Around}(r:jE (k+1) A):jE k A.in1 :=
 ⟨r.hd,by have:=r.dp;show A.depth+3*k+5<_;lia,by have:=r.un;show A.units+1+16*k+200<_;lia⟩
def EY{A:Around}{C:ai}:(A.under (.builtin "type.__call__" ⟨.ref C::us,kw⟩)).depth=A.depth+1:=by first|rfl|simp[Around.under,Code.weight,Code.isCreation,Code.isGuard,Code.isCaller,Code.frames,Code.isFrame,guardIds]
def EX{A:Around}{C:ai}:(A.under (.builtin "type.__call__" ⟨.ref C::us,kw⟩)).units=A.units+1:=by first|rfl|simp[Around.under,Code.cUnits,Code.frames,Code.isFrame]
def jE.make{k:Nat}{A:Around}(r:jE (k+1) A)(C:ai)(us:ao ak)(kw:ao (Str×ak)):jE k (A.under (.builtin "type.__call__" ⟨.ref C::us,kw⟩)) :=
 ⟨r.hd,by have:=r.dp;rw[EY];lia,by have:=r.un;rw[EX];lia⟩
def jE.depth{k:Nat}{A:Around}(r:jE k A):A.depth<recursionLimit:=by have:=r.dp;lia
def jE.units{k:Nat}{A:Around}(r:jE k A):A.units+64<cLine:=by have:=r.un;lia
def KJ:TA:=λ_ H Q=>Q [] H
def zc(ta:TE)(G:TA):TA:=λσ H Q=>ta σ H λx H1=>G σ H1 λxs H2=>Q (x::xs) H2
section
variable {X:Cx}{e:Expr}{es:ao Expr}{te:TE}{t:TA}{pos:Pos}
def iJ:PA X [] KJ:=λ_ _ _ _ H Q I h=>Calls.spliced_nil ⟨[],H,I,.nil,h⟩
def gm(ha:PE X e te)(Y:PA X es t)(W:starEach (e::es) X.env=(false,eval e X.env)::starEach es X.env:=by rfl):PA X (e::es) (zc te t):=by intro pos fE s σ H Q I h;rw[W];show wpAny _ _ (spliced ((false,eval e X.env)::backTo pos (starEach es X.env))) _ _ s;refine Calls.spliced_cons (iN (ha fE s σ H _ I h) λu G J=>?_);obtain⟨x,H1,I1,U,q1⟩:=J;exact iN (Y pos fE G σ H1 _ I1 q1) λus s2 L=>by obtain⟨xs,H2,Z,O,q2⟩:=L;exact⟨x::xs,H2,Z,.cons U O,q2⟩
def ZN(t:TA):TE:=λσ H Q=>t σ H λxs H1=>xs.length<=sizeLine/\∀ p,H1 p=none->Q (.ref p) (upd H1 p (.tup xs))
def ZR(t:TA):TE:=λσ H Q=>t σ H λxs H1=>xs.length<=sizeLine/\∀ p,H1 p=none->Q (.ref p) (upd H1 p (.lst xs))
def TK{L}(h:PA X es t):PE X (.Tuple es L pos) (ZN t):=by intro fE s σ H Q I O;refine wpAny_Tuple_spliced (iN (h pos fE s σ H _ I O) λus G ⟨xs,H1,J,r,z,q⟩=>⟨by rw[<- r.length];exact z,?_⟩);have U:H1 G.heap.objs.size=none:=J.hG.fresh (ar _);refine⟨.ref G.heap.objs.size,upd H1 G.heap.objs.size (.tup xs),J.laid (t':=G.toks) (λb u e=>j4 _ e) (ar _) ?_,rfl,q _ U⟩;exact⟨z,us,r,⟨_,aE _ rfl,rfl,_,rfl⟩⟩
def Lu(h:PA X es t):PE X (.List es pos) (ZR t):=by intro fE s σ H Q I L;refine wpAny_List_spliced (iN (h pos fE s σ H _ I L) λus G ⟨xs,H1,J,r,z,q⟩=>⟨by rw[<- r.length];exact z,?_⟩);have O:H1 G.heap.objs.size=none:=J.hG.fresh (ar _);refine⟨.ref G.heap.objs.size,upd H1 G.heap.objs.size (.lst xs),J.laid (t':=G.toks) (λb u e=>j4 _ e) (ar _) ?_,rfl,q _ O⟩;exact⟨z,us,0,r,aE _ rfl⟩
end
abbrev Sp:=ao V->Hp->VK->XK->Prop
abbrev Ib:=ao Env->Hp->ah->XK->ak->ah->Prop
structure vU (P:ae)(w:af)(K:aa)(mg:Str->Option ak)(fF:Heap)(A:Around)(fN:List Env)(s:ah)(H:Hp):Prop where
 frames:A.frames=some fN
 mod:Mod K mg fF
 bs:∀ b o,fF.get? b=some o->s.heap.get? b=some o/\H b=none
 Eh:fF.objs.size<=s.heap.objs.size
 qE:s.heap.FunFrames fF fN
 MV:∀ b∈yO fN,H b=none
 hG:pT P w H s.heap
 bare:AllBare s.gens
def CE(fN:ao Env)(P:ae)(w:af)(H:Hp)(s:ah)(Q:VK)(u:ak)(s':ah):Prop :=
 ∃ v H',s'.os=s.os/\AllBare s'.gens/\Un (yO fN) [] H H' s.heap s'.heap/\pT P w H' s'.heap/\gB v u/\Q v H'
def CR(CX:Ib)(fN:ao Env)(P:ae)(w:af)(H:Hp)(s:ah)(Q:VK)(E:XK)(r:Result)(s':ah):Prop :=
 match r with
 |.ok (.ret u)=>CE fN P w H s Q u s'
 |.ok _=>False
 |.error e=>CX fN H s E e s'
structure gD (P:ae)(w:af)(K:aa)(mg:Str->Option ak)(fF:Heap)(CX:Ib)(k:Nat)(f:ai)(fd:ag)(ps:List Str)(sp:Sp):Prop where
 len:∀ vs H Q E,sp vs H Q E->vs.length=ps.length
 run:∀(A:Around) (fN:List Env) (s:ah) (H:Hp) (args:Args) (us:List ak) (vs:List V) (Q:VK) (E:XK),jE k A->vU P w K mg fF A fN s H->BindsTo s fd args (ps.zip us)->gG vs us->sp vs H Q E ->
  codeAny (model P w) A (.call (.ref f) args) (CR CX fN P w H s Q E) s
def gD.imp{P:ae}{K:aa}{CX:Ib}{k:Nat}{fd:ag}{sp G:Sp}(F:gD P w K mg fF CX k f fd ps sp)
 (h:∀ vs H Q E,G vs H Q E->sp vs H Q E):gD P w K mg fF CX k f fd ps G:=
 ⟨λvs H Q E q=>F.len vs H Q E (h _ _ _ _ q),λA fN s H J us vs Q E U W hb L O=>F.run A fN s H J us vs Q E U W hb L (h _ _ _ _ O)⟩
def vU.make{P:ae}{K:aa}{A:Around}(e:vU P w K mg fF A fN s H)(C:ai)(us:ao ak)(kw:ao (Str×ak)):
 vU P w K mg fF (A.under (.builtin "type.__call__" ⟨.ref C::us,kw⟩)) fN s H:=⟨by first|exact e.frames|(simpa [Around.under,Code.envs,Code.isFrame,pushEnvs]using e.frames),e.mod,e.bs,e.Eh,e.qE,e.MV,e.hG,e.bare⟩
def vU.in1{P:ae}{w:af}{K:aa}{mg:Str->aq ak}{fF:Heap}{A:Around}{fN:ao Env}{s:ah}{H:Hp}(e:vU P w K mg fF A fN s H):
 vU P w K mg fF A.in1 fN s H:=⟨e.frames,e.mod,e.bs,e.Eh,e.qE,e.MV,e.hG,e.bare⟩
section
variable {X:Cx}{fE:ao (ai×Obj)}{σ:St}{H:Hp}{s s':ah}
def Inv.U3(I:Inv X fE σ H s):vU X.prog X.w X.K X.mg X.fF X.A X.stack s H :=
 ⟨I.ok.frames,I.ok.mod,I.bs,aX I.ok.Eh I.sz,I.stack,I.qU,I.hG,I.bare⟩
def Inv.after{Q:VK}(I:Inv X fE σ H s)(h:CE X.stack X.prog X.w H s Q u s'):EP X fE σ Q u s':=by obtain⟨v,H',os,bare,un,hG,r,q⟩:=h;obtain⟨J,g,d,t,G⟩:=s';obtain rfl:G=s.os:=os;exact⟨v,H',I.call (h':=J) (g':=g) (d':=d) (t':=t) (ch:=[]) un hG bare (λb z=>absurd z (by simp)),r,q⟩
end
def Rt(sp:Sp)(A9:ao V)(E:XK)(t:TA):TE:=λσ H Q=>t σ H λvs H1=>sp (vs++A9) H1 Q E
def KL(C:ai)(m:Str)(sp:Sp)(A9:ao V)(E:XK)(ta:TE)(t:TA):TE:=λσ H Q=>ta σ H λx H1=>∃ a dx fs,x=.ref a/\H1 a=some (.ins C dx fs)/\fs.lookup m=none /\
 t σ H1 λvs H2=>sp (x::(vs++A9)) H2 Q E
def Rq(C:ai)(sp:Sp)(A9:ao V)(E:XK)(t:TA):TE:=λσ H Q=>t σ H λvs H1=>∀ x dx,H1 x=none->H1 dx=none->dx≠x ->
 sp (.ref x::(vs++A9)) (upd (upd H1 dx (.own x)) x (.ins C dx [])) (λv H2=>v=.iz/\Q (.ref x) H2) E
def Binds(K:aa)(fd:ag)(ps:ao Str)(ds:ao ak):Prop :=
 ∀(s:ah) (us:ao ak),K.In s.heap->(us++ds).length=ps.length->BindsTo s fd ⟨us,[]⟩ (ps.zip (us++ds))
def Binds.all{K:aa}{fd:ag}(h:∀ us:ao ak,us.length=ps.length->bindArgs fd ⟨us,[]⟩=pure (ps.zip us)):Binds K fd ps []:=λs us _ hl=>by
 rw[b9]at hl ⊢
 exact .of_eq (h us hl)
def Passes(CX:Ib)(X:Cx)(E:XK):Prop:=∀(fE:ao (ai×Obj)) (σ:St) (H:Hp) (s:ah) (e:ak) (s':ah),Inv X fE σ H s->CX X.stack H s E e s'->X.xe e s'
section
variable {X:Cx}{CX:Ib}{k:Nat}{f C:ai}{fd:ag}{ps:ao Str}{sp:Sp}{A9:ao V}{ds:ao ak}{E:XK}{x m:Str}{p pos mL:Pos}{e o:Expr}{es:ao Expr}{ta:TE}{t:TA}
def K5{Q:VK}(F:gD X.prog X.w X.K X.mg X.fF CX k f fd ps sp)(O:jE k X.A)(hb:Binds X.K fd ps ds)(hd:gG A9 ds)(L:Passes CX X E)
 (I:Inv X fE σ H s) (r:gG vs us) (h:sp (vs++A9) H Q E):wpAny (model X.prog X.w) X.A (call (.ref f) us) (EP X fE σ Q) X.xe s:=by
 have J:gG (vs++A9) (us++ds):=r.append hd;have hl:(us++ds).length=ps.length:=by rw[<- J.length];exact F.len _ _ _ _ h
 refine wpAny_call (codeAny_mono (F.run X.A X.stack s H ⟨us,[]⟩ (us++ds) (vs++A9) Q E O I.U3 (hb s us I.tH hl) J h) λr s' G=>?_);cases r with
 |error e=>exact L fE σ H s e s' I G
 | ok U =>
  cases U with
  |ret u=>exact I.after G
  |next=>exact False.elim G
  |brk=>exact False.elim G
  |cont=>exact False.elim G
def AB(F:gD X.prog X.w X.K X.mg X.fF CX k f fd ps sp)(U:jE k X.A)(Y:Gl X x)(hm:X.mg x=some (.ref f))(hk:W.keepIn X.K (.ref f)=true)(hb:Binds X.K fd ps ds)(hd:gG A9 ds)(O:Passes CX X E)
 (ha:PA X (e::es) t) (J:(x==("__debug__" : Str))=false:=by decide) (he:starEach (e::es) X.env=(false,eval e X.env)::starEach es X.env:=by rfl) (nK:(backTo pos (starEach es X.env)).any (·.1)=false:=by rfl):
 PE X (.Call (.Name x p) (e::es) [] pos) (Rt sp A9 E t):=by
 intro fE s σ H Q I h;refine cO (rj I Y hm ?_ J);refine W.callWith_K (h₀:=X.fF) I.ok.mod.Um hk (iN (ha pos fE s σ H _ I h) λus Z L=>?_) he nK;obtain⟨vs,H1,G,r,q⟩:=L;refine⟨G.tH,?_⟩;exact K5 F U hb hd O G r q
def GL{pl:Sem Bool}(he:PE X o ta)(c:FQ X.K C)(hm:Meth X.K C m f)(F:gD X.prog X.w X.K X.mg X.fF CX k f fd ps sp)(hr:jE k X.A)(hb:Binds X.K fd ps ds)(hd:gG A9 ds)(Z:Passes CX X E)(ha:PA X (e::es) t)
 (B1:starEach (e::es) X.env=(false,eval e X.env)::starEach es X.env:=by rfl) (nK:(backTo pos (starEach es X.env)).any (·.1)=false:=by rfl)
 (ht:eval (.Call (.Attribute o m mL) (e::es) [] pos) X.env=(do
   let ov <- eval o X.env
   standAt mL.atName
   let (f,first) <- holding [ov] (getMethod ov m pl)
   callWith pos f first (backTo pos (starEach (e::es) X.env)) (backToKw pos (keywordEach [] X.env))):=by rfl):
 PE X (.Call (.Attribute o m mL) (e::es) [] pos) (KL C m sp A9 E ta t):=by
 intro fE s σ H Q I h;refine W.methodCall_KW (pl:=pl) (iN (he fE s σ H _ I h) λu U L=>?_) ht;obtain⟨x,H1,J,Y,a,dx,fs,ex,ea,l,q⟩:=L;subst ex;obtain rfl:u=Value.ref a:=Y;refine xO J ea c hm l ?_;refine W.callWith_K (first:=[.ref a]) (h₀:=X.fF) I.ok.mod.Um hm.kp (iN (ha pos fE U σ H1 _ J q) λus s2 O=>?_) B1 nK;obtain⟨vs,H2,G,r,q2⟩:=O;refine⟨G.tH,?_⟩;exact K5 (us:=.ref a::us) (vs:=.ref a::vs) F hr hb hd Z G (.cons rfl r) q2
structure Mk (K:aa)(C f:ai):Prop where
 makes:W.makesIn K C=true
 init:W.findIn K (.ref C) "__init__"=some (some (.ref f))
 fn:W.isFn K (.ref f)=true
 kp:W.keepIn K (.ref C)=true
def K4{Q:VK}(M:Mk X.K C f)(F:gD X.prog X.w X.K X.mg X.fF CX k f fd ps sp)(Z:jE (k+1) X.A)(hb:Binds X.K fd ps ds)(hd:gG A9 ds)
 (Y:Passes CX X E) (I:Inv X fE σ H s) (r:gG vs us)
 (h:∀ x dx,H x=none->H dx=none->dx≠x->sp (.ref x::(vs++A9)) (upd (upd H dx (.own x)) x (.ins C dx [])) (λv H2=>v=.iz/\Q (.ref x) H2) E):
 wpAny (model X.prog X.w) X.A (call (.ref C) us) (EP X fE σ Q) X.xe s:=by
 have O:=h (s.heap.objs.size+1) s.heap.objs.size (I.hG.fresh (Nat.le_succ _)) (I.hG.fresh (ar _)) (aA (bG _));have J:=Inv.made (C:=C) I;have L:gG (V.ref (s.heap.objs.size+1)::(vs++A9)) (Value.ref (s.heap.objs.size+1)::(us++ds)):=.cons rfl (r.append hd);have hl:(Value.ref (s.heap.objs.size+1)::us++ds).length=ps.length:=by have e:=L.length;rw[F.len _ _ _ _ O]at e;exact e.symm
 refine wpAny_call (Ma (f:=f) I.tH M.makes M.init (beq_iff_eq.mp M.fn) (codeAny_mono (F.run _ X.stack _ _ ⟨Value.ref (s.heap.objs.size+1)::us,[]⟩ (Value.ref (s.heap.objs.size+1)::(us++ds)) _ _ E (Z.make C us [])
  (J.U3.make C us []) (hb _ (Value.ref (s.heap.objs.size+1)::us) J.tH hl) L O) λr s' G=>?_))
 cases r with
 |error e=>exact Y fE σ _ _ e s' J G
 | ok fl =>
  cases fl with
  | ret u =>obtain⟨v,H',I3,U,ev,W⟩:=J.after G;subst ev;exact⟨U,⟨V.ref (s.heap.objs.size+1),H',I3,rfl,W⟩⟩
  |next=>exact False.elim G
  |brk=>exact False.elim G
  |cont=>exact False.elim G
def Pn(M:Mk X.K C f)(F:gD X.prog X.w X.K X.mg X.fF CX k f fd ps sp)(U:jE (k+1) X.A)(Y:Gl X x)(hm:X.mg x=some (.ref C))(hb:Binds X.K fd ps ds)(hd:gG A9 ds)(O:Passes CX X E)
 (ha:PA X (e::es) t) (J:(x==("__debug__" : Str))=false:=by decide) (he:starEach (e::es) X.env=(false,eval e X.env)::starEach es X.env:=by rfl) (nK:(backTo pos (starEach es X.env)).any (·.1)=false:=by rfl):
 PE X (.Call (.Name x p) (e::es) [] pos) (Rq C sp A9 E t):=by
 intro fE s σ H Q I h;refine cO (rj I Y hm ?_ J);refine W.callWith_K (h₀:=X.fF) I.ok.mod.Um M.kp (iN (ha pos fE s σ H _ I h) λus Z L=>?_) he nK;obtain⟨vs,H1,G,r,q⟩:=L;refine⟨G.tH,?_⟩;exact K4 M F U hb hd O G r q
end
def PK(X:Cx)(W9:ao Keyword)(t:TA):Prop :=
 ∀(pos:Pos) (fE:ao (ai×Obj)) (s:ah) (σ:St) (H:Hp) (Q:ao V->Hp->Prop),Inv X fE σ H s->t σ H Q->wpAny (model X.prog X.w) X.A (evalAll ((backToKw pos (keywordEach W9 X.env)).map (·.2))) (AP X fE σ Q) X.xe s
section
variable {X:Cx}{CX:Ib}{k:Nat}{f C:ai}{fd:ag}{ps ks:ao Str}{sp:Sp}{E:XK}{x m:Str}{p pos mL Jd:Pos}{e o:Expr}{es:ao Expr}{W9:ao Keyword}{te ta:TE}{t tk:TA}{nm:aq Str}
def TF:PK X [] KJ:=λ_ _ _ _ H Q I h=>wpAny_evalAll_nil ⟨[],H,I,.nil,h⟩
def Ph(ha:PE X e te)(W:PK X W9 t):PK X (⟨nm,e,Jd⟩::W9) (zc te t):=by intro pos fE s σ H Q I h;show wpAny _ _ (evalAll ((do let v <- eval e X.env;standAt pos;pure v)::(backToKw pos (keywordEach W9 X.env)).map (·.2))) _ _ s;refine wpAny_evalAll_cons (fV (iN (ha fE s σ H _ I h) λu G J=>?_));obtain⟨x,H1,Z,O,q1⟩:=J;refine fV (d9 (au ?_));exact iN (W pos fE G σ H1 _ Z q1) λus s2 U=>by obtain⟨xs,H2,Y,L,q2⟩:=U;exact⟨x::xs,H2,Y,.cons O L,q2⟩
variable {g:ao ak->ao ak->ao ak}{gV:ao V->ao V->ao V}
end
structure gb (N P:List Str)(sc:Scope):Prop where
 kind:sc.kind=.function
 co:sc.isCoroutine=false
 gen:sc.isGenerator=false
 nd:N.Nodup
 pre:N.take P.length=P
 par:∀ x∈P,sc.names.lookup x=some .local\/sc.names.lookup x=some .cell
 Ub:∀ y∈sc.names,y.2≠.free
theorem zT{kindOf:Str->aq NameKind}{x:Str}:∀ {binds:ao (Str×ak)} {m:Str->aq ak},(∀ v,(x,v)∉binds)->bindL kindOf binds m x=m x
 |[],_,_=>rfl
 | (n,v)::r,m,h=>by
  unfold bindL;rw[zT λw G=>h w (nM _ G)];split
  .have:x≠n:=by rintro rfl;exact h v aF
   simp[this]
  .rfl
theorem zV{kindOf:Str->aq NameKind}{x:Str}:∀ {binds:ao (Str×ak)} {m:Str->aq ak},(∀ v,(x,v)∉binds)->bindC kindOf binds m x=m x
 |[],_,_=>rfl
 | (n,v)::r,m,h=>by
  unfold bindC;rw[zV λw G=>h w (nM _ G)];split
  .rfl
  .have:x≠n:=by rintro rfl;exact h v aF
   simp[this]
theorem zU{kindOf:Str->aq NameKind}{x:Str}{v:ak}:∀ {P:ao Str} {vs:ao ak} {i:Nat} {m:Str->aq ak},P.Nodup->P[i]?=some x->vs[i]?=some v->kindOf x=some .local ->
 bindL kindOf (P.zip vs) m x=some v
 |[],_,_,_,_,h,_,_=>by simp at h
 |_::_,[],_,_,_,_,h,_=>by simp at h
 | p::P,w::vs,0,m,nd,h1,h2,hk=>by simp at h1 h2;subst h1;subst h2;show bindL kindOf ((p,w)::P.zip vs) m p=_;unfold bindL;rw[zT λv G=>(List.nodup_cons.mp nd).1 (dH G).1,aB hk];simp
 | p::P,w::vs,i+1,m,nd,h1,h2,hk=>by show bindL kindOf ((p,w)::P.zip vs) m x=_;unfold bindL;exact zU (i:=i) (List.nodup_cons.mp nd).2 (by simpa using h1) (by simpa using h2) hk
theorem zW{kindOf:Str->aq NameKind}{x:Str}{v:ak}:∀ {P:ao Str} {vs:ao ak} {i:Nat} {m:Str->aq ak},P.Nodup->P[i]?=some x->vs[i]?=some v->kindOf x≠some .local ->
 bindC kindOf (P.zip vs) m x=some v
 |[],_,_,_,_,h,_,_=>by simp at h
 |_::_,[],_,_,_,_,h,_=>by simp at h
 | p::P,w::vs,0,m,nd,h1,h2,hk=>by simp at h1 h2;subst h1;subst h2;show bindC kindOf ((p,w)::P.zip vs) m p=_;unfold bindC;rw[zV λv G=>(List.nodup_cons.mp nd).1 (dH G).1,aC hk];simp
 | p::P,w::vs,i+1,m,nd,h1,h2,hk=>by show bindC kindOf ((p,w)::P.zip vs) m x=_;unfold bindC;exact zW (i:=i) (List.nodup_cons.mp nd).2 (by simpa using h1) (by simpa using h2) hk
def start(N:ao Str)(vs:ao V):St:=vs.map some++List.replicate (N.length - vs.length) none
def p6(CX:Ib)(P:ae)(w:af)(K:aa)(mg:Str->aq ak)(fF:Heap)(N:ao Str)(qual:Str)(scope:Scope)(f:ai)(cd:ak)(A:Around)(fN:ao Env)(s:ah)(H:Hp)(E:XK):Cx where
 prog:=P
 w:=w
 K:=K
 mg:=mg
 fF:=fF
 A:=A.deeper (envOfC qual scope s.heap.objs.size f cd)
 N:=N
 s₀:=s
 H₀:=H
 env:=envOfC qual scope s.heap.objs.size f cd
 fN:=fN
 stack:=envOfC qual scope s.heap.objs.size f cd::fN
 ex:=[]
 gY:=true
 fn:=λ_=>true
 pn:=[]
 xe:=λe s'=>wpAny (model P w) (A.deeper (envOfC qual scope s.heap.objs.size f cd)) (leaving (envOfC qual scope s.heap.objs.size f cd) e) (λ_ G=>CX fN H s E e G) (λJ G=>CX fN H s E J G) s'
def oW{sc:Scope}{n:Nat}(h:sc.names.lookup x=some .cell):∃ c,(cellsFrom n sc.names []).lookup x=some c:=by have q:=W.cellsFrom_some sc.names n [] (.inl h);exact Option.isSome_iff_exists.mp q
def zz{CX:Ib}{P:ae}{K:aa}{N:ao Str}{qual:Str}{cd:ak}{A:Around}{s1:ah}{E:XK}
 (S:gb N ps scope) (hd:A.handled=none) (e0:vU P w K mg fF A fN s H) (hl:vs.length=ps.length) (r:gG vs us)
 (x:InCallC s s.heap.objs.size (bindL (envOfC qual scope s.heap.objs.size f cd).kindOf (ps.zip us) λ_=>none) (cellsFrom (s.heap.objs.size+1) scope.names []) (bindC (envOfC qual scope s.heap.objs.size f cd).kindOf (ps.zip us) λ_=>none) s1):
 Inv (p6 CX P w K mg fF N qual scope f cd A fN s H E) [] (start N vs) H s1:=by
 have W:ps.length<=N.length:=by have:=cf List.length S.pre;rw[bH]at this;lia
 obtain⟨h1,tk,rfl,hk⟩:=x.done;have O:∀ b:ai,b∉(p6 CX P w K mg fF N qual scope f cd A fN s H E).ex:=λb z=>absurd (show b∈([]:ao ai)from z) (by simp);refine⟨⟨e0.mod,S.kind,rfl,rfl,ar _,λy z c h1 h2=>?_,λy G=>?_,λy c _ h=>?_,λ_=>hd,Around.frames_deeper e0.frames,.inr ⟨rfl,rfl⟩,λb z=>absurd z (O b),e0.bs,e0.Eh,λb _ _=>O b,λb z=>absurd z (O b),e0.qE,e0.MV⟩,
  rfl,e0.bare,Un.jk hk,⟨_,x.toInCall.ns,λi y v h1 h2 Y=>?_⟩,λy c h=>⟨_,x.cell y c h⟩,e0.hG.fresh (ar _),λy c h=>?_,λp L=>absurd (show p∈([]:ao (ai×Obj))from L) (by simp),e0.hG.jk hk,?_⟩
 .exact name_of_addr x.apart (dt h1) (dt h2)
 .have G:scope.names.lookup y=some .cell\/scope.names.lookup y=some .free:=G;rcases G with G|G
  .exact oW G
  .exact absurd rfl (S.Ub _ (dt G))
 .exact e9 (x.above y c (dt h))
 .have hi:i<vs.length:=by
   unfold start at h2;by_cases hi:i<vs.length
   .exact hi
   .rw[pW (by simpa using hi)]at h2;rw[dz]at h2;split at h2<;>cases h2
  have ha:vs[i]?=some v:=by
   unfold start at h2;rw[uO (by simpa using hi),oC]at h2;cases e:vs[i]? with
   |none=>rw[e]at h2;cases h2
   |some a=>rw[e]at h2;cases h2;rfl
  obtain⟨u,hu,U⟩:=r.get ha
  have L:ps[i]?=some y:=by rw[<- S.pre,bR (by lia)];exact h1
  have J:ps.Nodup:=by rw[<- S.pre];exact S.nd.sublist (List.take_sublist _ _)
  refine⟨u,U,?_⟩
  rcases S.par y (mR L)with k|k
  .exact .inl ⟨k,zU J L hu k⟩
  .obtain⟨c,e⟩:=oW (n:=s.heap.objs.size+1) k;refine .inr ⟨.inl k,c,e,?_⟩;have q:=x.cell y c e;rw[zW J L hu (by show scope.names.lookup y≠_;rw[k];decide)]at q;exact q
 .exact e0.hG.fresh (e9 (x.above y c (dt h)))
 .unfold start;show _=N.length;rw[o4,iE,aT];lia
def Se{CX:Ib}{P:ae}{K:aa}{k:Nat}{name qual:Str}{params:Arguments}{dV kV doc pm G ct oc:ak}{an od:aq ai}
 {Ol:Array (aq ak)} {N ps:ao Str} {sp:Sp} (lk:K.lookup f=some ⟨oc,od,.func (W.fnOf name qual params body scope dV kV doc pm an G ct),Ol⟩) (Dq:W.codeIn K G qual=true) (S:gb N ps scope)
 (len:∀ vs H Q E,sp vs H Q E->vs.length=ps.length)
 (qD:∀(A:Around) (fN:ao Env) (s:ah) (H:Hp) (vs:ao V) (Q:VK) (E:XK),jE k (A.deeper (envOfC qual scope s.heap.objs.size f G))->sp vs H Q E ->
   ∃ t,BG (p6 CX P w K mg fF N qual scope f G A fN s H E) body t/\t { nx:=λ_ H'=>Q .iz H',rt:=Q} (start N vs) H):
 gD P w K mg fF CX (k+1) f (W.fnOf name qual params body scope dV kV doc pm an G ct) ps sp:=by
 refine⟨len,λA fN s H args us vs Q E Z e0 hb r JU=>?_⟩;have hl:=len _ _ _ _ JU;have KX:K.In s.heap:=e0.mod.Um.keeps λb o e=>(e0.bs b o e).1;have Y:s.heap.NoLimit:=e0.mod.nolimit.keeps λb o e=>(e0.bs b o e).1;have MF:∀ y∈ps.zip us,scope.names.lookup y.1=some .local\/(scope.names.lookup y.1=some .cell/\((cellsFrom (s.heap.objs.size+1) scope.names []).lookup y.1).isSome=true):=λ⟨n,v⟩ hy=>by
  rcases S.par n (dH hy).1 with q|q
  .exact .inl q
  .exact .inr ⟨q,W.cellsFrom_some _ _ _ (.inl q)⟩
 refine codeAny_call_function Z.depth (KX _ _ lk) rfl S.co S.gen rfl (W.codeRec_of KX Dq) (hb _ _ _ _ ?_);refine wpAny_newFunctionEnv_cells S.kind MF λenv he s1 x=>?_;subst he;refine⟨Y.keeps x.toInCall.keep,codeAny_func ?_⟩;obtain⟨t,ht,hq⟩:=qD A fN s H vs Q E (Z.deeper _) JU;have I:Inv (p6 CX P w K mg fF N qual scope f G A fN s H E) [] (start N vs) H s1:=zz S Z.hd e0 hl r x;refine bU (ht [] s1 (start N vs) H _ I hq) (λfl s' L=>?_) λe s' L=>L;have fin:∀ {O:St} {H':Hp} {v:V} {u:ak},Inv (p6 CX P w K mg fF N qual scope f G A fN s H E) [] O H' s'->gB v u->Q v H'->CE fN P w H s Q u s' :=
  λ{O H' v u} J U q=>⟨v,H',J.os,J.bare,J.fF,J.hG,U,q⟩
 cases fl with
 | ret u =>obtain⟨v,O,H',J,U,q⟩:=L;exact fin J U q
 | next =>obtain⟨O,H',J,q⟩:=L;exact fin (v:=V.iz) (u:=Value.none) J rfl q
 | brk =>obtain⟨_,_,_,q⟩:=L;exact False.elim q
 | cont =>obtain⟨_,_,_,q⟩:=L;exact False.elim q
section
variable {X:Cx}{x:Str}{p pos:Pos}{e:Expr}{es:ao Expr}{t:TA}{id T:String}{r:ao V->Hp->VK->Prop}
def YT(r:ao V->Hp->VK->Prop)(t:TA):TE:=λσ H Q=>t σ H λvs H1=>r vs H1 Q
def hJ(Y:jM X (.builtin id) r)(W:Gl X x)(hm:X.mg x=none)(O:bootBuiltins x=some (.builtin id))(ha:PA X (e::es) t)(U:x ≠ "__name__":=by decide)(vR:(x==("__debug__" : Str))=false:=by decide)
 (he:starEach (e::es) X.env=(false,eval e X.env)::starEach es X.env:=by rfl) (nK:(backTo pos (starEach es X.env)).any (·.1)=false:=by rfl):PE X (.Call (.Name x p) (e::es) [] pos) (YT r t):=by
 intro fE s σ H Q I h;refine cO (lM I W hm O ?_ U vR);exact PyProof.Rows.callWith_builtin1 (iN (ha pos fE s σ H _ I h) λus G J=>by obtain⟨vs,H1,Z,L,q1⟩:=J;exact Y fE G σ H1 vs us Q Z L q1) he nK
def zj(Y:jM X (.type T) r)(W:Gl X x)(hm:X.mg x=none)(O:bootBuiltins x=some (.type T))(ha:PA X (e::es) t)(U:x ≠ "__name__":=by decide)(vR:(x==("__debug__" : Str))=false:=by decide)
 (he:starEach (e::es) X.env=(false,eval e X.env)::starEach es X.env:=by rfl) (nK:(backTo pos (starEach es X.env)).any (·.1)=false:=by rfl):PE X (.Call (.Name x p) (e::es) [] pos) (YT r t):=by
 intro fE s σ H Q I h;refine cO (lM I W hm O ?_ U vR);exact bh (iN (ha pos fE s σ H _ I h) λus G J=>by obtain⟨vs,H1,Z,L,q1⟩:=J;exact Y fE G σ H1 vs us Q Z L q1) he nK
end
end L2
namespace HT
open PySem PyProof.Rows
section
variable {prog:ae}{w:af}{A:Around}{E:ak->ah->Prop}{s:ah}
def oM(n d:Nat):aq Int->Nat
 |none=>d
 |some v=>if v<0 then(v+(n:Int)).toNat else min v.toNat n
def xw(n d:Nat):oM n d none=d:=rfl
def m4(n d k:Nat):oM n d (some (k:Int))=min k n:=by show(if(k:Int)<0 then((k:Int)+(n:Int)).toNat else min (k:Int).toNat n)=min k n;rw[aC (by lia),vD]
def Ax(n d:Nat)(hd:d<=n)(o:aq Int):oM n d o<=n:=by
 cases o with
 |none=>exact hd
 | some v =>
  show(if v<0 then(v+(n:Int)).toNat else min v.toNat n)<=n;by_cases G:v<0
  .rw[aB G];lia
  .rw[aC G];exact Nat.min_le_right _ _
end
end HT
namespace L2
open PySem PySem.Spec PyProof.Rows
variable{fE:ao (ai×Obj)}{s:ah}
abbrev TO:=St->Hp->(aq Int->Hp->Prop)->Prop
def PO(X:Cx)(e:aq Expr)(t:TO):Prop :=
 ∀(fE:ao (ai×Obj)) (s:ah) (σ:St) (H:Hp) (Q:aq Int->Hp->Prop),Inv X fE σ H s->t σ H Q ->
  wpAny (model X.prog X.w) X.A (evalPart e X.env) (λu s'=>∃ o H',Inv X fE σ H' s'/\IsPart u o/\Q o H') X.xe s
def OJ:TO:=λ_ H Q=>Q none H
section
variable {X:Cx}{e:Expr}{te:TE}{lo hi:aq Expr}{tl th:TO}{pos p2:Pos}
def Pg:PO X none OJ:=by intro fE s σ H Q I h;rw[evalPart_none];exact au ⟨none,H,I,.none,h⟩
def Zw(X:Cx)(r:V->aq Int->aq Int->Hp->VK->Prop):Prop :=
 ∀(fE:ao (ai×Obj)) (s:ah) (σ:St) (H:Hp) (x:V) (v vl vu:ak) (lo hi:aq Int) (sl:ai) (Q:VK),Inv X fE σ H s->gB x v->s.heap.IsSliceOf sl vl vu .none->IsPart vl lo->IsPart vu hi->r x lo hi H Q ->
  ∃ T id,typeLookup (.type T) "__getitem__"=pure (some (.builtin id))/\s.TypeIs v T/\wpAny (model X.prog X.w) X.A (getItem v (.ref sl)) (EP X fE σ Q) X.xe s
def tSl(r:V->aq Int->aq Int->Hp->VK->Prop)(te:TE)(tl th:TO):TE:=λσ H Q=>te σ H λx H1=>tl σ H1 λl H2=>th σ H2 λu G=>r x l u G Q
def Lr{r:V->aq Int->aq Int->Hp->VK->Prop}(hr:Zw X r)(he:PE X e te)(hl:PO X lo tl)(hu:PO X hi th):PE X (.Subscript e (.Slice lo hi none p2) pos) (tSl r te tl th):=by intro fE s σ H Q I h;refine Subscript_ (iN (he fE s σ H _ I h) λv Z U=>?_);obtain⟨x,H1,I1,r1,q1⟩:=U;refine wpAny_Slice (iN (hl fE Z σ H1 _ I1 q1) λL Y W=>?_);obtain⟨l,H2,I2,pl,q2⟩:=W;refine iN (hu fE Y σ H2 _ I2 q2) λJ G rO=>?_;obtain⟨u,O,I3,pu,q3⟩:=rO;rw[evalPart_none];refine au ?_;have I4:Inv X fE σ O { G with heap:=G.heap.push { cls:=.type "slice",data:=.fields #[L,J,.none]}}:=I3.jk (t':=G.toks) λb ob q=>j4 _ q;obtain⟨T,id,hT,ht,hg⟩:=hr fE { G with heap:=G.heap.push { cls:=.type "slice",data:=.fields #[L,J,.none]}} σ O x v L J l u G.heap.objs.size Q I4 r1 (Heap.IsSliceOf.new ..) pl pu q3;show wpAny (model X.prog X.w) X.A (subscriptTail e (.Slice lo hi none p2) v (.ref G.heap.objs.size)) (EP X fE σ Q) X.xe { G with heap:=G.heap.push { cls:=.type "slice",data:=.fields #[L,J,.none]}};exact tail_any (ops:=[.ref G.heap.objs.size,v]) ht hT hg (by with_unfolding_all rfl)
def Fx(xs:ao V)(lo hi:aq Int):ao V:=(xs.drop (HT.oM xs.length 0 lo)).take (HT.oM xs.length xs.length hi - HT.oM xs.length 0 lo)
def DS(xs:ao V)(lo hi:aq Int):(Fx xs lo hi).length<=xs.length:=by unfold Fx;rw[bH,bD];lia
end
def Dm(n:Nat)(i:Int):aq Nat:=if 0<=i then(if i<n then some i.toNat else none)else if -(n:Int)<=i then some (i+n).toNat else none
def lS{α:Type}(xs:ao α)(i:Int):aq α:=(Dm xs.length i).bind λj=>xs[j]?
def G3{n:Nat}{i:Int}{j:Nat}(h:Dm n i=some j):seqIndex? i n=some j/\j<n /\ -(n:Int)<=i/\i<n:=by
 unfold Dm at h;by_cases G:0<=i
 .rw[aB G]at h;by_cases h1:i<n
  .rw[aB h1]at h;have e:i.toNat=j:=aN h;exact⟨by rw[seqIndex_of G h1,e],by lia,by lia,h1⟩
  .rw[aC h1]at h;cases h
 .rw[aC G]at h;by_cases h1:-(n:Int)<=i
  .rw[aB h1]at h;have e:(i+n).toNat=j:=aN h;exact⟨by rw[seqIndex_neg (by lia) h1,e],by lia,h1,by lia⟩
  .rw[aC h1]at h;cases h
def BC{α:Type}{xs:ao α}{i:Int}{v:α}(h:lS xs i=some v):∃ j,seqIndex? i xs.length=some j/\xs[j]?=some v/\j<xs.length /\ -(xs.length:Int)<=i/\i<xs.length:=by
 unfold lS at h;cases e:Dm xs.length i with
 |none=>rw[e]at h;cases h
 | some j =>rw[e]at h;obtain⟨h1,h2,J,G⟩:=G3 e;exact⟨j,h1,h,h2,J,G⟩
def jA{α:Type}{xs:ao α}{j:Nat}{v:α}(h:xs[j]?=some v):lS xs (j:Int)=some v:=by
 have G:j<xs.length:=(kN h).1;have e:Dm xs.length (j:Int)=some j:=by unfold Dm;rw[aB (by lia),aB (by lia)];simp
 unfold lS;rw[e];exact h
def D4{α:Type}(xs:ao α)(v:α):lS (xs++[v]) (-1)=some v:=by
 have hl:(xs++[v]).length=xs.length+1:=by simp
 have e:Dm (xs++[v]).length (-1)=some xs.length:=by unfold Dm;rw[hl,aC (by decide),aB (by lia)];congr 1;lia
 unfold lS;rw[e];show(xs++[v])[xs.length]?=some v;simp
def BF(b:Expr):Prop:=∀ o i,subscripted b false o i=operate [o,i] (getItem o i)
def HW(X:Cx)(r:R2):Prop :=
 ∀(value G:Expr) (fE:ao (ai×Obj)) (s:ah) (σ:St) (H:Hp) (x y:V) (v u:ak) (Q:VK),Inv X fE σ H s->gB x v->gB y u->r x y H Q ->
  subscripted G false v u=operate [v,u] (getItem v u)->wpAny (model X.prog X.w) X.A (subscriptTail value G v u) (EP X fE σ Q) X.xe s
def N9(X:Cx)(id:String)(r:V->ao V->Hp->VK->Prop):Prop :=
 ∀(fE:ao (ai×Obj)) (s:ah) (σ:St) (H:Hp) (x:V) (xs:ao V) (v:ak) (us:ao ak) (Q:VK),Inv X fE σ H s->gB x v->gG xs us->r x xs H Q ->
  wpAny (model X.prog X.w) X.A (call (.builtin id) (v::us)) (EP X fE σ Q) X.xe s
section
variable {X:Cx}{a b:Expr}{ta tb:TE}{pos:Pos}
def HW.or{r O:R2}(h:HW X r)(h':HW X O):HW X (λx y H Q=>r x y H Q\/O x y H Q):=by
 intro value G fE s σ H x y v u Q I L J q U;rcases q with q|q
 .exact h value G fE s σ H x y v u Q I L J q U
 .exact h' value G fE s σ H x y v u Q I L J q U
def qm{r:R2}(U:HW X r)(ha:PE X a ta)(hb:PE X b tb)(O:BF b):PE X (.Subscript a b pos) (We r ta tb):=by intro fE s σ H Q I h;exact Subscript_ (Q0 ha hb I h λv u G x y H2 W L J q=>U a b fE G σ H2 x y v u Q W L J q (O _ _))
def WB(K:aa):R2:=λx y H Q=>∃ p xs i v,x=.ref p/\y=.int i/\pS K H p xs/\lS xs i=some v/\Q v H
def Wz(K:aa):R2:=λx y H Q=>∃ p xs i v,x=.ref p/\y=.int i/\FI K H p xs/\lS xs i=some v/\Q v H
def WA:R2:=λx y H Q=>∃ z i c,x=.str z/\y=.int i/\z.length<=sizeLine/\lS z.cps.toList i=some c/\Q (.str ⟨#[c]⟩) H
def Qf:HW X (WB X.K):=by
 intro value G fE s σ H x y v u Q I W U h J;obtain⟨p,xs,i,z,rfl,rfl,Y,Z,q⟩:=h;cases W;obtain⟨t,rfl⟩:=U;obtain⟨gp,r,pl,hz⟩:=I.list Y;obtain⟨j,h1,h2,h3,h4,h5⟩:=BC Z;obtain⟨w,O,BW⟩:=r.get h2;have hl:=r.length;have hn:=qv;have fin:EP X fE σ Q w s:=⟨z,H,I,BW,q⟩;by_cases L:0<=i
 .have hj:i.toNat=j:=by rw[seqIndex_of L h5]at h1;exact aN h1
  exact item_listR pl.isList L (by lia) (by rw[hj];simpa using O) fin J
 .have hj:(i+(gp.toArray.size:Int)).toNat=j:=by rw[seqIndex_neg (by lia) h4]at h1;rw[aD,<- hl];exact aN h1
  exact subscriptTail_builtinR (x:=w) pl.isList.typeIs slot_list_getitem.lookup
   (wpAny_getItem_list_neg (Q:=λr s'=>r=w/\EP X fE σ Q r s') pl.isList (by lia) (by rw[aD]<;> lia) (by lia) (by rw[hj];simpa using O) ⟨rfl,fin⟩) J
def Uu:HW X (Wz X.K):=by
 intro value G fE s σ H x y v u Q I L J h O;obtain⟨p,xs,i,z,rfl,rfl,U,W,q⟩:=h;cases L;obtain⟨t,rfl⟩:=J;obtain⟨gp,r,pl,hz⟩:=I.tuple U;obtain⟨j,h1,h2,h3,h4,h5⟩:=BC W;obtain⟨w,Y,Z⟩:=r.get h2;have hl:=r.length;have hn:=qv;have fin:EP X fE σ Q w s:=⟨z,H,I,Z,q⟩;exact subscriptTail_builtinR (x:=w) pl.typeIs slot_tuple_getitem.lookup
  (getItem_tuple (j:=j) (Q:=λr s'=>r=w/\EP X fE σ Q r s') pl (by lia) (by lia) (by rw[aD,<- hl];exact h1) (by simpa using Y) ⟨rfl,fin⟩) O
def Uv:HW X WA:=by
 intro value G fE s σ H x y v u Q I L J h O;obtain⟨z,i,c,rfl,rfl,hz,U,q⟩:=h;obtain⟨t,rfl⟩:=L;obtain⟨Z,rfl⟩:=J;obtain⟨j,h1,h2,h3,Y,W⟩:=BC U;have hl:z.cps.toList.length=z.length:=by simp[Str.length]
 rw[hl]at h1 Y W;have hn:=qv;exact tail_any (typeIs_str s z t) slot_str_getitem.lookup (getItem_str (c:=c) (by
  have e1:decide (i < -(2 ^ 63:Int))=false:=aW (by lia)
  have e2:decide (i≥2 ^ 63)=false:=aW (by lia)
  rw[e1,e2,Bool.or_false]) (by rw[h1];simpa using h2) ⟨.str ⟨#[c]⟩,H,I.tok _,⟨_,rfl⟩,q⟩) O
def rIx(K:aa):R2:=λx y H Q=>WB K x y H Q\/Wz K x y H Q\/WA x y H Q
def Uw:HW X (rIx X.K):=Qf.or (Uu.or Uv)
def EW(G:ao ak)(n j:Nat)(u:ak):Obj.mapSeq (·.setIfInBounds j u) { cls:=.type "list",data:=.seq G.toArray n}={ cls:=.type "list",data:=.seq (G.set j u).toArray n}:=by simp[Obj.mapSeq]
def Inv.lst{fE:ao (ai×Obj)}{σ:St}{H:Hp}{s:ah}{p:ai}{xs:ao V}(I:Inv X fE σ H s)(h:H p=some (.lst xs)):
 ∃(G:ao ak) (n:Nat),gG xs G/\s.heap.get? p=some { cls:=.type "list",data:=.seq G.toArray n}/\xs.length<=sizeLine:=by
 obtain⟨z,G,n,r,e⟩:=I.hG p _ h;exact⟨G,n,r,e,z⟩
def Inv.Ui{σ:St}{H:Hp}{p:ai}{xs ys:ao V}{J its':ao ak}{n G:Nat}{f:Obj->Obj}(I:Inv X fE σ H s)(h:H p=some (.lst xs))
 (L:s.heap.get? p=some { cls:=.type "list",data:=.seq J.toArray n}) (hf:f { cls:=.type "list",data:=.seq J.toArray n}={ cls:=.type "list",data:=.seq its'.toArray G}) (r:gG ys its') (hz:ys.length<=sizeLine) (t:Nat):
 Inv X fE σ (upd H p (.lst ys)) {s with heap:=s.heap.update p f,toks:=t}:=by
 have e:(s.heap.update p f).get? p=some { cls:=.type "list",data:=.seq its'.toArray G}:=by rw[bz f L (by rw[hf]<;> rfl),hf]
 refine I.write (x:=p) (e:=p) (by rw[h];trivial) (.inl rfl) (λb u hb q=>(aQ _ _ (bj hb)).trans q) ⟨_,e⟩ ?_;exact⟨hz,its',G,r,e⟩
def Wy:V->V->V->Hp->(Hp->Prop)->Prop:=λo i v H Q=>∃ p xs k j,o=.ref p/\i=.int k/\H p=some (.lst xs)/\Dm xs.length k=some j/\Q (upd H p (.lst (xs.set j v)))
def set_list:Rb X Wy:=by
 intro fE s σ H o i v ov iv u Q I ro ri rv h;obtain⟨p,xs,k,j,rfl,rfl,J,hj,q⟩:=h;cases ro;obtain⟨t,rfl⟩:=ri;obtain⟨Y,n,r,G,hz⟩:=I.lst J;obtain⟨h1,h2,O,L⟩:=G3 hj;have hl:=r.length;have hn:=qv;have Z:Inv X fE σ (upd H p (.lst (xs.set j v))) { s with heap:=s.heap.update p (Obj.mapSeq (·.setIfInBounds j u))} :=
  I.Ui J G (EW Y n j u) (r.set rv j) (by rw[bL];exact hz) s.toks
 by_cases U:0<=k
 .have hk:k.toNat=j:=by rw[seqIndex_of U L]at h1;exact aN h1
  exact W.ki_setAt G U (by lia) (by rw[aD,<- hl];exact L) (by rw[hk];exact⟨_,Z,q⟩)
 .have hk:(k+(Y.toArray.size:Int)).toNat=j:=by rw[seqIndex_neg (by lia) O]at h1;rw[aD,<- hl];exact aN h1
  exact W.ki_setBack G (by lia) (by rw[aD,<- hl];exact O) (by lia) (by rw[hk];exact⟨_,Z,q⟩)
def Ao(lo hi:aq Int)(n:Nat):(sliceBounds lo hi none n).1=((HT.oM n 0 lo:Nat):Int)/\(sliceBounds lo hi none n).2.1=((HT.oM n n hi:Nat):Int)/\(sliceBounds lo hi none n).2.2=1:=by
 refine⟨?_,?_,rfl⟩
 .cases lo with
  |none=>simp[sliceBounds,HT.oM]
  | some i =>
   simp only[sliceBounds,HT.oM,Option.getD_none,show(1:Int)>0 by decide,if_true];by_cases h:i<0
   .simp only[h,if_true]<;> lia
   .simp only[h,if_false]<;> lia
 .cases hi with
  |none=>simp[sliceBounds,HT.oM]
  | some i =>
   simp only[sliceBounds,HT.oM,Option.getD_none,show(1:Int)>0 by decide,if_true];by_cases h:i<0
   .simp only[h,if_true]<;> lia
   .simp only[h,if_false]<;> lia
def yF(G:ao ak)(lo hi:aq Int):slicePick G.toArray lo hi none=((G.drop (HT.oM G.length 0 lo)).take (HT.oM G.length G.length hi - HT.oM G.length 0 lo)).toArray:=by obtain⟨h1,h2,J⟩:=Ao lo hi G.toArray.size;unfold slicePick;rw[h1,h2,J];simp only[sliceRange_one,pick_run,aD]<;> rfl
def rSlL(K:aa):V->aq Int->aq Int->Hp->VK->Prop:=λx lo hi H Q=>∃ a xs,x=.ref a/\pS K H a xs/\∀ p,H p=none->Q (.ref p) (upd H p (.lst (Fx xs lo hi)))
def OY:Zw X (rSlL X.K):=by intro fE s σ H x v Z Y lo hi sl Q I J W pl L h;obtain⟨a,xs,rfl,U,q⟩:=h;cases J;obtain⟨gp,r,ht,O⟩:=I.list U;have G:=r.length;refine⟨"list",_,slot_list_getitem.lookup,ht.isList.typeIs,?_⟩;refine wpAny_getItem_list_slice ht.isList W pl L .none (by simp) ?_ (by rw[aD]<;> lia);rw[yF,<- G];refine⟨.ref s.heap.objs.size,_,I.laid (t':=s.toks) (o:=.lst (Fx xs lo hi)) (λb ob q=>j4 _ q) (ar _) ?_,rfl,q _ (I.hG.fresh (ar _))⟩;exact⟨aX (DS xs lo hi) O,_,0,(r.drop (HT.oM xs.length 0 lo)).take (HT.oM xs.length xs.length hi - HT.oM xs.length 0 lo),aE _ rfl⟩
def l5:V->Bool
 |.iz=>true
 |.bl _=>true
 |.int _=>true
 |.str _=>true
 |_=>false
def Hx:V->V->Bool
 |.iz,.iz=>true
 |.bl a,.bl b=>a==b
 |.bl a,.int b=>(if a then 1 else 0)==b
 |.int a,.bl b=>a==(if b then 1 else 0)
 |.int a,.int b=>a==b
 |.str a,.str b=>a==b
 |_,_=>false
def Ft{A:Around}{y x:V}{u v:ak}(L:gB y u)(G:gB x v)(O:l5 y=true)(fx:l5 x=true):SeqAt.EqAt A s u v (Hx y x):=by
 cases y with
 | iz =>
  cases L;cases x with
  |iz=>cases G;exact SeqAt.EqAt.same _
  |bl b=>cases G;exact SeqAt.EqAt.none_bool b
  |int b=>obtain⟨t,rfl⟩:=G;exact SeqAt.EqAt.none_int b t
  |str b=>obtain⟨t,rfl⟩:=G;exact SeqAt.EqAt.none_str b t
  |_=>exact absurd (show false=true from fx) aK
 | bl a =>
  cases L;cases x with
  |iz=>cases G;exact SeqAt.EqAt.bool_none a
  |bl b=>cases G;exact SeqAt.EqAt.bool_bool a b
  |int b=>obtain⟨t,rfl⟩:=G;exact SeqAt.EqAt.bool_int a b t
  |str b=>obtain⟨t,rfl⟩:=G;exact SeqAt.EqAt.bool_str a b t
  |_=>exact absurd (show false=true from fx) aK
 | int a =>
  obtain⟨J,rfl⟩:=L;cases x with
  |iz=>cases G;exact SeqAt.EqAt.int_none a J
  |bl b=>cases G;exact SeqAt.EqAt.int_bool a J b
  |int b=>obtain⟨t,rfl⟩:=G;exact SeqAt.EqAt.int_int a J b t
  |str b=>obtain⟨t,rfl⟩:=G;exact SeqAt.EqAt.int_str a J b t
  |_=>exact absurd (show false=true from fx) aK
 | str a =>
  obtain⟨J,rfl⟩:=L;cases x with
  |iz=>cases G;exact SeqAt.EqAt.str_none a J
  |bl b=>cases G;exact SeqAt.EqAt.str_bool a J b
  |int b=>obtain⟨t,rfl⟩:=G;exact SeqAt.EqAt.str_int a J b t
  |str b=>obtain⟨t,rfl⟩:=G;exact SeqAt.EqAt.str_str a J b t
  |_=>exact absurd (show false=true from fx) aK
 |_=>exact absurd (show false=true from O) aK
def DF(x:V)(u:ak):Bool:=match u with
 |.none=>Hx .iz x
 |.bool b=>Hx (.bl b) x
 |.int i _=>Hx (.int i) x
 |.str z _=>Hx (.str z) x
 |_=>false
def Fs{x y:V}{u:ak}(r:gB y u)(f:l5 y=true):DF x u=Hx y x:=by
 cases y with
 |iz=>cases r;rfl
 |bl b=>cases r;rfl
 |int i=>obtain⟨t,rfl⟩:=r;rfl
 |str z=>obtain⟨t,rfl⟩:=r;rfl
 |_=>exact absurd (show false=true from f) aK
theorem uo{x:V}:∀ {xs:ao V} {us:ao ak},gG xs us->xs.all l5=true->us.any (DF x)=xs.any λy=>Hx y x
 |_,_,.nil,_=>rfl
 | y::xs,u::us,.cons r t,f=>by rw[cS,bE]at f;rw[dr,dr,Fs r f.1,uo t f.2]
theorem oR{A:Around}{s:ah}{x:V}{v:ak}(G:gB x v)(fx:l5 x=true):∀ {xs:ao V} {us:ao ak},gG xs us->xs.all l5=true->∀ u∈us,SeqAt.EqAt A s u v (DF x u)
 |_,_,.nil,_=>λu hu=>by cases hu
 | y::xs,u::us,.cons r t,f=>λJ hu=>by
  rw[cS,bE]at f;rcases List.mem_cons.mp hu with rfl|hu
  .rw[Fs r f.1];exact Ft r G f.1 fx
  .exact oR G fx t f.2 J hu
def VQ(x:V)(xs:ao V):Bool:=xs.any λy=>Hx y x
def rIn(K:aa)(neg:Bool):R2:=λx y H Q=>∃ p xs,y=.ref p/\(pS K H p xs\/FI K H p xs)/\l5 x=true/\xs.all l5=true/\Q (.bl (if neg then !VQ x xs else VQ x xs)) H
def IM:k7 X (compareOp .In) (rIn X.K false):=by
 intro fE s σ H x y v u Q I L O h;obtain⟨p,xs,rfl,G,fx,fs,q⟩:=h;cases O;rcases G with G|G
 .obtain⟨gp,r,pl,hz⟩:=I.list G;refine SeqAt.in_listAt (DF x) pl.isList (λw J=>oR L fx r fs w (by simpa using J)) ⟨.bl _,H,I,rfl,?_⟩;rw[show gp.toArray.any (DF x)=gp.any (DF x) by simp,uo r fs];exact q
 .obtain⟨gp,r,pl,hz⟩:=I.tuple G;refine SeqAt.in_tupleAt (DF x) pl (λw J=>oR L fx r fs w (by simpa using J)) ⟨.bl _,H,I,rfl,?_⟩;rw[show gp.toArray.any (DF x)=gp.any (DF x) by simp,uo r fs];exact q
def AF:k7 X (compareOp .NotIn) (rIn X.K true):=by
 intro fE s σ H x y v u Q I L O h;obtain⟨p,xs,rfl,G,fx,fs,q⟩:=h;cases O;rcases G with G|G
 .obtain⟨gp,r,pl,hz⟩:=I.list G;refine SeqAt.notIn_listAt (DF x) pl.isList (λw J=>oR L fx r fs w (by simpa using J)) ⟨.bl _,H,I,rfl,?_⟩;rw[show gp.toArray.any (DF x)=gp.any (DF x) by simp,uo r fs];exact q
 .obtain⟨gp,r,pl,hz⟩:=I.tuple G;refine SeqAt.notIn_tupleAt (DF x) pl (λw J=>oR L fx r fs w (by simpa using J)) ⟨.bl _,H,I,rfl,?_⟩;rw[show gp.toArray.any (DF x)=gp.any (DF x) by simp,uo r fs];exact q
def AE:k7 X (compareOp .NotIn) (λx y H Q=>∃ i j,x=.str i/\y=.str j/\Q (.bl (!(!(Builtin.Str.occurrences j i 0 j.length 1).isEmpty))) H):=by intro fE s σ H x y v u Q I J G h;obtain⟨i,j,rfl,rfl,q⟩:=h;obtain⟨t,rfl⟩:=J;obtain⟨L,rfl⟩:=G;exact notIn_str ⟨.bl _,H,I,rfl,q⟩
def Bs:jM X (.builtin "len") (λxs H Q=>∃ p ys,xs=[.ref p]/\(pS X.K H p ys\/FI X.K H p ys)/\Q (.int ys.length) H):=by
 intro fE s σ H xs us Q I r h;obtain⟨p,ys,rfl,J,q⟩:=h;obtain⟨u,rfl,L⟩:=vals1 r;cases L;have O:=qv;rcases J with J|J
 .obtain⟨gp,r',pl,hz⟩:=I.list J;have G:=r'.length;exact Calls.call_len_list pl.isList (by simp only[aD]<;> lia) ⟨.int ys.length,H,I.tok _,⟨s.toks+1,by rw[aD,G]⟩,q⟩
 .obtain⟨gp,r',pl,hz⟩:=I.tuple J;have G:=r'.length;exact len_tuple pl (by simp only[aD]<;> lia) ⟨.int ys.length,H,I.tok _,⟨s.toks+1,by rw[aD,G]⟩,q⟩
def Bq:jM X (.builtin "len") (λxs H Q=>∃ z,xs=[.str z]/\z.length<=sizeLine/\Q (.int z.length) H):=by intro fE s σ H xs us Q I r h;obtain⟨z,rfl,G,q⟩:=h;obtain⟨u,rfl,t,rfl⟩:=vals1 r;have J:=qv;exact len_str (by lia) ⟨.int z.length,H,I.tok _,⟨_,rfl⟩,q⟩
def jM.or{f:ak}{r J:ao V->Hp->VK->Prop}(h:jM X f r)(h':jM X f J):jM X f (λxs H Q=>r xs H Q\/J xs H Q):=by
 intro fE s σ H xs us Q I G q;rcases q with q|q
 .exact h fE s σ H xs us Q I G q
 .exact h' fE s σ H xs us Q I G q
def Bp:jM X (.type "list") (λxs H Q=>∃ p ys,xs=[.ref p]/\(pS X.K H p ys\/FI X.K H p ys)/\∀ l,H l=none->Q (.ref l) (upd H l (.lst ys))):=by
 intro fE s σ H xs us Q I r h;obtain⟨p,ys,rfl,U,q⟩:=h;obtain⟨u,rfl,rx⟩:=vals1 r;cases rx;have fin:∀(G:ao ak),gG ys G->ys.length<=sizeLine->∀(h':Heap) (L:Nat),(∀ b o',s.heap.get? b=some o'->h'.get? b=some o') ->
  h'.get? s.heap.objs.size=some { cls:=.type "list",dict:=none,data:=.seq G.toArray L,slots:=#[]}->EP X fE σ Q (.ref s.heap.objs.size) {s with heap:=h'}:=λG J O h' L kp e=>
  ⟨.ref s.heap.objs.size,_,I.laid (t':=s.toks) kp (ar _) (show jj X.prog X.w _ h' _ (.lst ys)from⟨O,G,L,J,e⟩),rfl,q _ (I.hG.fresh (ar _))⟩
 rcases U with U|U
 .obtain⟨G,J,pl,O⟩:=I.list U;have W:=J.length;obtain⟨o,Y,Z,n,hd⟩:=pl.isList;exact call_list_seq p (.inl rfl) Y Z hd (λh' L kp e=>fin G J O h' L kp e) (by simp only[aD]<;> lia)
 .obtain⟨G,J,pl,O⟩:=I.tuple U;have W:=J.length;obtain⟨o,Y,Z,n,hd⟩:=pl;exact call_list_seq p (.inr rfl) Y Z hd (λh' L kp e=>fin G J O h' L kp e) (by simp only[aD]<;> lia)
def ZJ(K:aa)(T:String)(x:V)(H:Hp):Prop:=match x with
 |.str _=>T = "str"
 |.int _=>T = "int"
 | .ref p=>(T = "list"/\∃ xs,pS K H p xs)\/(T = "tuple"/\∃ o,K.lookup p=some o/\o.cls=.type "tuple"/\o.dict=none) \/
  (T = "dict"/\((∃ fR,H p=some (.dK fR))\/∃ fR,H p=some (.dT fR)))\/(T = "set"/\∃ S n,H p=some (.set S n))
 |_=>False
def SO{σ:St}{H:Hp}{T:String}{x:V}{v:ak}(I:Inv X fE σ H s)(r:gB x v)(ty:ZJ X.K T x H):
 s.TypeIs v T/\∀ a,v=.ref a->∃ G,s.heap.get? a=some G/\G.dict=none:=by
 cases x with
 | str z =>obtain⟨t,rfl⟩:=r;cases(show T = "str" from ty);exact⟨typeIs_str s z t,λ_ e=>nomatch e⟩
 | int i =>obtain⟨t,rfl⟩:=r;cases(show T = "int" from ty);exact⟨typeIs_int s i t,λ_ e=>nomatch e⟩
 | ref p =>
  cases r;rcases ty with⟨rfl,xs,J⟩|⟨rfl,o,hk,L,hd⟩|⟨rfl,hk⟩|⟨rfl,S,n,hk⟩
  .obtain⟨gp,_,pl,_⟩:=I.list J;refine⟨pl.isList.typeIs,λa e=>?_⟩;cases e;obtain⟨o,n,e,c,hd,_⟩:=pl;exact⟨o,e,hd⟩
  .refine⟨⟨o,I.tH p o hk,L⟩,λa e=>?_⟩;cases e;exact⟨o,I.tH _ o hk,hd⟩
  .have z:∃ o,s.heap.get? p=some o/\o.ExactDict:=by
    rcases hk with⟨fR,hk⟩|⟨fR,hk⟩
    .obtain⟨_,_,_,_,o,_,_,e,ex,_⟩:=I.hG p _ hk;exact⟨o,e,ex⟩
    .obtain⟨_,_,_,_,o,_,_,e,ex,_⟩:=I.hG p _ hk;exact⟨o,e,ex⟩
   obtain⟨o,e,ex⟩:=z
   refine⟨⟨o,e,ex.1⟩,λa e2=>?_⟩
   cases e2
   exact⟨o,e,ex.2.1⟩
  .obtain⟨o,_,_,_,e,ex,_⟩:=I.hG p _ hk;refine⟨⟨o,e,ex.1⟩,λa e2=>?_⟩;cases e2;exact⟨o,e,ex.2.1⟩
 |_=>exact False.elim ty
def tBM(K:aa)(T:String)(r:V->ao V->Hp->VK->Prop)(to:TE)(t:TA):TE:=λσ H Q=>to σ H λx H1=>ZJ K T x H1/\t σ H1 λxs H2=>r x xs H2 Q
variable {o e:Expr}{es:ao Expr}{to:TE}{t:TA}{name:Str}{mL lV:Pos}{T id:String}{r:V->ao V->Hp->VK->Prop}
def WH(pa:PlainAttrs T)(slot:Slot T name id)(G:typeOf (.builtin id)=pure (.type "method_descriptor"))(hm:N9 X id r)(ho:PE X o to)(ha:PA X (e::es) t)
 (MM:attributeBase o name X.env (eval o X.env)=eval o X.env:=by rfl)
 (Qn:((backTo lV (starEach (e::es) X.env)).all (λx=>!x.1)&&(backToKw lV (keywordEach [] X.env)).all (λx=>x.1.isSome)
   && decide ((e::es).length+([]:ao Keyword).length+(if([]:ao Keyword).isEmpty then 0 else 1)<30))=true:=by rfl)
 (ME:(mL.endLine==lV.line)=true:=by rfl) (hs:starEach (e::es) X.env=(false,eval e X.env)::starEach es X.env:=by rfl) (Fe:(backTo lV (starEach es X.env)).any (·.1)=false:=by rfl):
 PE X (.Call (.Attribute o name mL) (e::es) [] lV) (tBM X.K T r to t):=by
 intro fE s σ H Q I h;refine wpAny_Call_method_late MM Qn ME rfl (iN (ho fE s σ H _ I h) λv U W=>?_);obtain⟨x,H1,L,J,ty,q1⟩:=W;obtain⟨h1,h2⟩:=SO L J ty;refine⟨T,id,pa,slot,G,h1,h2,?_⟩;have hA:=ha lV fE U σ H1 _ L q1;rw[hs]at hA ⊢
 refine Calls.callWith_builtin (by show(false||(backTo lV (starEach es X.env)).any (·.1))=false;rw[Fe]<;> rfl) (Calls.evalArgs_plain ?_);exact iN hA λus O Z=>by obtain⟨vs,H2,I2,Y,q2⟩:=Z;exact hm fE O σ H2 x vs v us Q I2 J Y q2
end
def MtM(X:Cx)(id:String)(r:V->ao V->Hp->VK->Prop):Prop :=
 ∀(fE:ao (ai×Obj)) (s:ah) (σ:St) (H:Hp) (x:V) (xs:ao V) (v:ak) (us:ao ak) (Q:VK),Inv X fE σ H s->gB x v->gG xs us->r x xs H Q ->
  wpAny (model X.prog X.w) X.A (call (.builtin id) (v::us)) (EP X fE σ Q) X.xe s
def gG.one{x:V}{us:ao ak}(h:gG [x] us):∃ u,us=[u]/\gB x u:=by
 cases h with
 |cons r t=>cases t;exact⟨_,rfl,r⟩
def gG.two{x y:V}{us:ao ak}(h:gG [x,y] us):∃ u v,us=[u,v]/\gB x u/\gB y v:=by
 cases h with
 |cons r t=>obtain⟨v,rfl,q⟩:=gG.one t;exact⟨_,v,rfl,r,q⟩
section
variable {X:Cx}{fE:ao (ai×Obj)}{σ:St}{H:Hp}{s:ah}{l b:ai}{xs ys zs:ao V}
def Inv.W5{G its':ao ak}{n:Nat}{f:Array ak->Array ak}{t':Nat}(I:Inv X fE σ H s)(J:H l=some (.lst xs))
 (e:s.heap.get? l=some { cls:=.type "list",data:=.seq G.toArray n}) (hf:f G.toArray=its'.toArray) (hv:gG ys its') (hz:ys.length<=sizeLine):
 Inv X fE σ (upd H l (.lst ys)) {s with heap:=s.heap.update l (Obj.mapSeq f),toks:=t'}:=by
 have q:=PySem.IsL.update e f;rw[hf]at q;refine I.write (x:=l) (e:=l) (by rw[J];exact trivial) (.inl rfl) (λb' u hb hu=>(aQ s.heap (Obj.mapSeq f) (bj hb)).trans hu) ⟨_,q⟩ ?_;exact⟨hz,its',_,hv,q⟩
def Inv.lnew{G:ao ak}{t':Nat}(I:Inv X fE σ H s)(J:gG ys G)(hz:ys.length<=sizeLine):
 Inv X fE σ (upd H s.heap.objs.size (.lst ys)) {s with heap:=s.heap.push { cls:=.type "list",data:=.seq G.toArray},toks:=t'}:=
 I.laid (λ_ _ q=>j4 _ q) (ar _) ⟨hz,G,0,J,aE _ rfl⟩
def Inv.fresh(I:Inv X fE σ H s):H s.heap.objs.size=none:=I.hG.fresh (ar _)
def Inv.mQ(I:Inv X fE σ H s)(J:H l=some (.lst xs)):xs.length<=sizeLine/\∃(G:ao ak) (n:Nat),gG xs G/\xs.length=G.length/\s.heap.get? l=some { cls:=.type "list",data:=.seq G.toArray n}:=by obtain⟨z,G,n,r,e⟩:=I.hG l _ J;exact⟨z,G,n,r,r.length,e⟩
def LU{n:Nat}(h:n<=sizeLine):Builtin.List.listTooLong n=false:=by unfold Builtin.List.listTooLong;exact aW (by lia)
end
section
variable {X:Cx}
def O8:V->ao V->Hp->VK->Prop:=λx vs H Q=>∃ l xs y,x=.ref l/\vs=[y]/\H l=some (.lst xs)/\xs.length<sizeLine/\Q .iz (upd H l (.lst (xs++[y])))
def IV:MtM X "list.append" O8:=by intro fE s σ H x vs v us Q I L O h;obtain⟨l,xs,y,rfl,rfl,G,W,q⟩:=h;cases L;obtain⟨u,rfl,U⟩:=O.one;obtain⟨z,J,n,r,hl,e⟩:=I.mQ G;refine call_meets F.slot_list_append ⟨_,e,rfl⟩ F.entry_list_append (F.args_list_append_2 _ _) (PySem.list_append l J.toArray n u (by rw[aD];lia)) ⟨e,?_⟩;refine⟨.iz,_,I.W5 (its':=J++[u]) G e (by simp) (r.append (.cons U .nil)) ?_,rfl,q⟩;rw[o4,bM];lia
def O7:V->ao V->Hp->VK->Prop:=λx vs H Q=>∃ l b xs zs,x=.ref l/\vs=[.ref b]/\H l=some (.lst xs)/\H b=some (.lst zs)/\xs.length+zs.length<=sizeLine/\Q .iz (upd H l (.lst (xs++zs)))
def VO:MtM X "list.extend" O7:=by
 intro fE s σ H x vs v us Q I U W h;obtain⟨l,b,xs,zs,rfl,rfl,O,hB,hz,q⟩:=h;cases U;obtain⟨u,rfl,Y⟩:=W.one;cases Y;obtain⟨z,G,n,r,hl,e⟩:=I.mQ O;obtain⟨z2,J,n2,Z,sG,e2⟩:=I.mQ hB;have L:G.toArray.size+J.toArray.size<=sizeLine:=by rw[aD,aD];lia
 have Xn:¬ (!G.toArray.isEmpty&&Builtin.List.listTooLong (G.toArray.size+J.toArray.size))=true:=by rw[LU L,fh];exact aK
 refine call_meets F.slot_list_extend ⟨_,e,rfl⟩ F.entry_list_extend (F.args_list_extend_2 _ _)
  (AutoSeq1.list_extend_list_list_0 l G.toArray n b J.toArray n2 Xn (by rw[aD];lia) (by lia)) ⟨e,e2,?_⟩
 refine⟨.iz,_,I.W5 (its':=G++J) O e (by simp) (r.append Z) ?_,rfl,q⟩;rw[o4];lia
def rCat:R2:=λx y H Q=>∃ l b xs zs,x=.ref l/\y=.ref b/\H l=some (.lst xs)/\H b=some (.lst zs)/\xs.length+zs.length<=sizeLine/\∀ p,H p=none->Q (.ref p) (upd H p (.lst (xs++zs)))
def TZ:k7 X (binaryOp .Add) rCat:=by
 intro fE s σ H x y v u Q I O L h;obtain⟨l,b,xs,zs,rfl,rfl,W,Y,hz,q⟩:=h;cases O;cases L;obtain⟨z,G,n,r,hl,e⟩:=I.mQ W;obtain⟨Z,J,n2,U,sG,e2⟩:=I.mQ Y;refine PySem.P.add_list e e2 ?_ (by rw[aD,aD];lia);have ea:G.toArray++J.toArray=(G++J).toArray:=by simp
 rw[ea];exact⟨.ref _,_,I.lnew (t':=s.toks) (r.append U) (by rw[o4];lia),rfl,q _ I.fresh⟩
end
end L2
namespace Att
open PySem PySem.W PySem.Calls PyProof.Rows
variable{h:Heap}
def vQ{P:Params}:∀(ns:ao Int) (vs:ao ak),WellAll P h vs (ns.map WData.int)->IntsAre vs ns:=by
 intro ns;induction ns with
 | nil =>intro vs w;rw[List.map_nil]at w;cases w;exact .nil
 | cons n ns G =>
  intro vs w;rw[aw]at w;cases w with
  | cons a b =>cases a;exact .cons _ _ (G _ b)
def Iw{l:OpenLaw}{n:Nat}(hn:l.most=some n){P:Params}{args:ao WData}{vals:ao ak}
 (Z:l.row.toRowW.claim.pre args=true) (U:WellAll P h vals args):
 ∃ a vs ns,vals=[Value.ref a]/\args=[WData.list (ns.map WData.int)]/\h.get? a=some { cls:=.type "list",data:=.seq vs.toArray}/\IntsAre vs ns/\ns.length<=n:=by
 have W:WShape.hasAll [] args [.list .int]=true:=(pre_splitW Z).1;have Y:l.pre.holds [] { args:=args}=true:=(pre_splitW Z).2;obtain⟨d,r,rfl,h1,h2⟩:=hasAllW_cons W;obtain rfl:=hasAllW_nil h2;obtain⟨xs,rfl,h3⟩:=hasW_list h1;obtain⟨ns,rfl⟩:=items_int h3;have G:ns.length<=n:=by
  unfold OpenLaw.pre at Y;have O:(WTm.not (.lt (.lit (.int (n:Int))) (.len (.arg 0)))).holds [] { args:=[.list (ns.map .int)]}=true:=by have O:=(holds_andW Y).1;rw[hn]at O;exact O
  have L:=condW_of O (w_not (w_lt w_lit (w_len_list (w_arg rfl))));rw[iE]at L;refine Nat.le_of_not_lt λq=>?_;have q':(n:Int)<((ns.length:Nat):Int):=by lia
  first
   |(rw[aM q']at L;exact absurd L (by decide))
   |(simp at L;lia)
 cases U with
 | cons w1 w2 =>
  cases w2;cases w1 with
  |list ho J=>exact⟨_,_,ns,rfl,rfl,ho,vQ ns _ J,G⟩
def IC(l:OpenLaw)(args:ao WData):l.row.toRowW.claim.post args (.bool true) args=true :=
 postW_of (r:=l.row.toRowW) (X:=(true==true))
  (show WShape.has [] (.bool true) .bool=true by first|rfl|decide|simp[WShape.has,WShape.arms,WShape.armsAll])
  (show(WTm.eq .res (.lit (.bool true))).value [] { args:=args,res:=some (.bool true),after:=args}=some (.bool (true==true))from w_eq_bool (w_res rfl) w_lit) rfl
def D3{l:OpenLaw}{n:Nat}{q:ae}{loose:ao Str}{XP:(Str->aq ak)->Heap->Prop}{YP:af->Heap->Prop}{d:DefRec}
 (hn:l.most=some n) (hdf:d.params.defaults=[])
 (call:∀(w:af) (s₀ J:ah) (mg mb:Str->aq ak) (W:ai) (o:Obj) (Z cd O:ak) (a:ai) (vs:ao ak) (ns:ao Int),
   Ground q loose [] XP w s₀ mg mb J.heap->YP w J.heap ->
   J.heap.get? W=some o->o.data=.func (docDef d.name d.params d.body d.scope Z cd O)->J.heap.CodeRec cd d.name->mg d.name=some (.ref W) ->
   J.heap.get? a=some { cls:=.type "list",data:=.seq vs.toArray}->IntsAre vs ns->ns.length<=n->J.gens=#[] ->
   codeAny (model l.prog w) callerA (.call (.ref W) ⟨[.ref a],[]⟩) (λr s'=>r=.ok (.ret (.bool true))/\OldK J.heap s'.heap/\s'.os=J.os/\AllBare s'.gens) J):
 WalkO q loose XP YP l.row.toRowW d [] (λf vs=>PySem.call f vs):=by
 intro w s₀ J mg mb G Y W o Z cd O dV kV ho hd Dq hD hmg hg args vals as Qk hlay hrd hwl hlo;obtain rfl:dV=.none:=Dflts.none hD hdf;obtain rfl:kV=.none:=Dflts.noKw hD;obtain⟨a,vs,ns,rfl,rfl,UN,L,U⟩:=Iw hn Qk hwl;refine enter_call (codeAny_mono (call w s₀ J mg mb W o Z cd O a vs ns G Y ho (fd_plain hd) Dq hmg UN L U hg) λr s' hq=>?_);obtain⟨rfl,h2,h3,h4⟩:=hq;exact⟨.inl ⟨.bool true,.bool true,[],rfl,λ_=>rfl,.bool true,IC l _,λ_=>⟨List.Pairwise.nil,λ_ hm=>(nomatch hm)⟩⟩,h2,h3,h4⟩
end Att
namespace L2
open PySem PySem.Spec PyProof.Rows
variable{x:Str}{f:ai}{st:Stmt}
def Ii{vs:ao ak}{ns:ao Int}(h:IntsAre vs ns):gG (ns.map V.int) vs:=by
 induction h with
 |nil=>exact .nil
 |cons n t h G=>exact .cons ⟨t,rfl⟩ G
def Vu(H:Hp):Prop:=∀ b,H b=none\/∃ o xs,H b=some (.Dv o (.lst xs))
def Mi{P:ae}{w:af}{K:aa}{mg mb:Str->aq ak}{CX:Ib}{k:Nat}{fa a:ai}{fd:ag}{sp:Sp}{G:ah}{vs:ao ak}{ns:ao Int}
 (KX:K.In G.heap) (R6:G.heap.Ns mainGlobals mg) (hb:G.heap.Ns builtinsNs mb) (hbb:∀ x:Str,x ≠ "__name__"->mb x=bootBuiltins x) (W:G.heap.NoLimit) (hg:G.gens=#[])
 (ha:G.heap.get? a=some { cls:=.type "list",data:=.seq vs.toArray}) (hi:IntsAre vs ns) (hl:ns.length<=sizeLine) (hr:jE k callerA)
 (F:∀ fF:Heap,K.In fF->fF.Ns mainGlobals mg->gD P w K mg fF CX k fa fd [x] sp) (Xv:∀(s:ah) (u:ak),BindsTo s fd ⟨[u],[]⟩ [(x,u)])
 (JU:∀ H:Hp,Vu H->pS K H a (ns.map V.int)->sp [.ref a] H (λv _=>v=.bl true) λ_ _ _=>False)
 (hCX:∀ H e s',CX [] H G (λ_ _ _=>False) e s'->False):
 codeAny (model P w) callerA (.call (.ref fa) ⟨[.ref a],[]⟩) (λr s'=>r=.ok (.ret (.bool true))/\OldK G.heap s'.heap/\s'.os=G.os/\AllBare s'.gens) G:=by
 have rv:=Ii hi;have O:=hi.length;have J:∀ H:Hp,Vu H->pS K H a (ns.map V.int)->pT P w H G.heap->(∀ b,H b≠none->b=a)->(H a≠none->K.lookup a=none) ->
  codeAny (model P w) callerA (.call (.ref fa) ⟨[.ref a],[]⟩) (λr s'=>r=.ok (.ret (.bool true))/\OldK G.heap s'.heap/\s'.os=G.os/\AllBare s'.gens) G:=by
  intro H hO hS hG hA hK;have HR:∀ {b:ai} {o:Obj},G.heap.get? b=some o->H b=none->(AY G.heap H).get? b=some o:=λe n=>MH e n;have WV:∀ {b:ai} {o:Obj} {es:Array DictEntry} {Z:Nat},G.heap.get? b=some o->o.data=.dict es Z->H b=none:=λ{b o es Z} e d=>by
   cases q:H b with
   |none=>rfl
   | some u =>have e':b=a:=hA b (by rw[q];simp);subst e';rw[ha]at e;cases e;have d':Data.seq vs.toArray _=Data.dict es Z:=d;cases d'
  have Y2:∀ {b:ai} {m:Str->aq ak},G.heap.Ns b m->(AY G.heap H).Ns b m:=λ{b m} rG=>by obtain⟨o,es,Z,e,d,r⟩:=rG;exact⟨o,es,Z,HR e (WV e d),d,r⟩
  have Y:K.In (AY G.heap H):=λb o e=>HR (KX b o e) (by
   cases q:H b with
   |none=>rfl
   | some u =>
    have e':b=a:=hA b (by rw[q];simp)
    subst e'
    rw[hK (by rw[q];simp)]at e;cases e)
  have hM:Mod K mg (AY G.heap H):=⟨Y,Y2 R6,⟨mb,Y2 hb,hbb⟩,let ⟨mc,h1,h2⟩:=W;⟨mc,Y2 h1,h2⟩⟩;have e0:vU P w K mg (AY G.heap H) callerA [] G H:=⟨rfl,hM,λb o e=>PF e,Nat.le_of_eq (Jp _ _),trivial,λb hb=>absurd (show b∈([]:ao ai)from hb) (by simp),hG,.of_eq hg⟩;refine codeAny_mono ((F _ Y (Y2 R6)).run callerA [] G H ⟨[.ref a],[]⟩ [.ref a] [.ref a] _ _ hr e0 (Xv G (.ref a)) (.cons rfl .nil) (JU H hO hS)) λr s' h=>?_;cases r with
  |error e=>exact(hCX H e s' h).elim
  | ok fl =>
   cases fl with
   |next=>exact False.elim h
   |brk=>exact False.elim h
   |cont=>exact False.elim h
   | ret u =>
    obtain⟨v,H',os,bare,un,U,r',q⟩:=h;have q':v=.bl true:=q;subst q';obtain rfl:u=Value.bool true:=r';refine⟨rfl,OldK.of_keep λb o e=>?_,os,bare⟩;cases q:H b with
    |none=>exact un.keep b o e q (by intro z;exact absurd (show b∈([]:ao ai)from z) (by simp)) (by simp)
    | some u =>
     rcases hO b with z|⟨ob,xs,z⟩
     .rw[q]at z;cases z
     .have z2:=un.tS b ob _ z;obtain⟨e1,_⟩:=hG b _ z;obtain⟨e2,_⟩:=U b _ z2;rw[e]at e1;cases e1;exact e2
 cases hk:K.lookup a with
 | some o =>have e:=KX a o hk;rw[ha]at e;cases e;refine J (λ_=>none) (λ_=>.inl rfl) (.inr ⟨_,vs.toArray,_,hk,rfl,rfl,rfl,by rw[aD,O];exact hl,by simpa using rv⟩) (λb u z=>by have L:(none:aq HO)=some u:=z;cases L) (λb z=>absurd rfl z) λz=>absurd rfl z
 | none =>
  refine J (λb=>if b=a then some (.Dv { cls:=.type "list",data:=.seq vs.toArray} (.lst (ns.map V.int)))else none) (λb=>?_) (.inl (.inr ⟨{ cls:=.type "list",data:=.seq vs.toArray},aB rfl⟩)) (λb u z=>?_) (λb z=>?_) λ_=>hk
  .by_cases hb:b=a
   .exact .inr ⟨_,_,aB hb⟩
   .exact .inl (aC hb)
  .by_cases hb:b=a
   .have L:=(aB hb).symm.trans z;cases L;subst hb;exact⟨ha,by rw[iE];exact hl,vs,_,rv,ha⟩
   .have L:=(aC hb).symm.trans z;cases L
  .by_cases hb:b=a
   .exact hb
   .exact absurd (aC hb) z
def OD{l:W.OpenLaw}{n k:Nat}{q:ae}{loose:ao Str}{XP:(Str->aq ak)->Heap->Prop}{YP:af->Heap->Prop}{d:DefRec}{K:Params->aa}{CX:af->Ib}{sp:af->Sp}
 (hn:l.most=some n) (G7:n<=sizeLine) (hdf:d.params.defaults=[]) (hr:jE k callerA)
 (hY:∀(w:af) (h:Heap),YP w h->(K w.params).In h)
 (F:∀(w:af) (mg:Str->aq ak) (U:ai) (h:Heap),(K w.params).In h->h.Ns mainGlobals mg->mg d.name=some (.ref U) ->
   ∃ fd:ag,(∀(s:ah) (u:ak),BindsTo s fd ⟨[u],[]⟩ [(x,u)]) /\
    ∀ fF:Heap,(K w.params).In fF->fF.Ns mainGlobals mg->gD l.prog w (K w.params) mg fF (CX w) k U fd [x] (sp w))
 (JU:∀(w:af) (H:Hp) (a:ai) (ns:ao Int),ns.length<=n->Vu H->pS (K w.params) H a (ns.map V.int)->sp w [.ref a] H (λv _=>v=.bl true) λ_ _ _=>False)
 (hCX:∀(w:af) (H:Hp) (s:ah) (e:ak) (s':ah),CX w [] H s (λ_ _ _=>False) e s'->False):
 W.WalkO q loose XP YP l.row.toRowW d [] (λf vs=>PySem.call f vs):=by
 refine Att.D3 hn hdf λw s₀ O mg mb U o pm cd doc a vs ns G Y ho hd Dq Z UN L J hg=>?_;have KX:=hY w _ Y;obtain⟨fd,hb,hF⟩:=F w mg U _ KX G.T.g Z;exact Mi KX G.T.g G.T.b G.T.builtins G.T.nolimit hg UN L (aX J G7) hr hF hb (λH hO hS=>JU w H a ns J hO hS) λH e s'=>hCX w H O e s'
def j7(s:Stmt):Arguments:=match s with
 |.FunctionDef _ a _ _ _ _ _ _ _ _=>a
 |_=>{ posonlyargs:=[],args:=[],vararg:=none,kwonlyargs:=[],kw_defaults:=[],kwarg:=none,defaults:=[]}
def jy(s:Stmt):ao Stmt:=match s with
 |.FunctionDef _ _ b _ _ _ _ _ _ _=>b
 |_=>[]
def fM(s:Stmt):Scope:=match s with
 |.FunctionDef _ _ _ _ _ _ sc _ _ _=>sc
 |_=>{ kind:=.function,names:=[],isGenerator:=false,isCoroutine:=false}
abbrev kO:Ib:=λ_ _ _ _ _ _=>False
abbrev E0:XK:=λ_ _ _=>False
def LC{X:Cx}:Passes kO X E0:=λ_ _ _ _ _ _ _ h=>h.elim
structure jY (K:aa)(x qual:Str)(st:Stmt)(f:ai)(fd:ag):Prop where
 ex:∃(oc:ak) (od:Option ai) (kV doc pm:ak) (an:Option ai) (jc ct:ak) (Ol:Array (Option ak)),
  fd=W.fnOf x qual (j7 st) (jy st) (fM st) .none kV doc pm an jc ct/\K.lookup f=some ⟨oc,od,.func fd,Ol⟩/\W.codeIn K jc qual=true
 kp:W.keepIn K (.ref f)=true
section
variable {P:ae}{w:af}{K:aa}{mg:Str->aq ak}{fF:Heap}
def jY.ok{qual:Str}{fd:ag}{N ps:ao Str}{k:Nat}{sp:Sp}(F:jY K x qual st f fd)(S:gb N ps (fM st))(len:∀ vs H Q E,sp vs H Q E->vs.length=ps.length)
 (J:∀(G:ak) (A:Around) (fN:ao Env) (s:ah) (H:Hp) (vs:ao V) (Q:VK) (E:XK),jE k (A.deeper (envOfC qual (fM st) s.heap.objs.size f G))->sp vs H Q E ->
   ∃ t,BG (p6 kO P w K mg fF N qual (fM st) f G A fN s H E).WT (jy st) t/\t { nx:=λ_ H'=>Q .iz H',rt:=Q} (start N vs) H):gD P w K mg fF kO (k+1) f fd ps sp:=by
 obtain⟨oc,od,kV,U,Z,an,G,ct,Ol,rfl,L,Y⟩:=F.ex
 refine Se L Y S len λA fN s H vs Q E O W=>?_
 obtain⟨t,h,q⟩:=J G A fN s H vs Q E O W
 exact⟨t,h.WT,q⟩
def jY.binds{qual:Str}{fd:ag}{ps:ao Str}(F:jY K x qual st f fd)
 (h:∀(kV G J:ak) (O:aq ai) (L ct:ak) (us:ao ak),us.length=ps.length->bindArgs (W.fnOf x qual (j7 st) (jy st) (fM st) .none kV G J O L ct) ⟨us,[]⟩=pure (ps.zip us)):Binds K fd ps []:=by
 obtain⟨Y,U,kV,G,J,O,L,ct,Ol,rfl,Z,Dq⟩:=F.ex;exact .all (h kV G J O L ct)
def UY{qual:Str}{J:ak}{od an:aq ai}{L:Array (aq ak)}{kV doc pm G ct:ak}(l:K.lookup f=some ⟨J,od,.func (W.fnOf x qual (j7 st) (jy st) (fM st) .none kV doc pm an G ct),L⟩)
 (c:W.codeIn K G qual=true) (k:W.keepIn K (.ref f)=true):jY K x qual st f (W.fnOf x qual (j7 st) (jy st) (fM st) .none kV doc pm an G ct):=⟨⟨J,od,kV,doc,pm,an,G,ct,L,rfl,l,c⟩,k⟩
end
def tK{A:Around}{k:Nat}(G:jE k A):A.units+1<cLine:=ck (Nat.add_le_add_left (by decide:1<=64) _) G.units
def iteF{A B:Prop}(h:B):if false=true then A else B:=by rw[aC aK];exact h
def iteT{A B:Prop}(h:A):if true=true then A else B:=by rw[aB rfl];exact h
def iM(H H':Hp):Prop:=∀ b o,H b=some o->H' b=some o
def iM.refl(H:Hp):iM H H:=λ_ _ h=>h
def iM.trans{H H1 H2:Hp}(a:iM H H1)(b:iM H1 H2):iM H H2:=λc o h=>b c o (a c o h)
def iM.free{H H':Hp}(e:iM H H'){l:ai}(h:H' l=Option.none):H l=Option.none:=by
 cases q:H l with
 |none=>rfl
 | some o =>rw[e l o q]at h;cases h
end L2
namespace L2
open PySem PySem.W PyProof.Rows
noncomputable abbrev Ku:=Fast.tw14082659384304107361
noncomputable abbrev y8:=Fast.tw14364793385576792824
noncomputable abbrev Kt:=Fast.tw4187177175401517315
noncomputable abbrev S00(w:af)(os:OsState):ah:=⟨boot_heap w.params,#[],boot_drawn,boot_toks,os⟩
def JJ(P:Params):((boot_heap P).isNs mainGlobals,(boot_heap P).objs.size,(boot_heap P).nsMap mainGlobals "__annotations__")=(true,11,some (.ref 6)):=by kernel_rfl
def PZ{p q:ae}{loose:ao Str}{Xt:ah->Bool}{α:Type}{L:ah->α}{O:af->α}{N M:Nat}
 (e:opening p=plainProg p.main.scope.names) (W:Nat.ble 600 N=true) (f:∀ s,fenceModules? p s=some s) (le:Nat.ble M N=true)
 (h:∀(w:af) (os:OsState),(Ku y8 p w 11 (some (.ref 6)) M (S00 w os) (topStub p)).map (λs =>
   (staticsOk (importedModules p.main.body) (boot_heap w.params) s.heap&&namesBound p s.heap&&gensDone s&&laidKept (boot_heap w.params) s.heap,Kt q loose (importedModules p.main.body) Xt true s,L s))=some (true,openGood q loose,O w)):
 LeftO p q loose Xt L O N:=λw=>by
 obtain⟨⟨Y,Z,d,k,os⟩,e1,e2⟩:=Option.map_eq_some_iff.mp (boot_open e W f w);obtain⟨rfl,rfl,rfl,rfl⟩:Y=boot_heap w.params/\Z=#[]/\d=boot_drawn/\k=boot_toks:=by simpa using e2
 have b:=JJ w.params;simp only[Prod.mk.injEq]at b;obtain⟨G,r,e3⟩:=Option.map_eq_some_iff.mp (h w os);simp only[Prod.mk.injEq]at e3;have U:topRun treeTable p w 11 (some (.ref 6)) M (S00 w os) (topStub p)=some G:=by rw[show topRun=Ku from Fast.te14082659384304107361,show treeTable=y8 from Fast.te14364793385576792824];exact r
 have J:=topRun_mono (N - M) _ _ _ _ U;rw[show M+(N - M)=N by have:=Nat.le_of_ble_eq_true le;lia]at J;have t:topFrom treeTable p w N ⟨boot_heap w.params,#[],boot_drawn,boot_toks,os⟩=some G:=by unfold topFrom;dsimp only;rw[b.1,b.2.1,b.2.2,J];show(match staticsOk (importedModules p.main.body) (boot_heap w.params) G.heap&&namesBound p G.heap&&gensDone G&&laidKept (boot_heap w.params) G.heap with|true=>_|false=>_)=_;rw[e3.1]
 unfold openEnds;rw[e1];show(topFrom treeTable p w N _).map _=_;rw[t];refine cf some (Prod.ext ?_ e3.2.2);rw[<- e3.2.1];exact congrFun (congrFun (congrFun (congrFun (congrFun (congrFun Fast.te4187177175401517315 q) loose) (importedModules p.main.body)) Xt) true) G
def ud(P:Params)(x:Str)(t:Nat)(v:ak):DictEntry:=⟨PyData.keyHash P x,.str x t,v⟩
def W4(P:Params)(nm:Str)(t:Nat)(es:ao (Str×Nat×ak)):Obj:=⟨.type "dict",none,.dict ((([("__name__",165,.str nm t),("__doc__",166,.none),("__package__",167,.none),("__loader__",168,.builtin "__main__.__loader__#opaque"),("__spec__",169,.none),("__annotations__",170,.ref 6),("__builtins__",171,.ref 4),("__file__",173,.str "/claim/cut.py" 172),("__cached__",174,.none)]:ao (Str×Nat×ak))++es).map λe=>ud P e.1 e.2.1 e.2.2).toArray (es.length+9),#[]⟩
abbrev sS(x:String):Str:=Str.ofString x
abbrev me(x:String)(t:Nat)(v:ak):Str×Nat×ak:=(Str.ofString x,t,v)
abbrev ko(a:ai)(o:Obj):ai×Obj:=(a,o)
abbrev sr(a:ai):aq (aq ak):=some (some (.ref a))
abbrev sn:aq (aq ak):=some none
def Zh(x q:Str)(s:Stmt)(pm:ak)(c:ai):Obj:=⟨.type "function",none,.func (fnOf x q (j7 s) (jy s) (fM s) .none .none .none pm none (.ref c) .none),#[]⟩
def coQ(x q:Str)(t l a O L:Nat)(v1 v2:ak)(J G:Nat):Obj:=⟨.type "code",none,.fields #[.str x t,.str q (t+1),.str "/claim/cut.py" (t+2),.int l 0,.int a 0,.int 0 0,.int 0 0,.int 3 0,.ref O,.bool true,.int 181 0,.ref L,.none,v1,v2,.ref J,.int G 0,.int l 0,.str "/claim/cut.py" (G+1)],#[]⟩
def MU{K:Frag}{x q:Str}{s:Stmt}{f c:ai}{pm:ak}(l:K.lookup f=some (Zh x q s pm c):=by kernel_rfl)(c':codeIn K (.ref c) q=true:=by kernel_rfl)(k:keepIn K (.ref f)=true:=by kernel_rfl):jY K x q s f (fnOf x q (j7 s) (jy s) (fM s) .none .none .none pm none (.ref c) .none):=UY l c' k
def QY{α:Type}{P:ao α->Prop}(h:∀ a,P [a])(us:ao α)(e:us.length=1):P us:=by obtain⟨a,rfl⟩:=List.length_eq_one_iff.mp e;exact h a
def Ei{α:Type}{P:ao α->Prop}{n:Nat}(h:∀ a us,us.length=n->P (a::us))(us:ao α)(e:us.length=n+1):P us:=by
 cases us with
 |nil=>cases e
 |cons a us=>exact h a us (Nat.succ.inj e)
def QP(s:Stmt):ao Stmt:=match s with
 |.ClassDef _ _ _ b _ _ _ _ _ _ _=>b
 |_=>[]
def U6(s:Stmt):Pos:=match s with
 |.FunctionDef _ _ _ _ _ _ _ _ _ p=>p
 |_=>⟨0,0,0,0⟩
end L2
namespace L2
open PySem PySem.Spec PyProof.Rows
variable{x:Str}{pos:Pos}{h:Heap}{R:Result->ah->Prop}{js:ao (aq Nat)}{env:Env}{sc scope:Scope}
def lP(cells:ao (Str×ai)):ao (Str×NameKind)->ao (Str×ai)->ao (Str×ai)
 |[],acc=>acc
 |(n,k)::r,acc=>if k==.free then lP cells r ((n,(cells.lookup n).getD 0)::acc)else lP cells r acc
theorem sm{env:Env}(f:Str×NameKind->ao (Str×ai)->Sem (ForInStep (ao (Str×ai))))
 (hf:∀ n k cs,f (n,k) cs=if k==.free then(do let a <- cellOf env n;pure (.yield ((n,a)::cs)))else pure (.yield cs)):
 ∀(G:ao (Str×NameKind)) (acc:ao (Str×ai)),(∀ y∈G,y.2=.free->∃ c,env.cells.lookup y.1=some c) ->
  forIn G acc f=pure (lP env.cells G acc)
 |[],acc,_=>by rw[dQ];rfl
 | (n,k)::r,acc,h=>by
  rw[bF,hf];unfold lP;have L:∀ y∈r,y.2=.free->∃ c,env.cells.lookup y.1=some c:=λy O=>h y (nM _ O);by_cases hk:(k==NameKind.free)=true
  .rw[aB hk,aB hk];obtain⟨c,U⟩:=h (n,k) aF (by simpa using hk);have J:env.cells.lookup n=some c:=U;have e:cellOf env n=pure c:=by unfold cellOf;rw[J]
   rw[e,J,pure_bind,pure_bind];exact sm f hf r _ L
  .rw[aC hk,aC hk,pure_bind];exact sm f hf r _ L
def mB(h:∀ y∈scope.names,y.2=.free->∃ c,env.cells.lookup y.1=some c):closureFor scope env=pure (lP env.cells scope.names []):=by
 simp only[closureFor];rw[sm (env:=env) _ (λn k cs=>by
  by_cases hk:(k==NameKind.free)=true
  .simp only[hk,if_true]
  .simp only[Bool.not_eq_true]at hk;simp only[hk,dF,if_false]) scope.names [] h]
 rfl
theorem pO{cells:ao (Str×ai)}:∀ {G:ao (Str×NameKind)} {acc:ao (Str×ai)},(∀ y∈G,y.2=.free->∃ c,cells.lookup y.1=some c) ->
 ∀ n c,(n,c)∈lP cells G acc->(n,c)∈acc\/cells.lookup n=some c
 |[],acc,_,n,c,h=>.inl h
 | (m,k)::r,acc,hf,n,c,h=>by
  unfold lP at h;have J:∀ y∈r,y.2=.free->∃ c,cells.lookup y.1=some c:=λy O=>hf y (nM _ O);split at h
  .rename_i hk;rcases pO J n c h with h|h
   .rcases List.mem_cons.mp h with e | h
    .cases e;obtain⟨c,U⟩:=hf (m,k) aF (by simpa using hk);have L:cells.lookup m=some c:=U;exact .inr (by rw[L];rfl)
    .exact .inl h
   .exact .inr h
  .exact pO J n c h
theorem sq{cells:ao (Str×ai)}:∀(G:ao (Str×NameKind)) (acc:ao (Str×ai)) (n:Str),(acc.lookup n).isSome=true->((lP cells G acc).lookup n).isSome=true
 |[],acc,n,h=>h
 | (m,k)::r,acc,n,h=>by
  unfold lP;split
  .refine sq r _ n ?_;rw[dX];cases n==m
   .exact h
   .rfl
  .exact sq r _ n h
theorem pP{cells:ao (Str×ai)}:∀(G:ao (Str×NameKind)) (acc:ao (Str×ai)) (n:Str),(n,NameKind.free)∈G->((lP cells G acc).lookup n).isSome=true
 | (m,k)::r,acc,n,h=>by
  unfold lP;rcases List.mem_cons.mp h with e|h
  .cases e;refine sq r _ m ?_;simp
  .split
   .exact pP r _ n h
   .exact pP r _ n h
theorem mD:∀(G:ao (Str×NameKind)) (n:Nat) (a b:ao (Str×ai)),cellsFrom n G (a++b)=cellsFrom n G a++b
 |[],_,_,_=>rfl
 | (m,k)::r,n,a,b=>by
  unfold cellsFrom;split
  .exact mD r (n+1) ((m,n)::a) b
  .exact mD r n a b
def nY{M:Model}{A:Around}{E:ak->ah->Prop}{s:ah}{cl:ao (Str×ai)}{Q:Env->ah->Prop}
 (h:Q (newEnv scope s.heap.objs.size env.globals (cellsFrom (s.heap.objs.size+1) scope.names cl) env.qual none .none (some env) builtinsNs) {s with heap:=pushCells (s.heap.push { cls:=.type "dict",data:=.dict #[]}) scope.names}):
 wpAny M A (newFunctionEnv scope env.globals cl [] env.qual none .none (some env)) Q E s:=by
 simp only[newFunctionEnv,Option.isSome_some,if_true];refine fV (wpAny_alloc ?_);refine fV (wpAny_layCells _ (λname kind G=>by cases J:kind==NameKind.cell<;>simp[J]) _ _ _ _ ?_);rw[show({s with heap:=s.heap.push { cls:=.type "dict",data:=.dict #[]}}:ah).heap.objs.size=s.heap.objs.size+1 from bg ..];rw[dQ];exact fV (au (au h))
def iq(js:ao (aq Nat))(σ:St):St:=js.map λo=>o.bind λj=>(σ[j]?).join
def wO(XN:ao Str)(xsc:Scope)(N:ao Str)(js:ao (aq Nat))(sc:Scope):Bool :=
 (sc.kind==.function)&&(sc.names.all λy=>(y.2 != .local)||(sc.names.lookup y.1==some .local)) &&
 (sc.names.all λy=>(y.2 != .free)||(xsc.names.lookup y.1==some .cell)||(xsc.names.lookup y.1==some .free)) &&
 (js.length==N.length)&&decide N.Nodup &&
 ((N.zip js).all λp=>match p.2 with
   |none=>true
   |some j=>XN[j]?==some p.1&&sc.names.contains (p.1,NameKind.free)&&sc.names.lookup p.1==some .free&&!(sc.names.contains (p.1,NameKind.cell)))
structure jU (X:Cx)(N:List Str)(js:List (Option Nat))(sc:Scope):Prop where
 kind:sc.kind=.function
 loc:∀ y∈sc.names,y.2=.local->sc.names.lookup y.1=some .local
 free:∀ y∈sc.names,y.2=.free->X.env.kindOf y.1=some .cell\/X.env.kindOf y.1=some .free
 len:js.length=N.length
 nd:N.Nodup
 slot:∀(i:Nat) (x:Str) (j:Nat),N[i]?=some x->js[i]?=some (some j)->X.N[j]?=some x/\(x,NameKind.free)∈sc.names/\sc.names.lookup x=some .free/\(x,NameKind.cell)∉sc.names
def Fy{X:Cx}{XN:ao Str}{xsc:Scope}{N:ao Str}(h:wO XN xsc N js sc=true)(J:X.N=XN:=by rfl)(hs:X.env.scope=xsc:=by rfl):jU X N js sc:=by
 subst J;subst hs;unfold wO at h;simp only[bE,c7,Bool.or_eq_true,bne_iff_ne,beq_iff_eq,bq]at h;obtain⟨⟨⟨⟨⟨h1,h2⟩,W⟩,U⟩,O⟩,L⟩:=h;refine⟨h1,λy G e=>(h2 y G).resolve_left λz=>z e,λy G e=>?_,U,O,λi x j e1 e2=>?_⟩
 .rcases W y G with(z | z) | z
  .exact absurd e z
  .exact .inl z
  .exact .inr z
 .have hm:(x,some j)∈N.zip js:=List.mem_iff_getElem?.mpr ⟨i,by rw[List.getElem?_zip_eq_some];exact⟨e1,e2⟩⟩;have q:=L _ hm;simp only[bE,beq_iff_eq,List.contains_iff_mem,Bool.not_eq_true',List.contains_eq_mem,bq,decide_eq_false_iff_not]at q;exact⟨q.1.1.1,q.1.1.2,q.1.2,q.2⟩
theorem mC:∀(G:ao (Str×NameKind)) (n:Nat) (acc:ao (Str×ai)) (x:Str) (c:ai),(x,c)∈cellsFrom n G acc->(x,NameKind.cell)∈G\/(x,c)∈acc
 |[],_,_,_,_,h=>.inr h
 | (m,k)::r,n,acc,x,c,h=>by
  unfold cellsFrom at h;split at h
  .rename_i hk;rcases mC r _ _ x c h with h|h
   .exact .inl (nM _ h)
   .rcases List.mem_cons.mp h with e | h
    .cases e;have J:k=NameKind.cell:=by simpa using hk
     exact .inl (by rw[J];exact aF)
    .exact .inr h
  .rcases mC r _ _ x c h with h | h
   .exact .inl (nM _ h)
   .exact .inr h
theorem vt{α β:Type}(g:Str->α->β):∀(l:ao (Str×α)) (x:Str),(l.map λp=>(p.1,g p.1 p.2)).lookup x=(l.lookup x).map (g x)
 |[],_=>rfl
 | (n,k)::r,x=>by
  rw[aw,dX,dX];cases hb:x==n with
  |true=>rw[beq_iff_eq.mp hb];rfl
  |false=>exact vt g r x
def uG(env:Env)(x:Str)(k:NameKind):NameKind:=if(k==.free&&env.scope.kind==.function&&env.kindOf x==some .cell)then .cell else k
def lL:(relabel sc env).names.lookup x=(sc.names.lookup x).map (uG env x):=by rw[<- vt];unfold relabel;congr 1;refine bW λp _=>?_;obtain⟨n,k⟩:=p;show(if _ then _ else _)=(n,uG env n k);unfold uG;split<;>rfl
def Cu{k:NameKind}(h:uG env x k=.cell\/uG env x k=.free):k=.cell\/k=.free:=by
 unfold uG at h;split at h
 .rename_i q;simp only[bE,beq_iff_eq]at q;exact .inr q.1.1
 .exact h
def zh:uG env x .free=.cell\/uG env x .free=.free:=by
 unfold uG;split
 .exact .inl rfl
 .exact .inr rfl
def nN(sc:Scope)(C:ai)(env:Env):Env where
 scope:=relabel sc env
 locals:=C
 globals:=env.globals
 cells:=cellsFrom (C+1) sc.names (lP env.cells sc.names [])
 qual:=env.qual
 func:=none
 code:=env.code
 frame:=env.frame
 builtins:=env.builtins
def m7(X:Cx)(N:ao Str)(sc:Scope)(fp:ao ai)(s:ah)(H:Hp):Cx where
 prog:=X.prog
 w:=X.w
 K:=X.K
 mg:=X.mg
 fF:=X.fF
 A:=X.A
 N:=N
 s₀:=s
 H₀:=H
 env:=nN sc (s.heap.objs.size+1) X.env
 fN:=X.stack
 stack:=X.stack
 ex:=fp
 fn:=λx=>sc.names.lookup x==some .cell
 gY:=X.gY
 pn:=[]
 xe:=λ_ _=>False
def tN(sc:Scope)(h:Heap):Heap:=pushCells ((h.push { cls:=.type "list",dict:=none,data:=.seq ([]:ao ak).toArray}).push { cls:=.type "dict",data:=.dict #[]}) sc.names
def vB:∀ b o,h.get? b=some o->(tN sc h).get? b=some o:=λb o e=>eF _ _ b o (j4 _ (j4 _ e))
def Jq:(tN sc h).get? h.objs.size=some { cls:=.type "list",dict:=none,data:=.seq ([]:ao ak).toArray} :=
 eF _ _ _ _ (j4 _ (aE _ rfl))
def xP{σ:St}{i:Nat}{v:V}(h:(iq js σ)[i]?=some (some v)):∃ j,js[i]?=some (some j)/\σ[j]?=some (some v):=by
 unfold iq at h;rw[oC]at h;cases e:js[i]? with
 |none=>rw[e]at h;cases h
 | some o =>
  rw[e]at h;cases o with
  |none=>cases h
  | some j =>
   refine⟨j,rfl,?_⟩;have h':(σ[j]?).join=some v:=aN h;cases q:σ[j]? with
   |none=>rw[q]at h';cases h'
   |some z=>rw[q]at h';have:z=some v:=h';rw[this]
section
variable {X:Cx}{fE:ao (ai×Obj)}{σ:St}{H:Hp}{s:ah}{N:ao Str}{js:ao (aq Nat)}{sc:Scope}{fp:ao ai}
def Mt(I:Inv X fE σ H s)(W:jU X N js sc)(hf:∀ b∈fp,mT X fE H b)(ho:∀ b∈fp,∃ o,s.heap.get? b=some o)(tk:Nat):
 Inv (m7 X N sc fp s H) [] (iq js σ) H {s with heap:=tN sc s.heap,toks:=tk}:=by
 have hC:(s.heap.push { cls:=.type "list",dict:=none,data:=.seq ([]:ao ak).toArray}).objs.size=s.heap.objs.size+1:=bg ..
 have MW:∀ y∈sc.names,y.2=.free->∃ c,X.env.cells.lookup y.1=some c:=λy hy e=>I.ok.has y.1 (W.free y hy e);have ok:=cellsFrom_ok sc.names ((s.heap.push { cls:=.type "list",dict:=none,data:=.seq ([]:ao ak).toArray}).push { cls:=.type "dict",data:=.dict #[]}) (s.heap.objs.size+1+1) [] ⟨λ_ _ hm=>(nomatch hm),List.Pairwise.nil⟩
  (by rw[bg,hC];exact ar _)
 rw[bg,hC]at ok;have eC:(nN sc (s.heap.objs.size+1) X.env).cells=cellsFrom (s.heap.objs.size+1+1) sc.names []++lP X.env.cells sc.names []:=mD sc.names _ [] _;have U:∀ x c,(nN sc (s.heap.objs.size+1) X.env).cells.lookup x=some c->(x,c)∈cellsFrom (s.heap.objs.size+1+1) sc.names []\/X.env.cells.lookup x=some c:=λx c e=>by
  rw[eC]at e;rcases List.mem_append.mp (mem_of_lookup e)with h|h
  .exact .inl h
  .rcases pO MW x c h with h | h
   .cases h
   .exact .inr h
 have big:∀(x:Str) (c:Nat),(x,c)∈cellsFrom (s.heap.objs.size+1+1) sc.names []->s.heap.objs.size+1+1<=c:=λx c h=>(ok.empty x c h).2;have G:∀(x:Str) (c:Nat),X.env.cells.lookup x=some c->c<s.heap.objs.size:=λx c h=>let ⟨_,q⟩:=I.cell x c h;q.lt
 have has:∀ x,((nN sc (s.heap.objs.size+1) X.env).kindOf x=some .cell\/(nN sc (s.heap.objs.size+1) X.env).kindOf x=some .free)->∃ c,(nN sc (s.heap.objs.size+1) X.env).cells.lookup x=some c:=λx h=>by
  have h':(relabel sc X.env).names.lookup x=some .cell\/(relabel sc X.env).names.lookup x=some .free:=h;rw[lL]at h';rw[eC,eJ];cases q:sc.names.lookup x with
  |none=>rw[q]at h';rcases h' with h'|h'<;>cases h'
  | some k =>
   rw[q]at h';have hk:=Cu (env:=X.env) (x:=x) (k:=k) (h'.elim (λz=>.inl (aN z)) λz=>.inr (aN z));rcases hk with rfl|rfl
   .obtain⟨c,O⟩:=oW (n:=s.heap.objs.size+1+1) q;exact⟨c,by rw[O];rfl⟩
   .have z:=pP (cells:=X.env.cells) sc.names [] x (mem_of_lookup q);obtain⟨c,O⟩:=Option.isSome_iff_exists.mp z;cases q2:(cellsFrom (s.heap.objs.size+1+1) sc.names []).lookup x with
    |none=>exact⟨c,by rw[O];rfl⟩
    |some d=>exact⟨d,rfl⟩
 have JT:(m7 X N sc fp s H).Ok:=by
  refine⟨I.ok.mod,W.kind,I.ok.glob,I.ok.blt,Nat.le_succ _,λx y c h1 h2=>?_,has,λx c hx h=>?_,I.ok.hd,I.ok.frames,.inl rfl,λb hb=>⟨?_,λx c h=>?_⟩,I.bs,aX I.ok.Eh I.sz,λb o e hb=>?_,λb hb hs=>?_,I.stack,I.qU⟩
  .rcases U x c h1 with L | L <;> rcases U y c h2 with J | J
   .exact name_of_addr ok.apart L J
   .exact absurd (aL (G _ _ J) (aX (aR _ 2) (big _ _ L))) (cq _)
   .exact absurd (aL (G _ _ L) (aX (aR _ 2) (big _ _ J))) (cq _)
   .exact I.ok.inj x y c L J
  .have Fd:sc.names.lookup x=some .cell:=by simpa [m7]using hx
   have h':(nN sc (s.heap.objs.size+1) X.env).cells.lookup x=some c:=h
   rw[eC,eJ]at h'
   obtain⟨c2,O⟩:=oW (n:=s.heap.objs.size+1+1) Fd
   rw[O]at h'
   have e:c2=c:=aN h'
   subst e
   exact aX (aR _ 2) (big _ _ (mem_of_lookup O))
  .obtain⟨o,e⟩:=ho b hb;exact aA (aV (jf e))
  .obtain⟨o,e⟩:=ho b hb;have l:=jf e;rcases U x c h with g|g
   .exact a8 (aL l (aX (aR _ 2) (big _ _ g)))
   .exact(hf b hb).2.2.2.2.1 x c g
  .rcases(hf b hb).2.2.2.1 with z | z
   .exact I.ok.CU b o e z
   .exact absurd (aL (jf e) (aX I.ok.Eh z)) (cq _)
  .rcases List.mem_cons.mp (I.xc b hs)with z | z
   .exact(hf b hb).2.1 z
   .exact(hf b hb).2.2.1 z
 have Y:∀ b u,s.heap.get? b=some u->(tN sc s.heap).get? b=some u:=vB;have Z:(tN sc s.heap).Ns (s.heap.objs.size+1) λ_=>none:=by have q:=(Heap.Ns.new (s.heap.push { cls:=.type "list",dict:=none,data:=.seq ([]:ao ak).toArray}) (.type "dict")).keeps (eF sc.names _);rw[hC]at q;exact q
 refine⟨JT,rfl,I.bare,Un.jk Y,⟨_,Z,λi x v e1 e2 e3=>?_⟩,λx c h=>?_,I.hG.fresh (Nat.le_succ _),λx c h=>?_,λp hp=>absurd (show p∈([]:ao (ai×Obj))from hp) (by simp),I.hG.jk Y,?_⟩
 .obtain⟨j,hj,hv⟩:=xP e2;obtain⟨L,J,g3,g4⟩:=W.slot i x j e1 hj;have kx:=W.free _ J rfl;obtain⟨m,hn,hl⟩:=I.loc;obtain⟨u,r,l⟩:=hl j x v L hv (.inr kx);refine⟨u,r,?_⟩;rcases l with⟨z,_⟩|⟨_,c,VX,vC⟩
  .have z':X.env.kindOf x=some .local:=z;rcases kx with k|k<;>(have k':X.env.kindOf x=_:=k;rw[z']at k';cases k')
  .have kY:(nN sc (s.heap.objs.size+1) X.env).kindOf x=some .cell\/(nN sc (s.heap.objs.size+1) X.env).kindOf x=some .free:=by
    show(relabel sc X.env).names.lookup x=some .cell\/(relabel sc X.env).names.lookup x=some .free;rw[lL,g3];rcases zh (env:=X.env) (x:=x)with q|q
    .exact .inl (show some (uG X.env x .free)=_ by rw[q])
    .exact .inr (show some (uG X.env x .free)=_ by rw[q])
   obtain⟨c',h'⟩:=has x kY
   refine .inr ⟨kY,c',h',?_⟩
   rcases U x c' h' with g|g
   .rcases mC _ _ _ _ _ g with z | z
    .exact absurd z g4
    .cases z
   .rw[VX]at g;cases g;exact vC.keeps Y
 .rcases U x c h with g | g
  .exact⟨_,(ok.empty x c g).1⟩
  .obtain⟨v,q⟩:=I.cell x c g;exact⟨v,q.keeps Y⟩
 .rcases U x c h with g | g
  .exact I.hG.fresh (aX (aR _ 2) (big _ _ g))
  .exact I.lZ x c g
 .show(iq js σ).length=N.length;unfold iq;rw[iE];exact W.len
end
section
variable {X:Cx}{fE:ao (ai×Obj)}{σ:St}{H:Hp}{s:ah}
def Inv.adopt{D:ai}{ys:ao V}{J:ao ak}{n:Nat}(I:Inv X fE σ H s)(G:H D=none)(hL:D≠X.env.locals)(h1:X.s₀.heap.objs.size<=D)(h2:∀ x c,X.env.cells.lookup x=some c->c≠D)(L:∀ p∈X.pn++fE,p.1≠D)
 (e:s.heap.get? D=some { cls:=.type "list",data:=.seq J.toArray n}) (r:gG ys J) (hz:ys.length<=sizeLine):Inv X fE σ (upd H D (.lst ys)) s:=by
 have ne:∀ b,b∉[D]->b≠D:=λb h z=>h (by simp[z]);refine I.step (g':=s.gens) (d':=s.drawn) (t':=s.toks) (h':=s.heap) (ch:=[D]) (λb hb=>?_) (λb o _ _ _ q _=>q) (λb o _ _ _ q _=>⟨o.slots,q⟩) (λb o hb q z=>by rw[gr (ne b hb)];exact z) (λb o _ q=>⟨o,q⟩)
  (λb xs q=>by rw[gr (gJ q G)];exact q) (λb o u q=>by rw[gr (gJ q G)];exact q) (λb ps q=>⟨#[],by rw[gr (gJ q G),q];simp⟩) (λm q=>q) (λb u q=>?_) I.bare
 .have z:b=D:=by simpa using hb
  subst z
  exact⟨.inr h1,hL,h2,L⟩
 .by_cases hb:b=D
  .subst hb;rw[gc]at q;cases q;exact⟨hz,J,n,r,e⟩
  .rw[gr hb]at q;exact(I.hG b u q).xf (λc v _ z=>z) (λc z=>by rw[gr (gJ z G)];exact z) λc xs z=>by rw[gr (gJ z G)];exact z
def JZ(X:Cx)(ifs:ao Expr)(t:TT):Prop :=
 ∀(fE:ao (ai×Obj)) (s:ah) (σ:St) (H:Hp) (Q:Bool->Hp->Prop),Inv X fE σ H s->t σ H Q ->
  wpAny (model X.prog X.w) X.A (forIn ifs true λc r=>if r=true then do let ok <- isTrue c X.env (eval c X.env);pure (ForInStep.yield ok)else pure (ForInStep.yield r)) (TP X fE σ Q) X.xe s
def ZL:TT:=λ_ H Q=>Q true H
def GH:JZ X [] ZL:=λ_ _ _ H _ I h=>wpAny_tests_nil ⟨H,I,h⟩
def Pa{c:Expr}{t:TT}(h:PT X c t):JZ X [c] t:=λfE s σ H Q I q=>wpAny_tests_one (h fE s σ H Q I q)
def Ext(σ G:St):Prop:=σ.length=G.length/\∀(i:Nat) v,σ[i]?=some (some v)->G[i]?=some (some v)
def Ext.WJ{v u:aq V}{r:St}:Ext (none::none::r) (v::u::r):=⟨rfl,λi z h=>by
 match i,h with
 |0,h=>simp at h
 |1,h=>simp at h
 |i+2,h=>simpa using h⟩
def Kq(js:ao (aq Nat))(g:TG)(tt:TT)(te:TE)(J:It)(σ:St)(H1:Hp)(fin:ao V->Hp->Prop):Prop :=
 ∃ W:Nat->Nat->ao V->Hp->Prop,(∃ m,W 0 m [] H1)/\∀ i m ys H,W i m ys H ->
  (J.stop i H/\fin ys H)\/(J.go i H/\∀ x H',J.Kn i H x H'->g x (iq js σ) H' λL H2=>Ext (iq js σ) L/\tt L H2 λb O =>
    if b=true then te L O λy U=>ys.length<sizeLine/\∃ G,G<m/\W (i+1) G (ys++[y]) U else ∃ G,G<m/\W (i+1) G ys O)
def Bi{prog:ae}{w:af}{A:Around}{s:ah}{elt target iter:Expr}{ifs:ao Expr}{it acc:ak}(I:Nat->ah->Prop)
 (turn:∀ n s,I n s->wpAny (model prog w) A (pyNext it) (λr J=>match r with
   |none=>R (.ok .next) J
   | some v=>wpAny (model prog w) A (letOwnedTupleGo target it v) (λ_ Cn=>wpAny (model prog w) A (assign target env v) (λ_ U =>
    wpAny (model prog w) A (forIn ifs true λc r=>if r=true then do let ok <- isTrue c env (eval c env);pure (ForInStep.yield ok)else pure (ForInStep.yield r)) (λok G =>
     if ok=true then wpAny (model prog w) A (eval elt env) (λx O =>
      wpAny (model prog w) A (call (.builtin "list.append") [acc,x]) (λ_ L=>∃ m,m<n/\I m L) (λ_ _=>False) O) (λ_ _=>False) G
     else ∃ m,m<n/\I m G) (λ_ _=>False) U) (λ_ _=>False) Cn) (λ_ _=>False) J) (λ_ _=>False) s)
 (n:Nat) (h:I n s):
 codeAny (model prog w) A (.compLoop (.ListComp elt [⟨target,iter,ifs,0⟩] scope pos) 0 it acc env) R s:=by
 refine codeAny_loop rfl I (λn s hI=>?_) n h;show wpAny _ A ((compTurn (.ListComp elt [⟨target,iter,ifs,0⟩] scope pos) 0 it acc env).onRaise (λx=>do noteFrame x env;theTreesLotGoes x)) _ _ s;refine wpAny_noted ?_;rw[compTurn_list];refine fV (d9 (fV (bU (turn n s hI) (λr J Y=>?_) λ_ _ h'=>h'.elim)));cases r with
 |none=>exact au Y
 | some v =>
  refine fV (bU Y (λ_ Cn Mx=>?_) λ_ _ h'=>h'.elim);refine fV (bU Mx (λ_ U h₂=>fV (bU h₂ (λok G W=>?_) λ_ _ h'=>h'.elim)) λ_ _ h'=>h'.elim);cases ok with
  |false=>exact au ⟨rfl,W⟩
  | true =>exact fV (fV (bU W (λx O h₄=>fV (bU h₄ (λ_ L Z=>au (au ⟨rfl,Z⟩)) λ_ _ h'=>h'.elim)) λ_ _ h'=>h'.elim))
variable {N:ao Str}{js:ao (aq Nat)}{sc:Scope}{fp:ao ai}{tg elt iter:Expr}{ifs:ao Expr}{g:TG}{tt:TT}{te:TE}
def lobj(G:ao ak)(n:Nat):Obj:={ cls:=.type "list",data:=.seq G.toArray n}
def sk{J:It}{it:ai}{tn:Nat->Heap->Prop}{fin:ao V->Hp->Prop}{tk:Nat}(I:Inv X fE σ H s)(hc:jU X N js sc){CM:Cx->Prop}(gY:CM (m7 X N sc fp s H))
 (T:Turn X.prog X.w X.K tg J fp it tn CM) (st:tn 0 s.heap) (hf:∀ b∈fp,mT X fE H b)
 (hg:PG (m7 X N sc fp s H) tg g) (ht:JZ (m7 X N sc fp s H) ifs tt) (he:PE (m7 X N sc fp s H) elt te) (q:Kq js g tt te J σ H fin)
 (hR:∀ s' H' ys m,Inv X fE σ (upd H' s.heap.objs.size (.lst ys)) s'->H' s.heap.objs.size=none->fin ys H'->s'.heap.Ns (s.heap.objs.size+1) m->H' (s.heap.objs.size+1)=none->R (.ok .next) s'):
 codeAny (model X.prog X.w) X.A (.compStart (.ListComp elt [⟨tg,iter,ifs,0⟩] sc pos) 0 (.ref it) (.ref s.heap.objs.size) (nN sc (s.heap.objs.size+1) X.env)) R {s with heap:=tN sc s.heap,toks:=tk}:=by
 have VR:∀ b∈fp,∃ o,s.heap.get? b=some o:=λb hb=>let ⟨o,e,_⟩:=T.obj 0 s.heap st b hb;⟨o,e⟩
 have I0:=Mt I hc hf VR tk;have JT:=I0.ok;obtain⟨W,⟨m0,w0⟩,turn⟩:=q;have L:∀ b∈fp,b≠s.heap.objs.size:=λb hb=>let ⟨o,e⟩:=VR b hb;aA (jf e)
 have xg:∀ {G:ao ak} {k:Nat} {H':Hp},(∀ b∈fp,H' b=none)->∀ b∈fp,mT (m7 X N sc fp s H) [(s.heap.objs.size,lobj G k)] H' b:=λ{G k H'} hn b hb =>
  ⟨hn b hb,(JT.Sm b hb).1,JT.DD b hb,.inl hb,(JT.Sm b hb).2,λp O=>by
   have e:p=(s.heap.objs.size,lobj G k):=by simpa [m7]using O
   rw[e];exact(L b hb).symm⟩
 have Rv:tn 0 (tN sc s.heap):=T.keep 0 _ _ st λb _ o e=>vB b o e;have I1:Inv (m7 X N sc fp s H) [(s.heap.objs.size,lobj [] 0)] (iq js σ) H { s with heap:=tN sc s.heap,toks:=tk}:=I0.pD λp O=>by
  have e:p=(s.heap.objs.size,lobj [] 0):=by simpa using O
  subst e;refine⟨Jq,I.hG.fresh (ar _),aA (bG _),λz=>?_,λv z=>by cases z⟩;obtain⟨_,o,ho,_⟩:=JT.qE.mem z;exact cq _ (jf ho)
 have Z:codeAny (model X.prog X.w) X.A (.compLoop (.ListComp elt [⟨tg,iter,ifs,0⟩] sc pos) 0 (.ref it) (.ref s.heap.objs.size) (nN sc (s.heap.objs.size+1) X.env)) R { s with heap:=tN sc s.heap,toks:=tk}:=by
  refine Bi (λn s'=>∃ i ys G k H',Inv (m7 X N sc fp s H) [(s.heap.objs.size,lobj G k)] (iq js σ) H' s'/\tn i s'.heap/\(∀ b∈fp,H' b=none)/\gG ys G/\ys.length<=sizeLine/\W i n ys H') ?_ m0
   ⟨0,[],[],0,H,I1,Rv,λb hb=>(hf b hb).1,.nil,bA _,w0⟩
  rintro n s3 ⟨i,ys,G,k,H3,I3,Oi,Sd,rv,hz,w3⟩;have len:=rv.length;rcases turn i n ys H3 w3 with⟨stop,qf⟩|⟨go,step⟩
  .refine iN (T.done (m7 X N sc fp s H) rfl rfl rfl gY i _ s3 _ H3 _ I3 (xg Sd) Oi stop) λr s4 rF=>?_;obtain⟨hr,I4⟩:=rF;subst hr;show R (.ok .next) s4;have U:=I4.pin (s.heap.objs.size,lobj G k) (aS _ aF);obtain⟨m,R6,_⟩:=I4.loc;have IX:Inv X fE σ H3 s4:=I.zP (ch:=fp) I4.os I4.fF I4.hG I4.bare λb hb=>by obtain⟨f0,f1,f2,f3,f4,f5⟩:=hf b hb;exact⟨f3,f1,f4,f5⟩
   have neD:∀(b:ai) (o:Obj),s.heap.get? b=some o->b≠s.heap.objs.size:=λb o e=>aA (jf e);refine hR s4 H3 ys m (IX.adopt U.2.1 (a8 I.lt) I.sz (λx c e=>?_) (λp O=>neD _ _ (I.pin p O).1) U.1 rv hz) U.2.1 qf R6 I4.free;obtain⟨v,q⟩:=I.cell x c e;exact aA q.lt
  .refine iN (T.item (m7 X N sc fp s H) rfl rfl rfl gY i _ s3 _ H3 _ I3 (xg Sd) Oi go) λr s4 tM=>?_;obtain⟨u,hr,h4⟩:=tM;subst hr;refine iN h4 λ_ s5 tL=>?_;obtain⟨x,H5,I5,r5,y5,KS,Xz⟩:=tL;have YD:=I5.pinned (xg Xz) (T.obj _ _ KS);refine iN (hg _ s5 _ H5 x u _ YD r5 (step x H5 y5)) λ_ s6 ⟨Of,H6,I6,⟨Nd,q6⟩⟩=>?_;refine iN (ht _ s6 Of H6 _ I6 q6) λb s7 rO=>?_;obtain⟨H7,I7,q7⟩:=rO;have back:∀ {s':ah} {H':Hp},Inv (m7 X N sc fp s H) ([(s.heap.objs.size,lobj G k)]++uJ fp s5.heap) Of H' s'->tn (i+1) s'.heap/\(∀ b∈fp,H' b=none)/\Inv (m7 X N sc fp s H) [(s.heap.objs.size,lobj G k)] (iq js σ) H' s':=λ{s' H'} I'=>by refine⟨T.keep _ _ _ KS λb hb o e=>(I'.pin (b,o) (aS _ (aS _ (ml hb e)))).1,λb hb=>?_,(I'.weak Nd.1 Nd.2).qe⟩;obtain⟨o,e,d⟩:=T.obj _ _ KS b hb;exact(I'.pin (b,o) (aS _ (aS _ (ml hb e)))).2.1
   cases b with
   | false =>
    rw[aC aK]at q7 ⊢
    obtain⟨m',hm,w7⟩:=q7;obtain⟨t7,f7,I7'⟩:=back I7;exact⟨m',hm,i+1,ys,G,k,H7,I7',t7,f7,rv,hz,w7⟩
   | true =>
    rw[aB rfl]at q7 ⊢
    refine iN (he _ s7 Of H7 _ I7 q7) λy Y rH=>?_;obtain⟨yv,H8,I8,ry,mW,m',hm,w8⟩:=rH;obtain⟨t8,f8,YC⟩:=back I8;have U:=YC.pin (s.heap.objs.size,lobj G k) (aS _ aF);have eD:Y.heap.get? s.heap.objs.size=some { cls:=.type "list",data:=.seq G.toArray k}:=U.1;refine call_meets F.slot_list_append ⟨_,eD,rfl⟩ F.entry_list_append (F.args_list_append_2 _ _) (PySem.list_append s.heap.objs.size G.toArray k y (by rw[aD];lia)) ⟨eD,?_⟩;have q:=PySem.IsL.update eD (·.push y);have XG:G.toArray.push y=(G++[y]).toArray:=by simp
    have keep:∀(b:ai) (o:Obj),b≠s.heap.objs.size->Y.heap.get? b=some o->(Y.heap.update s.heap.objs.size (Obj.mapSeq (·.push y))).get? b=some o:=λb o hb e=>(aQ Y.heap (Obj.mapSeq (·.push y)) (bj hb)).trans e;have Yj:∀ x c,(m7 X N sc fp s H).env.cells.lookup x=some c->c≠s.heap.objs.size:=λx c e z=>by obtain⟨v,o,ho,hd⟩:=YC.cell x c e;rw[z,eD]at ho;cases ho;cases hd
    have I9:Inv (m7 X N sc fp s H) [] (iq js σ) H8 { Y with heap:=Y.heap.update s.heap.objs.size (Obj.mapSeq (·.push y))} :=
     (YC.pD (pins':=[]) λp O=>absurd O (by simp)).turned (t':=Y.toks) keep U.2.1 U.2.2.1 (.inr (ar _)) Yj (λp O=>absurd (show p∈([]:ao (ai×Obj))from O) (by simp))
    rw[XG]at q;obtain⟨k',q'⟩:∃ k',(Y.heap.update s.heap.objs.size (Obj.mapSeq (·.push y))).get? s.heap.objs.size=some (lobj (G++[y]) k'):=⟨_,q⟩;refine⟨m',hm,i+1,ys++[yv],G++[y],k',H8,I9.pD λp O=>?_,T.keep _ _ _ t8 λb hb o e=>keep b o (L b hb) e,f8,rv.append (.cons ry .nil),by rw[o4,bM];lia,w8⟩;have e:p=(s.heap.objs.size,lobj (G++[y]) k'):=by simpa using O
    subst e;exact⟨q',U.2.1,U.2.2.1,U.2.2.2.1,λv z=>by cases z⟩
 exact codeAny_compStart_list Z (T.self _ 0 _ _ _ Rv Z)
def Gp(wi:TI)(js:ao (aq Nat))(g:TG)(tt:TT)(te:TE):TE:=λσ H Q=>wi σ H λJ H1=>Kq js g tt te J σ H1 λys H'=>∀ D,H' D=none->Q (.ref D) (upd H' D (.lst ys))
def GO{wi:TI}{pos:Pos}(O:jU X N js sc)(gY:X.gY=true)(hi:PI X tg iter wi)(hg:∀ fp s H,PG (m7 X N sc fp s H) tg g)(ht:∀ fp s H,JZ (m7 X N sc fp s H) ifs tt)(he:∀ fp s H,PE (m7 X N sc fp s H) elt te)
 (hs:∀ x,foldedSetIterable iter X.env x=pure x:=by intro _;rfl):PE X (.ListComp elt [⟨tg,iter,ifs,0⟩] sc pos) (Gp wi js g tt te):=by
 intro fE s σ H Q I h;rw[eval_ListComp];refine dq (use:=none) rfl hs (mB λy hy e=>I.ok.has y.1 (O.free y hy e)) O.kind O.loc (iN (hi fE s σ H _ I h) λv s1 h1=>iN h1 λR1 G h2=>?_);obtain⟨it,fp,tn,J,H2,e,L,T,JS,f2,q⟩:=h2;subst e;refine cA (nY ?_);have hC:(G.heap.push { cls:=.type "list",dict:=none,data:=.seq ([]:ao ak).toArray}).objs.size=G.heap.objs.size+1:=bg ..
 simp only[hC];refine sk (tk:=G.toks) L O gY T JS f2 (hg fp G H2) (ht fp G H2) (he fp G H2) q λs' H' ys m IX Y W Z hn=>?_;refine⟨m,Z,λh' U=>?_⟩;have BY:∀(b:ai) (o:Obj),G.heap.get? b=some o->b≠G.heap.objs.size+1:=λb o e=>aA (aV (jf e));have IY:Inv X fE σ (upd H' G.heap.objs.size (.lst ys)) { s' with heap:=h'}:=IX.turned (t':=s'.toks) (it:=G.heap.objs.size+1) (λb o hb e=>(U.2 b hb).trans e) (by rw[gr (a8 (bG _))];exact hn)
  (a8 (aV L.lt)) (.inr (Nat.le_succ_of_le L.sz)) (λx c e=>let ⟨v,z⟩:=L.cell x c e;aA (aV z.lt)) (λp hp=>BY _ _ (L.pin p hp).1)
 exact⟨.ref _,_,IY,rfl,W _ Y⟩
def EH{wi:TI}{pos' Z:Pos}{i:Nat}(O:jU X N js sc)(gY:X.gY=true)(hN:X.N.Nodup)(Fd:X.N[i]?=some x)(hx:Loc X.env.scope x)(hi:PI X tg iter wi)(hg:∀ fp s H,PG (m7 X N sc fp s H) tg g)
 (ht:∀ fp s H,JZ (m7 X N sc fp s H) ifs tt) (he:∀ fp s H,PE (m7 X N sc fp s H) elt te) (Mz:swapsWith (.ListComp elt [⟨tg,iter,ifs,0⟩] sc pos) (some (.Name x pos')) Z.line X.env=pure true:=by rfl)
 (hs:∀ x,foldedSetIterable iter X.env x=pure x:=by intro _;rfl) (hf:X.fn x=true\/X.env.scope.names.lookup x=some .local:=by first|exact .inl rfl|exact .inr rfl|assumption):
 PS X (.Assign [.Name x pos'] (.ListComp elt [⟨tg,iter,ifs,0⟩] sc pos) Z) (SX (Gp wi js g tt te) (tR i)):=by
 intro fE s σ H D I h;rw[exec_Assign_Name_used _ _ _ _ Mz];refine fV (d9 (fV ?_));show wpAny _ X.A (do let _ <- comprehension (.ListComp elt [⟨tg,iter,ifs,0⟩] sc pos) sc X.env _ (newList []) false (eval iter X.env) (some (assign (.Name x pos') X.env))) _ _ s;refine fV (bU (dq (use:=some (assign (.Name x pos') X.env)) (Q:=λ_ s'=>SP X fE D .next s') rfl hs (mB λy hy e=>I.ok.has y.1 (O.free y hy e)) O.kind O.loc
  (iN (hi fE s σ H _ I h) λv s1 h1=>iN h1 λR1 G h2=>?_)) (λ_ s' hq=>au (au hq)) λ_ _ e=>e)
 obtain⟨it,fp,tn,J,H2,e,L,T,JS,f2,q⟩:=h2;subst e;refine cA (nY ?_);have hC:(G.heap.push { cls:=.type "list",dict:=none,data:=.seq ([]:ao ak).toArray}).objs.size=G.heap.objs.size+1:=bg ..
 simp only[hC];refine sk (tk:=G.toks) L O gY T JS f2 (hg fp G H2) (ht fp G H2) (he fp G H2) q λs' H' ys m IX nD qf nC hn=>?_;have BY:∀(b:ai) (o:Obj),G.heap.get? b=some o->b≠G.heap.objs.size+1:=λb o e=>aA (aV (jf e));have W:upd H' G.heap.objs.size (.lst ys) (G.heap.objs.size+1)=none:=by rw[gr (a8 (bG _))];exact hn
 show wpAny _ X.A (assign (.Name x pos') X.env (.ref G.heap.objs.size)) _ _ s';refine wpAny_assign_Name (ze (v:=.ref G.heap.objs.size) IX hN Fd hx rfl (λVL IZ ch=>?_) hf);obtain⟨a,U,ha⟩:=ch;have Y:G.heap.objs.size+1≠a:=by
  rcases ha with z|z
  .rw[z];exact a8 (aV L.lt)
  .obtain⟨v,z⟩:=L.cell x a z;exact a8 (aV z.lt)
 refine⟨m,nC.sameBut U Y,λh' sb=>?_⟩;have IY:Inv X fE (σ.set i (some (.ref G.heap.objs.size))) (upd H' G.heap.objs.size (.lst ys)) { VL with heap:=h'}:=IZ.turned (t':=VL.toks) (it:=G.heap.objs.size+1) (λb o hb e=>(sb.2 b hb).trans e) W
  (a8 (aV L.lt)) (.inr (Nat.le_succ_of_le L.sz)) (λx c e=>let ⟨v,z⟩:=L.cell x c e;aA (aV z.lt)) (λp hp=>BY _ _ (L.pin p hp).1)
 exact⟨_,_,IY,qf _ nD⟩
end
open Builtin Builtin.Str
def lD{α:Type}(xs:ao α)(lo hi:aq Int):ao α:=(xs.drop (HT.oM xs.length 0 lo)).take (HT.oM xs.length xs.length hi - HT.oM xs.length 0 lo)
def QR(n:Nat)(lo:aq Int):(match lo with | none=>(0:Int) | some i=>max 0 (min (if i<0 then i+(n:Int)else i) (n:Int)))=((HT.oM n 0 lo:Nat):Int):=by
 cases lo with
 |none=>rfl
 |some i=>unfold HT.oM;dsimp only;split<;>lia
def QS(n:Nat)(hi:aq Int):(match hi with | none=>(n:Int) | some i=>max 0 (min (if i<0 then i+(n:Int)else i) (n:Int)))=((HT.oM n n hi:Nat):Int):=by
 cases hi with
 |none=>rfl
 |some i=>unfold HT.oM;dsimp only;split<;>lia
def pf(lo hi:aq Int)(n:Nat):strSliceIndices lo hi 1 n=sliceRange ((HT.oM n 0 lo:Nat):Int) ((HT.oM n n hi:Nat):Int) 1:=by rw[<- QR,<- QS];unfold strSliceIndices;cases lo<;>cases hi<;>rfl
def Iu(x:Str)(lo hi:aq Int):(strSliceIndices lo hi 1 x.length).filterMap (x.cps[·]?)=lD x.cps.toList lo hi:=by
 have hl:x.cps.toList.length=x.length:=by simp[Str.length]
 unfold lD;rw[hl];have ha:=HT.Ax x.length 0 (bA _) lo;have hb:=HT.Ax x.length x.length (ar _) hi;by_cases G:HT.oM x.length 0 lo<=HT.oM x.length x.length hi
 .rw[<- StrLaws.sliced_plain x G hb,pf,pf];congr 2
  .rw[HT.m4,cE ha]
  .rw[HT.m4,cE hb]
 .rw[pf];have e:HT.oM x.length x.length hi - HT.oM x.length 0 lo=0:=by lia
  rw[e,List.take_zero];unfold sliceRange;have h1:¬ (((HT.oM x.length 0 lo:Nat):Int)<((HT.oM x.length x.length hi:Nat):Int)):=by lia
  simp[h1]
def DT{α:Type}(xs:ao α)(lo hi:aq Int):(lD xs lo hi).length<=xs.length:=by unfold lD;rw[bH,bD];lia
section
variable {X:Cx}
def rSlS:V->aq Int->aq Int->Hp->VK->Prop:=λx lo hi H Q=>∃ z:Str,x=.str z/\z.length<=sizeLine/\Q (.str ⟨(lD z.cps.toList lo hi).toArray⟩) H
def Tf:Zw X rSlS:=by
 intro fE s σ H x v Y W lo hi sl Q I Z hs pl pu h;obtain⟨z,rfl,hz,q⟩:=h;obtain⟨t,rfl⟩:=Z;refine⟨"str",_,F.slot_str_getitem.lookup,typeIs_str _ _ _,?_⟩;obtain⟨l,O⟩:∃ l:aq (Int×Tok),Y=partValue l/\l.map (·.1)=lo:=by
  cases pl with
  |none=>exact⟨none,rfl,rfl⟩
  |int i t=>exact⟨some (i,t),rfl,rfl⟩
 obtain⟨u,L⟩:∃ u:aq (Int×Tok),W=partValue u/\u.map (·.1)=hi:=by
  cases pu with
  |none=>exact⟨none,rfl,rfl⟩
  |int i t=>exact⟨some (i,t),rfl,rfl⟩
 obtain⟨rfl,O⟩:=O;obtain⟨rfl,L⟩:=L;refine wpAny_getItem_str_slice (l:=l) (u:=u) (st:=none) hs rfl ?_;unfold sliceMade;have e:slicePicked z l u none=strSliceIndices lo hi 1 z.length:=by unfold slicePicked;rw[O,L];rfl
 rw[e,Iu];by_cases J:(((none:aq (Int×Tok)).map (·.1)).getD 1==1&&(strSliceIndices lo hi 1 z.length).length==z.length)=true
 .rw[aB J];refine⟨.str z,H,I,⟨_,rfl⟩,?_⟩;have G:(strSliceIndices lo hi 1 z.length).length=z.length:=by simpa using J
  have hl:z.cps.toList.length=z.length:=by simp[Str.length]
  have h3:lD z.cps.toList lo hi=z.cps.toList:=by
   rw[pf]at G;unfold sliceRange at G;have ha:=HT.Ax z.length 0 (bA _) lo;have hb:=HT.Ax z.length z.length (ar _) hi;rw[iE,tP]at G;unfold lD;rw[hl];by_cases U:((HT.oM z.length 0 lo:Nat):Int)<((HT.oM z.length z.length hi:Nat):Int)
   .simp[U]at G;have a0:HT.oM z.length 0 lo=0:=by lia
    have b0:HT.oM z.length z.length hi=z.length:=by lia
    rw[a0,b0,List.drop_zero,Nat.sub_zero,<- hl,List.take_length]
   .simp[U]at G;have z0:z.cps.toList=[]:=List.length_eq_zero_iff.mp (by lia);rw[z0];simp
  have e2:(⟨(lD z.cps.toList lo hi).toArray⟩:Str)=z:=by rw[h3]
  rw[e2]at q;exact q
 .rw[aC J];refine⟨?_,.str _,H,I.tok _,⟨_,rfl⟩,q⟩;have hl:z.cps.toList.length=z.length:=by simp[Str.length]
  have:=DT z.cps.toList lo hi;show(lD z.cps.toList lo hi).toArray.size<=sizeLine;rw[aD];lia
theorem y6:∀ {ys:ao Str} {us:ao ak},gG (ys.map V.str) us->StrsAre us ys
 |[],_,h=>by cases h;exact .nil
 | y::r,_,h=>by
  cases h with
  |cons a b=>obtain⟨t,rfl⟩:=a;exact .cons _ _ (y6 b)
theorem vE:∀(ys:ao Str) (G:Array Nat),ys.foldl (λG p=>G++(#[]:Array Nat)++p.cps) G=G++(ys.map (·.cps.toList)).flatten.toArray
 |[],G=>by simp
 | y::r,G=>by rw[cZ,vE r,aw,List.flatten_cons];apply Array.toList_inj.mp;simp
def Fb(z:Str)(hz:z.cps=#[])(ys:ao Str):Txt.join z ys=⟨(ys.map (·.cps.toList)).flatten.toArray⟩:=by
 unfold Txt.join glued;rw[hz];congr 1;cases ys with
 |nil=>rfl
 | cons y r =>show List.foldl _ y.cps r=_;rw[vE,aw,List.flatten_cons];apply Array.toList_inj.mp;simp
def rJoin(K:aa):V->ao V->Hp->VK->Prop:=λx vs H Q=>∃(z:Str) (l:ai) (ys:ao Str),x=.str z/\z.cps=#[]/\vs=[.ref l]/\pS K H l (ys.map V.str)/\(ys.map (·.length)).sum<=16777216/\Q (.str ⟨(ys.map (·.cps.toList)).flatten.toArray⟩) H
def PH:N9 X "str.join" (rJoin X.K):=by
 intro fE s σ H x vs v us Q I L O h;obtain⟨z,l,ys,rfl,G,rfl,hl,Y,q⟩:=h;obtain⟨t,rfl⟩:=L;obtain⟨u,rfl,U⟩:=O.one;cases U;obtain⟨Z,r,p,_⟩:=I.list hl;have J:z.length=0:=by unfold Str.length;rw[G];rfl
 refine join_list p.isList (ys:=ys) (by simpa using y6 r) (by rw[J];lia) λW k=>?_;rw[Fb z G];exact⟨.str _,H,I.tok _,⟨_,rfl⟩,q⟩
theorem GC(c:Nat):∀(n:Nat) (acc:Array Nat),(List.replicate n #[c]).foldl (·++·) acc=acc++(List.replicate n c).toArray
 |0,acc=>by simp
 | n+1,acc=>by rw[List.replicate_succ,cZ,GC c n,List.replicate_succ];apply Array.toList_inj.mp;simp
def mul_one(c:Nat)(n:Int):Txt.mul ⟨#[c]⟩ n=⟨(List.replicate n.toNat c).toArray⟩:=by
 unfold Txt.mul;by_cases h1:n<1
 .rw[aB h1];have e:n.toNat=0:=by lia
  rw[e];rfl
 .rw[aC h1];by_cases h2:(n==1||(⟨#[c]⟩:Str).length==0)=true
  .rw[aB h2];have e:n=1:=by simpa [Str.length]using h2
   rw[e];rfl
  .rw[aC h2];congr 1;have:=GC c n.toNat #[];rw[this];apply Array.toList_inj.mp;simp
def EJ:k7 X (binaryOp .Mult) (λx y H Q=>∃(c:Nat) (n:Int),x=.str ⟨#[c]⟩/\y=.int n /\ -1000000<=n/\n<=1000000/\Q (.str ⟨(List.replicate n.toNat c).toArray⟩) H):=by
 intro fE s σ H x y v u Q I L J h;obtain⟨c,n,rfl,rfl,h1,h2,q⟩:=h;obtain⟨t,rfl⟩:=L;obtain⟨G,rfl⟩:=J;refine SB.mul ⟨?_,λO _=>?_,λO _=>?_⟩ λG k=>?_
 .rw[aW (by lia),aW (by lia)];rfl
 .have e:((⟨#[c]⟩:Str).length:Int)=1:=rfl;rw[e];have:(1:Int)<=(2 ^ 63 - 1) / n:=(Int.le_ediv_iff_mul_le (by lia)).mpr (by lia);lia
 .have e:(⟨#[c]⟩:Str).length=1:=rfl;rw[e];unfold tooLong sizeLine;rw[aW (by lia)]
 .rw[mul_one];exact⟨.str _,H,I.tok _,⟨_,rfl⟩,q⟩
def NN:jM X (.builtin "isinstance") (λvs H Q=>∃ x T t b,vs=[x,.ty T]/\kM X.K H x t/\W.kitOne X.K t (.type T)=some b/\Q (.bl b) H):=by intro fE s σ H vs us Q I G h;obtain⟨x,T,t,b,rfl,ty,e,q⟩:=h;obtain⟨u,O,rfl,L,J⟩:=vals2 G;cases J;exact Ji I L ty e λtk=>⟨.bl b,H,I.tok tk,rfl,q⟩
end
end L2
namespace L2
open PySem PySem.Spec PyProof.Rows
open Builtin Builtin.Str
section
variable {X:Cx}
def k7.imp{f:ak->ak->Sem ak}{r G:R2}(h:k7 X f r)(hi:∀ x y H Q,G x y H Q->r x y H Q):k7 X f G:=λfE s σ H x y v u Q I L J q=>h fE s σ H x y v u Q I L J (hi x y H Q q)
def PE.imp{e:Expr}{t t':TE}(h:PE X e t)(hi:∀ σ H Q,t' σ H Q->t σ H Q):PE X e t':=λfE s σ H Q I q=>h fE s σ H Q I (hi σ H Q q)
def PT.imp{e:Expr}{t t':TT}(h:PT X e t)(hi:∀ σ H Q,t' σ H Q->t σ H Q):PT X e t':=λfE s σ H Q I q=>h fE s σ H Q I (hi σ H Q q)
def PG.imp{e:Expr}{t t':TG}(h:PG X e t)(hi:∀ v σ H Q,t' v σ H Q->t v σ H Q):PG X e t':=λfE s σ H v u Q I r q=>h fE s σ H v u Q I r (hi v σ H Q q)
def N8.imp{e:ao Expr}{t t':zY}(h:N8 X e t)(hi:∀ v σ H Q,t' v σ H Q->t v σ H Q):N8 X e t':=λfE s σ H v u Q I r q=>h fE s σ H v u Q I r (hi v σ H Q q)
def PS.imp{e:Stmt}{t t':TS}(h:PS X e t)(hi:∀ D σ H,t' D σ H->t D σ H):PS X e t':=λfE s σ H D I q=>h fE s σ H D I (hi D σ H q)
def jM.imp{f:ak}{r G:ao V->Hp->VK->Prop}(h:jM X f r)(hi:∀ vs H Q,G vs H Q->r vs H Q):jM X f G:=λfE s σ H vs us Q I J q=>h fE s σ H vs us Q I J (hi vs H Q q)
def N9.imp{id:String}{r G:V->ao V->Hp->VK->Prop}(h:N9 X id r)(hi:∀ x vs H Q,G x vs H Q->r x vs H Q):N9 X id G:=λfE s σ H x vs v us Q I L J q=>h fE s σ H x vs v us Q I L J (hi x vs H Q q)
def Yk(i:Nat):TE:=λσ H Q=>match σ[i]? with|some (some v)=>Q v H|_=>False
def lX(i:Nat){x:Str}{pos:Pos}(G:X.N[i]?=some x:=by rfl)(hv:Yq X.env.scope x:=by first | exact Or.inl rfl | exact Or.inr (Or.inl rfl) | exact Or.inr (Or.inr rfl))(hd:(x==("__debug__" : Str))=false:=by decide)
 (Dq:(x==("__classdict__" : Str))=false:=by decide):PE X (.Name x pos) (Yk i):=(Lq (i:=i) G hv hd Dq).imp λσ H Q q=>by
 unfold Yk at q;split at q
 .rename_i v e;exact⟨v,e,q⟩
 .exact q.elim
def Lk:R2:=λx y H Q=>match x,y with
 |.int i,.int j=>Q (.int (i+j)) H
 |.str i,.str j=>i.length+j.length<=sizeLine/\Q (.str (i++j)) H
 |.ref l,.ref b=>∃ xs zs,H l=some (.lst xs)/\H b=some (.lst zs)/\xs.length+zs.length<=sizeLine/\∀ p,H p=none->Q (.ref p) (upd H p (.lst (xs++zs)))
 |_,_=>False
def N5:k7 X (binaryOp .Add) Lk:=(T3.or (EK.or TZ)).imp λx y H Q q=>by
 unfold Lk at q;split at q
 .exact .inl ⟨_,_,rfl,rfl,q⟩
 .exact .inr (.inl ⟨_,_,rfl,rfl,q.1,q.2⟩)
 .obtain⟨xs,zs,a,b,c,d⟩:=q;exact .inr (.inr ⟨_,_,xs,zs,rfl,rfl,a,b,c,d⟩)
 .exact q.elim
def Tt(C:Int->Int->Prop)(g:Int->Int->V):R2:=λx y H Q=>match x,y with
 |.int i,.int j=>C i j/\Q (g i j) H
 |_,_=>False
def AA(g:Int->Int->V):R2:=λx y H Q=>match x,y with
 |.int i,.int j=>Q (g i j) H
 |_,_=>False
def k7.i2{f:ak->ak->Sem ak}{C:Int->Int->Prop}{g:Int->Int->V}(h:k7 X f (rI C g)):k7 X f (Tt C g):=h.imp λx y H Q q=>by
 unfold Tt at q;split at q
 .exact⟨_,_,rfl,rfl,q.1,q.2⟩
 .exact q.elim
def k7.Xk{f:ak->ak->Sem ak}{g:Int->Int->V}(h:k7 X f (O6 g)):k7 X f (AA g):=h.imp λx y H Q q=>by
 unfold AA at q;split at q
 .exact⟨_,_,rfl,rfl,q⟩
 .exact q.elim
def Iq:k7 X (binaryOp .Sub) (AA λi j=>.int (i - j)):=TR.Xk
def Ld:R2:=λx y H Q=>match x,y with
 |.int i,.int j=>JR i j/\Q (.int (i*j)) H
 |.str z,.int n=>∃ c:Nat,z=⟨#[c]⟩ /\ -1000000<=n/\n<=1000000/\Q (.str ⟨(List.replicate n.toNat c).toArray⟩) H
 |_,_=>False
def mulC:k7 X (binaryOp .Mult) Ld:=(TX.or EJ).imp λx y H Q q=>by
 unfold Ld at q;split at q
 .exact .inl ⟨_,_,rfl,rfl,q.1,q.2⟩
 .obtain⟨c,rfl,a,b,d⟩:=q;exact .inr ⟨c,_,rfl,rfl,a,b,d⟩
 .exact q.elim
def divC:k7 X (binaryOp .FloorDiv) (Tt YM λi j=>.int (i / j)):=Pq.i2
def CZ:k7 X (binaryOp .Mod) (Tt (λ_ j=>0<j) λi j=>.int (i%j)):=TY.i2
def powC:k7 X (binaryOp .Pow) (Tt VF λi j=>.int (i ^ j.toNat)):=TU.i2
def ltC:k7 X (compareOp .Lt) (AA λi j=>.bl (decide (i<j))):=WM.Xk
def leC:k7 X (compareOp .LtE) (AA λi j=>.bl (decide (i<=j))):=WN.Xk
def gtC:k7 X (compareOp .Gt) (AA λi j=>.bl (decide (j<i))):=WO.Xk
def geC:k7 X (compareOp .GtE) (AA λi j=>.bl (decide (j<=i))):=WQ.Xk
def Lj(neg:Bool):R2:=λx y H Q=>match x,y with
 |.int i,.int j=>Q (.bl (neg != decide (i=j))) H
 |.str i,.str j=>Q (.bl (neg != decide (i=j))) H
 |.bl i,.bl j=>Q (.bl (neg != decide (i=j))) H
 |_,_=>False
def uV{p q:Prop}[Decidable p][Decidable q](h:p↔q):decide p=decide q:=by
 by_cases G:p
 .rw[aM G,aM (h.mp G)]
 .rw[aW G,aW λz=>G (h.mpr z)]
def dI{i j:Int}:decide (V.int i=V.int j)=decide (i=j):=uV (by simp)
def dS{i j:Str}:decide (V.str i=V.str j)=decide (i=j):=uV (by simp)
def dB{i j:Bool}:decide (V.bl i=V.bl j)=decide (i=j):=uV (by simp)
def XF:k7 X (compareOp .Eq) (Lj false):=RQ.imp λx y H Q q=>by
 unfold Lj at q;split at q
 .exact⟨rfl,by rw[dI];simpa using q⟩
 .exact⟨rfl,by rw[dS];simpa using q⟩
 .exact⟨rfl,by rw[dB];simpa using q⟩
 .exact q.elim
def BY:k7 X (compareOp .NotEq) (Lj true):=WL.imp λx y H Q q=>by
 unfold Lj at q;split at q
 .exact⟨rfl,by rw[dI];simpa using q⟩
 .exact⟨rfl,by rw[dS];simpa using q⟩
 .exact⟨rfl,by rw[dB];simpa using q⟩
 .exact q.elim
def cT(t:TE):TT:=λσ H Q=>t σ H λx H1=>match x with|.bl c=>Q c H1|_=>False
end
def bK(Q:Bool->Hp->Prop):VK:=λx H1=>match x with|.bl c=>Q c H1|_=>False
section
variable {X:Cx}{a b e:Expr}{t ta tb:TE}{pos:Pos}
def cB(t:TE):TT:=λσ H Q=>t σ H (bK Q)
def nU{op:CmpOp}{r:R2}(J:k7 X (compareOp op) r)(ha:PE X a ta)(hb:PE X b tb)(hm:behindInMarks op b=false):PT X (.Compare a [op] [b] pos) (cB (We r ta tb)):=by
 intro fE s σ H Q I h;have hE:=sW (pos:=pos) J ha hb hm;refine wpAny_isTrue_Compare1 ?_ hm;refine Q0 ha hb I h λv u L x y H2 I2 U O q=>?_;refine iN (J _ L σ H2 x y v u _ I2 U O q) λc s3 Y=>?_;obtain⟨z,H3,Z,W,G⟩:=Y;cases z with
 |bl d=>cases W;exact cJ ⟨H3,Z,G⟩
 |_=>exact(show False from G).elim
def sV(h:PE X e t)(he:∀ G,isTrue e X.env G=(do let v <- G;standAt e.pos;holding [v] (truthy v)):=by intro _;rfl):PT X e (cB t):=by
 intro fE s σ H Q I O;refine isTrue_plain (iN (h fE s σ H _ I O) λv W J=>?_) (he _);obtain⟨x,H1,U,L,q1⟩:=J;cases x with
 |bl d=>cases L;exact cJ ⟨H1,U,q1⟩
 |_=>exact(show False from q1).elim
def cAnd(ta tb:TE):TE:=λσ H Q=>ta σ H λx H1=>match x with|.bl c=>if c=true then tb σ H1 Q else Q (.bl false) H1|_=>False
def cNot(ta:TE):TE:=λσ H Q=>ta σ H λx H1=>match x with|.bl c=>Q (.bl (!c)) H1|_=>False
def AD{rest:ao Expr}(ha:PE X a ta)(hb:PE X (.BoolOp .And (b::rest) pos) tb):PE X (.BoolOp .And (a::b::rest) pos) (cAnd ta tb):=by
 intro fE s σ H Q I h;refine BoolOp_and (iN (ha fE s σ H _ I h) λv J L=>?_);obtain⟨x,H1,G,O,q1⟩:=L;cases x with
 | bl c =>
  cases O;refine cJ ?_;cases c with
  |true=>exact hb fE J σ H1 Q G q1
  |false=>exact⟨.bl false,H1,G,rfl,q1⟩
 |_=>exact(show False from q1).elim
def Pm(ha:PE X a ta):PE X (.UnaryOp .Not a pos) (cNot ta):=by
 intro fE s σ H Q I h;refine UnaryOp_ (iN (ha fE s σ H _ I h) λv O G=>?_);obtain⟨x,H1,L,J,q1⟩:=G;cases x with
 |bl c=>cases J;exact not_of (cJ ⟨.bl (!c),H1,L,rfl,q1⟩)
 |_=>exact(show False from q1).elim
def opt{α:Type}(o:aq α)(k:α->Prop):Prop:=match o with|some v=>k v|none=>False
def ip{α:Type}{o:aq α}{k:α->Prop}(h:opt o k):∃ v,o=some v/\k v:=by
 cases o with
 |none=>exact h.elim
 |some v=>exact⟨v,rfl,h⟩
def Ts:R2:=λx y H Q=>match x,y with
 |.ref p,.int i=>∃ xs,(H p=some (.lst xs)\/H p=some (.tup xs))/\opt (lS xs i) λv=>Q v H
 |.str z,.int i=>z.length<=sizeLine/\opt (lS z.cps.toList i) λc=>Q (.str ⟨#[c]⟩) H
 |_,_=>False
def HW.imp{r J:R2}(h:HW X r)(hi:∀ x y H Q,J x y H Q->r x y H Q):HW X J:=λvalue G fE s σ H x y v u Q I O L q=>h value G fE s σ H x y v u Q I O L (hi x y H Q q)
def Mr:HW X Ts:=Uw.imp λx y H Q q=>by
 unfold Ts at q;split at q
 .obtain⟨xs,h,q⟩:=q;obtain⟨v,e,q⟩:=ip q;rcases h with h|h
  .exact .inl ⟨_,xs,_,v,rfl,rfl,pS.of h,e,q⟩
  .exact .inr (.inl ⟨_,xs,_,v,rfl,rfl,FI.of h,e,q⟩)
 .obtain⟨hz,q⟩:=q;obtain⟨v,e,q⟩:=ip q;exact .inr (.inr ⟨_,_,v,rfl,rfl,hz,e,q⟩)
 .exact q.elim
def Wx:V->aq Int->aq Int->Hp->VK->Prop:=λx lo hi H Q=>match x with
 |.ref p=>∃ xs,H p=some (.lst xs)/\∀ l,H l=none->Q (.ref l) (upd H l (.lst (Fx xs lo hi)))
 |.str z=>z.length<=sizeLine/\Q (.str ⟨(lD z.cps.toList lo hi).toArray⟩) H
 |_=>False
def slC:Zw X Wx:=by
 intro fE s σ H x v J G lo hi L Q I O W pl U h;unfold Wx at h;split at h
 .obtain⟨xs,h1,h2⟩:=h;exact OY fE s σ H _ v J G lo hi L Q I O W pl U ⟨_,xs,rfl,pS.of h1,h2⟩
 .exact Tf fE s σ H _ v J G lo hi L Q I O W pl U ⟨_,rfl,h.1,h.2⟩
 .cases h
def cNo:TO:=λ_ H Q=>Q none H
def Yl(t:TE):TO:=λσ H Q=>t σ H λx H1=>match x with|.int i=>Q (some i) H1|_=>False
def TC:PO X none cNo:=Pg
def Lm{te:TE}(h:PE X e te):PO X (some e) (Yl te):=by
 intro fE s σ H Q I L;rw[evalPart_some];refine iN (h fE s σ H _ I L) λu U G=>?_;obtain⟨x,H1,O,J,q1⟩:=G;cases x with
 |int i=>obtain⟨t,rfl⟩:=J;exact⟨some i,H1,O,.int i t,q1⟩
 |_=>exact(show False from q1).elim
def Lh:ao V->Hp->VK->Prop:=λvs H Q=>match vs with
 |[.ref p]=>∃ xs,(H p=some (.lst xs)\/H p=some (.tup xs))/\Q (.int xs.length) H
 |[.str z]=>z.length<=sizeLine/\Q (.int z.length) H
 |_=>False
def PY:jM X (.builtin "len") Lh:=(Bs.or Bq).imp λvs H Q q=>by
 unfold Lh at q;split at q
 .obtain⟨xs,h,q⟩:=q;rcases h with h|h
  .exact .inl ⟨_,xs,rfl,.inl (pS.of h),q⟩
  .exact .inl ⟨_,xs,rfl,.inr (FI.of h),q⟩
 .exact .inr ⟨_,rfl,q.1,q.2⟩
 .exact q.elim
def Lb:FH:=λo i v H Q=>match o,i with
 |.ref p,.int k=>∃ xs,H p=some (.lst xs)/\opt (Dm xs.length k) λj=>Q (upd H p (.lst (xs.set j v)))
 |_,_=>False
def setC:Rb X Lb:=by
 intro fE s σ H o i v O U u Q I J L G h;unfold Lb at h;split at h
 .obtain⟨xs,hx,q⟩:=h;obtain⟨j,e,q⟩:=ip q;exact set_list fE s σ H _ _ v O U u Q I J L G ⟨_,xs,_,j,rfl,rfl,hx,e,q⟩
 .cases h
def RK:V->V->Hp->VK->Prop:=λo i H Q=>match o,i with
 |.ref p,.int k=>∃ xs,H p=some (.lst xs)/\0<=k/\opt (xs[k.toNat]?) λv=>Q v H
 |_,_=>False
def getC:Yv X RK:=by
 intro fE s σ H o i Y iv Q I G J h;unfold RK at h;split at h
 .obtain⟨xs,hx,h0,q⟩:=h;obtain⟨v,e,q⟩:=ip q;cases G;obtain⟨t,rfl⟩:=J;obtain⟨z,O,n,r,hl,L⟩:=I.mQ hx;obtain⟨w,U,W⟩:=r.get e;have Z:=(kN e).1;have hn:=qv;exact wpAny_getItem_list (x:=w) (⟨_,L,rfl,n,rfl⟩:s.heap.IsList _ O.toArray) h0 (by lia) (by simpa using U) ⟨v,H,I,W,q⟩
 .cases h
def Xe(f:Int->Int->Int):Q9:=λx y H Q=>match x,y with|.int i,.int j=>Q (.int (f i j)) H|_,_=>False
def tJ:Vs X .Add (Xe λi j=>i+j):=by
 intro fE s σ H x y v u Q I J G h;unfold Xe at h;split at h
 .exact Uz fE s σ H _ _ v u Q I J G ⟨_,_,rfl,rfl,h⟩
 .cases h
def QV(n:Nat)(t:zY):TG:=λv σ H Q=>match v with|.ref a=>∃ xs,H a=some (.tup xs)/\xs.length=n/\t xs σ H Q|_=>False
def HN(t:TG)(u:zY):zY:=λvs σ H Q=>match vs with|v::r=>t v σ H λG H'=>u r G H' Q|[]=>False
def QW:zY:=λvs σ H Q=>match vs with|[]=>Q σ H|_=>False
def ic{es:ao Expr}{k:Nat}{t:zY}{n:Nat}(J:X.gY=true)(h:N8 X es t)(G:(assignEach es X.env).length=n:=by rfl)(B1:(assignEach es X.env).findIdx? (·.1)=none:=by rfl):PG X (.Tuple es k pos) (QV n t) :=
 (TJ (pos:=pos) (k:=k) J h G B1).imp λv σ H Q q=>by
  unfold QV at q;split at q
  .obtain⟨xs,a,b,c⟩:=q;exact⟨_,xs,rfl,FI.of a,b,c⟩
  .exact q.elim
def fQ{es:ao Expr}{t:TG}{u:zY}(h1:PG X e t)(h2:N8 X es u)(G:(assignEach (e::es) X.env).map (·.2)=assign e X.env::(assignEach es X.env).map (·.2):=by rfl):N8 X (e::es) (HN t u) :=
 (Lp h1 h2 G).imp λv σ H Q q=>by
  unfold HN at q;split at q
  .exact⟨_,_,rfl,q⟩
  .exact q.elim
def gH:N8 X [] QW:=Pl.imp λv σ H Q q=>by
 unfold QW at q;split at q
 .exact⟨rfl,q⟩
 .exact q.elim
def EF:V->ao V->Hp->VK->Prop:=λx vs H Q=>match x,vs with
 |.str z,[.ref l]=>z.cps=#[]/\∃ ys:ao Str,H l=some (.lst (ys.map V.str))/\(ys.map (·.length)).sum<=16777216/\Q (.str ⟨(ys.map (·.cps.toList)).flatten.toArray⟩) H
 |_,_=>False
def Mp:N9 X "str.join" EF:=PH.imp λx vs H Q q=>by
 unfold EF at q;split at q
 .obtain⟨a,ys,b,c,d⟩:=q;exact⟨_,_,ys,rfl,a,rfl,pS.of b,c,d⟩
 .exact q.elim
def RJ(K:aa):ao V->Hp->VK->Prop:=λvs H Q=>match vs with
 |[x,.ty T]=>∃ t b,kM K H x t/\W.kitOne K t (.type T)=some b/\Q (.bl b) H
 |_=>False
def sh:jM X (.builtin "isinstance") (RJ X.K):=NN.imp λvs H Q q=>by
 unfold RJ at q;split at q
 .obtain⟨t,b,h1,h2,h3⟩:=q;exact⟨_,_,t,b,rfl,h1,h2,h3⟩
 .exact q.elim
def EE(K:aa):ao V->Hp->VK->Prop:=λvs H Q=>match vs with
 |[.ref p]=>∃ ys,pS K H p ys/\∀ l,H l=none->Q (.ref l) (upd H l (.lst ys))
 |_=>False
def qu:jM X (.type "list") (EE X.K):=Bp.imp λvs H Q q=>by
 unfold EE at q;split at q
 .obtain⟨ys,h1,h2⟩:=q;exact⟨_,ys,rfl,.inl h1,h2⟩
 .exact q.elim
def RH:ao V->Hp->VK->Prop:=λvs H Q=>∃ i j,vs=[.int i,.int j]/\Q (.int (max i j)) H
def L9(G:X.gY=true):jM X (.builtin "max") RH:=(JG G).imp λvs H Q q=>by
 obtain⟨i,j,rfl,q⟩:=q;refine⟨_,_,rfl,?_⟩;have e:(if j>i then j else i)=max i j:=by split<;>lia
 rw[e];exact q
end
def kT{c A B:Prop}[Decidable c](h1:c->A)(h2:¬ c->B):if decide c=true then A else B:=by
 by_cases h:c
 .rw[aB (aM h)];exact h1 h
 .rw[aC (by simp[h])];exact h2 h
def Xb{c A B:Prop}[Decidable c](h1:¬ c->A)(h2:c->B):if(true != decide c)=true then A else B:=by
 by_cases h:c
 .rw[aC (by simp[h])];exact h2 h
 .rw[aB (by simp[h])];exact h1 h
def lY{c A B:Prop}[Decidable c](h1:c->A)(h2:¬ c->B):if(false != decide c)=true then A else B:=by
 by_cases h:c
 .rw[aB (by simp[h])];exact h1 h
 .rw[aC (by simp[h])];exact h2 h
def Qg{b:Bool}{A B:Prop}(h1:b=true->A)(h2:b=false->B):if b=true then A else B:=by
 cases b with
 |true=>exact h1 rfl
 |false=>exact h2 rfl
def CNx(n i:Nat)(Pv:Nat->ao V->Hp->Prop)(ys:ao V):VK:=λy J=>ys.length<sizeLine/\∃ G,G<n - i/\(G=n - (i+1)/\i+1<=n/\Pv (i+1) (ys++[y]) J)
def cnx{n i:Nat}{Pv:Nat->ao V->Hp->Prop}{ys:ao V}{y:V}{H:Hp}(hi:i<n)(hl:ys.length<sizeLine)(p:Pv (i+1) (ys++[y]) H):CNx n i Pv ys y H:=⟨hl,n - (i+1),by lia,rfl,hi,p⟩
def CSk(n i:Nat)(Pv:Nat->ao V->Hp->Prop)(ys:ao V)(J:Hp):Prop:=∃ G,G<n - i/\(G=n - (i+1)/\i+1<=n/\Pv (i+1) ys J)
end L2
namespace L2
open PySem PySem.Spec PyProof.Rows
structure nO (P:ae)(w:af)(K:aa)(mg:Str->Option ak)(fF:Heap)(x:Str)(k:Nat)(ps:List Str)(sp:Sp):Prop where
 ex:∃ f fd,gD P w K mg fF kO k f fd ps sp/\mg x=some (.ref f)/\W.keepIn K (.ref f)=true/\Binds K fd ps []
variable{H H':Hp}{es cs ns:ao Int}{φ ch:ao ai}{Q:ak->ah->Prop}{n i j:Nat}{fE:ao (ai×Obj)}{x:Str}{σ:St}{ps:ao Str}{w:af}{s:ah}{l:ao Nat}{pos pos' tpos:Pos}{fR:ao (ao Key×V)}{h h':Heap}{elts:ao Expr}{vs:ao V}{u:ak}{X:Cx}{R:Result->ah->Prop}{v y:V}{st:Stmt}{js:ao (aq Nat)}{env:Env}{a:Int}{xs:ao (ao Key×ai×ak)}{c:Bool}{sc:Scope}{b T0:ai}{body:ao Stmt}{op:CmpOp}{r:ao V->Hp->VK->Prop}{o:Obj}{Kf:aa}{ta:TA}{prog:ae}
def xC{p pos:Pos}{e:Expr}{es:ao Expr}{t:TA}{k:Nat}{sp:Sp}(C:nO X.prog X.w X.K X.mg X.fF x k ps sp)(J:jE k X.A)(O:Gl X x)(ha:PA X (e::es) t)
 (G:(x==("__debug__" : Str))=false:=by decide) (he:starEach (e::es) X.env=(false,eval e X.env)::starEach es X.env:=by rfl) (nK:(backTo pos (starEach es X.env)).any (·.1)=false:=by rfl):
 PE X (.Call (.Name x p) (e::es) [] pos) (Rt sp [] E0 t):=by
 obtain⟨f,fd,F,L,hk,hb⟩:=C.ex;exact AB F J O L hk hb .nil LC ha G he nK
def ZX(t u:TS):TS:=λD σ H=>∃ M:St->Hp->Prop,t { D with nx:=M} σ H/\∀ G H',M G H'->u D G H'
def Pb{rest:ao Stmt}{t u:TS}(h1:PS X st t)(h2:BG X rest u):BG X (st::rest) (ZX t u):=by
 intro fE s σ H D I h;obtain⟨M,a,b⟩:=h;refine wpAny_execs_cons (iN (h1 fE s σ H { D with nx:=M} I a) λf J q=>?_);cases f with
 | next =>obtain⟨G,H',L,q⟩:=q;exact h2 fE J G H' D L (b G H' q)
 |ret v=>exact q
 |brk=>exact q
 |cont=>exact q
def fO{α:Type}{o:aq α}{k:α->Prop}{v:α}(e:o=some v)(h:k v):opt o k:=by rw[e];exact h
def OB(b:ai)(H H':Hp):Prop:=∀ c,c≠b->H' c=H c
def OB.refl:OB b H H:=λ_ _=>rfl
def OB.upd{b:ai}{H H':Hp}{o:HO}(h:OB b H H'):OB b H (L2.upd H' b o):=λc n=>by rw[gr n];exact h c n
def pM:(0:Int)<2147483647:=by decide
def pN:(0:Int)<1000000007:=by decide
def OX(l:ao Nat):Prop:=∀ c∈l,c=111\/c=120
def OX.of(h:l.all (λc=>c==111||c==120)=true):OX l:=λc G=>by have:=List.all_eq_true.mp h c G;simpa using this
def OX.app{a b:ao Nat}(ha:OX a)(hb:OX b):OX (a++b):=λc h=>(List.mem_append.mp h).elim (ha c) (hb c)
def OX.one{c:Nat}(h:c=111\/c=120):OX [c]:=λd hd=>by rw[List.mem_singleton.mp hd];exact h
def OX.rep{c:Nat}(h:c=111\/c=120):OX (List.replicate n c):=λd hd=>by rw[(List.mem_replicate.mp hd).2];exact h
def BB{v:Int}(h0:0<=v)(h1:v<l.length):∃ c,lS l v=some c/\c∈l:=by
 have G:v.toNat<l.length:=by lia
 refine⟨l[v.toNat],?_,bI _⟩;have q:=jA (xs:=l) (j:=v.toNat) (v:=l[v.toNat]) (jo G);rwa [cz h0]at q
def pR(a b:ao Nat):((⟨a.toArray⟩:Str)++(⟨b.toArray⟩:Str))=⟨(a++b).toArray⟩:=by show(⟨a.toArray++b.toArray⟩:Str)=_;congr 1;simp
def Jc(a:ao Nat):(⟨a.toArray⟩:Str).length=a.length:=by simp[Str.length]
theorem xR:∀ l:ao Nat,((l.map λc=>(⟨#[c]⟩:Str)).map (·.cps.toList)).flatten=l
 |[]=>rfl
 |c::r=>by rw[aw,aw,List.flatten_cons,xR r];rfl
theorem zd:∀ l:ao Nat,((l.map λc=>(⟨#[c]⟩:Str)).map (·.length)).sum=l.length
 |[]=>rfl
 | c::r=>by rw[aw,aw,cu,zd r];show 1+r.length=r.length+1;lia
def Ry(K:aa):Sp:=λvs H Q _=>∃(a:ai) (ns:ao Int),vs=[.ref a]/\pS K H a (ns.map V.int)/\ns.length<=63/\∀ H',Q (.bl true) H'
def W6(z:Str):z.length=z.cps.toList.length:=by simp[Str.length]
def V0(b:Bool):(false != b)=b:=by cases b<;>rfl
def VG(b:Bool):(true != b)=!b:=by cases b<;>rfl
def jv(K:aa)(T:String):W.kitOne K (.type T) (.type T)=some true:=by unfold W.kitOne;simp
def lj(c:Bool)(h:Heap)(it a:ai)(k:Nat):Prop:=if c=true then h.IsTupleIter it a k else h.IsListIter it a k
def lE(c:Bool)(h:Heap)(a:ai)(G:Array ak):Prop:=if c=true then h.IsTuple a G else h.IsList a G
def lj.extBut{c:Bool}{h h':Heap}{it a b:ai}{k:Nat}(x:lj c h it a k)(G:Heap.ExtBut b h h')(J:it≠b):lj c h' it a k:=by
 cases c with
 |true=>exact Heap.IsTupleIter.extBut x G J
 |false=>exact Heap.IsListIter.extBut x G J
def lE.extBut{c:Bool}{h h':Heap}{a b:ai}{J:Array ak}(x:lE c h a J)(G:Heap.ExtBut b h h')(L:a≠b):lE c h' a J:=by
 cases c with
 |true=>exact Heap.IsTuple.extBut x G L
 |false=>exact Heap.IsList.extBut x G L
def lE.lt{a:ai}{G:Array ak}(x:lE c h a G):a≠h.objs.size:=by
 cases c with
 |true=>obtain⟨o,e,_⟩:=x;exact aA (jf e)
 |false=>obtain⟨o,e,_⟩:=x;exact aA (jf e)
def lj.ex{it a:ai}{k:Nat}(x:lj c h it a k):∃ o,h.get? it=some o:=by
 cases c with
 |true=>obtain⟨o,e,_⟩:=x;exact⟨o,e⟩
 |false=>obtain⟨o,e,_⟩:=x;exact⟨o,e⟩
def lj.data{c:Bool}{h:Heap}{it a:ai}{k:Nat}(x:lj c h it a k):∃ o,h.get? it=some o/\∀ v,o.data≠.cell v:=by
 cases c with
 |true=>obtain⟨o,e,_,d⟩:=x;exact⟨o,e,λv z=>by rw[d]at z;cases z⟩
 |false=>obtain⟨o,e,_,d⟩:=x;exact⟨o,e,λv z=>by rw[d]at z;cases z⟩
def lj.at{it a:ai}{k:Nat}(x:lj c h it a k)(e:∀ o,h.get? it=some o->h'.get? it=some o):lj c h' it a k:=by
 cases c with
 |true=>obtain⟨o,q,r⟩:=x;exact⟨o,e o q,r⟩
 |false=>obtain⟨o,q,r⟩:=x;exact⟨o,e o q,r⟩
section
variable {prog:ae}{w:af}{A:Around}{E:ak->ah->Prop}{s:ah}
def ES{it t:ai}{items}{x:ak}(hit:s.heap.IsTupleIter it t i)(ht:s.heap.IsTuple t items)(L:items[i]?=some x)
 (U:∀ h',h'.IsTupleIter it t (i+1)->Heap.SameBut it s.heap h'->Q x {s with heap:=h'}):wpAny (model prog w) A (Builtin.SmallTypes.nextOf (.ref it)) Q E s:=by
 obtain⟨o,G,O,hd⟩:=id hit;obtain⟨ol,W,_,Y,J⟩:=ht;unfold Builtin.SmallTypes.nextOf;refine fV (bw (name:=Str.ofString "__next__") hit.typeIs dc (cc dc hit.typeIs F.entry_tuple_iterator_next ?_ (F.args_tuple_iterator_next_1 _)));show wpAny _ _ (field (.ref it) 0>>=_) _ _ s;refine fV (aI G hd (x:=.ref t) rfl ?_);show wpAny _ _ (if(Value.ref t==Value.none)=true then _ else _) _ _ s;rw[aC (show ¬ ((Value.ref t==Value.none)=true)from aK)];show wpAny _ _ (field (.ref it) 1>>=_) _ _ s;refine fV (aI G hd (x:=.int i 0) rfl ?_);show wpAny _ _ (seqItems? (.ref t)>>=_) _ _ s;refine fV (bc W J ?_);simp only[vD,L];refine fV (c9 G hd (by simp) (au ⟨x,rfl,au (U _ ?_ (d4 ..))⟩));exact⟨_,bz _ G (fo (eI hd _)),(Obj.cls_mapFields ..).trans O,by rw[eI hd];simp[rawInt]⟩
def IU{it t:ai}{items}{Q:ak->ah->Prop}(hh:A.handled=none)(hit:s.heap.IsTupleIter it t i)(ht:s.heap.IsTuple t items)(L:items[i]?=none)
 (O:∀ h' e,Heap.ExtBut it s.heap h'->(∃ o,h'.get? e=some o/\o.cls=.type "StopIteration")->E (.ref e) {s with heap:=h'}):wpAny (model prog w) A (Builtin.SmallTypes.nextOf (.ref it)) Q E s:=by
 obtain⟨o,G,Y,hd⟩:=id hit;obtain⟨ol,U,_,W,J⟩:=ht;unfold Builtin.SmallTypes.nextOf;refine fV (bw (name:=Str.ofString "__next__") hit.typeIs dc (cc dc hit.typeIs F.entry_tuple_iterator_next ?_ (F.args_tuple_iterator_next_1 _)));show wpAny _ _ (field (.ref it) 0>>=_) _ _ s;refine fV (aI G hd (x:=.ref t) rfl ?_);show wpAny _ _ (if(Value.ref t==Value.none)=true then _ else _) _ _ s;rw[aC (show ¬ ((Value.ref t==Value.none)=true)from aK)];show wpAny _ _ (field (.ref it) 1>>=_) _ _ s;refine fV (aI G hd (x:=.int i 0) rfl ?_);show wpAny _ _ (seqItems? (.ref t)>>=_) _ _ s;refine fV (bc U J ?_);simp only[vD,L];refine fV (dA (fV (c9 G hd (by simp) ?_)));show wpAny _ _ (newExc (.type "StopIteration") []>>=_) _ _ _;refine fV ?_;simp only[newExc,newTuple];refine fV (cA ?_ (by size_fits));refine fV (m:=firstArgMember _ _) (wpAny_of_eq (a:=Value.none) (by first|rfl|(simp only[firstArgMember];rfl)) ?_);refine cA ?_ (by size_fits);simp only[raiseNew];refine fV (wpAny_handled ?_);first|rw[show A.in1.handled=none from hh]|rw[hh]
 refine fV (au (wpAny_throw ?_));exact O _ _ (((d4 ..).extBut.push _).push _) ⟨_,aE _ rfl,rfl⟩
def i9{it l:ai}{items:Array ak}{x:ak}(hit:lj c s.heap it l i)(hl:lE c s.heap l items)(G:items[i]?=some x)
 (J:∀ h',lj c h' it l (i+1)->Heap.SameBut it s.heap h'->Q x {s with heap:=h'}):wpAny (model prog w) A (Builtin.SmallTypes.nextOf (.ref it)) Q E s:=by
 cases c with
 |true=>exact ES hit hl G J
 |false=>exact wpAny_nextOf_list_item hit hl G J
def lq{it l:ai}{items:Array ak}{Q:ak->ah->Prop}(hh:A.handled=none)(hit:lj c s.heap it l i)(hl:lE c s.heap l items)(G:items[i]?=none)
 (J:∀ h' e,Heap.ExtBut it s.heap h'->(∃ o,h'.get? e=some o/\o.cls=.type "StopIteration")->E (.ref e) {s with heap:=h'}):wpAny (model prog w) A (Builtin.SmallTypes.nextOf (.ref it)) Q E s:=by
 cases c with
 |true=>exact IU hh hit hl G J
 |false=>exact wpAny_nextOf_list_end hh hit hl G J
structure ZS (c:Bool)(z TI TO i1 i2 l1 l2:ai)(f a b:ak)(k1 k2:Nat)(xs ys:Array ak)(h:Heap):Prop where
 z:IsZip h z TI TO f
 ti:IsPair h TI (.ref i1) (.ref i2)
 to:IsPair h TO a b
 n1:lj c h i1 l1 k1
 n2:lj c h i2 l2 k2
 q1:lE c h l1 xs
 q2:lE c h l2 ys
def ZK(z TO i1 i2:ai)(h h':Heap):Prop:=∀ d o,d≠z->d≠TO->d≠i1->d≠i2->h.get? d=some o->h'.get? d=some o
def ZK.trans{z TO i1 i2:ai}{h1 h2:Heap}(a:ZK z TO i1 i2 h h1)(b:ZK z TO i1 i2 h1 h2):ZK z TO i1 i2 h h2:=λd o q1 q2 J G e=>b d o q1 q2 J G (a d o q1 q2 J G e)
section
variable {c:Bool}{z TI TO i1 i2 l1 l2:ai}{f f' a b x y:ak}{k1 k2:Nat}{xs ys:Array ak}{h h':Heap}
def ZS.mz(S:ZS c z TI TO i1 i2 l1 l2 f a b k1 k2 xs ys h)(D:ZipApart z TI TO i1 i2 l1 l2)(e:IsZip h' z TI TO f')(k:Heap.ExtBut z h h'):ZS c z TI TO i1 i2 l1 l2 f' a b k1 k2 xs ys h' :=
 ⟨e,k _ _ D.TIz S.ti,k _ _ D.TOz S.to,S.n1.extBut k D.i1z,S.n2.extBut k D.i2z,S.q1.extBut k D.l1z,S.q2.extBut k D.l2z⟩
def ZS.m1(S:ZS c z TI TO i1 i2 l1 l2 f a b k1 k2 xs ys h)(D:ZipApart z TI TO i1 i2 l1 l2)(e:lj c h' i1 l1 j)(k:Heap.ExtBut i1 h h'):ZS c z TI TO i1 i2 l1 l2 f a b j k2 xs ys h' :=
 ⟨k _ _ D.i1z.symm S.z,k _ _ D.TIi1 S.ti,k _ _ D.TOi1 S.to,e,S.n2.extBut k D.i12.symm,S.q1.extBut k D.l1i1,S.q2.extBut k D.l2i1⟩
def ZS.m2(S:ZS c z TI TO i1 i2 l1 l2 f a b k1 k2 xs ys h)(D:ZipApart z TI TO i1 i2 l1 l2)(e:lj c h' i2 l2 j)(k:Heap.ExtBut i2 h h'):ZS c z TI TO i1 i2 l1 l2 f a b k1 j xs ys h' :=
 ⟨k _ _ D.i2z.symm S.z,k _ _ D.TIi2 S.ti,k _ _ D.TOi2 S.to,S.n1.extBut k D.i12,e,S.q1.extBut k D.l1i2,S.q2.extBut k D.l2i2⟩
def ZS.mo(S:ZS c z TI TO i1 i2 l1 l2 f a b k1 k2 xs ys h)(D:ZipApart z TI TO i1 i2 l1 l2)(e:IsPair h' TO x y)(k:Heap.ExtBut TO h h'):ZS c z TI TO i1 i2 l1 l2 f x y k1 k2 xs ys h' :=
 ⟨k _ _ D.TOz.symm S.z,k _ _ D.TITO S.ti,e,S.n1.extBut k D.TOi1.symm,S.n2.extBut k D.TOi2.symm,S.q1.extBut k D.l1TO,S.q2.extBut k D.l2TO⟩
def ZS.push(S:ZS c z TI TO i1 i2 l1 l2 f a b k1 k2 xs ys h)(o:Obj):ZS c z TI TO i1 i2 l1 l2 f a b k1 k2 xs ys (h.push o) :=
 ⟨j4 _ S.z,j4 _ S.ti,j4 _ S.to,S.n1.at λ_ e=>j4 _ e,S.n2.at λ_ e=>j4 _ e,
  S.q1.extBut (b:=h.objs.size) (λ_ _ _ e=>j4 _ e) (S.q1.lt),S.q2.extBut (b:=h.objs.size) (λ_ _ _ e=>j4 _ e) (S.q2.lt)⟩
def om(k:Heap.ExtBut z h h'):ZK z TO i1 i2 h h':=λd o q _ _ _ e=>k d o q e
def Ie(k:Heap.ExtBut TO h h'):ZK z TO i1 i2 h h':=λd o _ q _ _ e=>k d o q e
def vN(k:Heap.ExtBut i1 h h'):ZK z TO i1 i2 h h':=λd o _ _ q _ e=>k d o q e
def B7(k:Heap.ExtBut i2 h h'):ZK z TO i1 i2 h h':=λd o _ _ _ q e=>k d o q e
end
section
variable {c:Bool}{z TI TO i1 i2 l1 l2:ai}{k1 k2:Nat}{xs ys:Array ak}{x y a b:ak}
def Ka(D:ZipApart z TI TO i1 i2 l1 l2)(S:ZS c z TI TO i1 i2 l1 l2 .none a b k1 k2 xs ys s.heap)(hx:xs[k1]?=some x)(hy:ys[k2]?=some y)
 (hQ:∀ h',ZS c z TI TO i1 i2 l1 l2 (rawInt s.heap.objs.size) x y (k1+1) (k2+1) xs ys h'->IsPair h' s.heap.objs.size x y->ZK z TO i1 i2 s.heap h'->Q (.ref s.heap.objs.size) {s with heap:=h'}):
 wpAny (model prog w) A (Builtin.«zip.__next__» ⟨[.ref z],[]⟩) (λfin s'=>∃ v,fin=.done (.ret v)/\Q v s') E s:=by
 refine fV (au (fV (aI S.z rfl (x:=.bool false) rfl (fV (aI S.z rfl (x:=.ref TI) rfl (fV (bc S.ti rfl ?_)))))));refine fV (m:=Builtin.SmallTypes.ownedTupleIsFree (.ref z)) (fV (aI S.z rfl (x:=.none) rfl (au ?_)));refine fV (dA (fV (aI S.z rfl (x:=.ref TO) rfl (fV (a6 S.z (by simp) λg1 e1 Z=>?_)))));have S1:=S.mz D (f':=.ellipsis) e1 Z.extBut;refine fV ?_;rw[show(#[Value.ref i1,Value.ref i2]:Array ak).toList.zipIdx=[(.ref i1,0),(.ref i2,1)]from rfl,bF];refine fV (fV (cQ (fV (i9 S1.n1 S1.q1 hx λg2 e2 Y=>au ?_))));have S2:=S1.m1 D e2 Y.extBut;refine fV (bc S2.to rfl (fV (cU S2.to λg3 e3 W=>fV (cV (au ?_)))));have S3:=S2.mo D (x:=x) (y:=b) e3 W.extBut;dsimp only;rw[bF];refine fV (fV (cQ (fV (i9 S3.n2 S3.q2 hy λg4 e4 U=>au ?_))));have S4:=S3.m2 D e4 U.extBut;refine fV (bc S4.to rfl (fV (cU S4.to λG e5 O=>fV (cV (au ?_)))));have S5:=S4.mo D (x:=x) (y:=y) e5 O.extBut;dsimp only;rw[dQ];have sz:G.objs.size=s.heap.objs.size:=O.1.trans (U.1.trans (W.1.trans (Y.1.trans Z.1)));refine au (fV (bc S5.to rfl (fV (eT ?_))));have S6:=S5.push { cls:=.type "tuple",data:=.seq #[x,y]};refine fV (m:=Builtin.SmallTypes.ownedTupleHandOut (.ref z) (.ref G.objs.size)) (fV (a6 S6.z (by simp) λg7 e7 L=>?_));have S7:=S6.mz D (f':=rawInt G.objs.size) e7 L.extBut;refine a6 S7.z (by simp) λg8 e8 J=>?_;have S8:=S7.mz D (f':=rawInt G.objs.size) e8 J.extBut;have SK:G.objs.size≠z:=a8 (jf S5.z);have hT:IsPair g8 G.objs.size x y:=J.extBut _ _ SK (L.extBut _ _ SK (aE _ rfl));have kk:ZK z TO i1 i2 s.heap g8:=((((((om Z.extBut).trans (vN Y.extBut)).trans (Ie W.extBut)).trans (B7 U.extBut)).trans (Ie O.extBut)).trans (λd o _ _ _ _ e=>j4 _ e)).trans ((om L.extBut).trans (om J.extBut));rw[sz]at S8 hT;refine au ⟨_,rfl,?_⟩;show Q (.ref G.objs.size) _;rw[sz];exact hQ g8 S8 hT kk
def Kg{Q:Fin->ah->Prop}(hh:A.handled=none)(D:ZipApart z TI TO i1 i2 l1 l2)(S:ZS c z TI TO i1 i2 l1 l2 .none a b k1 k2 xs ys s.heap)(Z:xs[k1]?=none)
 (hE:∀ h' e,ZK z TO i1 i2 s.heap h'->(∃ o,h'.get? e=some o/\o.cls=.type "StopIteration")->E (.ref e) {s with heap:=h'}):
 wpAny (model prog w) A (Builtin.«zip.__next__» ⟨[.ref z],[]⟩) Q E s:=by
 refine fV (au (fV (aI S.z rfl (x:=.bool false) rfl (fV (aI S.z rfl (x:=.ref TI) rfl (fV (bc S.ti rfl ?_)))))));refine fV (m:=Builtin.SmallTypes.ownedTupleIsFree (.ref z)) (fV (aI S.z rfl (x:=.none) rfl (au ?_)));refine fV (dA (fV (aI S.z rfl (x:=.ref TO) rfl (fV (a6 S.z (by simp) λg1 e1 U=>?_)))));have G:=S.mz D (f':=.ellipsis) e1 U.extBut;refine fV ?_;rw[show(#[Value.ref i1,Value.ref i2]:Array ak).toList.zipIdx=[(.ref i1,0),(.ref i2,1)]from rfl,bF];refine fV (fV (cQ (fV (lq hh G.n1 G.q1 Z λg2 e O he=>?_))));obtain⟨oe,J,W⟩:=he;have Y:IsZip g2 z TI TO .ellipsis:=O _ _ D.i1z.symm G.z;have UR:e≠z:=λq=>by subst q;rw[Y]at J;cases J;simp at W
 exact a6 Y (by simp) λg3 _ L=>hE g3 e (((om U.extBut).trans (vN O)).trans (om L.extBut)) ⟨oe,L.extBut _ _ UR J,W⟩
def B9{Q:aq ak->ah->Prop}(D:ZipApart z TI TO i1 i2 l1 l2)(S:ZS c z TI TO i1 i2 l1 l2 .none a b k1 k2 xs ys s.heap)(J:xs[k1]?=some x)(G:ys[k2]?=some y)
 (L:∀ h',ZS c z TI TO i1 i2 l1 l2 (rawInt s.heap.objs.size) x y (k1+1) (k2+1) xs ys h'->IsPair h' s.heap.objs.size x y->ZK z TO i1 i2 s.heap h'->Q (some (.ref s.heap.objs.size)) {s with heap:=h'}):
 wpAny (model prog w) A (pyNext (.ref z)) Q E s:=by
 have ty:s.TypeIs (.ref z) "zip":=⟨_,S.z,rfl⟩;unfold pyNext;exact fV (cR (bw (name:=Str.ofString "__next__") ty bX (cc bX ty c8 (Ka D S J G λh' a1 a2 a3=>au (L h' a1 a2 a3)) (cY _))))
def FZ{Q:aq ak->ah->Prop}(hh:A.handled=none)(D:ZipApart z TI TO i1 i2 l1 l2)(S:ZS c z TI TO i1 i2 l1 l2 .none a b k1 k2 xs ys s.heap)(G:xs[k1]?=none)
 (U:∀ h',ZK z TO i1 i2 s.heap h'->Q none {s with heap:=h'}):wpAny (model prog w) A (pyNext (.ref z)) Q E s:=by
 have ty:s.TypeIs (.ref z) "zip":=⟨_,S.z,rfl⟩;unfold pyNext;refine fV (cR (bw (name:=Str.ofString "__next__") ty bX (cc bX ty c8 (Kg hh D S G λh' e hk L=>?_) (cY _))));obtain⟨o,J,O⟩:=L;exact fV (dR (T:= "StopIteration") (b:=true) ⟨o,J,O⟩ eV (au (U _ hk)))
end
end
def yV(c:Bool)(H:Hp)(a:ai)(xs:ao V):Prop:=if c=true then H a=some (.tup xs)else H a=some (.lst xs)
def yV.inj{a:ai}{xs ys:ao V}(h:yV c H a xs)(h':yV c H a ys):xs=ys:=by
 cases c with
 |true=>have h1:H a=some (.tup xs):=h;have h2:H a=some (.tup ys):=h';rw[h1]at h2;cases h2;rfl
 |false=>have h1:H a=some (.lst xs):=h;have h2:H a=some (.lst ys):=h';rw[h1]at h2;cases h2;rfl
def yV.ex{a:ai}{xs:ao V}(h:yV c H a xs):∃ o,H a=some o:=by
 cases c with
 |true=>exact⟨_,h⟩
 |false=>exact⟨_,h⟩
def yV.val{a:ai}{xs:ao V}(I:Inv X fE σ H s)(h:yV c H a xs):∃ G:ao ak,gG xs G/\lE c s.heap a G.toArray:=by
 cases c with
 | true =>obtain⟨_,G,r,p⟩:=(show jj X.prog X.w H s.heap a (.tup xs)from I.hG a _ h);exact⟨G,r,p⟩
 | false =>obtain⟨_,G,n,r,_,e⟩:=I.mQ h;exact⟨G,r,⟨_,e,rfl,n,rfl⟩⟩
def Zx(c:Bool)(a1 a2:ai):It :=
 ⟨λi H=>∃ xs ys x y,yV c H a1 xs/\yV c H a2 ys/\xs[i]?=some x/\ys[i]?=some y,
  λi H v H'=>∃ T x y,v=.ref T/\H T=none/\H'=upd H T (.tup [x,y])/\(∀ xs,yV c H a1 xs->xs[i]?=some x)/\(∀ ys,yV c H a2 ys->ys[i]?=some y),
  λi H=>∃ xs ys,yV c H a1 xs/\yV c H a2 ys/\xs.length<=i⟩
section
variable {X:Cx}{fE:ao (ai×Obj)}{σ:St}{H:Hp}{s:ah}
def Inv.Cj{h'':Heap}{x:V}{v:ak}(I:Inv X fE σ H s)(fr:∀ b∈ch,mT X fE H b)(J:∀ b o,b∉ch->s.heap.get? b=some o->h''.get? b=some o)(O:IsPair h'' s.heap.objs.size u v)(Y:gB x u)(W:gB y v):
 Inv X fE σ (upd H s.heap.objs.size (.tup [x,y])) {s with heap:=h''}:=by
 have G:H s.heap.objs.size=none:=I.hG.fresh (ar _);refine I.step (g':=s.gens) (d':=s.drawn) (t':=s.toks) (h':=h'') (ch:=ch) (λb hb=>?_) (λb o _ _ hb e _=>J b o hb e) (λb o _ _ hb e _=>⟨o.slots,J b o hb e⟩)
  (λb o hb e n=>by rw[gr (aA (jf e))];exact n) (λb o hb e=>⟨o,J b o hb e⟩)
  (λb zs e=>by rw[gr (gJ e G)];exact e) (λb o u e=>by rw[gr (gJ e G)];exact e) (λb ps e=>⟨#[],by rw[gr (gJ e G),e];simp⟩) (λm L=>?_) (λb o e=>?_) I.bare
 .obtain⟨f0,f1,f2,f3,f4,f5⟩:=fr b hb;exact⟨f3,f1,f4,f5⟩
 .obtain⟨o,es,ep,ho,rr⟩:=L;exact⟨o,es,ep,J _ o (λq=>(fr _ q).2.1 rfl) ho,rr⟩
 .by_cases hb:b=s.heap.objs.size
  .subst hb;rw[gc]at e;cases e;exact⟨by show 2<=sizeLine;decide,[u,v],.cons Y (.cons W .nil),⟨_,O,rfl,0,rfl⟩⟩
  .rw[gr hb]at e;refine(I.hG b o e).xf (λd U hd q=>J d U (λL=>?_) q) (λd q=>by rw[gr (gJ q G)];exact q) λd zs q=>by rw[gr (gJ q G)];exact q
   have nn:=(fr d L).1;rcases hd with rfl|hd
   .rw[nn]at e;cases e
   .rw[nn]at hd;cases hd
def Inv.y9{h'':Heap}(I:Inv X fE σ H s)(fr:∀ b∈ch,mT X fE H b)(G:∀ b o,b∉ch->s.heap.get? b=some o->h''.get? b=some o):Inv X fE σ H { s with heap:=h''}:=by
 refine I.step (g':=s.gens) (d':=s.drawn) (t':=s.toks) (h':=h'') (ch:=ch) (λb hb=>?_) (λb o _ _ hb e _=>G b o hb e) (λb o _ _ hb e _=>⟨o.slots,G b o hb e⟩)
  (λb o hb e n=>n) (λb o hb e=>⟨o,G b o hb e⟩) (λb zs e=>e) (λb o u e=>e) (λb ps e=>⟨#[],by rw[e];simp⟩) (λm J=>?_) (λb o e=>?_) I.bare
 .obtain⟨f0,f1,f2,f3,f4,f5⟩:=fr b hb;exact⟨f3,f1,f4,f5⟩
 .obtain⟨o,es,ep,ho,rr⟩:=J;exact⟨o,es,ep,G _ o (λq=>(fr _ q).2.1 rfl) ho,rr⟩
 .refine(I.hG b o e).xf (λd L hd q=>G d L (λJ=>?_) q) (λd q=>q) λd zs q=>q;have nn:=(fr d J).1;rcases hd with rfl|hd
  .rw[nn]at e;cases e
  .rw[nn]at hd;cases hd
end
def oJ{P:ae}{K:aa}{kk:Nat}{z TI TO i1 i2 l1 l2:ai}(D:ZipApart z TI TO i1 i2 l1 l2):
 Turn P w K (.Tuple elts kk tpos) (Zx c l1 l2) [z,TI,TO,i1,i2] z (λi h=>IsZip h z TI TO .none/\IsPair h TI (.ref i1) (.ref i2)/\(∃ a b,IsPair h TO a b)/\lj c h i1 l1 i/\lj c h i2 l2 i) where
 mem:=by simp
 obj:=λi h st b hb=>by
  obtain⟨G,L,⟨a,b',O⟩,h1,h2⟩:=st;simp only[aO,aH,bN]at hb;rcases hb with rfl|rfl|rfl|rfl|rfl
  .exact⟨_,G,λv q=>by cases q⟩
  .exact⟨_,L,λv q=>by cases q⟩
  .exact⟨_,O,λv q=>by cases q⟩
  .exact h1.data
  .exact h2.data
 keep:=λi h h' st k=>by obtain⟨G,L,⟨a,b',O⟩,h1,h2⟩:=st;exact⟨k z (by simp) _ G,k TI (by simp) _ L,⟨a,b',k TO (by simp) _ O⟩,h1.at λo e=>k i1 (by simp) o e,h2.at λo e=>k i2 (by simp) o e⟩
 item:=by
  intro X hP hw hK hc i fE s σ H E I W st hg;subst hP hw hK;obtain⟨G,L,⟨a,b',O⟩,h1,h2⟩:=st;obtain⟨xs,ys,x,y,q1,q2,ex,ey⟩:=hg;obtain⟨us,Y,Z⟩:=q1.val I;obtain⟨ws,r2,p2⟩:=q2.val I;obtain⟨u,eu,ru⟩:=Y.get ex;obtain⟨v,ev,rv⟩:=r2.get ey;refine B9 D ⟨G,L,O,h1,h2,Z,p2⟩ (by simpa using eu) (by simpa using ev) λh' S' hT hk=>?_;refine⟨_,rfl,wpAny_letOwnedTupleGo_zip S'.z λJ e'' Z1=>?_⟩;have U:=S'.mz D (f':=.none) e'' Z1.extBut;have Tz:s.heap.objs.size≠z:=a8 (jf G);have hT':IsPair J s.heap.objs.size u v:=Z1.extBut _ _ Tz hT;have kp:ZK z TO i1 i2 s.heap J:=hk.trans (om Z1.extBut);have hn:H s.heap.objs.size=none:=I.hG.fresh (ar _);have fr:∀ b∈[z,TO,i1,i2],mT X fE H b:=λb hb=>W b (by
   simp only[aO,aH,bN]at hb ⊢
   rcases hb with q|q|q|q<;>simp[q])
  have E8:∀ b o,b∉[z,TO,i1,i2]->s.heap.get? b=some o->J.get? b=some o:=λb o hb e=>kp b o (λq=>hb (by simp[q])) (λq=>hb (by simp[q])) (λq=>hb (by simp[q])) (λq=>hb (by simp[q])) e;have I1:Inv X fE σ (upd H s.heap.objs.size (.tup [x,y])) {s with heap:=J}:=I.Cj fr E8 hT' ru rv;refine⟨.ref s.heap.objs.size,_,I1,rfl,⟨_,x,y,rfl,hn,rfl,λzs q=>by rw[q.inj q1];exact ex,λzs q=>by rw[q.inj q2];exact ey⟩,⟨U.z,U.ti,⟨_,_,U.to⟩,U.n1,U.n2⟩,λb hb=>?_⟩;obtain⟨o,e,_⟩:∃ o,s.heap.get? b=some o/\True:=by
   simp only[aO,aH,bN]at hb;rcases hb with rfl|rfl|rfl|rfl|rfl
   .exact⟨_,G,trivial⟩
   .exact⟨_,L,trivial⟩
   .exact⟨_,O,trivial⟩
   .obtain⟨o,e⟩:=h1.ex;exact⟨o,e,trivial⟩
   .obtain⟨o,e⟩:=h2.ex;exact⟨o,e,trivial⟩
  rw[gr (aA (jf e))];exact(W b hb).1
 done:=by
  intro X hP hw hK hc i fE s σ H E I W st hg;subst hP hw hK;obtain⟨G,L,⟨a,b',O⟩,h1,h2⟩:=st;obtain⟨xs,ys,q1,q2,hx⟩:=hg;obtain⟨us,Y,Z⟩:=q1.val I;obtain⟨ws,r2,p2⟩:=q2.val I;have hl:=Y.length;refine FZ (I.ok.hd hc) D ⟨G,L,O,h1,h2,Z,p2⟩ (by simp;lia) λh' hk=>⟨rfl,?_⟩;have fr:∀ b∈[z,TO,i1,i2],mT X fE H b:=λb hb=>W b (by
   simp only[aO,aH,bN]at hb ⊢
   rcases hb with q|q|q|q<;>simp[q])
  have E8:∀ b o,b∉[z,TO,i1,i2]->s.heap.get? b=some o->h'.get? b=some o:=λb o hb e=>hk b o (λq=>hb (by simp[q])) (λq=>hb (by simp[q])) (λq=>hb (by simp[q])) (λq=>hb (by simp[q])) e;exact I.y9 fr E8
 self:=λ_ _ _ _ _ st h=>cM st.1 h
def rR(a:ai):Obj:={ cls:=.type "tuple_iterator",data:=.fields #[.ref a,.int 0 0]}
def zH(l1 l2:ai)(h:Heap):Heap :=
 ((((h.push (rR l1)).push (rR l2)).push { cls:=.type "tuple",data:=.seq #[.ref h.objs.size,.ref (h.push (rR l1)).objs.size]}).push { cls:=.type "tuple",data:=.seq #[.none,.none]}).push
  { cls:=.type "zip",data:=.fields #[.none,.bool false,.bool false,.ref ((h.push (rR l1)).push (rR l2)).objs.size,.ref (((h.push (rR l1)).push (rR l2)).push { cls:=.type "tuple",data:=.seq #[.ref h.objs.size,.ref (h.push (rR l1)).objs.size]}).objs.size]}
def Kh(l1 l2:ai)(xs ys:Array ak):Meets (Builtin.«zip.__new__» ⟨[.type "zip",.ref l1,.ref l2],[]⟩) (λ_ R s=>s.heap.IsTuple l1 xs/\s.heap.IsTuple l2 ys /\
 R (.ok (.ret (.ref (s.heap.objs.size+4)))) {s with heap:=zH l1 l2 s.heap}):=
 .of_wp λprog w A R s h=>by
  obtain⟨G,g,d,tk,os⟩:=s;obtain⟨J,W,h⟩:=h;have L:=sub_zip;have U:Heap.IsTuple (Shared.heap ⟨G,g,d,tk,os⟩) l1 xs:=J;have O:Heap.IsTuple (Shared.heap ⟨G.push { cls:=.type "tuple_iterator",data:=.fields #[.ref l1,.int 0 0]},g,d,tk,os⟩) l2 ys:=Heap.IsTuple.push W _;wp_walk using wpAny_pyIter_tuple U,wpAny_pyIter_tuple O;refine⟨_,rfl,?_⟩;have e:G.objs.size+4=((((G.push (rR l1)).push (rR l2)).push { cls:=.type "tuple",data:=.seq #[.ref G.objs.size,.ref (G.push (rR l1)).objs.size]}).push { cls:=.type "tuple",data:=.seq #[.none,.none]}).objs.size:=by simp only[bg]
  have h':R (.ok (.ret (.ref (G.objs.size+4)))) _:=h;rw[e]at h';exact h'
def sI{prog:ae}{w:af}{A:Around}{E:ak->ah->Prop}{l1 l2:ai}{xs ys:Array ak}(U:lE c s.heap l1 xs)(p2:lE c s.heap l2 ys)
 (h:∀ h',IsZip h' (s.heap.objs.size+4) (s.heap.objs.size+2) (s.heap.objs.size+3) .none->IsPair h' (s.heap.objs.size+2) (.ref s.heap.objs.size) (.ref (s.heap.objs.size+1))->IsPair h' (s.heap.objs.size+3) .none .none ->
   lj c h' s.heap.objs.size l1 0->lj c h' (s.heap.objs.size+1) l2 0->(∀ b o,s.heap.get? b=some o->h'.get? b=some o)->Q (.ref (s.heap.objs.size+4)) {s with heap:=h'}):
 wpAny (model prog w) A (call (.type "zip") [.ref l1,.ref l2]) Q E s:=by
 cases c with
 |false=>exact call_zip_2 U p2 λh' a1 a2 a3 a4 a5 _ a7=>h h' a1 a2 a3 a4 a5 a7
 | true =>
  refine callType_new F.called_zip (by decide) (F.typeCall_zip_2 _ _) (F.newCall_zip_2 _ _) (λobj=>F.args_object_init_3 obj _ _) F.entry_zip_new (Kh l1 l2 xs ys) ⟨U,p2,?_⟩;have L:(s.heap.push (rR l1)).objs.size=s.heap.objs.size+1:=bg ..
  have J:((s.heap.push (rR l1)).push (rR l2)).objs.size=s.heap.objs.size+2:=by rw[bg,L]
  have G:(((s.heap.push (rR l1)).push (rR l2)).push { cls:=.type "tuple",data:=.seq #[.ref s.heap.objs.size,.ref (s.heap.push (rR l1)).objs.size]}).objs.size=s.heap.objs.size+3:=by rw[bg,J]
  have z4:((((s.heap.push (rR l1)).push (rR l2)).push { cls:=.type "tuple",data:=.seq #[.ref s.heap.objs.size,.ref (s.heap.push (rR l1)).objs.size]}).push { cls:=.type "tuple",data:=.seq #[.none,.none]}).objs.size=s.heap.objs.size+4:=by rw[bg,G]
  have g0:(zH l1 l2 s.heap).get? s.heap.objs.size=some (rR l1):=j4 _ (j4 _ (j4 _ (j4 _ (aE _ rfl))));have Z:(zH l1 l2 s.heap).get? (s.heap.push (rR l1)).objs.size=some (rR l2):=j4 _ (j4 _ (j4 _ (aE _ rfl)));have Y:(zH l1 l2 s.heap).get? ((s.heap.push (rR l1)).push (rR l2)).objs.size=some _:=j4 _ (j4 _ (aE _ rfl));have W:(zH l1 l2 s.heap).get? (((s.heap.push (rR l1)).push (rR l2)).push { cls:=.type "tuple",data:=.seq #[.ref s.heap.objs.size,.ref (s.heap.push (rR l1)).objs.size]}).objs.size=some _:=j4 _ (aE _ rfl);have O:(zH l1 l2 s.heap).get? ((((s.heap.push (rR l1)).push (rR l2)).push { cls:=.type "tuple",data:=.seq #[.ref s.heap.objs.size,.ref (s.heap.push (rR l1)).objs.size]}).push { cls:=.type "tuple",data:=.seq #[.none,.none]}).objs.size=some _:=aE _ rfl;rw[L]at Z;rw[J,L]at Y;rw[G]at W;rw[z4,J,G]at O;exact⟨⟨_,O,rfl⟩,h _ O Y W ⟨_,g0,rfl,rfl⟩ ⟨_,Z,rfl,rfl⟩ λb o e=>j4 _ (j4 _ (j4 _ (j4 _ (j4 _ e))))⟩
section
variable {X:Cx}
def iZip(ta:TA):TI:=λσ H R=>ta σ H λvs H1=>match vs with
 |[.ref a,.ref b]=>∃(c:Bool) (xs ys:ao V),yV c H1 a xs/\yV c H1 b ys/\R (Zx c a b) H1
 |_=>False
def TH{elts:ao Expr}{kk:Nat}{tpos:Pos}{a b:Expr}{p pos:Pos}(hg:Gl X "zip")(hm:X.mg "zip"=none)(ha:PA X [a,b] ta)(Z:starEach [a,b] X.env=[(false,eval a X.env),(false,eval b X.env)]:=by rfl)(rE:starEach [b] X.env=[(false,eval b X.env)]:=by rfl):
 PI X (.Tuple elts kk tpos) (.Call (.Name "zip" p) [a,b] [] pos) (iZip ta):=by
 intro fE s σ H R I h;refine Call_ (lM I hg hm boot_zip (bh (iN (ha pos fE s σ H _ I h) λus J W=>?_) (by rw[Z,rE]) (by rw[rE];rfl)));obtain⟨vs,H1,G,L,q1⟩:=W;try dsimp only at q1
 split at q1
 .rename_i l1 l2;obtain⟨c,xs,ys,q1,q2,q⟩:=q1;obtain⟨u1,u2,rfl,e1,e2⟩:=L.two;cases e1;cases e2;obtain⟨us,L,Y⟩:=q1.val G;obtain⟨ws,r2,p2⟩:=q2.val G;have lt:∀ {l:ai} {o:HO},H1 l=some o->l<J.heap.objs.size:=λe=>G.hG.lt e;obtain⟨o1,w1⟩:=q1.ex;obtain⟨o2,w2⟩:=q2.ex;refine sI Y p2 λh' O B5 B4 n1 n2 kp=>cM O ?_;have I2:Inv X fE σ H1 { J with heap:=h'}:=G.jk (t':=J.toks) kp;refine⟨J.heap.objs.size+4,_,_,_,H1,rfl,I2,oJ (c:=c) (zipApart_new (lt w1) (lt w2)),⟨O,B5,⟨_,_,B4⟩,n1,n2⟩,λb hb=>?_,q⟩;have U:J.heap.objs.size<=b:=by
   simp only[aO,aH,bN]at hb;rcases hb with e|e|e|e|e<;>subst e
   .exact aR ..
   .exact aR ..
   .exact aR ..
   .exact ar _
   .exact aR ..
  exact G.Dw U (G.hG.fresh U)
 .exact q1.elim
def CA(g:ao Bool->Bool):ao V->Hp->VK->Prop:=λvs H Q=>match vs with
 |[.ref p]=>∃ bs:ao Bool,H p=some (.lst (bs.map V.bl))/\Q (.bl (g bs)) H
 |_=>False
def range_all(bs:ao Bool):(List.range bs.length).all (λi=>bs.getD i true)=bs.all id:=by
 rw[dJ,c7,c7];constructor
 .intro h b hb;obtain⟨i,hi,e⟩:=aZ hb;have:=h i (by simpa using hi);rw[av,jo hi,e]at this;exact this
 .intro h i hi;have G:i<bs.length:=by simpa using hi
  rw[av,jo G];exact h _ (bI _)
def Ym(hc:X.gY=true):jM X (.builtin "all") (CA λbs=>bs.all id):=by
 intro fE s σ H vs us Q I Z h;unfold CA at h;split at h
 .rename_i p;obtain⟨bs,hp,q⟩:=h;obtain⟨u,rfl,ru⟩:=Z.one;cases ru;obtain⟨z,J,n,r,hl,e⟩:=I.mQ hp;have W:s.heap.IsList p J.toArray:=⟨_,e,rfl,n,rfl⟩;have lt:p≠s.heap.objs.size:=aA (jf e);refine call_all_walk (dk W ⟨_,_,_,_,_,_,λi=>bs.getD i true,rfl,Walks.list (A:=X.A.in1) (I.ok.hd hc) s.heap.objs.size p lt J.toArray,⟨⟨_,aE _ rfl,rfl,rfl⟩,W.push _⟩,?_,λh' tk kp=>?_⟩)
  .intro i v s' Q' E' hv hq;have U:J[i]?=some v:=by simpa using hv
   have hb:∃ b,bs[i]?=some b/\v=.bool b:=by
    cases G:(bs.map V.bl)[i]? with
    |none=>have:=r.none_of G;rw[U]at this;cases this
    | some y =>
     obtain⟨u,hu,Y⟩:=r.get G;rw[U]at hu;cases hu;rw[oC]at G;cases e2:bs[i]? with
     |none=>rw[e2]at G;cases G
     |some b=>rw[e2]at G;cases G;exact⟨b,rfl,Y⟩
   obtain⟨b,G,rfl⟩:=hb;have e3:bs.getD i true=b:=by rw[av,G];rfl
   have O:Q' (bs.getD i true) s':=hq;rw[e3]at O;exact cJ O
  .have I2:Inv X fE σ H { s with heap:=h',toks:=tk}:=I.jk λb o L=>kp b o (by simpa using aA (jf L)) (j4 _ L);have len:J.toArray.size=bs.length:=by rw[aD,<- hl,iE]
   rw[len,range_all];exact⟨.bl _,H,I2,rfl,q⟩
 .cases h
def WC:R2:=λx y H Q=>match x,y with
 |.iz,.iz=>Q (.bl true) H
 |.int i,.int j=>Q (.bl (decide (i=j))) H
 |.str i,.str j=>Q (.bl (decide (i=j))) H
 |.bl i,.bl j=>Q (.bl (decide (i=j))) H
 |_,_=>False
def eqN:k7 X (compareOp .Eq) WC:=RQ.imp λx y H Q q=>by
 unfold WC at q;split at q
 .exact⟨rfl,by simpa using q⟩
 .exact⟨rfl,by rw[dI];exact q⟩
 .exact⟨rfl,by rw[dS];exact q⟩
 .exact⟨rfl,by rw[dB];exact q⟩
 .exact q.elim
end
section
variable {js:ao (aq Nat)}{g:TG}{tt:TT}{te:TE}{σ:St}{H:Hp}{fin:ao V->Hp->Prop}
def HJ{a1 a2:ai}{xs zs:ao V}(Y:xs.length=zs.length)(Pv:Nat->ao V->Hp->Prop)(h0:Pv 0 [] H)(hl:∀ i ys H,Pv i ys H->yV c H a1 xs/\yV c H a2 zs)
 (U:∀ i x y ys H T,i<xs.length->xs[i]?=some x->zs[i]?=some y->Pv i ys H->H T=none->g (.ref T) (iq js σ) (upd H T (.tup [x,y])) λG H2=>Ext (iq js σ) G/\tt G H2 λb L=>if b=true then te G L (CNx xs.length i Pv ys)else CSk xs.length i Pv ys L)
 (hd:∀ ys H,Pv xs.length ys H->fin ys H):Kq js g tt te (Zx c a1 a2) σ H fin:=by
 refine⟨λi m ys H=>m=xs.length - i/\i<=xs.length/\Pv i ys H,⟨xs.length,by simp,bA _,h0⟩,?_⟩;rintro i m ys H ⟨rfl,hi,p⟩;obtain⟨q1,q2⟩:=hl i ys H p;by_cases J:i<xs.length
 .refine .inr ⟨⟨xs,zs,xs[i],zs[i]'(by lia),q1,q2,by simp[J],by simp[show i<zs.length by lia]⟩,λv H' O=>?_⟩;obtain⟨T,x,y,rfl,W,rfl,h1,h2⟩:=O;exact U i x y ys H T J (h1 xs q1) (h2 zs q2) p W
 .have e:i=xs.length:=by lia
  subst e
  exact .inl ⟨⟨xs,zs,q1,q2,ar _⟩,hd ys H p⟩
end
inductive DV where
 |iz|bl (b:Bool)|int (i:Int)|str (z:Str)|lst (ds:List DV)|tup (ds:List DV)
mutual
def dep:DV->Nat
 |.lst ds=>yR ds+1
 |.tup ds=>yR ds+1
 |_=>0
def yR:List DV->Nat
 |[]=>0
 |d::ds=>max (dep d) (yR ds)
end
mutual
def Oh:DV->Nat
 |.lst ds=>max ds.length (yC ds)
 |.tup ds=>max ds.length (yC ds)
 |_=>0
def yC:List DV->Nat
 |[]=>0
 |d::ds=>max (Oh d) (yC ds)
end
mutual
def Is(H:Hp):DV->V->Prop
 |.iz,v=>v=.iz
 |.bl b,v=>v=.bl b
 |.int i,v=>v=.int i
 |.str z,v=>v=.str z
 |.lst ds,v=>∃ p vs,v=.ref p/\H p=some (.lst vs)/\mY H ds vs
 |.tup ds,v=>∃ p vs,v=.ref p/\H p=some (.tup vs)/\mY H ds vs
def mY(H:Hp):List DV->List V->Prop
 |[],vs=>vs=[]
 |d::ds,vs=>∃ v r,vs=v::r/\Is H d v/\mY H ds r
end
mutual
theorem Is.mono{H H':Hp}(s:iM H H'):∀(d:DV) (v:V),Is H d v->Is H' d v
 |.iz,_,h=>h
 |.bl _,_,h=>h
 |.int _,_,h=>h
 |.str _,_,h=>h
 | .lst ds,_,h=>by obtain⟨p,vs,e,G,q⟩:=h;exact⟨p,vs,e,s _ _ G,mY.mono s ds vs q⟩
 | .tup ds,_,h=>by obtain⟨p,vs,e,G,q⟩:=h;exact⟨p,vs,e,s _ _ G,mY.mono s ds vs q⟩
theorem mY.mono{H H':Hp}(s:iM H H'):∀(ds:List DV) (vs:List V),mY H ds vs->mY H' ds vs
 |[],_,h=>h
 | d::ds,_,h=>by obtain⟨v,r,e,h1,h2⟩:=h;exact⟨v,r,e,Is.mono s d v h1,mY.mono s ds r h2⟩
end
theorem mY.len{H:Hp}:∀ {ds:ao DV} {vs:ao V},mY H ds vs->vs.length=ds.length
 |[],_,h=>by rw[show _=[]from h];rfl
 |d::ds,_,h=>by obtain⟨v,r,rfl,_,h2⟩:=h;rw[aU,aU,mY.len h2]
theorem mY.get{H:Hp}:∀ {ds:ao DV} {vs:ao V} {i:Nat} {v:V},mY H ds vs->vs[i]?=some v->∃ d,ds[i]?=some d/\Is H d v
 |[],_,i,v,h,e=>by rw[show _=[]from h]at e;simp at e
 | d::ds,_,0,v,h,e=>by obtain⟨G,r,rfl,h1,h2⟩:=h;simp at e;subst e;exact⟨d,rfl,h1⟩
 | d::ds,_,i+1,v,h,e=>by obtain⟨G,r,rfl,h1,h2⟩:=h;obtain⟨J,e1,e2⟩:=mY.get (i:=i) h2 (by simpa using e);exact⟨J,by simpa using e1,e2⟩
theorem x6:∀ {ds:ao DV} {i:Nat} {d:DV},ds[i]?=some d->dep d<=yR ds
 |d::ds,0,d',h=>by simp at h;subst h;unfold yR;lia
 |d::ds,i+1,d',h=>by have:=x6 (ds:=ds) (i:=i) (by simpa using h);unfold yR;lia
theorem wU:∀ {ds:ao DV} {i:Nat} {d:DV},ds[i]?=some d->Oh d<=yC ds
 |d::ds,0,d',h=>by simp at h;subst h;unfold yC;lia
 |d::ds,i+1,d',h=>by have:=wU (ds:=ds) (i:=i) (by simpa using h);unfold yC;lia
def uD(n:Nat):Sp:=λvs H Q _=>match vs with
 |[x,y]=>∃ d,dep d<=n/\Oh d<sizeLine/\Is H d x/\Is H d y/\∀ H',iM H H'->Q (.bl true) H'
 |_=>False
def Z5:Sp:=λ_ _ _ _=>False
def spS:Nat->Sp
 |0=>Z5
 |n+1=>uD n
def iM.upd{H:Hp}{p:ai}{o:HO}(h:H p=none):iM H (L2.upd H p o):=λb u e=>by rw[gr (gJ e h)];exact e
def HH{α:Type}{l:ao α}{n:Int}(h:0<=n):lD l none (some n)=l.take n.toNat:=by
 obtain⟨m,rfl⟩:∃ m:Nat,n=(m:Int):=⟨n.toNat,by lia⟩;unfold lD;rw[HT.m4,HT.xw,List.drop_zero,Nat.sub_zero,vD];by_cases G:m<=l.length
 .rw[cE G]
 .rw[fA (by lia),List.take_length,bQ (by lia)]
def zL{α:Type}{l:ao α}{n:Int}(h:0<=n):lD l (some n) none=l.drop n.toNat:=by
 obtain⟨m,rfl⟩:∃ m:Nat,n=(m:Int):=⟨n.toNat,by lia⟩;unfold lD;rw[HT.m4,HT.xw,vD];by_cases G:m<=l.length
 .rw[cE G,bQ (by rw[bD];lia)]
 .rw[fA (by lia),bC (ar _),bC (by lia),List.take_nil]
section
variable {X:Cx}
def Cz:V->ao V->Hp->VK->Prop:=λx vs H Q=>∃ l y xs,x=.ref l/\vs=[y]/\H l=some (.lst xs)/\xs.length<sizeLine/\Q .iz (upd H l (.lst (xs++[y])))
def BD:N9 X "list.append" Cz:=N9.imp IV λx vs H Q q=>by obtain⟨l,y,xs,rfl,rfl,a,b,c⟩:=q;exact⟨_,xs,_,rfl,rfl,a,b,c⟩
end
def rr(l:ao Nat):Nat->Nat×ao (Nat×Nat)
 |0=>(0,[])
 |i+1=>if l[i]?=some 120 then(i+1,if(rr l i).1<i then(rr l i).2++[((rr l i).1,i)]else(rr l i).2)else rr l i
theorem HQ(ns:ao Int):∀ k,k<ns.length->argBest (λi j=>decide (ns.getD j 0<ns.getD i 0)) k<=k/\∀ j,j<=k->ns.getD j 0<=ns.getD (argBest (λi j=>decide (ns.getD j 0<ns.getD i 0)) k) 0
 |0,_=>⟨ar _,λj G=>by rw[show j=0 by lia];exact bS _⟩
 | k+1,h=>by
  obtain⟨h1,h2⟩:=HQ ns k (by lia);unfold argBest;by_cases hb:ns.getD (argBest (λi j=>decide (ns.getD j 0<ns.getD i 0)) k) 0<ns.getD (k+1) 0
  .rw[aB (aM hb)];refine⟨ar _,λj G=>?_⟩;by_cases e:j=k+1
   .rw[e];exact bS _
   .exact cF (h2 j (by lia)) (dm hb)
  .rw[aC (by simp only[bq];exact hb)];refine⟨by lia,λj G=>?_⟩;by_cases e:j=k+1
   .rw[e];lia
   .exact h2 j (by lia)
section
variable {X:Cx}
def Lf:ao V->Hp->VK->Prop:=λvs H Q=>match vs with
 |[.ref p]=>∃ ns:ao Int,H p=some (.lst (ns.map V.int))/\ns≠[]/\∀ m,m∈ns->(∀ x∈ns,x<=m)->Q (.int m) H
 |_=>False
def PQ(hc:X.gY=true):jM X (.builtin "max") Lf:=by
 intro fE s σ H vs us Q I Z h;unfold Lf at h;split at h
 .rename_i p;obtain⟨ns,hp,G6,q⟩:=h;obtain⟨u,rfl,ru⟩:=Z.one;cases ru;obtain⟨z,J,n,r,hl,e⟩:=I.mQ hp;have W:s.heap.IsList p J.toArray:=⟨_,e,rfl,n,rfl⟩;have lt:p≠s.heap.objs.size:=aA (jf e);have len:J.toArray.size=ns.length:=by rw[aD,<- hl,iE]
  have pos:0<ns.length:=List.length_pos_iff.mpr G6;have val:∀ i v,J.toArray[i]?=some v->∃ t,i<ns.length/\v=.int (ns.getD i 0) t:=λi v L=>by
   have U:J[i]?=some v:=by simpa using L
   cases G:(ns.map V.int)[i]? with
   |none=>have:=r.none_of G;rw[U]at this;cases this
   | some y =>
    obtain⟨u,hu,Y⟩:=r.get G;rw[U]at hu;cases hu;rw[oC]at G;cases e2:ns[i]? with
    |none=>rw[e2]at G;cases G
    | some b =>rw[e2]at G;cases G;obtain⟨t,rfl⟩:=Y;exact⟨t,(kN e2).1,by rw[av,e2];rfl⟩
  refine call_max_walk (dk W ⟨_,_,_,_,_,_,λi j=>decide (ns.getD j 0<ns.getD i 0),rfl,Walks.list (A:=X.A.in1) (I.ok.hd hc) s.heap.objs.size p lt J.toArray,⟨⟨_,aE _ rfl,rfl,rfl⟩,W.push _⟩,?_,by rw[len];exact pos,?_,λv h' tk L kp=>?_⟩)
  .intro b hb;simp only[aO,aH,bN]at hb;show b<(s.heap.push _).objs.size;rw[bg];rcases hb with rfl|rfl
   .exact bG _
   .exact aV (jf e)
  .intro i j vi vj s' Q' E' hi hj hq;obtain⟨t,_,rfl⟩:=val i vi hi;obtain⟨t',_,rfl⟩:=val j vj hj;exact gt_int hq
  .have I2:Inv X fE σ H { s with heap:=h',toks:=tk}:=I.jk λb o O=>kp b o (by simpa using aA (jf O)) (j4 _ O);rw[len]at L;obtain⟨t,mW,rfl⟩:=val _ v L;obtain⟨b1,b2⟩:=HQ ns (ns.length - 1) (by lia);refine⟨.int _,H,I2,⟨t,rfl⟩,q _ ?_ λx hx=>?_⟩
   .rw[av,jo mW];exact bI _
   .obtain⟨j,hj,ej⟩:=aZ hx;have:=b2 j (by lia);rw[av,jo hj,ej]at this;exact this
 .cases h
def Hj(l:ao Nat)(c i:Nat):Int->Prop:=λr=>(r = -1/\∀ v,i<=v->l[v]?≠some c)\/∃ k:Nat,r=(k:Int)/\i<=k/\l[k]?=some c/\∀ v,i<=v->v<k->l[v]?≠some c
def Li:V->ao V->Hp->VK->Prop:=λx vs H Q=>∃(z:Str) (c:Nat) (i:Int),x=.str z/\vs=[.str ⟨#[c]⟩,.int i]/\0<=i/\i<=z.length/\∀ r,Hj z.cps.toList c i.toNat r->Q (.int r) H
def XB:N9 X "str.find" Li:=by
 intro fE s σ H x vs v us Q I U W h
 .obtain⟨z,c,i,rfl,rfl,h0,h1,q⟩:=h;obtain⟨t,rfl⟩:=U;obtain⟨u1,u2,rfl,Z,Y⟩:=W.two;obtain⟨t1,rfl⟩:=Z;obtain⟨t2,rfl⟩:=Y;refine SC.find3 ⟨.int _,H,I.tok _,⟨_,rfl⟩,q _ ?_⟩;have fi:fromIndex z.length i=i.toNat:=by unfold fromIndex;lia
  have O:∀ v,z.cps.getD v 0≠c\/¬ v<z.length->z.cps.toList[v]?≠some c:=λv J e=>by
   have G:v<z.cps.toList.length:=(kN e).1;have L:v<z.length:=by rw[W6];exact G
   rcases J with J|J
   .exact J (by rw[jo G]at e;injection e with e;rw[<- e];simp[Array.getD,show v<z.cps.size by simpa using G])
   .exact J L
  rcases StrLaws.find3_spec z c i with⟨e,hn⟩|⟨k,e,k1,k2,k3,k4⟩
  .refine .inl ⟨e,λv J=>O v ?_⟩;by_cases hl:v<z.length
   .exact .inl (hn v (by lia) hl)
   .exact .inr hl
  .refine .inr ⟨k,e,by lia,?_,λv h1 h2=>O v (.inl (k4 v (by lia) h2))⟩;have G:k<z.cps.toList.length:=by rw[<- W6];exact k2
   rw[jo G,<- k3];simp[Array.getD,show k<z.cps.size by simpa using G]
end
def Vz(l:ao Nat)(e t:Nat):Prop:=e<=t/\t<=l.length/\(∀ v,e<=v->v<t->l[v]?=some 111)/\(t=l.length\/l[t]?=some 120)
def Vz.uniq{e t u:Nat}(a:Vz l e t)(b:Vz l e u):t=u:=by
 obtain⟨a1,a2,a3,O⟩:=a;obtain⟨L,U,J,G⟩:=b;rcases eZ t u with h|h|h
 .rcases O with q | q
  .lia
  .have:=J t a1 h;rw[q]at this;cases this
 .exact h
 .rcases G with q | q
  .lia
  .have:=a3 u L h;rw[q]at this;cases this
def RO(G:OX l){v:Nat}(h:v<l.length)(n:l[v]?≠some 120):l[v]?=some 111:=by
 have e:l[v]?=some l[v]:=jo h;rcases G _ (bI h)with q|q
 .rw[e,q]
 .exact absurd (by rw[e,q]) n
def Hj.cl{e:Nat}{r:Int}(G:OX l)(he:e<=l.length)(h:Hj l 120 e r):(r<0->Vz l e l.length)/\(¬ r<0->Vz l e r.toNat/\r=(r.toNat:Int)):=by
 rcases h with⟨rfl,J⟩|⟨k,rfl,h1,h2,L⟩
 .exact⟨λ_=>⟨he,ar _,λv a b=>RO G b (J v a),.inl rfl⟩,λq=>absurd (by decide) q⟩
 .have hk:k<l.length:=(kN h2).1;exact⟨λq=>absurd q (by lia),λ_=>⟨⟨by lia,by lia,λv a b=>RO G (by lia) (L v a (by lia)),.inr (by rw[vD];exact h2)⟩,by rw[vD]⟩⟩
def YE(es:ao Int)(l:ao Nat)(e:Int)(m:Int):Prop:=∃ t,Vz l e.toNat t/\m∈es/\m<=(t:Int)/\∀ x∈es,x<=(t:Int)->x<=m
def YE.uniq{es:ao Int}{l:ao Nat}{e m k:Int}(a:YE es l e m)(b:YE es l e k):m=k:=by obtain⟨t,a1,a2,a3,U⟩:=a;obtain⟨u,O,L,J,G⟩:=b;cases a1.uniq O;exact Int.le_antisymm (G m a2 a3) (U k L J)
def fC(n:Int)(cs:ao Int):ao Int:=0::cs++[n]
inductive D where
 |iz|bl (b:Bool)|int (i:Int)|str (z:Str)|lst (ds:List D)|tup (ds:List D)|ka (ks:List Key) (ds:List D)|mr (k:Nat)|obj (C:ai) (ns:List Str) (ds:List D)|uP (ks:List Key) (ds:List D)|fn (a:ai)
inductive MO where
 |box|lst (ds:List D)|ka (ks:List Key) (ds:List D)|xS (o:Obj) (fR:List (Key×V)) (ds:List D)|ins (C:ai) (ns:List Str) (ds:List D)|lF (ks:List (List Key)) (ds:List D)|gx (φ:List ai) (H:Hp)|exc (c:ak)
variable{ds:ao D}{d:D}{m:MO}
abbrev MS:=ao MO
variable{μ:MS}
def zw(μ:MS)(k:Nat):aq (ao D):=match μ[k]? with|some (.lst ds)=>some ds|_=>none
def mn{k:Nat}(h:zw μ k=some ds):μ[k]?=some (.lst ds):=by
 unfold zw at h;split at h
 .cases h;assumption
 .cases h
def AS{k:Nat}(h:μ[k]?=some (.lst ds)):zw μ k=some ds:=by unfold zw;rw[h]
def AR{k:Nat}(h:k<μ.length):zw (μ.set k (.lst ds)) k=some ds:=AS (aG h)
def j6:zw (μ++[.lst ds]) μ.length=some ds:=AS (by rw[pW (ar _),aY];rfl)
def PV{k:Nat}(h:zw μ k=some ds):zw (μ++[m]) k=some ds:=AS (by rw[uO (kN (mn h)).1];exact mn h)
abbrev DE:=ao (aq D)
mutual
def jG(φ:List ai)(H:Hp):D->V->Prop
 |.iz,v=>v=.iz
 |.bl b,v=>v=.bl b
 |.int i,v=>v=.int i
 |.str z,v=>v=.str z
 |.lst ds,v=>∃ p vs,v=.ref p/\p∉φ/\H p=some (.lst vs)/\f9 φ H ds vs
 |.tup ds,v=>∃ p vs,v=.ref p/\p∉φ/\H p=some (.tup vs)/\f9 φ H ds vs
 |.ka ks ds,v=>∃ p fR vs,v=.ref p/\p∉φ/\H p=some (.dK fR)/\fR.map (·.1)=ks/\vs=fR.map (·.2)/\f9 φ H ds vs
 |.mr k,v=>∃ p,φ[k]?=some p/\v=.ref p
 |.obj C ns ds,v=>∃ p dx fs vs,v=.ref p/\p∉φ/\H p=some (.ins C dx fs)/\fs.map (·.1)=ns/\vs=fs.map (·.2)/\f9 φ H ds vs
 |.uP ks ds,v=>∃ p o fR vs,v=.ref p/\p∉φ/\H p=some (.Dv o (.dK fR))/\fR.map (·.1)=ks/\vs=fR.map (·.2)/\f9 φ H ds vs
 |.fn a,v=>v=.ref a
def f9(φ:List ai)(H:Hp):List D->List V->Prop
 |[],vs=>vs=[]
 |d::ds,vs=>∃ v r,vs=v::r/\jG φ H d v/\f9 φ H ds r
end
structure Fr (φ:List ai)(H:Hp)(gA:List ai)(H':Hp):Prop where
 ext:∃ ψ,gA=φ++ψ/\∀ c∈ψ,H c=none
 keep:∀ c o,c∉φ->H c=some o->H' c=some o
 Zm:∀ c,H' c=none->H c=none
def Fr.refl(φ:ao ai)(H:Hp):Fr φ H φ H:=⟨⟨[],by simp,λ_ h=>nomatch h⟩,λ_ _ _ h=>h,λ_ h=>h⟩
def Fr.trans{O L:ao ai}{H1 H2:Hp}(a:Fr φ H O H1)(b:Fr O H1 L H2):Fr φ H L H2:=by
 obtain⟨⟨Y,rfl,W⟩,k1,U⟩:=a;obtain⟨⟨Z,rfl,J⟩,k2,d2⟩:=b;refine⟨⟨Y++Z,by simp,λc G=>?_⟩,λc o G e=>k2 c o (λh=>?_) (k1 c o G e),λc h=>U c (d2 c h)⟩
 .rcases List.mem_append.mp G with h | h
  .exact W c h
  .exact U c (J c h)
 .rcases List.mem_append.mp h with h | h
  .exact G h
  .rw[W c h]at e;cases e
def Fr.same(h:iM H H'):Fr φ H φ H':=⟨⟨[],by simp,λ_ h=>nomatch h⟩,λc o _ e=>h c o e,λc e=>h.free e⟩
def Fr.new{p:ai}{o:HO}(h:H p=none):Fr φ H φ (upd H p o):=.same (iM.upd h)
def Fr.put{p:ai}{o:HO}(h:p∈φ):Fr φ H φ (upd H p o) :=
 ⟨⟨[],by simp,λ_ h=>nomatch h⟩,λc u G e=>by rw[gr (show c≠p from λz=>G (by rw[z];exact h))];exact e,λc e=>by
  unfold upd at e
  split at e
  .cases e
  .exact e⟩
def Fr.snoc{p:ai}(h:H p=none):Fr φ H (φ++[p]) H:=⟨⟨[p],rfl,λc G=>by rw[List.mem_singleton.mp G];exact h⟩,λ_ _ _ e=>e,λ_ e=>e⟩
def Fr.zq{G:ao ai}(f:Fr φ H G H'){p:ai}{o:HO}(h:p∉φ)(e:H p=some o):p∉G:=by
 obtain⟨⟨O,rfl,L⟩,_,_⟩:=f;intro J;rcases List.mem_append.mp J with q|q
 .exact h q
 .rw[L p q]at e;cases e
def Fr.get{G:ao ai}(f:Fr φ H G H'){k:Nat}{p:ai}(h:φ[k]?=some p):G[k]?=some p:=by obtain⟨⟨J,rfl,L⟩,_,_⟩:=f;rw[uO (kN h).1];exact h
mutual
theorem jG.mono{φ J:List ai}{H H':Hp}(f:Fr φ H J H'):∀ {d:D} {v:V},jG φ H d v->jG J H' d v
 |.iz,_,h=>h
 |.bl _,_,h=>h
 |.int _,_,h=>h
 |.str _,_,h=>h
 |.lst _,_,h=>by obtain⟨p,vs,e,n,G,q⟩:=h;exact⟨p,vs,e,f.zq n G,f.keep _ _ n G,f9.mono f q⟩
 |.tup _,_,h=>by obtain⟨p,vs,e,n,G,q⟩:=h;exact⟨p,vs,e,f.zq n G,f.keep _ _ n G,f9.mono f q⟩
 |.ka _ _,_,h=>by obtain⟨p,fR,vs,e,n,G,q1,q2,q⟩:=h;exact⟨p,fR,vs,e,f.zq n G,f.keep _ _ n G,q1,q2,f9.mono f q⟩
 |.mr _,_,h=>by obtain⟨p,e,q⟩:=h;exact⟨p,f.get e,q⟩
 |.obj _ _ _,_,h=>by obtain⟨p,dx,fs,vs,e,n,G,q1,q2,q⟩:=h;exact⟨p,dx,fs,vs,e,f.zq n G,f.keep _ _ n G,q1,q2,f9.mono f q⟩
 |.uP _ _,_,h=>by obtain⟨p,dx,fs,vs,e,n,G,q1,q2,q⟩:=h;exact⟨p,dx,fs,vs,e,f.zq n G,f.keep _ _ n G,q1,q2,f9.mono f q⟩
 |.fn _,_,h=>h
theorem f9.mono{φ G:List ai}{H H':Hp}(f:Fr φ H G H'):∀ {ds:List D} {vs:List V},f9 φ H ds vs->f9 G H' ds vs
 |[],_,h=>h
 |_::_,_,h=>by obtain⟨v,r,e,h1,h2⟩:=h;exact⟨v,r,e,jG.mono f h1,f9.mono f h2⟩
end
theorem f9.len{φ:ao ai}{H:Hp}:∀ {ds:ao D} {vs:ao V},f9 φ H ds vs->vs.length=ds.length
 |[],_,h=>by rw[show _=[]from h];rfl
 |d::ds,_,h=>by obtain⟨v,r,rfl,_,h2⟩:=h;rw[aU,aU,f9.len h2]
theorem f9.get{φ:ao ai}{H:Hp}:∀ {ds:ao D} {vs:ao V} {i:Nat} {d:D},f9 φ H ds vs->ds[i]?=some d->∃ v,vs[i]?=some v/\jG φ H d v
 |[],_,i,d,h,e=>by simp at e
 |d::ds,_,0,d',h,e=>by obtain⟨G,r,rfl,h1,h2⟩:=h;simp at e;subst e;exact⟨G,rfl,h1⟩
 | d::ds,_,i+1,d',h,e=>by obtain⟨G,r,rfl,h1,h2⟩:=h;obtain⟨v,e1,e2⟩:=f9.get (i:=i) h2 (by simpa using e);exact⟨v,by simpa using e1,e2⟩
def f9.Du(h:f9 φ H ds vs)(e:vs[i]?=some v):∃ d,ds[i]?=some d/\jG φ H d v:=by have hl:=h.len;have hi:=(kN e).1;obtain⟨u,e1,e2⟩:=h.get (d:=ds[i]'(by lia)) (jo (by lia));rw[e]at e1;cases e1;exact⟨_,jo (by lia),e2⟩
theorem f9.app{φ:ao ai}{H:Hp}:∀ {ds es:ao D} {vs us:ao V},f9 φ H ds vs->f9 φ H es us->f9 φ H (ds++es) (vs++us)
 |[],_,_,_,h,g=>by rw[show _=[]from h];exact g
 |d::ds,es,_,us,h,g=>by obtain⟨v,r,rfl,h1,h2⟩:=h;exact⟨v,r++us,rfl,h1,h2.app g⟩
theorem f9.take{φ:ao ai}{H:Hp}:∀ {ds:ao D} {vs:ao V} (n:Nat),f9 φ H ds vs->f9 φ H (ds.take n) (vs.take n)
 |_,_,0,_=>rfl
 |[],_,n+1,h=>by rw[show _=[]from h];rfl
 |d::ds,_,n+1,h=>by obtain⟨v,r,rfl,h1,h2⟩:=h;exact⟨v,r.take n,rfl,h1,h2.take n⟩
theorem f9.drop{φ:ao ai}{H:Hp}:∀ {ds:ao D} {vs:ao V} (n:Nat),f9 φ H ds vs->f9 φ H (ds.drop n) (vs.drop n)
 |_,_,0,h=>h
 |[],_,n+1,h=>by rw[show _=[]from h];rfl
 |d::ds,_,n+1,h=>by obtain⟨v,r,rfl,h1,h2⟩:=h;exact h2.drop n
theorem f9.set{φ:ao ai}{H:Hp}{d:D}{v:V}(hd:jG φ H d v):∀ {ds:ao D} {vs:ao V} (n:Nat),f9 φ H ds vs->f9 φ H (ds.set n d) (vs.set n v)
 |[],_,n,h=>by rw[show _=[]from h];cases n<;>rfl
 |e::ds,_,0,h=>by obtain⟨w,r,rfl,h1,h2⟩:=h;exact⟨v,r,rfl,hd,h2⟩
 |e::ds,_,n+1,h=>by obtain⟨w,r,rfl,h1,h2⟩:=h;exact⟨w,r.set n v,rfl,h1,h2.set hd n⟩
theorem f9.ints{φ:ao ai}{H:Hp}:∀ {ns:ao Int} {vs:ao V},f9 φ H (ns.map D.int) vs->vs=ns.map V.int
 |[],_,h=>h
 |n::ns,_,h=>by obtain⟨v,r,rfl,h1,h2⟩:=h;rw[show v=.int n from h1,f9.ints h2];rfl
theorem f9.bls{φ:ao ai}{H:Hp}:∀ {ns:ao Bool} {vs:ao V},f9 φ H (ns.map D.bl) vs->vs=ns.map V.bl
 |[],_,h=>h
 |n::ns,_,h=>by obtain⟨v,r,rfl,h1,h2⟩:=h;rw[show v=.bl n from h1,f9.bls h2];rfl
theorem f9.strs{φ:ao ai}{H:Hp}:∀ {ns:ao Str} {vs:ao V},f9 φ H (ns.map D.str) vs->vs=ns.map V.str
 |[],_,h=>h
 |n::ns,_,h=>by obtain⟨v,r,rfl,h1,h2⟩:=h;rw[show v=.str n from h1,f9.strs h2];rfl
def BxF(φ:ao ai)(H:Hp)(b:ai):Prop:=∃(q:ai) (ns:ao Int) (i r z:Int),H b=some (.lst [.ref q,.int i,.int r,.int z])/\H q=some (.lst (ns.map V.int))/\q∉φ/\0<=i/\0<=z/\z<2147483647
def mZ(p:ai)(c:ak)(h:Heap):Prop:=∃ oe vs,h.get? p=some oe/\oe.cls=c/\oe.dict=none/\oe.data=.fields vs/\vs[2]?=some .none
def yY(φ:ao ai)(H:Hp):MO->ai->Prop
 |.box,p=>BxF φ H p
 |.lst ds,p=>∃ vs,H p=some (.lst vs)/\f9 φ H ds vs
 |.ka ks ds,p=>∃ fR vs,H p=some (.dK fR)/\fR.map (·.1)=ks/\vs=fR.map (·.2)/\f9 φ H ds vs
 |.xS o fR ds,p=>H p=some (.Dv o (.dK fR))/\f9 φ H ds (fR.map (·.2))
 |.ins C ns ds,p=>∃ dx fs,H p=some (.ins C dx fs)/\fs.map (·.1)=ns/\f9 φ H ds (fs.map (·.2))
 |.lF ks ds,p=>∃ fR,H p=some (.dT fR)/\fR.map (·.1)=ks/\f9 φ H ds (fR.map (·.2))
 |.gx ij H0,p=>Fr ij H0 φ H/\H p=H0 p/\(∃ o,H p=some o)/\∀ zs,H p≠some (.tup zs)
 |.exc c,p=>H p=some (.ext (mZ p c))
structure gz (φ:List ai)(H:Hp)(μ:MS):Prop where
 nd:φ.Nodup
 len:φ.length=μ.length
 at_:∀(k:Nat) (m:MO),μ[k]?=some m->∃ p,φ[k]?=some p/\yY φ H m p
def yY.mono{φ L:ao ai}{H H':Hp}(f:Fr φ H L H'){m:MO}{p:ai}(s:∀ o,H p=some o->H' p=some o)(h:yY φ H m p):yY L H' m p:=by
 cases m with
 |box=>obtain⟨q,ns,i,r,z,h1,h2,G,J⟩:=h;exact⟨q,ns,i,r,z,s _ h1,f.keep _ _ G h2,f.zq G h2,J⟩
 |lst ds=>obtain⟨vs,h1,h2⟩:=h;exact⟨vs,s _ h1,h2.mono f⟩
 |ka ks ds=>obtain⟨fR,vs,h1,h2,G,J⟩:=h;exact⟨fR,vs,s _ h1,h2,G,J.mono f⟩
 |xS o fR ds=>exact⟨s _ h.1,h.2.mono f⟩
 |ins C ns ds=>obtain⟨dx,fs,h1,h2,G⟩:=h;exact⟨dx,fs,s _ h1,h2,G.mono f⟩
 |lF ks ds=>obtain⟨fR,h1,h2,G⟩:=h;exact⟨fR,s _ h1,h2,G.mono f⟩
 |gx ij H0=>obtain⟨h1,h2,⟨o,G⟩,J⟩:=h;exact⟨h1.trans f,(s _ G).trans (G.symm.trans h2),⟨o,s _ G⟩,λzs e=>J zs (G.trans ((s _ G).symm.trans e))⟩
 |exc c=>exact s _ h
def yY.ex{p:ai}(h:yY φ H m p):∃ o,H p=some o:=by
 cases m with
 |box=>obtain⟨q,ns,i,r,z,h1,_⟩:=h;exact⟨_,h1⟩
 |lst ds=>obtain⟨vs,h1,_⟩:=h;exact⟨_,h1⟩
 |ka ks ds=>obtain⟨fR,vs,h1,_⟩:=h;exact⟨_,h1⟩
 |xS o fR ds=>exact⟨_,h.1⟩
 |ins C ns ds=>obtain⟨dx,fs,h1,_⟩:=h;exact⟨_,h1⟩
 |lF ks ds=>obtain⟨fR,h1,_⟩:=h;exact⟨_,h1⟩
 |gx ij H0=>exact h.2.2.1
 |exc c=>exact⟨_,h⟩
def gz.same{φ:ao ai}{H H':Hp}{μ:MS}(h:gz φ H μ)(s:iM H H'):gz φ H' μ :=
 ⟨h.nd,h.len,λk m e=>let ⟨p,e1,e2⟩:=h.at_ k m e;⟨p,e1,e2.mono (.same s) λo q=>s _ _ q⟩⟩
def gz.mem(h:gz φ H μ){p:ai}(G:p∈φ):∃ o,H p=some o:=by obtain⟨k,hk,e⟩:=aZ G;obtain⟨q,e1,e2⟩:=h.at_ k (μ[k]'(by have:=h.len;lia)) (jo _);rw[jo hk,e]at e1;cases e1;exact e2.ex
def gz.fresh(h:gz φ H μ){p:ai}(G:H p=none):p∉φ:=λq=>by obtain⟨o,e⟩:=h.mem q;rw[G]at e;cases e
def gz.snoc{φ:ao ai}{H:Hp}{μ:MS}{m:MO}{p:ai}{o:HO}(h:gz φ H μ)(G:H p=none)(hm:yY (φ++[p]) (upd H p o) m p):gz (φ++[p]) (upd H p o) (μ++[m])/\Fr φ H (φ++[p]) (upd H p o):=by
 have J:Fr φ H (φ++[p]) H:=.snoc G;have f:Fr φ H (φ++[p]) (upd H p o):=⟨J.ext,λc u O e=>iM.upd G _ _ e,λc e=>(iM.upd G).free e⟩;refine⟨⟨?_,by rw[o4,o4,h.len];rfl,λk n e=>?_⟩,f⟩
 .rw[fb];exact⟨h.nd,by simp,λa ha b hb=>by rw[List.mem_singleton.mp hb];intro z;exact h.fresh G (by rw[<- z];exact ha)⟩
 .by_cases hk:k<μ.length
  .rw[uO hk]at e;obtain⟨q,e1,e2⟩:=h.at_ k n e;exact⟨q,f.get e1,e2.mono f λu L=>iM.upd G _ _ L⟩
  .have JV:k=μ.length:=by have:=(kN e).1;rw[o4,bM]at this;lia
   subst JV
   rw[pW (ar _),aY]at e
   cases e
   exact⟨p,by rw[pW (by rw[h.len];exact ar _),h.len,aY];rfl,hm⟩
def gz.put{φ:ao ai}{H:Hp}{μ:MS}{m:MO}{p:ai}{o:HO}{k:Nat}(h:gz φ H μ)(hk:φ[k]?=some p)(hm:yY φ (upd H p o) m p):gz φ (upd H p o) (μ.set k m):=by
 have O:p∈φ:=mR hk;have f:Fr φ H φ (upd H p o):=.put O;refine⟨h.nd,by rw[bL];exact h.len,λj n e=>?_⟩;by_cases G:k=j
 .subst G;have hl:k<μ.length:=by have:=(kN hk).1;have:=h.len;lia
  rw[aG hl]at e;cases e;exact⟨p,hk,hm⟩
 .rw[aJ G]at e;obtain⟨q,e1,e2⟩:=h.at_ j n e;refine⟨q,e1,e2.mono f λu U=>?_⟩;rw[gr]
  .exact U
  .intro z;subst z;have a1:=kN hk;have a2:=kN e1;obtain⟨i1,L⟩:=a1;obtain⟨i2,J⟩:=a2;rcases Nat.lt_or_gt_of_ne G with z|z
   .exact List.pairwise_iff_getElem.mp h.nd k j i1 i2 z (L.trans J.symm)
   .exact List.pairwise_iff_getElem.mp h.nd j k i2 i1 z (J.trans L.symm)
def kX(φ:ao ai)(H:Hp)(ρ:DE)(σ:St):Prop:=ρ.length=σ.length/\∀(i:Nat) (d:D),ρ[i]?=some (some d)->∃ v,σ[i]?=some (some v)/\jG φ H d v
def kX.mono{φ G:ao ai}{H H':Hp}{ρ:DE}{σ:St}(f:Fr φ H G H')(h:kX φ H ρ σ):kX G H' ρ σ:=⟨h.1,λi d e=>let ⟨v,a,b⟩:=h.2 i d e;⟨v,a,b.mono f⟩⟩
def kX.set{φ:ao ai}{H:Hp}{ρ:DE}{σ:St}{d:D}{v:V}(h:kX φ H ρ σ)(hd:jG φ H d v)(i:Nat):kX φ H (ρ.set i (some d)) (σ.set i (some v)):=by
 refine⟨by rw[bL,bL];exact h.1,λj e G=>?_⟩;by_cases J:i=j
 .subst J;have hl:i<ρ.length:=by have:=(kN G).1;rwa [bL]at this
  rw[aG hl]at G;cases G;exact⟨v,aG (by rw[<- h.1];exact hl),hd⟩
 .rw[aJ J]at G;obtain⟨u,a,b⟩:=h.2 j e G;exact⟨u,by rw[aJ J];exact a,b⟩
def lv(μ:MS):D->aq (ao D)
 |.lst ds=>some ds
 |.mr k=>zw μ k
 |_=>none
def lc:D->ao D->MS->Prop
 |.mr k,ds=>λμ=>zw μ k=some ds
 |_,_=>λ_=>True
def kz(M:gz φ H μ)(i:jG φ H d v)(h:lv μ d=some ds):∃ p vs,v=.ref p/\H p=some (.lst vs)/\f9 φ H ds vs:=by
 cases d with
 |lst es=>cases h;obtain⟨p,vs,rfl,_,G,ha⟩:=i;exact⟨p,vs,rfl,G,ha⟩
 | mr k =>obtain⟨p,G,rfl⟩:=i;have e:=mn (show zw μ k=some ds from h);obtain⟨q,e1,vs,J,ha⟩:=M.at_ k _ e;rw[G]at e1;cases e1;exact⟨p,vs,rfl,J,ha⟩
 |_=>cases h
def rh{J:ao ai}{L:MS}{p:ai}(M:gz φ H μ)(i:jG φ H d (.ref p))(h:lv μ d=some ds)(f:Fr φ H J H')(W:gz J H' L)(c:lc d ds L):∃ vs,H' p=some (.lst vs)/\f9 J H' ds vs:=by
 cases d with
 |lst es=>cases h;obtain⟨O,vs,e,n,G,ha⟩:=i;cases e;exact⟨vs,f.keep _ _ n G,ha.mono f⟩
 | mr k =>obtain⟨O,G,e⟩:=i;cases e;obtain⟨q,e1,vs,U,ha⟩:=W.at_ k _ (mn c);rw[f.get G]at e1;cases e1;exact⟨vs,U,ha⟩
 |_=>cases h
def vz(h:lv μ d=some ds):lc d ds μ:=by cases d<;>first|trivial|exact h
abbrev DK:=D->MS->Prop
abbrev De:=DE->MS->DK->Prop
variable{wa:De}
abbrev DA:=DE->MS->(ao D->MS->Prop)->Prop
abbrev Dt:=DE->MS->(Bool->MS->Prop)->Prop
def vM(φ:ao ai)(H:Hp)(K:DK)(Q:VK):Prop:=∀ d J G v H',K d J->Fr φ H G H'->gz G H' J->jG G H' d v->Q v H'
def vM.mono{G:ao ai}{H1:Hp}{K:DK}{Q:VK}(h:vM φ H K Q)(f:Fr φ H G H1):vM G H1 K Q:=λd L J v H' k g m i=>h d L J v H' k (f.trans g) m i
def tD(w:De):TE:=λσ H Q=>∃ φ ρ μ K,kX φ H ρ σ/\gz φ H μ/\w ρ μ K/\vM φ H K Q
def VH(w:DA):TA:=λσ H Q=>∃ φ ρ μ K,kX φ H ρ σ/\gz φ H μ/\w ρ μ K/\∀ ds J G vs H',K ds J->Fr φ H G H'->gz G H' J->f9 G H' ds vs->Q vs H'
def yE(w:Dt):TT:=λσ H Q=>∃ φ ρ μ K,kX φ H ρ σ/\gz φ H μ/\w ρ μ K/\∀ b J G H',K b J->Fr φ H G H'->gz G H' J->Q b H'
section
variable {X:Cx}{a b e:Expr}{pos:Pos}
abbrev PD(X:Cx)(e:Expr)(w:De):Prop:=PE X e (tD w)
def vS(i:Nat):De:=λρ μ K=>match ρ[i]? with|some (some d)=>K d μ|_=>False
def dC(d:D):De:=λ_ μ K=>K d μ
def dv(i:Nat){pos:Pos}(G:X.N[i]?=some x:=by rfl)(hv:Yq X.env.scope x:=by first | exact Or.inl rfl | exact Or.inr (Or.inl rfl) | exact Or.inr (Or.inr rfl))(hd:(x==("__debug__" : Str))=false:=by decide)
 (Dq:(x==("__classdict__" : Str))=false:=by decide):PD X (.Name x pos) (vS i):=(Lq (i:=i) G hv hd Dq).imp λσ H Q q=>by
 obtain⟨φ,ρ,μ,K,E,M,w,L⟩:=q;unfold vS at w;split at w
 .rename_i d hd;obtain⟨v,e,r⟩:=E.2 i d hd;exact⟨v,e,L d μ φ v H w (.refl _ _) M r⟩
 .exact w.elim
def fP{i j pos}:PD X (.Constant (.int i) j pos) (dC (.int i)):=iw.imp λσ H Q G=>by obtain⟨φ,ρ,μ,K,E,M,w,L⟩:=G;exact L _ _ φ _ H w (.refl _ _) M rfl
def Fw{b j pos}:PD X (.Constant (.bool b) j pos) (dC (.bl b)):=LA.imp λσ H Q G=>by obtain⟨φ,ρ,μ,K,E,M,w,L⟩:=G;exact L _ _ φ _ H w (.refl _ _) M rfl
def vG{j pos}:PD X (.Constant .none j pos) (dC .iz):=TM.imp λσ H Q G=>by obtain⟨φ,ρ,μ,K,E,M,w,L⟩:=G;exact L _ _ φ _ H w (.refl _ _) M rfl
def gR{x j pos}:PD X (.Constant (.str x) j pos) (dC (.str x)):=TL.imp λσ H Q G=>by obtain⟨φ,ρ,μ,K,E,M,w,L⟩:=G;exact L _ _ φ _ H w (.refl _ _) M rfl
abbrev vV:=D->D->MS->DK->Prop
def wL(G:vV)(wa wb:De):De:=λρ μ K=>wa ρ μ λx L=>wb ρ L λy J=>G x y J K
def p7(r:R2)(J:vV):Prop:=∀ φ H x y dx G μ K Q,gz φ H μ->jG φ H dx x->jG φ H G y->J dx G μ K->vM φ H K Q->r x y H Q
def Gj{r:R2}{G:vV}{wb:De}(so:p7 r G){Q:VK}(h:tD (wL G wa wb) σ H Q):We r (tD wa) (tD wb) σ H Q:=by obtain⟨φ,ρ,μ,K,E,M,w,L⟩:=h;refine⟨φ,ρ,μ,_,E,M,w,λd1 gh gC W H1 k1 O M1 i1=>?_⟩;refine⟨gC,ρ,gh,_,E.mono O,M1,k1,λd2 Z Y U H2 k2 J M2 i2=>?_⟩;exact so Y H2 W U d1 d2 Z K Q M2 (i1.mono J) i2 k2 (L.mono (O.trans J))
def p5{op:Operator}{r:R2}{G:vV}{wb:De}(h:k7 X (binaryOp op) r)(so:p7 r G)(ha:PD X a wa)(hb:PD X b wb):PD X (.BinOp a op b pos) (wL G wa wb):=(lp h ha hb).imp λσ H Q q=>Gj so q
def DQ{r:R2}{G:vV}{wb:De}(h:k7 X (compareOp op) r)(so:p7 r G)(ha:PD X a wa)(hb:PD X b wb)(hm:behindInMarks op b=false):PD X (.Compare a [op] [b] pos) (wL G wa wb):=(sW h ha hb hm).imp λσ H Q q=>Gj so q
def d_ix{r:R2}{G:vV}{wb:De}(h:HW X r)(so:p7 r G)(ha:PD X a wa)(hb:PD X b wb)(J:BF b):PD X (.Subscript a b pos) (wL G wa wb):=(qm h ha hb J).imp λσ H Q q=>Gj so q
def pJ(w:De):Dt:=λρ μ K=>w ρ μ λd G=>match d with|.bl b=>K b G|_=>False
def ON{w:De}{Q:Bool->Hp->Prop}(h:yE (pJ w) σ H Q):cB (tD w) σ H Q:=by
 obtain⟨φ,ρ,μ,K,E,M,k,L⟩:=h;refine⟨φ,ρ,μ,_,E,M,k,λd O J v H' G f U i=>?_⟩;cases d with
 |bl b=>cases(show v=_ from i);exact L b O J H' G f U
 |_=>exact G.elim
def jT{w:De}(h:PD X e w)(he:∀ G,isTrue e X.env G=(do let v <- G;standAt e.pos;holding [v] (truthy v)):=by intro _;rfl):PT X e (yE (pJ w)):=(sV h he).imp λσ H Q q=>ON q
def lO{r:R2}{G:vV}{wb:De}(h:k7 X (compareOp op) r)(so:p7 r G)(ha:PD X a wa)(hb:PD X b wb)(hm:behindInMarks op b=false):PT X (.Compare a [op] [b] pos) (yE (pJ (wL G wa wb))) :=
 (nU h ha hb hm).imp λσ H Q q=>by
  obtain⟨φ,ρ,μ,K,E,M,k,L⟩:=q;refine Gj so ⟨φ,ρ,μ,_,E,M,k,λd U O v H' J f W i=>?_⟩;cases d with
  |bl b=>cases(show v=_ from i);exact L b U O H' J f W
  |_=>exact J.elim
def QK(neg:Bool)(w:De):De:=λρ μ K=>w ρ μ λd G=>match d with|.iz=>K (.bl (!neg)) G|_=>K (.bl neg) G
def Ms(i:jG φ H d v):decide (v=V.iz)=(match d with | .iz=>true | _=>false):=by
 cases d with
 |iz=>cases(show v=_ from i);rfl
 |bl _=>cases(show v=_ from i);rfl
 |int _=>cases(show v=_ from i);rfl
 |str _=>cases(show v=_ from i);rfl
 |lst _=>obtain⟨p,vs,rfl,_⟩:=i;rfl
 |tup _=>obtain⟨p,vs,rfl,_⟩:=i;rfl
 |ka _ _=>obtain⟨p,fR,vs,rfl,_⟩:=i;rfl
 |mr _=>obtain⟨p,_,rfl⟩:=i;rfl
 |obj _ _ _=>obtain⟨p,dx,fs,vs,rfl,_⟩:=i;rfl
 |uP _ _=>obtain⟨p,dx,fs,vs,rfl,_⟩:=i;rfl
 |fn _=>cases(show v=_ from i);rfl
def SS{w:De}{Q:VK}(h:tD (QK false w) σ H Q):Wg (tD w) σ H Q:=by obtain⟨φ,ρ,μ,K,E,M,k,L⟩:=h;refine⟨φ,ρ,μ,_,E,M,k,λd O J v H' G f U i=>?_⟩;show Q (.bl _) H';rw[Ms i];cases d<;>exact L _ O J _ H' G f U rfl
def OK{w:De}{Q:VK}(h:tD (QK true w) σ H Q):Rp (tD w) σ H Q:=by obtain⟨φ,ρ,μ,K,E,M,k,L⟩:=h;refine⟨φ,ρ,μ,_,E,M,k,λd O J v H' G f U i=>?_⟩;show Q (.bl _) H';rw[Ms i];cases d<;>exact L _ O J _ H' G f U rfl
end
section
variable {X:Cx}{a b e:Expr}{es:ao Expr}{pos:Pos}
def PA.imp{es:ao Expr}{t t':TA}(h:PA X es t)(hi:∀ σ H Q,t' σ H Q->t σ H Q):PA X es t':=λpos fE s σ H Q I q=>h pos fE s σ H Q I (hi σ H Q q)
def BG.imp{st:ao Stmt}{t t':TS}(h:BG X st t)(hi:∀ D σ H,t' D σ H->t D σ H):BG X st t':=λfE s σ H D I q=>h fE s σ H D I (hi D σ H q)
def JC:DA:=λ_ μ K=>K [] μ
def ue(wa:De)(wr:DA):DA:=λρ μ K=>wa ρ μ λx J=>wr ρ J λxs G=>K (x::xs) G
abbrev u9(X:Cx)(es:ao Expr)(w:DA):Prop:=PA X es (VH w)
def g9:u9 X [] JC:=iJ.imp λσ H Q G=>by obtain⟨φ,ρ,μ,K,E,M,w,L⟩:=G;exact L [] μ φ [] H w (.refl _ _) M rfl
def fJ{wr:DA}(ha:PD X e wa)(Z:u9 X es wr)(Y:starEach (e::es) X.env=(false,eval e X.env)::starEach es X.env:=by rfl):u9 X (e::es) (ue wa wr):=(gm ha Z Y).imp λσ H Q q=>by obtain⟨φ,ρ,μ,K,E,M,w,L⟩:=q;refine⟨φ,ρ,μ,_,E,M,w,λd1 gh gC O H1 k1 J M1 i1=>?_⟩;refine⟨gC,ρ,gh,_,E.mono J,M1,k1,λds W U vs H2 k2 G M2 i2=>?_⟩;exact L _ W U _ H2 k2 (J.trans G) M2 ⟨O,vs,rfl,i1.mono G,i2⟩
def Vq{K:DK}{Q:VK}{p:ai}(L:vM φ H K Q)(M:gz φ H μ)(h:f9 φ H ds vs)(k:K (.lst ds) μ)(G:H p=none):Q (.ref p) (upd H p (.lst vs)) :=
 L _ μ φ _ _ k (.new G) (M.same (iM.upd G)) ⟨p,vs,rfl,M.fresh G,gc,h.mono (.new G)⟩
def Vp{K:DK}{Q:VK}{p:ai}(L:vM φ H K Q)(M:gz φ H μ)(h:f9 φ H ds vs)(k:K (.tup ds) μ)(G:H p=none):Q (.ref p) (upd H p (.tup vs)) :=
 L _ μ φ _ _ k (.new G) (M.same (iM.upd G)) ⟨p,vs,rfl,M.fresh G,gc,h.mono (.new G)⟩
def Yn{K:DK}{Q:VK}{p:ai}(L:vM φ H K Q)(M:gz φ H μ)(h:f9 φ H ds vs)(k:K (.mr μ.length) (μ++[.lst ds]))(G:H p=none):Q (.ref p) (upd H p (.lst vs)):=by have f:Fr φ H (φ++[p]) (upd H p (.lst vs)):=⟨(Fr.snoc (φ:=φ) G).ext,λc u _ e=>iM.upd G _ _ e,λc e=>(iM.upd G).free e⟩;obtain⟨J,_⟩:=M.snoc (m:=.lst ds) (o:=.lst vs) G ⟨vs,gc,h.mono f⟩;exact L _ _ _ _ _ k f J ⟨p,by rw[pW (by rw[M.len];exact ar _),M.len,aY];rfl,rfl⟩
def nL(m:Bool)(ds:ao D)(μ:MS)(K:DK):Prop:=match m with|false=>K (.lst ds) μ|true=>K (.mr μ.length) (μ++[.lst ds])
def N4{m:Bool}{K:DK}{Q:VK}{p:ai}(L:vM φ H K Q)(M:gz φ H μ)(h:f9 φ H ds vs)(k:nL m ds μ K)(G:H p=none):Q (.ref p) (upd H p (.lst vs)):=by
 cases m with
 |false=>exact Vq L M h k G
 |true=>exact Yn L M h k G
def dLst(m:Bool)(w:DA):De:=λρ μ K=>w ρ μ λds G=>ds.length<=sizeLine/\nL m ds G K
def dTup(w:DA):De:=λρ μ K=>w ρ μ λds G=>ds.length<=sizeLine/\K (.tup ds) G
def jL{w:DA}(m:Bool)(h:u9 X es w):PD X (.List es pos) (dLst m w):=(Lu h).imp λσ H Q ⟨φ,ρ,μ,K,E,M,w,L⟩ =>⟨φ,ρ,μ,_,E,M,w,λds O U vs H1 k1 J M1 i1=>⟨by rw[i1.len];exact k1.1,λp G=>N4 (L.mono J) M1 i1 k1.2 G⟩⟩
def kU{w:DA}{G}(h:u9 X es w):PD X (.Tuple es G pos) (dTup w):=(TK h).imp λσ H Q ⟨φ,ρ,μ,K,E,M,w,L⟩ =>⟨φ,ρ,μ,_,E,M,w,λds U W vs H1 k1 O M1 i1=>⟨by rw[i1.len];exact k1.1,λp J=>Vp (L.mono O) M1 i1 k1.2 J⟩⟩
abbrev jZ:=ao D->MS->DK->Prop
def iL(f:jZ):Sp:=λvs H Q _=>∃ φ ds μ K,f9 φ H ds vs/\gz φ H μ/\f ds μ K/\vM φ H K Q
def vI(f:jZ)(w:DA):De:=λρ μ K=>w ρ μ λds G=>f ds G K
def Vc{f:jZ}{w:DA}{p:Pos}{k:Nat}(C:nO X.prog X.w X.K X.mg X.fF x k ps (iL f))(J:jE k X.A)(O:Gl X x)(ha:u9 X (e::es) w)
 (G:(x==("__debug__" : Str))=false:=by decide) (he:starEach (e::es) X.env=(false,eval e X.env)::starEach es X.env:=by rfl) (nK:(backTo pos (starEach es X.env)).any (·.1)=false:=by rfl):
 PD X (.Call (.Name x p) (e::es) [] pos) (vI f w):=(xC C J O ha G he nK).imp λσ H Q ⟨φ,ρ,μ,K,E,M,w,L⟩=>
 ⟨φ,ρ,μ,_,E,M,w,λds U W vs H1 k1 Y M1 i1=>by show iL f (vs++[]) H1 Q E0;rw[b9];exact⟨W,ds,U,K,i1,M1,k1,L.mono Y⟩⟩
def oG(r:ao V->Hp->VK->Prop)(f:jZ):Prop:=∀ φ H vs ds μ K Q,gz φ H μ->f9 φ H ds vs->f ds μ K->vM φ H K Q->r vs H Q
def Rr{f:jZ}{w:DA}(so:oG r f){Q:VK}(h:tD (vI f w) σ H Q):YT r (VH w) σ H Q:=by obtain⟨φ,ρ,μ,K,E,M,w,L⟩:=h;exact⟨φ,ρ,μ,_,E,M,w,λds G J vs H1 k1 O M1 i1=>so J H1 vs ds G K Q M1 i1 k1 (L.mono O)⟩
def ny{f:jZ}{w:DA}{id:String}{p:Pos}(O:jM X (.builtin id) r)(so:oG r f)(L:Gl X x)(hm:X.mg x=none)(G:bootBuiltins x=some (.builtin id))(ha:u9 X (e::es) w)(J:x ≠ "__name__":=by decide)(vR:(x==("__debug__" : Str))=false:=by decide)
 (he:starEach (e::es) X.env=(false,eval e X.env)::starEach es X.env:=by rfl) (nK:(backTo pos (starEach es X.env)).any (·.1)=false:=by rfl):PD X (.Call (.Name x p) (e::es) [] pos) (vI f w):=
 (hJ O L hm G ha J vR he nK).imp λσ H Q q=>Rr so q
def yS{f:jZ}{w:DA}{T:String}{p:Pos}(O:jM X (.type T) r)(so:oG r f)(L:Gl X x)(hm:X.mg x=none)(G:bootBuiltins x=some (.type T))(ha:u9 X (e::es) w)(J:x ≠ "__name__":=by decide)(vR:(x==("__debug__" : Str))=false:=by decide)
 (he:starEach (e::es) X.env=(false,eval e X.env)::starEach es X.env:=by rfl) (nK:(backTo pos (starEach es X.env)).any (·.1)=false:=by rfl):PD X (.Call (.Name x p) (e::es) [] pos) (vI f w):=
 (zj O L hm G ha J vR he nK).imp λσ H Q q=>Rr so q
abbrev Vw:=D->ao D->MS->DK->Prop
def N6(K:aa)(T:String)(r:V->ao V->Hp->VK->Prop)(f:Vw):Prop:=∀ φ H x vs d ds μ G Q,gz φ H μ->jG φ H d x->f9 φ H ds vs->f d ds μ G->vM φ H G Q->r x vs H Q
def V3(T:String)(μ:MS):D->Prop
 |.str _=>T = "str"
 |.lst _=>T = "list"
 |.ka _ _=>T = "dict"
 |.mr k=>match μ[k]? with|some (.lst _)=>T = "list" | some (.ka _ _)=>T = "dict" | _=>False
 |_=>False
def V3.is{T:String}(M:gz φ H μ)(i:jG φ H d v)(h:V3 T μ d):ZJ Kf T v H:=by
 cases d with
 |str z=>cases(show v=_ from i);exact h
 |lst ds=>obtain⟨p,vs,rfl,_,G,_⟩:=i;exact .inl ⟨h,vs,pS.of G⟩
 |ka ks ds=>obtain⟨p,fR,vs,rfl,_,G,_⟩:=i;exact .inr (.inr (.inl ⟨h,.inl ⟨fR,G⟩⟩))
 | mr k =>
  obtain⟨p,G,rfl⟩:=i;unfold V3 at h;dsimp only at h;cases e:μ[k]? with
  |none=>rw[e]at h;exact h.elim
  | some m =>
   obtain⟨q,e1,e2⟩:=M.at_ k m e;rw[G]at e1;cases e1;rw[e]at h;cases m with
   |box=>exact h.elim
   |lst ds=>obtain⟨vs,J,_⟩:=e2;exact .inl ⟨h,vs,pS.of J⟩
   |ka ks ds=>obtain⟨fR,vs,J,_⟩:=e2;exact .inr (.inr (.inl ⟨h,.inl ⟨fR,J⟩⟩))
   |_=>exact h.elim
 |_=>exact(show False from h).elim
def dMt(T:String)(f:Vw)(wo:De)(w:DA):De:=λρ μ K=>wo ρ μ λx G=>V3 T G x/\w ρ G λds J=>f x ds J K
def Bd{o:Expr}{name:Str}{mL lV:Pos}{T id:String}{r:V->ao V->Hp->VK->Prop}{f:Vw}{wo:De}{w:DA}(W:PlainAttrs T)(slot:Slot T name id)(G:typeOf (.builtin id)=pure (.type "method_descriptor"))(hm:N9 X id r)(so:N6 X.K T r f)(ho:PD X o wo)(ha:u9 X (e::es) w)
 (MM:attributeBase o name X.env (eval o X.env)=eval o X.env:=by rfl)
 (Qn:((backTo lV (starEach (e::es) X.env)).all (λx=>!x.1)&&(backToKw lV (keywordEach [] X.env)).all (λx=>x.1.isSome)
   && decide ((e::es).length+([]:ao Keyword).length+(if([]:ao Keyword).isEmpty then 0 else 1)<30))=true:=by rfl)
 (ME:(mL.endLine==lV.line)=true:=by rfl) (hs:starEach (e::es) X.env=(false,eval e X.env)::starEach es X.env:=by rfl) (Fe:(backTo lV (starEach es X.env)).any (·.1)=false:=by rfl):
 PD X (.Call (.Attribute o name mL) (e::es) [] lV) (dMt T f wo w):=(WH W slot G hm ho ha MM Qn ME hs Fe).imp λσ H Q q=>by
 obtain⟨φ,ρ,μ,K,E,M,w,L⟩:=q;refine⟨φ,ρ,μ,_,E,M,w,λd1 gh gC U H1 k1 O M1 i1=>⟨V3.is M1 i1 k1.1,?_⟩⟩;exact⟨gC,ρ,gh,_,E.mono O,M1,k1.2,λds Z Y vs H2 k2 J M2 i2=>so Y H2 U vs d1 ds Z K Q M2 (i1.mono J) i2 k2 (L.mono (O.trans J))⟩
def dAnd(wa wb:De):De:=λρ μ K=>wa ρ μ λx G=>match x with|.bl c=>if c=true then wb ρ G K else K (.bl false) G|_=>False
def dNot(wa:De):De:=λρ μ K=>wa ρ μ λx G=>match x with|.bl c=>K (.bl (!c)) G|_=>False
def XR(ha:PD X a wa):PD X (.UnaryOp .Not a pos) (dNot wa):=(Pm ha).imp λσ H Q q=>by
 obtain⟨φ,ρ,μ,K,E,M,w,L⟩:=q;refine⟨φ,ρ,μ,_,E,M,w,λW J O G H1 k1 U M1 i1=>?_⟩;cases W with
 |bl c=>cases(show G=_ from i1);exact L _ J O _ H1 k1 U M1 rfl
 |_=>exact k1.elim
def dNeg(wa:De):De:=λρ μ K=>wa ρ μ λx G=>match x with|.int i=>K (.int (-i)) G|_=>False
def DP(ha:PD X a wa):PD X (.UnaryOp .USub a pos) (dNeg wa):=(WG SN ha).imp λσ H Q q=>by
 obtain⟨φ,ρ,μ,K,E,M,w,L⟩:=q;refine⟨φ,ρ,μ,_,E,M,w,λW J O G H1 k1 U M1 i1=>?_⟩;cases W with
 |int c=>cases(show G=_ from i1);exact⟨c,rfl,L _ J O _ H1 k1 U M1 rfl⟩
 |_=>exact k1.elim
def Nn(t u:Dt):Dt:=λρ μ K=>t ρ μ λc G=>if c=true then u ρ G K else K false G
def Nm(t u:Dt):Dt:=λρ μ K=>t ρ μ λc G=>if c=true then K true G else u ρ G K
def So(t:Dt):Dt:=λρ μ K=>t ρ μ λc G=>K (!c) G
abbrev JN(X:Cx)(e:Expr)(w:Dt):Prop:=PT X e (yE w)
def OO{t u:Dt}{Q:Bool->Hp->Prop}(h:yE (Nn t u) σ H Q):Wm (yE t) (yE u) σ H Q:=by
 obtain⟨φ,ρ,μ,K,E,M,w,L⟩:=h;refine⟨φ,ρ,μ,_,E,M,w,λb J O H1 k1 G M1=>?_⟩;cases b with
 |true=>exact⟨O,ρ,J,_,E.mono G,M1,k1,λb W U H2 k2 Y M2=>L b W U H2 k2 (G.trans Y) M2⟩
 |false=>exact L _ J O H1 k1 G M1
def SU{t u:Dt}{Q:Bool->Hp->Prop}(h:yE (Nm t u) σ H Q):tOr (yE t) (yE u) σ H Q:=by
 obtain⟨φ,ρ,μ,K,E,M,w,L⟩:=h;refine⟨φ,ρ,μ,_,E,M,w,λb J O H1 k1 G M1=>?_⟩;cases b with
 |false=>exact⟨O,ρ,J,_,E.mono G,M1,k1,λb W U H2 k2 Y M2=>L b W U H2 k2 (G.trans Y) M2⟩
 |true=>exact L _ J O H1 k1 G M1
abbrev V4(X:Cx)(e:Expr)(w:Dt):Prop:=PW X e (yE w)
def PW.imp{e:Expr}{t t':TT}(h:PW X e t)(hi:∀ σ H Q,t' σ H Q->t σ H Q):PW X e t':=λG fE s σ H Q I q=>h G fE s σ H Q I (hi σ H Q q)
def xa{t:Dt}(h:JN X a t):V4 X (.BoolOp .And [a] pos) t:=pw_and1 h
def wZ{t:Dt}(h:JN X a t):V4 X (.BoolOp .Or [a] pos) t:=pw_or1 h
def Cm{rest:ao Expr}{t u:Dt}(ha:JN X a t)(hb:V4 X (.BoolOp .And (b::rest) pos) u):V4 X (.BoolOp .And (a::b::rest) pos) (Nn t u):=(pw_and ha hb).imp λσ H Q q=>OO q
def yD{rest:ao Expr}{t u:Dt}(ha:JN X a t)(hb:V4 X (.BoolOp .Or (b::rest) pos) u):V4 X (.BoolOp .Or (a::b::rest) pos) (Nm t u):=(pw_or ha hb).imp λσ H Q q=>SU q
def zb{t:Dt}(h:JN X a t):JN X (.UnaryOp .Not a pos) (So t):=(Tv h).imp λσ H Q q=>by obtain⟨φ,ρ,μ,K,E,M,w,L⟩:=q;exact⟨φ,ρ,μ,_,E,M,w,λb G J H1 k1 O M1=>L _ G J H1 k1 O M1⟩
def dIf(t:Dt)(wa wb:De):De:=λρ μ K=>t ρ μ λc G=>if c=true then wa ρ G K else wb ρ G K
def QF{c:Expr}{t:Dt}{wb:De}(U:JN X c t)(ha:PD X a wa)(hb:PD X b wb):PD X (.IfExp c a b pos) (dIf t wa wb):=(Lv U ha hb).imp λσ H Q q=>by
 obtain⟨φ,ρ,μ,K,E,M,w,L⟩:=q;refine⟨φ,ρ,μ,_,E,M,w,λb J O H1 k1 G M1=>?_⟩;cases b with
 |true=>exact⟨O,ρ,J,_,E.mono G,M1,k1,L.mono G⟩
 |false=>exact⟨O,ρ,J,_,E.mono G,M1,k1,L.mono G⟩
def Ru{w:De}{t:TE}{Q:Bool->Hp->Prop}(hi:∀ Q,tD w σ H Q->t σ H Q)(h:yE (pJ w) σ H Q):tB t σ H Q:=by
 obtain⟨φ,ρ,μ,K,E,M,k,L⟩:=h;refine hi _ ⟨φ,ρ,μ,_,E,M,k,λd O J v H' G f U i=>?_⟩;cases d with
 |bl b=>cases(show v=_ from i);exact⟨b,rfl,L b O J H' G f U⟩
 |_=>exact G.elim
def Ck{j pos'}{w:De}(h:PD X a w):JN X (.Compare a [.Is] [.Constant .none j pos'] pos) (pJ (QK false w)):=(EG (TQ h)).imp λσ H Q q=>Ru (λQ q=>SS q) q
def w5{j pos'}{w:De}(h:PD X a w):JN X (.Compare a [.IsNot] [.Constant .none j pos'] pos) (pJ (QK true w)):=(EG (Pp h)).imp λσ H Q q=>Ru (λQ q=>OK q) q
end
structure DN where
 nx:DE->MS->Prop
 rt:DK
 bk:DE->MS->Prop:=λ_ _=>False
 ct:DE->MS->Prop:=λ_ _=>False
abbrev Ds:=DN->DE->MS->Prop
def Oa(φ:ao ai)(H:Hp)(k:DE->MS->Prop)(q:St->Hp->Prop):Prop:=∀ J O G L H',k J O->Fr φ H G H'->kX G H' J L->gz G H' O->q L H'
def Oa.mono{G:ao ai}{H1:Hp}{k:DE->MS->Prop}{q:St->Hp->Prop}(h:Oa φ H k q)(f:Fr φ H G H1):Oa G H1 k q:=λJ U O L H' a b c d=>h J U O L H' a (f.trans b) c d
structure Yy (φ:List ai)(H:Hp)(N:DN)(E:Ends):Prop where
 nx:Oa φ H N.nx E.nx
 rt:vM φ H N.rt E.rt
 bk:Oa φ H N.bk E.bk
 ct:Oa φ H N.ct E.ct
def Yy.mono{φ G:ao ai}{H H1:Hp}{N:DN}{E:Ends}(h:Yy φ H N E)(f:Fr φ H G H1):Yy G H1 N E:=⟨h.nx.mono f,h.rt.mono f,h.bk.mono f,h.ct.mono f⟩
def ZW(w:Ds):TS:=λE σ H=>∃ φ ρ μ N,kX φ H ρ σ/\gz φ H μ/\w N ρ μ/\Yy φ H N E
abbrev yX(X:Cx)(st:Stmt)(w:Ds):Prop:=PS X st (ZW w)
abbrev FJ(X:Cx)(st:ao Stmt)(w:Ds):Prop:=BG X st (ZW w)
section
variable {X:Cx}{a b e:Expr}{es:ao Expr}{pos:Pos}{st:Stmt}{rest:ao Stmt}
def dNx:Ds:=λN ρ μ=>N.nx ρ μ
def dSeq(t u:Ds):Ds:=λN ρ μ=>t { N with nx:=λG J=>u N G J} ρ μ
def dCut(t u:Ds):Ds:=λN ρ μ=>∃ M:DE->MS->Prop,t { N with nx:=M} ρ μ/\∀ G J,M G J->u N G J
def ig:FJ X [] dNx:=nV.imp λE σ H G=>by obtain⟨φ,ρ,μ,N,A,M,w,L⟩:=G;exact L.nx ρ μ φ σ H w (.refl _ _) A M
def fK{t u:Ds}(h1:yX X st t)(h2:FJ X rest u):FJ X (st::rest) (dSeq t u):=(iT h1 h2).imp λE σ H ⟨φ,ρ,μ,N,A,M,w,L⟩ =>⟨φ,ρ,μ,_,A,M,w,⟨λG O J Y H' k f W U=>⟨J,G,O,N,W,U,k,L.mono f⟩,L.rt,L.bk,L.ct⟩⟩
def yf{t u:Ds}(h1:yX X st t)(h2:FJ X rest u):FJ X (st::rest) (dCut t u):=(iT h1 h2).imp λE σ H ⟨φ,ρ,μ,N,A,M,⟨P,w1,w2⟩,L⟩ =>⟨φ,ρ,μ,_,A,M,w1,⟨λG J O Y H' k f W U=>⟨O,G,J,N,W,U,w2 G J k,L.mono f⟩,L.rt,L.bk,L.ct⟩⟩
def fU{t:Ds}(h:yX X st t):FJ X [st] t:=lI h
def Yc(w:De):Ds:=λN ρ μ=>w ρ μ λ_ G=>N.nx ρ G
def Ey{w:De}(h:PD X e w)(O:swapsWith e none pos.line X.env=pure false:=by rfl):yX X (.Expr e pos) (Yc w):=(Pc h O).imp λE σ H J=>by obtain⟨φ,ρ,μ,N,A,M,w,L⟩:=J;exact⟨φ,ρ,μ,_,A,M,w,λd U W Y H1 k1 G M1 i1=>L.nx ρ U W σ H1 k1 G (A.mono G) M1⟩
def XW(w:De):Ds:=λN ρ μ=>w ρ μ N.rt
def gw{w:De}(h:PD X e w):yX X (.Return (some e) pos) (XW w):=(ow h).imp λE σ H G=>by obtain⟨φ,ρ,μ,N,A,M,w,L⟩:=G;exact⟨φ,ρ,μ,_,A,M,w,L.rt⟩
def Vg(c:Dt)(t u:Ds):Ds:=λN ρ μ=>c ρ μ λb G=>if b=true then t N ρ G else u N ρ G
def jh{c:Expr}{orelse:ao Stmt}{t:Dt}{u v:Ds}(U:JN X c t)(h1:FJ X body u)(h2:FJ X orelse v):yX X (.If c body orelse pos) (Vg t u v):=(vn U h1 h2).imp λE σ H ⟨φ,ρ,μ,N,A,M,w,L⟩ =>
 ⟨φ,ρ,μ,_,A,M,w,λb J O H1 k1 G M1=>by
  cases b with
  |true=>exact⟨O,ρ,J,N,A.mono G,M1,k1,L.mono G⟩
  |false=>exact⟨O,ρ,J,N,A.mono G,M1,k1,L.mono G⟩⟩
def Nx(i:Nat)(w:De):Ds:=λN ρ μ=>w ρ μ λd G=>N.nx (ρ.set i (some d)) G
def Wt{w:De}{pos':Pos}(O:X.N.Nodup)(hi:X.N[i]?=some x)(J:Loc X.env.scope x)(he:PD X e w)(hf:X.fn x=true\/X.env.scope.names.lookup x=some .local:=by first | exact .inl rfl | exact .inr rfl | assumption)
 (Mz:swapsWith e (some (.Name x pos')) pos.line X.env=pure false:=by rfl):yX X (.Assign [.Name x pos'] e pos) (Nx i w):=(uH (pos:=pos) (pos':=pos') O hi J he Mz hf).imp λE σ H ⟨φ,ρ,μ,N,A,M,w,L⟩=>
 ⟨φ,ρ,μ,_,A,M,w,λd U W Y H1 k1 G M1 i1=>L.nx _ U W _ H1 k1 G ((A.mono G).set i1 i) M1⟩
abbrev DG:=D->DE->MS->(DE->MS->Prop)->Prop
abbrev Vx:=ao D->DE->MS->(DE->MS->Prop)->Prop
def JY(g:TG)(w:DG)(S:ao Nat):Prop:=∀ φ H ρ σ μ d v K,kX φ H ρ σ->gz φ H μ->jG φ H d v->w d ρ μ K->g v σ H λG H2=>H2=H/\G.length=σ.length/\(∀ i,i∉S->G[i]?=σ[i]?)/\∃ J,kX φ H J G/\K J μ
def Ra(g:zY)(w:Vx)(S:ao Nat):Prop:=∀ φ H ρ σ μ ds vs K,kX φ H ρ σ->gz φ H μ->f9 φ H ds vs->w ds ρ μ K->g vs σ H λG H2=>H2=H/\G.length=σ.length/\(∀ i,i∉S->G[i]?=σ[i]?)/\∃ J,kX φ H J G/\K J μ
def oY(g:TG):Prop:=∀ v σ H Q J,(∀ G H',Q G H'->J G H')->g v σ H Q->g v σ H J
def yq(g:zY):Prop:=∀ v σ H Q J,(∀ G H',Q G H'->J G H')->g v σ H Q->g v σ H J
def Ba(i:Nat):DG:=λd ρ μ K=>K (ρ.set i (some d)) μ
def XM(n:Nat)(t:Vx):DG:=λd ρ μ K=>match d with|.tup ds=>ds.length=n/\t ds ρ μ K|_=>False
def U5(t:DG)(u:Vx):Vx:=λds ρ μ K=>match ds with|d::r=>t d ρ μ λG J=>u r G J K|[]=>False
def XO:Vx:=λds ρ μ K=>match ds with|[]=>K ρ μ|_=>False
def fY(i:Nat):JY (tR i) (Ba i) [i]:=λφ H ρ σ μ d v K E M h w=>⟨rfl,bL,λj G=>aJ (λz=>G (by simp[z])),_,E.set h i,w⟩
def fH(i:Nat):oY (tR i):=λv σ H Q G h q=>h _ _ q
def i7:Ra QW XO []:=λφ H ρ σ μ ds vs K E M h w=>by
 cases ds with
 |nil=>cases(show vs=[]from h);exact⟨rfl,rfl,λ_ _=>rfl,ρ,E,w⟩
 |cons d r=>exact w.elim
def fT:yq QW:=λv σ H Q G h q=>by
 cases v with
 |nil=>exact h _ _ q
 |cons x r=>exact q
def fL{g:TG}{u:zY}(h1:oY g)(h2:yq u):yq (HN g u):=λv σ H Q L h q=>by
 cases v with
 |nil=>exact q
 |cons x r=>exact h1 _ _ _ _ _ (λJ H' G=>h2 _ _ _ _ _ h G) q
def iG{u:zY}(h2:yq u):oY (QV n u):=λv σ H Q G h q=>by
 cases v with
 |ref a=>obtain⟨xs,e,l,q⟩:=q;exact⟨xs,e,l,h2 _ _ _ _ _ h q⟩
 |_=>exact q
def fZ{g:TG}{u:zY}{w:DG}{y:Vx}{S T:ao Nat}(h1:JY g w S)(m1:oY g)(h2:Ra u y T)(m2:yq u):Ra (HN g u) (U5 w y) (S++T):=λφ H ρ σ μ ds vs K E M h k=>by
 cases ds with
 |nil=>exact k.elim
 | cons d r =>obtain⟨v,J,rfl,hd,W⟩:=h;refine m1 _ _ _ _ _ (λB6 H1 O=>?_) (h1 φ H ρ σ μ d v _ E M hd k);obtain⟨e1,l1,n1,G,Z,k1⟩:=O;subst e1;refine m2 _ _ _ _ _ (λoI H2 L=>?_) (h2 φ H1 G B6 μ r J K Z M W k1);obtain⟨e2,l2,n2,U,Y,k2⟩:=L;refine⟨e2,l2.trans l1,λi hi=>?_,U,Y,k2⟩;rw[n2 i (λz=>hi (aS _ z)),n1 i (λz=>hi (cG _ z))]
def iZ{u:zY}{y:Vx}{S:ao Nat}(h2:Ra u y S):JY (QV n u) (XM n y) S:=λφ H ρ σ μ d v K E M h k=>by
 cases d with
 | tup ds =>obtain⟨p,vs,rfl,J,G,ha⟩:=h;exact⟨vs,G,by rw[ha.len];exact k.1,h2 φ H ρ σ μ ds vs K E M ha k.2⟩
 |_=>exact k.elim
structure Tg (X:Cx)(tg:Expr)(g:TG)(w:DG)(S:List Nat):Prop where
 pg:PG X tg g
 so:JY g w S
 mo:oY g
def dAsg(w:De)(g:DG):Ds:=λN ρ μ=>w ρ μ λd G=>g d ρ G N.nx
def Gz{tg:Expr}{w:De}{g:TG}{y:DG}{S:ao Nat}(he:PD X e w)(G:Tg X tg g y S)(hs:swapsWithSole [tg] e pos.line X.env=pure false:=by rfl)(hw:swappedStores [tg] e X.env=pure none:=by rfl)
 (h1:(assignEach [tg] X.env).map (·.2)=[assign tg X.env]:=by rfl):yX X (.Assign [tg] e pos) (dAsg w y):=(uI he G.pg hs hw h1).imp λE σ H ⟨φ,ρ,μ,N,A,M,w,L⟩=>
 ⟨φ,ρ,μ,_,A,M,w,λd J O W H1 k1 U M1 i1=>G.mo _ _ _ _ _ (λZ H2 ⟨e2,_,_,Y,E2,k2⟩=>by subst e2;exact L.nx Y J O Z _ k2 U E2 M1) (G.so O H1 ρ σ J d W _ (A.mono U) M1 i1 k1)⟩
def Yr(t:FH)(w:D->D->D->MS->(MS->Prop)->Prop):Prop:=∀ φ H o i v L J d μ K Q,gz φ H μ->jG φ H L o->jG φ H J i->jG φ H d v->w L J d μ K->(∀ G H',K G->Fr φ H φ H'->gz φ H' G->Q H')->t o i v H Q
def Np:D->D->D->MS->(MS->Prop)->Prop:=λo i d μ K=>match o,i with
 |.mr k,.int j=>opt (zw μ k) λds=>opt (Dm ds.length j) λn=>K (μ.set k (.lst (ds.set n d)))
 |_,_=>False
def Ta:Yr Lb Np:=λφ H o i v Z Y d μ K Q M O hi hd w q=>by
 unfold Np at w;split at w
 .rename_i k j;obtain⟨ds,J,w⟩:=ip w;have J:=mn J;obtain⟨p,G,rfl⟩:=O;cases(show i=_ from hi);obtain⟨W,e1,vs,L,ha⟩:=M.at_ k _ J;rw[G]at e1;cases e1;obtain⟨n,U,w⟩:=ip w;refine⟨vs,L,fO (v:=n) (by rw[ha.len];exact U) ?_⟩;have f:Fr φ H φ (upd H p (.lst (vs.set n v))):=.put (mR G);exact q _ _ w f (M.put G ⟨_,gc,(ha.set hd n).mono f⟩)
 .exact w.elim
def Yh(w wo wi:De):Ds:=λN ρ μ=>w ρ μ λd L=>wo ρ L λo J=>wi ρ J λi G=>Np o i d G λO=>N.nx ρ O
def Ez{o i:Expr}{w wo wi:De}(he:PD X e w)(ho:PD X o wo)(hi:PD X i wi)
 (ha:∀ v,assign (.Subscript o i pos') X.env v=(do
   let G <- holding [v] (eval o X.env)
   let W <- holding [v,G] (eval i X.env)
   standAt pos'
   holding [v,G,W] (setItem G W v)
   release [v,G,W] []):=by intro _;rfl) (hs:swapsWithSole [.Subscript o i pos'] e pos.line X.env=pure false:=by rfl) (hw:swappedStores [.Subscript o i pos'] e X.env=pure none:=by rfl)
 (h1:(assignEach [.Subscript o i pos'] X.env).map (·.2)=[assign (.Subscript o i pos') X.env]:=by rfl):yX X (.Assign [.Subscript o i pos'] e pos) (Yh w wo wi):=(uI he (xB ho hi setC ha) hs hw h1).imp λE σ H hq=>by
 obtain⟨φ,ρ,μ,N,A,M,w,L⟩:=hq;refine⟨φ,ρ,μ,_,A,M,w,λd gh gC v1 H1 k1 U M1 i1=>?_⟩;refine⟨gC,ρ,gh,_,A.mono U,M1,k1,λd2 iX lT v2 H2 k2 O M2 i2=>?_⟩;refine⟨lT,ρ,iX,_,A.mono (U.trans O),M2,k2,λd3 vk Z v3 H3 k3 J M3 i3=>?_⟩;exact Ta Z H3 _ _ _ d2 d3 d vk _ _ M3 (i2.mono J) i3 (i1.mono (O.trans J)) k3 λfX H' k4 Y M4=>L.nx ρ fX Z σ H' k4 ((U.trans (O.trans J)).trans Y) (A.mono ((U.trans (O.trans J)).trans Y)) M4
def Ys(t:Q9)(J:vV):Prop:=∀ φ H x y dx G μ K Q,gz φ H μ->jG φ H dx x->jG φ H G y->J dx G μ K->vM φ H K Q->t x y H Q
def Ye(i:Nat)(w:De)(G:vV):Ds:=λN ρ μ=>match ρ[i]? with|some (some x)=>w ρ μ λy L=>G x y L λz J=>N.nx (ρ.set i (some z)) J|_=>False
def Cs{w:De}{op:Operator}{ti:Q9}{O:vV}{pos':Pos}(hN:X.N.Nodup)(hi:X.N[i]?=some x)(Z:Loc X.env.scope x)(he:PD X e w)(ho:Vs X op ti)(so:Ys ti O)(hf:X.fn x=true\/X.env.scope.names.lookup x=some .local:=by first | exact .inl rfl | exact .inr rfl | assumption):
 yX X (.AugAssign (.Name x pos') op e pos) (Ye i w O):=(TB (pos:=pos) (pos':=pos') hN hi Z he ho hf).imp λE σ H hq=>by
 obtain⟨φ,ρ,μ,N,A,M,w,L⟩:=hq;unfold Ye at w;split at w
 .rename_i d hd;obtain⟨v,hv,G⟩:=A.2 i d hd;refine⟨v,hv,φ,ρ,μ,_,A,M,w,λd1 gh gC v1 H1 k1 J M1 i1=>?_⟩;exact so gC H1 _ _ d d1 gh _ _ M1 (G.mono J) i1 k1 λd2 Y W v2 H2 k2 U M2 i2=>L.nx _ Y W _ H2 k2 (J.trans U) ((A.mono (J.trans U)).set i2 i) M2
 .exact w.elim
def Vd(c:Dt)(b:Ds):Ds:=λN ρ μ=>∃ W:Nat->DE->MS->Prop,(∃ m,W m ρ μ)/\∀ m ρ μ,W m ρ μ ->
 c ρ μ λt O=>if t=true then b { N with nx:=λJ L=>∃ G,G<m/\W G J L,ct:=λJ L=>∃ G,G<m/\W G J L,bk:=N.nx} ρ O else N.nx ρ O
def Gy{c:Expr}{t:Dt}{u:Ds}(hp:PassesOwn (model X.prog X.w) X.A X.env X.xe)(hc:JN X c t)(hb:FJ X body u):yX X (.While c body [] pos) (Vd t u):=(Ll hp hc hb).imp λE σ H ⟨φ,ρ,μ,N,A,M,⟨W,⟨m0,w0⟩,turn⟩,L⟩=>by
 refine⟨λm iS H'=>∃ gA O Z,Fr φ H gA H'/\kX gA H' O iS/\gz gA H' Z/\W m O Z,⟨m0,φ,ρ,μ,.refl _ _,A,M,w0⟩,?_⟩;rintro m iS H' ⟨gA,O,Z,f',A',M',w'⟩;refine⟨gA,O,Z,_,A',M',turn m O Z w',λb gh gC H1 k1 f1 M1=>?_⟩;cases b with
 | true =>refine⟨λoI H2=>∃ G,G<m/\∃ J U Y,Fr φ H J H2/\kX J H2 U oI/\gz J H2 Y/\W G U Y,λoI H2 q=>q,gC,O,gh,_,A'.mono f1,M1,k1,?_⟩;have nx:Oa gC H1 (λO Z=>∃ G,G<m/\W G O Z) λoI H2=>∃ G,G<m/\∃ J U Y,Fr φ H J H2/\kX J H2 U oI/\gz J H2 Y/\W G U Y:=λU Y J oI H2 ⟨G,hm,w2⟩ f2 A2 M2=>⟨G,hm,J,U,Y,(f'.trans f1).trans f2,A2,M2,w2⟩;exact⟨nx,L.rt.mono (f'.trans f1),L.nx.mono (f'.trans f1),nx⟩
 |false=>exact L.nx O gh gC iS H1 k1 (f'.trans f1) (A'.mono f1) M1
def Wk(J:It)(φ:ao ai)(H:Hp)(ds:ao D)(c:MS->Prop):Prop:=∀ G H' O,Fr φ H G H'->gz G H' O->c O->∀ i,
 (∀ d,ds[i]?=some d->J.go i H'/\∀ x L,J.Kn i H' x L->Fr G H' G L/\gz G L O/\jG G L d x)/\(i=ds.length->J.stop i H')
abbrev DI:=DE->MS->(ao D->(MS->Prop)->MS->Prop)->Prop
def Wi(w:DI):TI:=λσ H R=>∃ φ ρ μ K,kX φ H ρ σ/\gz φ H μ/\w ρ μ K/\∀ ds c L G J H',K ds c L->Fr φ H G H'->gz G H' L->Wk J G H' ds c->R J H'
abbrev HV(X:Cx)(tg iter:Expr)(w:DI):Prop:=PI X tg iter (Wi w)
def PI.imp{tg iter:Expr}{t t':TI}(h:PI X tg iter t)(hi:∀ σ H Q,t' σ H Q->t σ H Q):PI X tg iter t':=λfE s σ H Q I q=>h fE s σ H Q I (hi σ H Q q)
def Dx(g:DG)(b:Ds)(N:DN)(c:MS->Prop):ao D->DE->MS->Prop
 |[],ρ,μ=>c μ/\N.nx ρ μ
 |d::ds,ρ,μ=>c μ/\g d ρ μ λL O=>b { N with nx:=λG J=>Dx g b N c ds G J,ct:=λG J=>Dx g b N c ds G J,bk:=N.nx} L O
def dFor(wi:DI)(g:DG)(b:Ds):Ds:=λN ρ μ=>wi ρ μ λds c G=>Dx g b N c ds ρ G
def mU{tg iter:Expr}{wi:DI}{g:TG}{y:DG}{S:ao Nat}{u:Ds}(hp:PassesOwn (model X.prog X.w) X.A X.env X.xe)(hc:X.gY=true)(hi:HV X tg iter wi)(hg:Tg X tg g y S)(hb:FJ X body u)
 (hs:∀ x,foldedSetIterable iter X.env x=pure x:=by intro _;rfl):yX X (.For tg iter body [] pos) (dFor wi y u):=(Tw hp hc hi hg.pg hb hs).imp λE σ H hq=>by
 obtain⟨φ,ρ,μ,N,A,M,w,L⟩:=hq;refine⟨φ,ρ,μ,_,A,M,w,λds c gh gC J H1 k1 f1 M1 wk=>?_⟩;refine⟨λi m iS H'=>m=ds.length - i/\i<=ds.length/\∃ G Z O,Fr gC H1 G H'/\kX G H' Z iS/\gz G H' O/\Dx y u N c (ds.drop i) Z O,⟨ds.length,rfl,bA _,gC,ρ,gh,.refl _ _,A.mono f1,M1,k1⟩,?_⟩;rintro i m iS H' ⟨rfl,hi,G,Z,O,f',A',M',W⟩;by_cases mW:i<ds.length
 .rw[bu mW]at W;obtain⟨c',W⟩:=W;obtain⟨go,Kn⟩:=(wk G H' O f' M' c' i).1 ds[i] (jo mW);refine .inr ⟨go,λoI H2=>∃ U Y iX,Fr gC H1 U H2/\kX U H2 Y oI/\gz U H2 iX/\Dx y u N c (ds.drop (i+1)) Y iX,λoI H2 q=>⟨ds.length - (i+1),by lia,rfl,mW,q⟩,λx H2 hy=>?_⟩;obtain⟨f2,M2,i2⟩:=Kn x H2 hy;refine hg.mo _ _ _ _ _ (λFW H3 rH=>?_) (hg.so G H2 Z iS O _ x _ (A'.mono f2) M2 i2 W);obtain⟨e3,_,_,Rk,E3,k3⟩:=rH;subst e3;refine⟨G,Rk,O,_,E3,M2,k3,?_⟩;have nx:Oa G H3 (λZ O=>Dx y u N c (ds.drop (i+1)) Z O) λoI H2=>∃ U Y iX,Fr gC H1 U H2/\kX U H2 Y oI/\gz U H2 iX/\Dx y u N c (ds.drop (i+1)) Y iX:=λY iX U oI H2 w2 g2 A2 N2=>⟨U,Y,iX,(f'.trans f2).trans g2,A2,N2,w2⟩;have ff:=f1.trans (f'.trans f2);exact⟨nx,L.rt.mono ff,L.nx.mono ff,nx⟩
 .have e:i=ds.length:=by lia
  subst e
  rw[List.drop_length]at W
  exact .inl ⟨(wk G H' O f' M' W.1 _).2 rfl,L.nx Z O G iS H' W.2 (f1.trans f') A' M'⟩
end
variable{wi:DI}
def o9(js:ao (aq Nat))(ρ:DE):DE:=js.map λo=>o.bind λj=>(ρ[j]?).join
def kX.iq{φ:ao ai}{H:Hp}{ρ:DE}{σ:St}(h:kX φ H ρ σ)(js:ao (aq Nat)):kX φ H (o9 js ρ) (iq js σ):=by
 refine⟨by unfold o9 L2.iq;rw[iE,iE],λi d e=>?_⟩;unfold o9 at e;rw[oC]at e;unfold L2.iq;rw[oC];cases q:js[i]? with
 |none=>rw[q]at e;cases e
 | some o =>
  rw[q]at e;cases o with
  |none=>cases e
  | some j =>
   have G:(ρ[j]?).join=some d:=aN e;have e2:ρ[j]?=some (some d):=by
    cases z:ρ[j]? with
    |none=>rw[z]at G;cases G
    |some y=>rw[z]at G;have:y=some d:=G;rw[this]
   obtain⟨v,J,hd⟩:=h.2 j d e2;refine⟨v,?_,hd⟩;show some ((σ[j]?).join)=_;rw[J];rfl
def Sv(ρ:DE)(y:DG)(t:Dt)(w:De)(d:D)(μ:MS)(K:aq D->MS->Prop):Prop:=y d ρ μ λJ L=>t J L λb G=>if b=true then w J G (λz O=>K (some z) O)else K none G
def qG(it:D->MS->(aq D->MS->Prop)->Prop)(c:MS->Prop):ao D->MS->(ao D->MS->Prop)->Prop
 |[],μ,K=>c μ/\K [] μ
 |d::ds,μ,K=>c μ/\it d μ λo J=>qG it c ds J λys G=>K (o.toList++ys) G
def qo(S:ao Nat)(js:ao (aq Nat)):Bool:=S.all λi=>js[i]?==some none
def Nc{G:St}{S:ao Nat}(L:qo S js=true)(hl:G.length=(iq js σ).length)(O:∀ i,i∉S->G[i]?=(iq js σ)[i]?):Ext (iq js σ) G:=by
 refine⟨hl.symm,λi v e=>?_⟩;by_cases hi:i∈S
 .have q:=List.all_eq_true.mp L i hi;have J:js[i]?=some none:=by simpa using q
  obtain⟨j,e1,_⟩:=xP e;rw[J]at e1;cases e1
 .rw[O i hi];exact e
def vH(m:Bool)(wi:DI)(js:ao (aq Nat))(y:DG)(t:Dt)(w:De):De:=λρ μ K=>wi ρ μ λds c J=>ds.length<=sizeLine/\qG (Sv (o9 js ρ) y t w) c ds J λys G=>nL m ys G K
def Ad{m:Bool}{g:TG}{y:DG}{S:ao Nat}{t:Dt}{w:De}(so:JY g y S)(mo:oY g)(ho:qo S js=true){Q:VK}(h:tD (vH m wi js y t w) σ H Q):Gp (Wi wi) js g (yE t) (tD w) σ H Q:=by
 obtain⟨φ,ρ,μ,K,A,M,k,L⟩:=h;refine⟨φ,ρ,μ,_,A,M,k,λds c gh gC J H1 k1 f1 M1 wk=>?_⟩;obtain⟨hz,k1⟩:=k1;refine⟨λi n ys H'=>n=ds.length - i/\i<=ds.length/\ys.length<=i/\∃ G zs O,Fr gC H1 G H'/\f9 G H' zs ys/\gz G H' O/\qG (Sv (o9 js ρ) y t w) c (ds.drop i) O λr W=>nL m (zs++r) W K,
  ⟨ds.length,rfl,bA _,bA _,gC,[],gh,.refl _ _,rfl,M1,k1⟩,?_⟩
 rintro i n ys H' ⟨rfl,hi,hy,G,zs,O,f',Z',M',U⟩;by_cases Y:i<ds.length
 .rw[bu Y]at U;obtain⟨c',U⟩:=U;obtain⟨go,Kn⟩:=(wk G H' O f' M' c' i).1 ds[i] (jo Y);refine .inr ⟨go,λx H2 Jn=>?_⟩;obtain⟨f2,M2,i2⟩:=Kn x H2 Jn;have E2:kX G H2 (o9 js ρ) (iq js σ):=((A.mono (f1.trans (f'.trans f2))).iq js);refine mo _ _ _ _ _ (λFW H3 qz=>?_) (so G H2 _ _ O _ x _ E2 M2 i2 U);obtain⟨e3,l3,n3,Rk,E3,k3⟩:=qz;refine⟨Nc ho l3 n3,?_⟩;subst e3;refine⟨G,Rk,O,_,E3,M2,k3,λb Og V6 H4 k4 Z M4=>?_⟩;have ff:=f'.trans (f2.trans Z);cases b with
  | true =>
   refine⟨V6,Rk,Og,_,E3.mono Z,M4,k4,λd5 V8 ZE v5 H5 k5 f5 M5 i5=>⟨by lia,ds.length - (i+1),by lia,rfl,Y,by rw[o4,bM];lia,ZE,zs++[d5],V8,ff.trans f5,(Z'.mono (f2.trans (Z.trans f5))).app ⟨v5,[],rfl,i5,rfl⟩,M5,?_⟩⟩;have e:(λr W=>nL m (zs++[d5]++r) W K)=λr W=>nL m (zs++((some d5).toList++r)) W K:=by funext r W;rw[cK];rfl
   rw[e];exact k5
  | false =>exact⟨ds.length - (i+1),by lia,rfl,Y,by lia,V6,zs,Og,ff,Z'.mono (f2.trans Z),M4,k4⟩
 .have e:i=ds.length:=by lia
  subst e
  rw[List.drop_length]at U
  refine .inl ⟨(wk G H' O f' M' U.1 _).2 rfl,λp hp=>?_⟩
  have q:nL m (zs++[]) O K:=U.2
  rw[b9]at q
  exact N4 (L.mono (f1.trans f')) M' Z' q hp
section
variable {X:Cx}{a b e:Expr}{es:ao Expr}{pos:Pos}
variable {N:ao Str}{js:ao (aq Nat)}{sc:Scope}{tg elt iter:Expr}{ifs:ao Expr}{g:TG}{y:DG}{S:ao Nat}{t:Dt}{w:De}
abbrev yW(X:Cx)(ifs:ao Expr)(t:Dt):Prop:=JZ X ifs (yE t)
def JZ.imp{ifs:ao Expr}{t t':TT}(h:JZ X ifs t)(hi:∀ σ H Q,t' σ H Q->t σ H Q):JZ X ifs t':=λfE s σ H Q I q=>h fE s σ H Q I (hi σ H Q q)
def dYes:Dt:=λ_ μ K=>K true μ
def iY:yW X [] dYes:=GH.imp λσ H Q G=>by obtain⟨φ,ρ,μ,K,A,M,k,L⟩:=G;exact L true μ φ H k (.refl _ _) M
def o8{c:Expr}(h:JN X c t):yW X [c] t:=Pa h
def Vb(m:Bool)(O:jU X N js sc)(gY:X.gY=true)(so:JY g y S)(mo:oY g)(J:qo S js=true)(hi:HV X tg iter wi)(L:∀ fp s H,PG (m7 X N sc fp s H) tg g)(ht:∀ fp s H,yW (m7 X N sc fp s H) ifs t)(he:∀ fp s H,PD (m7 X N sc fp s H) elt w)
 (G:∀ x,foldedSetIterable iter X.env x=pure x:=by intro _;rfl):PD X (.ListComp elt [⟨tg,iter,ifs,0⟩] sc pos) (vH m wi js y t w):=(GO O gY hi L ht he G).imp λσ H Q q=>Ad so mo J q
def IA(m:Bool){G:Pos}(Y:jU X N js sc)(gY:X.gY=true)(so:JY g y S)(mo:oY g)(U:qo S js=true)(Z:X.N.Nodup)(Fd:X.N[i]?=some x)(O:Loc X.env.scope x)(hi:HV X tg iter wi)(W:∀ fp s H,PG (m7 X N sc fp s H) tg g)
 (ht:∀ fp s H,yW (m7 X N sc fp s H) ifs t) (he:∀ fp s H,PD (m7 X N sc fp s H) elt w) (Mz:swapsWith (.ListComp elt [⟨tg,iter,ifs,0⟩] sc pos) (some (.Name x pos')) G.line X.env=pure true:=by rfl)
 (hs:∀ x,foldedSetIterable iter X.env x=pure x:=by intro _;rfl) (hf:X.fn x=true\/X.env.scope.names.lookup x=some .local:=by first|exact .inl rfl|exact .inr rfl|assumption):
 yX X (.Assign [.Name x pos'] (.ListComp elt [⟨tg,iter,ifs,0⟩] sc pos) G) (Nx i (vH m wi js y t w)):=(EH Y gY Z Fd O hi W ht he Mz hs hf).imp λE σ H ⟨φ,ρ,μ,N,A,M,w,L⟩=>
 Ad so mo U ⟨φ,ρ,μ,_,A,M,w,λd gh gC v1 H1 k1 J M1 i1=>L.nx _ gh gC _ H1 k1 J ((A.mono J).set i1 i) M1⟩
def dItL(w:De):DI:=λρ μ K=>w ρ μ λd G=>opt (lv G d) λds=>K ds (lc d ds) G
def OC{p:ai}{c:MS->Prop}(h:∀ G H' J,Fr φ H G H'->gz G H' J->c J->∃ vs,H' p=some (.lst vs)/\f9 G H' ds vs):Wk (Itl Kf p) φ H ds c:=λG H' J f M W i=>by obtain⟨vs,O,ha⟩:=h G H' J f M W;refine⟨λd hd=>?_,λhi=>⟨vs,pS.of O,by rw[ha.len,hi];exact ar _⟩⟩;obtain⟨v,U,hi⟩:=ha.get hd;refine⟨⟨vs,v,pS.of O,U⟩,λx Y L=>?_⟩;obtain⟨rfl,L⟩:=L;have e:=L vs (pS.of O);rw[U]at e;cases e;exact⟨.refl _ _,M,hi⟩
def jI{w:De}(h:PD X a w):HV X tg a (dItL w):=(Pk h).imp λσ H Q J=>by obtain⟨φ,ρ,μ,K,A,M,k,L⟩:=J;refine⟨φ,ρ,μ,_,A,M,k,λd U W Z H1 k1 Y M1 i1=>?_⟩;obtain⟨ds,G,k1⟩:=ip k1;obtain⟨p,vs,rfl,O,ha⟩:=kz M1 i1 G;exact⟨p,rfl,⟨vs,pS.of O⟩,L ds _ U W _ H1 k1 Y M1 (OC λgA H' fX f M c=>rh M1 i1 G f M c)⟩
def kr(lo:Int)(n:Nat):ao D:=(List.range n).map λi=>D.int (lo+(i:Nat))
def Cd{lo:Int}:Wk (YA lo n) φ H (kr lo n) λ_=>True:=λJ H' L f M _ i=>by
 have hl:(kr lo n).length=n:=by unfold kr;rw[iE,tP]
 refine⟨λd hd=>?_,λhi=>by rw[hl]at hi;exact Nat.le_of_eq hi.symm⟩;have hi:i<n:=by have:=(kN hd).1;lia
 refine⟨hi,λx O G=>?_⟩;obtain⟨rfl,rfl⟩:=G;refine⟨.refl _ _,M,?_⟩;unfold kr at hd;rw[oC,bo hi]at hd;cases hd;rfl
def X8(w:DA):DI:=λρ μ K=>w ρ μ λds G=>match ds with
 |[.int j]=> -(2 ^ 62)<=j/\j<2 ^ 62/\K (kr 0 j.toNat) (λ_=>True) G
 |_=>False
def X7(w:DA):DI:=λρ μ K=>w ρ μ λds G=>match ds with
 |[.int i,.int j]=>(-(2 ^ 62)<=i/\i<2 ^ 62 /\ -(2 ^ 62)<=j/\j<2 ^ 62)/\K (kr i (j - i).toNat) (λ_=>True) G
 |_=>False
def jb{w:DA}{p:Pos}(O:Gl X "range")(hm:X.mg "range"=none)(ha:u9 X [a] w)(G:starEach [a] X.env=[(false,eval a X.env)]:=by rfl):HV X tg (.Call (.Name "range" p) [a] [] pos) (X8 w):=(IF O hm ha G).imp λσ H Q J=>by
 obtain⟨φ,ρ,μ,K,A,M,k,L⟩:=J;refine⟨φ,ρ,μ,_,A,M,k,λds U W vs H1 k1 Y M1 i1=>?_⟩;split at k1
 .obtain⟨v,r,rfl,h1,h2⟩:=i1;cases(show v=_ from h1);cases(show r=[]from h2);exact⟨_,rfl,k1.1,k1.2.1,L _ _ U W _ H1 k1.2.2 Y M1 Cd⟩
 .exact k1.elim
def oS{w:DA}{p:Pos}(O:Gl X "range")(hm:X.mg "range"=none)(ha:u9 X [a,b] w)(G:starEach [a,b] X.env=[(false,eval a X.env),(false,eval b X.env)]:=by rfl)(rE:starEach [b] X.env=[(false,eval b X.env)]:=by rfl):HV X tg (.Call (.Name "range" p) [a,b] [] pos) (X7 w):=(IE O hm ha G rE).imp λσ H Q J=>by
 obtain⟨φ,ρ,μ,K,A,M,k,L⟩:=J;refine⟨φ,ρ,μ,_,A,M,k,λds U W vs H1 k1 Y M1 i1=>?_⟩;split at k1
 .obtain⟨v,r,rfl,h1,u,r',rfl,h2,h3⟩:=i1;cases(show v=_ from h1);cases(show u=_ from h2);cases(show r'=[]from h3);exact⟨_,_,rfl,k1.1,L _ _ U W _ H1 k1.2 Y M1 Cd⟩
 .exact k1.elim
end
mutual
def GZ(n:Nat):D->Prop
 |.lst ds=>tx n ds
 |.tup ds=>tx n ds
 |.ka _ ds=>tx n ds
 |.mr k=>k<n
 |.obj _ _ ds=>tx n ds
 |.uP _ ds=>tx n ds
 |_=>True
def tx(n:Nat):List D->Prop
 |[]=>True
 |d::ds=>GZ n d/\tx n ds
end
def zu(n:Nat):MO->Prop
 |.box=>True
 |.lst ds=>tx n ds
 |.ka _ ds=>tx n ds
 |.xS _ _ ds=>tx n ds
 |.ins _ _ ds=>tx n ds
 |.lF _ ds=>tx n ds
 |.gx ij _=>ij.length<=n
 |.exc _=>True
def Fr.Ro{ij:ao ai}{H0:Hp}(f:Fr ij H0 φ H)(h:ij.length<=n):Fr ij H0 (φ.take n) H:=by obtain⟨⟨G,rfl,L⟩,k,d⟩:=f;exact⟨⟨G.take (n - ij.length),by rw[List.take_append,bQ h],λc J=>L c (bp J)⟩,k,d⟩
def Fr.late{ij:ao ai}{H0:Hp}{p:ai}(f:Fr ij H0 φ H)(h:ij.length<=j)(G:φ[j]?=some p):H0 p=none:=by obtain⟨⟨L,rfl,J⟩,k,d⟩:=f;rw[pW h]at G;exact J p (mR G)
def Fr.Wd{ij:ao ai}{H0:Hp}{p:ai}(f:Fr ij H0 φ H)(h:ij.length<=n)(J:H0 p=none):Fr ij H0 (φ.take n++[p]) H:=by obtain⟨⟨G,e,O⟩,k,d⟩:=f.Ro h;exact⟨⟨G++[p],by rw[e,cK],λc L=>by rcases List.mem_append.mp L with z|z;exact O c z;rw[List.mem_singleton.mp z];exact J⟩,k,d⟩
mutual
theorem jG.kL{n:Nat}{φ:List ai}{H:Hp}:∀ {d:D} {v:V},GZ n d->jG φ H d v->jG (φ.take n) H d v
 |.iz,_,_,h=>h
 |.bl _,_,_,h=>h
 |.int _,_,_,h=>h
 |.str _,_,_,h=>h
 |.lst _,_,m,h=>by obtain⟨p,vs,e,nn,G,q⟩:=h;exact⟨p,vs,e,λz=>nn (bp z),G,f9.kL m q⟩
 |.tup _,_,m,h=>by obtain⟨p,vs,e,nn,G,q⟩:=h;exact⟨p,vs,e,λz=>nn (bp z),G,f9.kL m q⟩
 |.ka _ _,_,m,h=>by obtain⟨p,fR,vs,e,nn,G,q1,q2,q⟩:=h;exact⟨p,fR,vs,e,λz=>nn (bp z),G,q1,q2,f9.kL m q⟩
 |.mr k,_,m,h=>by obtain⟨p,e,q⟩:=h;exact⟨p,by rw[bR m];exact e,q⟩
 |.obj _ _ _,_,m,h=>by obtain⟨p,dx,fs,vs,e,nn,G,q1,q2,q⟩:=h;exact⟨p,dx,fs,vs,e,λz=>nn (bp z),G,q1,q2,f9.kL m q⟩
 |.uP _ _,_,m,h=>by obtain⟨p,dx,fs,vs,e,nn,G,q1,q2,q⟩:=h;exact⟨p,dx,fs,vs,e,λz=>nn (bp z),G,q1,q2,f9.kL m q⟩
 |.fn _,_,_,h=>h
theorem f9.kL{n:Nat}{φ:List ai}{H:Hp}:∀ {ds:List D} {vs:List V},tx n ds->f9 φ H ds vs->f9 (φ.take n) H ds vs
 |[],_,_,h=>h
 |_::_,_,m,h=>by obtain⟨v,r,e,h1,h2⟩:=h;exact⟨v,r,e,jG.kL m.1 h1,f9.kL m.2 h2⟩
end
def gz.kL{n:Nat}{φ:ao ai}{H:Hp}{μ:MS}(h:gz φ H μ)(hm:∀(k:Nat) (m:MO),k<n->μ[k]?=some m->zu n m):gz (φ.take n) H (μ.take n):=by
 refine⟨h.nd.sublist (List.take_sublist _ _),by rw[bH,bH,h.len],λk m e=>?_⟩;have hk:k<n:=by have:=(kN e).1;rw[bH]at this;lia
 rw[bR hk]at e;obtain⟨p,e1,e2⟩:=h.at_ k m e;refine⟨p,by rw[bR hk];exact e1,?_⟩;have hb:=hm k m hk e;cases m with
 |box=>obtain⟨q,ns,i,r,z,h1,h2,G,J⟩:=e2;exact⟨q,ns,i,r,z,h1,h2,λz=>G (bp z),J⟩
 |lst ds=>obtain⟨vs,h1,h2⟩:=e2;exact⟨vs,h1,h2.kL hb⟩
 |ka ks ds=>obtain⟨fR,vs,h1,h2,G,J⟩:=e2;exact⟨fR,vs,h1,h2,G,J.kL hb⟩
 |xS o fR ds=>exact⟨e2.1,e2.2.kL hb⟩
 |ins C ns ds=>obtain⟨dx,fs,h1,h2,G⟩:=e2;exact⟨dx,fs,h1,h2,G.kL hb⟩
 |lF ks ds=>obtain⟨fR,h1,h2,G⟩:=e2;exact⟨fR,h1,h2,G.kL hb⟩
 |gx ij H0=>exact⟨e2.1.Ro hb,e2.2⟩
 |exc c=>exact e2
mutual
theorem jG.bound{φ:List ai}{H:Hp}:∀ {d:D} {v:V},jG φ H d v->GZ φ.length d
 |.iz,_,_=>True.intro
 |.bl _,_,_=>True.intro
 |.int _,_,_=>True.intro
 |.str _,_,_=>True.intro
 |.lst _,_,h=>by obtain⟨p,vs,e,nn,G,q⟩:=h;exact f9.bound q
 |.tup _,_,h=>by obtain⟨p,vs,e,nn,G,q⟩:=h;exact f9.bound q
 |.ka _ _,_,h=>by obtain⟨p,fR,vs,e,nn,G,q1,q2,q⟩:=h;exact f9.bound q
 |.mr k,_,h=>by obtain⟨p,e,q⟩:=h;exact(kN e).1
 |.obj _ _ _,_,h=>by obtain⟨p,dx,fs,vs,e,nn,G,q1,q2,q⟩:=h;exact f9.bound q
 |.uP _ _,_,h=>by obtain⟨p,dx,fs,vs,e,nn,G,q1,q2,q⟩:=h;exact f9.bound q
 |.fn _,_,_=>True.intro
theorem f9.bound{φ:List ai}{H:Hp}:∀ {ds:List D} {vs:List V},f9 φ H ds vs->tx φ.length ds
 |[],_,_=>True.intro
 |_::_,_,h=>by obtain⟨v,r,e,h1,h2⟩:=h;exact⟨jG.bound h1,f9.bound h2⟩
end
def gz.bound{φ:ao ai}{H:Hp}{μ:MS}(h:gz φ H μ):∀(k:Nat) (m:MO),μ[k]?=some m->zu μ.length m:=λk m e=>by
 obtain⟨p,e1,e2⟩:=h.at_ k m e;rw[<- h.len];cases m with
 |box=>exact True.intro
 |lst ds=>obtain⟨vs,h1,h2⟩:=e2;exact h2.bound
 |ka ks ds=>obtain⟨fR,vs,h1,h2,G,J⟩:=e2;exact J.bound
 |xS o fR ds=>exact e2.2.bound
 |ins C ns ds=>obtain⟨dx,fs,h1,h2,G⟩:=e2;exact G.bound
 |lF ks ds=>obtain⟨fR,h1,h2,G⟩:=e2;exact G.bound
 |gx ij H0=>obtain⟨⟨L,e,_⟩,_⟩:=e2.1;show ij.length<=φ.length;rw[e,o4];lia
 |exc c=>exact True.intro
def mj{G:ao ai}{p q:ai}(J:p∈G)(h:q∉G):q∉G.take n++[p]:=λz=>by
 rcases List.mem_append.mp z with z|z
 .exact h (bp z)
 .exact h (by rw[List.mem_singleton.mp z];exact J)
mutual
theorem jG.addP{n:Nat}{L:List ai}{H:Hp}{p:ai}(G:p∈L):∀ {d:D} {v:V},GZ n d->jG L H d v->jG (L.take n++[p]) H d v
 |.iz,_,_,h=>h
 |.bl _,_,_,h=>h
 |.int _,_,_,h=>h
 |.str _,_,_,h=>h
 |.lst _,_,m,h=>by obtain⟨q,vs,e,nn,J,z⟩:=h;exact⟨q,vs,e,mj G nn,J,f9.pY G m z⟩
 |.tup _,_,m,h=>by obtain⟨q,vs,e,nn,J,z⟩:=h;exact⟨q,vs,e,mj G nn,J,f9.pY G m z⟩
 |.ka _ _,_,m,h=>by obtain⟨q,fR,vs,e,nn,J,q1,q2,z⟩:=h;exact⟨q,fR,vs,e,mj G nn,J,q1,q2,f9.pY G m z⟩
 | .mr k,_,m,h=>by
  obtain⟨q,e,z⟩:=h;have hk:k<(L.take n).length:=by rw[bH];have:=(kN e).1;have O:k<n:=m;lia
  exact⟨q,by rw[uO hk,bR m];exact e,z⟩
 |.obj _ _ _,_,m,h=>by obtain⟨q,dx,fs,vs,e,nn,J,q1,q2,z⟩:=h;exact⟨q,dx,fs,vs,e,mj G nn,J,q1,q2,f9.pY G m z⟩
 |.uP _ _,_,m,h=>by obtain⟨q,dx,fs,vs,e,nn,J,q1,q2,z⟩:=h;exact⟨q,dx,fs,vs,e,mj G nn,J,q1,q2,f9.pY G m z⟩
 |.fn _,_,_,h=>h
theorem f9.pY{n:Nat}{G:List ai}{H:Hp}{p:ai}(J:p∈G):∀ {ds:List D} {vs:List V},tx n ds->f9 G H ds vs->f9 (G.take n++[p]) H ds vs
 |[],_,_,h=>h
 |_::_,_,m,h=>by obtain⟨v,r,e,h1,h2⟩:=h;exact⟨v,r,e,jG.addP J m.1 h1,f9.pY J m.2 h2⟩
end
def ux(R:D->D->Prop)(ds es:ao D):Prop:=ds.length=es.length/\∀(i:Nat) (a b:D),ds[i]?=some a->es[i]?=some b->R a b
def BK(n:Nat)(μ:MS):Nat->D->D->Prop
 |0,d,d'=>d'=d/\GZ n d
 |k+1,d,d'=>(d'=d/\GZ n d)\/(∃ j ds es,d=.mr j/\n<=j/\μ[j]?=some (.lst ds)/\d'=.lst es/\ux (BK n μ k) ds es)\/(∃ ds es,d=.lst ds/\d'=.lst es/\ux (BK n μ k) ds es)\/(∃ ds es,d=.tup ds/\d'=.tup es/\ux (BK n μ k) ds es)\/(∃ j ks ds es,d=.mr j/\n<=j/\μ[j]?=some (.ka ks ds)/\d'=.ka ks es/\ux (BK n μ k) ds es)
theorem f9.LQ{φ:ao ai}{H:Hp}:∀ {ds:ao D} {vs:ao V},ds.length=vs.length->(∀(i:Nat) (d:D) (v:V),ds[i]?=some d->vs[i]?=some v->jG φ H d v)->f9 φ H ds vs
 | [],vs,hl,_=>by cases vs with
  |nil=>rfl
  |cons v r=>simp at hl
 | d::ds,vs,hl,h=>by cases vs with
  |nil=>simp at hl
  |cons v r=>exact⟨v,r,rfl,h 0 d v rfl rfl,f9.LQ (by simpa using hl) λi a b e1 e2=>h (i+1) a b (by simpa using e1) (by simpa using e2)⟩
def BK.is(M:gz φ H μ)(L:∀ {j:Nat} {p:ai},n<=j->φ[j]?=some p->p∉φ.take n):∀ {k:Nat} {d d':D} {v:V},BK n μ k d d'->jG φ H d v->jG (φ.take n) H d' v:=by
 intro k;induction k with
 |zero=>intro d d' v h i;obtain⟨rfl,hb⟩:=h;exact i.kL hb
 | succ k U =>
  have all:∀ {ds es:ao D} {vs:ao V},ux (BK n μ k) ds es->f9 φ H ds vs->f9 (φ.take n) H es vs:=λ{ds es vs} ha hd =>f9.LQ (by rw[hd.len,ha.1]) λi b v e1 e2=>by obtain⟨a,e3,G⟩:=hd.Du e2;exact U (ha.2 i a b e3 e1) G
  intro d d' v h i;rcases h with⟨rfl,hb⟩|⟨j,ds,es,rfl,J,e,rfl,ha⟩|⟨ds,es,rfl,rfl,ha⟩|⟨ds,es,rfl,rfl,ha⟩|⟨j,ks,ds,es,rfl,J,e,rfl,ha⟩
  .exact i.kL hb
  .obtain⟨p,hp,rfl⟩:=i;obtain⟨O,e1,vs,G,hd⟩:=M.at_ j _ e;rw[hp]at e1;cases e1;exact⟨p,vs,rfl,L J hp,G,all ha hd⟩
  .obtain⟨p,vs,rfl,hn,hp,hd⟩:=i;exact⟨p,vs,rfl,λz=>hn (bp z),hp,all ha hd⟩
  .obtain⟨p,vs,rfl,hn,hp,hd⟩:=i;exact⟨p,vs,rfl,λz=>hn (bp z),hp,all ha hd⟩
  .obtain⟨p,hp,rfl⟩:=i;obtain⟨O,e1,fR,vs,G,h1,h2,hd⟩:=M.at_ j _ e;rw[hp]at e1;cases e1;exact⟨p,fR,vs,rfl,L J hp,G,h1,h2,all ha hd⟩
def BL(n:Nat)(μ:MS):Nat->D->D->Prop
 |0,d,d'=>d'=d/\GZ n d
 |k+1,d,d'=>(d'=d/\GZ n d)\/(∃ j ds es,d=.mr j/\n<=j/\μ[j]?=some (.lst ds)/\d'=.lst es/\ux (BL n μ k) ds es)\/(∃ ds es,d=.lst ds/\d'=.lst es/\ux (BL n μ k) ds es)\/(∃ ds es,d=.tup ds/\d'=.tup es/\ux (BL n μ k) ds es)\/(∃ j o fR ds es,d=.mr j/\n<=j/\μ[j]?=some (.xS o fR ds)/\d'=.uP (fR.map (·.1)) es/\ux (BL n μ k) ds es)\/(∃ j C ns ds es,d=.mr j/\n<=j/\μ[j]?=some (.ins C ns ds)/\d'=.obj C ns es/\ux (BL n μ k) ds es)
def BL.is(M:gz φ H μ)(L:∀ {j:Nat} {p:ai},n<=j->φ[j]?=some p->p∉φ.take n):∀ {k:Nat} {d d':D} {v:V},BL n μ k d d'->jG φ H d v->jG (φ.take n) H d' v:=by
 intro k;induction k with
 |zero=>intro d d' v h i;obtain⟨rfl,hb⟩:=h;exact i.kL hb
 | succ k U =>
  have all:∀ {ds es:ao D} {vs:ao V},ux (BL n μ k) ds es->f9 φ H ds vs->f9 (φ.take n) H es vs:=λ{ds es vs} ha hd =>f9.LQ (by rw[hd.len,ha.1]) λi b v e1 e2=>by obtain⟨a,e3,G⟩:=hd.Du e2;exact U (ha.2 i a b e3 e1) G
  intro d d' v h i;rcases h with⟨rfl,hb⟩|⟨j,ds,es,rfl,J,e,rfl,ha⟩|⟨ds,es,rfl,rfl,ha⟩|⟨ds,es,rfl,rfl,ha⟩|⟨j,o,fR,ds,es,rfl,J,e,rfl,ha⟩|⟨j,C,ns,ds,es,rfl,J,e,rfl,ha⟩
  .exact i.kL hb
  .obtain⟨p,hp,rfl⟩:=i;obtain⟨O,e1,vs,G,hd⟩:=M.at_ j _ e;rw[hp]at e1;cases e1;exact⟨p,vs,rfl,L J hp,G,all ha hd⟩
  .obtain⟨p,vs,rfl,hn,hp,hd⟩:=i;exact⟨p,vs,rfl,λz=>hn (bp z),hp,all ha hd⟩
  .obtain⟨p,vs,rfl,hn,hp,hd⟩:=i;exact⟨p,vs,rfl,λz=>hn (bp z),hp,all ha hd⟩
  .obtain⟨p,hp,rfl⟩:=i;obtain⟨O,e1,G,hd⟩:=M.at_ j _ e;rw[hp]at e1;cases e1;exact⟨p,o,fR,_,rfl,L J hp,G,rfl,rfl,all ha hd⟩
  .obtain⟨p,hp,rfl⟩:=i;obtain⟨O,e1,dx,fs,G,h1,hd⟩:=M.at_ j _ e;rw[hp]at e1;cases e1;exact⟨p,dx,fs,_,rfl,L J hp,G,h1,rfl,all ha hd⟩
inductive Fz (n:Nat)(K:DK):DK where
 |keep {d μ:_} (k:K d μ):Fz n K d μ
 |drop {d μ:_} (hd:GZ n d) (hm:∀(j:Nat) (m:MO),j<n->μ[j]?=some m->zu n m) (k:K d (μ.take n)):Fz n K d μ
 |lst {j ds μ:_} (hj:n<=j) (e:μ[j]?=some (.lst ds)) (hd:tx n ds) (hm:∀(j:Nat) (m:MO),j<n->μ[j]?=some m->zu n m) (k:K (.lst ds) (μ.take n)):Fz n K (.mr j) μ
 |one {j ds μ:_} (hj:n<=j) (e:μ[j]?=some (.lst ds)) (hd:tx n ds) (hm:∀(j:Nat) (m:MO),j<n->μ[j]?=some m->zu n m) (k:K (.mr n) (μ.take n++[.lst ds])):Fz n K (.mr j) μ
 |deep {f d d' μ:_} (e:BK n μ f d d') (hm:∀(j:Nat) (m:MO),j<n->μ[j]?=some m->zu n m) (k:K d' (μ.take n)):Fz n K d μ
 |ka {j ks ds μ:_} (hj:n<=j) (e:μ[j]?=some (.ka ks ds)) (hd:tx n ds) (hm:∀(j:Nat) (m:MO),j<n->μ[j]?=some m->zu n m) (k:K (.ka ks ds) (μ.take n)):Fz n K (.mr j) μ
 |obj {j C ns ds μ:_} (hj:n<=j) (e:μ[j]?=some (.ins C ns ds)) (hd:tx n ds) (hm:∀(j:Nat) (m:MO),j<n->μ[j]?=some m->zu n m) (k:K (.obj C ns ds) (μ.take n)):Fz n K (.mr j) μ
 |uP {j o fR ds μ:_} (hj:n<=j) (e:μ[j]?=some (.xS o fR ds)) (hd:tx n ds) (hm:∀(j:Nat) (m:MO),j<n->μ[j]?=some m->zu n m) (k:K (.uP (fR.map (·.1)) ds) (μ.take n)):Fz n K (.mr j) μ
 |XQ {f d d' μ:_} (e:BL n μ f d d') (hm:∀(j:Nat) (m:MO),j<n->μ[j]?=some m->zu n m) (k:K d' (μ.take n)):Fz n K d μ
def vM.fz{K:DK}{Q:VK}(M:gz φ H μ)(L:vM φ H K Q):vM φ H (Fz μ.length K) Q:=λd fX Y v H' k f J i=>by
 have O:Y.take μ.length=φ:=by obtain⟨⟨ψ,rfl,_⟩,_,_⟩:=f;rw[<- M.len,bZ]
 have Z:Fr φ H (Y.take μ.length) H':=by rw[O];exact⟨⟨[],by simp,λ_ h=>nomatch h⟩,f.keep,f.Zm⟩
 have GW:∀ {j:Nat} {p:ai},μ.length<=j->Y[j]?=some p->p∉Y.take μ.length:=λ{j p} U e G=>by obtain⟨i,hi,ei⟩:=aZ G;rw[bH]at hi;rw[List.getElem_take]at ei;obtain⟨Eb,ej⟩:=kN e;exact List.pairwise_iff_getElem.mp J.nd i j (by lia) Eb (by lia) (ei.trans ej.symm)
 cases k with
 |keep k=>exact L d fX Y v H' k f J i
 |drop hd hm k=>exact L d _ _ v H' k Z (J.kL hm) (i.kL hd)
 | @lst j ds _ U e hd hm k =>obtain⟨p,G,rfl⟩:=i;obtain⟨p',e1,vs,hv,ha⟩:=J.at_ j _ e;rw[G]at e1;cases e1;exact L _ _ _ _ H' k Z (J.kL hm) ⟨p,vs,rfl,GW U G,hv,ha.kL hd⟩
 | @one j ds _ U e hd hm k =>
  obtain⟨p,G,rfl⟩:=i;obtain⟨p',e1,vs,hv,ha⟩:=J.at_ j _ e;rw[G]at e1;cases e1;have M0:=J.kL hm;have hpn:p∉φ:=by have:=GW U G;rwa [O]at this
  have hH:H p=none:=by
   obtain⟨⟨ψ,rfl,Jl⟩,_,_⟩:=f;refine Jl p ?_;have q:=mR G;rcases List.mem_append.mp q with q|q
   .exact absurd q hpn
   .exact q
  have M1:gz (Y.take μ.length) H' (fX.take μ.length):=M0;rw[O]at M1;have f1:Fr φ H (φ++[p]) H':=⟨⟨[p],rfl,λc hc=>by rw[List.mem_singleton.mp hc];exact hH⟩,f.keep,f.Zm⟩;have len:(fX.take μ.length).length=μ.length:=by rw[<- M1.len,M.len]
  have pin:p∈Y:=mR G;have hdv:f9 (φ++[p]) H' ds vs:=by have q:=f9.pY pin hd ha;rwa [O]at q
  have M2:gz (φ++[p]) H' (fX.take μ.length++[.lst ds]):=by
   refine⟨?_,by rw[o4,o4,M1.len];rfl,λk m ek=>?_⟩
   .rw[fb];exact⟨M.nd,by simp,λa ha b hb=>by rw[List.mem_singleton.mp hb];intro z;exact hpn (by rw[<- z];exact ha)⟩
   .by_cases hk:k<μ.length
    .rw[uO (by rw[len];exact hk)]at ek;rw[bR hk]at ek;obtain⟨q,e1,e2⟩:=J.at_ k m ek;have e1':φ[k]?=some q:=by rw[<- O,bR hk];exact e1
     refine⟨q,by rw[uO (by rw[M.len];exact hk)];exact e1',?_⟩;have hb:=hm k m hk ek;cases m with
     | box =>obtain⟨b,ns,i,r,z,h1,h2,W,h4⟩:=e2;exact⟨b,ns,i,r,z,h1,h2,by have:=mj (n:=μ.length) pin W;rwa [O]at this,h4⟩
     |lst es=>obtain⟨us,h1,h2⟩:=e2;exact⟨us,h1,by have:=f9.pY pin hb h2;rwa [O]at this⟩
     |ka ks es=>obtain⟨fR,us,h1,h2,W,h4⟩:=e2;exact⟨fR,us,h1,h2,W,by have:=f9.pY pin hb h4;rwa [O]at this⟩
     |xS o fR es=>exact⟨e2.1,by have:=f9.pY pin hb e2.2;rwa [O]at this⟩
     |ins C ns es=>obtain⟨dx,fs,h1,h2,W⟩:=e2;exact⟨dx,fs,h1,h2,by have:=f9.pY pin hb W;rwa [O]at this⟩
     |lF ks es=>obtain⟨fR,h1,h2,W⟩:=e2;exact⟨fR,h1,h2,by have:=f9.pY pin hb W;rwa [O]at this⟩
     |gx ij H0=>exact⟨by have:=e2.1.Wd (n:=μ.length) hb (p:=p) (e2.1.late (aX hb U) G);rwa [O]at this,e2.2⟩
     |exc c=>exact e2
    .have JV:k=μ.length:=by have:=(kN ek).1;rw[o4,bM,len]at this;lia
     subst JV
     rw[pW (by rw[len];exact ar _),len,aY]at ek
     cases ek
     exact⟨p,by rw[pW (by rw[M.len];exact ar _),M.len,aY];rfl,vs,hv,hdv⟩
  exact L _ _ _ _ H' k f1 M2 ⟨p,by rw[pW (by rw[M.len];exact ar _),M.len,aY];rfl,rfl⟩
 |@deep f' d d' _ e hm k=>exact L _ _ _ _ H' k Z (J.kL hm) (e.is J GW i)
 | @ka j ks ds _ U e hd hm k =>obtain⟨p,G,rfl⟩:=i;obtain⟨p',e1,fR,vs,hv,h1,h2,ha⟩:=J.at_ j _ e;rw[G]at e1;cases e1;exact L _ _ _ _ H' k Z (J.kL hm) ⟨p,fR,vs,rfl,GW U G,hv,h1,h2,ha.kL hd⟩
 | @obj j C ns ds _ U e hd hm k =>obtain⟨p,G,rfl⟩:=i;obtain⟨p',e1,dx,fs,h1,h2,W⟩:=J.at_ j _ e;rw[G]at e1;cases e1;exact L _ _ _ _ H' k Z (J.kL hm) ⟨p,dx,fs,_,rfl,GW U G,h1,h2,rfl,W.kL hd⟩
 | @uP j o fR ds _ U e hd hm k =>obtain⟨p,G,rfl⟩:=i;obtain⟨p',e1,h1,W⟩:=J.at_ j _ e;rw[G]at e1;cases e1;exact L _ _ _ _ H' k Z (J.kL hm) ⟨p,o,fR,_,rfl,GW U G,h1,rfl,rfl,W.kL hd⟩
 |@XQ f' d d' _ e hm k=>exact L _ _ _ _ H' k Z (J.kL hm) (e.is J GW i)
def EC(n:Nat)(K:DK):DN:={ nx:=λ_ G=>Fz n K .iz G,rt:=λd G=>Fz n K d G}
def qh(N:ao Str)(ds:ao D):DE:=ds.map some++List.replicate (N.length - ds.length) none
def kX.start{φ:ao ai}{H:Hp}{N:ao Str}{ds:ao D}{vs:ao V}(h:f9 φ H ds vs):kX φ H (qh N ds) (start N vs):=by
 have hl:=h.len;unfold qh L2.start;refine⟨by simp[hl],λi d e=>?_⟩;by_cases hi:i<ds.length
 .rw[uO (by rw[iE];exact hi),oC]at e;have J:ds[i]?=some d:=by
   cases q:ds[i]? with
   |none=>rw[q]at e;cases e
   |some z=>rw[q]at e;cases e;rfl
  obtain⟨v,G,hd⟩:=h.get J;exact⟨v,by rw[uO (by rw[iE];lia),oC,G];rfl,hd⟩
 .rw[pW (by rw[iE];lia)]at e;have:=mR e;have:=List.eq_of_mem_replicate this;cases this
section
variable {P:ae}{w:af}{K:aa}{mg:Str->aq ak}{fF:Heap}
def jY.pE{qual:Str}{f:ai}{fd:ag}{N:ao Str}{k:Nat}{fs:jZ}(F:jY K x qual st f fd)(S:gb N ps (fM st))(len:∀ ds μ G,fs ds μ G->ds.length=ps.length)
 (U:∀(O:ak) (A:Around) (fN:ao Env) (s:ah) (H:Hp) (E:XK),jE k (A.deeper (envOfC qual (fM st) s.heap.objs.size f O)) ->
   ∃ W,FJ (p6 kO P w K mg fF N qual (fM st) f O A fN s H E).WT (jy st) W/\∀ ds μ G,(∀(j:Nat) (m:MO),μ[j]?=some m->zu μ.length m)->tx μ.length ds->fs ds μ G->W (EC μ.length G) (qh N ds) μ):gD P w K mg fF kO (k+1) f fd ps (iL fs):=by
 refine F.ok S (λvs H Q E h=>?_) (λO A fN s H vs Q E Y h=>?_)
 .obtain⟨φ,ds,μ,G,ha,M,hf,L⟩:=h;rw[ha.len];exact len ds μ G hf
 .obtain⟨φ,ds,μ,G,ha,M,hf,L⟩:=h;obtain⟨W,Z,q⟩:=U O A fN s H E Y;refine⟨_,Z,φ,qh N ds,μ,EC μ.length G,.start ha,M,q ds μ G M.bound (by rw[<- M.len];exact ha.bound) hf,⟨λjV fX gA iS H' J f' A' M'=>?_,L.fz M,λ_ _ _ _ _ J _ _ _=>J.elim,λ_ _ _ _ _ J _ _ _=>J.elim⟩⟩;exact L.fz M .iz fX gA .iz H' J f' M' rfl
end
section
variable {prog:ae}{w:af}{A:Around}{E:ak->ah->Prop}{s:ah}
variable {c:Bool}{z TI TO i1 i2 l1 l2:ai}{k1 k2:Nat}{xs ys:Array ak}{x y a b:ak}
def nP{a:ai}{Q:aq Obj->ah->Prop}(h:Q (s.heap.get? a) s):wpAny (model prog w) A (loadIfAlive a) Q E s:=λG p _=>by show Sem.wp _ G (.loadIfAlive a .pure) _ _ p s;rw[Sem.wp_loadIfAlive];exact h
def Ig{Q:Fin->ah->Prop}(hh:A.handled=none)(D:ZipApart z TI TO i1 i2 l1 l2)(S:ZS c z TI TO i1 i2 l1 l2 .none a b k1 k2 xs ys s.heap)(hx:xs[k1]?=some x)(hy:ys[k2]?=none)
 (hE:∀ h' e,ZK z TO i1 i2 s.heap h'->(∃ o,h'.get? e=some o/\o.cls=.type "StopIteration")->E (.ref e) {s with heap:=h'}):
 wpAny (model prog w) A (Builtin.«zip.__next__» ⟨[.ref z],[]⟩) Q E s:=by
 refine fV (au (fV (aI S.z rfl (x:=.bool false) rfl (fV (aI S.z rfl (x:=.ref TI) rfl (fV (bc S.ti rfl ?_)))))));refine fV (m:=Builtin.SmallTypes.ownedTupleIsFree (.ref z)) (fV (aI S.z rfl (x:=.none) rfl (au ?_)));refine fV (dA (fV (aI S.z rfl (x:=.ref TO) rfl (fV (a6 S.z (by simp) λg1 e1 t1=>?_)))));have L:=S.mz D (f':=.ellipsis) e1 t1.extBut;refine fV ?_;rw[show(#[Value.ref i1,Value.ref i2]:Array ak).toList.zipIdx=[(.ref i1,0),(.ref i2,1)]from rfl,bF];refine fV (fV (cQ (fV (i9 L.n1 L.q1 hx λg2 e2 Z=>au ?_))));have J:=L.m1 D e2 Z.extBut;refine fV (bc J.to rfl (fV (cU J.to λg3 e3 Y=>fV (cV (au ?_)))));have G:=J.mo D (x:=x) (y:=b) e3 Y.extBut;dsimp only;rw[bF];refine fV (fV (cQ (fV (lq hh G.n2 G.q2 hy λg4 e W he=>?_))));obtain⟨oe,O,MK⟩:=he;have Dp:IsZip g4 z TI TO .ellipsis:=W _ _ D.i2z.symm G.z;have UR:e≠z:=λq=>by subst q;rw[Dp]at O;cases O;simp at MK
 exact a6 Dp (by simp) λg5 _ U=>hE g5 e ((((((om t1.extBut).trans (vN Z.extBut)).trans (Ie Y.extBut)).trans (B7 W))).trans (om U.extBut)) ⟨oe,U.extBut _ _ UR O,MK⟩
def Ca{Q:aq ak->ah->Prop}(hh:A.handled=none)(D:ZipApart z TI TO i1 i2 l1 l2)(S:ZS c z TI TO i1 i2 l1 l2 .none a b k1 k2 xs ys s.heap)(L:xs[k1]?=none\/ys[k2]?=none)
 (G:∀ h',ZK z TO i1 i2 s.heap h'->Q none {s with heap:=h'}):wpAny (model prog w) A (pyNext (.ref z)) Q E s:=by
 cases e1:xs[k1]? with
 |none=>exact FZ hh D S e1 G
 | some x =>
  have J:ys[k2]?=none:=by
   rcases L with q|q
   .rw[e1]at q;cases q
   .exact q
  have ty:s.TypeIs (.ref z) "zip":=⟨_,S.z,rfl⟩;unfold pyNext;refine fV (cR (bw (name:=Str.ofString "__next__") ty bX (cc bX ty c8 (Ig hh D S e1 J λh' e hk U=>?_) (cY _))));obtain⟨o,O,W⟩:=U;exact fV (dR (T:= "StopIteration") (b:=true) ⟨o,O,W⟩ eV (au (G _ hk)))
def FP(h:Heap)(z TI TO:ai)(T0:ai)(bb:Bool):Prop:=h.get? z=some { cls:=.type "zip",data:=.fields #[rawInt T0,.bool bb,.bool false,.ref TI,.ref TO]}
structure ZB (c:Bool)(z TI TO i1 i2 l1 l2 T0:ai)(k1 k2:Nat)(xs ys:Array ak)(h:Heap):Prop where
 az:T0≠z/\T0≠i1/\T0≠i2
 z:∃ bb,FP h z TI TO T0 bb
 ti:IsPair h TI (.ref i1) (.ref i2)
 n1:lj c h i1 l1 k1
 n2:lj c h i2 l2 k2
 q1:lE c h l1 xs
 q2:lE c h l2 ys
 al:∃ o,h.get? T0=some o
 to:∃ o,h.get? TO=some o
def Oy(D:ZipApart z TI TO i1 i2 l1 l2)(S:ZB c z TI TO i1 i2 l1 l2 T0 k1 k2 xs ys s.heap)(hx:xs[k1]?=some x)(hy:ys[k2]?=some y)
 (hQ:∀ h',ZB c z TI TO i1 i2 l1 l2 T0 (k1+1) (k2+1) xs ys h'->IsPair h' s.heap.objs.size x y->ZK z TO i1 i2 s.heap h'->Q (.ref s.heap.objs.size) {s with heap:=h'}):
 wpAny (model prog w) A (Builtin.«zip.__next__» ⟨[.ref z],[]⟩) (λfin s'=>∃ v,fin=.done (.ret v)/\Q v s') E s:=by
 obtain⟨bb,W⟩:=S.z;obtain⟨oT,Zg⟩:=S.al;refine fV (au (fV (aI W rfl (x:=.bool false) rfl (fV (aI W rfl (x:=.ref TI) rfl (fV (bc S.ti rfl ?_)))))));refine fV (m:=Builtin.SmallTypes.ownedTupleIsFree (.ref z)) (fV (aI W rfl (x:=rawInt T0) rfl ?_));show wpAny _ _ (loadIfAlive T0>>=_) _ _ s;refine fV (nP ?_);rw[Zg];show wpAny _ _ (field (.ref z) 1>>=_) _ _ s;refine fV (aI W rfl (x:=.bool bb) rfl ?_);have go:∃ Y:Heap,FP Y z TI TO T0 true/\Heap.SameBut z s.heap Y/\∀(Z:Bool->ah->Prop),Z false { s with heap:=Y}->wpAny (model prog w) A (if(Value.bool bb != Value.bool true)=true then(setField (Value.ref z) 1 (Value.bool true) >>= λ_=>pure false)else pure false) Z E s:=by
  cases bb with
  |true=>exact⟨s.heap,W,⟨rfl,λ_ _=>rfl⟩,λZ q=>au q⟩
  |false=>exact⟨s.heap.update z (Obj.mapFields (·.setIfInBounds 1 (.bool true))),bz _ W rfl,d4 ..,λZ q=>fV (c9 W rfl (by simp) (au q))⟩
 obtain⟨Y,z1,L,run⟩:=go;refine run _ ?_;have n1:=S.n1.extBut L.extBut D.i1z;have n2:=S.n2.extBut L.extBut D.i2z;have q1:=S.q1.extBut L.extBut D.l1z;have q2:=S.q2.extBut L.extBut D.l2z;show wpAny _ _ (forIn (#[Value.ref i1,Value.ref i2]:Array ak) (none,#[]) _>>=_) _ _ _;rw[<- eL];refine fV ?_;rw[show(#[Value.ref i1,Value.ref i2]:Array ak).toList=[.ref i1,.ref i2]from rfl,bF];refine fV (fV (bB (fV (i9 (s:={s with heap:=Y}) n1 q1 hx λg2 e2 J=>au (au ?_)))));dsimp only;rw[bF];have n2':=n2.extBut J.extBut D.i12.symm;have WD:=q2.extBut J.extBut D.l2i1;refine fV (fV (bB (fV (i9 (s:={s with heap:=g2}) n2' WD hy λO e3 G=>au (au ?_)))));dsimp only;rw[dQ];refine au (fV (eT (au ⟨_,rfl,?_⟩) (by show 2<=sizeLine;decide)));have sz:O.objs.size=s.heap.objs.size:=G.1.trans (J.1.trans L.1);show Q (.ref O.objs.size) _;have kk:ZK z TO i1 i2 s.heap (O.push { cls:=.type "tuple",data:=.seq #[x,y]}):=(((om L.extBut).trans (vN J.extBut)).trans (B7 G.extBut)).trans λd o _ _ _ _ e=>j4 _ e;have hT:IsPair (O.push { cls:=.type "tuple",data:=.seq #[x,y]}) O.objs.size x y:=aE _ rfl;rw[sz]at hT ⊢
 have U:∀ {d:ai} {o:Obj},O.get? d=some o->(O.push { cls:=.type "tuple",data:=.seq #[x,y]}).get? d=some o:=λe=>j4 _ e;refine hQ _ ⟨S.az,⟨true,U (G.extBut _ _ D.i2z.symm (J.extBut _ _ D.i1z.symm z1))⟩,U (G.extBut _ _ D.TIi2 (J.extBut _ _ D.TIi1 (L.extBut _ _ D.TIz S.ti))),(e2.extBut G.extBut D.i12).at λ_ e=>U e,e3.at λ_ e=>U e,
  (((q1.extBut J.extBut D.l1i1).extBut G.extBut D.l1i2)).extBut (b:=O.objs.size) (λ_ _ _ e=>U e) (((q1.extBut J.extBut D.l1i1).extBut G.extBut D.l1i2).lt),((WD.extBut G.extBut D.l2i2)).extBut (b:=O.objs.size) (λ_ _ _ e=>U e) ((WD.extBut G.extBut D.l2i2).lt),⟨oT,U (G.extBut _ _ S.az.2.2 (J.extBut _ _ S.az.2.1 (L.extBut _ _ S.az.1 Zg)))⟩,(let ⟨o,e⟩:=S.to;⟨o,U (G.extBut _ _ D.TOi2 (J.extBut _ _ D.TOi1 (L.extBut _ _ D.TOz e)))⟩)⟩ hT kk
def Oz{Q:Fin->ah->Prop}(hh:A.handled=none)(D:ZipApart z TI TO i1 i2 l1 l2)(S:ZB c z TI TO i1 i2 l1 l2 T0 k1 k2 xs ys s.heap)(hx:xs[k1]?=none\/ys[k2]?=none)
 (hE:∀ h' e,ZK z TO i1 i2 s.heap h'->(∃ o,h'.get? e=some o/\o.cls=.type "StopIteration")->E (.ref e) {s with heap:=h'}):
 wpAny (model prog w) A (Builtin.«zip.__next__» ⟨[.ref z],[]⟩) Q E s:=by
 obtain⟨bb,G⟩:=S.z;obtain⟨oT,Zg⟩:=S.al;refine fV (au (fV (aI G rfl (x:=.bool false) rfl (fV (aI G rfl (x:=.ref TI) rfl (fV (bc S.ti rfl ?_)))))));refine fV (m:=Builtin.SmallTypes.ownedTupleIsFree (.ref z)) (fV (aI G rfl (x:=rawInt T0) rfl ?_));show wpAny _ _ (loadIfAlive T0>>=_) _ _ s;refine fV (nP ?_);rw[Zg];show wpAny _ _ (field (.ref z) 1>>=_) _ _ s;refine fV (aI G rfl (x:=.bool bb) rfl ?_);have go:∃ L:Heap,FP L z TI TO T0 true/\Heap.SameBut z s.heap L/\∀(U:Bool->ah->Prop),U false { s with heap:=L}->wpAny (model prog w) A (if(Value.bool bb != Value.bool true)=true then(setField (Value.ref z) 1 (Value.bool true) >>= λ_=>pure false)else pure false) U E s:=by
  cases bb with
  |true=>exact⟨s.heap,G,⟨rfl,λ_ _=>rfl⟩,λU q=>au q⟩
  |false=>exact⟨s.heap.update z (Obj.mapFields (·.setIfInBounds 1 (.bool true))),bz _ G rfl,d4 ..,λU q=>fV (c9 G rfl (by simp) (au q))⟩
 obtain⟨L,z1,J,run⟩:=go;refine run _ ?_;have n1:=S.n1.extBut J.extBut D.i1z;have n2:=S.n2.extBut J.extBut D.i2z;have q1:=S.q1.extBut J.extBut D.l1z;have q2:=S.q2.extBut J.extBut D.l2z;show wpAny _ _ (forIn (#[Value.ref i1,Value.ref i2]:Array ak) (none,#[]) _>>=_) _ _ _;rw[<- eL];refine fV ?_;rw[show(#[Value.ref i1,Value.ref i2]:Array ak).toList=[.ref i1,.ref i2]from rfl,bF];cases ex:xs[k1]? with
 |none=>exact fV (fV (bB (fV (lq (s:={s with heap:=L}) hh n1 q1 ex λZ e O Y=>hE Z e ((om J.extBut).trans (vN O)) Y))))
 | some x =>
  have hy:ys[k2]?=none:=by
   rcases hx with q|q
   .rw[ex]at q;cases q
   .exact q
  refine fV (fV (bB (fV (i9 (s:={s with heap:=L}) n1 q1 ex λZ e2 O=>au (au ?_)))));dsimp only;rw[bF];have W:=n2.extBut O.extBut D.i12.symm;have WD:=q2.extBut O.extBut D.l2i1;exact fV (fV (bB (fV (lq (s:={s with heap:=Z}) hh W WD hy λg3 e t3 Y=>hE g3 e (((om J.extBut).trans (vN O.extBut)).trans (B7 t3)) Y))))
def OA{Q:aq ak->ah->Prop}(D:ZipApart z TI TO i1 i2 l1 l2)(S:ZB c z TI TO i1 i2 l1 l2 T0 k1 k2 xs ys s.heap)(J:xs[k1]?=some x)(G:ys[k2]?=some y)
 (L:∀ h',ZB c z TI TO i1 i2 l1 l2 T0 (k1+1) (k2+1) xs ys h'->IsPair h' s.heap.objs.size x y->ZK z TO i1 i2 s.heap h'->Q (some (.ref s.heap.objs.size)) {s with heap:=h'}):
 wpAny (model prog w) A (pyNext (.ref z)) Q E s:=by
 have ty:s.TypeIs (.ref z) "zip":=let ⟨_,q⟩:=S.z;⟨_,q,rfl⟩
 unfold pyNext;exact fV (cR (bw (name:=Str.ofString "__next__") ty bX (cc bX ty c8 (Oy D S J G λh' a1 a2 a3=>au (L h' a1 a2 a3)) (cY _))))
def SM{Q:aq ak->ah->Prop}(hh:A.handled=none)(D:ZipApart z TI TO i1 i2 l1 l2)(S:ZB c z TI TO i1 i2 l1 l2 T0 k1 k2 xs ys s.heap)(G:xs[k1]?=none\/ys[k2]?=none)
 (U:∀ h',ZK z TO i1 i2 s.heap h'->Q none {s with heap:=h'}):wpAny (model prog w) A (pyNext (.ref z)) Q E s:=by
 have ty:s.TypeIs (.ref z) "zip":=let ⟨_,q⟩:=S.z;⟨_,q,rfl⟩
 unfold pyNext;refine fV (cR (bw (name:=Str.ofString "__next__") ty bX (cc bX ty c8 (Oz hh D S G λh' e hk L=>?_) (cY _))));obtain⟨o,J,O⟩:=L;exact fV (dR (T:= "StopIteration") (b:=true) ⟨o,J,O⟩ eV (au (U _ hk)))
end
def Yz(c:Bool)(a1 a2:ai):It:={ Zx c a1 a2 with stop:=λi H=>∃ xs ys,yV c H a1 xs/\yV c H a2 ys/\(xs.length<=i\/ys.length<=i)}
def Ij{P:ae}{K:aa}{kk:Nat}{z TI TO i1 i2 l1 l2:ai}(D:ZipApart z TI TO i1 i2 l1 l2):
 Turn P w K (.Tuple elts kk tpos) (Yz c l1 l2) [z,TI,TO,i1,i2] z (λi h=>IsZip h z TI TO .none/\IsPair h TI (.ref i1) (.ref i2)/\(∃ a b,IsPair h TO a b)/\lj c h i1 l1 i/\lj c h i2 l2 i) where
 mem:=(oJ (P:=P) (w:=w) (K:=K) (elts:=elts) (kk:=kk) (tpos:=tpos) (c:=c) D).mem
 obj:=(oJ (P:=P) (w:=w) (K:=K) (elts:=elts) (kk:=kk) (tpos:=tpos) (c:=c) D).obj
 keep:=(oJ (P:=P) (w:=w) (K:=K) (elts:=elts) (kk:=kk) (tpos:=tpos) (c:=c) D).keep
 item:=(oJ (P:=P) (w:=w) (K:=K) (elts:=elts) (kk:=kk) (tpos:=tpos) (c:=c) D).item
 self:=(oJ (P:=P) (w:=w) (K:=K) (elts:=elts) (kk:=kk) (tpos:=tpos) (c:=c) D).self
 done:=by
  intro X hP U hK Z i fE s σ H E I Y st W;subst hP U hK;obtain⟨O,B5,⟨a,b',B4⟩,h1,h2⟩:=st;obtain⟨xs,ys,q1,q2,hx⟩:=W;obtain⟨us,J,L⟩:=q1.val I;obtain⟨ws,G,p2⟩:=q2.val I;have hl:=J.length;have sG:=G.length;refine Ca (I.ok.hd Z) D ⟨O,B5,B4,h1,h2,L,p2⟩ (by simp;lia) λh' hk=>⟨rfl,?_⟩;exact I.y9 (ch:=[z,TO,i1,i2]) (λb hb=>Y b (by
   simp only[aO,aH,bN]at hb ⊢
   rcases hb with q|q|q|q<;>simp[q])) λb o hb e=>hk b o (λq=>hb (by simp[q])) (λq=>hb (by simp[q])) (λq=>hb (by simp[q])) (λq=>hb (by simp[q])) e
def Xf(ta:TA):TI:=λσ H R=>ta σ H λvs H1=>match vs with
 |[.ref a,.ref b]=>∃(c:Bool) (xs ys:ao V),yV c H1 a xs/\yV c H1 b ys/\R (Yz c a b) H1
 |_=>False
def Pj{elts:ao Expr}{kk:Nat}{tpos:Pos}{a b:Expr}{p pos:Pos}(hg:Gl X "zip")(hm:X.mg "zip"=none)(ha:PA X [a,b] ta)(Z:starEach [a,b] X.env=[(false,eval a X.env),(false,eval b X.env)]:=by rfl)(rE:starEach [b] X.env=[(false,eval b X.env)]:=by rfl):
 PI X (.Tuple elts kk tpos) (.Call (.Name "zip" p) [a,b] [] pos) (Xf ta):=by
 intro fE s σ H R I h;refine Call_ (lM I hg hm boot_zip (bh (iN (ha pos fE s σ H _ I h) λus J W=>?_) (by rw[Z,rE]) (by rw[rE];rfl)));obtain⟨vs,H1,G,L,q1⟩:=W;try dsimp only at q1
 split at q1
 .rename_i l1 l2;obtain⟨c,xs,ys,q1,q2,q⟩:=q1;obtain⟨u1,u2,rfl,e1,e2⟩:=L.two;cases e1;cases e2;obtain⟨us,L,Y⟩:=q1.val G;obtain⟨ws,r2,p2⟩:=q2.val G;have lt:∀ {l:ai} {o:HO},H1 l=some o->l<J.heap.objs.size:=λe=>G.hG.lt e;obtain⟨o1,w1⟩:=q1.ex;obtain⟨o2,w2⟩:=q2.ex;refine sI Y p2 λh' O B5 B4 n1 n2 kp=>cM O ?_;have I2:Inv X fE σ H1 { J with heap:=h'}:=G.jk (t':=J.toks) kp;refine⟨J.heap.objs.size+4,_,_,_,H1,rfl,I2,Ij (c:=c) (zipApart_new (lt w1) (lt w2)),⟨O,B5,⟨_,_,B4⟩,n1,n2⟩,λb hb=>?_,q⟩;have U:J.heap.objs.size<=b:=by
   simp only[aO,aH,bN]at hb;rcases hb with e|e|e|e|e<;>subst e
   .exact aR ..
   .exact aR ..
   .exact aR ..
   .exact ar _
   .exact aR ..
  exact G.Dw U (G.hG.fresh U)
 .exact q1.elim
def Em:typeLookup (.type "zip") "__len__"=pure none:=by rw[typeLookup_type,builtinLookup_eq_fast];kernel_rfl
def B8:typeLookup (.type "zip") "__length_hint__"=pure none:=by rw[typeLookup_type,builtinLookup_eq_fast];kernel_rfl
def Q7(z TI TO i1 i2 l1 l2:ai)(i:Nat)(xs ys:Array ak)(h:Heap):Prop :=
 (i=0/\∃ a b,ZS false z TI TO i1 i2 l1 l2 .none a b 0 0 xs ys h)\/∃ T0,ZB false z TI TO i1 i2 l1 l2 T0 i i xs ys h
def Q7.next{P:ae}{w:af}{A:Around}{E:ak->ah->Prop}{z TI TO i1 i2 l1 l2:ai}{xs ys:Array ak}{x y:ak}{Q:aq ak->ah->Prop}(Z:Q7 z TI TO i1 i2 l1 l2 i xs ys s.heap)(D:ZipApart z TI TO i1 i2 l1 l2)(L:xs[i]?=some x)(J:ys[i]?=some y)
 (O:∀ h',Q7 z TI TO i1 i2 l1 l2 (i+1) xs ys h'->IsPair h' s.heap.objs.size x y->ZK z TO i1 i2 s.heap h'->Q (some (.ref s.heap.objs.size)) {s with heap:=h'}):wpAny (model P w) A (pyNext (.ref z)) Q E s:=by
 rcases Z with⟨rfl,a,b,S⟩|⟨T0,S⟩
 .refine B9 D S L J λh' S' G kk=>O h' (.inr ⟨s.heap.objs.size,⟨?_,?_,?_⟩,⟨false,S'.z⟩,S'.ti,S'.n1,S'.n2,S'.q1,S'.q2,⟨_,G⟩,⟨_,S'.to⟩⟩) G kk
  .exact a8 (jf S.z)
  .obtain⟨o,e⟩:=S.n1.ex;exact a8 (jf e)
  .obtain⟨o,e⟩:=S.n2.ex;exact a8 (jf e)
 .exact OA D S L J λh' S' G kk=>O h' (.inr ⟨T0,S'⟩) G kk
def Q7.over{P:ae}{w:af}{A:Around}{E:ak->ah->Prop}{z TI TO i1 i2 l1 l2:ai}{xs ys:Array ak}{Q:aq ak->ah->Prop}(hh:A.handled=none)(Z:Q7 z TI TO i1 i2 l1 l2 i xs ys s.heap)(D:ZipApart z TI TO i1 i2 l1 l2)(G:xs[i]?=none\/ys[i]?=none)
 (J:∀ h',ZK z TO i1 i2 s.heap h'->Q none {s with heap:=h'}):wpAny (model P w) A (pyNext (.ref z)) Q E s:=by
 rcases Z with⟨rfl,a,b,S⟩|⟨T0,S⟩
 .exact Ca hh D S G J
 .exact SM hh D S G J
def Q7.but{z TI TO i1 i2 l1 l2 S:ai}{xs ys:Array ak}(Z:Q7 z TI TO i1 i2 l1 l2 i xs ys h)(e:Heap.ExtBut S h h')(n:S∉[z,TI,TO,i1,i2,l1,l2])(nT:∀ o,h.get? S=some o->o.cls=.type "list")(J:∃ o,h'.get? S=some o):Q7 z TI TO i1 i2 l1 l2 i xs ys h':=by
 simp only[aO,aH,bN,not_or]at n;obtain⟨n1,n2,Y,W,U,O,L⟩:=n;rcases Z with⟨rfl,a,b,G⟩|⟨T0,G⟩
 .exact .inl ⟨rfl,a,b,e _ _ (bj n1) G.z,e _ _ (bj n2) G.ti,e _ _ (bj Y) G.to,G.n1.extBut e (bj W),G.n2.extBut e (bj U),G.q1.extBut e (bj O),G.q2.extBut e (bj L)⟩
 .obtain⟨bb,hz⟩:=G.z;refine .inr ⟨T0,G.az,⟨bb,e _ _ (bj n1) hz⟩,e _ _ (bj n2) G.ti,G.n1.extBut e (bj W),G.n2.extBut e (bj U),G.q1.extBut e (bj O),G.q2.extBut e (bj L),?_,(let ⟨o,q⟩:=G.to;⟨o,e _ _ (bj Y) q⟩)⟩;obtain⟨o,ho⟩:=G.al;by_cases hT:T0=S
  .subst hT;exact J
  .exact⟨o,e _ _ hT ho⟩
section
variable {X:Cx}{fE:ao (ai×Obj)}{σ:St}
def vL(H:Hp)(xs ys:ao V)(us:ao V):Prop:=∀(i:Nat) (u:V),us[i]?=some u->∃ T x y,u=V.ref T/\H T=some (.tup [x,y])/\xs[i]?=some x/\ys[i]?=some y
def vL.same{xs ys us:ao V}(h:vL H xs ys us)(s:iM H H'):vL H' xs ys us:=λi u e=>let ⟨T,x,y,a,b,c⟩:=h i u e;⟨T,x,y,a,s _ _ b,c⟩
def Kk{A:Around}{z TI TO i1 i2 l1 l2 S:ai}{H0:Hp}{xs ys:ao V}{xv yv:ao ak}{res:ak}(hh:A.handled=none)(D:ZipApart z TI TO i1 i2 l1 l2)(rx:gG xs xv)(ry:gG ys yv)(hz1:xs.length<=sizeLine)
 (L:S∉[z,TI,TO,i1,i2,l1,l2])
 (hR:∀ s' H' us J c,Inv X fE σ H' s'->iM H0 H'->H' S=none->s'.heap.get? S=some (lobj J c)->gG us J->us.length=min xs.length ys.length->vL H' xs ys us->R (.ok (.ret res)) s'):
 ∀(k i:Nat) (s:ah) (H:Hp) (us:ao V) (J:ao ak) (c:Nat),min xs.length ys.length - i=k->i<=min xs.length ys.length->us.length=i->Inv X fE σ H s->iM H0 H->(∀ b∈[z,TO,i1,i2,S],mT X fE H b)->s.heap.get? S=some (lobj J c)->gG us J->vL H xs ys us ->
  Q7 z TI TO i1 i2 l1 l2 i xv.toArray yv.toArray s.heap->codeAny (model X.prog X.w) A (.builtin "list.extend.loop" ⟨[.ref S,.ref z,res],[]⟩) R s:=by
 have lx:=rx.length
 have ly:=ry.length
 have RT:S≠z/\S≠TO/\S≠i1/\S≠i2:=by simp only[aO,aH,bN,not_or]at L;exact⟨L.1,L.2.2.1,L.2.2.2.1,L.2.2.2.2.1⟩
 have Y:∀ {h h':Heap},ZK z TO i1 i2 h h'->∀ b o,b∉[z,TO,i1,i2]->h.get? b=some o->h'.get? b=some o:=λkk b o hb e=>kk b o (λq=>hb (by simp[q])) (λq=>hb (by simp[q])) (λq=>hb (by simp[q])) (λq=>hb (by simp[q])) e
 have sub:∀ b∈[z,TO,i1,i2],b∈[z,TO,i1,i2,S]:=λb hb=>by
  simp only[aO,aH,bN]at hb ⊢
  rcases hb with q|q|q|q<;>simp[q]
 have W:S∉[z,TO,i1,i2]:=by simp only[aO,aH,bN,not_or];exact⟨RT.1,RT.2.1,RT.2.2.1,RT.2.2.2⟩
 intro k
 induction k with
 | zero =>
  intro i s H us J c hk hi hu I hS fp gS rv pr Z;have ei:i=min xs.length ys.length:=by lia
  refine dG F.entry_extend_loop ?_;rw[dn d7 _];show wpAny _ A.in1 (pyNext (.ref z)>>=_) _ _ s;refine fV (Z.over (A:=A.in1) hh D (by simp;lia) λh' kk=>?_);have I':=I.y9 (ch:=[z,TO,i1,i2]) (λb hb=>fp b (sub b hb)) (Y kk);exact au (hR _ H us J c I' hS (fp S (by simp)).1 (Y kk _ _ W gS) rv (hu.trans ei) pr)
 | succ k ih =>
  intro i s H us J c hk hi hu I hS fp gS rv pr Z;have mW:i<min xs.length ys.length:=by lia
  obtain⟨x,ex⟩:∃ x,xs[i]?=some x:=⟨xs[i]'(by lia),jo _⟩;obtain⟨y,ey⟩:∃ y,ys[i]?=some y:=⟨ys[i]'(by lia),jo _⟩;obtain⟨u,eu,ru⟩:=rx.get ex;obtain⟨v,ev,rv'⟩:=ry.get ey;have lu:=rv.length;refine dG F.entry_extend_loop ?_;rw[dn d7 _];show wpAny _ A.in1 (pyNext (.ref z)>>=_) _ _ s;refine fV (Z.next (A:=A.in1) D (by simpa using eu) (by simpa using ev) λh' Z' hT kk=>?_);have I':=I.Cj (ch:=[z,TO,i1,i2]) (λb hb=>fp b (sub b hb)) (Y kk) hT ru rv';have hn:H s.heap.objs.size=none:=I.hG.fresh (ar _);have S1:iM H (upd H s.heap.objs.size (.tup [x,y])):=iM.upd hn;have neT:∀ b∈[z,TO,i1,i2,S],b≠s.heap.objs.size:=λb hb q=>by
   have nl:S<s.heap.objs.size:=jf gS;have nz:z<s.heap.objs.size:=by
    rcases Z with⟨_,a,b,G⟩|⟨T0,G⟩
    .exact jf G.z
    .obtain⟨_,hz⟩:=G.z;exact jf hz
   have n1:i1<s.heap.objs.size:=by
    rcases Z with⟨_,a,b,G⟩|⟨T0,G⟩
    .obtain⟨o,e⟩:=G.n1.ex;exact jf e
    .obtain⟨o,e⟩:=G.n1.ex;exact jf e
   have n2:i2<s.heap.objs.size:=by
    rcases Z with⟨_,a,b,G⟩|⟨T0,G⟩
    .obtain⟨o,e⟩:=G.n2.ex;exact jf e
    .obtain⟨o,e⟩:=G.n2.ex;exact jf e
   have n3:TO<s.heap.objs.size:=by
    rcases Z with⟨_,a,b,G⟩|⟨T0,G⟩
    .exact jf G.to
    .obtain⟨o,e⟩:=G.to;exact jf e
   simp only[aO,aH,bN]at hb;rcases hb with e|e|e|e|e
   .exact aA nz (e.symm.trans q)
   .exact aA n3 (e.symm.trans q)
   .exact aA n1 (e.symm.trans q)
   .exact aA n2 (e.symm.trans q)
   .exact aA nl (e.symm.trans q)
  have VZ:=Y kk _ _ W gS;have U:∀ b∈[z,TO,i1,i2,S],mT X fE (upd H s.heap.objs.size (.tup [x,y])) b:=λb hb=>⟨by rw[gr (neT b hb)];exact(fp b hb).1,(fp b hb).2⟩;show wpAny _ A.in1 (updateSeq S (·.push (Value.ref s.heap.objs.size))>>=_) _ _ _;refine fV (dg VZ rfl (au ⟨eh d7 _,?_⟩) (by rw[aD];lia) (by show(J.toArray.push _).size<=sizeLine+1;rw[Array.size_push,aD];lia));have but:Heap.ExtBut S h' (h'.update S (Obj.mapSeq (·.push (Value.ref s.heap.objs.size)))):=λb o hb e=>(aQ _ _ (bj hb)).trans e;have gS2:=bz (Obj.mapSeq (·.push (Value.ref s.heap.objs.size))) VZ rfl;have I2:=I'.y9 (ch:=[S]) (h'':=h'.update S (Obj.mapSeq (·.push (Value.ref s.heap.objs.size)))) (λb hb=>by rw[List.mem_singleton.mp hb];exact U S (by simp)) λb o hb e=>but b o (λq=>hb (by simp[q])) e;have e2:J.toArray.push (Value.ref s.heap.objs.size)=(J++[Value.ref s.heap.objs.size]).toArray:=by simp
  obtain⟨c',O⟩:∃ c',(h'.update S (Obj.mapSeq (·.push (Value.ref s.heap.objs.size)))).get? S=some (lobj (J++[Value.ref s.heap.objs.size]) c'):=by have q:=PySem.IsL.update VZ (·.push (Value.ref s.heap.objs.size));rw[e2]at q;exact⟨_,q⟩
  refine ih (i+1) _ _ (us++[.ref s.heap.objs.size]) _ c' (by lia) mW (by rw[o4,bM,hu]) I2 (hS.trans S1) U O (rv.append (.cons (show gB (V.ref s.heap.objs.size) _ from rfl) .nil)) ?_ (Z'.but but L (λo e=>?_) ⟨_,O⟩)
  .intro j u' ej;by_cases hj:j<us.length
   .rw[uO hj]at ej;exact pr.same S1 j u' ej
   .rw[pW (by lia)]at ej;have R8:j - us.length=0:=by have:=(kN ej).1;rw[bM]at this;lia
    rw[R8]at ej;cases ej;have:j=i:=by lia
    subst this;exact⟨_,x,y,rfl,gc,ex,ey⟩
  .rw[VZ]at e;cases e;rfl
def Md{a:ai}{xs ys:ao V}{Q:VK}(I:Inv X fE σ H s)(gY:X.gY=true)(ha:H a=some (.lst xs))(hb:H b=some (.lst ys))
 (hQ:∀ l us H',H l=none->iM H H'->H' l=some (.lst us)->us.length=min xs.length ys.length->vL H' xs ys us->Q (.ref l) H'):
 wpAny (model X.prog X.w) X.A (call (.type "zip") [.ref a,.ref b]) (λv s1=>wpAny (model X.prog X.w) X.A (call (.type "list") [v]) (EP X fE σ Q) X.xe s1) X.xe s:=by
 obtain⟨z1,xv,n1,rx,lx,ea⟩:=I.mQ ha;obtain⟨z2,yv,n2,ry,ly,eb⟩:=I.mQ hb;have p1:lE false s.heap a xv.toArray:=⟨_,ea,rfl,n1,rfl⟩;have p2:lE false s.heap b yv.toArray:=⟨_,eb,rfl,n2,rfl⟩;have la:(a:Nat)<s.heap.objs.size:=jf ea;have lb:(b:Nat)<s.heap.objs.size:=jf eb;refine sI p1 p2 λh' hz B5 B4 i1 i2 kp=>?_;have I1:Inv X fE σ H {s with heap:=h'}:=I.jk (t':=s.toks) kp;have D:ZipApart (s.heap.objs.size+4) (s.heap.objs.size+2) (s.heap.objs.size+3) s.heap.objs.size (s.heap.objs.size+1) a b:=zipApart_new la lb;refine callType_codes (Q₁:=λobj L=>obj=.ref h'.objs.size/\L={s with heap:=h'.push { cls:=.type "list",data:=.seq #[]}}) F.called_list (F.typeCall_list_1 _) F.entry_list_init (code_list_new _ ⟨rfl,rfl⟩) λobj L h₁=>?_;obtain⟨rfl,rfl⟩:=h₁;have hS:(h'.push { cls:=.type "list",data:=.seq #[]}).get? h'.objs.size=some (lobj [] 0):=aE _ rfl;refine⟨⟨_,hS,rfl⟩,F.args_list_init_2 _ _,?_⟩;have I2:Inv X fE σ H {s with heap:=h'.push { cls:=.type "list",data:=.seq #[]}}:=I1.jk (t':=s.toks) λ_ _ e=>j4 _ e;have sz:s.heap.objs.size+4<h'.objs.size:=jf hz;have fpn:∀ c,s.heap.objs.size<=c->mT X fE H c:=λc hc=>I.Dw hc (I.hG.fresh hc);show wpAny _ X.A.in1.in1 (do let old <- Builtin.List.listItems (.ref h'.objs.size);Builtin.List.listUpdate (.ref h'.objs.size) (λ_=>#[]);letGo old.toList.reverse;Builtin.List.listExtendWith (.ref h'.objs.size) (.ref (s.heap.objs.size+4)) .none) _ _ _;refine fV ?_;unfold Builtin.List.listItems;refine fV (bc hS rfl (au ?_));show wpAny _ X.A.in1.in1 (updateSeq h'.objs.size (λ_=>#[])>>=λ_=>letGo (#[]:Array ak).toList.reverse>>=λ_=>Builtin.List.listExtendWith (.ref h'.objs.size) (.ref (s.heap.objs.size+4)) .none) _ _ _;refine fV (dg hS rfl ?_);refine fV (cV ?_);have fill:∀(g:Heap) (tk c:Nat),(∀ d o,d≠h'.objs.size->(h'.push { cls:=.type "list",data:=.seq #[]}).get? d=some o->g.get? d=some o)->g.get? h'.objs.size=some (lobj [] c) ->
  codeAny (model X.prog X.w) X.A.in1 (.builtin "list.extend.loop" ⟨[.ref h'.objs.size,.ref (s.heap.objs.size+4),.none],[]⟩) (wants (λr Y=>r=.none/\EP X fE σ Q (.ref h'.objs.size) Y) X.xe) {s with heap:=g,toks:=tk}:=λg tk c kg gS=>by
  have O:∀ d o,h'.get? d=some o->g.get? d=some o:=λd o e=>kg d o (aA (jf e)) (j4 _ e);have I3:Inv X fE σ H {s with heap:=g,toks:=tk}:=I1.jk (t':=tk) O;have nS:h'.objs.size∉[s.heap.objs.size+4,s.heap.objs.size+2,s.heap.objs.size+3,s.heap.objs.size,s.heap.objs.size+1,a,b]:=by simp only[aO,aH,bN,not_or];have sz':(s.heap.objs.size:Nat)+4<h'.objs.size:=sz;refine⟨?_,?_,?_,?_,?_,a8 (dU la (by lia)),a8 (dU lb (by lia))⟩<;> (intro q;lia)
  refine Kk (A:=X.A.in1) (I.ok.hd gY) D rx ry z1 nS (H0:=H) ?_ _ 0 _ H [] [] c rfl (bA _) rfl I3 (iM.refl _) ?_ gS .nil (λi u e=>by simp at e) (.inl ⟨rfl,.none,.none,O _ _ hz,O _ _ B5,O _ _ B4,i1.at λ_ e=>O _ _ e,i2.at λ_ e=>O _ _ e,⟨_,O _ _ (kp _ _ ea),rfl,n1,rfl⟩,⟨_,O _ _ (kp _ _ eb),rfl,n2,rfl⟩⟩)
  .intro s' H' us gp c' I' S' RT VZ rv lu pr;refine⟨rfl,?_⟩;have U:=fpn h'.objs.size (by lia);have I4:=I'.adopt (ys:=us) RT U.2.1 (by have:=I.sz;lia) U.2.2.2.2.1 U.2.2.2.2.2 VZ rv (by lia);exact⟨.ref h'.objs.size,_,I4,rfl,hQ _ us _ (I.hG.fresh (by lia)) (S'.trans (iM.upd RT)) gc lu (pr.same (iM.upd RT))⟩
  .intro d hd;simp only[aO,aH,bN]at hd;refine fpn d ?_;rcases hd with e|e|e|e|e<;>subst e<;>lia
 have J:=bz (Obj.mapSeq (λ_=>(#[]:Array ak))) hS rfl;have Z:∀(d:ai) (o:Obj),d≠h'.objs.size->(h'.push { cls:=.type "list",data:=.seq #[]}).get? d=some o->((h'.push { cls:=.type "list",data:=.seq #[]}).update h'.objs.size (Obj.mapSeq (λ_=>(#[]:Array ak)))).get? d=some o :=
  λd o hd e=>(aQ _ _ (bj hd)).trans e
 have Dp:=Z _ _ (aA sz) (j4 { cls:=.type "list",data:=.seq #[]} hz);have ZI:Shared.TypeIs {s with heap:=(h'.push { cls:=.type "list",data:=.seq #[]}).update h'.objs.size (Obj.mapSeq (λ_=>(#[]:Array ak)))} (.ref (s.heap.objs.size+4)) "zip":=⟨_,Dp,rfl⟩;unfold Builtin.List.listExtendWith;refine fV (wpAny_typeOf ZI ?_);have e1:Builtin.List.listSameRef (.ref h'.objs.size) (.ref (s.heap.objs.size+4))=false:=by simp only[Builtin.List.listSameRef];exact beq_false_of_ne (a8 sz)
 have e2:(Value.type "zip"==Value.type "list")=false:=by decide
 have e3:(Value.type "zip"==Value.type "tuple")=false:=by decide
 simp only[e1,e2,e3,Bool.or_false,dF,if_false];refine fV (cM Dp ?_);refine fV (bB ?_);unfold Builtin.List.listLengthHint;refine fV (wpAny_specialOf ZI Em ?_);show wpAny _ _ (specialOf (Value.ref (s.heap.objs.size+4)) (Str.ofString "__length_hint__")>>=_) _ _ _;refine fV (wpAny_specialOf ZI B8 ?_);refine au ?_;show wpAny _ _ (rule "list.extend.makes-room" >>= λ_=>Builtin.List.listTouch (.ref h'.objs.size) >>= λ_ =>
  again (.builtin "list.extend.loop" ⟨[.ref h'.objs.size,.ref (s.heap.objs.size+4),.none],[]⟩)) _ _ _
 refine fV (dA ?_);refine fV ?_;show wpAny _ _ (updateSeq h'.objs.size (·.push .none)>>=λ_=>updateSeq h'.objs.size (·.pop)) _ _ _;refine fV (dg J rfl ?_);have G:=bz (Obj.mapSeq (·.push Value.none)) J rfl;refine dg (hz:=by seq_fits) G rfl ?_;have W:=bz (Obj.mapSeq (·.pop)) G rfl;refine au ⟨eh d7 _,fill _ s.toks _ (λd o hd e=>?_) W⟩;exact(aQ _ _ (bj hd)).trans ((aQ _ _ (bj hd)).trans (Z d o hd e))
end
def Ite(l:ai):It :=
 ⟨λi H=>∃ xs x,H l=some (.lst xs)/\xs[i]?=some x,
  λi H v H'=>∃ T x,v=.ref T/\H T=none/\H'=upd H T (.tup [.int i,x])/\∀ xs,H l=some (.lst xs)->xs[i]?=some x,
  λi H=>∃ xs,H l=some (.lst xs)/\i=xs.length⟩
def Ep{P:ae}{K:aa}{kk:Nat}{e it l:ai}(W:e≠it)(hle:l≠e)(hli:l≠it):
 Turn P w K (.Tuple elts kk tpos) (Ite l) [e,it] e (λi h=>(∃ G,IsEnum h e it i G)/\h.IsListIter it l i) where
 mem:=by simp
 obj:=λi h st b hb=>by
  obtain⟨⟨G,L⟩,o,U,hc,hd⟩:=st;simp only[aO,aH,bN]at hb;rcases hb with rfl|rfl
  .exact⟨_,L,λv q=>by cases q⟩
  .exact⟨o,U,λv q=>by rw[hd]at q;cases q⟩
 keep:=λi h h' st k=>by obtain⟨⟨G,L⟩,o,U,r⟩:=st;exact⟨⟨G,k e (by simp) _ L⟩,o,k it (by simp) _ U,r⟩
 item:=by
  intro X hP hw hK hc i fE s σ H E I hf st hg;subst hP hw hK;obtain⟨⟨G,L⟩,J⟩:=st;obtain⟨xs,x,hl,ex⟩:=hg;obtain⟨_,O,n,r,_,U⟩:=I.mQ hl;have BZ:s.heap.IsList l O.toArray:=⟨_,U,rfl,n,rfl⟩;obtain⟨u,eu,ru⟩:=r.get ex;have mW:i<O.toArray.size:=by rw[aD];exact(kN eu).1
  have D:=Draws.list (prog:=X.prog) (w:=X.w) (A:=X.A.in1) (I.ok.hd hc) it l hli O.toArray;refine wpAny_pyNext_enum_itemD D L ⟨J,BZ⟩ mW W (by simp[W,bj hle]) λy h1 tk hPy ho1 Z hT hsz hk=>?_;have hy:y=u:=by
   have q:O[i]?=some y:=by simpa using hPy
   rw[eu]at q;exact(aN q).symm
  subst hy;refine⟨_,rfl,wpAny_letOwnedTupleGo_enum ho1 λh2 VW rE=>?_⟩;have fr:∀ b∈[e,it],mT X fE H b:=hf;have Y:e<s.heap.objs.size:=jf L;have ne1:s.heap.objs.size≠e:=a8 Y;have UX:IsPair h2 s.heap.objs.size (.int i tk) y:=(rE.2 _ ne1).trans hT;have kp:∀ b o,b∉[e,it]->s.heap.get? b=some o->h2.get? b=some o:=λb o hb q=>by have b1:b≠e:=λz=>hb (by simp[z]);have b2:b≠it:=λz=>hb (by simp[z]);exact(rE.2 b b1).trans (hk b o b1 b2 q)
  have hn:H s.heap.objs.size=none:=I.hG.fresh (ar _);have I1:=(I.Cj (ch:=[e,it]) (h'':=h2) (x:=.int i) (y:=x) fr kp UX ⟨tk,rfl⟩ ru).tok (tk+1);refine⟨.ref s.heap.objs.size,_,I1,rfl,⟨_,x,rfl,hn,rfl,λzs q=>by rw[hl]at q;cases q;exact ex⟩,⟨⟨_,by simpa using VW⟩,Z.1.at λo q=>(rE.2 it (bj W)).trans q⟩,λb hb=>?_⟩;have lti:it<s.heap.objs.size:=by obtain⟨o,q,_⟩:=J;exact jf q
  rw[gr]
  .exact(hf b hb).1
  .simp only[aO,aH,bN]at hb;rcases hb with rfl|rfl
   .exact aA Y
   .exact aA lti
 done:=by
  intro X hP hw hK hc i fE s σ H E I hf st hg;subst hP hw hK;obtain⟨⟨G,L⟩,J⟩:=st;obtain⟨xs,hl,ei⟩:=hg;obtain⟨_,O,n,r,ll,U⟩:=I.mQ hl;have BZ:s.heap.IsList l O.toArray:=⟨_,U,rfl,n,rfl⟩;have D:=Draws.list (prog:=X.prog) (w:=X.w) (A:=X.A.in1) (I.ok.hd hc) it l hli O.toArray;have en:i=O.toArray.size:=by rw[aD,ei];exact ll
  refine wpAny_pyNext_enum_endD D L (by rw[<- en];exact⟨J,BZ⟩) λh' hx=>⟨rfl,?_⟩;exact I.y9 (ch:=[e,it]) (λb hb=>hf b hb) λb o hb q=>hx b o (λz=>hb (by simp[z])) q
 self:=λ_ _ _ _ _ st h=>let ⟨⟨_,e⟩,_⟩:=st;eS e h
section
variable {X:Cx}{a b e:Expr}{es:ao Expr}{pos:Pos}
def UE(ta:TA):TI:=λσ H R=>ta σ H λvs H1=>match vs with
 |[.ref l]=>∃ xs,H1 l=some (.lst xs)/\R (Ite l) H1
 |_=>False
def Lo{elts:ao Expr}{kk:Nat}{tpos:Pos}{p:Pos}(hg:Gl X "enumerate")(hm:X.mg "enumerate"=none)(ha:PA X [a] ta)(hs:starEach [a] X.env=[(false,eval a X.env)]:=by rfl):
 PI X (.Tuple elts kk tpos) (.Call (.Name "enumerate" p) [a] [] pos) (UE ta):=by
 intro fE s σ H R I h;refine Call_ (lM I hg hm (show bootBuiltins "enumerate"=some (.type "enumerate") by decide +kernel) (bh (iN (ha pos fE s σ H _ I h) λus G Y=>?_) hs rfl));obtain⟨vs,H1,J,Z,q1⟩:=Y;try dsimp only at q1
 split at q1
 .rename_i l;obtain⟨xs,hl,q⟩:=q1;obtain⟨u,rfl,W⟩:=Z.one;cases W;obtain⟨_,gp,n,r,ll,L⟩:=J.mQ hl;have lt:l<G.heap.objs.size:=jf L;refine call_enumerate_list (l:=l) (items:=gp.toArray) ⟨_,L,rfl,n,rfl⟩ λh' O hi hsz kp=>eS O ?_;have I2:Inv X fE σ H1 { G with heap:=h'}:=J.jk (t':=G.toks) kp;refine⟨G.heap.objs.size+1,_,_,_,H1,rfl,I2,Ep (a8 (bG _)) (aA (aV lt)) (aA lt),⟨⟨_,O⟩,hi⟩,λb hb=>?_,q⟩;have U:G.heap.objs.size<=b:=by
   simp only[aO,aH,bN]at hb;rcases hb with e|e<;>subst e
   .exact Nat.le_succ _
   .exact ar _
  exact J.Dw U (J.hG.fresh U)
 .exact q1.elim
def dItZ(w:DA):DI:=λρ μ K=>w ρ μ λds G=>match ds with
 |[x,y]=>opt (lv G x) λxs=>opt (lv G y) λys=>K (List.zipWith (λa b=>D.tup [a,b]) xs ys) (λJ=>lc x xs J/\lc y ys J) G
 |_=>False
def Mv{elts:ao Expr}{kk:Nat}{tpos:Pos}{w:DA}{p:Pos}(hg:Gl X "zip")(hm:X.mg "zip"=none)(ha:u9 X [a,b] w)(hs:starEach [a,b] X.env=[(false,eval a X.env),(false,eval b X.env)]:=by rfl)(rE:starEach [b] X.env=[(false,eval b X.env)]:=by rfl):
 HV X (.Tuple elts kk tpos) (.Call (.Name "zip" p) [a,b] [] pos) (dItZ w):=(Pj hg hm ha hs rE).imp λσ H Q hq=>by
 obtain⟨φ,ρ,μ,K,A,M,k,L⟩:=hq;refine⟨φ,ρ,μ,_,A,M,k,λds gh gC vs H1 k1 f1 M1 i1=>?_⟩;split at k1
 .rename_i x y;obtain⟨xs,ex,k1⟩:=ip k1;obtain⟨ys,ey,k1⟩:=ip k1
  .obtain⟨v,r,rfl,h1,u,r',rfl,h2,h3⟩:=i1;cases(show r'=[]from h3);obtain⟨p1,vx,rfl,UM,ax⟩:=kz M1 h1 ex;obtain⟨p2,G,rfl,UL,ay⟩:=kz M1 h2 ey;refine⟨false,vx,G,UM,UL,L _ _ gh gC _ H1 k1 f1 M1 λgA H' fX f J c i=>?_⟩;obtain⟨vx,Y,ax⟩:=rh M1 h1 ex f J c.1;obtain⟨G,W,ay⟩:=rh M1 h2 ey f J c.2;have lx:=ax.len;have ly:=ay.len;refine⟨λd hd=>?_,λhi=>⟨vx,G,Y,W,by rw[bO]at hi;lia⟩⟩;rw[bV]at hd;cases e1:xs[i]? with
   |none=>rw[e1]at hd;cases hd
   | some dx =>
    cases e2:ys[i]? with
    |none=>rw[e1,e2]at hd;cases hd
    | some dy =>rw[e1,e2]at hd;cases hd;obtain⟨U,g1,j1⟩:=ax.get e1;obtain⟨O,g2,j2⟩:=ay.get e2;refine⟨⟨vx,G,U,O,Y,W,g1,g2⟩,λz Ov UH=>?_⟩;obtain⟨T,x',y',rfl,Z,rfl,q1,q2⟩:=UH;have c1:=q1 vx Y;have c2:=q2 G W;rw[g1]at c1;cases c1;rw[g2]at c2;cases c2;have fn:=Fr.new (φ:=gA) (o:=.tup [U,O]) Z;exact⟨fn,J.same (iM.upd Z),T,_,rfl,J.fresh Z,gc,U,_,rfl,j1.mono fn,O,_,rfl,j2.mono fn,rfl⟩
 .exact k1.elim
def oa(ds:ao D):ao D:=List.zipWith (λi d=>D.tup [.int (i:Nat),d]) (List.range ds.length) ds
def zE(h:(oa ds)[i]?=some d):∃ x,ds[i]?=some x/\d=.tup [.int i,x]:=by
 unfold oa at h;rw[bV]at h;cases e:ds[i]? with
 |none=>rw[e]at h;cases q:(List.range ds.length)[i]?<;>(rw[q]at h;cases h)
 | some x =>have hi:=(kN e).1;rw[e,bo hi]at h;cases h;exact⟨x,rfl,rfl⟩
def m8(ds:ao D):(oa ds).length=ds.length:=by unfold oa;rw[bO,tP,Nat.min_self]
def dItE(w:DA):DI:=λρ μ K=>w ρ μ λds G=>match ds with
 |[x]=>opt (lv G x) λxs=>K (oa xs) (λJ=>lc x xs J) G
 |_=>False
def AW{elts:ao Expr}{kk:Nat}{tpos:Pos}{w:DA}{p:Pos}(hg:Gl X "enumerate")(hm:X.mg "enumerate"=none)(ha:u9 X [a] w)(hs:starEach [a] X.env=[(false,eval a X.env)]:=by rfl):
 HV X (.Tuple elts kk tpos) (.Call (.Name "enumerate" p) [a] [] pos) (dItE w):=(Lo hg hm ha hs).imp λσ H Q hq=>by
 obtain⟨φ,ρ,μ,K,A,M,k,L⟩:=hq;refine⟨φ,ρ,μ,_,A,M,k,λds gh gC vs H1 k1 f1 M1 i1=>?_⟩;split at k1
 .rename_i x;obtain⟨xs,ex,k1⟩:=ip k1
  .obtain⟨v,r,rfl,h1,h3⟩:=i1;cases(show r=[]from h3);obtain⟨p1,vx,rfl,UM,U⟩:=kz M1 h1 ex;refine⟨vx,UM,L _ _ gh gC _ H1 k1 f1 M1 λgA H' fX f W c i=>?_⟩;obtain⟨vx,J,U⟩:=rh M1 h1 ex f W c;have lx:=U.len;refine⟨λd hd=>?_,λhi=>⟨vx,J,by rw[m8]at hi;lia⟩⟩;obtain⟨dx,e1,rfl⟩:=zE hd;obtain⟨G,Y,j1⟩:=U.get e1;refine⟨⟨vx,G,J,Y⟩,λz Ov UH=>?_⟩;obtain⟨T,x',rfl,O,rfl,q1⟩:=UH;have Z:=q1 vx J;rw[Y]at Z;cases Z;have fn:=Fr.new (φ:=gA) (o:=.tup [.int i,G]) O;exact⟨fn,W.same (iM.upd O),T,_,rfl,W.fresh O,gc,.int i,_,rfl,rfl,G,_,rfl,j1.mono fn,rfl⟩
 .exact k1.elim
def dLZ(m:Bool)(w:DA):De:=λρ μ K=>w ρ μ λds G=>match ds with
 |[x,y]=>opt (lv G x) λxs=>opt (lv G y) λys=>nL m (List.zipWith (λa b=>D.tup [a,b]) xs ys) G K
 |_=>False
def GK{xs ys:ao D}{vx G us:ao V}(Y:f9 φ H xs vx)(W:f9 φ H ys G)(hu:us.length=min vx.length G.length)(J:∀(T:ai) (zs:ao V),H T=some (.tup zs)->T∉φ)(h:vL H vx G us):f9 φ H (List.zipWith (λa b=>D.tup [a,b]) xs ys) us:=by
 have L:∀(ds:ao D) (us:ao V),ds.length=us.length->(∀(i:Nat) (d:D) (u:V),ds[i]?=some d->us[i]?=some u->jG φ H d u)->f9 φ H ds us:=by
  intro ds;induction ds with
  | nil=>intro us hl _;cases us with
   |nil=>rfl
   |cons _ _=>simp at hl
  | cons d ds ih =>
   intro us hl O;cases us with
   |nil=>simp at hl
   |cons u us=>exact⟨u,us,rfl,O 0 d u rfl rfl,ih us (by simpa using hl) λi d' Z e1 e2=>O (i+1) d' Z (by simpa using e1) (by simpa using e2)⟩
 refine L _ _ (by rw[bO,hu,Y.len,W.len]) λi d u e1 e2=>?_;obtain⟨T,x,y,rfl,U,hx,hy⟩:=h i u e2;obtain⟨dx,ex,ix⟩:=Y.Du hx;obtain⟨dy,ey,iy⟩:=W.Du hy;rw[bV,ex,ey]at e1;cases e1;exact⟨T,_,rfl,J T _ U,U,x,_,rfl,ix,y,_,rfl,iy,rfl⟩
def zJ(m:Bool){w:DA}{p p2 O:Pos}(gY:X.gY=true)(hg:Gl X "list")(hm:X.mg "list"=none)(MI:Gl X "zip")(MC:X.mg "zip"=none)(ha:u9 X [a,b] w)(hs:starEach [a,b] X.env=[(false,eval a X.env),(false,eval b X.env)]:=by rfl)(rE:starEach [b] X.env=[(false,eval b X.env)]:=by rfl)
 (MA:starEach [.Call (.Name "zip" p2) [a,b] [] O] X.env=[(false,eval (.Call (.Name "zip" p2) [a,b] [] O) X.env)]:=by rfl):
 PD X (.Call (.Name "list" p) [.Call (.Name "zip" p2) [a,b] [] O] [] pos) (dLZ m w):=by
 intro fE s σ H Q I h;refine cO (lM I hg hm boot_list ?_);obtain⟨φ,ρ,μ,K,A,M,k,L⟩:=h;refine bh ?_ MA rfl;rw[MA];show wpAny _ _ (spliced ((false,eval (.Call (.Name "zip" p2) [a,b] [] O) X.env)::backTo pos [])) _ _ s;refine Calls.spliced_cons ?_;have hq:VH w σ H (λvs H1=>match vs with | [.ref a,.ref b]=>∃(xs ys:ao V),H1 a=some (.lst xs)/\H1 b=some (.lst ys)/\∀ l us H',H1 l=none->iM H1 H'->H' l=some (.lst us)->us.length=min xs.length ys.length->vL H' xs ys us->Q (.ref l) H' | _=>False):=by
  refine⟨φ,ρ,μ,_,A,M,k,λds J G vs H1 k1 f1 M1 i1=>?_⟩;split at k1
  .rename_i x y;obtain⟨xs,ex,k1⟩:=ip k1;obtain⟨ys,ey,k1⟩:=ip k1
   .obtain⟨v,r,rfl,h1,u,r',rfl,h2,h3⟩:=i1;cases(show r'=[]from h3);obtain⟨p1,vx,rfl,UM,ax⟩:=kz M1 h1 ex;obtain⟨p2,vy,rfl,UL,ay⟩:=kz M1 h2 ey;refine⟨vx,vy,UM,UL,λl us H' hl S' hu len pr=>?_⟩;have oB:l∉G:=M1.fresh hl;have M2:=M1.same S';have Z:Fr G H1 G H':=.same S';have nt:∀(T:ai) (zs:ao V),H' T=some (.tup zs)->T∉G:=λT zs e Y=>by
     obtain⟨j,hj,ej⟩:=aZ Y;obtain⟨q,e1,e2⟩:=M2.at_ j (J[j]'(by have:=M2.len;lia)) (jo _);rw[jo hj,ej]at e1;cases e1;revert e2;cases J[j]'(by have:=M2.len;lia)with
     |box=>rintro⟨q,ns,i,r,z,h1,_⟩;rw[e]at h1;cases h1
     |lst ds=>rintro⟨vs,h1,_⟩;rw[e]at h1;cases h1
     |ka ks ds=>rintro⟨fR,vs,h1,_⟩;rw[e]at h1;cases h1
     |xS o fR ds=>rintro⟨h1,_⟩;rw[e]at h1;cases h1
     |ins C ns ds=>rintro⟨dx,fs,h1,_⟩;rw[e]at h1;cases h1
     |lF ks ds=>rintro⟨fR,h1,_⟩;rw[e]at h1;cases h1
     |gx ij H0=>rintro⟨_,_,_,h4⟩;exact absurd e (h4 _)
     |exc c=>intro h1;rw[show _=_ from h1]at e;cases e
    have al:=GK (ax.mono Z) (ay.mono Z) len nt pr;cases m with
    |false=>exact L _ J G _ H' k1 (f1.trans Z) M2 ⟨l,us,rfl,oB,hu,al⟩
    | true =>
     have U:Fr G H1 (G++[l]) H':=⟨(Fr.snoc (φ:=G) hl).ext,λc o _ e=>S' c o e,λc e=>S'.free e⟩;have M3:gz (G++[l]) H' (J++[.lst (List.zipWith (λa b=>D.tup [a,b]) xs ys)]):=by
      have W:∀(T:ai) (zs:ao V),H' T=some (.tup zs)->T∉G++[l]:=λT zs e Y=>by
       rcases List.mem_append.mp Y with q|q
       .exact nt T zs e q
       .rw[List.mem_singleton.mp q,hu]at e;cases e
      have al':=GK (ax.mono U) (ay.mono U) len W pr;refine⟨?_,by rw[o4,o4,M1.len];rfl,λk n e=>?_⟩
      .rw[fb];exact⟨M1.nd,by simp,λa ha b hb=>by rw[List.mem_singleton.mp hb];intro z;exact oB (by rw[<- z];exact ha)⟩
      .by_cases hk:k<J.length
       .rw[uO hk]at e;obtain⟨q,e1,e2⟩:=M1.at_ k n e;exact⟨q,U.get e1,e2.mono U λu eu=>S' _ _ eu⟩
       .have JV:k=J.length:=by have:=(kN e).1;rw[o4,bM]at this;lia
        subst JV
        rw[pW (ar _),aY]at e
        cases e
        exact⟨l,by rw[pW (by rw[M1.len];exact ar _),M1.len,aY];rfl,us,hu,al'⟩
     exact L _ _ (G++[l]) _ H' k1 (f1.trans U) M3 ⟨l,by rw[pW (by rw[M1.len];exact ar _),M1.len,aY];rfl,rfl⟩
  .exact k1.elim
 refine Call_ (lM I MI MC boot_zip (bh (iN (ha O fE s σ H _ I hq) λus s1 rF=>?_) (by rw[hs,rE]) (by rw[rE];rfl)));obtain⟨vs,H1,I1,r1,q1⟩:=rF;try dsimp only at q1
 split at q1
 .rename_i l1 l2;obtain⟨xs,ys,h1,h2,q⟩:=q1;obtain⟨u1,u2,rfl,e1,e2⟩:=r1.two;cases e1;cases e2;exact iN (Md I1 gY h1 h2 q) λv s2 hv=>Calls.spliced_nil hv
 .exact q1.elim
end
def vM.val{K:DK}{Q:VK}(L:vM φ H K Q)(M:gz φ H μ)(k:K d μ)(i:jG φ H d v):Q v H:=L d μ φ v H k (.refl _ _) M i
def Vj(m:Bool):vV:=λx y μ K=>match x,y with
 |.int i,.int j=>K (.int (i+j)) μ
 |.str i,.str j=>i.length+j.length<=sizeLine/\K (.str (i++j)) μ
 |x,y=>opt (lv μ x) λxs=>opt (lv μ y) λys=>xs.length+ys.length<=sizeLine/\nL m (xs++ys) μ K
def Te{m:Bool}:p7 Lk (Vj m):=λφ H x y dx dy μ K Q M J G k L=>by
 unfold Vj at k;split at k
 .cases(show x=_ from J);cases(show y=_ from G);exact L.val M k rfl
 .cases(show x=_ from J);cases(show y=_ from G);exact⟨k.1,L.val M k.2 rfl⟩
 .obtain⟨xs,ex,k⟩:=ip k;obtain⟨ys,ey,k⟩:=ip k;obtain⟨p,vx,rfl,Z,U⟩:=kz M J ex;obtain⟨q,W,rfl,Y,O⟩:=kz M G ey;exact⟨vx,W,Z,Y,by rw[U.len,O.len];exact k.1,λl hl=>N4 L M (U.app O) k.2 hl⟩
def dI2(C:Int->Int->Prop)(g:Int->Int->D):vV:=λx y μ K=>match x,y with
 |.int i,.int j=>C i j/\K (g i j) μ
 |_,_=>False
def vT(g:Int->Int->D):vV:=λx y μ K=>match x,y with
 |.int i,.int j=>K (g i j) μ
 |_,_=>False
def RA{C:Int->Int->Prop}{g:Int->Int->Int}:p7 (Tt C λi j=>.int (g i j)) (dI2 C λi j=>.int (g i j)):=λφ H x y dx O μ K Q M J G k L=>by
 unfold dI2 at k;split at k
 .cases(show x=_ from J);cases(show y=_ from G);exact⟨k.1,L.val M k.2 rfl⟩
 .exact k.elim
def Td{g:Int->Int->Int}:p7 (AA λi j=>.int (g i j)) (vT λi j=>.int (g i j)):=λφ H x y dx O μ K Q M J G k L=>by
 unfold vT at k;split at k
 .cases(show x=_ from J);cases(show y=_ from G);exact L.val M k rfl
 .exact k.elim
def Ai{g:Int->Int->Bool}:p7 (AA λi j=>.bl (g i j)) (vT λi j=>.bl (g i j)):=λφ H x y dx O μ K Q M J G k L=>by
 unfold vT at k;split at k
 .cases(show x=_ from J);cases(show y=_ from G);exact L.val M k rfl
 .exact k.elim
def X1:vV:=λx y μ K=>match x,y with
 |.int i,.int j=>JR i j/\K (.int (i*j)) μ
 |.str z,.int n=>∃ c:Nat,z=⟨#[c]⟩ /\ -1000000<=n/\n<=1000000/\K (.str ⟨(List.replicate n.toNat c).toArray⟩) μ
 |_,_=>False
def qi:p7 Ld X1:=λφ H x y dx O μ K Q M J G k L=>by
 unfold X1 at k;split at k
 .cases(show x=_ from J);cases(show y=_ from G);exact⟨k.1,L.val M k.2 rfl⟩
 .cases(show x=_ from J);cases(show y=_ from G);obtain⟨c,rfl,h1,h2,k⟩:=k;exact⟨c,rfl,h1,h2,L.val M k rfl⟩
 .exact k.elim
def NF(neg:Bool):vV:=λx y μ K=>match x,y with
 |.int i,.int j=>K (.bl (neg != decide (i=j))) μ
 |.str i,.str j=>K (.bl (neg != decide (i=j))) μ
 |.bl i,.bl j=>K (.bl (neg != decide (i=j))) μ
 |_,_=>False
def xk{neg:Bool}:p7 (Lj neg) (NF neg):=λφ H x y dx O μ K Q M J G k L=>by
 unfold NF at k;split at k
 .cases(show x=_ from J);cases(show y=_ from G);exact L.val M k rfl
 .cases(show x=_ from J);cases(show y=_ from G);exact L.val M k rfl
 .cases(show x=_ from J);cases(show y=_ from G);exact L.val M k rfl
 .exact k.elim
def X5:vV:=λx y μ K=>match x,y with
 |.str z,.int i=>z.length<=sizeLine/\opt (lS z.cps.toList i) λc=>K (.str ⟨#[c]⟩) μ
 |.tup ds,.int i=>opt (lS ds i) λd=>K d μ
 |x,.int i=>opt (lv μ x) λds=>opt (lS ds i) λd=>K d μ
 |_,_=>False
def f9.lS{φ:ao ai}{H:Hp}{ds:ao D}{vs:ao V}{i:Int}{d:D}(h:f9 φ H ds vs)(e:lS ds i=some d):∃ v,lS vs i=some v/\jG φ H d v:=by
 unfold L2.lS at e ⊢
 rw[h.len];cases q:Dm ds.length i with
 |none=>rw[q]at e;cases e
 |some j=>rw[q]at e;exact h.get e
def Wo:p7 Ts X5:=λφ H x y dx Z μ K Q M O J k L=>by
 unfold X5 at k;split at k
 .cases(show x=_ from O);cases(show y=_ from J);obtain⟨c,e,W⟩:=ip k.2;exact⟨k.1,fO e (L.val M W rfl)⟩
 .cases(show y=_ from J);obtain⟨d,e,k⟩:=ip k;obtain⟨p,vs,rfl,_,U,ha⟩:=O;obtain⟨v,ev,G⟩:=ha.lS e;exact⟨vs,.inr U,fO ev (L.val M k G)⟩
 .cases(show y=_ from J);obtain⟨ds,Y,k⟩:=ip k;obtain⟨d,e,k⟩:=ip k;obtain⟨p,vs,rfl,U,ha⟩:=kz M O Y;obtain⟨v,ev,G⟩:=ha.lS e;exact⟨vs,.inl U,fO ev (L.val M k G)⟩
 .exact k.elim
abbrev DO:=DE->MS->(aq Int->MS->Prop)->Prop
def YS(w:DO):TO:=λσ H Q=>∃ φ ρ μ K,kX φ H ρ σ/\gz φ H μ/\w ρ μ K/\∀ o J G H',K o J->Fr φ H G H'->gz G H' J->Q o H'
def dNo:DO:=λ_ μ K=>K none μ
def XX(w:De):DO:=λρ μ K=>w ρ μ λd G=>match d with|.int i=>K (some i) G|_=>False
def cutD(ds:ao D)(lo hi:aq Int):ao D:=(ds.drop (HT.oM ds.length 0 lo)).take (HT.oM ds.length ds.length hi - HT.oM ds.length 0 lo)
def dSlc(m:Bool)(w:De)(l h:DO):De:=λρ μ K=>w ρ μ λx L=>l ρ L λlo J=>h ρ J λhi G=>match x with
 |.str z=>z.length<=sizeLine/\K (.str ⟨(lD z.cps.toList lo hi).toArray⟩) G
 |x=>opt (lv G x) λds=>nL m (cutD ds lo hi) G K
section
variable {X:Cx}{a b e:Expr}{es:ao Expr}{pos:Pos}
def PO.imp{e:aq Expr}{t t':TO}(h:PO X e t)(hi:∀ σ H Q,t' σ H Q->t σ H Q):PO X e t':=λfE s σ H Q I q=>h fE s σ H Q I (hi σ H Q q)
def LR:PO X none (YS dNo):=TC.imp λσ H Q G=>by obtain⟨φ,ρ,μ,K,A,M,k,L⟩:=G;exact L none μ φ H k (.refl _ _) M
def mh{w:De}(h:PD X e w):PO X (some e) (YS (XX w)):=(Lm h).imp λσ H Q ⟨φ,ρ,μ,K,A,M,k,L⟩ =>
 ⟨φ,ρ,μ,_,A,M,k,λd J O G H1 k1 U M1 i1=>by
  cases d with
  |int i=>cases(show G=_ from i1);exact L _ J O H1 k1 U M1
  |_=>exact k1.elim⟩
def f9.cut(h:f9 φ H ds vs)(lo hi:aq Int):f9 φ H (cutD ds lo hi) (Fx vs lo hi):=by unfold cutD Fx;rw[h.len];exact(h.drop _).take _
def m5(m:Bool){lo hi:aq Expr}{w:De}{l h:DO}{p:Pos}(ha:PD X a w)(hl:PO X lo (YS l))(hh:PO X hi (YS h)):PD X (.Subscript a (.Slice lo hi none p) pos) (dSlc m w l h):=(Lr slC ha hl hh).imp λσ H Q hq=>by
 obtain⟨φ,ρ,μ,K,A,M,k,L⟩:=hq;refine⟨φ,ρ,μ,_,A,M,k,λd gh gC v1 H1 k1 O M1 i1=>?_⟩;refine⟨gC,ρ,gh,_,A.mono O,M1,k1,λlo iX lT H2 k2 J M2=>?_⟩;refine⟨lT,ρ,iX,_,A.mono (O.trans J),M2,k2,λhi vk Ic H3 G Y U=>?_⟩;have W:=i1.mono (J.trans Y);have Z:=L.mono (O.trans (J.trans Y));split at G
 .cases(show v1=_ from W);exact⟨G.1,Z.val U G.2 rfl⟩
 .obtain⟨ds,el,k⟩:=ip G;obtain⟨p,vs,rfl,hp,ha⟩:=kz U W el;exact⟨vs,hp,λl hl=>N4 Z U (ha.cut lo hi) k hl⟩
end
def Qv:jZ:=λds μ K=>match ds with
 |[.str z]=>z.length<=sizeLine/\K (.int z.length) μ
 |[.tup xs]=>K (.int xs.length) μ
 |[x]=>opt (lv μ x) λxs=>K (.int xs.length) μ
 |_=>False
def Tc:oG Lh Qv:=λφ H vs ds μ K Q M h k L=>by
 unfold Qv at k;split at k
 .obtain⟨v,r,rfl,h1,h2⟩:=h;cases(show r=[]from h2);cases(show v=_ from h1);exact⟨k.1,L.val M k.2 rfl⟩
 .obtain⟨v,r,rfl,h1,h2⟩:=h;cases(show r=[]from h2);obtain⟨p,vs,rfl,_,G,ha⟩:=h1;exact⟨vs,.inr G,by rw[ha.len];exact L.val M k rfl⟩
 .obtain⟨v,r,rfl,h1,h2⟩:=h;cases(show r=[]from h2);obtain⟨xs,J,k⟩:=ip k;obtain⟨p,vs,rfl,G,ha⟩:=kz M h1 J;exact⟨vs,.inl G,by rw[ha.len];exact L.val M k rfl⟩
 .exact k.elim
def XC:jZ:=λds μ K=>match ds with|[.int i,.int j]=>K (.int (max i j)) μ|_=>False
def xi:oG RH XC:=λφ H vs ds μ K Q M h k L=>by
 unfold XC at k;split at k
 .obtain⟨v,r,rfl,h1,u,r',rfl,h2,h3⟩:=h;cases(show r'=[]from h3);cases(show v=_ from h1);cases(show u=_ from h2);exact⟨_,_,rfl,L.val M k rfl⟩
 .exact k.elim
def Sj:jZ:=λds μ K=>match ds with
 |[x]=>∃ ns:ao Int,lv μ x=some (ns.map D.int)/\ns≠[]/\∀ m,m∈ns->(∀ y∈ns,y<=m)->K (.int m) μ
 |_=>False
def vX:oG Lf Sj:=λφ H vs ds μ K Q M h k L=>by
 unfold Sj at k;split at k
 .obtain⟨v,r,rfl,h1,h2⟩:=h;cases(show r=[]from h2);obtain⟨ns,O,J,k⟩:=k;obtain⟨p,vs,rfl,G,ha⟩:=kz M h1 O;exact⟨ns,by rw[G,ha.ints],J,λm a b=>L.val M (k m a b) rfl⟩
 .exact k.elim
def XD(g:ao Bool->Bool):jZ:=λds μ K=>match ds with
 |[x]=>∃ bs:ao Bool,lv μ x=some (bs.map D.bl)/\K (.bl (g bs)) μ
 |_=>False
def KY{g:ao Bool->Bool}:oG (CA g) (XD g):=λφ H vs ds μ K Q M h k L=>by
 unfold XD at k;split at k
 .obtain⟨v,r,rfl,h1,h2⟩:=h;cases(show r=[]from h2);obtain⟨bs,J,k⟩:=k;obtain⟨p,vs,rfl,G,ha⟩:=kz M h1 J;exact⟨bs,by rw[G,ha.bls],L.val M k rfl⟩
 .exact k.elim
def Sk(m:Bool):jZ:=λds μ K=>match ds with
 |[x]=>opt (lv μ x) λxs=>nL m xs μ K
 |_=>False
def mv{m:Bool}:oG (EE Kf) (Sk m):=λφ H vs ds μ K Q M h k L=>by
 unfold Sk at k;split at k
 .obtain⟨v,r,rfl,h1,h2⟩:=h;cases(show r=[]from h2);obtain⟨xs,J,k⟩:=ip k;obtain⟨p,vs,rfl,G,ha⟩:=kz M h1 J;exact⟨vs,pS.of G,λl hl=>N4 L M ha k hl⟩
 .exact k.elim
def M9:Vw:=λd ds μ K=>match d,ds with
 |.str z,[x]=>z.cps=#[]/\∃ ys:ao Str,lv μ x=some (ys.map D.str)/\(ys.map (·.length)).sum<=16777216/\K (.str ⟨(ys.map (·.cps.toList)).flatten.toArray⟩) μ
 |_,_=>False
def Ah:N6 Kf "str" EF M9:=λφ H x vs d ds μ K Q M J h k L=>by
 unfold M9 at k;split at k
 .cases(show x=_ from J);obtain⟨v,r,rfl,h1,h2⟩:=h;cases(show r=[]from h2);obtain⟨G,ys,W,O,k⟩:=k;obtain⟨p,vs,rfl,U,ha⟩:=kz M h1 W;exact⟨G,ys,by rw[U,ha.strs],O,L.val M k rfl⟩
 .exact k.elim
def Sl:Vw:=λd ds μ K=>match d,ds with
 |.str z,[.str y,.int i]=>∃ c:Nat,y=⟨#[c]⟩/\0<=i/\i<=z.length/\∀ r,Hj z.cps.toList c i.toNat r->K (.int r) μ
 |_,_=>False
def OU:N6 Kf "str" Li Sl:=λφ H x vs d ds μ K Q M J h k L=>by
 unfold Sl at k;split at k
 .cases(show x=_ from J);obtain⟨v,r,rfl,h1,u,G,rfl,h2,U⟩:=h;cases(show G=[]from U);cases(show v=_ from h1);cases(show u=_ from h2);obtain⟨c,rfl,W,h1,k⟩:=k;exact⟨_,c,_,rfl,rfl,W,h1,λr O=>L.val M (k r O) rfl⟩
 .exact k.elim
def WZ{k:Nat}{x:V}(M:gz φ H μ)(J:jG φ H (.mr k) x)(e:μ[k]?=some (.lst ds)):∃ p vs,x=.ref p/\φ[k]?=some p/\H p=some (.lst vs)/\f9 φ H ds vs:=by obtain⟨p,G,rfl⟩:=J;obtain⟨q,e1,vs,L,ha⟩:=M.at_ k _ e;rw[G]at e1;cases e1;exact⟨p,vs,rfl,G,L,ha⟩
def Ue{K:DK}{Q:VK}{k:Nat}{p:ai}(L:vM φ H K Q)(M:gz φ H μ)(G:φ[k]?=some p)(ha:f9 φ H ds vs)(hd:jG φ H d v)(kk:K d (μ.set k (.lst ds))):Q v (upd H p (.lst vs)):=by have f:Fr φ H φ (upd H p (.lst vs)):=.put (mR G);exact L d _ φ v _ kk f (M.put G ⟨_,gc,ha.mono f⟩) (hd.mono f)
def Hv:Vw:=λd ds μ K=>match d,ds with
 |.mr k,[y]=>opt (zw μ k) λxs=>xs.length<sizeLine/\K .iz (μ.set k (.lst (xs++[y])))
 |_,_=>False
def uE:N6 Kf "list" Cz Hv:=λφ H x vs d ds μ K Q M G h k L=>by
 unfold Hv at k;split at k
 .obtain⟨xs,em,k⟩:=ip k
  .obtain⟨p,us,rfl,hp,hv,ha⟩:=WZ M G (mn em);obtain⟨v,r,rfl,h1,h2⟩:=h;cases(show r=[]from h2);exact⟨_,_,us,rfl,rfl,hv,by rw[ha.len];exact k.1,Ue (d:=.iz) (v:=.iz) L M hp (ha.app (show f9 φ H [_] [v]from⟨v,[],rfl,h1,rfl⟩)) rfl k.2⟩
 .exact k.elim
def xj{f:Int->Int->Int}:Ys (Xe f) (vT λi j=>.int (f i j)):=λφ H x y dx O μ K Q M J G k L=>by
 unfold vT at k;split at k
 .cases(show x=_ from J);cases(show y=_ from G);exact L.val M k rfl
 .exact k.elim
mutual
def mX:D->D->Bool
 |.iz,.iz=>true
 |.bl a,.bl b=>a==b
 |.bl a,.int b=>(if a then 1 else 0)==b
 |.int a,.bl b=>a==(if b then 1 else 0)
 |.int a,.int b=>a==b
 |.str a,.str b=>a==b
 |.lst xs,.lst ys=>nv xs ys
 |.tup xs,.tup ys=>nv xs ys
 |_,_=>false
def nv:List D->List D->Bool
 |[],[]=>true
 |x::xs,y::ys=>mX x y&&nv xs ys
 |_,_=>false
end
mutual
def lh:Nat->D->Prop
 |n+1,.lst ds=>CC n ds
 |n+1,.tup ds=>CC n ds
 |0,.lst _=>False
 |0,.tup _=>False
 |_,.ka _ _=>False
 |_,.mr _=>False
 |_,.obj _ _ _=>False
 |_,.uP _ _=>False
 |_,.fn _=>False
 |_,_=>True
def CC:Nat->List D->Prop
 |_,[]=>True
 |n,d::ds=>lh n d/\CC n ds
end
theorem sU{n:Nat}:∀ {ds:ao D} {i:Nat} {d:D},CC n ds->ds[i]?=some d->lh n d
 |[],_,_,_,e=>by simp at e
 |d::ds,0,d',h,e=>by simp at e;subst e;unfold CC at h;exact h.1
 |d::ds,i+1,d',h,e=>by unfold CC at h;exact sU (i:=i) h.2 (by simpa using e)
mutual
theorem DM{φ:List ai}{H:Hp}:∀ {n:Nat} {d e:D} {v:V},lh n d->lh n e->jG φ H d v->jG φ H e v->mX d e=true:=λ{n d e v} L J hd G=>by
 cases d with
 | iz=>cases(show v=_ from hd);cases e with
  |iz=>rfl
  |lst _=>obtain⟨_,_,q,_⟩:=G;cases q
  |tup _=>obtain⟨_,_,q,_⟩:=G;cases q
  |ka _ _=>obtain⟨_,_,_,q,_⟩:=G;cases q
  |mr _=>obtain⟨_,_,q⟩:=G;cases q
  |obj _ _ _=>obtain⟨_,_,_,_,q,_⟩:=G;cases q
  |uP _ _=>obtain⟨_,_,_,_,q,_⟩:=G;cases q
  |_=>cases(show _=_ from G)
 | bl b=>cases(show v=_ from hd);cases e with
  |bl c=>cases(show _=_ from G);simp[mX]
  |lst _=>obtain⟨_,_,q,_⟩:=G;cases q
  |tup _=>obtain⟨_,_,q,_⟩:=G;cases q
  |ka _ _=>obtain⟨_,_,_,q,_⟩:=G;cases q
  |mr _=>obtain⟨_,_,q⟩:=G;cases q
  |obj _ _ _=>obtain⟨_,_,_,_,q,_⟩:=G;cases q
  |uP _ _=>obtain⟨_,_,_,_,q,_⟩:=G;cases q
  |_=>cases(show _=_ from G)
 | int b=>cases(show v=_ from hd);cases e with
  |int c=>cases(show _=_ from G);simp[mX]
  |lst _=>obtain⟨_,_,q,_⟩:=G;cases q
  |tup _=>obtain⟨_,_,q,_⟩:=G;cases q
  |ka _ _=>obtain⟨_,_,_,q,_⟩:=G;cases q
  |mr _=>obtain⟨_,_,q⟩:=G;cases q
  |obj _ _ _=>obtain⟨_,_,_,_,q,_⟩:=G;cases q
  |uP _ _=>obtain⟨_,_,_,_,q,_⟩:=G;cases q
  |_=>cases(show _=_ from G)
 | str b=>cases(show v=_ from hd);cases e with
  |str c=>cases(show _=_ from G);simp[mX]
  |lst _=>obtain⟨_,_,q,_⟩:=G;cases q
  |tup _=>obtain⟨_,_,q,_⟩:=G;cases q
  |ka _ _=>obtain⟨_,_,_,q,_⟩:=G;cases q
  |mr _=>obtain⟨_,_,q⟩:=G;cases q
  |obj _ _ _=>obtain⟨_,_,_,_,q,_⟩:=G;cases q
  |uP _ _=>obtain⟨_,_,_,_,q,_⟩:=G;cases q
  |_=>cases(show _=_ from G)
 | lst ds =>
  obtain⟨p,vs,rfl,_,U,ha⟩:=hd;cases n with
  |zero=>exact absurd L (by unfold lh;exact id)
  | succ n =>
   cases e with
   | lst es =>obtain⟨Y,Z,q,_,O,W⟩:=G;cases q;rw[U]at O;cases O;unfold lh at L J;unfold mX;exact uU L J ha W
   |tup es=>obtain⟨Y,Z,q,_,O,W⟩:=G;cases q;rw[U]at O;cases O
   |ka _ _=>exact absurd J (by unfold lh;exact id)
   |mr _=>exact absurd J (by unfold lh;exact id)
   |obj _ _ _=>exact absurd J (by unfold lh;exact id)
   |uP _ _=>exact absurd J (by unfold lh;exact id)
   |fn _=>exact absurd J (by unfold lh;exact id)
   |_=>cases(show _=_ from G)
 | tup ds =>
  obtain⟨p,vs,rfl,_,U,ha⟩:=hd;cases n with
  |zero=>exact absurd L (by unfold lh;exact id)
  | succ n =>
   cases e with
   | tup es =>obtain⟨Y,Z,q,_,O,W⟩:=G;cases q;rw[U]at O;cases O;unfold lh at L J;unfold mX;exact uU L J ha W
   |lst es=>obtain⟨Y,Z,q,_,O,W⟩:=G;cases q;rw[U]at O;cases O
   |ka _ _=>exact absurd J (by unfold lh;exact id)
   |mr _=>exact absurd J (by unfold lh;exact id)
   |obj _ _ _=>exact absurd J (by unfold lh;exact id)
   |uP _ _=>exact absurd J (by unfold lh;exact id)
   |fn _=>exact absurd J (by unfold lh;exact id)
   |_=>cases(show _=_ from G)
 |ka _ _=>exact absurd L (by cases n<;>(unfold lh;exact id))
 |mr _=>exact absurd L (by cases n<;>(unfold lh;exact id))
 |obj _ _ _=>exact absurd L (by cases n<;>(unfold lh;exact id))
 |uP _ _=>exact absurd L (by cases n<;>(unfold lh;exact id))
 |fn _=>exact absurd L (by cases n<;>(unfold lh;exact id))
theorem uU{φ:List ai}{H:Hp}:∀ {n:Nat} {ds es:List D} {vs:List V},CC n ds->CC n es->f9 φ H ds vs->f9 φ H es vs->nv ds es=true:=λ{n ds es vs} J G hd L=>by
 cases ds with
 | nil =>
  cases(show vs=[]from hd);cases es with
  |nil=>unfold nv;rfl
  |cons e es=>obtain⟨_,_,q,_⟩:=L;cases q
 | cons d ds =>
  obtain⟨v,r,rfl,h1,h2⟩:=hd;cases es with
  |nil=>cases(show _=_ from L)
  | cons e es =>obtain⟨W,Y,q,U,O⟩:=L;cases q;unfold CC at J G;unfold nv;rw[DM J.1 G.1 h1 U,uU J.2 G.2 h2 O];rfl
end
theorem qF:∀ {ds es:ao D},ds.length≠es.length->nv ds es=false
 |[],[],h=>absurd rfl h
 |[],_::_,_=>by unfold nv;rfl
 |_::_,[],_=>by unfold nv;rfl
 |d::ds,e::es,h=>by unfold nv;rw[qF (ds:=ds) (es:=es) (by simpa using h),fh]
def yU(ds es:ao D)(j:Nat):Bool:=match ds[j]?,es[j]? with|some a,some b=>mX a b|_,_=>true
def xA(n:Nat)(f:Nat->Bool):(List.range (n+1)).all f=(f 0&&(List.range n).all λj=>f (j+1)):=by rw[List.range_succ_eq_map,cS,List.all_map];rfl
theorem nu:∀(ds es:ao D),ds.length=es.length->(List.range ds.length).all (yU ds es)=nv ds es
 |[],[],_=>by unfold nv;rfl
 |[],_::_,h=>by simp at h
 |_::_,[],h=>by simp at h
 | d::ds,e::es,h=>by
  rw[aU,xA];unfold nv;have G:=nu ds es (by simpa using h);have e1:(λj=>yU (d::ds) (e::es) (j+1))=yU ds es:=by funext j;unfold yU;simp
  rw[e1,G];rfl
section
variable {X:Cx}{fE:ao (ai×Obj)}{σ:St}{H:Hp}{s:ah}{φ:ao ai}
def z7{xs:ao V}{us:ao ak}(r:gG xs us)(h1:j<us.toArray.size):∃ x,xs[j]?=some x/\gB x us.toArray[j]:=by
 have L:j<us.length:=by rwa [aD]at h1
 have G:j<xs.length:=by rw[r.length];exact L
 obtain⟨u,O,J⟩:=r.get (jo G);refine⟨_,jo G,?_⟩;have:us.toArray[j]=u:=by have:=kN O;simpa using this.2
 rw[this];exact J
def xn(I:Inv X fE σ H s){x:V}(G:lh n d)(hd:jG φ H d x)(L:gB x u):(∀ p,u≠.ref p)\/∃ p J ds vs,u=.ref p/\gG vs J/\f9 φ H ds vs/\∃ m,n=m+1/\CC m ds/\((d=.lst ds/\s.heap.IsList p J.toArray)\/(d=.tup ds/\s.heap.IsTuple p J.toArray)):=by
 cases d with
 |iz=>cases(show x=_ from hd);cases L;exact .inl λp q=>by cases q
 |bl b=>cases(show x=_ from hd);cases L;exact .inl λp q=>by cases q
 |int b=>cases(show x=_ from hd);obtain⟨t,rfl⟩:=L;exact .inl λp q=>by cases q
 |str b=>cases(show x=_ from hd);obtain⟨t,rfl⟩:=L;exact .inl λp q=>by cases q
 | lst ds =>
  obtain⟨p,vs,rfl,_,O,ha⟩:=hd;cases L;obtain⟨_,J,k,r,_,U⟩:=I.mQ O;cases n with
  |zero=>exact absurd G (by unfold lh;exact id)
  |succ n=>exact .inr ⟨p,J,ds,vs,rfl,r,ha,n,rfl,(by unfold lh at G;exact G),.inl ⟨rfl,⟨_,U,rfl,k,rfl⟩⟩⟩
 | tup ds =>
  obtain⟨p,vs,rfl,_,O,ha⟩:=hd;cases L;obtain⟨_,J,r,U⟩:=(show jj X.prog X.w H s.heap p (.tup vs)from I.hG p _ O);cases n with
  |zero=>exact absurd G (by unfold lh;exact id)
  |succ n=>exact .inr ⟨p,J,ds,vs,rfl,r,ha,n,rfl,(by unfold lh at G;exact G),.inr ⟨rfl,U⟩⟩
 |ka _ _=>exact absurd G (by cases n<;>(unfold lh;exact id))
 |mr _=>exact absurd G (by cases n<;>(unfold lh;exact id))
 |obj _ _ _=>exact absurd G (by cases n<;>(unfold lh;exact id))
 |uP _ _=>exact absurd G (by cases n<;>(unfold lh;exact id))
 |fn _=>exact absurd G (by cases n<;>(unfold lh;exact id))
def Hh{x:V}(G:lh n d)(hd:jG φ H d x)(fx:l5 x=true):(d=.iz/\x=.iz)\/(∃ b,d=.bl b/\x=.bl b)\/(∃ b,d=.int b/\x=.int b)\/∃ b,d=.str b/\x=.str b:=by
 cases d with
 |iz=>exact .inl ⟨rfl,hd⟩
 |bl b=>exact .inr (.inl ⟨b,rfl,hd⟩)
 |int b=>exact .inr (.inr (.inl ⟨b,rfl,hd⟩))
 |str b=>exact .inr (.inr (.inr ⟨b,rfl,hd⟩))
 |lst ds=>obtain⟨p,vs,rfl,_⟩:=hd;cases fx
 |tup ds=>obtain⟨p,vs,rfl,_⟩:=hd;cases fx
 |ka _ _=>exact absurd G (by cases n<;>(unfold lh;exact id))
 |mr _=>exact absurd G (by cases n<;>(unfold lh;exact id))
 |obj _ _ _=>exact absurd G (by cases n<;>(unfold lh;exact id))
 |uP _ _=>exact absurd G (by cases n<;>(unfold lh;exact id))
 |fn _=>exact absurd G (by cases n<;>(unfold lh;exact id))
def La(I:Inv X fE σ H s)(n:Nat)(A:Around)(ds es:ao D)(vs ws:ao V)(L J:ao ak)(p q:ai)(hu:A.units<cLine)
 (ih:∀(d e:D) (x y:V) (u v:ak),lh n d->lh n e->jG φ H d x->jG φ H e y->gB x u->gB y v->SeqAt.EqAt A.in1 s u v (mX d e)) (pd:CC n ds) (pe:CC n es) (hd:f9 φ H ds vs) (he:f9 φ H es ws) (U:gG vs L) (BW:gG ws J):
 (s.heap.IsList p L.toArray->s.heap.IsList q J.toArray->SeqAt.RcAt A s (.ref p) (.ref q) (nv ds es))/\(s.heap.IsTuple p L.toArray->s.heap.IsTuple q J.toArray->SeqAt.RcAt A s (.ref p) (.ref q) (nv ds es)):=by
 have l1:L.toArray.size=ds.length:=by rw[aD,<- U.length,hd.len]
 have l2:J.toArray.size=es.length:=by rw[aD,<- BW.length,he.len]
 have W:∀ j (h1:j<L.toArray.size) (h2:j<J.toArray.size),SeqAt.EqAt A.in1 s L.toArray[j] J.toArray[j] (yU ds es j):=λj h1 h2=>by
  obtain⟨x,ex,rx⟩:=z7 U h1;obtain⟨y,ey,ry⟩:=z7 BW h2;obtain⟨d,Z,O⟩:=hd.Du ex;obtain⟨e,Y,ie⟩:=he.Du ey;have q:yU ds es j=mX d e:=by unfold yU;rw[Z,Y]
  rw[q];exact ih d e x y _ _ (sU pd Z) (sU pe Y) O ie rx ry
 constructor
 .intro hl hq;by_cases G:ds.length=es.length
  .have:=SeqAt.RcAt.lists hl hq (by rw[l1,l2,G]) hu W;rw[l1,nu ds es G]at this;exact this
  .rw[qF G];exact SeqAt.RcAt.lists_lengths hl hq (by rw[l1,l2];simpa using G) hu
 .intro hl hq;have:=SeqAt.RcAt.tuples hl hq hu W;rw[l1,l2]at this;by_cases G:ds.length=es.length
  .rw[<- G,Nat.min_self,nu ds es G]at this;simpa using this
  .rw[qF G];have e0:(ds.length==es.length)=false:=by simpa using G
   rw[e0,fh]at this;exact this
def Nf(I:Inv X fE σ H s):∀(n:Nat) (A:Around) (d e:D) (x y:V) (u v:ak),A.units+n<cLine->lh n d->lh n e->jG φ H d x->jG φ H e y->gB x u->gB y v->SeqAt.EqAt A s u v (mX d e):=by
 intro n;induction n with
 | zero =>
  intro A d e x y u v hu U W hd J G L;have fl:∀ {d:D} {x:V},lh 0 d->jG φ H d x->l5 x=true:=λ{d x} U hd=>by
   cases d with
   |iz=>cases(show x=_ from hd);rfl
   |bl b=>cases(show x=_ from hd);rfl
   |int b=>cases(show x=_ from hd);rfl
   |str b=>cases(show x=_ from hd);rfl
   |_=>exact absurd U (by unfold lh;exact id)
  have q:=Ft (A:=A) (s:=s) G L (fl U hd) (fl W J);have eq:Hx x y=mX d e:=by
   cases d <;> first
    |exact absurd U (by unfold lh;exact id)
    | (cases(show x=_ from hd)
       cases e <;> first
        |exact absurd W (by unfold lh;exact id)
        |(cases(show y=_ from J);unfold Hx mX;rfl))
  rw[eq]at q;exact q
 | succ n ih =>
  intro A d e x y u v hu U W hd J G L;have O:A.units<cLine:=by lia
  have hu1:A.in1.units+n<cLine:=by show A.units+1+n<cLine;lia
  rcases xn I U hd G with fd|⟨p,gp,ds,vs,rfl,r1,a1,m1,e1,p1,k1⟩
  .rcases xn I W J L with fe | ⟨q,yx,es,ws,rfl,r2,a2,m2,e2,p2,k2⟩
   .have fl:∀ {d:D} {x:V} {u:ak},lh (n+1) d->jG φ H d x->gB x u->(∀ p,u≠.ref p)->l5 x=true:=λ{d x u} U hd G fu=>by
     cases d with
     |iz=>cases(show x=_ from hd);rfl
     |bl b=>cases(show x=_ from hd);rfl
     |int b=>cases(show x=_ from hd);rfl
     |str b=>cases(show x=_ from hd);rfl
     |lst ds=>obtain⟨p,vs,rfl,_⟩:=hd;cases G;exact absurd rfl (fu p)
     |tup ds=>obtain⟨p,vs,rfl,_⟩:=hd;cases G;exact absurd rfl (fu p)
     |_=>exact absurd U (by unfold lh;exact id)
    have fx:=fl U hd G fd
    have fy:=fl W J L fe
    have q:=Ft (A:=A) (s:=s) G L fx fy
    have eq:Hx x y=mX d e:=by
     rcases Hh U hd fx with⟨rfl,rfl⟩|⟨b,rfl,rfl⟩|⟨b,rfl,rfl⟩|⟨b,rfl,rfl⟩<;>
     rcases Hh W J fy with⟨rfl,rfl⟩|⟨c,rfl,rfl⟩|⟨c,rfl,rfl⟩|⟨c,rfl,rfl⟩<;> (unfold Hx mX;rfl)
    rw[eq]at q
    exact q
   .rcases k2 with⟨rfl,hl⟩ | ⟨rfl,hl⟩
    .cases d with
     |iz=>cases(show x=_ from hd);cases G;exact SeqAt.EqAt.none_list hl O
     |bl b=>cases(show x=_ from hd);cases G;exact SeqAt.EqAt.bool_list b hl O
     |int b=>cases(show x=_ from hd);obtain⟨t,rfl⟩:=G;exact SeqAt.EqAt.int_list b t hl O
     |str b=>cases(show x=_ from hd);obtain⟨t,rfl⟩:=G;exact SeqAt.EqAt.str_list b t hl O
     |lst _=>obtain⟨_,_,rfl,_⟩:=hd;cases G;exact absurd rfl (fd _)
     |tup _=>obtain⟨_,_,rfl,_⟩:=hd;cases G;exact absurd rfl (fd _)
     |_=>exact absurd U (by unfold lh;exact id)
    .cases d with
     |iz=>cases(show x=_ from hd);cases G;exact SeqAt.EqAt.none_tuple hl O
     |bl b=>cases(show x=_ from hd);cases G;exact SeqAt.EqAt.bool_tuple b hl O
     |int b=>cases(show x=_ from hd);obtain⟨t,rfl⟩:=G;exact SeqAt.EqAt.int_tuple b t hl O
     |str b=>cases(show x=_ from hd);obtain⟨t,rfl⟩:=G;exact SeqAt.EqAt.str_tuple b t hl O
     |lst _=>obtain⟨_,_,rfl,_⟩:=hd;cases G;exact absurd rfl (fd _)
     |tup _=>obtain⟨_,_,rfl,_⟩:=hd;cases G;exact absurd rfl (fd _)
     |_=>exact absurd U (by unfold lh;exact id)
  .rcases xn I W J L with fe | ⟨q,yx,es,ws,rfl,r2,a2,m2,e2,p2,k2⟩
   .rcases k1 with⟨rfl,hl⟩ | ⟨rfl,hl⟩
    .cases e with
     |iz=>cases(show y=_ from J);cases L;exact SeqAt.EqAt.list_none hl O
     |bl b=>cases(show y=_ from J);cases L;exact SeqAt.EqAt.list_bool b hl O
     |int b=>cases(show y=_ from J);obtain⟨t,rfl⟩:=L;exact SeqAt.EqAt.list_int b t hl O
     |str b=>cases(show y=_ from J);obtain⟨t,rfl⟩:=L;exact SeqAt.EqAt.list_str b t hl O
     |lst _=>obtain⟨_,_,rfl,_⟩:=J;cases L;exact absurd rfl (fe _)
     |tup _=>obtain⟨_,_,rfl,_⟩:=J;cases L;exact absurd rfl (fe _)
     |_=>exact absurd W (by unfold lh;exact id)
    .cases e with
     |iz=>cases(show y=_ from J);cases L;exact SeqAt.EqAt.tuple_none hl O
     |bl b=>cases(show y=_ from J);cases L;exact SeqAt.EqAt.tuple_bool b hl O
     |int b=>cases(show y=_ from J);obtain⟨t,rfl⟩:=L;exact SeqAt.EqAt.tuple_int b t hl O
     |str b=>cases(show y=_ from J);obtain⟨t,rfl⟩:=L;exact SeqAt.EqAt.tuple_str b t hl O
     |lst _=>obtain⟨_,_,rfl,_⟩:=J;cases L;exact absurd rfl (fe _)
     |tup _=>obtain⟨_,_,rfl,_⟩:=J;cases L;exact absurd rfl (fe _)
     |_=>exact absurd W (by unfold lh;exact id)
   .cases e1;cases e2;have rc:=La I n A ds es vs ws gp yx p q O (λd e x y u v a b c d' e' f'=>ih A.in1 d e x y u v hu1 a b c d' e' f') p1 p2 a1 a2 r1 r2;by_cases Y:p=q
    .subst Y;have hv:x=y:=G.inj L;subst hv;rw[DM U W hd J];exact SeqAt.EqAt.same _
    .rcases k1 with⟨rfl,hl⟩ | ⟨rfl,hl⟩<;> rcases k2 with⟨rfl,Z⟩ | ⟨rfl,Z⟩
     .unfold mX;exact .of_refs Y (rc.1 hl Z)
     .unfold mX;exact SeqAt.EqAt.list_tuple hl Z O
     .unfold mX;exact SeqAt.EqAt.tuple_list hl Z O
     .unfold mX;exact .of_refs Y (rc.2 hl Z)
end
section
variable {X:Cx}
def Z4:D->D->aq (ao D×ao D)
 |.lst xs,.lst ys=>some (xs,ys)
 |.tup xs,.tup ys=>some (xs,ys)
 |_,_=>none
def Tu(n:Nat)(neg:Bool):R2:=λx y H Q=>∃ φ d e,lh n d/\lh n e/\jG φ H d x/\jG φ H e y/\(Z4 d e).isSome=true/\Q (.bl (neg != mX d e)) H
def Ge{e:D}{x:V}{v:ak}(I:Inv X fE σ H s)(pd:lh n d)(pe:lh n e)(hd:jG φ H d x)(he:jG φ H e y)(Y:gB x u)(W:gB y v)(O:(Z4 d e).isSome=true):
 ∃ p q J G ds es vs L m,u=.ref p/\v=.ref q/\n=m+1/\gG vs J/\gG L G/\f9 φ H ds vs/\f9 φ H es L/\CC m ds/\CC m es/\((d=.lst ds/\e=.lst es/\s.heap.IsList p J.toArray/\s.heap.IsList q G.toArray)\/(d=.tup ds/\e=.tup es/\s.heap.IsTuple p J.toArray/\s.heap.IsTuple q G.toArray)):=by
 rcases xn I pd hd Y with fd|⟨p,J,ds,vs,rfl,Z,a1,m1,e1,p1,k1⟩
 .cases d with
  |lst _=>obtain⟨_,_,rfl,_⟩:=hd;cases Y;exact absurd rfl (fd _)
  |tup _=>obtain⟨_,_,rfl,_⟩:=hd;cases Y;exact absurd rfl (fd _)
  |_=>cases O
 .rcases xn I pe he W with fe | ⟨q',G,es,L,rfl,r2,a2,m2,e2,p2,k2⟩
  .cases e with
   |lst _=>obtain⟨_,_,rfl,_⟩:=he;cases W;exact absurd rfl (fe _)
   |tup _=>obtain⟨_,_,rfl,_⟩:=he;cases W;exact absurd rfl (fe _)
   |_=>cases d<;>cases O
  .subst e1;cases e2;refine⟨p,q',J,G,ds,es,vs,L,m1,rfl,rfl,rfl,Z,r2,a1,a2,p1,p2,?_⟩;rcases k1 with⟨rfl,hl⟩|⟨rfl,hl⟩<;> rcases k2 with⟨rfl,U⟩|⟨rfl,U⟩
   .exact .inl ⟨rfl,rfl,hl,U⟩
   .cases O
   .cases O
   .exact .inr ⟨rfl,rfl,hl,U⟩
def abo(hu:X.A.units+n<cLine):k7 X (compareOp .Eq) (Tu n false):=by
 intro fE s σ H x y u v Q I W U h;obtain⟨φ,d,e,pd,pe,hd,he,hs,q⟩:=h;obtain⟨p,q',gp,L,ds,es,vs,O,m1,rfl,rfl,rfl,Z,Y,a1,a2,p1,p2,kk⟩:=Ge I pd pe hd he W U hs;have J:=La I m1 X.A ds es vs O gp L p q' (by lia) (λd e x y u v a b c d' e' f'=>Nf I m1 X.A.in1 d e x y u v (by show X.A.units+1+m1<cLine;lia) a b c d' e' f') p1 p2 a1 a2 Z Y;rcases kk with⟨rfl,rfl,hl,G⟩|⟨rfl,rfl,hl,G⟩
 .unfold mX at q;exact J.1 hl G X.prog X.w X.xe _ ⟨.bl _,H,I,rfl,by rw[V0]at q;exact q⟩
 .unfold mX at q;exact J.2 hl G X.prog X.w X.xe _ ⟨.bl _,H,I,rfl,by rw[V0]at q;exact q⟩
def L4(hu:X.A.units+n<cLine):k7 X (compareOp .NotEq) (Tu n true):=by
 intro fE s σ H x y u v Q I U O h;obtain⟨φ,d,e,pd,pe,hd,he,hs,q⟩:=h;obtain⟨p,q',Y,L,ds,es,vs,ws,m1,rfl,rfl,rfl,r1,Z,a1,a2,p1,p2,kk⟩:=Ge I pd pe hd he U O hs;have l1:Y.toArray.size=ds.length:=by rw[aD,<- r1.length,a1.len]
 have l2:L.toArray.size=es.length:=by rw[aD,<- Z.length,a2.len]
 have el:∀ j (h1:j<Y.toArray.size) (h2:j<L.toArray.size),SeqAt.EqAt X.A.in1 s Y.toArray[j] L.toArray[j] (yU ds es j):=λj h1 h2=>by
  obtain⟨x,ex,U⟩:=z7 r1 h1;obtain⟨y,ey,O⟩:=z7 Z h2;obtain⟨d,ed,W⟩:=a1.Du ex;obtain⟨e,ee,ie⟩:=a2.Du ey;have q:yU ds es j=mX d e:=by unfold yU;rw[ed,ee]
  rw[q];exact Nf I m1 X.A.in1 d e x y _ _ (by show X.A.units+1+m1<cLine;lia) (sU p1 ed) (sU p2 ee) W ie U O
 have fin:Q (.bl (!nv ds es)) H->EP X fE σ Q (.bool (!nv ds es)) s:=λq=>⟨.bl _,H,I,rfl,q⟩;rcases kk with⟨rfl,rfl,hl,J⟩|⟨rfl,rfl,hl,J⟩
 .unfold mX at q;rw[VG]at q;by_cases G:ds.length=es.length
  .have:=SeqAt.RcNeAt.lists hl J (by rw[l1,l2,G]) (by lia) el;rw[l1,nu ds es G]at this;exact this X.prog X.w X.xe _ (fin q)
  .have t:=fin q;rw[qF G]at t;exact SeqAt.RcNeAt.lists_lengths hl J (by rw[l1,l2];simpa using G) (by lia) X.prog X.w X.xe _ t
 .unfold mX at q;rw[VG]at q;have this:=SeqAt.RcNeAt.tuples hl J (by lia) el;rw[l1,l2]at this;by_cases G:ds.length=es.length
  .rw[<- G,Nat.min_self,nu ds es G]at this;exact this X.prog X.w X.xe _ (by simpa using fin q)
  .have t:=fin q;rw[qF G]at t;have e0:(ds.length==es.length)=false:=by simpa using G
   rw[e0,fh]at this;exact this X.prog X.w X.xe _ t
def dEqD(n:Nat)(neg:Bool):vV:=λx y μ K=>lh n x/\lh n y/\(Z4 x y).isSome=true/\K (.bl (neg != mX x y)) μ
def KW{neg:Bool}:p7 (Tu n neg) (dEqD n neg):=λφ H x y dx O μ K Q M J G k L=>⟨φ,dx,O,k.1,k.2.1,J,G,k.2.2.1,L.val M k.2.2.2 rfl⟩
end
def pH:D->Bool
 |.iz=>true
 |.bl _=>true
 |.int _=>true
 |.str _=>true
 |_=>false
section
variable {X:Cx}
def Cy(neg:Bool):R2:=λx y H Q=>match x,y with
 |.str z,.str t=>∃ c:Nat,z=⟨#[c]⟩/\Q (.bl (neg != decide (c∈t.cps.toList))) H
 |x,.ref p=>∃ xs,(H p=some (.lst xs)\/H p=some (.tup xs))/\l5 x=true/\xs.all l5=true/\Q (.bl (neg != VQ x xs)) H
 |_,_=>False
def inC:k7 X (compareOp .In) (Cy false):=(IL.or IM).imp λx y H Q q=>by
 unfold Cy at q;split at q
 .obtain⟨c,rfl,q⟩:=q;exact .inl ⟨_,_,rfl,rfl,by rw[StrLaws.found_one];rw[V0]at q;exact q⟩
 .obtain⟨xs,h,h1,h2,q⟩:=q;rw[V0]at q;rcases h with h|h
  .exact .inr ⟨_,xs,rfl,.inl (pS.of h),h1,h2,q⟩
  .exact .inr ⟨_,xs,rfl,.inr (FI.of h),h1,h2,q⟩
 .exact q.elim
def LV:k7 X (compareOp .NotIn) (Cy true):=(AE.or AF).imp λx y H Q q=>by
 unfold Cy at q;split at q
 .obtain⟨c,rfl,q⟩:=q;exact .inl ⟨_,_,rfl,rfl,by rw[StrLaws.found_one];rw[VG]at q;exact q⟩
 .obtain⟨xs,h,h1,h2,q⟩:=q;rw[VG]at q;rcases h with h|h
  .exact .inr ⟨_,xs,rfl,.inl (pS.of h),h1,h2,q⟩
  .exact .inr ⟨_,xs,rfl,.inr (FI.of h),h1,h2,q⟩
 .exact q.elim
end
def Zp(neg:Bool):vV:=λx y μ K=>match x,y with
 |.str z,.str t=>∃ c:Nat,z=⟨#[c]⟩/\K (.bl (neg != decide (c∈t.cps.toList))) μ
 |x,y=>opt (lv μ y) λds=>pH x=true/\ds.all pH=true/\K (.bl (neg != ds.any λd=>mX d x)) μ
def MX(i:jG φ H d v)(h:pH d=true):l5 v=true:=by cases d<;>first|exact(Bool.noConfusion (show false=true from h))|(cases(show v=_ from i);rfl)
def U0{e:D}{u:V}(i:jG φ H d v)(j:jG φ H e u)(h:pH d=true)(h':pH e=true):Hx v u=mX d e:=by
 cases d <;> first
  |exact(Bool.noConfusion (show false=true from h))
  | (cases(show v=_ from i)
     cases e <;> first
      |exact(Bool.noConfusion (show false=true from h'))
      |(cases(show u=_ from j);unfold Hx mX;rfl))
theorem Hg{φ:ao ai}{H:Hp}{x:D}{v:V}(i:jG φ H x v)(G:pH x=true):∀ {ds:ao D} {vs:ao V},f9 φ H ds vs->ds.all pH=true->vs.all l5=true/\VQ v vs=ds.any λd=>mX d x
 |[],_,h,_=>by cases(show _=[]from h);exact⟨rfl,rfl⟩
 | d::ds,_,h,f=>by
  obtain⟨u,r,rfl,h1,h2⟩:=h;rw[cS,bE]at f;obtain⟨a,b⟩:=Hg i G h2 f.2;unfold VQ at b ⊢
  rw[cS,dr,dr,a,b,MX h1 f.1,U0 h1 i f.1 G];exact⟨rfl,rfl⟩
def Gv{neg:Bool}:p7 (Cy neg) (Zp neg):=λφ H x y dx W μ K Q M J O k L=>by
 unfold Zp at k;split at k
 .cases(show x=_ from J);cases(show y=_ from O);obtain⟨c,rfl,k⟩:=k;exact⟨c,rfl,L.val M k rfl⟩
 .obtain⟨ds,el,f1,f2,k⟩:=ip k;obtain⟨p,vs,rfl,U,ha⟩:=kz M O el;obtain⟨a,b⟩:=Hg J f1 ha f2;have fx:=MX J f1;have G:∃ xs,(H p=some (.lst xs)\/H p=some (.tup xs))/\l5 x=true/\xs.all l5=true/\Q (.bl (neg != VQ x xs)) H:=⟨vs,.inl U,fx,a,by rw[b];exact L.val M k rfl⟩;unfold Cy;cases x<;>exact G
def range_any(bs:ao Bool):(List.range bs.length).any (λi=>bs.getD i false)=bs.any id:=by
 rw[dJ,fB,fB];constructor
 .rintro⟨i,hi,e⟩;have G:i<bs.length:=by simpa using hi
  rw[av,jo G]at e;exact⟨_,bI G,e⟩
 .rintro⟨b,hb,e⟩;obtain⟨i,hi,e2⟩:=aZ hb;refine⟨i,by simpa using hi,?_⟩;rw[av,jo hi,e2];exact e
def anyC(hc:X.gY=true):jM X (.builtin "any") (CA λbs=>bs.any id):=by
 intro fE s σ H vs us Q I Z h;unfold CA at h;split at h
 .rename_i p;obtain⟨bs,hp,q⟩:=h;obtain⟨u,rfl,ru⟩:=Z.one;cases ru;obtain⟨z,J,n,r,hl,e⟩:=I.mQ hp;have W:s.heap.IsList p J.toArray:=⟨_,e,rfl,n,rfl⟩;have lt:p≠s.heap.objs.size:=aA (jf e);refine call_any_walk (dk W ⟨_,_,_,_,_,_,λi=>bs.getD i false,rfl,Walks.list (A:=X.A.in1) (I.ok.hd hc) s.heap.objs.size p lt J.toArray,⟨⟨_,aE _ rfl,rfl,rfl⟩,W.push _⟩,?_,λh' tk kp=>?_⟩)
  .intro i v s' Q' E' hv hq;have U:J[i]?=some v:=by simpa using hv
   have hb:∃ b,bs[i]?=some b/\v=.bool b:=by
    cases G:(bs.map V.bl)[i]? with
    |none=>have:=r.none_of G;rw[U]at this;cases this
    | some y =>
     obtain⟨u,hu,Y⟩:=r.get G;rw[U]at hu;cases hu;rw[oC]at G;cases e2:bs[i]? with
     |none=>rw[e2]at G;cases G
     |some b=>rw[e2]at G;cases G;exact⟨b,rfl,Y⟩
   obtain⟨b,G,rfl⟩:=hb;have e3:bs.getD i false=b:=by rw[av,G];rfl
   have O:Q' (bs.getD i false) s':=hq;rw[e3]at O;exact cJ O
  .have I2:Inv X fE σ H { s with heap:=h',toks:=tk}:=I.jk λb o L=>kp b o (by simpa using aA (jf L)) (j4 _ L);have len:J.toArray.size=bs.length:=by rw[aD,<- hl,iE]
   rw[len,range_any];exact⟨.bl _,H,I2,rfl,q⟩
 .cases h
def YN:D->MS->aq String
 |.iz,_=>some "NoneType"
 |.bl _,_=>some "bool"
 |.int _,_=>some "int"
 |.str _,_=>some "str"
 |.lst _,_=>some "list"
 |.tup _,_=>some "tuple"
 |.ka _ _,_=>some "dict"
 |.mr k,μ=>match μ[k]? with|some (.lst _)=>some "list" | some (.ka _ _)=>some "dict" | _=>none
 |.obj _ _ _,_=>none
 |.uP _ _,_=>none
 |.fn _,_=>none
def Ux(t T:String):Bool:=t==T||(t == "bool"&&T == "int")
def dIsi(T:String)(w:De):De:=λρ μ K=>w ρ μ λd G=>opt (YN d G) λt=>K (.bl (Ux t T)) G
def Ul(K:aa){t T:String}(ht:t∈["NoneType","bool","int","str","list","tuple","dict"])(G:T∈["bool","int","str","list","tuple","dict"]):W.kitOne K (.type t) (.type T)=some (Ux t T):=by simp only[aO,aH,bN]at ht G;rcases ht with rfl|rfl|rfl|rfl|rfl|rfl|rfl<;>rcases G with rfl|rfl|rfl|rfl|rfl|rfl<;>first|rfl|exact jv K _
def SQ{t:String}(M:gz φ H μ)(i:jG φ H d v)(e:YN d μ=some t):kM Kf H v (.type t)/\t∈["NoneType","bool","int","str","list","tuple","dict"]:=by
 cases d with
 |iz=>cases e;cases(show v=_ from i);exact⟨.iz,by simp⟩
 |bl b=>cases e;cases(show v=_ from i);exact⟨.bl b,by simp⟩
 |int b=>cases e;cases(show v=_ from i);exact⟨.int b,by simp⟩
 |str b=>cases e;cases(show v=_ from i);exact⟨.str b,by simp⟩
 |lst ds=>cases e;obtain⟨p,vs,rfl,_,G,_⟩:=i;exact⟨.lst G,by simp⟩
 |tup ds=>cases e;obtain⟨p,vs,rfl,_,G,_⟩:=i;exact⟨.tup G,by simp⟩
 |ka ks ds=>cases e;obtain⟨p,fR,vs,rfl,_,G,_⟩:=i;exact⟨.dK G,by simp⟩
 |obj _ _ _=>cases e
 |uP _ _=>cases e
 |fn _=>cases e
 | mr k =>
  unfold YN at e;dsimp only at e;obtain⟨p,G,rfl⟩:=i;cases L:μ[k]? with
  |none=>rw[L]at e;cases e
  | some m =>
   rw[L]at e;obtain⟨q,e1,e2⟩:=M.at_ k m L;rw[G]at e1;cases e1;cases m with
   |box=>cases e
   |lst ds=>cases e;obtain⟨vs,J,_⟩:=e2;exact⟨.lst J,by simp⟩
   |ka ks ds=>cases e;obtain⟨fR,vs,J,_⟩:=e2;exact⟨.dK J,by simp⟩
   |_=>cases e
def HF{a:Expr}{w:De}{T:String}{p p2 pos:Pos}(W:T∈["bool","int","str","list","tuple","dict"])(U:Gl X "isinstance")(hm:X.mg "isinstance"=none)(MI:Gl X x)(MC:X.mg x=none)(G:bootBuiltins x=some (.type T))(ha:PD X a w)(O:x ≠ "__name__":=by decide)(hd:(x==("__debug__" : Str))=false:=by decide)
 (hs:starEach [a,.Name x p2] X.env=(false,eval a X.env)::starEach [.Name x p2] X.env:=by rfl) (rE:starEach [.Name x p2] X.env=(false,eval (.Name x p2) X.env)::starEach [] X.env:=by rfl) (nK:(backTo pos (starEach [.Name x p2] X.env)).any (·.1)=false:=by rfl):
 PD X (.Call (.Name "isinstance" p) [a,.Name x p2] [] pos) (dIsi T w):=
 (hJ sh U hm boot_isinstance (gm ha (gm (jF (v:=.ty T) MI MC G rfl O hd) iJ rE) hs) (by decide) (by decide) hs nK).imp λσ H Q J=>by obtain⟨φ,ρ,μ,K,A,M,k,L⟩:=J;refine⟨φ,ρ,μ,_,A,M,k,λd Y Z v1 H1 k1 f1 M1 i1=>?_⟩;obtain⟨t,et,k1⟩:=ip k1;obtain⟨h1,h2⟩:=SQ M1 i1 et;exact⟨.type t,Ux t T,h1,Ul X.K h2 W,L _ Y Z _ H1 k1 f1 M1 rfl⟩
def Rj(H:Hp)(b q:ai):Prop:=∃(ns:ao Int) (i r z:Int),H b=some (.lst [.ref q,.int i,.int r,.int z])/\H q=some (.lst (ns.map V.int))/\q≠b/\0<=i/\0<=z/\z<2147483647
def Af:Sp:=λvs H Q _=>match vs with
 |[.ref b,.int n]=>∃ q,Rj H b q/\0<n/\n<1073741824/\∀ v H',0<=v->v<n->Rj H' b q->OB b H H'->Q (.int v) H'
 |_=>False
def Rx{Q:VK}{E:XK}(h:Af vs H Q E):∃ b n q,vs=[.ref b,.int n]/\Rj H b q/\0<n/\n<1073741824/\∀ v H',0<=v->v<n->Rj H' b q->OB b H H'->Q (.int v) H':=by
 unfold Af at h;split at h
 .obtain⟨q,h⟩:=h;exact⟨_,_,q,rfl,h⟩
 .cases h
def zB:jZ:=λds μ K=>match ds with
 |[.mr k,.int n]=>μ[k]?=some .box/\0<n/\n<1073741824/\∀ v,0<=v->v<n->K (.int v) μ
 |_=>False
def Wc{Q:VK}{E:XK}(h:iL zB vs H Q E):Af vs H Q E:=by
 obtain⟨φ,ds,μ,K,ha,M,k,L⟩:=h;unfold zB at k;split at k
 .rename_i kk n;obtain⟨v,r,rfl,h1,u,J,rfl,h2,h3⟩:=ha;cases(show J=[]from h3);cases(show u=_ from h2);obtain⟨b,hb,rfl⟩:=h1;obtain⟨em,hn,G7,k⟩:=k;obtain⟨b',e1,q,ns,i,r,z,g1,g2,g3,g4,g5,g6⟩:=M.at_ kk _ em;rw[hb]at e1;cases e1;have bin:b∈φ:=mR hb;have qb:q≠b:=λe=>g3 (by rw[e];exact bin);refine⟨q,⟨ns,i,r,z,g1,g2,qb,g4,g5,g6⟩,hn,G7,λv H' v0 v1 B' O=>?_⟩;obtain⟨WS,i',J,z',b1,b2,b3,b4,b5,b6⟩:=B';have f:Fr φ H φ H':=⟨⟨[],by simp,λ_ h=>nomatch h⟩,λc o G e=>(O c (λe'=>G (by rw[e'];exact bin))).trans e,λc e=>by
   by_cases G:c=b
   .rw[G,b1]at e;cases e
   .rw[<- O c G];exact e⟩
  refine L _ μ φ _ H' (k v v0 v1) f ⟨M.nd,M.len,λj m U=>?_⟩ rfl;by_cases Z:j=kk
  .subst Z;rw[em]at U;cases U;exact⟨b,hb,q,WS,i',J,z',b1,b2,g3,b4,b5,b6⟩
  .obtain⟨p,e1,e2⟩:=M.at_ j m U;refine⟨p,e1,e2.mono f λo eo=>?_⟩;have pb:p≠b:=λe=>by
    subst e;obtain⟨i1,Y⟩:=kN hb;obtain⟨i2,W⟩:=kN e1;rcases Nat.lt_or_gt_of_ne Z with z|z
    .exact List.pairwise_iff_getElem.mp M.nd j kk i2 i1 z (W.trans Y.symm)
    .exact List.pairwise_iff_getElem.mp M.nd kk j i1 i2 z (Y.trans W.symm)
   rw[O p pb];exact eo
 .exact k.elim
def Ag(K:aa):Sp:=λvs H Q _=>match vs with
 |[.ref a]=>∃ ns:ao Int,pS K H a (ns.map V.int)/\∀ b q H',Rj H' b q->H b=none->H q=none->iM H H'->Q (.ref b) H'
 |_=>False
def JI{q:ai}(h:Rj H b q):gz [b] H [.box]:=by
 obtain⟨ns,i,r,z,h1,h2,O,L,J,G⟩:=h;refine⟨by simp,rfl,λk m e=>?_⟩;cases k with
 |zero=>cases e;exact⟨b,rfl,q,ns,i,r,z,h1,h2,by simpa using O,L,J,G⟩
 |succ k=>simp at e
mutual
def oq:Nat->D->Prop
 |n+1,.lst ds=>ds.length<=100000/\Oj n ds
 |n+1,.tup ds=>ds.length<=100000/\Oj n ds
 |0,.lst _=>False
 |0,.tup _=>False
 |_,.ka _ _=>False
 |_,.mr _=>False
 |_,.obj _ _ _=>False
 |_,.uP _ _=>False
 |_,.fn _=>False
 |_,_=>True
def Oj:Nat->List D->Prop
 |_,[]=>True
 |n,d::ds=>oq n d/\Oj n ds
end
theorem An{n:Nat}:∀ {ds:ao D},(∀ d∈ds,oq n d)->Oj n ds
 |[],_=>by unfold Oj;trivial
 |d::ds,h=>by unfold Oj;exact⟨h d aF,An λx G=>h x (nM _ G)⟩
def Eu(hl:ds.length<=100000)(h:∀ d∈ds,oq n d):oq (n+1) (.lst ds):=by unfold oq;exact⟨hl,An h⟩
def Aj(hl:ds.length<=100000)(h:∀ d∈ds,oq n d):oq (n+1) (.tup ds):=by unfold oq;exact⟨hl,An h⟩
def Al{i:Int}:oq n (.int i):=by cases n<;>(unfold oq;trivial)
def Ak{i:Str}:oq n (.str i):=by cases n<;>(unfold oq;trivial)
mutual
theorem Cp:∀ {n:Nat} {d:D},oq n d->lh n d:=λ{n d} h=>by
 cases d with
 | lst ds =>
  cases n with
  |zero=>exact absurd h (by unfold oq;exact id)
  |succ n=>unfold oq at h;unfold lh;exact Et h.2
 | tup ds =>
  cases n with
  |zero=>exact absurd h (by unfold oq;exact id)
  |succ n=>unfold oq at h;unfold lh;exact Et h.2
 |ka _ _=>exact absurd h (by cases n<;>(unfold oq;exact id))
 |mr _=>exact absurd h (by cases n<;>(unfold oq;exact id))
 |obj _ _ _=>exact absurd h (by cases n<;>(unfold oq;exact id))
 |uP _ _=>exact absurd h (by cases n<;>(unfold oq;exact id))
 |fn _=>exact absurd h (by cases n<;>(unfold oq;exact id))
 |_=>cases n<;>(unfold lh;trivial)
theorem Et:∀ {n:Nat} {ds:List D},Oj n ds->CC n ds:=λ{n ds} h=>by
 cases ds with
 |nil=>unfold CC;trivial
 |cons d ds=>unfold Oj at h;unfold CC;exact⟨Cp h.1,Et h.2⟩
end
mutual
def uA:D->DV
 |.iz=>.iz
 |.bl b=>.bl b
 |.int i=>.int i
 |.str z=>.str z
 |.lst ds=>.lst (qg ds)
 |.tup ds=>.tup (qg ds)
 |_=>.iz
def qg:List D->List DV
 |[]=>[]
 |d::ds=>uA d::qg ds
end
theorem uz:∀ ds:ao D,(qg ds).length=ds.length
 |[]=>rfl
 |d::ds=>by unfold qg;rw[aU,aU,uz ds]
mutual
theorem qj{φ:List ai}{H:Hp}:∀ {n:Nat} {d:D},oq n d->(∀ v,jG φ H d v->Is H (uA d) v)/\dep (uA d)<=n/\Oh (uA d)<=100000:=λ{n d} h=>by
 cases d with
 | lst ds =>
  cases n with
  |zero=>exact absurd h (by unfold oq;exact id)
  | succ n =>
   unfold oq at h;obtain⟨a,b,c⟩:=Am (φ:=φ) (H:=H) h.2;refine⟨λv G=>?_,?_,?_⟩
   .obtain⟨p,vs,rfl,_,hp,q⟩:=G;unfold uA;exact⟨p,vs,rfl,hp,a vs q⟩
   .unfold uA dep;lia
   .have:=uz ds;unfold uA Oh;lia
 | tup ds =>
  cases n with
  |zero=>exact absurd h (by unfold oq;exact id)
  | succ n =>
   unfold oq at h;obtain⟨a,b,c⟩:=Am (φ:=φ) (H:=H) h.2;refine⟨λv G=>?_,?_,?_⟩
   .obtain⟨p,vs,rfl,_,hp,q⟩:=G;unfold uA;exact⟨p,vs,rfl,hp,a vs q⟩
   .unfold uA dep;lia
   .have:=uz ds;unfold uA Oh;lia
 |iz=>exact⟨λv G=>G,bA _,bA _⟩
 |bl b=>exact⟨λv G=>G,bA _,bA _⟩
 |int b=>exact⟨λv G=>G,bA _,bA _⟩
 |str b=>exact⟨λv G=>G,bA _,bA _⟩
 |ka _ _=>exact absurd h (by cases n<;>(unfold oq;exact id))
 |mr _=>exact absurd h (by cases n<;>(unfold oq;exact id))
 |obj _ _ _=>exact absurd h (by cases n<;>(unfold oq;exact id))
 |uP _ _=>exact absurd h (by cases n<;>(unfold oq;exact id))
 |fn _=>exact absurd h (by cases n<;>(unfold oq;exact id))
theorem Am{φ:List ai}{H:Hp}:∀ {n:Nat} {ds:List D},Oj n ds->(∀ vs,f9 φ H ds vs->mY H (qg ds) vs)/\yR (qg ds)<=n/\yC (qg ds)<=100000:=λ{n ds} h=>by
 cases ds with
 |nil=>exact⟨λvs G=>G,bA _,bA _⟩
 | cons d ds =>
  unfold Oj at h;obtain⟨a,b,c⟩:=qj (φ:=φ) (H:=H) h.1;obtain⟨J,b',L⟩:=Am (φ:=φ) (H:=H) h.2;refine⟨λvs G=>?_,?_,?_⟩
  .obtain⟨v,r,rfl,h1,h2⟩:=G;unfold qg;exact⟨v,r,rfl,a v h1,J r h2⟩
  .unfold qg yR;lia
  .unfold qg yC;lia
end
def UZ(μ:MS):D->aq D
 |.mr k=>(zw μ k).map .lst
 |x=>some x
def Hb{x:D}(M:gz φ H μ)(e:UZ μ x=some d)(G:oq n d)(h:jG φ H x v):Is H (uA d) v:=by
 cases x with
 | mr k =>
  obtain⟨p,O,rfl⟩:=h;have J:(zw μ k).map D.lst=some d:=e;cases q:zw μ k with
  |none=>rw[q]at J;cases J
  | some ds =>
   rw[q]at J;cases J;obtain⟨U,e1,vs,L,ha⟩:=M.at_ k _ (mn q);rw[O]at e1;cases e1;cases n with
   |zero=>exact absurd G (by unfold oq;exact id)
   | succ n =>unfold oq at G;unfold uA;exact⟨p,vs,rfl,L,(Am (φ:=φ) (H:=H) G.2).1 vs ha⟩
 |iz=>cases e;exact(qj (φ:=φ) (H:=H) G).1 v h
 |bl b=>cases e;exact(qj (φ:=φ) (H:=H) G).1 v h
 |int b=>cases e;exact(qj (φ:=φ) (H:=H) G).1 v h
 |str b=>cases e;exact(qj (φ:=φ) (H:=H) G).1 v h
 |lst b=>cases e;exact(qj (φ:=φ) (H:=H) G).1 v h
 |tup b=>cases e;exact(qj (φ:=φ) (H:=H) G).1 v h
 |obj _ _ _=>cases e;exact(qj (φ:=φ) (H:=H) G).1 v h
 |uP _ _=>cases e;exact(qj (φ:=φ) (H:=H) G).1 v h
 |fn _=>cases e;exact(qj (φ:=φ) (H:=H) G).1 v h
 |ka _ _=>cases e;exact absurd G (by cases n<;>(unfold oq;exact id))
theorem iP{it:D->MS->(aq D->MS->Prop)->Prop}{c:MS->Prop}{μ:MS}(G:c μ)(f:D->aq D):∀ {ds:ao D} {K:ao D->MS->Prop},(∀ d∈ds,∀(J:aq D->MS->Prop),J (f d) μ->it d μ J)->K (ds.filterMap f) μ->qG it c ds μ K
 |[],K,_,k=>⟨G,k⟩
 | d::ds,K,h,k=>⟨G,h d aF _ (iP G f (λx L=>h x (nM _ L)) (by
  cases e:f d with
  |none=>rw[List.filterMap_cons_none e]at k;exact k
  |some y=>rw[List.filterMap_cons_some e]at k;exact k))⟩
theorem zM{it:D->MS->(aq D->MS->Prop)->Prop}{c:MS->Prop}(Pv:ao D->ao D->MS->Prop):∀ {ds:ao D} {μ:MS} {ys:ao D} {K:ao D->MS->Prop},Pv ds ys μ->(∀ d O ys μ,Pv (d::O) ys μ->c μ/\∀(U:aq D->MS->Prop),(∀ o L,Pv O (ys++o.toList) L->U o L)->it d μ U)->(∀ ys μ,Pv [] ys μ->c μ)->(∀ zs μ,Pv [] (ys++zs) μ->K zs μ)->qG it c ds μ K
 |[],μ,ys,K,h,G,J,hk=>⟨J ys μ h,hk [] μ (by rw[b9];exact h)⟩
 | d::ds,μ,ys,K,h,G,J,hk=>by obtain⟨Y,st⟩:=G d ds ys μ h;exact⟨Y,st _ λo L h'=>zM Pv h' G J λzs W h2=>hk _ W (by rw[<- cK];exact h2)⟩
theorem iU{g:DG}{b:Ds}{N:DN}{c:MS->Prop}(Pv:ao D->DE->MS->Prop):∀ {ds:ao D} {ρ:DE} {μ:MS},Pv ds ρ μ->(∀ d O ρ μ,Pv (d::O) ρ μ->c μ/\∀(nx:DE->MS->Prop),(∀ G L,Pv O G L->nx G L)->g d ρ μ λU W=>b { N with nx:=nx,ct:=nx,bk:=N.nx} U W)->(∀ ρ μ,Pv [] ρ μ->c μ/\N.nx ρ μ)->Dx g b N c ds ρ μ
 |[],ρ,μ,h,J,hd=>hd ρ μ h
 | d::ds,ρ,μ,h,J,hd=>by obtain⟨Y,st⟩:=J d ds ρ μ h;exact⟨Y,st _ λG L h'=>iU Pv h' J hd⟩
structure lR (mg:Str->Option ak):Prop where
 len:mg "len"=none
 range:mg "range"=none
 list:mg "list"=none
 isinstance:mg "isinstance"=none
 max:mg "max"=none
 min:mg "min"=none
 bool:mg "bool"=none
 tuple:mg "tuple"=none
 str:mg "str"=none
 int:mg "int"=none
 all:mg "all"=none
 any:mg "any"=none
 zip:mg "zip"=none
 enumerate:mg "enumerate"=none
 reversed:mg "reversed"=none
 dict:mg "dict"=none
 sorted:mg "sorted"=none
abbrev txt(l:ao Nat):Str:=⟨l.toArray⟩
def Hu:jZ:=λds μ K=>match ds with
 |[.mr k,.int n]=>μ[k]?=some .box/\1<=n/\n<=1000/\∀ l:ao Nat,l.length=n.toNat->OX l->K (.str (txt l)) μ
 |_=>False
structure Cuts (n:Int)(cs:List Int):Prop where
 R3:∀ c∈cs,1<=c/\c<n
 up:cs.Pairwise (·<·)
def Ht:jZ:=λds μ K=>match ds with
 |[.mr k,.int n]=>μ[k]?=some .box/\1<=n/\n<=1000/\∀ cs:ao Int,cs.length<=n.toNat->Cuts n cs->K (.lst (cs.map D.int)) μ
 |_=>False
def Ks(l:ao Nat):D:=.str (txt l)
def Good(n:Int)(ls:ao (ao Nat)):Prop:=∀ l∈ls,(l.length:Int)=n/\OX l
def tW:jZ:=λds μ K=>match ds with
 | [.mr k,.int n,.lst cs,.mr t]=>μ[k]?=some .box/\k≠t/\1<=n/\n<=1000/\∃(J:ao Int) (ls:ao (ao Nat)),cs=J.map D.int/\J.length<=1000/\Cuts n J/\μ[t]?=some (.lst (ls.map Ks))/\ls≠[]/\ls.length<=100/\Good n ls /\
  ∀ G:ao (ao Nat),G.length=ls.length->Good n G->K (.mr t) (μ.set t (.lst (G.map Ks)))
 |_=>False
abbrev Tk:=ao Nat×Int
variable{ts:ao Tk}
def mO(t:Tk):D:=.tup [.str (txt t.1),.int t.2]
structure zX (n:Int)(ts:List Tk):Prop where
 nH:ts.length<=20
 ok:∀ t∈ts,(t.1.length:Int)=n/\OX t.1/\0<=t.2/\t.2<=60
def A3:jZ:=λds μ K=>match ds with
 |[.mr k,.int m]=>μ[k]?=some .box/\1<=m/\m<=100/\∀(n:Int) (cs:ao Int) (ts:ao Tk),1<=n->n<=m->cs.length<=n.toNat->Cuts n cs->zX n ts->K (.tup [.int n,.lst (cs.map D.int),.lst (ts.map mO)]) μ
 |_=>False
def Hs:jZ:=λds μ K=>match ds with
 |[.int n,x]=>∃ cs:ao Int,lv μ x=some (cs.map D.int)/\cs.length<=1000/\K (.lst ((fC n cs).map D.int)) μ
 |_=>False
def gv(n:Int)(cs:ao Int):(fC n cs).length=cs.length+2:=by unfold fC;simp
def uc(n:Int)(cs:ao Int):[D.int 0]++cs.map D.int++[D.int n]=(fC n cs).map D.int:=by unfold fC;simp
def sz(h:n<=100000):n<=sizeLine:=aX h (by decide)
def YV(h:n<=100000):n<sizeLine:=ck h (by decide)
def BX(es:ao Int):ao (Int×Int):=es.zip es.tail
def WE(p:Int×Int):D:=.tup [.int p.1,.int p.2]
def wB:jZ:=λds μ K=>match ds with
 |[.int n,x]=>∃ cs:ao Int,lv μ x=some (cs.map D.int)/\cs.length<=1000/\K (.lst ((BX (fC n cs)).map WE)) μ
 |_=>False
def oE(l:ao Nat)(a b:Int):ao Nat:=lD l (some a) (some b)
def bad(ts:ao Tk)(p:Int×Int):Bool:=ts.all λt=>decide (120∈oE t.1 p.1 p.2)
def iQ(es:ao Int)(ts:ao Tk):aq (Int×Int):=(BX es).find? (bad ts)
def RP:aq (Int×Int)->D
 |some p=>WE p
 |none=>.iz
def A7:jZ:=λds μ K=>match ds with
 |[.int n,x,y]=>∃(cs:ao Int) (ts:ao Tk),lv μ x=some (cs.map D.int)/\lv μ y=some (ts.map mO)/\cs.length<=1000/\zX n ts/\n<=1000/\K (RP (iQ (fC n cs) ts)) μ
 |_=>False
def wJ:jZ:=λds μ K=>match ds with
 |[.lst b,y]=>∃(n:Int) (cs:ao Int) (ts:ao Tk),b=(fC n cs).map D.int/\lv μ y=some (ts.map mO)/\cs.length<=1000/\1<=n/\n<=1000/\Cuts n cs/\zX n ts/\K (RP (iQ (fC n cs) ts)) μ
 |_=>False
theorem uW{it:D->MS->(aq D->MS->Prop)->Prop}{c:MS->Prop}{μ:MS}(G:c μ):∀ {ds:ao D} {K:ao D->MS->Prop},(∀ d∈ds,∀(L:aq D->MS->Prop),L (some d) μ->L none μ->it d μ L)->(∀ zs,zs.Sublist ds->K zs μ)->qG it c ds μ K
 |[],K,_,k=>⟨G,k [] (.slnil)⟩
 |d::ds,K,h,k=>⟨G,h d aF _ (uW G (λx J=>h x (nM _ J)) λzs hz=>k _ (hz.cons₂ d)) (uW G (λx J=>h x (nM _ J)) λzs hz=>k _ (hz.cons d))⟩
theorem rC{α:Type}(g:α->D)(P:α->Prop){it:D->MS->(aq D->MS->Prop)->Prop}{c:MS->Prop}{μ:MS}(L:c μ):∀ {ds:ao D} {K:ao D->MS->Prop},(∀ d∈ds,∀(O:aq D->MS->Prop),(∀ a,P a->O (some (g a)) μ)->it d μ O)->(∀ G:ao α,G.length=ds.length->(∀ a∈G,P a)->K (G.map g) μ)->qG it c ds μ K
 |[],K,_,k=>⟨L,k [] rfl λ_ h=>nomatch h⟩
 | d::ds,K,h,k=>⟨L,h d aF _ λa ha=>rC g P L (λx J=>h x (nM _ J)) λG hl U=>k (a::G) (by rw[aU,aU,hl]) λx J=>by
  rcases List.mem_cons.mp J with e|e
  .rw[e];exact ha
  .exact U x e⟩
def wc(lo:Int)(n:Nat):kr lo n=((List.range n).map λi=>lo+(i:Nat)).map D.int:=by unfold kr;rw[bx];rfl
def iF(lo:Int)(n:Nat):(kr lo n).length=n:=by unfold kr;rw[iE,tP]
def xx{lo:Int}(h:d∈kr lo n):∃ i:Nat,i<n/\d=.int (lo+i):=by unfold kr at h;obtain⟨i,hi,rfl⟩:=List.mem_map.mp h;exact⟨i,by simpa using hi,rfl⟩
def Tn(lo:Int)(n:Nat):((List.range n).map λi=>lo+(i:Nat)).Pairwise (·<·):=by rw[List.pairwise_map];exact List.Pairwise.imp (λh=>by lia) List.pairwise_lt_range
def Ct{n:Int}(h1:1<=n)(h:cs.Sublist ((List.range (n - 1).toNat).map λi=>1+((i:Nat):Int))):cs.length<=n.toNat/\Cuts n cs:=by
 refine⟨?_,λc G=>?_,(Tn 1 _).sublist h⟩
 .have:=h.length_le;rw[iE,tP]at this;lia
 .obtain⟨i,hi,rfl⟩:=List.mem_map.mp (h.subset G);rw[cj]at hi;lia
def OP{α:Type}{g:α->D}{zs:ao D}{as:ao α}(h:zs.Sublist (as.map g)):∃ bs:ao α,bs.Sublist as/\zs=bs.map g:=by obtain⟨bs,hb,e⟩:=List.sublist_map_iff.mp h;exact⟨bs,hb,e⟩
def iK{n:Int}(h1:1<=n)(h:Cuts n cs):(fC n cs).Pairwise (·<·):=by
 unfold fC;rw[dZ,List.pairwise_cons];refine⟨λx G=>?_,?_⟩
 .rcases List.mem_append.mp G with q | q
  .have:=h.R3 x q;lia
  .rw[List.mem_singleton.mp q];lia
 .rw[List.pairwise_append];exact⟨h.up,List.pairwise_singleton _ _,λx G y J=>by rw[List.mem_singleton.mp J];exact(h.R3 x G).2⟩
def jx{n:Int}(h1:1<=n)(h:Cuts n cs){x:Int}(G:x∈fC n cs):0<=x/\x<=n:=by
 unfold fC at G;rw[dZ]at G;rcases List.mem_cons.mp G with q|q
 .lia
 .rcases List.mem_append.mp q with q | q
  .have:=h.R3 x q;lia
  .rw[List.mem_singleton.mp q];lia
def l6(h:es.Pairwise (·<·)){b:Int}(hi:es[i]?=some a)(O:es[j]?=some b)(L:i<j):a<b:=by obtain⟨h1,J⟩:=kN hi;obtain⟨h2,G⟩:=kN O;have:=List.pairwise_iff_getElem.mp h i j h1 h2 L;rw[J,G]at this;exact this
def j8{α β:Type}{g:α->β}{xs:ao α}{a:α}(h:xs[i]?=some a):lS (xs.map g) (i:Int)=some (g a):=jA (by rw[oC,h];rfl)
def kE(l:ao Nat):(txt l).length=l.length:=Jc l
def sL(l:ao Nat):(txt l).cps.toList=l:=by simp
def wM{α:Type}(l:ao α)(lo hi:aq Int):(lD l lo hi).length<=l.length:=DT l lo hi
def OX.cut(h:OX l)(lo hi:aq Int):OX (lD l lo hi):=λc G=>h c (by
 unfold lD at G
 exact List.mem_of_mem_drop (bp G))
theorem wm{n:Nat}:∀ {ds:ao D},(∀ d∈ds,GZ n d)->tx n ds
 |[],_=>True.intro
 |d::ds,h=>⟨h d aF,wm λx G=>h x (nM _ G)⟩
def xG(ns:ao Int):tx n (ns.map D.int):=wm λd hd=>by obtain⟨i,_,rfl⟩:=List.mem_map.mp hd;exact True.intro
def Ug(ts:ao Tk):tx n (ts.map mO):=wm λd hd=>by obtain⟨i,_,rfl⟩:=List.mem_map.mp hd;exact⟨True.intro,True.intro,True.intro⟩
def RB(t:Tk):oq (n+1) (mO t):=by
 unfold mO;refine Aj (by simp) λd hd=>?_;simp only[aO,aH,bN]at hd;rcases hd with rfl|rfl
 .exact Ak
 .exact Al
def kc{t:Nat}(h:μ[t]?=some m):μ.set t m=μ:=by
 refine cD λi=>?_;by_cases e:t=i
 .subst e;rw[aG (kN h).1,h]
 .rw[aJ e]
def qV{x y:MO}:(μ++[x]).set μ.length y=μ++[y]:=by rw[dN _ _ (ar _),aY];rfl
theorem Kc:∀(G:ao (ao Nat)) (as:ao Int),List.zipWith (λa b=>D.tup [a,b]) (G.map Ks) (as.map D.int)=(G.zip as).map mO
 |[],_=>by simp
 |_::_,[]=>by simp
 | l::G,a::as=>by rw[aw,aw,bP,Kc G as,cP,aw];rfl
def T4{n:Nat}{x:MO}(hm:∀(j:Nat) (m:MO),μ[j]?=some m->zu μ.length m):∀(j:Nat) (m:MO),j<μ.length->(μ++[x])[j]?=some m->zu μ.length m:=λj m G e=>by rw[uO G]at e;exact hm j m e
def KC{x:MO}:(μ++[x]).take μ.length=μ:=bZ
def Yp{v:Int}(h0:0<=v)(h1:v<4):∃ m,lS [D.int 1,D.int 4,D.int 9,D.int 55] v=some (.int m)/\1<=m/\m<=55:=by
 obtain⟨j,rfl⟩:∃ j:Nat,v=(j:Int):=⟨v.toNat,by lia⟩;have G:j<4:=by lia
 match j,G with
 |0,_=>exact⟨1,rfl,by decide,by decide⟩
 |1,_=>exact⟨4,rfl,by decide,by decide⟩
 |2,_=>exact⟨9,rfl,by decide,by decide⟩
 |3,_=>exact⟨55,rfl,by decide,by decide⟩
def Nz{x:D}{xs:ao D}{i:Int}{K:DK}(e:lv μ x=some xs)(h:lS xs i=some d)(k:K d μ):X5 x (.int i) μ K:=by
 cases x with
 |lst ds=>cases e;exact fO h k
 |mr j=>exact fO e (fO h k)
 |_=>cases e
def x8(l:ao Nat)(i j:Nat):oE l i j=(l.drop i).take (j - i):=by
 unfold oE lD;rw[HT.m4,HT.m4];rcases Nat.le_total i l.length with q|q
 .rw[cE q];rcases Nat.le_total j l.length with z|z
  .rw[cE z]
  .rw[fA z,bQ (by rw[bD];exact ar _),bQ (by rw[bD];exact Nat.sub_le_sub_right z i)]
 .rw[fA q,bC (ar _),bC q,List.take_nil,List.take_nil]
def JD{b:Int}(L:OX l)(ha:0<=a)(U:a<=b)(hb:b<=l.length):decide (txt (oE l a b)=txt (List.replicate (b - a).toNat 111))=!decide (120∈oE l a b):=by
 have len:(oE l a b).length=(b - a).toNat:=by obtain⟨i,rfl⟩:=cI ha;obtain⟨j,rfl⟩:=cI (cF ha U);rw[x8,bH,bD,cE (Nat.sub_le_sub_right (Int.ofNat_le.mp hb) i)];lia
 have J:OX (oE l a b):=L.cut _ _;by_cases h:120∈oE l a b
 .rw[aM h,aW]
  .rfl
  .intro e;have O:oE l a b=List.replicate (b - a).toNat 111:=by have q:=cf (λz:Str=>z.cps.toList) e;simpa using q
   rw[O]at h;have:=(List.mem_replicate.mp h).2;cases this
 .rw[aW h,aM]
  .rfl
  .congr 2;refine List.eq_replicate_iff.mpr ⟨len,λc G=>?_⟩;rcases J c G with q|q
   .exact q
   .rw[q]at G;exact absurd G h
def GJ:(BX es)[i]?=(match es[i]?,es[i+1]? with | some a,some b=>some (a,b) | _,_=>none):=by unfold BX;rw[List.zip,bV,List.getElem?_tail];cases es[i]?<;>cases es[i+1]?<;>rfl
def Kr{k:Nat}{A:Around}(G:jE k A)(J:n<=64):A.units+n<cLine:=by have:=G.units;lia
def P0{m:Nat}{x:aq V}:kX [b] H (none::some (.mr 0)::List.replicate m none) (x::some (.ref b)::List.replicate m none):=by
 refine⟨by simp,λi d e=>?_⟩;cases i with
 |zero=>cases e
 | succ i =>
  cases i with
  |zero=>cases e;exact⟨_,rfl,b,rfl,rfl⟩
  | succ i =>have:=List.eq_of_mem_replicate (mR (show(List.replicate m (none:aq D))[i]?=some (some d)from e));cases this
def W8:DN:={ nx:=λ_ _=>False,rt:=λd _=>d=.bl true}
def Uj{m:Nat}{q a:ai}{Q:VK}{W:Ds}(B:Rj H b q)(w:W W8 (none::some (.mr 0)::List.replicate m none) [.box])(k:∀ H',Q (.bl true) H'):ZW W { nx:=λ_ H'=>Q .iz H',rt:=Q} (some (.ref a)::some (.ref b)::List.replicate m none) H :=
 ⟨[b],_,[.box],W8,P0,JI B,w,⟨λ_ _ _ _ _ z=>z.elim,λd L J v H' G _ _ i=>by cases(show d=.bl true from G);cases(show v=_ from i);exact k H',λ_ _ _ _ _ z=>z.elim,λ_ _ _ _ _ z=>z.elim⟩⟩
section
variable {κ:Type}[DecidableEq κ]
def pZ(fR:ao (κ×V))(k:κ):aq V:=(fR.find? λkv=>decide (kv.1=k)).map (·.2)
def putK(fR:ao (κ×V))(k:κ)(v:V):ao (κ×V) :=
 if(fR.any λkv=>decide (kv.1=k))=true then fR.map (λkv=>if kv.1=k then(kv.1,v)else kv)else fR++[(k,v)]
def qa{p:κ×V}{r:ao (κ×V)}{k:κ}(e:p.1=k):pZ (p::r) k=some p.2:=by simp[pZ,cw,e]
def qc{p:κ×V}{r:ao (κ×V)}{k:κ}(e:¬ p.1=k):pZ (p::r) k=pZ r k:=by simp[pZ,cw,e]
theorem Cf(k:κ):∀ fR:ao (κ×V),(fR.any λkv=>decide (kv.1=k))=(pZ fR k).isSome
 |[]=>rfl
 | p::r=>by
  rw[dr];by_cases e:p.1=k
  .simp only[qa e,aM e,Bool.true_or,Option.isSome_some]
  .rw[qc e,aW e,Bool.false_or];exact Cf k r
def qw(fR:ao (κ×V))(k:κ)(v:V):(putK fR k v).length<=fR.length+1:=by
 unfold putK;split
 .rw[iE];lia
 .rw[o4,aU,eG];lia
def rK.uM{o:aq V}{u:aq ak}(r:rK o u):o.isSome=u.isSome:=by
 cases o with
 | none=>cases u with
  |none=>rfl
  |some _=>exact(show False from r).elim
 | some _=>cases u with
  |none=>exact(show False from r).elim
  |some _=>rfl
def KV.val{fR:ao (κ×V)}{vs:ao (κ×ak)}(r:KV fR vs)(k:κ):rK (pZ fR k) (valueAt vs k):=by
 unfold KV at r;induction r with
 |nil=>exact True.intro
 | @cons p q ps G h t J =>
  obtain⟨h1,h2⟩:=h;by_cases e:p.1=k
  .have e':q.1=k:=h1.symm.trans e;have b:valueAt (q::G) k=some q.2:=by simp[valueAt,cw,e']
   rw[qa e,b];exact h2
  .have e':¬ q.1=k:=λz=>e (h1.trans z);have b:valueAt (q::G) k=valueAt G k:=by simp[valueAt,cw,e']
   rw[qc e,b];exact J
def KV.any{fR:ao (κ×V)}{vs:ao (κ×ak)}(r:KV fR vs)(k:κ):(fR.any λkv=>decide (kv.1=k))=vs.any λkv=>decide (kv.1=k):=by
 unfold KV at r;induction r with
 |nil=>rfl
 |cons h t G=>rw[dr,dr,G,h.1]
def KV.Tp{fR:ao (κ×V)}{vs:ao (κ×ak)}(r:KV fR vs)(k:κ)(G:gB y u):
 KV (fR.map λkv=>if kv.1=k then(kv.1,y)else kv) (vs.map λkv=>if kv.1=k then(kv.1,u)else kv):=by
 unfold KV at r ⊢
 induction r with
 |nil=>exact .nil
 | @cons p q ps L h t J =>
  rw[aw,aw];refine .cons ?_ J;obtain⟨h1,h2⟩:=h;by_cases e:p.1=k
  .rw[aB e,aB (h1.symm.trans e)];exact⟨h1,G⟩
  .rw[aC e,aC (λz=>e (h1.trans z))];exact⟨h1,h2⟩
def KV.put{fR:ao (κ×V)}{vs:ao (κ×ak)}(r:KV fR vs)(k:κ)(G:gB y u):KV (putK fR k y) (stored vs k u):=by
 unfold putK stored;rw[r.any k];by_cases e:(vs.any λkv=>decide (kv.1=k))=true
 .rw[aB e,aB e];exact r.Tp k G
 .rw[aC e,aC e];exact Paired.snoc r ⟨rfl,G⟩
def KV.length{fR:ao (κ×V)}{vs:ao (κ×ak)}(r:KV fR vs):fR.length=vs.length:=Paired.length r
end
def Dl{P:ae}{k:Key}(r:gB (kV k) u):(kG P w).is k u=true:=by
 cases k with
 |inl i=>obtain⟨t,e⟩:=(show ∃ t,u=Value.int i t from r);subst e;exact Df P w i t
 |inr x=>obtain⟨t,e⟩:=(show ∃ t,u=Value.str x t from r);subst e;exact Dc P w x t
theorem zy{P:ae}{w:af}:∀ {ks:ao Key} {us:ao ak},gG (ks.map kV) us->ItemsAre (kG P w) ks us
 |[],_,r=>by rw[List.map_nil]at r;cases r;exact .nil
 | k::ks,_,r=>by
  rw[aw]at r;cases r with
  |cons h t=>exact .cons (Dl h) (zy t)
abbrev KT(H:Hp):ao (ao Key×V)->ao (ao Key×ai×ak)->Prop:=Paired λp q=>p.1=q.1/\H q.2.1=some (.tup (p.1.map kV))/\gB p.2 q.2.2
def KT.val(r:KT H fR xs)(k:ao Key):rK (pZ fR k) ((atKey xs k).map (·.2)):=by
 induction r with
 |nil=>exact True.intro
 | @cons p q ps G h t J =>
  obtain⟨h1,_,h2⟩:=h;by_cases e:p.1=k
  .have e':q.1=k:=h1.symm.trans e;have b:atKey (q::G) k=some q.2:=by simp[atKey,cw,e']
   rw[qa e,b];exact h2
  .have e':¬ q.1=k:=λz=>e (h1.trans z);have b:atKey (q::G) k=atKey G k:=by simp[atKey,cw,e']
   rw[qc e,b];exact J
def KT.Tp(r:KT H fR xs)(k:ao Key)(G:gB y u):
 KT H (fR.map λkv=>if kv.1=k then(kv.1,y)else kv) (xs.map (putAt k u)):=by
 induction r with
 |nil=>exact .nil
 | @cons p q ps O h t J =>
  rw[aw,aw];refine .cons ?_ J;obtain⟨h1,h2,L⟩:=h;unfold putAt;by_cases e:p.1=k
  .rw[aB e,aB (h1.symm.trans e)];exact⟨h1,h2,G⟩
  .rw[aC e,aC (λz=>e (h1.trans z))];exact⟨h1,h2,L⟩
def KT.put(r:KT H fR xs)(k:ao Key)(hb:H b=some (.tup (k.map kV)))(G:gB y u):
 KT H (putK fR k y) (storedH xs k b u):=by
 have e:(fR.any λkv=>decide (kv.1=k))=(atKey xs k).isSome:=by rw[Cf,(r.val k).uM,eY]
 unfold putK storedH;rw[e];by_cases q:(atKey xs k).isSome=true
 .rw[aB q,aB q];exact r.Tp k G
 .rw[aC q,aC q];exact Paired.snoc r ⟨rfl,hb,G⟩
def KT.keeps(r:KT H fR xs)(ht:∀ b ys,H b=some (.tup ys)->H' b=some (.tup ys)):KT H' fR xs :=
 Paired.Ja r λ_ _ z=>⟨z.1,ht _ _ z.2.1,z.2.2⟩
section
variable {P:ae}{w:af}{H:Hp}{h:Heap}{a:ai}
def RE{u:HO}(ok:pT P w H h)(e:Rd H a u):jj P w H h a u:=e.ok ok
def DH{fR:ao (Key×V)}(ok:pT P w H h)(e:Rd H a (.dK fR)):fR.length<=sizeLine/\(a==sysModules)=false/\∃ vs,KV fR vs/\h.DictOf (kG P w) a vs :=
 show jj P w H h a (.dK fR)from RE ok e
def Sq{fR:ao (Key×V)}(ok:pT P w H h)(e:H a=some (.dK fR)):fR.length<=sizeLine/\(a==sysModules)=false/\∃ vs,KV fR vs/\h.DictOf (kG P w) a vs:=DH ok (.inl e)
def AU{ks:ao Key}(ok:pT P w H h)(e:H a=some (.tup (ks.map kV))):(tupleKind (kG P w)).is h ks a:=by obtain⟨_,J,r,o,h1,h2,n,G⟩:=(show jj P w H h a (.tup (ks.map kV))from ok a _ e);exact⟨o,J.toArray,n,h1,h2,G,by simpa using zy r⟩
def HA(ok:pT P w H h)(e:Rd H a (.dT fR)):fR.length<=sizeLine/\(a==sysModules)=false /\
 ∃ xs,KT H fR xs/\h.DictOfH (tupleKind (kG P w)) a xs:=by
 obtain⟨z,y,xs,r,o,es,Y,h1,h2,W,U,O⟩:=(show jj P w H h a (.dT fR)from RE ok e);refine⟨z,y,xs,r,o,es,Y,h1,h2,W,U,λx G=>?_,O⟩;have all:∀ {l:ao (ao Key×V)} {m:ao (ao Key×ai×ak)},KT H l m->∀ x∈m,(tupleKind (kG P w)).is h x.1 x.2.1:=by
  intro l m q;induction q with
  |nil=>intro x G;exact nomatch G
  | @cons p q ps Z J t L =>
   intro x G;rcases List.mem_cons.mp G with e|G
   .subst e;exact AU ok (by rw[<- J.1];exact J.2.1)
   .exact L x G
 exact all r x G
def XI(ok:pT P w H h)(e:H a=some (.dT fR)):fR.length<=sizeLine/\(a==sysModules)=false /\
 ∃ xs,KT H fR xs/\h.DictOfH (tupleKind (kG P w)) a xs:=HA ok (.inl e)
end
def BN(H:Hp)(a:ai)(y:V)(r:aq V):Prop :=
 (∃ fR k,Rd H a (.dK fR)/\y=kV k/\r=pZ fR k)\/∃ fR k b,Rd H a (.dT fR)/\y=.ref b/\H b=some (.tup (k.map kV))/\r=pZ fR k
def D5(H:Hp)(a:ai)(y v:V)(H':Hp):Prop :=
 (∃ fR k,H a=some (.dK fR)/\y=kV k/\fR.length<sizeLine/\H'=upd H a (.dK (putK fR k v))) \/
 ∃ fR k b,H a=some (.dT fR)/\y=.ref b/\H b=some (.tup (k.map kV))/\fR.length<sizeLine/\H'=upd H a (.dT (putK fR k v))
def BN.t{a:ai}{k:ao Key}(e:H a=some (.dT fR))(G:H b=some (.tup (k.map kV))):BN H a (.ref b) (pZ fR k):=.inr ⟨fR,k,b,.inl e,rfl,G,rfl⟩
def D5.k{H:Hp}{a:ai}{fR:ao (Key×V)}{k:Key}{v:V}(e:H a=some (.dK fR))(hl:fR.length<sizeLine):D5 H a (kV k) v (upd H a (.dK (putK fR k v))):=.inl ⟨fR,k,e,rfl,hl,rfl⟩
def D5.t{a:ai}{k:ao Key}(e:H a=some (.dT fR))(G:H b=some (.tup (k.map kV)))(hl:fR.length<sizeLine):
 D5 H a (.ref b) v (upd H a (.dT (putK fR k v))):=.inr ⟨fR,k,b,e,rfl,G,hl,rfl⟩
section
variable {X:Cx}{fE:ao (ai×Obj)}{σ:St}{H:Hp}{s:ah}{a:ai}{y v:V}{u r:ak}{o:aq V}{A:Around}{E:ak->ah->Prop}
def Inv.big(I:Inv X fE σ H s):sysModules<s.heap.objs.size:=by have h:mainGlobals<s.heap.objs.size:=(I.mod.glob.keeps I.bk).lt;exact dU (by decide) h
def JB(hu:A.units+1<cLine)(I:Inv X fE σ H s)(g:BN H a y (some v))(W:gB y u)(h:∀ J s',Inv X fE σ H s'->gB v J->Q J s'):
 wpAny (model X.prog X.w) A (getItem (.ref a) u) Q E s:=by
 rcases g with⟨fR,k,e,O,l⟩|⟨fR,k,b,e,O,Z,l⟩
 .subst O;obtain⟨z,hd,vs,G,dd⟩:=DH I.hG e;obtain⟨J,L,U⟩:=rK.some_of (v:=v) (o:=valueAt vs k) (by rw[l];exact G.val k);exact wpAny_getItem_of (Dl W) dd.mapOf L (h J _ (I.tok _) U)
 .subst O;cases(show u=Value.ref b from W);obtain⟨z,hd,xs,G,dd⟩:=HA I.hG e;obtain⟨J,L,U⟩:=rK.some_of (v:=v) (o:=(atKey xs k).map (·.2)) (by rw[l];exact G.val k);obtain⟨p,Y,UL⟩:=Option.map_eq_some_iff.mp L;refine wpAny_getItem_heap (tupleKind_room_in1 hu) (AU I.hG Z) dd Y ?_;rw[UL];exact h J _ (I.tok _) U
def QE(hu:A.units+1<cLine)(I:Inv X fE σ H s)(g:BN H a y o)(L:gB y u)(h:∀ s',Inv X fE σ H s'->Q (.bool (!o.isSome)) s'):
 wpAny (model X.prog X.w) A (compareOp .NotIn u (.ref a)) Q E s:=by
 rcases g with⟨fR,k,e,J,l⟩|⟨fR,k,b,e,J,O,l⟩
 .subst J;obtain⟨z,hd,vs,G,dd⟩:=DH I.hG e;refine wpAny_notIn_of (Dl L) hd dd.mapOf ?_;rw[<- (G.val k).uM,<- l];exact h _ (I.tok _)
 .subst J;cases(show u=Value.ref b from L);obtain⟨z,hd,xs,G,dd⟩:=HA I.hG e;refine wpAny_notIn_heap (tupleKind_room_in1 hu) (AU I.hG O) hd dd ?_;have q:=(G.val k).uM;rw[eY]at q;rw[<- q,<- l];exact h _ (I.tok _)
def Bc{t':Nat}{G:HO}(I:Inv X fE σ H s)(J:Yx (H a))(L:Heap.SameBut a s.heap h')(he:∃ q,h'.get? a=some q)(new:jj X.prog X.w (upd H a G) h' a G):
 Inv X fE σ (upd H a G) {s with heap:=h',toks:=t'}:=
 I.write (x:=a) (e:=a) J (.inl rfl) (λb q hb z=>(L.2 b hb).trans z) he new
def Nt{P:ae}{fR:ao (Key×V)}{vs:ao (Key×ak)}(z:fR.length<=sizeLine)(hd:(a==sysModules)=false)(rel:KV fR vs)(dd:h'.DictOf (kG P w) a vs):
 jj P w H' h' a (.dK fR):=⟨z,hd,vs,rel,dd⟩
def JA{Q:Unit->ah->Prop}(hu:A.units+1<cLine)(I:Inv X fE σ H s)(g:D5 H a y v H')(Z:gB y u)(rv:gB v r)(h:∀ s',Inv X fE σ H' s'->Q () s'):
 wpAny (model X.prog X.w) A (setItem (.ref a) u r) Q E s:=by
 rcases g with⟨fR,k,e,W,l,Y⟩|⟨fR,k,b,e,W,eb,l,Y⟩
 .subst W Y;obtain⟨z,hd,vs,G,dd⟩:=Sq I.hG e;have O:vs.length<=sizeLine:=by rw[<- G.length];exact z
  have hl:(putK fR k v).length<=sizeLine:=by have:=qw fR k v;lia
  refine wpAny_setItem_pairs (hsz:=O) (Dl Z) dd λh' J U=>h _ ?_;have he:∃ q,h'.get? a=some q:=let ⟨q,_,_,L,_⟩:=J;⟨q,L⟩
  exact Bc I (by rw[e];exact True.intro) U he (Nt hl hd (G.put k rv) J)
 .subst W Y;cases(show u=Value.ref b from Z);obtain⟨z,hd,xs,G,dd⟩:=XI I.hG e;have O:xs.length<=sizeLine:=by rw[<- Paired.length G];exact z
  have hl:(putK fR k v).length<=sizeLine:=by have:=qw fR k v;lia
  refine wpAny_setItem_heap (hsz:=O) (tupleKind_room_in1 hu) (AU I.hG eb) dd λh' J U=>h _ ?_;obtain⟨q,es,ep,L,h2,h3,h4,_,h5⟩:=J;refine Bc I (by rw[e];exact True.intro) U ⟨q,L⟩ ⟨hl,hd,_,(G.put k eb rv).keeps λc ys ec=>?_,q,es,ep,L,h2,h3,h4,h5⟩;rw[gr (WW ec e (λz=>nomatch z))];exact ec
end
section
variable {X:Cx}{fE:ao (ai×Obj)}{σ:St}{H:Hp}{s:ah}{a:ai}{fR:ao (Key×V)}{k:Key}{u:ak}{A:Around}{E:ak->ah->Prop}
def XS(I:Inv X fE σ H s)(e:Rd H a (.dK fR))(h:∀ t s',Inv X fE σ H s'->Q (.int fR.length t) s'):wpAny (model X.prog X.w) A (call (.builtin "len") [.ref a]) Q E s:=by obtain⟨z,hd,vs,G,dd⟩:=DH I.hG e;refine call_len_dict hd dd (by rw[<- G.length];rw[sizeLine_eq]at z;lia) ?_;rw[<- G.length];exact h _ _ (I.tok _)
end
def Rc(i:Expr):Prop:=∀ G J,subscripted i false G J=operate [G,J] (getItem G J)
def OQ{A:Around}{E:ak->ah->Prop}{value slice:Expr}{T id:String}
 (hl:typeLookup (.type T) "__getitem__"=pure (some (.builtin id))) (Z:Rc slice)
 (h:wpAny (model prog w) A (eval value env) (λo O=>wpAny (model prog w) A (eval slice env) (λi G=>G.TypeIs o T/\wpAny (model prog w) A (getItem o i) Q E G) E O) E s):
 wpAny (model prog w) A (eval (.Subscript value slice pos) env) Q E s:=by
 refine Subscript_ (bU h (λo O W=>bU W (λi G J=>?_) λ_ _ x=>x) λ_ _ x=>x);obtain⟨Y,J⟩:=J;unfold subscriptTail;refine fV ?_;rw[getitemInPython_of_ne Y.not_modules];refine fV (wpAny_specialOf Y hl ?_);have fin:wpAny (model prog w) A (subscripted slice false o i) (λr L=>wpAny (model prog w) A (letTemporaryGo value o r >>= λ_=>pure r) Q E L) E G:=by rw[Z o i];exact wpAny_operating (bU J (λr L U=>fV (wpAny_letTemporaryGo (au U))) λ_ _ x=>x)
 first
  |exact au (fV fin)
  |exact fV (au (fV fin))
  |exact fV fin
def DL{a:ai}{o:aq V}(I:Inv X fE σ H s)(g:BN H a y o):s.TypeIs (.ref a) "dict":=by
 rcases g with⟨fR,k,e,_,_⟩|⟨fR,k,b,e,_,_,_⟩
 .obtain⟨_,_,vs,_,dd⟩:=DH I.hG e;exact dd.typeIs
 .obtain⟨_,_,xs,_,dd⟩:=HA I.hG e;exact dd.typeIs
def Wj(td ty:TE):TE:=λσ H Q=>td σ H λx H1=>ty σ H1 λy H2=>∃ a v,x=.ref a/\BN H2 a y (some v)/\Q v H2
def Gn(ty td:TE):TE:=λσ H Q=>ty σ H λy H1=>td σ H1 λx H2=>∃ a o,x=.ref a/\BN H2 a y o/\Q (.bl (!o.isSome)) H2
def Wu(td ty tv:TE):TS:=λD σ H=>tv σ H λv H1=>td σ H1 λx H2=>ty σ H2 λy J=>∃ a G,x=.ref a/\D5 J a y v G/\D.nx σ G
section
variable {X:Cx}{o i e value:Expr}{pos pos' tpos:Pos}{td ty tv:TE}
def GN(hu:X.A.units+1<cLine)(Z:PE X o td)(hi:PE X i ty)(Y:Rc i):PE X (.Subscript o i pos) (Wj td ty):=by intro fE s σ H Q I h;refine OQ PySem.F.slot_dict_getitem.lookup Y (iN (Z fE s σ H _ I h) λu J U=>?_);obtain⟨x,H1,I1,O,q1⟩:=U;refine iN (hi fE J σ H1 _ I1 q1) λiv s2 W=>?_;obtain⟨y,H2,G,L,a,v,ex,g,q2⟩:=W;subst ex;obtain rfl:u=Value.ref a:=O;exact⟨DL G g,JB hu G g L λw' s3 I3 BW=>⟨v,H2,I3,BW,q2⟩⟩
def IG(hu:X.A.units+1<cLine)(hi:PE X i ty)(Y:PE X o td):PC X .NotIn i o (Gn ty td):=by intro fE s σ H Q I h;refine iN (hi fE s σ H _ I h) λiv G O=>?_;obtain⟨y,H1,I1,J,q1⟩:=O;refine iN (Y fE G σ H1 _ I1 q1) λu s2 U=>?_;obtain⟨x,H2,I2,L,a,W,ex,g,q2⟩:=U;subst ex;obtain rfl:u=Value.ref a:=L;exact QE hu I2 g J λs3 Z=>⟨.bl (!W.isSome),H2,Z,rfl,q2⟩
def GI(hu:X.A.units+1<cLine)(ho:PE X o td)(hi:PE X i ty)(hv:PE X value tv)(hs:swapsWith value (some (.Subscript o i pos')) pos.line X.env=pure false):
 PS X (.Assign [.Subscript o i pos'] value pos) (Wu td ty tv):=by
 intro fE s σ H D I h;refine wpAny_Assign_Subscript (iN (hv fE s σ H _ I h) λr O G=>?_) hs;obtain⟨v,H1,I1,Y,q1⟩:=G;refine iN (ho fE O σ H1 _ I1 q1) λu L J=>?_;obtain⟨x,H2,I2,W,q2⟩:=J;refine iN (hi fE L σ H2 _ I2 q2) λiv s3 Z=>?_;obtain⟨y,H3,I3,U,a,H4,ex,g,q3⟩:=Z;subst ex;obtain rfl:u=Value.ref a:=W;exact JA hu I3 g U Y λs4 I4=>⟨σ,H4,I4,q3⟩
end
def DJ{P:ae}(h:Heap)(hb:sysModules<h.objs.size):jj P w H (h.push { cls:=.type "dict",data:=.dict #[]}) h.objs.size (.dK []) :=
 ⟨bA _,beq_eq_false_iff_ne.mpr (bj (aA hb)),[],.nil,Heap.DictOf.new h⟩
def Nl{P:ae}(h:Heap)(hb:sysModules<h.objs.size):jj P w H (h.push { cls:=.type "dict",data:=.dict #[]}) h.objs.size (.dT []) :=
 ⟨bA _,beq_eq_false_iff_ne.mpr (bj (aA hb)),[],.nil,_,#[],0,aE _ rfl,⟨rfl,rfl,rfl⟩,rfl,rfl,List.nodup_nil⟩
def SW:TE:=λ_ H Q=>∀ p,H p=none->Q (.ref p) (upd H p (.dK []))
def SV:TE:=λ_ H Q=>∀ p,H p=none->Q (.ref p) (upd H p (.dT []))
section
variable {X:Cx}{pos:Pos}
def Lx:PE X (.Dict [] [] pos) SW:=λfE s σ H Q I h =>wpAny_Dict_empty ⟨.ref s.heap.objs.size,_,I.laid (a:=s.heap.objs.size) (o:=.dK []) (t':=s.toks) (λ_ _ q=>j4 _ q) (ar _) (DJ s.heap I.big),rfl,h _ (I.hG.fresh (ar _))⟩
def Lw:PE X (.Dict [] [] pos) SV:=λfE s σ H Q I h =>wpAny_Dict_empty ⟨.ref s.heap.objs.size,_,I.laid (a:=s.heap.objs.size) (o:=.dT []) (t':=s.toks) (λ_ _ q=>j4 _ q) (ar _) (Nl s.heap I.big),rfl,h _ (I.hG.fresh (ar _))⟩
end
structure M1 (X:Cx)(o:Expr)(m:Str)(mL:Pos)(e:Expr)(lV:Pos):Prop where
 fF:attributeBase o m X.env (eval o X.env)=eval o X.env
 nH:((backTo lV (starEach [e] X.env)).all (λx=>!x.1)&&(backToKw lV (keywordEach [] X.env)).all (λx=>x.1.isSome)
  && decide (([e]:List Expr).length+([]:List Keyword).length+(if([]:List Keyword).isEmpty then 0 else 1)<30))=true
 line:(mL.endLine==lV.line)=true
 trees:backTo lV (starEach [e] X.env)=[(false,eval e X.env)]
structure M2 (X:Cx)(o:Expr)(m:Str)(mL:Pos)(e f:Expr)(lV:Pos):Prop where
 fF:attributeBase o m X.env (eval o X.env)=eval o X.env
 nH:((backTo lV (starEach [e,f] X.env)).all (λx=>!x.1)&&(backToKw lV (keywordEach [] X.env)).all (λx=>x.1.isSome)
  && decide (([e,f]:List Expr).length+([]:List Keyword).length+(if([]:List Keyword).isEmpty then 0 else 1)<30))=true
 line:(mL.endLine==lV.line)=true
 trees:backTo lV (starEach [e,f] X.env)=[(false,eval e X.env),(false,eval f X.env)]
def yz(X:Cx)(N:ao Str)(sc:Scope)(fp:ao ai)(s:ah)(H:Hp):Cx where
 prog:=X.prog
 w:=X.w
 K:=X.K
 mg:=X.mg
 fF:=X.fF
 A:=X.A
 N:=N
 s₀:=s
 H₀:=H
 env:=nN sc s.heap.objs.size X.env
 fN:=X.stack
 stack:=X.stack
 ex:=fp
 fn:=λx=>sc.names.lookup x==some .cell
 gY:=X.gY
 pn:=[]
 xe:=λ_ _=>False
def xN(sc:Scope)(h:Heap):Heap:=pushCells (h.push { cls:=.type "dict",data:=.dict #[]}) sc.names
def vA:∀ b o,h.get? b=some o->(xN sc h).get? b=some o:=λb o e=>eF _ _ b o (j4 _ e)
section
variable {X:Cx}{fE:ao (ai×Obj)}{σ:St}{H:Hp}{s:ah}{N:ao Str}{js:ao (aq Nat)}{sc:Scope}{fp:ao ai}
def Jj(I:Inv X fE σ H s)(W:jU X N js sc)(hf:∀ b∈fp,mT X fE H b)(ho:∀ b∈fp,∃ o,s.heap.get? b=some o)(tk:Nat):
 Inv (yz X N sc fp s H) [] (iq js σ) H {s with heap:=xN sc s.heap,toks:=tk}:=by
 have MW:∀ y∈sc.names,y.2=.free->∃ c,X.env.cells.lookup y.1=some c:=λy hy e=>I.ok.has y.1 (W.free y hy e);have ok:=cellsFrom_ok sc.names (s.heap.push { cls:=.type "dict",data:=.dict #[]}) (s.heap.objs.size+1) [] ⟨λ_ _ hm=>(nomatch hm),List.Pairwise.nil⟩
  (by rw[bg];exact ar _)
 rw[bg]at ok;have eC:(nN sc s.heap.objs.size X.env).cells=cellsFrom (s.heap.objs.size+1) sc.names []++lP X.env.cells sc.names []:=mD sc.names _ [] _;have U:∀ x c,(nN sc s.heap.objs.size X.env).cells.lookup x=some c->(x,c)∈cellsFrom (s.heap.objs.size+1) sc.names []\/X.env.cells.lookup x=some c:=λx c e=>by
  rw[eC]at e;rcases List.mem_append.mp (mem_of_lookup e)with h|h
  .exact .inl h
  .rcases pO MW x c h with h | h
   .cases h
   .exact .inr h
 have big:∀(x:Str) (c:Nat),(x,c)∈cellsFrom (s.heap.objs.size+1) sc.names []->s.heap.objs.size+1<=c:=λx c h=>(ok.empty x c h).2;have G:∀(x:Str) (c:Nat),X.env.cells.lookup x=some c->c<s.heap.objs.size:=λx c h=>let ⟨_,q⟩:=I.cell x c h;q.lt
 have has:∀ x,((nN sc s.heap.objs.size X.env).kindOf x=some .cell\/(nN sc s.heap.objs.size X.env).kindOf x=some .free)->∃ c,(nN sc s.heap.objs.size X.env).cells.lookup x=some c:=λx h=>by
  have h':(relabel sc X.env).names.lookup x=some .cell\/(relabel sc X.env).names.lookup x=some .free:=h;rw[lL]at h';rw[eC,eJ];cases q:sc.names.lookup x with
  |none=>rw[q]at h';rcases h' with h'|h'<;>cases h'
  | some k =>
   rw[q]at h';have hk:=Cu (env:=X.env) (x:=x) (k:=k) (h'.elim (λz=>.inl (aN z)) λz=>.inr (aN z));rcases hk with rfl|rfl
   .obtain⟨c,O⟩:=oW (n:=s.heap.objs.size+1) q;exact⟨c,by rw[O];rfl⟩
   .have z:=pP (cells:=X.env.cells) sc.names [] x (mem_of_lookup q);obtain⟨c,O⟩:=Option.isSome_iff_exists.mp z;cases q2:(cellsFrom (s.heap.objs.size+1) sc.names []).lookup x with
    |none=>exact⟨c,by rw[O];rfl⟩
    |some d=>exact⟨d,rfl⟩
 have JT:(yz X N sc fp s H).Ok:=by
  refine⟨I.ok.mod,W.kind,I.ok.glob,I.ok.blt,ar _,λx y c h1 h2=>?_,has,λx c hx h=>?_,I.ok.hd,I.ok.frames,.inl rfl,λb hb=>⟨?_,λx c h=>?_⟩,I.bs,aX I.ok.Eh I.sz,λb o e hb=>?_,λb hb hs=>?_,I.stack,I.qU⟩
  .rcases U x c h1 with L | L <;> rcases U y c h2 with J | J
   .exact name_of_addr ok.apart L J
   .exact absurd (aL (G _ _ J) (aX (aR _ 1) (big _ _ L))) (cq _)
   .exact absurd (aL (G _ _ L) (aX (aR _ 1) (big _ _ J))) (cq _)
   .exact I.ok.inj x y c L J
  .have Fd:sc.names.lookup x=some .cell:=by simpa [yz]using hx
   have h':(nN sc s.heap.objs.size X.env).cells.lookup x=some c:=h
   rw[eC,eJ]at h'
   obtain⟨c2,O⟩:=oW (n:=s.heap.objs.size+1) Fd
   rw[O]at h'
   have e:c2=c:=aN h'
   subst e
   exact aX (aR _ 1) (big _ _ (mem_of_lookup O))
  .obtain⟨o,e⟩:=ho b hb;exact aA (jf e)
  .obtain⟨o,e⟩:=ho b hb;have l:=jf e;rcases U x c h with g|g
   .exact a8 (aL l (aX (aR _ 1) (big _ _ g)))
   .exact(hf b hb).2.2.2.2.1 x c g
  .rcases(hf b hb).2.2.2.1 with z | z
   .exact I.ok.CU b o e z
   .exact absurd (aL (jf e) (aX I.ok.Eh z)) (cq _)
  .rcases List.mem_cons.mp (I.xc b hs)with z | z
   .exact(hf b hb).2.1 z
   .exact(hf b hb).2.2.1 z
 have Y:∀ b u,s.heap.get? b=some u->(xN sc s.heap).get? b=some u:=vA;have Z:(xN sc s.heap).Ns s.heap.objs.size λ_=>none:=by have q:=(Heap.Ns.new s.heap (.type "dict")).keeps (eF sc.names _);exact q
 refine⟨JT,rfl,I.bare,Un.jk Y,⟨_,Z,λi x v e1 e2 e3=>?_⟩,λx c h=>?_,I.hG.fresh (ar _),λx c h=>?_,λp hp=>absurd (show p∈([]:ao (ai×Obj))from hp) (by simp),I.hG.jk Y,?_⟩
 .obtain⟨j,hj,hv⟩:=xP e2;obtain⟨L,J,g3,g4⟩:=W.slot i x j e1 hj;have kx:=W.free _ J rfl;obtain⟨m,hn,hl⟩:=I.loc;obtain⟨u,r,l⟩:=hl j x v L hv (.inr kx);refine⟨u,r,?_⟩;rcases l with⟨z,_⟩|⟨_,c,VX,vC⟩
  .have z':X.env.kindOf x=some .local:=z;rcases kx with k|k<;>(have k':X.env.kindOf x=_:=k;rw[z']at k';cases k')
  .have kY:(nN sc s.heap.objs.size X.env).kindOf x=some .cell\/(nN sc s.heap.objs.size X.env).kindOf x=some .free:=by
    show(relabel sc X.env).names.lookup x=some .cell\/(relabel sc X.env).names.lookup x=some .free;rw[lL,g3];rcases zh (env:=X.env) (x:=x)with q|q
    .exact .inl (show some (uG X.env x .free)=_ by rw[q])
    .exact .inr (show some (uG X.env x .free)=_ by rw[q])
   obtain⟨c',h'⟩:=has x kY
   refine .inr ⟨kY,c',h',?_⟩
   rcases U x c' h' with g|g
   .rcases mC _ _ _ _ _ g with z | z
    .exact absurd z g4
    .cases z
   .rw[VX]at g;cases g;exact vC.keeps Y
 .rcases U x c h with g | g
  .exact⟨_,(ok.empty x c g).1⟩
  .obtain⟨v,q⟩:=I.cell x c g;exact⟨v,q.keeps Y⟩
 .rcases U x c h with g | g
  .exact I.hG.fresh (aX (aR _ 1) (big _ _ g))
  .exact I.lZ x c g
 .show(iq js σ).length=N.length;unfold iq;rw[iE];exact W.len
end
def yT{A:Around}{kx vx target iter:Expr}{ifs:ao Expr}{scope:Scope}{it:ak}{D:ai}(I:Nat->ah->Prop)
 (turn:∀ n s,I n s->wpAny (model prog w) A (pyNext it) (λr J=>match r with
   |none=>R (.ok .next) J
   | some v=>wpAny (model prog w) A (letOwnedTupleGo target it v) (λ_ Cn=>wpAny (model prog w) A (assign target env v) (λ_ W =>
    wpAny (model prog w) A (forIn ifs true λc r=>if r=true then do let ok <- isTrue c env (eval c env);pure (ForInStep.yield ok)else pure (ForInStep.yield r)) (λok G =>
     if ok=true then wpAny (model prog w) A (eval kx env) (λkv U=>wpAny (model prog w) A (eval vx env) (λvv O =>
      wpAny (model prog w) A (dictSet D kv vv) (λ_ L=>∃ m,m<n/\I m L) (λ_ _=>False) O) (λ_ _=>False) U) (λ_ _=>False) G
     else ∃ m,m<n/\I m G) (λ_ _=>False) W) (λ_ _=>False) Cn) (λ_ _=>False) J) (λ_ _=>False) s)
 (n:Nat) (h:I n s):
 codeAny (model prog w) A (.compLoop (.DictComp kx vx [⟨target,iter,ifs,0⟩] scope pos) 0 it (.ref D) env) R s:=by
 refine codeAny_loop rfl I (λn s hI=>?_) n h;show wpAny _ A ((compTurn (.DictComp kx vx [⟨target,iter,ifs,0⟩] scope pos) 0 it (.ref D) env).onRaise (λx=>do noteFrame x env;theTreesLotGoes x)) _ _ s;refine wpAny_noted ?_;rw[compTurn_dict];refine fV (d9 (fV (bU (turn n s hI) (λr J Z=>?_) λ_ _ h'=>h'.elim)));cases r with
 |none=>exact au Z
 | some v =>
  refine fV (bU Z (λ_ Cn Mx=>?_) λ_ _ h'=>h'.elim);refine fV (bU Mx (λ_ W h₂=>fV (bU h₂ (λok G Y=>?_) λ_ _ h'=>h'.elim)) λ_ _ h'=>h'.elim);cases ok with
  |false=>exact au ⟨rfl,Y⟩
  | true =>exact fV (fV (bU Y (λx U h₄=>fV (bB (bU h₄ (λy O h₅=>fV (d9 (bB (bU h₅ (λ_ L h₆=>au ⟨rfl,h₆⟩) λ_ _ h'=>h'.elim)))) λ_ _ h'=>h'.elim))) λ_ _ h'=>h'.elim))
def Ko(js:ao (aq Nat))(g:TG)(tt:TT)(tk tv:TE)(J:It)(σ:St)(D:ai)(H1:Hp)(fin:ao (Key×V)->Hp->Prop):Prop :=
 ∃ W:Nat->Nat->ao (Key×V)->Hp->Prop,(∃ m,W 0 m [] H1)/\∀ i m fR H,W i m fR H ->
  (J.stop i H/\fin fR H)\/(J.go i H/\∀ x H',J.Kn i H x H'->g x (iq js σ) H' λL H2=>Ext (iq js σ) L/\tt L H2 λb U =>
    if b=true then tk L U λk Y=>tv L Y λv O=>∃(kk:Key) (E7:ao (Key×V)),k=kV kk/\O D=some (.dK E7)/\E7.length<sizeLine/\∃ G,G<m/\W (i+1) G (putK E7 kk v) (upd O D (.dK (putK E7 kk v)))else ∃ G,G<m/\W (i+1) G fR U)
section
variable {X:Cx}{fE:ao (ai×Obj)}{σ:St}{H:Hp}{s:ah}
def dict_set{A:Around}{E:ak->ah->Prop}{a:ai}{fR:ao (Key×V)}{k:Key}{r:ak}{Q:Unit->ah->Prop}(I:Inv X fE σ H s)(e:H a=some (.dK fR))(l:fR.length<sizeLine)(L:gB (kV k) u)(O:gB v r)
 (h:∀ s',Inv X fE σ (upd H a (.dK (putK fR k v))) s'->Q () s'):wpAny (model X.prog X.w) A (dictSet a u r) Q E s:=by
 obtain⟨z,hd,vs,G,dd⟩:=Sq I.hG e;have U:vs.length<=sizeLine:=by rw[<- G.length];exact z
 have hl:(putK fR k v).length<=sizeLine:=by have:=qw fR k v;lia
 refine wpAny_dictSet_pairs (hsz:=U) (Dl L) dd λh' J W=>h _ ?_;have Y:∃ q,h'.get? a=some q:=let ⟨q,_,_,hq,_⟩:=J;⟨q,hq⟩
 exact Bc I (by rw[e];exact True.intro) W Y (Nt hl hd (G.put k O) J)
variable {N:ao Str}{js:ao (aq Nat)}{sc:Scope}{fp:ao ai}{tg kx vx iter:Expr}{ifs:ao Expr}{g:TG}{tt:TT}{tk tv:TE}
def DW{J:It}{it D:ai}{U:Nat->Heap->Prop}{fin:ao (Key×V)->Hp->Prop}{tok:Nat}(I:Inv X fE σ H s)(hc:jU X N js sc)(gY:X.gY=true)
 (T:Turn X.prog X.w X.K tg J fp it U) (st:U 0 s.heap) (hf:∀ b∈fp,mT X fE H b)
 (hg:PG (yz X N sc fp s H) tg g) (ht:JZ (yz X N sc fp s H) ifs tt) (hk:PE (yz X N sc fp s H) kx tk) (hv:PE (yz X N sc fp s H) vx tv) (q:Ko js g tt tk tv J σ D H fin)
 (hR:∀ s' H' fR m,Inv X fE σ H' s'->fin fR H'->s'.heap.Ns s.heap.objs.size m->H' s.heap.objs.size=none->R (.ok .next) s'):
 codeAny (model X.prog X.w) X.A (.compStart (.DictComp kx vx [⟨tg,iter,ifs,0⟩] sc pos) 0 (.ref it) (.ref D) (nN sc s.heap.objs.size X.env)) R {s with heap:=xN sc s.heap,toks:=tok}:=by
 have VR:∀ b∈fp,∃ o,s.heap.get? b=some o:=λb hb=>let ⟨o,e,_⟩:=T.obj 0 s.heap st b hb;⟨o,e⟩
 have I0:=Jj I hc hf VR tok;have JT:=I0.ok;obtain⟨W,⟨m0,w0⟩,O⟩:=q;have xg:∀ {H':Hp},(∀ b∈fp,H' b=none)->∀ b∈fp,mT (yz X N sc fp s H) [] H' b:=λ{H'} hn b hb =>⟨hn b hb,(JT.Sm b hb).1,JT.DD b hb,.inl hb,(JT.Sm b hb).2,λp hp=>absurd (show p∈([]:ao (ai×Obj))from hp) (by simp)⟩
 have Rv:U 0 (xN sc s.heap):=T.keep 0 _ _ st λb _ o e=>vA b o e;have G:codeAny (model X.prog X.w) X.A (.compLoop (.DictComp kx vx [⟨tg,iter,ifs,0⟩] sc pos) 0 (.ref it) (.ref D) (nN sc s.heap.objs.size X.env)) R { s with heap:=xN sc s.heap,toks:=tok}:=by
  refine yT (λn s'=>∃ i fR H',Inv (yz X N sc fp s H) [] (iq js σ) H' s'/\U i s'.heap/\(∀ b∈fp,H' b=none)/\W i n fR H') ?_ m0
   ⟨0,[],H,I0,Rv,λb hb=>(hf b hb).1,w0⟩
  rintro n s3 ⟨i,fR,Y,I3,Oi,Sd,w3⟩;rcases O i n fR Y w3 with⟨stop,qf⟩|⟨go,step⟩
  .refine iN (T.done (yz X N sc fp s H) rfl rfl rfl gY i _ s3 _ Y _ I3 (xg Sd) Oi stop) λr Z rH=>?_;obtain⟨hr,L⟩:=rH;subst hr;show R (.ok .next) Z;obtain⟨m,R6,_⟩:=L.loc;have IX:Inv X fE σ Y Z:=I.zP (ch:=fp) L.os L.fF L.hG L.bare λb hb=>by obtain⟨f0,f1,f2,f3,f4,f5⟩:=hf b hb;exact⟨f3,f1,f4,f5⟩
   exact hR Z Y fR m IX qf R6 L.free
  .refine iN (T.item (yz X N sc fp s H) rfl rfl rfl gY i _ s3 _ Y _ I3 (xg Sd) Oi go) λr Z qz=>?_;obtain⟨u,hr,h4⟩:=qz;subst hr;refine iN h4 λ_ s5 rG=>?_;obtain⟨x,H5,I5,r5,y5,KS,Xz⟩:=rG;have YD:=I5.pinned (xg Xz) (T.obj _ _ KS);refine iN (hg _ s5 _ H5 x u _ YD r5 (step x H5 y5)) λ_ s6 ⟨Of,H6,I6,⟨Nd,q6⟩⟩=>?_;refine iN (ht _ s6 Of H6 _ I6 q6) λb s7 rF=>?_;obtain⟨H7,I7,q7⟩:=rF;have back:∀ {s':ah} {H':Hp},Inv (yz X N sc fp s H) ([]++uJ fp s5.heap) Of H' s'->U (i+1) s'.heap/\(∀ b∈fp,H' b=none)/\Inv (yz X N sc fp s H) [] (iq js σ) H' s':=λ{s' H'} I'=>by refine⟨T.keep _ _ _ KS λb hb o e=>(I'.pin (b,o) (aS _ (aS _ (ml hb e)))).1,λb hb=>?_,(I'.weak Nd.1 Nd.2).qe⟩;obtain⟨o,e,d⟩:=T.obj _ _ KS b hb;exact(I'.pin (b,o) (aS _ (aS _ (ml hb e)))).2.1
   cases b with
   | false =>obtain⟨m',hm,w7⟩:=q7;obtain⟨t7,f7,I7'⟩:=back I7;exact⟨m',hm,i+1,fR,H7,I7',t7,f7,w7⟩
   | true =>refine iN (hk _ s7 Of H7 _ I7 q7) λy s8 tM=>?_;obtain⟨yk,H8,I8,ry,q8⟩:=tM;refine iN (hv _ s8 Of H8 _ I8 q8) λz s9 tL=>?_;obtain⟨zv,H9,I9,rz,kk,E7,ek,eD,hl,m',hm,w9⟩:=tL;subst ek;refine dict_set (X:=yz X N sc fp s H) I9 eD hl ry rz λs10 I10=>?_;obtain⟨t8,f8,YC⟩:=back I10;exact⟨m',hm,i+1,_,_,YC,t8,f8,w9⟩
 exact codeAny_compStart_dict G (T.self _ 0 _ _ _ Rv G)
def KP(wi:TI)(js:ao (aq Nat))(g:TG)(tt:TT)(tk tv:TE):TE:=λσ H Q=>wi σ H λJ H1=>∀ D,H1 D=none->Ko js g tt tk tv J σ D (upd H1 D (.dK [])) λ_ H'=>Q (.ref D) H'
end
def MZ:D->V
 |.bl b=>.bl b
 |.int i=>.int i
 |.str z=>.str z
 |_=>.iz
def U2(h:pH d=true):jG φ H d (MZ d):=by cases d<;>first|exact(Bool.noConfusion (show false=true from h))|rfl
def Fi(h:pH d=true)(i:jG φ H d v):v=MZ d:=by cases d<;>first|exact(Bool.noConfusion (show false=true from h))|exact i
theorem U1{φ:ao ai}{H:Hp}:∀ {ds:ao D},ds.all pH=true->f9 φ H ds (ds.map MZ)
 |[],_=>rfl
 | d::ds,h=>by rw[cS,bE]at h;exact⟨_,_,rfl,U2 h.1,U1 h.2⟩
theorem Hi{φ:ao ai}{H:Hp}:∀ {ds:ao D} {vs:ao V},ds.all pH=true->f9 φ H ds vs->vs=ds.map MZ
 |[],_,_,h=>h
 | d::ds,_,f,h=>by obtain⟨v,r,rfl,h1,h2⟩:=h;rw[cS,bE]at f;rw[Fi f.1 h1,Hi f.2 h2];rfl
def Mm:D->aq Key
 |.int i=>some (.inl i)
 |.str z=>some (.inr z)
 |_=>none
def wt{k:Key}(e:Mm d=some k)(i:jG φ H d v):v=kV k:=by
 cases d with
 |int n=>cases e;exact i
 |str z=>cases e;exact i
 |_=>cases e
def dput(fR:ao (Key×D))(k:Key)(d:D):ao (Key×D):=if(fR.any λkv=>decide (kv.1=k))=true then fR.map (λkv=>if kv.1=k then(kv.1,d)else kv)else fR++[(k,d)]
def xY(fR:ao (Key×D))(k:Key):aq D:=(fR.find? λkv=>decide (kv.1=k)).map (·.2)
def En(fR:ao (Key×D)):ao (Key×V):=fR.map λp=>(p.1,MZ p.2)
def Nq(fR:ao (Key×D))(k:Key)(d:D):En (dput fR k d)=putK (En fR) k (MZ d):=by
 unfold dput putK En;have e:((fR.map λp=>(p.1,MZ p.2)).any λkv=>decide (kv.1=k))=(fR.any λkv=>decide (kv.1=k)):=by rw[List.any_map];rfl
 rw[e];split
 .rw[bx,bx];congr 1;funext p;show(_,_)=_;by_cases h:p.1=k
  .simp[h]
  .simp[h]
 .rw[bT];rfl
def Nr(fR:ao (Key×D))(k:Key)(d:D):(dput fR k d).length<=fR.length+1:=by
 unfold dput;split
 .rw[iE];lia
 .rw[o4,bM];lia
def zI{fR:ao (Key×D)}{k:Key}(h:(fR.map (·.2)).all pH=true)(hd:pH d=true):((dput fR k d).map (·.2)).all pH=true:=by
 unfold dput;rw[c7]at h ⊢
 intro x G;split at G
 .rw[bx]at G;obtain⟨p,J,rfl⟩:=List.mem_map.mp G;show pH (if p.1=k then(p.1,d)else p).2=true;split
  .exact hd
  .exact h _ (List.mem_map.mpr ⟨p,J,rfl⟩)
 .rw[bT]at G;rcases List.mem_append.mp G with q|q
  .exact h x q
  .rw[List.mem_singleton.mp (show x∈[d]from q)];exact hd
abbrev XJ(fR:ao (Key×D)):D:=.ka (fR.map (·.1)) (fR.map (·.2))
def si(it:D->MS->(aq (Key×D)->MS->Prop)->Prop)(c:MS->Prop)(μ:MS):ao D->ao (Key×D)->(ao (Key×D)->Prop)->Prop
 |[],fR,K=>c (μ++[.ka (fR.map (·.1)) (fR.map (·.2))])/\K fR
 | d::ds,fR,K=>c (μ++[.ka (fR.map (·.1)) (fR.map (·.2))])/\it d (μ++[.ka (fR.map (·.1)) (fR.map (·.2))]) λo G=>G=μ++[.ka (fR.map (·.1)) (fR.map (·.2))]/\(match o with
  |some (k,y)=>pH y=true/\si it c μ ds (dput fR k y) K
  |none=>si it c μ ds fR K)
def NA(ρ:DE)(y:DG)(t:Dt)(wk wv:De)(d:D)(μ:MS)(K:aq (Key×D)->MS->Prop):Prop:=y d ρ μ λG O=>t G O λb J=>if b=true then wk G J λL W=>opt (Mm L) λk=>wv G W λv U=>K (some (k,v)) U else K none J
def NH(wi:DI)(js:ao (aq Nat))(y:DG)(t:Dt)(wk wv:De):De:=λρ μ K=>wi ρ μ λds c G=>ds.length<=sizeLine/\si (NA (o9 js ρ) y t wk wv) c G ds [] λfR=>K (XJ fR) G
def Fr.RR{G:ao ai}(f:Fr φ H G H')(hl:G.length=φ.length):G=φ:=by obtain⟨⟨J,rfl,_⟩,_,_⟩:=f;rw[o4]at hl;have:J=[]:=List.length_eq_zero_iff.mp (by lia);rw[this,b9]
def KO{g:TG}{y:DG}{S:ao Nat}{t:Dt}{wk wv:De}(so:JY g y S)(mo:oY g)(ho:qo S js=true){Q:VK}(h:tD (NH wi js y t wk wv) σ H Q):KP (Wi wi) js g (yE t) (tD wk) (tD wv) σ H Q:=by
 obtain⟨φ,ρ,μ,K,A,M,k,L⟩:=h;refine⟨φ,ρ,μ,_,A,M,k,λds c O G J H1 k1 f1 M1 wk' D hD=>?_⟩;obtain⟨hz,k1⟩:=k1;have hDf:D∉G:=M1.fresh hD;have fD:Fr G H1 (G++[D]) (upd H1 D (.dK [])):=⟨(Fr.snoc (φ:=G) hD).ext,λc u _ e=>iM.upd hD _ _ e,λc e=>(iM.upd hD).free e⟩;obtain⟨MD,_⟩:=M1.snoc (m:=.ka [] []) (o:=.dK []) hD ⟨[],[],gc,rfl,rfl,rfl⟩;have lenD:(G++[D]).length=O.length+1:=by rw[o4,M1.len];rfl
 have atD:∀ {H':Hp} {fR:ao (Key×L2.D)},(fR.map (·.2)).all pH=true->gz (G++[D]) H' (O++[.ka (fR.map (·.1)) (fR.map (·.2))])->H' D=some (.dK (En fR)):=λ{H' fR} W Y=>by
  obtain⟨p,e1,E7,vs,e2,e3,e4,e5⟩:=Y.at_ O.length _ (by rw[pW (ar _),aY];rfl);rw[pW (by rw[M1.len];exact ar _),M1.len,aY]at e1;cases e1;rw[e2];congr 2;have e6:=Hi W e5;rw[e4]at e6;unfold En;have key:∀(as:ao (Key×V)) (bs:ao (Key×L2.D)),as.map (·.1)=bs.map (·.1)->as.map (·.2)=(bs.map (·.2)).map MZ->as=bs.map λp=>(p.1,MZ p.2):=by
   intro as;induction as with
   | nil=>intro bs h1 _;cases bs with
    |nil=>rfl
    |cons _ _=>cases h1
   | cons a as ih =>
    intro bs h1 h2;cases bs with
    |nil=>cases h1
    | cons b bs =>
     simp only[aw,cx]at h1 h2 ⊢
     exact⟨Prod.ext h1.1 h2.1,ih bs h1.2 (by simpa using h2.2)⟩
  exact key E7 fR e3 e6
 refine⟨λi n kv H'=>n=ds.length - i/\i<=ds.length/\∃ fR:ao (Key×L2.D),kv=En fR/\fR.length<=i/\(fR.map (·.2)).all pH=true/\Fr G H1 (G++[D]) H'/\gz (G++[D]) H' (O++[.ka (fR.map (·.1)) (fR.map (·.2))])/\si (NA (o9 js ρ) y t wk wv) c O (ds.drop i) fR λfR=>K (XJ fR) O,
  ⟨ds.length,rfl,bA _,[],rfl,bA _,rfl,fD,MD,k1⟩,?_⟩
 rintro i n kv H' ⟨rfl,hi,fR,rfl,Y9,W,f',Y,Z⟩;by_cases mW:i<ds.length
 .rw[bu mW]at Z;obtain⟨c',Z⟩:=Z;obtain⟨go,Kn⟩:=(wk' _ H' _ f' Y c' i).1 ds[i] (jo mW);refine .inr ⟨go,λx H2 Jn=>?_⟩;obtain⟨f2,M2,i2⟩:=Kn x H2 Jn;have E2:kX (G++[D]) H2 (o9 js ρ) (iq js σ):=((A.mono (f1.trans (f'.trans f2))).iq js);refine mo _ _ _ _ _ (λFW H3 rO=>?_) (so _ H2 _ _ _ _ x _ E2 M2 i2 Z);obtain⟨e3,l3,n3,Rk,E3,k3⟩:=rO;refine⟨Nc ho l3 n3,?_⟩;subst e3;refine⟨_,Rk,_,_,E3,M2,k3,λb Og V6 H4 k4 f4 M4=>?_⟩;cases b with
  | true =>
   refine⟨V6,Rk,Og,_,E3.mono f4,M4,k4,λd5 V8 ZE v5 H5 k5 f5 M5 i5=>?_⟩;obtain⟨kk,ekk,k5⟩:=ip k5;refine⟨ZE,Rk,V8,_,E3.mono (f4.trans f5),M5,k5,λU μ6 φ6 v6 H6 k6 f6 M6 i6=>?_⟩;obtain⟨e6,Zb,w6⟩:=k6;subst e6;have ff:=f2.trans (f4.trans (f5.trans f6));have ef:φ6=G++[D]:=ff.RR (by rw[M6.len,Y.len]);subst ef;have hDv:=atD W M6;refine⟨kk,_,wt ekk i5,hDv,by unfold En;rw[iE];lia,ds.length - (i+1),by lia,rfl,mW,dput fR kk U,by rw[Nq,Fi Zb i6],by have:=Nr fR kk U;lia,zI W Zb,?_,?_,w6⟩
   .refine(f'.trans ff).trans (.put (aS _ (List.mem_singleton.mpr rfl)))
   .have hp:(G++[D])[O.length]?=some D:=by rw[pW (by rw[M1.len];exact ar _),M1.len,aY];rfl
    have q:=M6.put (k:=O.length) (p:=D) (o:=.dK (putK (En fR) kk v6)) (m:=.ka ((dput fR kk U).map (·.1)) ((dput fR kk U).map (·.2))) hp
     ⟨En (dput fR kk U),((dput fR kk U).map (·.2)).map MZ,by rw[gc,Nq,Fi Zb i6],by unfold En;rw[bx];rfl,by unfold En;rw[bx,bx];rfl,U1 (zI W Zb)⟩
    have e:(O++[MO.ka (fR.map (·.1)) (fR.map (·.2))]).set O.length (.ka ((dput fR kk U).map (·.1)) ((dput fR kk U).map (·.2)))=O++[.ka ((dput fR kk U).map (·.1)) ((dput fR kk U).map (·.2))]:=qV
    rw[e]at q
    exact q
  | false =>obtain⟨e4,w4⟩:=k4;subst e4;have ff:=f2.trans f4;have ef:V6=G++[D]:=ff.RR (by rw[M4.len,Y.len]);subst ef;exact⟨ds.length - (i+1),by lia,rfl,mW,fR,rfl,by lia,W,f'.trans ff,M4,w4⟩
 .have e:i=ds.length:=by lia
  subst e
  rw[List.drop_length]at Z
  refine .inl ⟨(wk' _ H' _ f' Y Z.1 _).2 rfl,?_⟩
  have M'':gz G H' O:=by have q:=Y.kL (n:=O.length) (λk m hk e=>by rw[uO hk]at e;exact M1.bound k m e);rw[bZ,show(G++[D]).take O.length=G by rw[<- M1.len,bZ]]at q;exact q
  have f'':Fr G H1 G H':=⟨⟨[],by simp,λ_ h=>nomatch h⟩,f'.keep,f'.Zm⟩
  exact L _ O G _ H' Z.2 (f1.trans f'') M'' ⟨D,En fR,_,rfl,hDf,atD W Y,by unfold En;rw[bx];rfl,rfl,by
   have:(En fR).map (·.2)=(fR.map (·.2)).map MZ:=by unfold En;rw[bx,bx];rfl
   rw[this];exact U1 W⟩
section
variable {X:Cx}{a b e:Expr}{es:ao Expr}{pos:Pos}
variable {N:ao Str}{js:ao (aq Nat)}{sc:Scope}{tg kx vx iter:Expr}{ifs:ao Expr}{g:TG}{y:DG}{S:ao Nat}{t:Dt}{wk wv:De}
def X4:vV:=λx y μ K=>match x with
 |.ka ks ds=>opt (Mm y) λk=>opt (xY (ks.zip ds) k) λd=>K d μ
 |_=>False
def Nj{ks:ao Key}:∀ {ds:ao D} {fR:ao (Key×V)} {k:Key} {d:D},fR.map (·.1)=ks->f9 φ H ds (fR.map (·.2))->xY (ks.zip ds) k=some d->∃ v,pZ fR k=some v/\jG φ H d v:=by
 intro ds fR;induction fR generalizing ks ds with
 |nil=>intro k d h1 h2 G;cases h1;cases G
 | cons p fR J =>
  intro k d h1 h2 G;cases ks with
  |nil=>cases h1
  | cons k0 ks =>
   cases ds with
   |nil=>cases(show _=_ from h2)
   | cons U ds =>
    obtain⟨v,r,e,O,L⟩:=h2;simp only[aw,cx]at h1 e;obtain⟨rfl,rfl⟩:=e;obtain⟨rfl,h1⟩:=h1;rw[cP]at G;unfold xY at G;rw[cw]at G;by_cases hk:p.1=k
    .simp only[hk,decide_true]at G;cases G;exact⟨p.2,qa hk,O⟩
    .simp only[hk,decide_false]at G;obtain⟨v,a,b⟩:=J h1 L (k:=k) (d:=d) G;exact⟨v,by rw[qc hk];exact a,b⟩
def HE{wb:De}(hu:X.A.units+1<cLine)(ha:PD X a wa)(hb:PD X b wb)(U:Rc b):PD X (.Subscript a b pos) (wL X4 wa wb):=(GN hu ha hb U).imp λσ H Q W=>by
 obtain⟨φ,ρ,μ,K,A,M,k,L⟩:=W;refine⟨φ,ρ,μ,_,A,M,k,λd1 Z gC v1 H1 k1 J M1 i1=>?_⟩;refine⟨gC,ρ,Z,_,A.mono J,M1,k1,λd2 iX lT v2 H2 k2 G M2 i2=>?_⟩;unfold X4 at k2;split at k2
 .obtain⟨k,ek,k2⟩:=ip k2;obtain⟨d,ed,k2⟩:=ip k2;obtain⟨p,fR,vs,rfl,_,Y,e1,e2,ha⟩:=i1.mono G;cases wt ek i2;subst e2;obtain⟨v,ev,O⟩:=Nj e1 ha ed;exact⟨p,v,rfl,.inl ⟨fR,k,.inl Y,rfl,ev.symm⟩,(L.mono (J.trans G)).val M2 k2 O⟩
 .exact k2.elim
end
theorem wR(ns:ao Int):∀ k,k<ns.length->argBest (λi j=>decide (ns.getD i 0<ns.getD j 0)) k<=k/\∀ j,j<=k->ns.getD (argBest (λi j=>decide (ns.getD i 0<ns.getD j 0)) k) 0<=ns.getD j 0
 |0,_=>⟨ar _,λj G=>by rw[show j=0 by lia];exact bS _⟩
 | k+1,h=>by
  obtain⟨h1,h2⟩:=wR ns k (by lia);unfold argBest;by_cases hb:ns.getD (k+1) 0<ns.getD (argBest (λi j=>decide (ns.getD i 0<ns.getD j 0)) k) 0
  .rw[aB (aM hb)];refine⟨ar _,λj G=>?_⟩;by_cases e:j=k+1
   .rw[e];exact bS _
   .exact cF (dm hb) (h2 j (by lia))
  .rw[aC (by simp only[bq];exact hb)];refine⟨by lia,λj G=>?_⟩;by_cases e:j=k+1
   .rw[e];lia
   .exact h2 j (by lia)
section
variable {prog:ae}{w:af}{A:Around}{R:Result->ah->Prop}{I:ai}{fp wr:ao ai}{n:Nat}{P:Nat->ak->Prop}{St:Nat->Heap->Prop}{kw:ao (Str×ak)}
def PM(W:Walks prog w A.in1 I fp wr n P St)(J:Nat->Nat->Bool)(L:CmpOf prog w A.in1 .Lt P J)(S:ai)(O:S∉fp):
 ∀(k j:Nat) (s:ah) (G:ak) (c:Nat),n - (j+1)=k->j+1<=n->St (j+1) s.heap->P (argBest J j) G->s.heap.get? S=some { cls:=.type "list",dict:=none,data:=.seq #[G,G] c,slots:=#[]} ->
 (∀ v h' tk,P (argBest J (n - 1)) v->(∀ b o,b∉wr->b≠S->s.heap.get? b=some o->h'.get? b=some o)->R (.ok (.ret v)) {s with heap:=h',toks:=tk}) ->
 codeAny (model prog w) A (.builtin "min.loop" ⟨[.ref I,.none,.ref S],kw⟩) R s:=by
 have Sw:S∉wr:=λh=>O (W.sub _ h);have nm:(toString "min"++toString ".loop" : String) = "min.loop":=by decide
 intro k;induction k with
 | zero =>
  intro j s G c hk hj B1 Z U Y;have ej:j+1=n:=by lia
  refine dG eX ?_;rw[dn cy _];show wpAny _ _ (seqItems? (.ref S)>>=_) _ _ s;refine fV (bc U rfl ?_);show wpAny _ _ (tryCatch (pyNext (.ref I)) _>>=_) _ _ s;refine fV (eR (W.done s _ _ (ej▸B1) λh' tk kp=>?_));show wpAny _ _ (updateSeq S (λ_=>#[])>>=_) _ _ _;refine fV (dg (kp S _ Sw U) rfl (fV (cV (au ?_))));exact Y G _ tk (by rw[<- ej];exact Z) λb o hb hbS e=>(aQ _ _ (bj hbS)).trans (kp b o hb e)
 | succ k ih =>
  intro j s G c hk hj B1 Z U Y;have lt:j+1<n:=by lia
  refine dG eX ?_;rw[dn cy _];show wpAny _ _ (seqItems? (.ref S)>>=_) _ _ s;refine fV (bc U rfl ?_);show wpAny _ _ (tryCatch (pyNext (.ref I)) _>>=_) _ _ s;refine fV (eR (W.item (j+1) s _ _ lt B1 λv h' tk hv Qj kp=>?_));have VY:=kp S _ Sw U;show wpAny _ _ (tryCatch (holding [v,v] (richCompare .Lt v G>>=_)) _>>=_) _ _ _;refine fV (eR (bB (fV (L (j+1) (argBest J j) v G _ _ _ hv Z (fV (bB (cJ (fV (cV (au ?_))))))))));cases hb:J (j+1) (argBest J j)with
  | true =>
   simp only[if_true];refine fV (dg VY rfl (fV (cV ?_)));rw[nm];refine au ⟨eh cy _,ih (j+1) _ v _ (by lia) lt (W.frame _ _ _ Qj λb hbf o e=>?_) (by simp only[argBest,hb,if_true];exact hv) (bz _ VY rfl) λv' h2 YQ My RX=>?_⟩
   .exact(aQ _ _ (λh:S=b=>O (by rw[h];exact hbf))).trans e
   .exact Y v' h2 YQ My λb o h1 h3 e=>RX b o h1 h3 ((aQ _ _ (bj h3)).trans (kp b o h1 e))
  | false =>simp only[dF,if_false];refine fV (cV ?_);rw[nm];exact au ⟨eh cy _,ih (j+1) _ G c (by lia) lt Qj (by simp only[argBest,hb,dF,if_false];exact Z) VY λv' h2 YQ My RX=>Y v' h2 YQ My λb o h1 h3 e=>RX b o h1 h3 (kp b o h1 e)⟩
end
def FG(a v:ak):argsOk "min" ⟨[a],[(Str.ofString "default",v)]⟩:=by unfold argsOk;kernel_rfl
section
variable {X:Cx}
def Dg{p:ai}{d:V}{dv:ak}{Q:VK}(I:Inv X fE σ H s)(gY:X.gY=true)(hp:H p=some (.lst (ns.map V.int)))(rd:gB d dv)(q:if ns=[]then Q d H else ∀ m,m∈ns->(∀ y∈ns,m<=y)->Q (.int m) H):
 wpAny (model X.prog X.w) X.A (call (.builtin "min") [.ref p] [(Str.ofString "default",dv)]) (EP X fE σ Q) X.xe s:=by
 have nm:(toString "min"++toString ".loop" : String) = "min.loop":=by decide
 obtain⟨_,J,n,r,hl,e⟩:=I.mQ hp;have BZ:s.heap.IsList p J.toArray:=⟨_,e,rfl,n,rfl⟩;have lt:p≠s.heap.objs.size:=aA (jf e);have len:J.toArray.size=ns.length:=by rw[aD,<- hl,iE]
 have val:∀(i:Nat) (v:ak),J.toArray[i]?=some v->∃ t,i<ns.length/\v=.int (ns.getD i 0) t:=λi v U=>by
  have Ea:J[i]?=some v:=by simpa using U
  cases G:(ns.map V.int)[i]? with
  |none=>have:=r.none_of G;rw[Ea]at this;cases this
  | some y =>
   obtain⟨u,hu,ry⟩:=r.get G;rw[Ea]at hu;cases hu;rw[oC]at G;cases e2:ns[i]? with
   |none=>rw[e2]at G;cases G
   | some b =>rw[e2]at G;cases G;obtain⟨t,rfl⟩:=ry;exact⟨t,(kN e2).1,by rw[av,e2];rfl⟩
 refine PyProof.Rows.kmk_tree PySem.F.kind_min PySem.F.plain_min PySem.F.entry_min (FG _ _) ?_;show wpAny _ _ (Builtin.Builtins.bindParams "min" ["key","default"] 0 ⟨[],[(Str.ofString "default",dv)]⟩>>=_) _ _ s;refine fV (wpAny_of_eq (show Builtin.Builtins.bindParams "min" ["key","default"] 0 ⟨[],[(Str.ofString "default",dv)]⟩=pure [none,some dv]from rfl) (fV (au (fV (dk BZ (fV (wpAny_newList ?_ (bA _))))))));rw[nm];have W:=Walks.list (prog:=X.prog) (w:=X.w) (A:=X.A.in1) (I.ok.hd gY) s.heap.objs.size p lt J.toArray;have hS:((s.heap.push { cls:=.type "list_iterator",data:=.fields #[.ref p,.int 0 0]}).push { cls:=.type "list",data:=.seq ([]:ao ak).toArray}).get? (s.heap.push { cls:=.type "list_iterator",data:=.fields #[.ref p,.int 0 0]}).objs.size=some { cls:=.type "list",dict:=none,data:=.seq #[] 0,slots:=#[]}:=aE _ rfl;have Wn:(s.heap.push { cls:=.type "list_iterator",data:=.fields #[.ref p,.int 0 0]}).objs.size=s.heap.objs.size+1:=bg ..
 have O:p<s.heap.objs.size:=jf e;have Z:(s.heap.push { cls:=.type "list_iterator",data:=.fields #[.ref p,.int 0 0]}).objs.size∉[s.heap.objs.size,p]:=by rw[Wn];simp only[aO,aH,bN,not_or];exact⟨a8 (bG _),a8 (aV O)⟩
 have Rv:((s.heap.push { cls:=.type "list_iterator",data:=.fields #[.ref p,.int 0 0]}).push { cls:=.type "list",data:=.seq ([]:ao ak).toArray}).IsListIter s.heap.objs.size p 0/\((s.heap.push { cls:=.type "list_iterator",data:=.fields #[.ref p,.int 0 0]}).push { cls:=.type "list",data:=.seq ([]:ao ak).toArray}).IsList p J.toArray :=
  ⟨⟨_,j4 _ (aE _ rfl),rfl,rfl⟩,(BZ.push _).push _⟩
 have back:∀ {h':Heap} {tk:Nat},(∀ b o,s.heap.get? b=some o->h'.get? b=some o)->Inv X fE σ H {s with heap:=h',toks:=tk}:=λkp=>I.jk kp;refine au ⟨eh cy _,?_⟩;refine dG eX ?_;rw[dn cy _];show wpAny _ _ (seqItems? (.ref _)>>=_) _ _ _;refine fV (bc hS rfl ?_);show wpAny _ _ (tryCatch (pyNext (.ref s.heap.objs.size)) _>>=_) _ _ _;by_cases L:ns=[]
 .rw[aB L]at q;have z0:J.toArray.size=0:=by rw[len,L];rfl
  refine fV (eR (W.done _ _ _ (by rw[z0];exact Rv) λh' tk kp=>?_));show wpAny _ _ (rule _>>=_) _ _ _;refine fV (dA (au ?_));exact⟨d,H,back λb o G=>kp b o (by simpa using aA (jf G)) (j4 _ (j4 _ G)),rd,q⟩
 .rw[aC L]at q;have pos:0<ns.length:=List.length_pos_iff.mpr L;refine fV (eR (W.item 0 _ _ _ (by rw[len];exact pos) Rv λv h' tk U Qj kp=>?_));have VY:=kp _ _ (by simpa using(λz:(s.heap.push { cls:=.type "list_iterator",data:=.fields #[.ref p,.int 0 0]}).objs.size=s.heap.objs.size=>Z (by simp[z]))) hS;show wpAny _ _ (updateSeq _ (λ_=>#[v,v])>>=_) _ _ _;refine fV (dg VY rfl ?_);rw[nm];refine au ⟨eh cy _,PM W (λi j=>decide (ns.getD i 0<ns.getD j 0)) ?_ _ Z _ 0 _ v _ rfl (by rw[len];exact pos) (W.frame _ _ _ Qj λb Y o G=>?_) U (bz _ VY rfl) λv' h2 YQ My RX=>?_⟩
  .intro i j vi vj s' Q' E' hi hj hq;obtain⟨t,_,rfl⟩:=val i vi hi;obtain⟨t',_,rfl⟩:=val j vj hj;exact lt_int hq
  .exact(aQ _ _ (λh=>Z (by rw[h];exact Y))).trans G
  .rw[len]at My;obtain⟨t,mW,rfl⟩:=val _ v' My;obtain⟨b1,b2⟩:=wR ns (ns.length - 1) (by lia);have nS:∀ b o,s.heap.get? b=some o->b≠(s.heap.push { cls:=.type "list_iterator",data:=.fields #[.ref p,.int 0 0]}).objs.size:=λb o G=>by rw[Wn];exact aA (aV (jf G))
   have nI:∀ b o,s.heap.get? b=some o->b∉[s.heap.objs.size]:=λb o G=>by simpa using aA (jf G)
   refine⟨.int _,H,back λb o G=>RX b o (nI b o G) (nS b o G) ((aQ _ _ (bj (nS b o G))).trans (kp b o (nI b o G) (j4 _ (j4 _ G)))),⟨t,rfl⟩,q _ ?_ λx hx=>?_⟩
   .rw[av,jo mW];exact bI _
   .obtain⟨j,hj,ej⟩:=aZ hx;have:=b2 j (by lia);rw[av (i:=j),jo hj,ej]at this;exact this
def X2(w J:De):De:=λρ μ K=>w ρ μ λx L=>J ρ L λd G=>∃ ns:ao Int,lv G x=some (ns.map D.int)/\if ns=[]then K d G else ∀ m,m∈ns->(∀ y∈ns,m<=y)->K (.int m) G
def U8{e c:Expr}{p pos Jd:Pos}{w J:De}(gY:X.gY=true)(hg:Gl X "min")(hm:X.mg "min"=none)(he:PD X e w)(hc:PD X c J)
 (h1:starEach [e] X.env=(false,eval e X.env)::starEach [] X.env:=by rfl)
 (h2:backTo pos (starEach [e] X.env)=(false,eval e X.env)::backTo pos (starEach [] X.env):=by rfl) (h3:(backTo pos (starEach [e] X.env)).any (·.1)=false:=by rfl)
 (h4:(backToKw pos (keywordEach [⟨some "default",c,Jd⟩] X.env)).all (·.1.isSome)=true:=by rfl) (h5:(backToKw pos (keywordEach [⟨some "default",c,Jd⟩] X.env)).any (·.1.isNone)=false:=by rfl)
 (h6:(backToKw pos (keywordEach [⟨some "default",c,Jd⟩] X.env)).filterMap (·.1)=[Str.ofString "default"]:=by rfl):
 PD X (.Call (.Name "min" p) [e] [⟨some "default",c,Jd⟩] pos) (X2 w J):=by
 intro fE s σ H Q I h;obtain⟨φ,ρ,μ,K,A,M,k,L⟩:=h;refine cO (lM I hg hm dM ?_);have q1:zc (tD w) KJ σ H (λus H1=>zc (tD J) KJ σ H1 λds H2=>∃(l:ai) (d:V) (ns:ao Int),us=[.ref l]/\ds=[d]/\H2 l=some (.lst (ns.map V.int))/\if ns=[]then Q d H2 else ∀ m,m∈ns->(∀ y∈ns,m<=y)->Q (.int m) H2):=by
  refine⟨φ,ρ,μ,_,A,M,k,λd1 gh gC v1 H1 k1 Z M1 i1=>?_⟩;refine⟨gC,ρ,gh,_,A.mono Z,M1,k1,λd2 iX lT v2 H2 k2 Y M2 i2=>?_⟩;obtain⟨ns,el,k2⟩:=k2;obtain⟨l,vs,rfl,U,ha⟩:=kz M2 (i1.mono Y) el;have G:=L.mono (Z.trans Y);refine⟨l,v2,ns,rfl,rfl,by rw[U,ha.ints],?_⟩;by_cases W:ns=[]
  .rw[aB W]at k2 ⊢;exact G.val M2 k2 i2
  .rw[aC W]at k2 ⊢;exact λm a b=>G.val M2 (k2 m a b) rfl
 refine PyProof.Rows.callWith_kw (iN (gm he iJ h1 pos fE s σ H _ I q1) λus s1 qz=>?_) h2 h3 h4 h5;obtain⟨vs,H1,I1,r1,q2⟩:=qz;refine iN (Ph hc TF pos fE s1 σ H1 _ I1 q2) λks s2 rG=>?_;obtain⟨ds,H2,I2,r2,l,d,ns,e1,e2,U,q⟩:=rG;subst e1 e2;obtain⟨u,rfl,ru⟩:=r1.one;obtain⟨u2,rfl,O⟩:=r2.one;cases ru;rw[h6];exact Dg I2 gY U O q
def GF:V->ao V->Hp->VK->Prop:=λx vs H Q=>∃(l:ai) (y:Int) (ns:ao Int) (j:Nat),x=.ref l/\vs=[.int y]/\H l=some (.lst (ns.map V.int))/\ns[j]?=some y/\(∀ m,m<j->ns[m]?≠some y)/\Q (.int j) H
def Mu:N9 X "list.index" GF:=by
 intro fE s σ H x vs v us Q I rx rv h
 .obtain⟨l,y,ns,j,rfl,rfl,hl,hj,VS,q⟩:=h;cases rx;obtain⟨u,rfl,t,rfl⟩:=rv.one;obtain⟨hz,G,n,r,J,e⟩:=I.mQ hl;have W:j<ns.length:=(kN hj).1;have len:G.length=ns.length:=by rw[<- J,iE]
  have Z:∀(m:Nat) (U:m<G.length),G[m]=G[m]/\DF (.int y) G[m]=decide (ns[m]?=some y):=λm U=>by
   obtain⟨w',Y,BW⟩:=r.get (i:=m) (x:=.int (ns[m]'(by lia))) (by rw[oC,jo (by lia)];rfl);have:G[m]=w':=by rw[jo U]at Y;exact aN Y
   refine⟨rfl,?_⟩;rw[this,Fs BW rfl];show(ns[m]==y)=_;rw[jo (by lia)];by_cases h:ns[m]'(by lia)=y
   .simp[h]
   .simp[h]
  refine call_meets eM ⟨_,e,rfl⟩ PySem.F.entry_list_index (PySem.F.args_list_index_2 _ _) (SeqAt.list_indexAt l G.toArray n none #[] (.int y t) (DF (.int y)) j (by rw[aD,len];exact W) (by have:=qv;rw[iE]at hz;lia) ?_ λm U O=>?_) ⟨e,λz L=>oR (x:=.int y) ⟨t,rfl⟩ rfl r (by simp[l5]) z (by simpa using L),?_⟩
  .have:=(Z j (by lia)).2;rw[aM hj]at this;simpa using this
  .have:=(Z m (by lia)).2;rw[aW (VS m O)]at this;simpa using this
  .exact⟨.int j,H,I.tok _,⟨_,rfl⟩,q⟩
def Nb:Vw:=λd ds μ K=>match ds with
 |[.int y]=>∃(ns:ao Int) (j:Nat),lv μ d=some (ns.map D.int)/\ns[j]?=some y/\(∀ m,m<j->ns[m]?≠some y)/\K (.int j) μ
 |_=>False
def Co:N6 Kf "list" GF Nb:=λφ H x vs d ds μ K Q M G h k L=>by
 unfold Nb at k;split at k
 .obtain⟨v,r,rfl,h1,h2⟩:=h;cases(show r=[]from h2);cases(show v=_ from h1);obtain⟨ns,j,O,h1,h2,k⟩:=k;obtain⟨p,us,rfl,J,ha⟩:=kz M G O;exact⟨_,_,ns,j,rfl,rfl,by rw[J,ha.ints],h1,h2,L.val M k rfl⟩
 .exact k.elim
end
theorem n8:∀(xs:ao Int) (e:Int),e<=xs.foldl max e/\∀ x∈xs,x<=xs.foldl max e
 |[],e=>⟨bS _,λ_ h=>nomatch h⟩
 | y::xs,e=>by
  obtain⟨h1,h2⟩:=n8 xs (max e y);rw[cZ];refine⟨by lia,λx G=>?_⟩;rcases List.mem_cons.mp G with q|q
  .lia
  .exact h2 x q
theorem lN:∀(xs:ao Int) (e:Int),xs.foldl max e=e\/xs.foldl max e∈xs
 |[],e=>.inl rfl
 | y::xs,e=>by
  rw[cZ];rcases lN xs (max e y)with h|h
  .rw[h];rcases Int.le_total e y with q|q
   .exact .inr (by rw[show max e y=y by lia];exact aF)
   .exact .inl (by lia)
  .exact .inr (nM _ h)
def Qr{xs:ao Int}{e m:Int}(h1:m∈e::xs)(h2:∀ x∈e::xs,x<=m):m=xs.foldl max e:=by
 obtain⟨a,b⟩:=n8 xs e;have le:m<=xs.foldl max e:=by
  rcases List.mem_cons.mp h1 with q|q
  .lia
  .exact b m q
 have ge:xs.foldl max e<=m:=by
  rcases lN xs e with q|q
  .rw[q];exact h2 e aF
  .exact h2 _ (nM _ q)
 lia
def sv(l:ao Nat)(e:Nat):Nat:=e+((l.drop e).takeWhile (·==111)).length
def uX{e:Nat}(J:OX l)(he:e<=l.length):Vz l e (sv l e):=by
 have split:=List.takeWhile_append_dropWhile (p:=λc=>c==111) (l:=l.drop e);have len:=cf List.length split;rw[o4,bD]at len;refine⟨aR _ _,by unfold sv;lia,λv h1 h2=>?_,?_⟩
 .have hv:v - e<((l.drop e).takeWhile (·==111)).length:=by unfold sv at h2;lia
  have g:l[v]?=((l.drop e).takeWhile (·==111))[v - e]?:=by
   have q:(l.drop e)[v - e]?=l[v]?:=by rw[da];congr 1;lia
   rw[<- q,<- split,uO hv];simp
  rw[g,jo hv]
  have:=List.all_eq_true.mp (List.all_takeWhile (l:=l.drop e) (p:=λc=>c==111)) _ (bI hv)
  simpa using this
 .cases hd:(l.drop e).dropWhile (·==111)with
  | nil =>left;rw[hd]at len;unfold sv;simp at len;lia
  | cons c r =>
   right;have g:l[sv l e]?=some c:=by
    have q:(l.drop e)[sv l e - e]?=l[sv l e]?:=by rw[da];congr 1;unfold sv;lia
    rw[<- q,<- split,pW (by unfold sv;simp),hd];unfold sv;simp
   have G:c≠111:=by have:=List.head?_dropWhile_not (p:=λc=>c==111) (l:=l.drop e);rw[hd]at this;simpa using this
   rw[g];rcases J c (mR g)with q|q
   .exact absurd q G
   .rw[q]
def jK(es:ao Int)(l:ao Nat)(e:Int):Int:=(es.filter λx=>decide (x<=(sv l e.toNat:Int))).foldl max e
def Hm{e:Int}(O:OX l)(h0:0<=e)(he:e<=l.length)(hm:e∈es):YE es l e (jK es l e):=by
 have ct:=uX O (e:=e.toNat) (by lia);have U:e∈es.filter λx=>decide (x<=(sv l e.toNat:Int)):=List.mem_filter.mpr ⟨hm,aM (by have:=ct.1;lia)⟩;obtain⟨a,b⟩:=n8 (es.filter λx=>decide (x<=(sv l e.toNat:Int))) e;have J:jK es l e∈es.filter λx=>decide (x<=(sv l e.toNat:Int)):=by
  rcases lN (es.filter λx=>decide (x<=(sv l e.toNat:Int))) e with q|q
  .unfold jK;rw[q];exact U
  .exact q
 obtain⟨m1,m2⟩:=List.mem_filter.mp J;exact⟨_,ct,m1,cC m2,λx L G=>b x (List.mem_filter.mpr ⟨L,aM G⟩)⟩
def Fj{e m:Int}(G:OX l)(h0:0<=e)(he:e<=l.length)(hm:e∈es)(h:YE es l e m):m=jK es l e:=h.uniq (Hm G h0 he hm)
def xT{e:Int}(hm:e∈es):jK es l e∈es:=by
 unfold jK;rcases lN (es.filter λx=>decide (x<=(sv l e.toNat:Int))) e with q|q
 .rw[q];exact hm
 .exact(List.mem_filter.mp q).1
def Hn(es:ao Int)(l:ao Nat)(e:Int):e<=jK es l e:=(n8 _ e).1
def ky(es:ao Int)(ts:ao Tk)(a e:Int):Int:=ts.foldl (λm t=>if t.2<=a then max m (jK es t.1 e)else m) e
def jl(es:ao Int)(ts:ao Tk)(a:Int):ao Int:=es.map (ky es ts a)
theorem CG(es:ao Int)(a e:Int):∀(ts:ao Tk) (m:Int),ts.foldl (λm t=>if t.2<=a then max m (jK es t.1 e)else m) m=((ts.filter λt=>decide (t.2<=a)).map λt=>jK es t.1 e).foldl max m
 |[],m=>rfl
 | t::ts,m=>by
  rw[cZ,CG es a e ts,dY];by_cases h:t.2<=a
  .rw[aB h,aB (aM h)];rfl
  .rw[aC h,aC (by simp[h])]
def lJ(es:ao Int)(ts:ao Tk)(a e:Int):ky es ts a e=((ts.filter λt=>decide (t.2<=a)).map λt=>jK es t.1 e).foldl max e:=CG es a e ts e
def CH{e:Int}(hm:e∈es):ky es ts a e∈es:=by
 rw[lJ];rcases lN ((ts.filter λt=>decide (t.2<=a)).map λt=>jK es t.1 e) e with q|q
 .rw[q];exact hm
 .obtain⟨t,_,ht⟩:=List.mem_map.mp q;rw[<- ht];exact xT hm
def q9(es:ao Int)(ts:ao Tk)(a e:Int):e<=ky es ts a e:=by rw[lJ];exact(n8 _ e).1
def yG(es:ao Int)(t:Tk):ao Int:=es.map (jK es t.1)
def su(es:ao Int)(a:Int)(told:ao Int)(t:Tk):ao Int:=if t.2<=a then List.zipWith max told (yG es t)else told
theorem zN(es:ao Int)(a:Int):∀(ts:ao Tk) (g:Int->Int),ts.foldl (su es a) (es.map g)=es.map λe=>ts.foldl (λm t=>if t.2<=a then max m (jK es t.1 e)else m) (g e)
 |[],g=>rfl
 | t::ts,g=>by
  have e1:su es a (es.map g) t=es.map λe=>if t.2<=a then max (g e) (jK es t.1 e)else g e:=by
   unfold su;by_cases h:t.2<=a
   .rw[aB h];unfold yG;rw[dW];have G:∀ xs:ao Int,List.zipWith (λx y=>max (g x) (jK es t.1 y)) xs xs=xs.map λe=>max (g e) (jK es t.1 e):=by
     intro xs;induction xs with
     |nil=>rfl
     |cons x xs J=>rw[bP,J];rfl
    rw[G];simp[h]
   .rw[aC h];simp[h]
  rw[cZ,e1,zN es a ts];rfl
def NK(es:ao Int)(ts:ao Tk)(a:Int):ts.foldl (su es a) es=jl es ts a:=by have:=zN es a ts id;rw[List.map_id]at this;rw[this];rfl
def rowAt(es row:ao Int)(x:Int):Int:=(row[es.idxOf x]?).getD 0
def lK(es:ao Int)(ts:ao Tk)(before:ao Int)(a:Int):ao Int:=List.zipWith (λJ G=>max J (rowAt es before G)) (jl es ts a) before
structure ur (es row:List Int):Prop where
 len:row.length=es.length
 mem:∀ x∈row,x∈es
def Fc{x:Int}(h:x∈es):es.idxOf x<es.length:=List.idxOf_lt_length_iff.mpr h
def rl{x:Int}(h:x∈es):es[es.idxOf x]?=some x:=by rw[jo (Fc h)];congr 1;exact List.getElem_idxOf (Fc h)
def r9{row:ao Int}(r:ur es row){x:Int}(h:x∈es):row[es.idxOf x]?=some (rowAt es row x):=by
 have hl:es.idxOf x<row.length:=by rw[r.len];exact Fc h
 unfold rowAt;rw[jo hl];rfl
def IB{row:ao Int}(r:ur es row){x:Int}(h:x∈es):rowAt es row x∈es:=r.mem _ (mR (r9 r h))
def Qz(es:ao Int):ur es es:=⟨rfl,λ_ h=>h⟩
def xD(es:ao Int)(ts:ao Tk)(a:Int):ur es (jl es ts a):=⟨by unfold jl;rw[iE],λx G=>by
 unfold jl at G
 obtain⟨e,J,rfl⟩:=List.mem_map.mp G
 exact CH J⟩
def max_mem{b:Int}(ha:a∈es)(hb:b∈es):max a b∈es:=by
 rcases Int.le_total a b with h|h
 .rw[show max a b=b by lia];exact hb
 .rw[show max a b=a by lia];exact ha
def AM{before:ao Int}(r:ur es before):ur es (lK es ts before a):=by have o:=xD es ts a;refine⟨by unfold lK;rw[bO,o.len,r.len,Nat.min_self],λx G=>?_⟩;unfold lK at G;obtain⟨i,hi,rfl⟩:=aZ G;rw[List.getElem_zipWith];rw[bO]at hi;exact max_mem (o.mem _ (bI _)) (IB r (r.mem _ (bI _)))
def gL(es:ao Int)(ts:ao Tk):Nat->ao Int
 |0=>jl es ts 0
 |a+1=>lK es ts (gL es ts a) ((a:Int)+1)
theorem pC(es:ao Int)(ts:ao Tk):∀ a,ur es (gL es ts a)
 |0=>xD es ts 0
 |a+1=>AM (pC es ts a)
def EA{x:Int}(h:x∈es):rowAt es es x=x:=by unfold rowAt;rw[rl h];rfl
def zt(es:ao Int)(ts:ao Tk)(a:Int):lK es ts es a=jl es ts a:=by
 unfold lK jl;have J:∀ xs:ao Int,(∀ x∈xs,x∈es)->List.zipWith (λU G=>max U (rowAt es es G)) (xs.map (ky es ts a)) xs=xs.map (ky es ts a):=by
  intro xs;induction xs with
  |nil=>intro _;rfl
  | cons x xs L =>intro h;rw[aw,bP,L λy O=>h y (nM _ O),EA (h x aF)];have:=q9 es ts a x;rw[show max (ky es ts a x) x=ky es ts a x by lia]
 exact J es λ_ h=>h
def CF(h:∀ t∈ts,a<t.2):jl es ts a=es:=by
 unfold jl;have e:∀ e,ky es ts a e=e:=λe=>by rw[lJ,List.filter_eq_nil_iff.mpr λt ht=>by have:=h t ht;simp;lia];rfl
 rw[bW λx _=>e x,List.map_id']
theorem uF{es:ao Int}{ts:ao Tk}:∀ {a:Nat},(∀ t∈ts,(a:Int)<t.2)->gL es ts a=es
 |0,h=>CF h
 | a+1,h=>by unfold gL;rw[uF λt ht=>by have:=h t ht;lia,zt];exact CF λt ht=>by have:=h t ht;lia
def AQ{x:D}(h:lv μ x=some ds):lv (μ++[m]) x=some ds:=by
 cases x with
 |lst es=>exact h
 |mr k=>exact PV h
 |_=>cases h
structure iD (n:Int)(cs:List Int)(ts:List Tk):Prop where
 n1:1<=n
 n2:n<=1000
 nH:cs.length<=1000
 jD:Cuts n cs
 takes:zX n ts
def rB(n:Int)(cs:ao Int):0∈fC n cs:=by unfold fC;simp
def Hy{n:Int}(h1:1<=n)(h:Cuts n cs):(fC n cs).Nodup:=List.Pairwise.imp (λh=>Int.ne_of_lt h) (iK h1 h)
def abl:jZ:=λds μ K=>match ds with
 |[.int n,x]=>∃ cs:ao Int,lv μ x=some (cs.map D.int)/\cs.length<=1000/\K (.mr μ.length) (μ++[.lst ((fC n cs).map D.int)])
 |_=>False
def rq:jZ:=λds μ K=>match ds with
 |[.int n,x,.str z,.int e]=>∃ cs:ao Int,lv μ x=some (cs.map D.int)/\cs.length<=1000/\(z.length:Int)=n/\n<=1000/\OX z.cps.toList/\0<=e/\e<=n/\e∈fC n cs/\K (.int (jK (fC n cs) z.cps.toList e)) μ
 |_=>False
def Qw:jZ:=λds μ K=>match ds with
 |[.lst b,.str z,.int e]=>∃ es:ao Int,b=es.map D.int/\es.length<=2000/\z.length<=1000/\OX z.cps.toList/\0<=e/\e<=z.length/\e∈es/\K (.int (jK es z.cps.toList e)) μ
 |_=>False
def mV(es:ao Int)(t:Tk):D:=.tup [.int t.2,.lst ((yG es t).map D.int)]
def rp:jZ:=λds μ K=>match ds with
 |[.int n,x,y]=>∃(cs:ao Int) (ts:ao Tk),lv μ x=some (cs.map D.int)/\lv μ y=some (ts.map mO)/\iD n cs ts/\K (.lst (ts.map (mV (fC n cs)))) μ
 |_=>False
def rA:jZ:=λds μ K=>match ds with
 |[x,.lst r,.int a]=>∃(es:ao Int) (ts:ao Tk),lv μ x=some (es.map D.int)/\r=ts.map (mV es)/\es.length<=2000/\ts.length<=100/\K (.lst ((jl es ts a).map D.int)) μ
 |_=>False
def A4:jZ:=λds μ K=>match ds with
 |[x,.lst r,y,.int a]=>∃(es:ao Int) (ts:ao Tk) (bf:ao Int),lv μ x=some (es.map D.int)/\r=ts.map (mV es)/\es.length<=2000/\ts.length<=100/\es.Nodup/\lv μ y=some (bf.map D.int)/\ur es bf/\K (.mr μ.length) (μ++[.lst ((lK es ts bf a).map D.int)])
 |_=>False
def k8(ts:ao Tk):Int:=match ts.map (·.2)with|[]=>0|a::r=>r.foldl min a
theorem kZ:∀(xs:ao Int) (e:Int),(xs.foldl min e=e\/xs.foldl min e∈xs)/\xs.foldl min e<=e/\∀ x∈xs,xs.foldl min e<=x
 |[],e=>⟨.inl rfl,bS _,λ_ h=>nomatch h⟩
 | y::xs,e=>by
  obtain⟨J,h1,h2⟩:=kZ xs (min e y);rw[cZ];refine⟨?_,by lia,λx G=>?_⟩
  .rcases J with h | h
   .rw[h];rcases Int.le_total e y with q|q
    .exact .inl (by lia)
    .exact .inr (by rw[show min e y=y by lia];exact aF)
   .exact .inr (nM _ h)
  .rcases List.mem_cons.mp G with q | q
   .lia
   .exact h2 x q
def Km{m:Int}(hm:m∈ts.map (·.2))(hl:∀ y∈ts.map (·.2),m<=y):m=k8 ts:=by
 unfold k8;cases e:ts.map (·.2)with
 |nil=>rw[e]at hm;cases hm
 | cons a r =>
  rw[e]at hm hl;obtain⟨G,h1,h2⟩:=kZ r a;have a1:m<=r.foldl min a:=by
   rcases G with q|q
   .rw[q];exact hl a aF
   .exact hl _ (nM _ q)
  have a2:r.foldl min a<=m:=by
   rcases List.mem_cons.mp hm with q|q
   .lia
   .exact h2 m q
  show m=r.foldl min a;lia
def Cc:∀ t∈ts,k8 ts<=t.2:=λt ht=>by
 have G:t.2∈ts.map (·.2):=List.mem_map.mpr ⟨t,ht,rfl⟩;unfold k8;cases e:ts.map (·.2)with
 |nil=>rw[e]at G;cases G
 | cons a r =>
  rw[e]at G;obtain⟨J,h1,h2⟩:=kZ r a;show r.foldl min a<=t.2;rcases List.mem_cons.mp G with q|q
  .lia
  .exact h2 _ q
def Cb{n:Int}(h:zX n ts):0<=k8 ts/\k8 ts<=60:=by
 unfold k8;cases e:ts.map (·.2)with
 |nil=>exact⟨bS _,by decide⟩
 | cons a r =>
  obtain⟨L,h1,h2⟩:=kZ r a;have G:∀ x∈a::r,0<=x/\x<=60:=λx J=>by rw[<- e]at J;obtain⟨t,ht,rfl⟩:=List.mem_map.mp J;have:=h.ok t ht;exact⟨this.2.2.1,this.2.2.2⟩
  show 0<=r.foldl min a/\r.foldl min a<=60;rcases L with q|q
  .rw[q];exact G a aF
  .exact G _ (nM _ q)
def rm:jZ:=λds μ K=>match ds with
 |[y]=>∃ ts:ao Tk,lv μ y=some (ts.map mO)/\ts.length<=100/\K (.int (k8 ts)) μ
 |_=>False
def Qu:jZ:=λds μ K=>match ds with
 |[.lst b,y,.int a]=>∃(n:Int) (cs:ao Int) (ts:ao Tk),b=(fC n cs).map D.int/\lv μ y=some (ts.map mO)/\iD n cs ts/\K (.lst ((jl (fC n cs) ts a).map D.int)) μ
 |_=>False
def Ho:jZ:=λds μ K=>match ds with
 |[.lst b,y,.int m]=>∃(n:Int) (cs:ao Int) (ts:ao Tk),b=(fC n cs).map D.int/\lv μ y=some (ts.map mO)/\iD n cs ts/\0<=m/\m<=1000/\K (.lst ((List.range m.toNat).map λa=>.lst ((gL (fC n cs) ts a).map D.int))) μ
 |_=>False
def inSc(x sc:Scope):Scope:={ sc with names:=sc.names.map λ(n,k)=>if k==NameKind.free&&x.kind==.function&&x.names.lookup n==some .cell then(n,NameKind.cell)else(n,k)}
def wN{G:Cx}{L:ao Str}{xsc J:Scope}{N:ao Str}{fp:ao ai}(O:G.env.scope=xsc)(h:wO L (inSc xsc J) N js sc=true):jU (m7 G L J fp s H) N js sc:=by subst O;exact Fy h rfl rfl
def rN(p:Int->Bool):D->aq D
 |.int i=>if p i=true then some (.int i)else none
 |_=>none
def tT(p:Int->Bool)(es:ao Int):(es.map D.int).filterMap (rN p)=(es.filter p).map D.int:=by
 induction es with
 |nil=>rfl
 | cons e es G =>
  rw[aw,cL,dY];unfold rN at G ⊢
  by_cases h:p e=true
  .simp only[h,if_true,aw];rw[G]
  .simp only[h,if_false];rw[G];rfl
def wu{p:Int->Bool}{i:Int}{K:aq D->MS->Prop}(h:p i=true)(k:K (rN p (.int i)) μ):K (some (.int i)) μ:=by have e:rN p (.int i)=some (.int i):=aB h;rw[e]at k;exact k
def tF{p:Int->Bool}{i:Int}{K:aq D->MS->Prop}(h:¬ p i=true)(k:K (rN p (.int i)) μ):K none μ:=by have e:rN p (.int i)=none:=aC h;rw[e]at k;exact k
def PU(g:Int->D):D->aq D
 |.int i=>some (g i)
 |_=>none
def He(g:Int->D)(es:ao Int):(es.map D.int).filterMap (PU g)=es.map g:=by rw[List.filterMap_map,<- fw];rfl
def PR(g:Tk->D):D->aq D
 |.tup [.str z,.int a]=>some (g (z.cps.toList,a))
 |_=>none
def A0(g:Tk->D)(ts:ao Tk):(ts.map mO).filterMap (PR g)=ts.map g:=by rw[List.filterMap_map,<- fw];rfl
def Ja(g:Int->Int->D):D->aq D
 |.tup [.int a,.int b]=>some (g a b)
 |_=>none
def Hd(g:Int->Int->D)(xs ys:ao Int):(List.zipWith (λa b=>D.tup [a,b]) (xs.map D.int) (ys.map D.int)).filterMap (Ja g)=List.zipWith g xs ys:=by
 rw[dW];induction xs generalizing ys with
 |nil=>simp
 | cons x xs G =>
  cases ys with
  |nil=>simp
  |cons y ys=>rw[bP,bP,cL,G];rfl
def FY{xs ys:ao Int}(h:d∈List.zipWith (λa b=>D.tup [a,b]) (xs.map D.int) (ys.map D.int)):∃ a∈xs,∃ b∈ys,d=.tup [.int a,.int b]:=by
 rw[dW]at h;induction xs generalizing ys with
 |nil=>simp at h
 | cons x xs G =>
  cases ys with
  |nil=>simp at h
  | cons y ys =>
   rw[bP]at h;rcases List.mem_cons.mp h with q|q
   .exact⟨x,aF,y,aF,q⟩
   .obtain⟨a,ha,b,hb,e⟩:=G q;exact⟨a,nM _ ha,b,nM _ hb,e⟩
theorem El{α β γ G:Type}(f:γ->G)(g:α->β->γ):∀(xs:ao α) (ys:ao β),(List.zipWith g xs ys).map f=List.zipWith (λa b=>f (g a b)) xs ys
 |[],_=>by simp
 |_::_,[]=>by simp
 |x::xs,y::ys=>by rw[bP,bP,aw,El f g xs ys]
abbrev kI(i:Int):Key:=.inl i
def ub:Nat->ao Int->ao D
 |_,[]=>[]
 |n,e::es=>.tup [.int n,.int e]::ub (n+1) es
theorem zD:∀(n:Nat) (es:ao Int) (i:Nat),(ub n es)[i]?=(es[i]?).map λe=>D.tup [.int ((n+i:Nat):Int),.int e]
 |n,[],i=>by simp[ub]
 |n,e::es,0=>by simp[ub]
 | n,e::es,i+1=>by unfold ub;rw[eO,eO,zD (n+1) es i];congr 1;funext e;rw[show n+1+i=n+(i+1) by lia]
def Ni(es:ao Int):oa (es.map D.int)=ub 0 es:=by
 apply cD;intro i;rw[zD];unfold oa;rw[bV,iE,oC];cases e:es[i]? with
 |none=>simp
 | some x =>have hi:=(kN e).1;rw[bo hi];simp
def rP:Nat->ao Int->ao (Key×D)
 |_,[]=>[]
 |n,e::es=>(kI e,.int n)::rP (n+1) es
theorem Ce{it:D->MS->(aq (Key×D)->MS->Prop)->Prop}{c:MS->Prop}{μ:MS}{K:ao (Key×D)->Prop}(G:∀ m,c (μ++[m]))(hit:∀(i:Nat) (e:Int) (L:MS) (W:aq (Key×D)->MS->Prop),W (some (kI e,.int i)) L->it (.tup [.int i,.int e]) L W):∀(es:ao Int) (n:Nat) (fR:ao (Key×D)),es.Nodup->(∀ kv∈fR,∀ e∈es,kv.1≠kI e)->K (fR++rP n es)->si it c μ (ub n es) fR K
 | [],n,fR,_,_,k=>by unfold ub si;rw[show rP n []=[]from rfl,b9]at k;exact⟨G _,k⟩
 | e::es,n,fR,nd,hk,k=>by
  unfold ub si;refine⟨G _,hit n e _ _ ⟨rfl,rfl,?_⟩⟩;have Z:(fR.any λkv=>decide (kv.1=kI e))=false:=by rw[fc];intro kv J;simp only[bq];exact hk kv J e aF
  have hd:dput fR (kI e) (.int n)=fR++[(kI e,.int n)]:=by unfold dput;rw[Z];rfl
  rw[hd];refine Ce G hit es (n+1) _ (List.nodup_cons.mp nd).2 (λkv J O U=>?_) ?_
  .rcases List.mem_append.mp J with q | q
   .exact hk kv q O (nM _ U)
   .rw[List.mem_singleton.mp q];intro z;have Y:e=O:=by injection z
    rw[Y]at nd;exact(List.nodup_cons.mp nd).1 U
  .rw[cK];exact k
theorem zip_parts{α β:Type}:∀ l:ao (α×β),(l.map (·.1)).zip (l.map (·.2))=l
 |[]=>rfl
 |p::l=>by rw[aw,aw,cP,zip_parts l]
theorem yZ:∀ {es:ao Int} {n:Nat} {m:Int},m∈es->xY (rP n es) (kI m)=some (.int ((n+es.idxOf m:Nat):Int))
 |[],n,m,h=>by cases h
 | e::es,n,m,h=>by
  unfold rP xY;rw[cw];by_cases q:e=m
  .subst q;simp
  .have hm : m ∈ es := by rcases List.mem_cons.mp h with z | z
                          .exact absurd z.symm q
                          .exact z
   have J:decide ((kI e)=kI m)=false:=aW λz=>q (by injection z)
   have G:decide ((kI e,D.int (n:Int)).fst=kI m)=false:=J
   rw[G]
   show Option.map _ _=_
   have:=yZ (n:=n+1) hm
   unfold xY at this
   rw[this,show(e::es).idxOf m=es.idxOf m+1 by rw[List.idxOf_cons,show(e==m)=false from beq_false_of_ne q];rfl]
   congr 3
   lia
section
variable {X:Cx}{N:ao Str}{sc:Scope}{js:ao (aq Nat)}{tg iter kx vx:Expr}{ifs:ao Expr}{g:TG}{tt:TT}{tk tv:TE}
def Lz{wi:TI}{pos:Pos}(U:jU X N js sc)(gY:X.gY=true)(hi:PI X tg iter wi)(hg:∀ fp s H,PG (yz X N sc fp s H) tg g)
 (ht:∀ fp s H,JZ (yz X N sc fp s H) ifs tt) (hk:∀ fp s H,PE (yz X N sc fp s H) kx tk) (hv:∀ fp s H,PE (yz X N sc fp s H) vx tv)
 (hs:∀ x,foldedSetIterable iter X.env x=pure x:=by intro _;rfl):PE X (.DictComp kx vx [⟨tg,iter,ifs,0⟩] sc pos) (KP wi js g tt tk tv):=by
 intro fE s σ H Q I h;rw[show eval (.DictComp kx vx [⟨tg,iter,ifs,0⟩] sc pos) X.env=comprehension (.DictComp kx vx [⟨tg,iter,ifs,0⟩] sc pos) sc X.env (firstIterPos [⟨tg,iter,ifs,0⟩] pos) newDict (firstAsync [⟨tg,iter,ifs,0⟩]) (firstIter [⟨tg,iter,ifs,0⟩] X.env)from rfl];refine dq (use:=none) rfl hs (mB λy hy e=>I.ok.has y.1 (U.free y hy e)) U.kind U.loc (iN (hi fE s σ H _ I h) λv s1 h1=>iN h1 λR1 G h2=>?_);obtain⟨it,fp,Z,J,H2,e,L,T,Y,W,q⟩:=h2;subst e;refine cA (nY ?_);have hD:H2 G.heap.objs.size=none:=L.hG.fresh (ar _);have I3:Inv X fE σ (upd H2 G.heap.objs.size (.dK [])) { G with heap:=G.heap.push { cls:=.type "dict",data:=.dict #[]}}:=L.laid (t':=G.toks) (λ_ _ q=>j4 _ q) (ar _) (DJ G.heap L.big);have hC:(G.heap.push { cls:=.type "dict",data:=.dict #[]}).objs.size=G.heap.objs.size+1:=bg ..
 have Oi:Z 0 (G.heap.push { cls:=.type "dict",data:=.dict #[]}):=T.keep 0 _ _ Y λb _ o e=>j4 _ e;have VR:∀ b∈fp,b≠G.heap.objs.size:=λb hb=>let ⟨o,e,_⟩:=T.obj 0 G.heap Y b hb;aA (jf e)
 have f3:∀ b∈fp,mT X fE (upd H2 G.heap.objs.size (.dK [])) b:=λb hb=>⟨by rw[gr (VR b hb)];exact(W b hb).1,(W b hb).2⟩;refine DW (s:={ G with heap:=G.heap.push { cls:=.type "dict",data:=.dict #[]}}) (tok:=G.toks) I3 U gY T Oi f3 (hg fp _ _) (ht fp _ _) (hk fp _ _) (hv fp _ _) (q G.heap.objs.size hD) λs' H' fR m IX qf nC hn=>?_;have O:G.heap.objs.size<(G.heap.push { cls:=.type "dict",data:=.dict #[]}).objs.size:=by rw[hC];exact bG _
 have BY:∀(b:ai) (o:Obj),G.heap.get? b=some o->b≠(G.heap.push { cls:=.type "dict",data:=.dict #[]}).objs.size:=λb o e=>aA (dU (jf e) O);refine⟨m,nC,λh' sb=>?_⟩;have IY:Inv X fE σ H' { s' with heap:=h'}:=IX.turned (t':=s'.toks) (it:=(G.heap.push { cls:=.type "dict",data:=.dict #[]}).objs.size) (λb o hb e=>(sb.2 b hb).trans e) hn
  (a8 (dU L.lt O)) (.inr (e9 (ck L.sz O))) (λx c e=>let ⟨v,z⟩:=L.cell x c e;aA (dU z.lt O)) (λp hp=>BY _ _ (L.pin p hp).1)
 exact⟨.ref _,_,IY,rfl,qf⟩
variable {y:DG}{S:ao Nat}{t:Dt}{wk wv:De}
def QI{pos:Pos}(U:jU X N js sc)(gY:X.gY=true)(so:JY g y S)(mo:oY g)(L:qo S js=true)(hi:HV X tg iter wi)(O:∀ fp s H,PG (yz X N sc fp s H) tg g)
 (ht:∀ fp s H,yW (yz X N sc fp s H) ifs t) (hk:∀ fp s H,PD (yz X N sc fp s H) kx wk) (G:∀ fp s H,PD (yz X N sc fp s H) vx wv)
 (J:∀ x,foldedSetIterable iter X.env x=pure x:=by intro _;rfl):PD X (.DictComp kx vx [⟨tg,iter,ifs,0⟩] sc pos) (NH wi js y t wk wv):=(Lz U gY hi O ht hk G J).imp λσ H Q h=>KO so mo L h
end
def Vn(es:ao Int)(ts:ao Tk):Nat->ao Int
 |0=>es
 |b+1=>gL es ts b
def N1(es:ao Int)(ts:ao Tk):∀ b:Nat,lK es ts (Vn es ts b) (b:Int)=Vn es ts (b+1)
 |0=>zt es ts 0
 |b+1=>by show lK es ts (gL es ts b) ((b+1:Nat):Int)=gL es ts (b+1);rfl
def JL:∀ {b:Nat},(∀ t∈ts,(b:Int)<=t.2)->Vn es ts b=es
 |0,_=>rfl
 |b+1,h=>uF λt ht=>by have:=h t ht;lia
def jH(lo:Int)(n:Nat):kr lo (n+1)=.int lo::kr (lo+1) n:=by
 unfold kr;rw[List.range_succ_eq_map,aw,bx];congr 1
 .simp
 .refine bW λi _=>?_;show D.int (lo+((i+1:Nat):Int))=_;congr 1;lia
def nX{g:MS}(hm:∀(j:Nat) (m:MO),μ[j]?=some m->zu μ.length m):∀(j:Nat) (m:MO),j<μ.length->(μ++g)[j]?=some m->zu μ.length m:=λj m G e=>by rw[uO G]at e;exact hm j m e
def Dj(p:Tk->Bool)(g:Tk->D):D->aq D
 |.tup [.str z,.int a]=>if p (z.cps.toList,a)=true then some (g (z.cps.toList,a))else none
 |_=>none
def xM(p:Tk->Bool)(g:Tk->D)(t:Tk):Dj p g (mO t)=if p t=true then some (g t)else none:=rfl
theorem xQ(p:Tk->Bool)(g:Tk->D):∀ ts:ao Tk,(ts.map mO).filterMap (Dj p g)=(ts.filter p).map g
 |[]=>rfl
 | t::ts=>by
  rw[aw,cL,xM,dY];by_cases h:p t=true
  .rw[aB h,aB h,aw,xQ p g ts]
  .rw[aC h,aC h,xQ p g ts]
def Qb{p:Tk->Bool}{g:Tk->D}{t:Tk}{K:aq D->MS->Prop}(h:p t=true)(k:K (Dj p g (mO t)) μ):K (some (g t)) μ:=by rw[xM,aB h]at k;exact k
def Qc{p:Tk->Bool}{g:Tk->D}{t:Tk}{K:aq D->MS->Prop}(h:¬ p t=true)(k:K (Dj p g (mO t)) μ):K none μ:=by rw[xM,aC h]at k;exact k
def EZ{k:Nat}(h:zw μ k=some ds):V3 "list" μ (.mr k):=by show(match μ[k]? with|some (.lst _)=> "list" = "list" | some (.ka _ _)=> "list" = "dict" | _=>False);rw[mn h]
def FF{α:Type}(xs:ao α)(x:α):lS (xs++[x]) (-1)=some x:=by unfold lS Dm;rw[aC (by decide),aB (by rw[o4,bM];lia)];show(xs++[x])[((-1:Int)+((xs++[x]).length:Nat)).toNat]?=some x;rw[o4,bM,show((-1:Int)+((xs.length+1:Nat):Int)).toNat=xs.length by lia,pW (ar _),aY];rfl
def Qs{α:Type}(g:α->D)(xs:ao α)(f:Int->D)(h:∀(i:Nat) (x:α),xs[i]?=some x->f (i:Int)=g x):(kr 0 xs.length).filterMap (PU f)=xs.map g:=by
 rw[wc,He,bx];apply cD;intro i;rw[oC,oC];cases e:xs[i]? with
 | none =>have:=List.getElem?_eq_none_iff.mp e;rw[List.getElem?_eq_none_iff.mpr (by rw[tP];exact this)];rfl
 | some x =>have hi:=(kN e).1;rw[bo hi];show some (f (0+(i:Int)))=some (g x);rw[c6,h i x e]
def Jk(nd:es.Nodup){x:Int}(h:x∈es):∀ m,m<es.idxOf x->es[m]?≠some x:=λm J e=>by have G:=rl h;obtain⟨h1,e1⟩:=kN e;obtain⟨h2,e2⟩:=kN G;exact List.pairwise_iff_getElem.mp nd m _ h1 h2 J (e1.trans e2.symm)
def wj{bf:ao Int}{f m:Int}(hf:(jl es ts a)[i]?=some f)(hm:bf[i]?=some m):(lK es ts bf a)[i]?=some (max f (rowAt es bf m)):=by unfold lK;rw[bV,hf,hm]
def NI{b:Int}{v c:Nat}(ha:0<=a)(h1:a<=v)(h2:(v:Int)<b)(h:l[v]?=some c):c∈oE l a b:=by obtain⟨i,rfl⟩:=cI ha;obtain⟨j,rfl⟩:=cI (cF (Int.natCast_nonneg v) (dm h2));have h1:=Int.ofNat_le.mp h1;rw[x8];refine mR (i:=v - i) ?_;rw[bR (Nat.sub_lt_sub_right h1 (Int.ofNat_lt.mp h2)),da,Nat.add_sub_cancel' h1];exact h
def zO{b:Int}(G:OX l)(ha:0<=a)(hb:b<=l.length)(L:a<=b)(hm:b∈es)(h:120∉oE l a b):b<=jK es l a:=by
 have ct:=uX G (e:=a.toNat) (by lia);have J:b<=(sv l a.toNat:Int):=by
  by_cases q:b<=(sv l a.toNat:Int)
  .exact q
  .rcases ct.2.2.2 with z | z
   .lia
   .exact absurd (NI ha (by have:=ct.1;lia) (by lia) z) h
 exact(n8 _ a).2 b (List.mem_filter.mpr ⟨hm,aM J⟩)
def LY{n:Int}(S:iD n cs ts)(hb:iQ (fC n cs) ts=none){u v:Int}(hu:(fC n cs)[i]?=some u)(G:(fC n cs)[i+1]?=some v):∃ t∈ts,v<=jK (fC n cs) t.1 u:=by
 unfold iQ at hb;have W:(u,v)∈BX (fC n cs):=by have:=GJ (es:=fC n cs) (i:=i);rw[hu,G]at this;exact mR this
 have J:=List.find?_eq_none.mp hb _ W;unfold bad at J;rw[Bool.not_eq_true,List.all_eq_false]at J;obtain⟨t,ht,Y⟩:=J;have O:120∉oE t.1 u v:=by simpa using Y
 have ok:=S.takes.ok t ht;have L:=jx S.n1 S.jD (mR hu);have Z:=jx S.n1 S.jD (mR G);have U:=l6 (iK S.n1 S.jD) hu G (bG _);exact⟨t,ht,zO ok.2.1 L.1 (by lia) (by lia) (mR G) O⟩
def sX{e:Int}{t:Tk}(ht:t∈ts)(ha:t.2<=a):jK es t.1 e<=ky es ts a e:=by rw[lJ];exact(n8 _ e).2 _ (List.mem_map.mpr ⟨t,List.mem_filter.mpr ⟨ht,aM ha⟩,rfl⟩)
def nW{e:Int}(h:es[i]?=some e):(jl es ts a)[i]?=some (ky es ts a e):=by unfold jl;rw[oC,h];rfl
def K6:∀ {a i:Nat} {e:Int},es[i]?=some e->∃ x,(gL es ts a)[i]?=some x/\ky es ts a e<=x
 |0,i,e,h=>⟨_,nW h,bS _⟩
 | a+1,i,e,h=>by have hi:=(kN h).1;obtain⟨m,G⟩:∃ m,(gL es ts a)[i]?=some m:=⟨_,jo (by rw[(pC es ts a).len];exact hi)⟩;refine⟨_,wj (nW h) G,?_⟩;show ky es ts ((a:Int)+1) e<=_;lia
def Goes(es:ao Int)(row:ao Int)(k:Nat):Prop:=∀ i,i<es.length->∃ j,min (i+k) (es.length - 1)<=j/\j<es.length/\row[i]?=es[j]?
def wW(hu:es.Pairwise (·<·)){b:Int}(hi:es[i]?=some a)(G:es[j]?=some b)(h:a<=b):i<=j:=by
 by_cases q:i<=j
 .exact q
 .have:=l6 hu G hi (by lia);lia
def MQ{n:Int}(S:iD n cs ts)(hb:iQ (fC n cs) ts=none){a:Nat}(ha:∀ t∈ts,t.2<=(a:Int)):Goes (fC n cs) (gL (fC n cs) ts a) 1:=λi hi=>by
 have hu:=iK S.n1 S.jD;obtain⟨e,J⟩:∃ e,(fC n cs)[i]?=some e:=⟨_,jo hi⟩;obtain⟨x,L,W⟩:=K6 (ts:=ts) (a:=a) J;have U:=(pC (fC n cs) ts a).mem x (mR L);obtain⟨j,O,Y⟩:=aZ U;have G:(fC n cs)[j]?=some x:=by rw[jo O,Y]
 refine⟨j,?_,O,L.trans G.symm⟩;by_cases q:i+1<(fC n cs).length
 .obtain⟨v,hv⟩:∃ v,(fC n cs)[i+1]?=some v:=⟨_,jo q⟩;obtain⟨t,ht,Z⟩:=LY S hb J hv;have:=sX (es:=fC n cs) (e:=e) ht (ha t ht);have:=wW hu hv G (by lia);lia
 .have:=q9 (fC n cs) ts a e;have:=wW hu J G (by lia);lia
def UC(hu:es.Pairwise (·<·)){e:Int}(h:es[i]?=some e):es.idxOf e=i:=by have G:=mR h;have g:=rl G;have h1:=wW hu g h (bS _);have h2:=wW hu h g (bS _);lia
def MP{G q k L:Nat}(h1:min (i+k) L<=j)(g1:min (j+k) L<=G)(h:G<=q):min (i+(k+k)) L<=q:=by lia
def Ju{a k:Nat}(hu:es.Pairwise (·<·))(h:Goes es (gL es ts a) k):Goes es (gL es ts (a+1)) (k+k):=λi hi=>by
 obtain⟨j,h1,h2,h3⟩:=h i hi;obtain⟨Z,g1,g2,g3⟩:=h j h2;obtain⟨e,he⟩:∃ e,es[i]?=some e:=⟨_,jo hi⟩;obtain⟨m,O⟩:∃ m,es[j]?=some m:=⟨_,jo h2⟩;obtain⟨J,U⟩:∃ J,es[Z]?=some J:=⟨_,jo g2⟩;have nx:=wj (es:=es) (ts:=ts) (bf:=gL es ts a) (a:=(a:Int)+1) (nW he) (h3.trans O);have Y:rowAt es (gL es ts a) m=J:=by unfold rowAt;rw[UC hu O,g3,U];rfl
 rw[Y]at nx;have W:=(pC es ts (a+1)).mem _ (mR nx);obtain⟨q,L,eq⟩:=aZ W;have G:es[q]?=some (max (ky es ts ((a:Int)+1) e) J):=by rw[jo L,eq]
 refine⟨q,?_,L,nx.trans G.symm⟩;exact MP h1 g1 (wW hu U G (by lia))
theorem Dr{n:Int}{cs:ao Int}{ts:ao Tk}(S:iD n cs ts)(hb:iQ (fC n cs) ts=none){a:Nat}(ha:∀ t∈ts,t.2<=(a:Int)):∀ j:Nat,Goes (fC n cs) (gL (fC n cs) ts (a+j)) (2 ^ j)
 |0=>MQ S hb ha
 | j+1=>by have:=Ju (iK S.n1 S.jD) (Dr S hb ha j);rw[show 2 ^ (j+1)=2 ^ j+2 ^ j by rw[Nat.pow_succ];lia];exact this
def zG(n:Int)(cs:ao Int):(fC n cs)[(fC n cs).length - 1]?=some n:=by rw[gv];unfold fC;rw[show cs.length+2 - 1=(0::cs).length by simp];simp
structure gT (es:List Int)(ts:List Tk)(n:Int)(a:Nat):Prop where
 at_:(gL es ts a)[0]?=some n
 low:∀ b,b<a->(gL es ts b)[0]?≠some n
def gT.uniq{n:Int}{a b:Nat}(h:gT es ts n a)(g:gT es ts n b):a=b:=by
 rcases eZ a b with q|q|q
 .exact absurd h.at_ (g.low a q)
 .exact q
 .exact absurd g.at_ (h.low b q)
def Mh{n:Int}:∀ {m:Nat},(gL es ts m)[0]?=some n->∃ a,a<=m/\gT es ts n a:=by
 intro m;induction m using Nat.strongRecOn with
 | ind m G =>
  intro h;by_cases q:∃ b,b<m/\(gL es ts b)[0]?=some n
  .obtain⟨b,hb,e⟩:=q;obtain⟨a,h1,h2⟩:=G b hb e;exact⟨a,by lia,h2⟩
  .exact⟨m,ar _,h,λb hb e=>q ⟨b,hb,e⟩⟩
def xK{n:Int}(S:iD n cs ts)(hl:cs.length<=60)(hb:iQ (fC n cs) ts=none){a:Nat}(ha:∀ t∈ts,t.2<=(a:Int)):∃ x,x<=a+6/\gT (fC n cs) ts n x:=by
 refine Mh ?_;obtain⟨j,h1,h2,G⟩:=Dr S hb ha 6 0 (by rw[gv];lia);rw[G];have:j=(fC n cs).length - 1:=by rw[gv]at *;lia
 rw[this];exact zG n cs
def E4{n:Int}(S:iD n cs ts)(hl:cs.length<=60)(hb:iQ (fC n cs) ts=none):∃ x,x<=66/\gT (fC n cs) ts n x:=xK S hl hb (a:=60) λt ht=>(S.takes.ok t ht).2.2.2
def Dh{n:Int}(S:iD n cs ts){a:Nat}(h:gT (fC n cs) ts n a):k8 ts<=a:=by
 by_cases q:k8 ts<=a
 .exact q
 .have:=h.at_;rw[uF λt ht=>by have:=Cc t ht;lia]at this;have G:(fC n cs)[0]?=some 0:=rfl;rw[G]at this;have:=aN this;have:=S.n1;lia
def JM{n:Int}(S:iD n cs ts)(hb:iQ (fC n cs) ts=none):ts≠[]:=λe=>by obtain⟨u,hu⟩:∃ u,(fC n cs)[0]?=some u:=⟨_,jo (by rw[gv];lia)⟩;obtain⟨v,G⟩:∃ v,(fC n cs)[0+1]?=some v:=⟨_,jo (by rw[gv];lia)⟩;obtain⟨t,ht,_⟩:=LY S hb hu G;rw[e]at ht;cases ht
def sf(es:ao Int)(ts:ao Tk)(n:Int)(μ:MS)(K:DK):Prop:=match iQ es ts with
 |some _=>K .iz μ
 |none=>∀ a:Nat,a<=66->gT es ts n a->K (.int a) μ
def A5:jZ:=λds μ K=>match ds with
 |[.int n,x,y]=>∃(cs:ao Int) (ts:ao Tk),lv μ x=some (cs.map D.int)/\lv μ y=some (ts.map mO)/\iD n cs ts/\cs.length<=60/\sf (fC n cs) ts n μ K
 |_=>False
def wD:jZ:=λds μ K=>match ds with
 |[.lst b,y]=>∃(n:Int) (cs:ao Int) (ts:ao Tk),b=(fC n cs).map D.int/\lv μ y=some (ts.map mO)/\iD n cs ts/\cs.length<=60/\sf (fC n cs) ts n μ K
 |_=>False
def nLf{K:DK}(h:K (.lst ds) μ):nL false ds μ K:=h
def M8{e G:Int}(J:OX l)(h0:0<=e)(W:e<=G)(Zc:G<=l.length)(hm:e∈es):jK es l e<=jK es l G:=by
 have L:=uX J (e:=e.toNat) (by lia);have O:=uX J (e:=G.toNat) (by lia);have Y:=Hn es l G;have Z:=xT (es:=es) (l:=l) hm;obtain⟨t,ht,_,U,_⟩:=Hm (es:=es) J h0 (by lia) hm;have et:=ht.uniq L;subst et;by_cases q:jK es l e<=G
 .lia
 .have hc:sv l e.toNat<=sv l G.toNat:=by
   by_cases z:sv l e.toNat<=sv l G.toNat
   .exact z
   .rcases O.2.2.2 with y | y
    .have:=L.2.1;lia
    .have:=L.2.2.1 (sv l G.toNat) (by have:=O.1;lia) (by lia);rw[y]at this;cases this
  exact(n8 _ G).2 _ (List.mem_filter.mpr ⟨Z,aM (by lia)⟩)
def LH{n:Int}{e J:Int}(T:zX n ts)(h0:0<=e)(O:e<=J)(U:J<=n)(hm:e∈es):ky es ts a e<=ky es ts a J:=by
 have ge:=q9 es ts a J;rw[lJ es ts a e];rcases lN ((ts.filter λt=>decide (t.2<=a)).map λt=>jK es t.1 e) e with q|q
 .rw[q];lia
 .obtain⟨t,ht,e1⟩:=List.mem_map.mp q;obtain⟨G,L⟩:=List.mem_filter.mp ht;rw[<- e1];have ok:=T.ok t G;have:=M8 ok.2.1 h0 O (by lia) hm;have:=sX (es:=es) (e:=J) G (cC L);lia
def SH(row:ao Int):Prop:=∀(i j:Nat) (a b:Int),i<=j->row[i]?=some a->row[j]?=some b->a<=b
def y7(hu:es.Pairwise (·<·)):SH es:=λi j a b h hi G=>by
 rcases Nat.lt_or_ge i j with q|q
 .exact dm (l6 hu hi G q)
 .have:i=j:=by lia
  subst this
  rw[hi]at G;cases G;exact bS _
def IK{n:Int}(S:iD n cs ts):SH (jl (fC n cs) ts a):=λi j x y h hi G=>by
 unfold jl at hi G;rw[oC]at hi G;cases e1:(fC n cs)[i]? with
 |none=>rw[e1]at hi;cases hi
 | some u =>
  cases e2:(fC n cs)[j]? with
  |none=>rw[e2]at G;cases G
  | some v =>rw[e1]at hi;rw[e2]at G;cases hi;cases G;have hu:=jx S.n1 S.jD (mR e1);have J:=jx S.n1 S.jD (mR e2);exact LH S.takes hu.1 (y7 (iK S.n1 S.jD) i j u v h e1 e2) J.2 (mR e1)
def Q3(es:ao Int)(x:Int):((es.map D.int).any λd=>mX d (.int x))=decide (x∈es):=by
 induction es with
 |nil=>rfl
 | cons e es G =>
  rw[aw,dr,G];have:mX (.int e) (.int x)=decide (e=x):=by unfold mX;rfl
  rw[this];by_cases h:e=x
  .simp[h]
  .have:¬ x=e:=λz=>h z.symm;simp[h,this]
def MY(es:ao Int):(es.map D.int).all pH=true:=by rw[List.all_map,c7];intro x _;rfl
def Q2{α:Type}{xs:ao α}{x:α}(h:xs[xs.length - 1]?=some x):lS xs (-1)=some x:=by
 have hl:=(kN h).1;have e:xs=xs.dropLast++[x]:=by
  have G:xs≠[]:=λe=>by rw[e]at hl;simp at hl
  have:=List.dropLast_concat_getLast G;rw[List.getLast_eq_getElem]at this;rw[jo hl]at h;rw[aN h]at this;exact this.symm
 rw[e];exact D4 _ _
theorem m9{α:Type}{it:D->MS->(aq D->MS->Prop)->Prop}{c:MS->Prop}{μ:MS}(G:c μ)(g:α->D)(f:α->aq D):∀ {xs:ao α} {K:ao D->MS->Prop},(∀ x∈xs,∀(J:aq D->MS->Prop),J (f x) μ->it (g x) μ J)->K (xs.filterMap f) μ->qG it c (xs.map g) μ K
 |[],K,_,k=>⟨G,k⟩
 | x::xs,K,h,k=>⟨G,h x aF _ (m9 G g f (λy L=>h y (nM _ L)) (by
  cases e:f x with
  |none=>rw[List.filterMap_cons_none e]at k;exact k
  |some y=>rw[List.filterMap_cons_some e]at k;exact k))⟩
def kH{α:Type}{it:D->MS->(aq D->MS->Prop)->Prop}{c:MS->Prop}(J:c μ)(g f:α->D){xs:ao α}{K:ao D->MS->Prop}(h:∀ x∈xs,∀(G:aq D->MS->Prop),G (some (f x)) μ->it (g x) μ G)(k:K (xs.map f) μ):qG it c (xs.map g) μ K:=by refine m9 J g (λx=>some (f x)) h ?_;rw[List.filterMap_eq_map'];exact k
def nE{α:Type}{g:α->D}{xs:ao α}{k:Nat}{x:α}(h:xs[k]?=some x):lS (xs.map g) (k:Int)=some (g x):=j8 h
def jE.le{k:Nat}{A:Around}(r:jE k A)(h:j<=k:=by first|decide|exact ar _|lia):jE j A:=r.mono h
def lo(h:Loc sc x:=by first|exact Or.inl rfl|exact Or.inr rfl):Loc sc x:=h
section
variable {X:Cx}
def Le:ao V->Hp->VK->Prop:=λvs H Q=>match vs with
 |[.ref p]=>∃ ns:ao Int,H p=some (.lst (ns.map V.int))/\ns≠[]/\∀ m,m∈ns->(∀ x∈ns,m<=x)->Q (.int m) H
 |_=>False
def W2(hc:X.gY=true):jM X (.builtin "min") Le:=by
 intro fE s σ H vs us Q I Z h;unfold Le at h;split at h
 .rename_i p;obtain⟨ns,hp,G6,q⟩:=h;obtain⟨u,rfl,ru⟩:=Z.one;cases ru;obtain⟨z,J,n,r,hl,e⟩:=I.mQ hp;have W:s.heap.IsList p J.toArray:=⟨_,e,rfl,n,rfl⟩;have lt:p≠s.heap.objs.size:=aA (jf e);have len:J.toArray.size=ns.length:=by rw[aD,<- hl,iE]
  have pos:0<ns.length:=List.length_pos_iff.mpr G6;have val:∀ i v,J.toArray[i]?=some v->∃ t,i<ns.length/\v=.int (ns.getD i 0) t:=λi v L=>by
   have U:J[i]?=some v:=by simpa using L
   cases G:(ns.map V.int)[i]? with
   |none=>have:=r.none_of G;rw[U]at this;cases this
   | some y =>
    obtain⟨u,hu,Y⟩:=r.get G;rw[U]at hu;cases hu;rw[oC]at G;cases e2:ns[i]? with
    |none=>rw[e2]at G;cases G
    | some b =>rw[e2]at G;cases G;obtain⟨t,rfl⟩:=Y;exact⟨t,(kN e2).1,by rw[av,e2];rfl⟩
  refine call_min_walk (dk W ⟨_,_,_,_,_,_,λi j=>decide (ns.getD i 0<ns.getD j 0),rfl,Walks.list (A:=X.A.in1) (I.ok.hd hc) s.heap.objs.size p lt J.toArray,⟨⟨_,aE _ rfl,rfl,rfl⟩,W.push _⟩,?_,by rw[len];exact pos,?_,λv h' tk L kp=>?_⟩)
  .intro b hb;simp only[aO,aH,bN]at hb;show b<(s.heap.push _).objs.size;rw[bg];rcases hb with rfl|rfl
   .exact bG _
   .exact aV (jf e)
  .intro i j vi vj s' Q' E' hi hj hq;obtain⟨t,_,rfl⟩:=val i vi hi;obtain⟨t',_,rfl⟩:=val j vj hj;exact lt_int hq
  .have I2:Inv X fE σ H { s with heap:=h',toks:=tk}:=I.jk λb o O=>kp b o (by simpa using aA (jf O)) (j4 _ O);rw[len]at L;obtain⟨t,mW,rfl⟩:=val _ v L;obtain⟨b1,b2⟩:=wR ns (ns.length - 1) (by lia);refine⟨.int _,H,I2,⟨t,rfl⟩,q _ ?_ λx hx=>?_⟩
   .rw[av,jo mW];exact bI _
   .obtain⟨j,hj,ej⟩:=aZ hx;have:=b2 j (by lia);rw[av (i:=j),jo hj,ej]at this;exact this
 .cases h
end
def Sh:jZ:=λds μ K=>match ds with
 |[x]=>∃ ns:ao Int,lv μ x=some (ns.map D.int)/\ns≠[]/\∀ m,m∈ns->(∀ y∈ns,m<=y)->K (.int m) μ
 |_=>False
def Gu:oG Le Sh:=λφ H vs ds μ K Q M h k L=>by
 unfold Sh at k;split at k
 .obtain⟨v,r,rfl,h1,h2⟩:=h;cases(show r=[]from h2);obtain⟨ns,O,J,k⟩:=k;obtain⟨p,vs,rfl,G,ha⟩:=kz M h1 O;exact⟨ns,by rw[G,ha.ints],J,λm a b=>L.val M (k m a b) rfl⟩
 .exact k.elim
def jd(L:Nat)(f:Nat->Int):ao D:=(List.range L).map λj=>D.int (f j)
def j0(L:Nat)(T:Nat->Nat->Int):ao D:=(List.range L).map λi=>D.lst (jd L (T i))
def xH:ao Int->Int
 |[]=>0
 |x::r=>r.foldl min x
def L8{m:Int}(h1:m∈ns)(h2:∀ y∈ns,m<=y):m=xH ns:=by
 cases ns with
 |nil=>cases h1
 | cons x r =>
  obtain⟨a,b,c⟩:=kZ r x;show m=r.foldl min x;have J:r.foldl min x<=m:=by
   rcases List.mem_cons.mp h1 with q|q
   .rw[q];exact b
   .exact c m q
  have G:m<=r.foldl min x:=by
   rcases a with q|q
   .rw[q];exact h2 x aF
   .exact h2 _ (nM _ q)
  lia
def rg(h:ns≠[]):xH ns∈ns/\∀ y∈ns,xH ns<=y:=by
 cases ns with
 |nil=>exact absurd rfl h
 | cons x r =>
  obtain⟨a,b,c⟩:=kZ r x;refine⟨?_,λy G=>?_⟩
  .rcases a with q | q
   .show r.foldl min x∈_;rw[q];exact aF
   .exact nM _ q
  .rcases List.mem_cons.mp G with q | q
   .rw[q];exact b
   .exact c y q
def kK(T:Nat->Nat->Int)(i j:Nat):ao Int:=(List.range (j - (i+1))).filterMap λx=>if 0<T i (i+1+x)*T (i+1+x) j then some (T i (i+1+x)+T (i+1+x) j)else none
def kW{T:Nat->Nat->Int}{v:Int}:v∈kK T i j↔∃ k,i<k/\k<j/\0<T i k*T k j/\v=T i k+T k j:=by
 unfold kK;rw[List.mem_filterMap];constructor
 .rintro⟨x,hx,e⟩;rw[cj]at hx;split at e
  .cases e;exact⟨i+1+x,by lia,by lia,by assumption,rfl⟩
  .cases e
 .rintro⟨k,h1,h2,h3,rfl⟩;refine⟨k - (i+1),List.mem_range.mpr (by lia),?_⟩;rw[show i+1+(k - (i+1))=k by lia,aB h3]
def kb(es own:ao Int)(T:Nat->Nat->Int)(i j:Nat):Int:=if j<=i then 0 else if es.getD j 0<=own.getD i 0 then 1 else xH (kK T i j)
def kP(es:ao Int)(ts:ao Tk):Nat->Nat->Nat->Int
 |0=>λ_ _=>0
 |a+1=>kb es (jl es ts a) (kP es ts a)
def OR{own:ao Int}{T:Nat->Nat->Int}(h:∀ i j,0<=T i j/\T i j<=((j - i:Nat):Int))(i j:Nat):0<=kb es own T i j/\kb es own T i j<=((j - i:Nat):Int):=by
 unfold kb;split
 .lia
 .split
  .lia
  .by_cases hn:kK T i j=[]
   .rw[hn];show(0:Int)<=0/\(0:Int)<=_;lia
   .obtain⟨k,h1,h2,h3,e⟩:=kW.mp (rg hn).1;rw[e];have a:=h i k;have b:=h k j;lia
theorem wY(es:ao Int)(ts:ao Tk):∀ a i j,0<=kP es ts a i j/\kP es ts a i j<=((j - i:Nat):Int)
 |0,i,j=>by show(0:Int)<=0/\(0:Int)<=_;lia
 |a+1,i,j=>OR (wY es ts a) i j
def t9:jZ:=λds μ K=>match ds with
 |[.lst b,.lst o,.lst l]=>∃(es own:ao Int) (T:Nat->Nat->Int),b=es.map D.int/\o=own.map D.int/\own.length=es.length/\es≠[]/\es.length<=2000/\((l=[]/\T=λ_ _=>0)\/l=j0 es.length T)/\(∀ i j,0<=T i j/\T i j<=((j - i:Nat):Int))/\K (.lst (j0 es.length (kb es own T))) μ
 |_=>False
def Hr:jZ:=λds μ K=>match ds with
 |[.lst b,y,.int a]=>∃(n:Int) (cs:ao Int) (ts:ao Tk),b=(fC n cs).map D.int/\lv μ y=some (ts.map mO)/\iD n cs ts/\0<=a/\a<=1000/\K (.int (kP (fC n cs) ts (a.toNat+1) 0 (cs.length+1))) μ
 |_=>False
def j5(S:Nat->Nat->Int)(i j:Nat)(a b:Nat):Int:=if a<i\/(a=i/\b<j)then S a b else 0
def lA(L:Nat)(T:Nat->Nat->Int)(g:MS):Prop:=g.length=L/\∀ a,a<L->g[a]?=some (.lst (jd L (T a)))
def kR{L:Nat}{f:Nat->Int}(h:j<L):(jd L f)[j]?=some (.int (f j)):=by unfold jd;rw[oC,bo h];rfl
def nq(L:Nat)(f:Nat->Int):(jd L f).length=L:=by unfold jd;rw[iE,tP]
def mF{L:Nat}{T:Nat->Nat->Int}(h:j<L):(j0 L T)[j]?=some (.lst (jd L (T j))):=by unfold j0;rw[oC,bo h];rfl
def lG(L:Nat)(f:Nat->Nat->Int):(j0 L f).length=L:=by unfold j0;rw[iE,tP]
def K8{L:Nat}{f:Nat->Int}{v:Int}(h:j<L):(jd L f).set j (.int v)=jd L (λb=>if b=j then v else f b):=by
 apply cD;intro b;by_cases hb:b<L
 .rw[kR hb];by_cases e:b=j
  .subst e;rw[aG (by rw[nq];exact h),aB rfl]
  .rw[aJ (bj e),kR hb,aC e]
 .rw[List.getElem?_eq_none_iff.mpr (by rw[bL,nq];lia),List.getElem?_eq_none_iff.mpr (by rw[nq];lia)]
def oN{L:Nat}{f g:Nat->Int}(h:∀ j,j<L->f j=g j):jd L f=jd L g:=by unfold jd;exact bW λj G=>by rw[h j (List.mem_range.mp G)]
def lA.ext{L:Nat}{T G:Nat->Nat->Int}{g:MS}(h:lA L T g)(e:∀ i j,i<L->j<L->T i j=G i j):lA L G g:=⟨h.1,λa ha=>by rw[h.2 a ha,oN (λj J=>e a j ha J)]⟩
def lA.put{L:Nat}{T:Nat->Nat->Int}{g:MS}(h:lA L T g)(hi:i<L)(G:j<L)(v:Int):lA L (λa b=>if a=i/\b=j then v else T a b) (g.set i (.lst ((jd L (T i)).set j (.int v)))):=by
 refine⟨by rw[bL];exact h.1,λa ha=>?_⟩;by_cases e:a=i
 .subst e;rw[aG (by rw[h.1];exact hi),K8 G];congr 2;apply oN;intro b _;simp
 .rw[aJ (bj e),h.2 a ha];congr 2;apply oN;intro b _;simp[e]
def Ap{g:MS}:(μ++g).set (μ.length+i) m=μ++g.set i m:=by rw[dN _ _ (by lia),Nat.add_sub_cancel_left]
def Mc{g:MS}(h:g[i]?=some (.lst ds)):zw (μ++g) (μ.length+i)=some ds:=AS (by rw[pW (by lia),Nat.add_sub_cancel_left];exact h)
theorem xF{n:Nat}:∀ {ds:ao D},(∀ d∈ds,GZ n d)->tx n ds
 |[],_=>by unfold tx;trivial
 |d::ds,h=>by unfold tx;exact⟨h d aF,xF λx G=>h x (nM _ G)⟩
def GY(L:Nat)(f:Nat->Int):GZ n (.lst (jd L f)):=xF λd hd=>by obtain⟨i,_,rfl⟩:=List.mem_map.mp hd;exact trivial
def PL(L:Nat)(f:Nat->Nat->Int):GZ n (.lst (j0 L f)):=xF λd hd=>by obtain⟨i,_,rfl⟩:=List.mem_map.mp hd;exact GY L _
def OW(L:Nat)(f:Nat->Int)(h:L<=100000):oq (n+1) (.lst (jd L f)):=Eu (by rw[nq];exact h) λd hd=>by obtain⟨i,_,rfl⟩:=List.mem_map.mp hd;exact Al
def Gw(L:Nat)(f:Nat->Nat->Int)(h:L<=100000):oq (n+2) (.lst (j0 L f)):=Eu (by rw[lG];exact h) λd hd=>by obtain⟨i,_,rfl⟩:=List.mem_map.mp hd;exact OW L _ h
def ux.self{R:D->D->Prop}(h:∀ d∈ds,R d d):ux R ds ds:=⟨rfl,λi a b e1 e2=>by rw[e1]at e2;cases e2;exact h a (mR e1)⟩
def Qq{L:Nat}{T:Nat->Nat->Int}{g:MS}(G:n=μ.length)(h:lA L T g):BK n (μ++g) 2 (.lst ((List.range L).map λi=>.mr (n+i))) (.lst (j0 L T)):=by
 refine .inr (.inr (.inl ⟨_,_,rfl,rfl,by rw[iE,tP,lG],λi a b e1 e2=>?_⟩));have hi:i<L:=by have:=(kN e2).1;rwa [lG]at this
 rw[mF hi]at e2;rw[oC,bo hi]at e1;cases e1;cases e2;refine .inr (.inl ⟨n+i,_,_,rfl,by lia,by rw[G];exact mn (Mc (h.2 i hi)),rfl,ux.self λd hd=>?_⟩);obtain⟨j,_,rfl⟩:=List.mem_map.mp hd;exact⟨rfl,trivial⟩
inductive j9 where
 |num (n:Int)
 |p9 (p:Int) (l r:j9)
def wq:j9->D
 |.num n=>.int n
 |.p9 p l r=>.tup [.int p,wq l,wq r]
def j9.cnt:j9->Nat
 |.num _=>1
 |.p9 _ l r=>l.cnt+r.cnt
def j9.dep:j9->Nat
 |.num _=>0
 |.p9 _ l r=>max l.dep r.dep+1
def j9.ok(cs:ao Int)(m:Nat):j9->Prop
 |.num n=>0<=n/\n<m
 |.p9 p l r=>p∈cs/\l.ok cs m/\r.ok cs m
theorem j9.Bj:∀ t:j9,0<t.cnt
 |.num _=>by show 0<1;decide
 |.p9 _ l r=>by have:=l.Bj;show 0<l.cnt+r.cnt;lia
def qx(a b:Tk)(p:Int):Tk:=(a.1.take p.toNat++b.1.drop p.toNat,max a.2 b.2+1)
def j9.val(ts:ao Tk):j9->Tk
 |.num n=>(ts[n.toNat]?).getD ([],0)
 |.p9 p l r=>qx (l.val ts) (r.val ts) p
def BE(n:Int)(t:Tk):Prop:=(t.1.length:Int)=n/\0<=t.2
def Qd{n:Int}{a b:Tk}{p:Int}(ha:BE n a)(hb:BE n b):BE n (qx a b p):=by
 refine⟨?_,?_⟩
 .show((a.1.take p.toNat++b.1.drop p.toNat).length:Int)=n;rw[o4,bH,bD];have:=ha.1;have:=hb.1;lia
 .show 0<=max a.2 b.2+1;have:=ha.2;lia
theorem j9.o6{n:Int}{ts:ao Tk}{cs:ao Int}(ht:∀ t∈ts,BE n t):∀ {t:j9},t.ok cs ts.length->BE n (t.val ts)
 | .num k,h=>by obtain⟨x,G⟩:∃ x,ts[k.toNat]?=some x:=⟨_,jo (by have:=h.1;have:=h.2;lia)⟩;show BE n ((ts[k.toNat]?).getD ([],0));rw[G];exact ht x (mR G)
 |.p9 p l r,h=>Qd (o6 ht h.2.1) (o6 ht h.2.2)
def W0:j9->Bool
 |.p9 _ _ _=>true
 |.num _=>false
def Zk:jZ:=λds μ K=>match ds with
 |[.tup [.str z,.int a],.tup [.str y,.int b],.int p]=>∃ x u:Tk,z=txt x.1/\a=x.2/\y=txt u.1/\b=u.2/\0<=p/\x.1.length<=1000/\u.1.length<=1000/\K (mO (qx x u p)) μ
 |_=>False
def abj:jZ:=λds μ K=>match ds with
 |[.lst y,.int p]=>∃ cs:ao Int,y=cs.map D.int/\p∈cs/\K (.int p) μ
 |_=>False
def uQ(n:Nat):jZ:=λds μ K=>match ds with
 |[.mr k,.int m,.lst c,.int d]=>μ[k]?=some .box/\0<m/\m<=1000/\∃ cs:ao Int,c=cs.map D.int/\cs.length<=1000/\0<=d/\d<=n/\∀ t:j9,t.ok cs m.toNat->t.dep<=d.toNat->t.cnt<=2 ^ d.toNat->K (wq t) μ
 |_=>False
theorem ET{n:Nat}:∀ t:j9,GZ n (wq t)
 |.num _=>trivial
 |.p9 p l r=>⟨trivial,ET l,ET r,trivial⟩
def Qt(f:Nat->jZ):Nat->jZ
 |0=>λ_ _ _=>False
 |n+1=>f n
def O0{x y:MO}:(μ++[x,y]).set μ.length m=μ++[m,y]:=by have:=Ap (μ:=μ) (g:=[x,y]) (i:=0) (m:=m);rwa [Nat.add_zero]at this
def Gd(t:j9)(μ:MS):YN (wq t) μ=some (if W0 t then "tuple" else "int"):=by cases t<;>rfl
def j9.z6{n:Int}{x:Tk}(h:ts[n.toNat]?=some x):(j9.num n).val ts=x:=by show(ts[n.toNat]?).getD ([],0)=x;rw[h];rfl
def OF{a b:Nat}(h1:a<=2 ^ n)(h2:b<=2 ^ n):a+b<=2 ^ (n+1):=by rw[Nat.pow_succ];lia
abbrev qP(h:Heap)(z TI TO:ai)(f:ak)(bb:Bool):Prop:=h.get? z=some { cls:=.type "zip",dict:=none,data:=.fields #[f,.bool bb,.bool false,.ref TI,.ref TO],slots:=#[]}
structure ZG (z TI TO i1 i2 l1 l2:ai)(f:ak)(bb:Bool)(a b:ak)(k1 k2:Nat)(xs ys:Array ak)(h:Heap):Prop where
 z:qP h z TI TO f bb
 ti:IsPair h TI (.ref i1) (.ref i2)
 to:IsPair h TO a b
 n1:lj false h i1 l1 k1
 n2:lj false h i2 l2 k2
 q1:lE false h l1 xs
 q2:lE false h l2 ys
section
variable {z TI TO i1 i2 l1 l2:ai}{f f' a b x y:ak}{bb bb':Bool}{k1 k2:Nat}{xs ys:Array ak}{h h':Heap}
def ZG.mz(S:ZG z TI TO i1 i2 l1 l2 f bb a b k1 k2 xs ys h)(D:ZipApart z TI TO i1 i2 l1 l2)(e:qP h' z TI TO f' bb')(k:Heap.ExtBut z h h'):ZG z TI TO i1 i2 l1 l2 f' bb' a b k1 k2 xs ys h' :=
 ⟨e,k _ _ D.TIz S.ti,k _ _ D.TOz S.to,S.n1.extBut k D.i1z,S.n2.extBut k D.i2z,S.q1.extBut k D.l1z,S.q2.extBut k D.l2z⟩
def ZG.m1(S:ZG z TI TO i1 i2 l1 l2 f bb a b k1 k2 xs ys h)(D:ZipApart z TI TO i1 i2 l1 l2)(e:lj false h' i1 l1 j)(k:Heap.ExtBut i1 h h'):ZG z TI TO i1 i2 l1 l2 f bb a b j k2 xs ys h' :=
 ⟨k _ _ D.i1z.symm S.z,k _ _ D.TIi1 S.ti,k _ _ D.TOi1 S.to,e,S.n2.extBut k D.i12.symm,S.q1.extBut k D.l1i1,S.q2.extBut k D.l2i1⟩
def ZG.m2(S:ZG z TI TO i1 i2 l1 l2 f bb a b k1 k2 xs ys h)(D:ZipApart z TI TO i1 i2 l1 l2)(e:lj false h' i2 l2 j)(k:Heap.ExtBut i2 h h'):ZG z TI TO i1 i2 l1 l2 f bb a b k1 j xs ys h' :=
 ⟨k _ _ D.i2z.symm S.z,k _ _ D.TIi2 S.ti,k _ _ D.TOi2 S.to,S.n1.extBut k D.i12,e,S.q1.extBut k D.l1i2,S.q2.extBut k D.l2i2⟩
def ZG.mo(S:ZG z TI TO i1 i2 l1 l2 f bb a b k1 k2 xs ys h)(D:ZipApart z TI TO i1 i2 l1 l2)(e:IsPair h' TO x y)(k:Heap.ExtBut TO h h'):ZG z TI TO i1 i2 l1 l2 f bb x y k1 k2 xs ys h' :=
 ⟨k _ _ D.TOz.symm S.z,k _ _ D.TITO S.ti,e,S.n1.extBut k D.TOi1.symm,S.n2.extBut k D.TOi2.symm,S.q1.extBut k D.l1TO,S.q2.extBut k D.l2TO⟩
def ZG.push(S:ZG z TI TO i1 i2 l1 l2 f bb a b k1 k2 xs ys h)(o:Obj):ZG z TI TO i1 i2 l1 l2 f bb a b k1 k2 xs ys (h.push o) :=
 ⟨j4 _ S.z,j4 _ S.ti,j4 _ S.to,S.n1.at λ_ e=>j4 _ e,S.n2.at λ_ e=>j4 _ e,
  S.q1.extBut (b:=h.objs.size) (λ_ _ _ e=>j4 _ e) (S.q1.lt),S.q2.extBut (b:=h.objs.size) (λ_ _ _ e=>j4 _ e) (S.q2.lt)⟩
end
section
variable {prog:ae}{w:af}{A:Around}{E:ak->ah->Prop}{s:ah}
variable {z TI TO i1 i2 l1 l2:ai}{k1 k2:Nat}{xs ys:Array ak}{x y a b f:ak}{bb:Bool}
def Hc{Q:Bool->ah->Prop}(hz:qP s.heap z TI TO f bb)(hf:f=.none\/∃ T0:ai,f=rawInt T0/\s.heap.get? T0=none)(q:Q true s):wpAny (model prog w) A (Builtin.SmallTypes.ownedTupleIsFree (.ref z)) Q E s:=by
 rcases hf with rfl|⟨T0,rfl,hd⟩
 .exact fV (aI hz rfl (x:=.none) rfl (au q))
 .refine fV (aI hz rfl (x:=rawInt T0) rfl ?_);show wpAny _ _ (loadIfAlive T0>>=_) _ _ s;refine fV (nP ?_);rw[hd];exact au q
def HP{Q:Bool->ah->Prop}(hz:qP s.heap z TI TO (rawInt T0) bb)(hd:s.heap.get? T0=some o)(q:∀ g,qP g z TI TO (rawInt T0) true->Heap.SameBut z s.heap g->Q false { s with heap:=g}):wpAny (model prog w) A (Builtin.SmallTypes.ownedTupleIsFree (.ref z)) Q E s:=by
 refine fV (aI hz rfl (x:=rawInt T0) rfl ?_);show wpAny _ _ (loadIfAlive T0>>=_) _ _ s;refine fV (nP ?_);rw[hd];show wpAny _ _ (field (.ref z) 1>>=_) _ _ s;refine fV (aI hz rfl (x:=.bool bb) rfl ?_);cases bb with
 |true=>exact au (q s.heap hz ⟨rfl,λ_ _=>rfl⟩)
 |false=>exact fV (a6 hz (by simp) λg e t=>au (q g e t))
def Ga(D:ZipApart z TI TO i1 i2 l1 l2)(S:ZG z TI TO i1 i2 l1 l2 f bb a b k1 k2 xs ys s.heap)(hf:f=.none\/∃ T0:ai,f=rawInt T0/\s.heap.get? T0=none)(hx:xs[k1]?=some x)(hy:ys[k2]?=some y)
 (hQ:∀ h',ZG z TI TO i1 i2 l1 l2 (rawInt s.heap.objs.size) false x y (k1+1) (k2+1) xs ys h'->IsPair h' s.heap.objs.size x y->h'.objs.size=s.heap.objs.size+1->ZK z TO i1 i2 s.heap h'->Q (.ref s.heap.objs.size) {s with heap:=h'}):
 wpAny (model prog w) A (Builtin.«zip.__next__» ⟨[.ref z],[]⟩) (λfin s'=>∃ v,fin=.done (.ret v)/\Q v s') E s:=by
 refine fV (au (fV (aI S.z rfl (x:=.bool false) rfl (fV (aI S.z rfl (x:=.ref TI) rfl (fV (bc S.ti rfl ?_)))))));refine fV (m:=Builtin.SmallTypes.ownedTupleIsFree (.ref z)) (Hc S.z hf ?_);refine fV (dA (fV (aI S.z rfl (x:=.ref TO) rfl (fV (a6 S.z (by simp) λg1 e1 t1=>?_)))));have S1:=S.mz D (f':=.ellipsis) (bb':=bb) e1 t1.extBut;refine fV ?_;rw[show(#[Value.ref i1,Value.ref i2]:Array ak).toList.zipIdx=[(.ref i1,0),(.ref i2,1)]from rfl,bF];refine fV (fV (cQ (fV (i9 S1.n1 S1.q1 hx λg2 e2 Z=>au ?_))));have S2:=S1.m1 D e2 Z.extBut;refine fV (bc S2.to rfl (fV (cU S2.to λg3 e3 Y=>fV (cV (au ?_)))));have S3:=S2.mo D (x:=x) (y:=b) e3 Y.extBut;dsimp only;rw[bF];refine fV (fV (cQ (fV (i9 S3.n2 S3.q2 hy λg4 e4 W=>au ?_))));have S4:=S3.m2 D e4 W.extBut;refine fV (bc S4.to rfl (fV (cU S4.to λG e5 U=>fV (cV (au ?_)))));have S5:=S4.mo D (x:=x) (y:=y) e5 U.extBut;dsimp only;rw[dQ];have sz:G.objs.size=s.heap.objs.size:=U.1.trans (W.1.trans (Y.1.trans (Z.1.trans t1.1)));refine au (fV (bc S5.to rfl (fV (eT ?_))));have S6:=S5.push { cls:=.type "tuple",data:=.seq #[x,y]};refine fV (m:=Builtin.SmallTypes.ownedTupleHandOut (.ref z) (.ref G.objs.size)) (fV (a6 S6.z (by simp) λg7 e7 L=>?_));have S7:=S6.mz D (f':=rawInt G.objs.size) (bb':=bb) e7 L.extBut;refine a6 S7.z (by simp) λO e8 J=>?_;have S8:=S7.mz D (f':=rawInt G.objs.size) (bb':=false) e8 J.extBut;have SK:G.objs.size≠z:=a8 (jf S5.z);have hT:IsPair O G.objs.size x y:=J.extBut _ _ SK (L.extBut _ _ SK (aE _ rfl));have z8:O.objs.size=s.heap.objs.size+1:=by rw[J.1,L.1,bg,sz]
 have kk:ZK z TO i1 i2 s.heap O:=((((((om t1.extBut).trans (vN Z.extBut)).trans (Ie Y.extBut)).trans (B7 W.extBut)).trans (Ie U.extBut)).trans (λd o _ _ _ _ e=>j4 _ e)).trans ((om L.extBut).trans (om J.extBut));rw[sz]at S8 hT;refine au ⟨_,rfl,?_⟩;show Q (.ref G.objs.size) _;rw[sz];exact hQ O S8 hT z8 kk
def Ox(D:ZipApart z TI TO i1 i2 l1 l2)(S:ZG z TI TO i1 i2 l1 l2 (rawInt T0) bb a b k1 k2 xs ys s.heap)(hd:s.heap.get? T0=some o)(hx:xs[k1]?=some x)(hy:ys[k2]?=some y)
 (hQ:∀ h',ZG z TI TO i1 i2 l1 l2 (rawInt T0) true a b (k1+1) (k2+1) xs ys h'->IsPair h' s.heap.objs.size x y->h'.objs.size=s.heap.objs.size+1->ZK z TO i1 i2 s.heap h'->Q (.ref s.heap.objs.size) {s with heap:=h'}):
 wpAny (model prog w) A (Builtin.«zip.__next__» ⟨[.ref z],[]⟩) (λfin s'=>∃ v,fin=.done (.ret v)/\Q v s') E s:=by
 refine fV (au (fV (aI S.z rfl (x:=.bool false) rfl (fV (aI S.z rfl (x:=.ref TI) rfl (fV (bc S.ti rfl ?_)))))));refine fV (m:=Builtin.SmallTypes.ownedTupleIsFree (.ref z)) (HP S.z hd λg1 e1 O=>?_);have W:=S.mz D (bb':=true) e1 O.extBut;show wpAny _ _ (forIn (#[Value.ref i1,Value.ref i2]:Array ak) (none,#[]) _>>=_) _ _ _;rw[<- eL];refine fV ?_;rw[show(#[Value.ref i1,Value.ref i2]:Array ak).toList=[.ref i1,.ref i2]from rfl,bF];refine fV (fV (bB (fV (i9 (s:={s with heap:=g1}) W.n1 W.q1 hx λg2 e2 L=>au (au ?_)))));have U:=W.m1 D e2 L.extBut;dsimp only;rw[bF];refine fV (fV (bB (fV (i9 (s:={s with heap:=g2}) U.n2 U.q2 hy λG e3 J=>au (au ?_)))));have S3:=U.m2 D e3 J.extBut;dsimp only;rw[dQ];refine au (fV (eT (au ⟨_,rfl,?_⟩) (by show 2<=sizeLine;decide)));have sz:G.objs.size=s.heap.objs.size:=J.1.trans (L.1.trans O.1);have S4:=S3.push { cls:=.type "tuple",data:=.seq #[x,y]};have Y:IsPair (G.push { cls:=.type "tuple",data:=.seq #[x,y]}) G.objs.size x y:=aE _ rfl;have Z:(G.push { cls:=.type "tuple",data:=.seq #[x,y]}).objs.size=s.heap.objs.size+1:=by rw[bg,sz]
 have kk:ZK z TO i1 i2 s.heap (G.push { cls:=.type "tuple",data:=.seq #[x,y]}):=(((om O.extBut).trans (vN L.extBut)).trans (B7 J.extBut)).trans λd o _ _ _ _ e=>j4 _ e;show Q (.ref G.objs.size) _;rw[sz]at Y ⊢
 exact hQ _ S4 Y Z kk
def ZZ(z TI TO i1 i2 l1 l2:ai)(k:Nat)(h:Heap):Prop:=∃ f bb a b,qP h z TI TO f bb/\(f=.none\/∃ T0:ai,f=rawInt T0)/\IsPair h TI (.ref i1) (.ref i2)/\IsPair h TO a b/\lj false h i1 l1 k/\lj false h i2 l2 k
def ZZ.keep{k:Nat}(Z:ZZ z TI TO i1 i2 l1 l2 k h)(kp:∀ b∈[z,TI,TO,i1,i2],∀ o,h.get? b=some o->h'.get? b=some o):ZZ z TI TO i1 i2 l1 l2 k h':=by obtain⟨f,bb,a,b,h1,h2,O,L,J,G⟩:=Z;exact⟨f,bb,a,b,kp z (by simp) _ h1,h2,kp TI (by simp) _ O,kp TO (by simp) _ L,J.at λo e=>kp i1 (by simp) o e,G.at λo e=>kp i2 (by simp) o e⟩
def Ow{k:Nat}(D:ZipApart z TI TO i1 i2 l1 l2)(Z:ZZ z TI TO i1 i2 l1 l2 k s.heap)(q1:lE false s.heap l1 xs)(q2:lE false s.heap l2 ys)(O:xs[k]?=some x)(L:ys[k]?=some y)
 (U:∀ h',ZZ z TI TO i1 i2 l1 l2 (k+1) h'->IsPair h' s.heap.objs.size x y->h'.objs.size=s.heap.objs.size+1->ZK z TO i1 i2 s.heap h'->Q (.ref s.heap.objs.size) {s with heap:=h'}):
 wpAny (model prog w) A (Builtin.SmallTypes.nextOf (.ref z)) Q E s:=by
 obtain⟨f,bb,a,b,h1,h2,h3,h4,Y,W⟩:=Z;have ty:s.TypeIs (.ref z) "zip":=⟨_,h1,rfl⟩;unfold Builtin.SmallTypes.nextOf;refine fV (bw (name:=Str.ofString "__next__") ty bX (cc bX ty c8 ?_ (cY _)));rcases h2 with rfl|⟨T0,rfl⟩
 .exact Ga D ⟨h1,h3,h4,Y,W,q1,q2⟩ (.inl rfl) O L λh' S J G hk=>au (U h' ⟨_,_,_,_,S.z,.inr ⟨_,rfl⟩,S.ti,S.to,S.n1,S.n2⟩ J G hk)
 .cases hd:s.heap.get? T0 with
  |none=>exact Ga D ⟨h1,h3,h4,Y,W,q1,q2⟩ (.inr ⟨T0,rfl,hd⟩) O L λh' S J G hk=>au (U h' ⟨_,_,_,_,S.z,.inr ⟨_,rfl⟩,S.ti,S.to,S.n1,S.n2⟩ J G hk)
  |some o=>exact Ox D ⟨h1,h3,h4,Y,W,q1,q2⟩ hd O L λh' S J G hk=>au (U h' ⟨_,_,_,_,S.z,.inr ⟨_,rfl⟩,S.ti,S.to,S.n1,S.n2⟩ J G hk)
def sJ{Q:Fin->ah->Prop}(hh:A.handled=none)(D:ZipApart z TI TO i1 i2 l1 l2)(S:ZG z TI TO i1 i2 l1 l2 f bb a b k1 k2 xs ys s.heap)(hf:f=.none\/∃ T0:ai,f=rawInt T0/\s.heap.get? T0=none)(hx:xs[k1]?=none\/ys[k2]?=none)
 (hE:∀ h' e,ZK z TO i1 i2 s.heap h'->(∃ o,h'.get? e=some o/\o.cls=.type "StopIteration")->E (.ref e) {s with heap:=h'}):
 wpAny (model prog w) A (Builtin.«zip.__next__» ⟨[.ref z],[]⟩) Q E s:=by
 refine fV (au (fV (aI S.z rfl (x:=.bool false) rfl (fV (aI S.z rfl (x:=.ref TI) rfl (fV (bc S.ti rfl ?_)))))));refine fV (m:=Builtin.SmallTypes.ownedTupleIsFree (.ref z)) (Hc S.z hf ?_);refine fV (dA (fV (aI S.z rfl (x:=.ref TO) rfl (fV (a6 S.z (by simp) λg1 e1 Y=>?_)))));have J:=S.mz D (f':=.ellipsis) (bb':=bb) e1 Y.extBut;refine fV ?_;rw[show(#[Value.ref i1,Value.ref i2]:Array ak).toList.zipIdx=[(.ref i1,0),(.ref i2,1)]from rfl,bF];cases ex:xs[k1]? with
 | none =>
  refine fV (fV (cQ (fV (lq hh J.n1 J.q1 ex λg2 e O Z=>?_))));obtain⟨oe,G,U⟩:=Z;have W:qP g2 z TI TO .ellipsis bb:=O _ _ D.i1z.symm J.z;have UR:e≠z:=λq=>by subst q;rw[W]at G;cases G;simp at U
  exact a6 W (by simp) λg3 _ L=>hE g3 e (((om Y.extBut).trans (vN O)).trans (om L.extBut)) ⟨oe,L.extBut _ _ UR G,U⟩
 | some x =>
  have hy:ys[k2]?=none:=by
   rcases hx with q|q
   .rw[ex]at q;cases q
   .exact q
  refine fV (fV (cQ (fV (i9 J.n1 J.q1 ex λg2 e2 O=>au ?_))));have S2:=J.m1 D e2 O.extBut;refine fV (bc S2.to rfl (fV (cU S2.to λg3 e3 L=>fV (cV (au ?_)))));have S3:=S2.mo D (x:=x) (y:=b) e3 L.extBut;dsimp only;rw[bF];refine fV (fV (cQ (fV (lq hh S3.n2 S3.q2 hy λg4 e t4 Z=>?_))));obtain⟨oe,G,U⟩:=Z;have W:qP g4 z TI TO .ellipsis bb:=t4 _ _ D.i2z.symm S3.z;have UR:e≠z:=λq=>by subst q;rw[W]at G;cases G;simp at U
  exact a6 W (by simp) λg5 _ t5=>hE g5 e ((((((om Y.extBut).trans (vN O.extBut)).trans (Ie L.extBut)).trans (B7 t4))).trans (om t5.extBut)) ⟨oe,t5.extBut _ _ UR G,U⟩
def z5{Q:Fin->ah->Prop}(hh:A.handled=none)(D:ZipApart z TI TO i1 i2 l1 l2)(S:ZG z TI TO i1 i2 l1 l2 (rawInt T0) bb a b k1 k2 xs ys s.heap)(hd:s.heap.get? T0=some o)(hx:xs[k1]?=none\/ys[k2]?=none)
 (W:∀ h' e,ZK z TO i1 i2 s.heap h'->(∃ o,h'.get? e=some o/\o.cls=.type "StopIteration")->E (.ref e) {s with heap:=h'}):
 wpAny (model prog w) A (Builtin.«zip.__next__» ⟨[.ref z],[]⟩) Q E s:=by
 refine fV (au (fV (aI S.z rfl (x:=.bool false) rfl (fV (aI S.z rfl (x:=.ref TI) rfl (fV (bc S.ti rfl ?_)))))));refine fV (m:=Builtin.SmallTypes.ownedTupleIsFree (.ref z)) (HP S.z hd λY e1 L=>?_);have G:=S.mz D (bb':=true) e1 L.extBut;show wpAny _ _ (forIn (#[Value.ref i1,Value.ref i2]:Array ak) (none,#[]) _>>=_) _ _ _;rw[<- eL];refine fV ?_;rw[show(#[Value.ref i1,Value.ref i2]:Array ak).toList=[.ref i1,.ref i2]from rfl,bF];cases ex:xs[k1]? with
 |none=>exact fV (fV (bB (fV (lq (s:={s with heap:=Y}) hh G.n1 G.q1 ex λU e J O=>W U e ((om L.extBut).trans (vN J)) O))))
 | some x =>
  have hy:ys[k2]?=none:=by
   rcases hx with q|q
   .rw[ex]at q;cases q
   .exact q
  refine fV (fV (bB (fV (i9 (s:={s with heap:=Y}) G.n1 G.q1 ex λU e2 J=>au (au ?_)))));have Z:=G.m1 D e2 J.extBut;dsimp only;rw[bF];exact fV (fV (bB (fV (lq (s:={s with heap:=U}) hh Z.n2 Z.q2 hy λg3 e t3 O=>W g3 e (((om L.extBut).trans (vN J.extBut)).trans (B7 t3)) O))))
def SJ{k:Nat}{Q:ak->ah->Prop}(hh:A.handled=none)(D:ZipApart z TI TO i1 i2 l1 l2)(Z:ZZ z TI TO i1 i2 l1 l2 k s.heap)(q1:lE false s.heap l1 xs)(q2:lE false s.heap l2 ys)(G:xs[k]?=none\/ys[k]?=none)
 (J:∀ h' e,ZK z TO i1 i2 s.heap h'->(∃ o,h'.get? e=some o/\o.cls=.type "StopIteration")->E (.ref e) {s with heap:=h'}):
 wpAny (model prog w) A (Builtin.SmallTypes.nextOf (.ref z)) Q E s:=by
 obtain⟨f,bb,a,b,h1,h2,W,U,O,L⟩:=Z;have ty:s.TypeIs (.ref z) "zip":=⟨_,h1,rfl⟩;unfold Builtin.SmallTypes.nextOf;refine fV (bw (name:=Str.ofString "__next__") ty bX (cc bX ty c8 ?_ (cY _)));rcases h2 with rfl|⟨T0,rfl⟩
 .exact sJ hh D ⟨h1,W,U,O,L,q1,q2⟩ (.inl rfl) G J
 .cases hd:s.heap.get? T0 with
  |none=>exact sJ hh D ⟨h1,W,U,O,L,q1,q2⟩ (.inr ⟨T0,rfl,hd⟩) G J
  |some o=>exact z5 hh D ⟨h1,W,U,O,L,q1,q2⟩ hd G J
def Ng{e:ai}{old:ak}(D:ZipApart z TI TO i1 i2 l1 l2)(he:IsEnum s.heap e z i old)(Z:ZZ z TI TO i1 i2 l1 l2 i s.heap)(ne:e∉[z,TI,TO,i1,i2])(q1:lE false s.heap l1 xs)(q2:lE false s.heap l2 ys)(hx:xs[i]?=some x)(hy:ys[i]?=some y)
 (hQ:∀ h1 h2 tk,IsPair h1 s.heap.objs.size x y->h1.objs.size=s.heap.objs.size+1->(∀ b o,b∉[z,TO,i1,i2]->s.heap.get? b=some o->h1.get? b=some o) ->
   IsEnumOut h2 e z ((i:Int)+1) (.ref s.heap.objs.size) (s.heap.objs.size+1)->ZZ z TI TO i1 i2 l1 l2 (i+1) h2->IsPair h2 (s.heap.objs.size+1) (.int i tk) (.ref s.heap.objs.size)->(∀ b o,b≠e->h1.get? b=some o->h2.get? b=some o)->Q (.ref (s.heap.objs.size+1)) {s with heap:=h2,toks:=tk+1}):
 wpAny (model prog w) A (Builtin.«enumerate.__next__» ⟨[.ref e],[]⟩) (λfin s'=>∃ v,fin=.done (.ret v)/\Q v s') E s:=by
 obtain⟨Y,g,d,tk,os⟩:=s;show wpAny _ _ (field (.ref e) 2>>=_) _ _ _;refine fV (aI he rfl (x:=.ref z) rfl ?_);have elt:e<Y.objs.size:=jf he;refine fV (Ow D Z q1 q2 hx hy λG Z₁ hT₁ L hk₁=>?_);replace hT₁:IsPair G Y.objs.size x y:=hT₁;replace L:G.objs.size=Y.objs.size+1:=L;simp only[aO,aH,bN,not_or]at ne;obtain⟨n1,n2,n3,n4,n5⟩:=ne;have he₁:IsEnum G e z i old:=hk₁ e _ n1 n3 n4 n5 he;show wpAny _ _ (field (.ref e) 3>>=_) _ _ ⟨G,g,d,tk,os⟩;refine fV (aI he₁ rfl (x:=rawInt i) rfl ?_);show wpAny _ _ (field (.ref e) 4>>=_) _ _ ⟨G,g,d,tk,os⟩;refine fV (aI he₁ rfl (x:=.none) rfl ?_);show wpAny _ _ (mkInt i>>=_) _ _ ⟨G,g,d,tk,os⟩;refine fV (wpAny_mkInt ?_);show wpAny _ _ (setField (.ref e) 3 (rawInt ((i:Int)+1))>>=_) _ _ ⟨G,g,d,tk+1,os⟩;refine fV (a6 he₁ (by simp) λh₂ he₂ U=>?_);replace U:Heap.SameBut e G h₂:=U;replace he₂:IsEnum h₂ e z ((i:Int)+1) old:=he₂;show wpAny _ _ (setField (.ref e) 4 .none>>=_) _ _ ⟨h₂,g,d,tk+1,os⟩;refine fV (a6 he₂ (by simp) λJ he₃ O=>?_);replace O:Heap.SameBut e h₂ J:=O;replace he₃:IsEnum J e z ((i:Int)+1) old:=he₃;show wpAny _ _ (newTuple [.int i tk,.ref Y.objs.size]>>=_) _ _ ⟨J,g,d,tk+1,os⟩;refine fV (eT ?_);have W:IsEnum (J.push { cls:=.type "tuple",data:=.seq #[.int i tk,.ref Y.objs.size]}) e z ((i:Int)+1) old:=j4 _ he₃;have hsz:J.objs.size=Y.objs.size+1:=by rw[O.1,U.1,L]
 have ht₄:(J.push { cls:=.type "tuple",data:=.seq #[.int i tk,.ref Y.objs.size]}).get? (Y.objs.size+1)=some { cls:=.type "tuple",data:=.seq #[.int i tk,.ref Y.objs.size]}:=by rw[<- hsz];exact aE _ rfl
 have hk₄:∀ b o,b≠e->G.get? b=some o->(J.push { cls:=.type "tuple",data:=.seq #[.int i tk,.ref Y.objs.size]}).get? b=some o:=λb o hb eo=>j4 _ (O.extBut b o hb (U.extBut b o hb eo));generalize J.push { cls:=.type "tuple",data:=.seq #[.int i tk,.ref Y.objs.size]}=h₄ at W ht₄ hk₄;show wpAny _ _ (Builtin.SmallTypes.ownedTupleIsFree (.ref e)>>=_) _ _ ⟨h₄,g,d,tk+1,os⟩;rw[hsz];refine fV ?_;unfold Builtin.SmallTypes.ownedTupleIsFree;refine fV (aI W rfl (x:=.none) rfl (au ?_));simp only[if_true];refine fV (dA ?_);refine fV (aI W rfl (x:=old) rfl ?_);refine fV (a6 W (by simp) λh₅ he₅ hs₅=>?_);replace hs₅:Heap.SameBut e h₄ h₅:=hs₅;replace he₅:IsEnum h₅ e z ((i:Int)+1) (.ref Y.objs.size):=he₅;show wpAny _ _ (Builtin.SmallTypes.ownedTupleHandOut (.ref e) (.ref (Y.objs.size+1))>>=_) _ _ ⟨h₅,g,d,tk+1,os⟩;refine fV ?_;unfold Builtin.SmallTypes.ownedTupleHandOut;refine fV (a6 he₅ (by simp) λh₆ he₆ hs₆=>?_);replace hs₆:Heap.SameBut e h₅ h₆:=hs₆;replace he₆:IsEnumOut h₆ e z ((i:Int)+1) (.ref Y.objs.size) (Y.objs.size+1):=he₆;refine a6 he₆ (by simp) λh₇ he₇ hs₇=>?_;replace hs₇:Heap.SameBut e h₆ h₇:=hs₇;replace he₇:IsEnumOut h₇ e z ((i:Int)+1) (.ref Y.objs.size) (Y.objs.size+1):=he₇;have k47:∀ b o,b≠e->h₄.get? b=some o->h₇.get? b=some o:=λb o hb eo=>hs₇.extBut b o hb (hs₆.extBut b o hb (hs₅.extBut b o hb eo));refine fV (cV (au ⟨_,rfl,hQ G h₇ tk hT₁ L (λb o hb eo=>hk₁ b o (λq=>hb (by simp[q])) (λq=>hb (by simp[q])) (λq=>hb (by simp[q])) (λq=>hb (by simp[q])) eo) he₇ ?_ ?_ λb o hb eo=>k47 b o hb (hk₄ b o hb eo)⟩))
 .refine Z₁.keep λb hb o eo=>k47 b o ?_ (hk₄ b o ?_ eo)<;>
  .intro q;subst q;simp only[aO,aH,bN]at hb;rcases hb with q|q|q|q|q
   .exact n1 q
   .exact n2 q
   .exact n3 q
   .exact n4 q
   .exact n5 q
 .exact k47 (Y.objs.size+1) _ (a8 (aV elt)) ht₄
end
section
variable {prog:ae}{w:af}{A:Around}{E:ak->ah->Prop}{s:ah}
def xW(z TI TO:ai):
 Meets (Builtin.«enumerate.__new__» ⟨[.type "enumerate",.ref z],[]⟩) (λ_ R s=>IsZip s.heap z TI TO .none /\
  R (.ok (.ret (.ref s.heap.objs.size))) {s with heap:=s.heap.push { cls:=.type "enumerate",data:=.fields #[.none,.bool false,.ref z,rawInt 0,.none,.none]}}):=
 .of_wp λprog w A R s h=>by
  obtain⟨O,g,d,tk,os⟩:=s;obtain⟨L,h⟩:=h;have J:=sub_enumerate;have G:IsZip (Shared.heap ⟨O,g,d,tk,os⟩) z TI TO .none:=L;wp_walk using cM G;refine wpAny_stack_any λst=>au ?_;split
  .rename_i c _ _ _ _ _;cases(c==Value.type "enumerate")
   .wp_walk using cM G;exact⟨_,rfl,h⟩
   .wp_walk using cM G;exact⟨_,rfl,h⟩
  .wp_walk using cM G;exact⟨_,rfl,h⟩
def sx{z TI TO:ai}(hz:IsZip s.heap z TI TO .none)
 (h:∀ h',IsEnum h' s.heap.objs.size z 0 .none->h'.objs.size=s.heap.objs.size+1->(∀ b o,s.heap.get? b=some o->h'.get? b=some o)->Q (.ref s.heap.objs.size) {s with heap:=h'}):
 wpAny (model prog w) A (call (.type "enumerate") [.ref z]) Q E s:=by
 refine callType_new F.called_enumerate (by decide) (F.typeCall_enumerate_1 _) (F.newCall_enumerate_1 _) (λobj=>F.args_object_init_2 obj _) F.entry_enumerate_new (xW z TI TO) ⟨hz,?_⟩;have G:IsEnum (s.heap.push { cls:=.type "enumerate",data:=.fields #[.none,.bool false,.ref z,rawInt 0,.none,.none]}) s.heap.objs.size z 0 .none:=aE _ rfl;exact⟨⟨_,G,rfl⟩,h _ G (by rw[bg]) λb o x=>j4 _ x⟩
end
def YB(l1 l2:ai):It :=
 ⟨λi H=>∃ xs ys x y,H l1=some (.lst xs)/\H l2=some (.lst ys)/\xs[i]?=some x/\ys[i]?=some y,
  λi H v H'=>∃ G J x y,v=.ref J/\H G=none/\(upd H G (.tup [x,y])) J=none/\H'=upd (upd H G (.tup [x,y])) J (.tup [.int i,.ref G])/\(∀ xs,H l1=some (.lst xs)->xs[i]?=some x)/\(∀ ys,H l2=some (.lst ys)->ys[i]?=some y),
  λi H=>∃ xs ys,H l1=some (.lst xs)/\H l2=some (.lst ys)/\(xs.length<=i\/ys.length<=i)⟩
def mT.upd{X:Cx}{fE:ao (ai×Obj)}{H:Hp}{b T:ai}{o:HO}(f:mT X fE H b)(h:b≠T):mT X fE (upd H T o) b:=⟨by rw[gr h];exact f.1,f.2⟩
def Eo{P:ae}{K:aa}{kk:Nat}{e z TI TO i1 i2 l1 l2:ai}(D:ZipApart z TI TO i1 i2 l1 l2)(ne:e∉[z,TI,TO,i1,i2]):
 Turn P w K (.Tuple elts kk tpos) (YB l1 l2) [e,z,TI,TO,i1,i2] e (λi h=>(∃ G,IsEnum h e z i G)/\ZZ z TI TO i1 i2 l1 l2 i h) where
 mem:=by simp
 obj:=λi h st b hb=>by
  obtain⟨⟨G,J⟩,f,bb,a,b',h1,h2,L,h4,h5,h6⟩:=st;simp only[aO,aH,bN]at hb;rcases hb with rfl|rfl|rfl|rfl|rfl|rfl
  .exact⟨_,J,λv q=>by cases q⟩
  .exact⟨_,h1,λv q=>by cases q⟩
  .exact⟨_,L,λv q=>by cases q⟩
  .exact⟨_,h4,λv q=>by cases q⟩
  .exact h5.data
  .exact h6.data
 keep:=λi h h' st k=>by obtain⟨⟨G,J⟩,Z⟩:=st;exact⟨⟨G,k e (by simp) _ J⟩,Z.keep λb hb o O=>k b (nM _ hb) o O⟩
 item:=by
  intro X hP hw hK hc i fE s σ H E I U st hg;subst hP hw hK;obtain⟨⟨G,J⟩,Z⟩:=st;obtain⟨xs,ys,x,y,q1,q2,ex,ey⟩:=hg;obtain⟨_,us,n1,r1,_,p1⟩:=I.mQ q1;obtain⟨_,Y,n2,r2,_,p2⟩:=I.mQ q2;obtain⟨u,eu,ru⟩:=r1.get ex;obtain⟨v,ev,rv⟩:=r2.get ey;have s1:lE false s.heap l1 us.toArray:=⟨_,p1,rfl,n1,rfl⟩;have s2:lE false s.heap l2 Y.toArray:=⟨_,p2,rfl,n2,rfl⟩;have W:s.TypeIs (.ref e) "enumerate":=⟨_,J,rfl⟩;have LL:∀ b∈[e,z,TI,TO,i1,i2],b<s.heap.objs.size:=λb hb=>by
   obtain⟨f,bb,a,b',h1,h2,L,h4,h5,h6⟩:=Z;simp only[aO,aH,bN]at hb;rcases hb with rfl|rfl|rfl|rfl|rfl|rfl
   .exact jf J
   .exact jf h1
   .exact jf L
   .exact jf h4
   .obtain⟨o,q⟩:=h5.ex;exact jf q
   .obtain⟨o,q⟩:=h6.ex;exact jf q
  unfold pyNext;refine fV (cR (bw (name:=Str.ofString "__next__") W dP (cc dP W F.entry_enumerate_next (Ng D J Z ne s1 s2 (x:=u) (y:=v) (by simpa using eu) (by simpa using ev) λh1 h2 tk Xx Wn fr1 ho2 Z2 UX fr2=>au ?_) (F.args_enumerate_next_1 _))));refine⟨_,rfl,wpAny_letOwnedTupleGo_enum ho2 λL he3 MA=>?_⟩;have I1:Inv X fE σ (upd H s.heap.objs.size (.tup [x,y])) { s with heap:=h1}:=I.Cj (ch:=[z,TO,i1,i2]) (h'':=h1) (λb hb=>U b (by
   simp only[aO,aH,bN]at hb ⊢
   rcases hb with q|q|q|q<;>simp[q])) fr1 Xx ru rv
  have elt:=LL e (by simp);have en:e≠s.heap.objs.size+1:=aA (aV elt);have hT3:IsPair L (s.heap.objs.size+1) (.int i tk) (.ref s.heap.objs.size):=MA.extBut _ _ (bj en) UX;have I2:=I1.Cj (ch:=[e]) (h'':=L) (x:=.int i) (y:=.ref s.heap.objs.size) (u:=.int i tk) (v:=.ref s.heap.objs.size) (λb hb=>by
   rw[List.mem_singleton.mp hb]
   exact(U e (by simp)).upd (aA elt)) (λb o hb O=>MA.extBut b o (λq=>hb (by simp[q])) (fr2 b o (λq=>hb (by simp[q])) O)) (by show IsPair L h1.objs.size _ _;rw[Wn];exact hT3) ⟨tk,rfl⟩ rfl
  have hn1:H s.heap.objs.size=none:=I.hG.fresh (ar _);have G7:(upd H s.heap.objs.size (.tup [x,y])) (s.heap.objs.size+1)=none:=by rw[gr (Nat.succ_ne_self _)];exact I.hG.fresh (Nat.le_succ _)
  have I3:=I2.tok (tk+1);have e1:(({s with heap:=h1}:ah).heap.objs.size)=s.heap.objs.size+1:=Wn;rw[e1]at I3;refine⟨.ref (s.heap.objs.size+1),_,I3,rfl,⟨_,_,x,y,rfl,hn1,G7,rfl,λzs q=>by rw[q1]at q;cases q;exact ex,λzs q=>by rw[q2]at q;cases q;exact ey⟩,⟨⟨_,by simpa using he3⟩,Z2.keep λb hb o O=>MA.extBut b o (λq=>ne (q▸hb)) O⟩,λb hb=>?_⟩;have:=LL b hb;rw[gr (aA (aV this)),gr (aA this)];exact(U b hb).1
 done:=by
  intro X hP hw hK hc i fE s σ H E I U st hg;subst hP hw hK;obtain⟨⟨G,J⟩,Z⟩:=st;obtain⟨xs,ys,q1,q2,hx⟩:=hg;obtain⟨_,us,n1,r1,ll1,p1⟩:=I.mQ q1;obtain⟨_,Y,n2,r2,ll2,p2⟩:=I.mQ q2;have s1:lE false s.heap l1 us.toArray:=⟨_,p1,rfl,n1,rfl⟩;have s2:lE false s.heap l2 Y.toArray:=⟨_,p2,rfl,n2,rfl⟩;have W:s.TypeIs (.ref e) "enumerate":=⟨_,J,rfl⟩;unfold pyNext;refine fV (cR (bw (name:=Str.ofString "__next__") W dP (cc dP W F.entry_enumerate_next ?_ (F.args_enumerate_next_1 _))));show wpAny _ _ (field (.ref e) 2>>=_) _ _ _;refine fV (aI J rfl (x:=.ref z) rfl ?_);refine fV (SJ (I.ok.hd hc) D Z s1 s2 (by simp only[List.getElem?_toArray,List.getElem?_eq_none_iff];lia) λh' x hk Fd=>?_);obtain⟨o,ho,uN⟩:=Fd;refine fV (dR (T:= "StopIteration") (b:=true) ⟨o,ho,uN⟩ eV ?_);refine au ⟨rfl,I.y9 (ch:=[z,TO,i1,i2]) (λb hb=>U b (by
   simp only[aO,aH,bN]at hb ⊢
   rcases hb with q|q|q|q<;>simp[q])) λb o hb O=>hk b o (λq=>hb (by simp[q])) (λq=>hb (by simp[q])) (λq=>hb (by simp[q])) (λq=>hb (by simp[q])) O⟩
 self:=λ_ _ _ _ _ st h=>let ⟨⟨_,e⟩,_⟩:=st;eS e h
section
variable {X:Cx}{a b e:Expr}{es:ao Expr}{pos:Pos}
def UD(ta:TA):TI:=λσ H R=>ta σ H λvs H1=>match vs with
 |[.ref l1,.ref l2]=>∃ xs ys,H1 l1=some (.lst xs)/\H1 l2=some (.lst ys)/\R (YB l1 l2) H1
 |_=>False
def Ln{elts:ao Expr}{kk:Nat}{tpos p2 J:Pos}{p:Pos}(hg:Gl X "enumerate")(hm:X.mg "enumerate"=none)(MI:Gl X "zip")(MC:X.mg "zip"=none)(ha:PA X [a,b] ta)(hs:starEach [a,b] X.env=[(false,eval a X.env),(false,eval b X.env)]:=by rfl)(rE:starEach [b] X.env=[(false,eval b X.env)]:=by rfl)
 (MA:starEach [.Call (.Name "zip" p2) [a,b] [] J] X.env=[(false,eval (.Call (.Name "zip" p2) [a,b] [] J) X.env)]:=by rfl):
 PI X (.Tuple elts kk tpos) (.Call (.Name "enumerate" p) [.Call (.Name "zip" p2) [a,b] [] J] [] pos) (UD ta):=by
 intro fE s σ H R I h;refine Call_ (lM I hg hm (show bootBuiltins "enumerate"=some (.type "enumerate") by decide +kernel) (bh ?_ MA rfl));rw[MA];show wpAny _ _ (spliced ((false,eval (.Call (.Name "zip" p2) [a,b] [] J) X.env)::backTo pos [])) _ _ s;refine Calls.spliced_cons ?_;refine Call_ (lM I MI MC boot_zip (bh (iN (ha J fE s σ H _ I h) λus G rF=>?_) (by rw[hs,rE]) (by rw[rE];rfl)));obtain⟨vs,H1,L,r1,q1⟩:=rF;try dsimp only at q1
 split at q1
 .rename_i l1 l2;obtain⟨xs,ys,h1,h2,q⟩:=q1;obtain⟨u1,u2,rfl,e1,e2⟩:=r1.two;cases e1;cases e2;obtain⟨_,i1,n1,v1,_,p1⟩:=L.mQ h1;obtain⟨_,i2,n2,v2,_,p2⟩:=L.mQ h2;have U:lE false G.heap l1 i1.toArray:=⟨_,p1,rfl,n1,rfl⟩;have O:lE false G.heap l2 i2.toArray:=⟨_,p2,rfl,n2,rfl⟩;have Y:l1<G.heap.objs.size:=jf p1;have W:l2<G.heap.objs.size:=jf p2;refine sI U O λh' Z B5 B4 m1 m2 kp=>?_;refine Calls.spliced_nil ?_;refine sx (s:={ G with heap:=h'}) Z λh'' he hsz RX=>eS he ?_;have SK:G.heap.objs.size+4<h'.objs.size:=jf Z;have I2:Inv X fE σ H1 { G with heap:=h''}:=L.jk (t':=G.toks) λb o eo=>RX b o (kp b o eo);have Z0:ZZ (G.heap.objs.size+4) (G.heap.objs.size+2) (G.heap.objs.size+3) G.heap.objs.size (G.heap.objs.size+1) l1 l2 0 h':=⟨_,_,_,_,Z,.inl rfl,B5,B4,m1,m2⟩;have ne:h'.objs.size∉[G.heap.objs.size+4,G.heap.objs.size+2,G.heap.objs.size+3,G.heap.objs.size,G.heap.objs.size+1]:=by simp only[aO,aH,bN];lia
  refine⟨h'.objs.size,_,_,_,H1,rfl,I2,Eo (zipApart_new Y W) ne,⟨⟨_,he⟩,Z0.keep λb _ o eo=>RX b o eo⟩,λb hb=>?_,q⟩;have B3:G.heap.objs.size<=b:=by
   simp only[aO,aH,bN]at hb;rcases hb with q|q|q|q|q|q
   .rw[q];exact e9 (ck (aR _ 4) SK)
   .rw[q];exact aR _ _
   .rw[q];exact aR _ _
   .rw[q];exact aR _ _
   .rw[q];exact ar _
   .rw[q];exact aR _ _
  exact L.Dw B3 (L.hG.fresh B3)
 .exact q1.elim
def X9(w:DA):DI:=λρ μ K=>w ρ μ λds G=>match ds with
 |[x,y]=>opt (lv G x) λxs=>opt (lv G y) λys=>K (oa (List.zipWith (λa b=>D.tup [a,b]) xs ys)) (λJ=>lc x xs J/\lc y ys J) G
 |_=>False
def Qi{elts:ao Expr}{kk:Nat}{tpos p2 se:Pos}{w:DA}{p:Pos}(hg:Gl X "enumerate")(hm:X.mg "enumerate"=none)(MI:Gl X "zip")(MC:X.mg "zip"=none)(ha:u9 X [a,b] w)(hs:starEach [a,b] X.env=[(false,eval a X.env),(false,eval b X.env)]:=by rfl)(rE:starEach [b] X.env=[(false,eval b X.env)]:=by rfl)
 (MA:starEach [.Call (.Name "zip" p2) [a,b] [] se] X.env=[(false,eval (.Call (.Name "zip" p2) [a,b] [] se) X.env)]:=by rfl):
 HV X (.Tuple elts kk tpos) (.Call (.Name "enumerate" p) [.Call (.Name "zip" p2) [a,b] [] se] [] pos) (X9 w):=(Ln hg hm MI MC ha hs rE MA).imp λσ H Q G=>by
 obtain⟨φ,ρ,μ,K,A,M,k,L⟩:=G;refine⟨φ,ρ,μ,_,A,M,k,λds gh gC vs H1 k1 f1 M1 i1=>?_⟩;split at k1
 .rename_i x y;obtain⟨xs,ex,k1⟩:=ip k1;obtain⟨ys,ey,k1⟩:=ip k1;obtain⟨v,r,rfl,h1,u,r',rfl,h2,h3⟩:=i1;cases(show r'=[]from h3);obtain⟨p1,vx,rfl,UM,ax⟩:=kz M1 h1 ex;obtain⟨p2,U,rfl,UL,ay⟩:=kz M1 h2 ey;refine⟨vx,U,UM,UL,L _ _ gh gC _ H1 k1 f1 M1 λgA H' fX f M' c i=>?_⟩;obtain⟨vx,hx,ax⟩:=rh M1 h1 ex f M' c.1;obtain⟨U,hy,ay⟩:=rh M1 h2 ey f M' c.2;have lx:=ax.len;have ly:=ay.len;refine⟨λd hd=>?_,λhi=>⟨vx,U,hx,hy,by rw[m8,bO]at hi;lia⟩⟩;obtain⟨q,G,rfl⟩:=zE hd;rw[bV]at G;cases e1:xs[i]? with
  |none=>rw[e1]at G;cases G
  | some dx =>
   cases e2:ys[i]? with
   |none=>rw[e1,e2]at G;cases G
   | some dy =>rw[e1,e2]at G;cases G;obtain⟨Y,g1,j1⟩:=ax.get e1;obtain⟨W,g2,j2⟩:=ay.get e2;refine⟨⟨vx,U,Y,W,hx,hy,g1,g2⟩,λz Ov UH=>?_⟩;obtain⟨O,T2,x',y',rfl,Xx,UX,rfl,q1,q2⟩:=UH;have c1:=q1 vx hx;have c2:=q2 U hy;rw[g1]at c1;cases c1;rw[g2]at c2;cases c2;have J:=Fr.new (φ:=gA) (o:=.tup [Y,W]) Xx;have M1':=M'.same (iM.upd (o:=.tup [Y,W]) Xx);have Z:=Fr.new (φ:=gA) (o:=.tup [.int i,.ref O]) UX;have M2':=M1'.same (iM.upd (o:=.tup [.int i,.ref O]) UX);have d1:jG gA (upd H' O (.tup [Y,W])) (.tup [dx,dy]) (.ref O):=⟨O,_,rfl,M'.fresh Xx,gc,Y,_,rfl,j1.mono J,W,_,rfl,j2.mono J,rfl⟩;exact⟨J.trans Z,M2',T2,_,rfl,M1'.fresh UX,gc,.int i,_,rfl,rfl,.ref O,_,rfl,d1.mono Z,rfl⟩
 .exact k1.elim
end
def RG:ao V->Hp->VK->Prop:=λvs H Q=>∃ i j k,vs=[.int i,.int j,.int k]/\Q (.int (min i (min j k))) H
def W3(L:X.gY=true):jM X (.builtin "min") RG:=by
 intro fE s σ H xs us Q I r h;obtain⟨i,j,k,rfl,h⟩:=h;cases r with
 | cons J G =>
  obtain⟨u,v,rfl,⟨U,rfl⟩,⟨O,rfl⟩⟩:=gG.two G;obtain⟨W,rfl⟩:=J;refine min_three_ints (I.ok.hd L) λh' tk kp=>⟨_,H,I.jk kp,?_,h⟩;by_cases h1:j<i
  .by_cases h2:k<j
   .rw[aB h1,aB h2,show min i (min j k)=k by lia];exact⟨_,rfl⟩
   .rw[aB h1,aC h2,show min i (min j k)=j by lia];exact⟨_,rfl⟩
  .by_cases h2:k<i
   .rw[aC h1,aB h2,show min i (min j k)=k by lia];exact⟨_,rfl⟩
   .rw[aC h1,aC h2,show min i (min j k)=i by lia];exact⟨_,rfl⟩
def Si:jZ:=λds μ K=>match ds with|[.int i,.int j,.int k]=>K (.int (min i (min j k))) μ|_=>False
def OT:oG RG Si:=λφ H vs ds μ K Q M h k L=>by
 unfold Si at k;split at k
 .obtain⟨v,r,rfl,h1,u,r',rfl,h2,w,r'',rfl,h3,h4⟩:=h;cases(show r''=[]from h4);cases(show v=_ from h1);cases(show u=_ from h2);cases(show w=_ from h3);exact⟨_,_,_,rfl,L.val M k rfl⟩
 .exact k.elim
section
variable {X:Cx}{e:Expr}{pos:Pos}
def Yd:De:=λ_ μ K=>K (.mr μ.length) (μ++[.ka [] []])
def Va:PD X (.Dict [] [] pos) Yd:=Lx.imp λσ H Q ⟨φ,ρ,μ,K,A,M,k,L⟩=>λp G=>by obtain⟨J,f⟩:=M.snoc (o:=.dK []) (m:=.ka [] []) G ⟨[],[],gc,rfl,rfl,rfl⟩;exact L _ _ _ _ _ k f J ⟨p,by rw[pW (by rw[M.len];exact ar _),M.len,aY];rfl,rfl⟩
def Yi(w wo wi:De):Ds:=λN ρ μ=>w ρ μ λd L=>wo ρ L λo J=>wi ρ J λi G=>match o with
 |.mr k=>∃ ks ds,G[k]?=some (.ka ks ds)/\ks.length<sizeLine/\opt (Mm i) λkk=>kk∉ks/\N.nx ρ (G.set k (.ka (ks++[kk]) (ds++[d])))
 |_=>False
def Tj{o i:Expr}{w wo wi:De}(hu:X.A.units+1<cLine)(he:PD X e w)(ho:PD X o wo)(hi:PD X i wi)(hs:swapsWith e (some (.Subscript o i pos')) pos.line X.env=pure false:=by rfl):
 yX X (.Assign [.Subscript o i pos'] e pos) (Yi w wo wi):=(GI hu ho hi he hs).imp λE σ H hq=>by
 obtain⟨φ,ρ,μ,N,A,M,w,L⟩:=hq;refine⟨φ,ρ,μ,_,A,M,w,λd gh gC G H1 k1 Y M1 i1=>?_⟩;refine⟨gC,ρ,gh,_,A.mono Y,M1,k1,λd2 iX lT v2 H2 k2 W M2 i2=>?_⟩;refine⟨lT,ρ,iX,_,A.mono (Y.trans W),M2,k2,λd3 vk Ic v3 H3 J U M3 i3=>?_⟩;cases d2 with
 | mr k =>
  obtain⟨ks,ds,em,hl,J⟩:=J;obtain⟨kk,ek,hn,J⟩:=ip J;obtain⟨p,Z,rfl⟩:=i2.mono U;obtain⟨p',e1,fR,vs,hv,h1,h2,ha⟩:=M3.at_ k _ em;rw[Z]at e1;cases e1;cases wt ek i3;have hn':(fR.any λkv=>decide (kv.1=kk))=false:=by rw[fc];intro kv Xp;rw[bq];intro z;exact hn (by rw[<- h1,<- z];exact List.mem_map_of_mem Xp)
  have ep:putK fR kk G=fR++[(kk,G)]:=by unfold putK;rw[hn'];rfl
  have O:Fr Ic H3 Ic (upd H3 p (.dK (putK fR kk G))):=.put (mR Z);refine⟨p,_,rfl,D5.k hv (by rw[<- h1,iE]at hl;exact hl),?_⟩;have M4:=M3.put (k:=k) (p:=p) (o:=.dK (putK fR kk G)) (m:=.ka (ks++[kk]) (ds++[d])) Z ⟨putK fR kk G,vs++[G],gc,by rw[ep,bT,h1];rfl,by rw[ep,bT,h2];rfl,
   (ha.mono O).app ⟨G,[],rfl,(i1.mono (W.trans U)).mono O,rfl⟩⟩
  exact L.nx ρ _ Ic σ _ J ((Y.trans (W.trans U)).trans O) (A.mono ((Y.trans (W.trans U)).trans O)) M4
 |_=>exact J.elim
end
def lQ(L:Nat)(i j:Nat):Int:=if j<=i then 0 else(L:Int) - 1
def n0(P:Nat->Nat->Int)(i j:Nat):ao Int:=(List.range (j - (i+1))).map λx=>P i (i+1+x)+P (i+1+x) j+1
def jW(L:Nat)(es own:ao Int)(P:Nat->Nat->Int)(i j:Nat):Int:=if es.getD j 0<=own.getD i 0 then 0 else(n0 P i j).foldl min ((L:Int) - 1)
def gy(es:ao Int)(ts:ao Tk):Nat->Nat->Nat->Int
 |0=>lQ es.length
 |a+1=>jW es.length es (jl es ts a) (gy es ts a)
def nr{P:Nat->Nat->Int}{v:Int}:v∈n0 P i j↔∃ k,i<k/\k<j/\v=P i k+P k j+1:=by
 unfold n0;rw[List.mem_map];constructor
 .rintro⟨x,hx,rfl⟩;rw[cj]at hx;exact⟨i+1+x,by lia,by lia,rfl⟩
 .rintro⟨k,h1,h2,rfl⟩;exact⟨k - (i+1),List.mem_range.mpr (by lia),by rw[show i+1+(k - (i+1))=k by lia]⟩
def Jh{P P':Nat->Nat->Int}{L:Nat}(hi:i<L)(J:j<L)(h:∀ a b,a<L->b<L->P a b=P' a b):n0 P i j=n0 P' i j:=by unfold n0;apply bW;intro x G;rw[cj]at G;rw[h i _ hi (by lia),h _ j (by lia) J]
def Ir{P P':Nat->Nat->Int}{L:Nat}{own:ao Int}(hi:i<L)(G:j<L)(h:∀ a b,a<L->b<L->P a b=P' a b):jW L es own P i j=jW L es own P' i j:=by unfold jW;rw[Jh hi G h]
def HU(L:Nat)(T P:Nat->Nat->Int):Prop:=∀ i j,i<L->j<L->(j<=i->P i j=0)/\(i<j->(T i j=0/\P i j=(L:Int) - 1)\/(1<=T i j/\T i j<=((j - i:Nat):Int)/\P i j=T i j - 1))
def Iv{L:Nat}{own:ao Int}{T P:Nat->Nat->Int}(hs:∀ i j,i<L->j<=i->es.getD j 0<=own.getD i 0)(h:HU L T P):HU L (kb es own T) (jW L es own P):=by
 intro i j hi hj;refine⟨λW=>by unfold jW;rw[aB (hs i j hi W)],λqA=>?_⟩;unfold kb jW;rw[aC (show ¬ j<=i by lia)];by_cases q:es.getD j 0<=own.getD i 0
 .rw[aB q,aB q];right;lia
 rw[aC q,aC q];obtain⟨a1,a2,a3⟩:=kZ (n0 P i j) ((L:Int) - 1);generalize hm:(n0 P i j).foldl min ((L:Int) - 1)=m at a1 a2 a3 ⊢
 clear hm;have kk:∀ k,i<k->k<j->(0<T i k*T k j/\1<=T i k/\1<=T k j/\T i k+T k j<=((j - i:Nat):Int)/\P i k+P k j+1=T i k+T k j - 1)\/(¬ 0<T i k*T k j/\(L:Int) - 1<P i k+P k j+1):=λk h1 h2=>by
  have x1:=(h i k hi (by lia)).2 h1;have x2:=(h k j (by lia) hj).2 h2;rcases x1 with⟨J,Z⟩|⟨J,Z,y3⟩
  .right;refine⟨by rw[J,Int.zero_mul];lia,?_⟩;rcases x2 with⟨G,O⟩|⟨G,O,z3⟩<;> lia
  .rcases x2 with⟨G,O⟩ | ⟨G,O,z3⟩
   .right;exact⟨by rw[G,Int.mul_zero];lia,by lia⟩
   .left;exact⟨Int.mul_pos (by lia) (by lia),J,G,by lia,by lia⟩
 by_cases U:kK T i j=[]
 .left;rw[U];refine⟨rfl,?_⟩;rcases a1 with e|e
  .exact e
  .exfalso;obtain⟨k,h1,h2,e⟩:=nr.mp e;rcases kk k h1 h2 with⟨y,_⟩|⟨_,y⟩
   .have:=kW.mpr ⟨k,h1,h2,y,rfl⟩;rw[U]at this;cases this
   .lia
 .right;obtain⟨b1,b2⟩:=rg U;generalize xH (kK T i j)=t at b1 b2 ⊢
  obtain⟨k,h1,h2,h3,e⟩:=kW.mp b1;rcases kk k h1 h2 with⟨_,J,Z,y3,y4⟩|⟨y,_⟩
  .have:=a3 _ (nr.mpr ⟨k,h1,h2,rfl⟩);refine⟨by lia,by lia,?_⟩;rcases a1 with Y|Y
   .lia
   .obtain⟨k',g1,g2,Y⟩:=nr.mp Y;rcases kk k' g1 g2 with⟨w0,w1,w2,w3,w4⟩|⟨_,w⟩
    .have:=b2 _ (kW.mpr ⟨k',g1,g2,w0,rfl⟩);lia
    .lia
  .exact absurd h3 y
theorem Cq{es:ao Int}{ts:ao Tk}(G:∀ a i j,i<es.length->j<=i->es.getD j 0<=(jl es ts a).getD i 0):∀ a,HU es.length (kP es ts a) (gy es ts a)
 |0=>λi j hi J=>⟨λh=>by show lQ _ i j=0;unfold lQ;rw[aB h],λh=>.inl ⟨rfl,by show lQ _ i j=_;unfold lQ;rw[aC (by lia)]⟩⟩
 |a+1=>Iv (G a) (Cq G a)
def LG(h:∀ t∈ts,t.2≠a):jl es ts a=jl es ts (a - 1):=by unfold jl;apply bW;intro e _;rw[lJ,lJ];congr 2;apply List.filter_congr;intro t ht;have:=h t ht;exact decide_eq_decide.mpr ⟨λq=>by lia,λq=>by lia⟩
def LK(h:∀ t∈ts,a<t.2):jl es ts a=es:=by
 unfold jl;have:es.map (ky es ts a)=es.map id:=by
  apply bW;intro e _;rw[lJ];have:(ts.filter λt=>decide (t.2<=a))=[]:=by rw[List.filter_eq_nil_iff];intro t ht;have:=h t ht;simp;lia
  rw[this];rfl
 rw[this,List.map_id]
def getD_some{xs:ao Int}(h:i<xs.length):xs[i]?=some (xs.getD i 0):=by rw[av,jo h];rfl
def Gb(hu:es.Pairwise (·<·))(hi:i<es.length)(h:j<=i):es.getD j 0<=es.getD i 0:=y7 hu j i _ _ h (getD_some (by lia)) (getD_some hi)
def LJ(hu:es.Pairwise (·<·))(i j:Nat)(hi:i<es.length)(h:j<=i):es.getD j 0<=(jl es ts a).getD i 0:=by have e:=nW (ts:=ts) (a:=a) (getD_some hi);rw[av (l:=jl es ts a),e];have:=q9 es ts a (es.getD i 0);have:=Gb hu hi h;show _<=ky es ts a (es.getD i 0);lia
def N3(hu:es.Pairwise (·<·))(hi:i<es.length)(G:j<es.length):jW es.length es es (lQ es.length) i j=lQ es.length i j:=by
 unfold jW;by_cases q:j<=i
 .rw[aB (Gb hu hi q)];unfold lQ;rw[aB q]
 .have qA:i<j:=by lia
  have:=List.pairwise_iff_getElem.mp hu i j hi G qA
  rw[aC (by
   have e1:=getD_some hi
   have e2:=getD_some G
   rw[jo hi]at e1
   rw[jo G]at e2
   rw[<- aN e1,<- aN e2];lia)]
  obtain⟨a1,a2,a3⟩:=kZ (n0 (lQ es.length) i j) ((es.length:Int) - 1)
  have J:lQ es.length i j=(es.length:Int) - 1:=by unfold lQ;rw[aC q]
  rw[J]
  rcases a1 with e|e
  .exact e
  .exfalso;obtain⟨k,h1,h2,e⟩:=nr.mp e;have O:lQ es.length i k=(es.length:Int) - 1:=by unfold lQ;rw[aC (by lia)]
   have L:lQ es.length k j=(es.length:Int) - 1:=by unfold lQ;rw[aC (by lia)]
   lia
def KH{L:Nat}{T G:Nat->Nat->Int}(h:∀ i j,i<L->j<L->T i j=G i j):j0 L T=j0 L G:=by unfold j0;apply bW;intro i hi;rw[oN λj J=>h i j (List.mem_range.mp hi) J]
theorem xZ:∀ {xs ys:ao D} {i:Nat} {x y:D},nv xs ys=true->xs[i]?=some x->ys[i]?=some y->mX x y=true
 |[],_,i,_,_,_,h1,_=>by simp at h1
 |_::_,[],i,_,_,_,_,h2=>by simp at h2
 | x::xs,y::ys,0,_,_,h,h1,h2=>by unfold nv at h;rw[bE]at h;simp at h1 h2;subst h1;subst h2;exact h.1
 | x::xs,y::ys,i+1,_,_,h,h1,h2=>by unfold nv at h;rw[bE]at h;exact xZ h.2 (by simpa using h1) (by simpa using h2)
def QC{L:Nat}{S T:Nat->Nat->Int}(h:mX (.lst (j0 L S)) (.lst (j0 L T))=true):∀ i j,i<L->j<L->S i j=T i j:=λi j hi G=>by unfold mX at h;have h1:=xZ h (mF hi) (mF hi);unfold mX at h1;have h2:=xZ h1 (kR G) (kR G);unfold mX at h2;exact eq_of_beq h2
def M7{k:Nat}(hf:∀ i j,i<es.length->j<es.length->jW es.length es (jl es ts ((k:Int) - 1)) (gy es ts k) i j=gy es ts k i j)(G:∀ t∈ts,t.2≠(k:Int))(i j:Nat)(hi:i<es.length)(J:j<es.length):gy es ts (k+1) i j=gy es ts k i j:=by show jW es.length es (jl es ts k) (gy es ts k) i j=_;rw[LG G];exact hf i j hi J
def Dy{k:Nat}(h:∀ i j,i<es.length->j<es.length->gy es ts (k+1) i j=gy es ts k i j)(i j:Nat)(hi:i<es.length)(G:j<es.length):jW es.length es (jl es ts (((k+1:Nat):Int) - 1)) (gy es ts (k+1)) i j=gy es ts (k+1) i j:=by rw[show((k+1:Nat):Int) - 1=(k:Int) by lia,Ir (P':=gy es ts k) hi G h];rfl
def Jv{n:Int}(S:iD n cs ts)(i j:Nat)(hi:i<(fC n cs).length)(G:j<(fC n cs).length):jW (fC n cs).length (fC n cs) (jl (fC n cs) ts (((0:Nat):Int) - 1)) (gy (fC n cs) ts 0) i j=gy (fC n cs) ts 0 i j:=by rw[LK λt ht=>by have:=(S.takes.ok t ht).2.2.1;lia];exact N3 (iK S.n1 S.jD) hi G
def DR{L:Nat}{f:Nat->Int}(J:j<=L):cutD (jd L f) (some ((i:Int)+1)) (some (j:Int))=(List.range (j - (i+1))).map λx=>D.int (f (i+1+x)):=by
 unfold cutD;rw[nq,show HT.oM L 0 (some ((i:Int)+1))=min (i+1) L from HT.m4 L 0 (i+1),HT.m4,cE J];rcases Nat.lt_or_ge (i+1) j with q|q
 .rw[cE (aX (e9 q) J)];apply cD;intro x;rw[List.getElem?_take,oC];by_cases G:x<j - (i+1)
  .rw[aB G,da,bo G,kR (by lia)];rfl
  .rw[aC G,List.getElem?_eq_none_iff.mpr (by rw[tP];exact Nat.not_lt.mp G)];rfl
 .rw[Nat.sub_eq_zero_of_le q,Nat.sub_eq_zero_of_le (Nat.le_min.mpr ⟨q,J⟩)];rfl
def Ki{L:Nat}{P:Nat->Nat->Int}:List.zipWith (λa b:Int=>a+b+1) ((List.range (j - (i+1))).map λx=>P i (i+1+x)) ((List.range (j - (i+1))).map λx=>P (i+1+x) j)=n0 P i j:=by
 unfold n0;rw[dW];generalize List.range (j - (i+1))=xs;induction xs with
 |nil=>rfl
 |cons x xs G=>rw[bP,G];rfl
def zC{L:Nat}(g:Nat->D)(hl:ds.length=L)(h:∀ i,i<L->ds[i]?=some (g i)):oa ds=(List.range L).map λi=>D.tup [.int (i:Nat),g i]:=by
 unfold oa;apply cD;intro i;rw[bV,oC,hl];by_cases hi:i<L
 .rw[bo hi,h i hi];rfl
 .rw[List.getElem?_eq_none_iff.mpr (by rw[tP];lia)];rfl
def Qy:oa (es.map D.int)=(List.range es.length).map λj=>D.tup [.int (j:Nat),.int (es.getD j 0)] :=
 zC _ (iE ..) λi hi=>by rw[oC,getD_some hi];rfl
def Nh{L:Nat}{P:Nat->Nat->Int}{own:ao Int}(hl:own.length=L):oa (List.zipWith (λa b=>D.tup [a,b]) (j0 L P) (own.map D.int))=(List.range L).map λi=>D.tup [.int (i:Nat),.tup [.lst (jd L (P i)),.int (own.getD i 0)]] :=
 zC (λi=>.tup [.lst (jd L (P i)),.int (own.getD i 0)]) (by rw[bO,lG,iE];lia) λi hi=>by rw[bV,mF hi,oC,getD_some (by lia)];rfl
def Io{L k:Nat}{T:Nat->Nat->Int}:((List.range (k+1)).map λi=>D.lst (jd L (T i)))=((List.range k).map λi=>D.lst (jd L (T i)))++[.lst (jd L (T k))]:=by rw[dj,bT];rfl
def PJ(L k:Nat)(f:Nat->Nat->Int):tx n ((List.range k).map λi=>D.lst (jd L (f i))):=xF λd hd=>by obtain⟨i,_,rfl⟩:=List.mem_map.mp hd;exact GY L _
def Kj{ls rs:ao Int}:List.zipWith (λa b=>D.tup [a,b]) (ls.map D.int) (rs.map D.int)=(ls.zip rs).map λp=>D.tup [.int p.1,.int p.2]:=by rw[dW,List.zip,List.map_zipWith]
def Ke{ls rs:ao Int}:(ls.zip rs).map (λp=>D.int (p.1+p.2+1))=(List.zipWith (λa b=>a+b+1) ls rs).map D.int:=by rw[List.zip,List.map_zipWith,List.map_zipWith]
def WK{k:Nat}{ρ:DE}{K:Bool->MS->Prop}(ch:Bool)(now:Int)(G:ao Int)(U:ρ[i]?=some (some (.bl ch)))(J:ρ[j]?=some (some (.int now)))(W:ρ[k]?=some (some (.lst (G.map D.int))))(h:∀ c,(c=false->ch=false/\now∉G)->K c μ):Nm (pJ (vS i)) (pJ (wL (Zp false) (vS j) (vS k))) ρ μ K:=by
 unfold Nm pJ wL vS;rw[U,J,W];show if ch=true then K true μ else _;by_cases q:ch=true
 .rw[aB q];exact h true λz=>by cases z
 .rw[aC q];refine⟨rfl,by rw[List.all_map];exact List.all_eq_true.mpr λx _=>rfl,?_⟩;refine h _ λz=>⟨by cases ch with|true=>exact absurd rfl q|false=>rfl,λO=>?_⟩;have L:((G.map D.int).any λd=>mX d (.int now))=false:=by cases q2:((G.map D.int).any λd=>mX d (.int now))with|true=>rw[q2]at z;exact absurd z (by decide)|false=>rfl
  rw[fc]at L;exact L _ (List.mem_map_of_mem O) (by unfold mX;exact beq_self_eq_true now)
def wC:jZ:=λds μ K=>match ds with
 |[.lst b]=>b.length<=2000/\K (.int ((b.length:Int) - 1)) μ
 |_=>False
def A6:jZ:=λds μ K=>match ds with
 |[.lst b]=>b.length<=2000/\K (.lst (j0 b.length (lQ b.length))) μ
 |_=>False
def tZ:jZ:=λds μ K=>match ds with
 |[.lst l,.lst r,.int m]=>∃ J G:ao Int,l=J.map D.int/\r=G.map D.int/\J.length<=2000/\G.length<=2000/\K (.int ((List.zipWith (λa b=>a+b+1) J G).foldl min m)) μ
 |_=>False
def tX:jZ:=λds μ K=>match ds with
 |[.lst b,.lst c,.lst l]=>∃(es own:ao Int) (P:Nat->Nat->Int),b=es.map D.int/\c=own.map D.int/\own.length=es.length/\es.length<=2000/\l=j0 es.length P/\K (.lst (j0 es.length (jW es.length es own P))) μ
 |_=>False
def pV(es:ao Int)(ts:ao Tk)(k:Nat):ao D:=(List.range k).map λa=>D.lst (j0 es.length (gy es ts (a+1)))
def nZ(k:Nat):ao Key:=(List.range k).map λa=>(Sum.inl ((a:Nat):Int):Key)
def t6:jZ:=λds μ K=>match ds with
 |[.int n,.lst x,.lst y,.int a]=>∃(cs:ao Int) (ts:ao Tk),x=cs.map D.int/\y=ts.map mO/\iD n cs ts/\0<=a/\a<=1000/\K (.ka (nZ (a.toNat+1)) (pV (fC n cs) ts (a.toNat+1))) μ
 |_=>False
def Ml(k:Nat):(Sum.inl ((k:Nat):Int):Key)∉nZ k:=λh=>by obtain⟨a,ha,e⟩:=List.mem_map.mp h;rw[cj]at ha;have:=Sum.inl.inj e;lia
def E9(k:Nat):nZ (k+1)=nZ k++[Sum.inl ((k:Nat):Int)]:=by unfold nZ;rw[dj,bT];rfl
def Er(es:ao Int)(ts:ao Tk)(k:Nat):pV es ts (k+1)=pV es ts k++[.lst (j0 es.length (gy es ts (k+1)))]:=by unfold pV;rw[dj,bT];rfl
theorem Hz:∀ {xs:ao Nat} {k:Nat} (g:Nat->D),k∈xs->xY ((xs.map λa=>(Sum.inl ((a:Nat):Int):Key)).zip (xs.map g)) (.inl (k:Int))=some (g k)
 | x::xs,k,g,h=>by
  rw[aw,aw,cP];unfold xY;rw[cw];by_cases e:x=k
  .subst e;simp
  .have:¬ (Sum.inl ((x:Nat):Int):Key)=Sum.inl ((k:Nat):Int):=λz=>e (by have:=Sum.inl.inj z;lia);simp only[this,decide_false];exact Hz g (by rcases List.mem_cons.mp h with q|q;exact absurd q.symm e;exact q)
structure SG (es:List Int)(F:Int->Int):Prop where
 mem:∀ e∈es,F e∈es
 ge:∀ e,e<=F e
 mono:∀ a∈es,∀ b∈es,a<=b->F a<=F b
def CD{n:Int}(S:iD n cs ts)(a:Int):SG (fC n cs) (ky (fC n cs) ts a):=by
 refine⟨λe O=>CH O,λe=>q9 _ _ _ _,λU ha b hb W=>?_⟩;obtain⟨i,hi,e1⟩:=aZ ha;obtain⟨j,L,e2⟩:=aZ hb;have J:(fC n cs)[i]?=some U:=by rw[jo hi,e1]
 have G:(fC n cs)[j]?=some b:=by rw[jo L,e2]
 exact IK S i j _ _ (wW (iK S.n1 S.jD) J G W) (nW J) (nW G)
def UB(hu:es.Pairwise (·<·)){x:Int}(G:x∈es)(g:Int->Int):rowAt es (es.map g) x=g x:=by unfold rowAt;rw[oC,rl G];rfl
def LZ(hu:es.Pairwise (·<·)){g:Int->Int}(J:∀ e∈es,g e∈es):lK es ts (es.map g) a=es.map λe=>max (ky es ts a e) (g (g e)):=by
 apply cD;intro i;by_cases hi:i<es.length
 .have G:es[i]?=some es[i]:=jo hi;have O:=bI hi;rw[wj (nW G) (by rw[oC,G];rfl:(es.map g)[i]?=some (g es[i])),oC,G,UB hu (J _ O)];rfl
 .rw[List.getElem?_eq_none_iff.mpr (by rw[(AM (⟨iE ..,λx L=>by obtain⟨e,G,rfl⟩:=List.mem_map.mp L;exact J e G⟩:ur es (es.map g))).len];lia),List.getElem?_eq_none_iff.mpr (by rw[iE];lia)]
def QM{b:Int}{c:Nat}(ha:0<=a)(hb:0<=b)(h:c∈oE l a b):∃ k:Nat,a<=k/\(k:Int)<b/\l[k]?=some c:=by
 obtain⟨i,rfl⟩:=cI ha;obtain⟨j,rfl⟩:=cI hb;rw[x8]at h;obtain⟨t,ht,e⟩:=aZ h;have g:((l.drop i).take (j - i))[t]?=some c:=by rw[jo ht,e]
 have ht:t<j - i:=aL ht (List.length_take_le ..);rw[bR ht,da]at g;exact⟨i+t,Int.ofNat_le.mpr (aR _ _),by lia,g⟩
def Oq(l1 l2:ao Nat)(p:Int):ao Nat:=l1.take p.toNat++l2.drop p.toNat
def BJ(cs:ao Int)(ts:ao Tk):Nat->ao Nat->Int->Prop
 |0,l,a=>(l,a)∈ts
 |r+1,l,a=>BJ cs ts r l a\/∃ l1 a1 l2 a2 p,BJ cs ts r l1 a1/\BJ cs ts r l2 a2/\p∈cs/\l=Oq l1 l2 p/\a=max a1 a2+1
theorem BJ.up{cs:ao Int}{ts:ao Tk}{l:ao Nat}{a:Int}{r:Nat}(h:BJ cs ts r l a):∀ k,BJ cs ts (r+k) l a
 |0=>h
 |k+1=>.inl (BJ.up h k)
def BJ.le{r G:Nat}(h:BJ cs ts r l a)(J:r<=G):BJ cs ts G l a:=by have:=h.up (G - r);rwa [show r+(G - r)=G by lia]at this
def tI{l1 l2:ao Nat}{p:Int}{k:Nat}(h:p<=l1.length)(hk:(k:Int)<p):(Oq l1 l2 p)[k]?=l1[k]?:=by unfold Oq;rw[uO (by rw[bH];lia),List.getElem?_take,aB (by lia)]
def qy{l1 l2:ao Nat}{p:Int}{k:Nat}(h0:0<=p)(h:p<=l1.length)(hk:p<=(k:Int)):(Oq l1 l2 p)[k]?=l2[k]?:=by unfold Oq;rw[pW (by rw[bH];lia),bH,da];congr 1;lia
def Qe{l1 l2:ao Nat}{p:Int}(h0:0<=p)(h1:p<=l1.length)(h:l1.length=l2.length):(Oq l1 l2 p).length=l1.length:=by unfold Oq;rw[o4,bH,bD];lia
def Ut{l1 l2:ao Nat}{p:Int}(h1:OX l1)(h2:OX l2):OX (Oq l1 l2 p):=λc G=>by
 rcases List.mem_append.mp G with q|q
 .exact h1 c (bp q)
 .exact h2 c (List.mem_of_mem_drop q)
theorem BJ.good{n:Int}{cs:ao Int}{ts:ao Tk}(S:iD n cs ts):∀ {r:Nat} {l:ao Nat} {a:Int},BJ cs ts r l a->(l.length:Int)=n/\OX l/\0<=a/\a<=60+r
 |0,l,a,h=>by have:=S.takes.ok (l,a) h;exact⟨this.1,this.2.1,this.2.2.1,by have:=this.2.2.2;simp at this ⊢;lia⟩
 | r+1,l,a,h=>by
  rcases h with h|⟨l1,a1,l2,a2,p,h1,h2,G,rfl,rfl⟩
  .have:=BJ.good S h;exact⟨this.1,this.2.1,this.2.2.1,by lia⟩
  .have g1:=BJ.good S h1;have J:=BJ.good S h2;have L:=S.jD.R3 p G;exact⟨by rw[Qe (by lia) (by lia) (by lia)];exact g1.1,Ut g1.2.1 J.2.1,by lia,by lia⟩
def Rf(l:ao Nat)(e x:Int):Prop:=∀ k:Nat,e<=k->(k:Int)<x->l[k]?=some 111
def Hl{e x:Int}(G:OX l)(h0:0<=e)(he:e<=l.length)(J:x<=jK es l e):Rf l e x:=λk h1 h2=>by
 have ct:=uX G (e:=e.toNat) (by lia);have:jK es l e<=max e (sv l e.toNat:Int):=by
  unfold jK;rcases lN (es.filter λx=>decide (x<=(sv l e.toNat:Int))) e with q|q
  .rw[q];lia
  .have:=cC (List.mem_filter.mp q).2;lia
 have L:=ct.1;exact ct.2.2.1 k (by lia) (by lia)
def Bk{e x:Int}(L:OX l)(h0:0<=e)(hex:e<=x)(J:x<=l.length)(hm:x∈es)(h:Rf l e x):x<=jK es l e:=by refine zO L h0 J hex hm λz=>?_;obtain⟨k,k1,k2,G⟩:=QM h0 (by lia) z;rw[h k k1 k2]at G;cases G
def RF(es:ao Int)(ts:ao Tk):Nat->Int->Int
 |0=>ky es ts 0
 |a+1=>λe=>max (ky es ts ((a:Int)+1) e) (RF es ts a (RF es ts a e))
theorem mE{n:Int}{cs:ao Int}{ts:ao Tk}(S:iD n cs ts):∀ a,SG (fC n cs) (RF (fC n cs) ts a)
 |0=>CD S 0
 | a+1=>by
  have h:=mE S a;have g:=CD S ((a:Int)+1);refine⟨λe O=>max_mem (g.mem e O) (h.mem _ (h.mem e O)),λe=>?_,λx L y J G=>?_⟩
  .have:=g.ge e;show e<=max _ _;lia
  .have g1:=g.mono x L y J G;have U:=h.mono _ (h.mem x L) _ (h.mem y J) (h.mono x L y J G);show max _ _<=max _ _;lia
theorem GB{n:Int}{cs:ao Int}{ts:ao Tk}(S:iD n cs ts):∀ a,gL (fC n cs) ts a=(fC n cs).map (RF (fC n cs) ts a)
 |0=>rfl
 | a+1=>by show lK (fC n cs) ts (gL (fC n cs) ts a) _=_;rw[GB S a,LZ (iK S.n1 S.jD) (mE S a).mem];rfl
def Yu{n:Int}(S:iD n cs ts)(a:Nat)(e:Int):RF (fC n cs) ts a e<=RF (fC n cs) ts (a+1) e:=by have:=(mE S a).ge (RF (fC n cs) ts a e);show _<=max _ _;lia
def Vr{n:Int}(a:Nat)(e:Int):ky (fC n cs) ts a e<=RF (fC n cs) ts a e:=by
 cases a with
 |zero=>exact bS _
 |succ a=>show ky (fC n cs) ts (((a+1:Nat):Int)) e<=max (ky (fC n cs) ts ((a:Int)+1) e) _;rw[show((a+1:Nat):Int)=(a:Int)+1 by lia];lia
theorem tE{n:Int}{cs:ao Int}{ts:ao Tk}(S:iD n cs ts):∀ {r:Nat} {l:ao Nat} {b:Int} {a:Nat},BJ cs ts r l b->b<=a->∀ e x,e∈fC n cs->x∈fC n cs->e<=x->Rf l e x->x<=RF (fC n cs) ts a e
 | 0,l,b,a,h,hb,e,x,he,G,hex,J=>by have ok:=S.takes.ok (l,b) h;have VW:=jx S.n1 S.jD he;have yN:=jx S.n1 S.jD G;have Y:=Bk ok.2.1 VW.1 hex (by have:=ok.1;simp at this;lia) G J;have W:=sX (es:=fC n cs) (e:=e) h (show(l,b).2<=(a:Int)from hb);have Z:=Vr (n:=n) (cs:=cs) (ts:=ts) a e;exact cF Y (cF W Z)
 | r+1,l,b,a,h,hb,e,x,he,G,hex,J=>by
  rcases h with h|⟨l1,a1,l2,a2,p,h1,h2,U,rfl,rfl⟩
  .exact tE S h hb e x he G hex J
  .have Y:=BJ.good S h1;have W:=BJ.good S h2;have Jo:=S.jD.R3 p U;cases a with
   |zero=>lia
   | succ a =>
    have O:=mE S a;have L:p∈fC n cs:=by unfold fC;simp[U]
    have up:=Yu S a e;have i1:=tE S (a:=a) h1 (by lia);have i2:=tE S (a:=a) h2 (by lia);by_cases q1:x<=p
    .have:=i1 e x he G hex λk k1 k2=>by rw[<- tI (l2:=l2) (p:=p) (by lia) (by lia)];exact J k k1 k2
     lia
    .by_cases q2:p<=e
     .have:=i2 e x he G hex λk k1 k2=>by rw[<- qy (l1:=l1) (p:=p) (by lia) (by lia) (by lia)];exact J k k1 k2
      lia
     .have j1:=i1 e p he L (by lia) λk k1 k2=>by rw[<- tI (l2:=l2) (p:=p) (by lia) (by lia)];exact J k k1 (by lia)
      have j2:=i2 p x L G (by lia) λk k1 k2=>by rw[<- qy (l1:=l1) (p:=p) (by lia) (by lia) (by lia)];exact J k (by lia) k2
      have j3:=O.mono p L _ (O.mem e he) j1
      show x<=max _ _
      lia
def OE{G:ao Nat}(h:txt l=txt G):l=G:=by have:=cf (λz:Str=>z.cps.toList) h;simpa [txt]using this
def QQ{n:Int}(hl:(l.length:Int)=n)(h:Rf l 0 n):l=List.replicate n.toNat 111:=by
 apply cD;intro k;by_cases q:k<l.length
 .rw[h k (by lia) (by lia),dz,aB (by lia)]
 .rw[List.getElem?_eq_none_iff.mpr (by lia),List.getElem?_eq_none_iff.mpr (by rw[aT];lia)]
def Q4(n e x:Int)(h:x<=n)(h0:0<=e):Rf (List.replicate n.toNat 111) e x:=λk k1 k2=>by rw[dz,aB (by lia)]
def Lc:R2:=λx y H Q=>∃ p q vs,x=.ref p/\y=.ref q/\H p=some (.lst vs)/\H q=some (.lst [])/\Q (.bl (!vs.isEmpty)) H
def WX(hu:X.A.units+1<cLine):k7 X (compareOp .NotEq) Lc:=by
 intro fE s σ H x y u v Q I L J h;obtain⟨p,q,vs,rfl,rfl,W,U,k⟩:=h;cases L;cases J;obtain⟨gp,O,pl,_⟩:=I.list (pS.of W);obtain⟨Z,Y,G,_⟩:=I.list (pS.of U);cases Y;have fin:EP X fE σ Q (.bool (!vs.isEmpty)) s:=⟨.bl _,H,I,rfl,k⟩;cases O with
 | nil =>have:=SeqAt.RcNeAt.lists (A:=X.A) (e:=λ_=>true) pl.isList G.isList rfl (by lia) λj h1 h2=>absurd h1 (Nat.not_lt_zero _);exact this X.prog X.w X.xe _ fin
 | cons r rs =>exact SeqAt.RcNeAt.lists_lengths pl.isList G.isList (by simp) (by lia) X.prog X.w X.xe _ fin
def Ny:vV:=λx y μ K=>match y with
 |.lst []=>opt (lv μ x) λds=>K (.bl (!ds.isEmpty)) μ
 |_=>False
def KU:p7 Lc Ny:=λφ H x y dx Y μ K Q M O J k L=>by
 unfold Ny at k;split at k
 .obtain⟨ds,el,k⟩:=ip k;obtain⟨p,vs,rfl,W,ha⟩:=kz M O el;obtain⟨q,G,rfl,_,U,hb⟩:=J;cases(show G=[]from hb);have e:vs.isEmpty=ds.isEmpty:=by have:=ha.len;cases vs<;>cases ds<;>first|rfl|(simp at this)
  exact⟨p,q,vs,rfl,rfl,W,U,by rw[e];exact L.val M k rfl⟩
 .exact k.elim
def LD{k:Nat}{S:Nat->Nat->Int}{g:MS}{v:Int}(G:lA k (j5 S i j) g)(hi:i<k)(L:j<k)(J:S i j=v):lA k (j5 S i (j+1)) (g.set i (.lst ((jd k (j5 S i j i)).set j (.int v)))) :=
 (G.put hi L v).ext λa b _ _=>by
  clear G;unfold j5;by_cases q:a=i/\b=j
  .rw[aB q,q.1,q.2,<- J,aB (.inr ⟨rfl,bG _⟩)]
  .rw[aC q];by_cases h1:a<i\/(a=i/\b<j)
   .rw[aB h1,aB (h1.imp_right λz=>⟨z.1,aV z.2⟩)]
   .rw[aC h1,aC (by lia)]
def IH{k:Nat}{S:Nat->Nat->Int}{g:MS}(G:lA k (j5 S i j) g)(h0:S i j=0):lA k (j5 S i (j+1)) g:=G.ext λa b _ _=>by
 clear G;unfold j5;by_cases h1:a<i\/(a=i/\b<j)
 .rw[aB h1,aB (h1.imp_right λz=>⟨z.1,aV z.2⟩)]
 .rw[aC h1];by_cases h2:a=i/\b=j
  .rw[aB (.inr ⟨h2.1,by rw[h2.2];exact bG _⟩),h2.1,h2.2,h0]
  .rw[aC (by lia)]
def IJ{k:Nat}{S:Nat->Nat->Int}{g:MS}(J:∀ a b,b<=a->S a b=0)(G:lA k (j5 S i 0) g):lA k (j5 S i (i+1)) g:=G.ext λa b _ _=>by
 clear G;unfold j5;by_cases h1:a<i
 .rw[aB (.inl h1),aB (.inl h1)]
 .rw[aC (by lia)];by_cases h2:a=i/\b<i+1
  .rw[aB (.inr h2),J a b (by lia)]
  .rw[aC (by lia)]
def II{k:Nat}{S:Nat->Nat->Int}{g:MS}(J:k<=j)(G:lA k (j5 S i j) g):lA k (j5 S (i+1) 0) g:=G.ext λa b _ hb=>by
 clear G;unfold j5;by_cases h1:a<i\/(a=i/\b<j)
 .rw[aB h1,aB (by lia)]
 .rw[aC h1,aC (by lia)]
def LF{k:Nat}{S:Nat->Nat->Int}(hi:k<=i):j0 k (j5 S i 0)=j0 k S:=by unfold j0;refine bW λa ha=>?_;rw[cj]at ha;rw[oN λb _=>by unfold j5;rw[aB (.inl (aL ha hi))]]
def EI{k:Nat}{S:Nat->Nat->Int}{g:MS}(G:g.length=k)(J:∀ a,a<k->g[a]?=some (.lst (jd k λ_=>0))):lA k (j5 S 0 0) g:=⟨G,λa ha=>by
 rw[J a ha]
 congr 2
 apply oN
 intro j _
 unfold j5
 rw[aC (by lia)]⟩
def Kl(es:ao Int):es.map (λ_:Int=>D.int 0)=jd es.length (λ_=>0):=by unfold jd;rw[List.map_const',List.map_const',tP]
def JF(i j:Nat):kK (λ_ _=>0) i j=[]:=by rw[List.eq_nil_iff_forall_not_mem];intro x G;obtain⟨k,_,_,J,_⟩:=kW.mp G;simp at J
def OI{k:Nat}{T:Nat->Nat->Int}(h:0<k):(j0 k T).isEmpty=false:=by
 cases q:j0 k T with
 |nil=>have:=lG k T;rw[q]at this;exact absurd this (aA h)
 |cons a b=>rfl
def Vl(T:Nat->Nat->Int)(i j:Nat):(List.range (j - (i+1))).filterMap (λx=>(if 0<T i (i+1+x)*T (i+1+x) j then some (T i (i+1+x)+T (i+1+x) j)else none).map D.int)=(kK T i j).map D.int:=by unfold kK;rw[List.map_filterMap]
def A8(n:Int)(cs:ao Int):(fC n cs)[0]?=some 0:=rfl
def oP{e:Int}(h:es[i]?=some e):(jl es ts a).getD i 0=ky es ts a e:=by rw[av,nW h];rfl
def getD_at{e:Int}(h:es[i]?=some e):es.getD i 0=e:=by rw[av,h];rfl
def xX(n:Int)(cs:ao Int):(fC n cs)[cs.length+1]?=some n:=by have:=zG n cs;rwa [gv]at this
end L2
namespace L2
open PySem PySem.Spec PyProof.Rows PySem.SeqAt
end L2
namespace L2
open PySem PySem.Spec PyProof.Rows
variable{H:Hp}{es cs:ao Int}{ts:ao Tk}{μ:MS}{φ ij:ao ai}{ds:ao D}{i j:Nat}{x:Str}{σ:St}{ps:ao Str}{w:af}{mg:Str->aq ak}{fd:ag}{h fF g h':Heap}{f:ai}{d:D}{X:Cx}{v:V}{st:Stmt}{pos':Pos}{env:Env}{ks:ao (ao Key)}{m:MO}{sp:Sp}{fN:ao Env}{wo:De}
def FV(ts J:ao Tk):Prop:=∀ t∈ts,∃ G∈J,G.2=t.2/\∀ k:Nat,t.1[k]?=some 111->G.1[k]?=some 111
def FV.refl(ts:ao Tk):FV ts ts:=λt ht=>⟨t,ht,rfl,λ_ h=>h⟩
structure More (n:Int)(cs:List Int)(ts:List Tk)(rJ:List Int)(yu:List Tk):Prop where
 S:iD n cs ts
 S':iD n rJ yu
 sub:∀ c∈cs,c∈rJ
 good:FV ts yu
def More.refl{n:Int}{cs:ao Int}{ts:ao Tk}(S:iD n cs ts):More n cs ts cs ts:=⟨S,S,λ_ h=>h,.refl ts⟩
def More.ends{n:Int}{G:ao Int}{J:ao Tk}(h:More n cs ts G J){e:Int}(he:e∈fC n cs):e∈fC n G:=by
 unfold fC at he ⊢
 rw[dZ]at he ⊢
 rcases List.mem_cons.mp he with q|q
 .exact List.mem_cons.mpr (.inl q)
 .rcases List.mem_append.mp q with q | q
  .exact nM _ (List.mem_append.mpr (.inl (h.sub e q)))
  .exact nM _ (List.mem_append.mpr (.inr q))
def More.own{n:Int}{O:ao Int}{J:ao Tk}(h:More n cs ts O J){a a' e:Int}(ha:a<=a')(he:e∈fC n cs):ky (fC n cs) ts a e<=ky (fC n O) J a' e:=by
 rw[lJ (fC n cs)];rcases lN ((ts.filter λt=>decide (t.2<=a)).map λt=>jK (fC n cs) t.1 e) e with q|q
 .rw[q];exact q9 _ _ _ _
 .obtain⟨t,ht,et⟩:=List.mem_map.mp q;obtain⟨L,Z⟩:=List.mem_filter.mp ht;rw[<- et];obtain⟨t',U,e2,hc⟩:=h.good t L;have ok:=h.S.takes.ok t L;have G:=h.S'.takes.ok t' U;have Y:=jx h.S.n1 h.S.jD he;have W:=xT (l:=t.1) he;have f2:=(jx h.S.n1 h.S.jD W).2;have hl:=ok.1;have oB:=G.1;have c:=Hl (es:=fC n cs) ok.2.1 Y.1 (by lia) (bS _);exact cF (Bk G.2.1 Y.1 (Hn _ _ _) (by lia) (h.ends W) λk k1 k2=>hc k (c k k1 k2)) (sX U (by rw[e2];exact cF (cC Z) ha))
theorem More.rf{n:Int}{cs J:ao Int}{ts G:ao Tk}(h:More n cs ts J G):∀(a:Nat) {e:Int},e∈fC n cs->RF (fC n cs) ts a e<=RF (fC n J) G a e
 |0,e,he=>h.own (bS _) he
 | a+1,e,he=>by have g:=mE h.S a;have L:=mE h.S' a;have i1:=h.rf a he;have i2:=h.rf a (g.mem e he);have U:=L.mono _ (h.ends (g.mem e he)) _ (L.mem e (h.ends he)) i1;have O:=h.own (a:=(a:Int)+1) (bS _) he;show max _ _<=max _ _;lia
def RD{n:Int}(S:iD n cs ts)(a:Nat){e:Int}(he:(fC n cs)[i]?=some e):(gL (fC n cs) ts a)[i]?=some (RF (fC n cs) ts a e):=by rw[GB S,oC,he];rfl
def More.least{n:Int}{G:ao Int}{J:ao Tk}(h:More n cs ts G J){a:Nat}(hl:gT (fC n cs) ts n a):RF (fC n G) J a 0=n:=by have e:=hl.at_;rw[RD h.S a (A8 n cs)]at e;have e:=aN e;have:=h.rf a (rB n cs);have:=(jx h.S'.n1 h.S'.jD ((mE h.S' a).mem 0 (rB n G))).2;lia
def least_le{n:Int}(S:iD n cs ts){a b:Nat}(h:RF (fC n cs) ts a 0=n)(hl:gT (fC n cs) ts n b):b<=a:=by
 by_cases q:b<=a
 .exact q
 .exact absurd (by rw[RD S a (A8 n cs),h]) (hl.low a (by lia))
def CY{x y:Int}(J:0<=x)(G:0<=y)(h:0<x*y):0<x/\0<y:=by
 refine⟨?_,?_⟩
 .rcases Int.lt_or_le 0 x with q | q
  .exact q
  .rw[show x=0 by lia,Int.zero_mul]at h;exact absurd h (by decide)
 .rcases Int.lt_or_le 0 y with q | q
  .exact q
  .rw[show y=0 by lia,Int.mul_zero]at h;exact absurd h (by decide)
def zf{own:ao Int}{T:Nat->Nat->Int}{v:Int}(J:∀ i j,0<=T i j)(W:i<j)(G:v∈kK T i j):0<kb es own T i j/\kb es own T i j<=v:=by
 have pos:∀ w∈kK T i j,2<=w:=λw L=>by obtain⟨k,_,_,O,rfl⟩:=kW.mp L;have:=CY (J i k) (J k j) O;lia
 have U:=pos v G;have m:=rg (ns:=kK T i j) λz=>by rw[z]at G;cases G
 have m1:=pos _ m.1;have m2:=m.2 v G;unfold kb;rw[aC (by lia)];by_cases q:es.getD j 0<=own.getD i 0
 .rw[aB q];lia
 .rw[aC q];lia
theorem More.tab{n:Int}{cs L:ao Int}{ts U:ao Tk}(h:More n cs ts L U):∀(a a':Nat),a<=a'->∀(i j J G:Nat) (x y:Int),(fC n cs)[i]?=some x->(fC n cs)[j]?=some y->(fC n L)[J]?=some x->(fC n L)[G]?=some y ->
 0<kP (fC n cs) ts a i j->0<kP (fC n L) U a' J G/\kP (fC n L) U a' J G<=kP (fC n cs) ts a i j
 |0,_,_,i,j,J,G,x,y,_,_,_,_,O=>absurd O (Int.lt_irrefl _)
 |a+1,0,ha,_,_,_,_,_,_,_,_,_,_,_=>absurd ha (by lia)
 | a+1,a'+1,ha,i,j,J,G,x,y,hi,W,Z,Eb,O=>by
  have up:=iK h.S.n1 h.S.jD;have ZH:=iK h.S'.n1 h.S'.jD;by_cases qA:j<=i
  .exact absurd (show 0<kb _ _ _ i j from O) (by unfold kb;rw[aB qA];decide)
  have xy:=l6 up hi W (by lia);have Y:J<G:=by
   by_cases q:J<G
   .exact q
   .have:=y7 ZH G J _ _ (by lia) Eb Z;lia
  have bd:=wY (fC n cs) ts a;have bd':=wY (fC n L) U a';by_cases q:y<=ky (fC n cs) ts a x
  .have q':=cF q (h.own (a':=(a':Int)) (by lia) (mR hi));have e':kP (fC n L) U (a'+1) J G=1:=by show kb _ _ _ J G=1;unfold kb;rw[aC (by lia),aB (by rw[getD_at Eb,oP Z];exact q')]
   rw[e'];exact⟨by decide,O⟩
  .have e:kP (fC n cs) ts (a+1) i j=xH (kK (kP (fC n cs) ts a) i j):=by show kb _ _ _ i j=_;unfold kb;rw[aC qA,aC (by rw[getD_at W,oP hi];exact q)]
   rw[e]at O ⊢
   have m:=rg (ns:=kK (kP (fC n cs) ts a) i j) λz=>by rw[z]at O;exact absurd O (by decide)
   obtain⟨k,k1,k2,k3,ek⟩:=kW.mp m.1
   rw[ek]
   have kp:=CY (bd i k).1 (bd k j).1 k3
   have hk:(fC n cs)[k]?=some ((fC n cs).getD k 0):=getD_some (dU k2 (kN W).1)
   have mk:=h.ends (mR hk)
   have JV:=rl mk
   have r1:=h.tab a a' (by lia) i k J _ _ _ hi hk Z JV kp.1
   have r2:=h.tab a a' (by lia) k j _ G _ _ hk W JV Eb kp.2
   have w1:=l6 up hi hk k1
   have w2:=l6 up hk W k2
   have c1:J<(fC n L).idxOf ((fC n cs).getD k 0):=by
    by_cases q:J<(fC n L).idxOf ((fC n cs).getD k 0)
    .exact q
    .have:=y7 ZH _ J _ _ (by lia) JV Z;lia
   have c2:(fC n L).idxOf ((fC n cs).getD k 0)<G:=by
    by_cases q:(fC n L).idxOf ((fC n cs).getD k 0)<G
    .exact q
    .have:=y7 ZH G _ _ _ (by lia) Eb JV;lia
   have st:=zf (es:=fC n L) (own:=jl (fC n L) U a') (λi j=>(bd' i j).1) Y (kW.mpr ⟨_,c1,c2,Int.mul_pos r1.1 r2.1,rfl⟩)
   exact⟨st.1,cF st.2 (Int.add_le_add r1.2 r2.2)⟩
def Im{n:Int}(S:iD n cs ts):∀(a i j:Nat) (x y:Int),(fC n cs)[i]?=some x->(fC n cs)[j]?=some y->i<j->y<=RF (fC n cs) ts a x->0<kP (fC n cs) ts (a+1) i j:=by
 have own:∀(a i j:Nat) (x y:Int),(fC n cs)[i]?=some x->(fC n cs)[j]?=some y->i<j->y<=ky (fC n cs) ts a x->0<kP (fC n cs) ts (a+1) i j:=λa i j x y hi G J L=>by show 0<kb _ _ _ i j;unfold kb;rw[aC (by lia),aB (by rw[getD_at G,oP hi];exact L)];decide
 intro a;induction a with
 |zero=>exact own 0
 | succ a U =>
  intro i j x y hi G J L;by_cases q:y<=ky (fC n cs) ts ((a+1:Nat):Int) x
  .exact own (a+1) i j x y hi G J q
  have L:y<=max (ky (fC n cs) ts ((a:Int)+1) x) (RF (fC n cs) ts a (RF (fC n cs) ts a x)):=L;have O:y<=RF (fC n cs) ts a (RF (fC n cs) ts a x):=by
   have:((a+1:Nat):Int)=(a:Int)+1:=by lia
   rw[this]at q;lia
  have up:=iK S.n1 S.jD;have Z:=(mE S a).mem x (mR hi);have ge:=(mE S a).ge x;obtain⟨k,hk,ek⟩:=aZ Z;have gk:(fC n cs)[k]?=some (RF (fC n cs) ts a x):=by rw[jo hk,ek]
  by_cases q1:y<=RF (fC n cs) ts a x
  .exact((More.refl S).tab (a+1) (a+2) (by lia) i j i j x y hi G hi G (U i j x y hi G J q1)).1
  have W:k<j:=by
   by_cases z:k<j
   .exact z
   .exact absurd (y7 up j k _ _ (by lia) G gk) q1
  have ik:=wW up hi gk ge;by_cases z:i=k
  .subst z;rw[hi]at gk;have gk:=aN gk;rw[<- gk]at O q1;rw[<- gk]at O;exact absurd O q1
  have Y:=U i k x _ hi gk (by lia) (bS _);have p2:=U k j _ y gk G W O;exact(zf (es:=fC n cs) (own:=jl (fC n cs) ts ((a+1:Nat):Int)) (λi j=>(wY (fC n cs) ts (a+1) i j).1) J (kW.mpr ⟨k,by lia,W,Int.mul_pos Y p2,rfl⟩)).1
def qR{n:Int}(S:iD n cs ts){a:Nat}(hl:gT (fC n cs) ts n a):0<kP (fC n cs) ts (a+1) 0 (cs.length+1):=by refine Im S a 0 (cs.length+1) 0 n (A8 n cs) (xX n cs) (by lia) ?_;rw[(More.refl S).least hl];exact bS _
def N7(n:Int)(cs:ao Int)(ts:ao Tk)(x y:Int):Prop:=(iQ (fC n cs) ts≠none/\x=100/\y=100)\/∃ a:Nat,a<=66/\gT (fC n cs) ts n a/\x=(a:Int)/\y=kP (fC n cs) ts (a+1) 0 (cs.length+1) - 1
def N7.nn{n x y:Int}(h:N7 n cs ts x y):0<=x:=by rcases h with⟨_,rfl,_⟩|⟨a,_,_,rfl,_⟩<;> lia
def xl{n:Int}(S:iD n cs ts)(a:Nat):HU (fC n cs).length (kP (fC n cs) ts a) (gy (fC n cs) ts a):=Cq (λa i j hi h=>LJ (iK S.n1 S.jD) i j hi h) a
def yM(C:ai)(μ:MS)(k:Nat):aq (ao Str×ao D):=match μ[k]? with|some (.ins G ns ds)=>if G=C then some (ns,ds)else none|_=>none
def AV{C:ai}{k:Nat}{q:ao Str×ao D}(h:yM C μ k=some q):μ[k]?=some (.ins C q.1 q.2):=by
 unfold yM at h;split at h
 .rename_i C' ns ds e;by_cases z:C'=C
  .rw[aB z]at h;cases h;rw[e,z]
  .rw[aC z]at h;cases h
 .cases h
def pF{C:ai}{k:Nat}{ns:ao Str}(h:μ[k]?=some (.ins C ns ds)):yM C μ k=some (ns,ds):=by unfold yM;rw[h];exact aB rfl
def kS(f:Str):ao Str->ao D->aq D
 |n::ns,d::ds=>if n=f then some d else kS f ns ds
 |_,_=>none
def putN(f:Str)(d:D):ao Str->ao D->ao Str×ao D
 |n::ns,e::ds=>if n=f then(n::ns,d::ds)else(n::(putN f d ns ds).1,e::(putN f d ns ds).2)
 |_,_=>([f],[d])
theorem xJ{φ:ao ai}{H:Hp}{f:Str}{d:D}:∀ {fs:ao (Str×V)} {ds:ao D},f9 φ H ds (fs.map (·.2))->kS f (fs.map (·.1)) ds=some d->∃ v,fs.lookup f=some v/\jG φ H d v
 |[],ds,h,e=>by cases ds<;>cases e
 | (n,x)::fs,ds,h,e=>by
  cases ds with
  |nil=>cases e
  | cons G ds =>
   obtain⟨v,r,e1,h1,h2⟩:=h;simp only[aw,cx]at e1;obtain⟨rfl,rfl⟩:=e1;simp only[aw,kS]at e;rw[dX];by_cases q:n=f
   .rw[aB q]at e;cases e;subst q;exact⟨x,by simp,h1⟩
   .rw[aC q]at e;have:(f==n)=false:=beq_eq_false_iff_ne.mpr λz=>q z.symm;simp only[this];exact xJ h2 e
theorem xI{φ:ao ai}{H:Hp}{f:Str}:∀ {fs:ao (Str×V)} {ds:ao D},f9 φ H ds (fs.map (·.2))->kS f (fs.map (·.1)) ds=none->fs.lookup f=none
 |[],ds,h,e=>rfl
 | (n,x)::fs,ds,h,e=>by
  cases ds with
  |nil=>cases(show _=_ from h)
  | cons G ds =>
   obtain⟨v,r,e1,h1,h2⟩:=h;simp only[aw,cx]at e1;obtain⟨rfl,rfl⟩:=e1;simp only[aw,kS]at e;rw[dX];by_cases q:n=f
   .rw[aB q]at e;cases e
   .rw[aC q]at e;have:(f==n)=false:=beq_eq_false_iff_ne.mpr λz=>q z.symm;simp only[this];exact xI h2 e
theorem GG{φ:ao ai}{H:Hp}{f:Str}{d:D}{v:V}(hd:jG φ H d v):∀ {fs:ao (Str×V)} {ds:ao D},f9 φ H ds (fs.map (·.2))->(oO f v fs).map (·.1)=(putN f d (fs.map (·.1)) ds).1/\f9 φ H (putN f d (fs.map (·.1)) ds).2 ((oO f v fs).map (·.2))
 |[],ds,h=>by cases ds<;>exact⟨rfl,v,[],rfl,hd,rfl⟩
 | (n,x)::fs,ds,h=>by
  cases ds with
  |nil=>cases(show _=_ from h)
  | cons J ds =>
   obtain⟨G,r,e1,h1,h2⟩:=h;simp only[aw,cx]at e1;obtain⟨rfl,rfl⟩:=e1;simp only[oO,aw,putN];by_cases q:n=f
   .rw[aB q,aB q];exact⟨rfl,_,_,rfl,hd,h2⟩
   .rw[aC q,aC q];obtain⟨i1,i2⟩:=GG hd h2;exact⟨by simp only[aw,i1],_,_,rfl,h1,i2⟩
section
variable {X:Cx}{a b e o:Expr}{es:ao Expr}{pos:Pos}{C:ai}
def Yb(C:ai)(f:Str)(w:De):De:=λρ μ K=>w ρ μ λx G=>match x with
 |.mr k=>∃ d,(yM C G k).bind (λq=>kS f q.1 q.2)=some d/\K d G
 |.obj J ns ds=>J=C/\∃ d,kS f ns ds=some d/\K d G
 |_=>False
def og{f:Str}{w:De}(c:FQ X.K C)(n:qO X.K C f)(h:PD X e w)(hb:attributeBase e f X.env (eval e X.env)=eval e X.env:=by rfl):PD X (.Attribute e f pos) (Yb C f w):=(TN h hb).imp λσ H Q Z=>by
 obtain⟨φ,ρ,μ,K,A,M,k,L⟩:=Z;refine⟨φ,ρ,μ,_,A,M,k,λd1 O U v1 H1 k1 W M1 i1=>?_⟩;cases d1 with
 | mr j =>obtain⟨d,e1,k1⟩:=k1;obtain⟨q,e2,e3⟩:=Option.bind_eq_some_iff.mp e1;obtain⟨p,hp,rfl⟩:=i1;obtain⟨p',Y,dx,fs,h1,h2,J⟩:=M1.at_ j _ (AV e2);rw[hp]at Y;cases Y;rw[<- h2]at e3;obtain⟨v,l,G⟩:=xJ J e3;exact⟨p,C,dx,fs,v,rfl,h1,c,n,l,L _ O U v H1 k1 W M1 G⟩
 | obj C' ns ds =>obtain⟨rfl,d,e3,k1⟩:=k1;obtain⟨p,dx,fs,vs,rfl,_,h1,h2,rfl,J⟩:=i1;rw[<- h2]at e3;obtain⟨v,l,G⟩:=xJ J e3;exact⟨p,_,dx,fs,v,rfl,h1,c,n,l,L _ O U v H1 k1 W M1 G⟩
 |_=>exact k1.elim
def XU(C:ai)(f:Str)(w wo:De):Ds:=λN ρ μ=>w ρ μ λd L=>wo ρ L λx J=>match x with
 |.mr k=>∃ q G:ao Str×ao D,yM C J k=some q/\putN f d q.1 q.2=G/\q.1.length<1000/\N.nx ρ (J.set k (.ins C G.1 G.2))
 |_=>False
def Cr{f:Str}{w:De}(c:FQ X.K C)(n:qO X.K C f)(he:PD X e w)(ho:PD X o wo)(hs:swapsWith e (some (.Attribute o f pos')) pos.line X.env=pure false:=by rfl):yX X (.Assign [.Attribute o f pos'] e pos) (XU C f w wo) :=
 (Tx ho he hs).imp λE σ H hq=>by
 obtain⟨φ,ρ,μ,N,A,M,k,L⟩:=hq;refine⟨φ,ρ,μ,_,A,M,k,λd gh gC v1 H1 k1 W M1 i1=>?_⟩;refine⟨gC,ρ,gh,_,A.mono W,M1,k1,λd2 iX J v2 H2 k2 U M2 i2=>?_⟩;cases d2 with
 | mr j =>obtain⟨q,_,e2,rfl,hl,k2⟩:=k2;obtain⟨p,O,rfl⟩:=i2;obtain⟨p',e4,dx,fs,h1,h2,h3⟩:=M2.at_ j _ (AV e2);rw[O]at e4;cases e4;have G:Fr J H2 J (upd H2 p (.ins C dx (oO f v1 fs))):=.put (mR O);obtain⟨Z,Y⟩:=GG (f:=f) ((i1.mono U).mono G) (h3.mono G);rw[h2]at Z Y;refine⟨p,C,dx,fs,rfl,h1,c,n,by rw[<- h2,iE]at hl;exact hl,?_⟩;exact L.nx ρ _ J σ _ k2 ((W.trans U).trans G) (A.mono ((W.trans U).trans G)) (M2.put O ⟨dx,_,gc,Z,Y⟩)
 |_=>exact k2.elim
structure yr (P:ae)(w:af)(K:aa)(mg:Str->Option ak)(fF:Heap)(C:ai)(m:Str)(k:Nat)(ps:List Str)(sp:Sp):Prop where
 ex:∃ f fd,gD P w K mg fF kO k f fd ps sp/\Meth K C m f/\Binds K fd ps []
def GD(C:ai)(m:Str)(μ:MS):D->Prop
 |.mr k=>(yM C μ k).map (λq=>kS m q.1 q.2)=some none
 |.obj G ns es=>G=C/\kS m ns es=none
 |_=>False
def Cv{m:Str}(M:gz φ H μ)(i:jG φ H d v)(h:GD C m μ d):∃ p dx fs,v=.ref p/\H p=some (.ins C dx fs)/\fs.lookup m=none:=by
 cases d with
 | mr j =>obtain⟨q,e2,e3⟩:=Option.map_eq_some_iff.mp (show(yM C μ j).map (λq=>kS m q.1 q.2)=some none from h);obtain⟨p,O,rfl⟩:=i;obtain⟨W,J,dx,fs,h1,h2,G⟩:=M.at_ j _ (AV e2);rw[O]at J;cases J;rw[<- h2]at e3;exact⟨p,dx,fs,rfl,h1,xI G e3⟩
 | obj U ns es =>obtain⟨rfl,e3⟩:=(show U=C/\kS m ns es=none from h);obtain⟨p,dx,fs,L,rfl,_,h1,h2,rfl,G⟩:=i;rw[<- h2]at e3;exact⟨p,dx,fs,rfl,h1,xI G e3⟩
 |_=>exact(show False from h).elim
def Ss(C:ai)(m:Str)(f:jZ)(wo:De)(w:DA):De:=λρ μ K=>wo ρ μ λx G=>GD C m G x/\w ρ G λds J=>f (x::ds) J K
def OL{m:Str}{f:jZ}{w:DA}{Q:VK}(h:tD (Ss C m f wo w) σ H Q):KL C m (iL f) [] E0 (tD wo) (VH w) σ H Q:=by obtain⟨φ,ρ,μ,K,A,M,k,L⟩:=h;refine⟨φ,ρ,μ,_,A,M,k,λZ W Y v1 H1 k1 J M1 i1=>?_⟩;obtain⟨p,dx,fs,rfl,h1,h2⟩:=Cv M1 i1 k1.1;refine⟨p,dx,fs,rfl,h1,h2,Y,ρ,W,_,A.mono J,M1,k1.2,λds U O vs H2 k2 G M2 i2=>?_⟩;show iL f (.ref p::(vs++[])) H2 Q E0;rw[b9];exact⟨O,Z::ds,U,K,⟨_,vs,rfl,jG.mono G i1,i2⟩,M2,k2,L.mono (J.trans G)⟩
def ji{m:Str}{f:jZ}{w:DA}{mL:Pos}{pl:Sem Bool}{k:Nat}(CM:yr X.prog X.w X.K X.mg X.fF C m k ps (iL f))(c:FQ X.K C)(G:jE k X.A)(L:PD X o wo)(ha:u9 X (e::es) w)
 (U:starEach (e::es) X.env=(false,eval e X.env)::starEach es X.env:=by rfl) (nK:(backTo pos (starEach es X.env)).any (·.1)=false:=by rfl)
 (ht:eval (.Call (.Attribute o m mL) (e::es) [] pos) X.env=(do
   let ov <- eval o X.env
   standAt mL.atName
   let (f,first) <- holding [ov] (getMethod ov m pl)
   callWith pos f first (backTo pos (starEach (e::es) X.env)) (backToKw pos (keywordEach [] X.env))):=by rfl):
 PD X (.Call (.Attribute o m mL) (e::es) [] pos) (Ss C m f wo w):=by
 obtain⟨f',fd,F,O,hb⟩:=CM.ex;exact(GL L c O F G hb .nil LC ha U nK ht).imp λσ H Q J=>OL J
structure VA (P:ae)(w:af)(K:aa)(mg:Str->Option ak)(fF:Heap)(x:Str)(C:ai)(k:Nat)(ps:List Str)(sp:Sp):Prop where
 ex:∃ f fd,gD P w K mg fF kO k f fd ps sp/\Mk K C f/\mg x=some (.ref C)/\Binds K fd ps []
def Su(C:ai)(f:jZ)(w:DA):De:=λρ μ K=>w ρ μ λds G=>f (.mr G.length::ds) (G++[.ins C [] []]) λd J=>d=.iz/\K (.mr G.length) J
def OM{f:jZ}{w:DA}{Q:VK}(h:tD (Su C f w) σ H Q):Rq C (iL f) [] E0 (VH w) σ H Q:=by
 obtain⟨φ,ρ,μ,K,A,M,k,L⟩:=h;refine⟨φ,ρ,μ,_,A,M,k,λds U G vs H1 k1 f1 M1 i1 x dx hx O ne=>?_⟩;have S1:iM H1 (upd H1 dx (.own x)):=iM.upd O;have Fd:upd H1 dx (.own x) x=none:=by rw[gr (bj ne)];exact hx
 have fa:Fr G H1 G (upd H1 dx (.own x)):=.same S1;obtain⟨M2,f2⟩:=(M1.same S1).snoc (m:=.ins C [] []) (o:=.ins C dx []) Fd ⟨dx,[],gc,rfl,rfl⟩;have Z:=fa.trans f2;have W:jG (G++[x]) (upd (upd H1 dx (.own x)) x (.ins C dx [])) (.mr U.length) (.ref x):=⟨x,by rw[pW (by rw[M1.len];exact ar _),M1.len,aY];rfl,rfl⟩;show iL f (.ref x::(vs++[])) _ _ E0;rw[b9];refine⟨G++[x],.mr U.length::ds,U++[.ins C [] []],_,⟨_,vs,rfl,W,i1.mono Z⟩,M2,k1,λd vk Ic v H3 J Y M3 i3=>?_⟩;obtain⟨rfl,J⟩:=J;exact⟨i3,L _ vk Ic _ H3 J ((f1.trans Z).trans Y) M3 (W.mono Y)⟩
def Fv{f:jZ}{w:DA}{p:Pos}{k:Nat}(W:VA X.prog X.w X.K X.mg X.fF x C k ps (iL f))(J:jE (k+1) X.A)(U:Gl X x)(ha:u9 X (e::es) w)
 (G:(x==("__debug__" : Str))=false:=by decide) (he:starEach (e::es) X.env=(false,eval e X.env)::starEach es X.env:=by rfl) (nK:(backTo pos (starEach es X.env)).any (·.1)=false:=by rfl):
 PD X (.Call (.Name x p) (e::es) [] pos) (Su C f w):=by
 obtain⟨f',fd,F,M,O,hb⟩:=W.ex;exact(Pn M F J U O hb .nil LC ha G he nK).imp λσ H Q L=>OM L
def gP{P:ae}{K:aa}{q:Str}{k:Nat}(G:K.In h)(N:h.Ns mainGlobals mg)(F:jY K x q st f fd)(ok:gD P w K mg fF kO k f fd ps sp)(hb:Binds K fd ps [])
 (a:W.nsIn K mainGlobals x=some (some (.ref f)):=by kernel_rfl):nO P w K mg fF x k ps sp:=⟨f,fd,ok,eW G N a,F.kp,hb⟩
def uf{P:ae}{K:aa}{C:ai}{q:Str}{k:Nat}(F:jY K x q st f fd)(ok:gD P w K mg fF kO k f fd ps sp)(hb:Binds K fd ps [])
 (a:W.findIn K (.ref C) x=some (some (.ref f)):=by kernel_rfl) (i:W.isFn K (.ref f)=true:=by kernel_rfl):yr P w K mg fF C x k ps sp:=⟨f,fd,ok,⟨a,i,F.kp⟩,hb⟩
def QT{P:ae}{K:aa}{C:ai}{y q:Str}{k:Nat}(G:K.In h)(N:h.Ns mainGlobals mg)(F:jY K "__init__" q st f fd)(ok:gD P w K mg fF kO k f fd ps sp)(hb:Binds K fd ps [])
 (n:W.nsIn K mainGlobals y=some (some (.ref C)):=by kernel_rfl) (a:W.findIn K (.ref C) "__init__"=some (some (.ref f)):=by kernel_rfl) (i:W.isFn K (.ref f)=true:=by kernel_rfl) (m:W.makesIn K C=true:=by kernel_rfl) (p:W.keepIn K (.ref C)=true:=by kernel_rfl):VA P w K mg fF y C k ps sp:=⟨f,fd,ok,⟨m,a,i,p⟩,eW G N n,hb⟩
def G1:ao D->aq (ao Key)
 |[]=>some []
 |d::ds=>(Mm d).bind λk=>(G1 ds).map (k::·)
def Us:D->aq (ao Key)
 |.tup ds=>G1 ds
 |_=>none
theorem Di{φ:ao ai}{H:Hp}:∀ {ds:ao D} {vs:ao V} {ks:ao Key},G1 ds=some ks->f9 φ H ds vs->vs=ks.map kV
 |[],_,ks,e,h=>by cases e;exact h
 | d::ds,_,ks,e,h=>by obtain⟨v,r,rfl,h1,h2⟩:=h;unfold G1 at e;obtain⟨k,e1,e2⟩:=Option.bind_eq_some_iff.mp e;obtain⟨G,e3,rfl⟩:=Option.map_eq_some_iff.mp e2;rw[wt e1 h1,Di e3 h2];rfl
def G2{ks:ao Key}(e:Us d=some ks)(h:jG φ H d v):∃ p,v=.ref p/\H p=some (.tup (ks.map kV)):=by
 cases d with
 |tup ds=>obtain⟨p,vs,rfl,_,G,ha⟩:=h;exact⟨p,rfl,by rw[G,Di e ha]⟩
 |_=>cases e
def Nk(μ:MS)(j:Nat):aq (ao (ao Key)×ao D):=match μ[j]? with|some (.lF ks ds)=>some (ks,ds)|_=>none
def QB{q:ao (ao Key)×ao D}(h:Nk μ j=some q):μ[j]?=some (.lF q.1 q.2):=by
 unfold Nk at h;split at h
 .rename_i e;cases h;exact e
 .cases h
def sM(ks:ao (ao Key))(ds:ao D)(k:ao Key):aq D:=match ks,ds with
 |k'::ks,d::ds=>if k'=k then some d else sM ks ds k
 |_,_=>none
def Aa(ks:ao (ao Key))(ds:ao D)(k:ao Key)(d:D):ao (ao Key)×ao D:=if(ks.any λx=>decide (x=k))=true then(ks,(ks.zip ds).map λp=>if p.1=k then d else p.2)else(ks++[k],ds++[d])
theorem Cg{φ:ao ai}{H:Hp}(k:ao Key):∀ {fR:ao (ao Key×V)} {ds:ao D},f9 φ H ds (fR.map (·.2))->(sM (fR.map (·.1)) ds k=none/\pZ fR k=none)\/∃ d v,sM (fR.map (·.1)) ds k=some d/\pZ fR k=some v/\jG φ H d v
 |[],ds,h=>.inl ⟨by cases ds<;>rfl,rfl⟩
 | p::fR,ds,h=>by
  cases ds with
  |nil=>cases(show _=_ from h)
  | cons L ds =>
   obtain⟨v,r,e,J,G⟩:=h;simp only[aw,cx]at e;obtain⟨rfl,rfl⟩:=e;simp only[aw,sM];by_cases hk:p.1=k
   .rw[aB hk];exact .inr ⟨_,_,rfl,qa hk,J⟩
   .rw[aC hk,qc hk];exact Cg k G
def Ky{k:ao Key}(hd:jG φ H d v){fR:ao (ao Key×V)}(ha:f9 φ H ds (fR.map (·.2))):
 (putK fR k v).map (·.1)=(Aa (fR.map (·.1)) ds k d).1/\f9 φ H (Aa (fR.map (·.1)) ds k d).2 ((putK fR k v).map (·.2)):=by
 have ea:(fR.any λp=>decide (p.1=k))=(fR.map (·.1)).any λx=>decide (x=k):=by rw[List.any_map];rfl
 unfold putK Aa;rw[ea];by_cases q:((fR.map (·.1)).any λx=>decide (x=k))=true
 .rw[aB q,aB q];clear q ea;induction fR generalizing ds with
  |nil=>cases(show ds=[] by cases ds with|nil=>rfl|cons _ _=>obtain⟨_,_,e,_⟩:=ha;cases e);exact⟨rfl,rfl⟩
  | cons p fR G =>
   cases ds with
   |nil=>cases(show _=_ from ha)
   | cons U ds =>
    obtain⟨O,r,e2,L,J⟩:=ha;simp only[aw,cx]at e2;obtain⟨rfl,rfl⟩:=e2;obtain⟨i1,i2⟩:=G J;simp only[aw,cP]at i1 ⊢
    by_cases hk:p.1=k
    .rw[aB hk,aB hk];exact⟨by rw[i1],_,_,rfl,hd,i2⟩
    .rw[aC hk,aC hk];exact⟨by rw[i1],_,_,rfl,L,i2⟩
 .rw[aC q,aC q,bT,bT];exact⟨rfl,ha.app ⟨v,[],rfl,hd,rfl⟩⟩
def XZ:De:=λ_ μ K=>K (.mr μ.length) (μ++[.lF [] []])
def QG:PD X (.Dict [] [] pos) XZ:=Lw.imp λσ H Q G p J=>by obtain⟨φ,ρ,μ,K,A,M,k,L⟩:=G;obtain⟨O,f'⟩:=M.snoc (m:=.lF [] []) (o:=.dT []) J ⟨[],gc,rfl,rfl⟩;exact L _ _ _ _ _ k f' O ⟨p,by rw[pW (by rw[M.len];exact ar _),M.len,aY];rfl,rfl⟩
def VP(μ:MS)(j:Nat)(y:D):aq (aq D):=(Nk μ j).bind λq=>(Us y).map λk=>sM q.1 q.2 k
def Mq{y:D}{o:aq D}{vx G:V}(M:gz φ H μ)(O:jG φ H (.mr j) vx)(L:jG φ H y G)(h:VP μ j y=some o):
 ∃ p fR k b,vx=.ref p/\H p=some (.dT fR)/\G=.ref b/\H b=some (.tup (k.map kV))/\((o=none/\pZ fR k=none)\/∃ d v,o=some d/\pZ fR k=some v/\jG φ H d v):=by
 obtain⟨q,e1,e2⟩:=Option.bind_eq_some_iff.mp h;obtain⟨k,e3,rfl⟩:=Option.map_eq_some_iff.mp e2;obtain⟨p,U,rfl⟩:=O;obtain⟨Y,J,fR,h1,h2,W⟩:=M.at_ j _ (QB e1);rw[U]at J;cases J;obtain⟨b,rfl,hb⟩:=G2 e3 L;refine⟨p,fR,k,b,rfl,h1,rfl,hb,?_⟩;rw[<- h2];exact Cg k W
def X3:vV:=λx y μ K=>match x with
 |.mr j=>∃ d,VP μ j y=some (some d)/\K d μ
 |_=>False
def XT{wa wb:De}(hu:X.A.units+1<cLine)(ha:PD X a wa)(hb:PD X b wb)(Y:Rc b):PD X (.Subscript a b pos) (wL X3 wa wb):=(GN hu ha hb Y).imp λσ H Q Z=>by
 obtain⟨φ,ρ,μ,K,A,M,k,L⟩:=Z;refine⟨φ,ρ,μ,_,A,M,k,λd1 gh gC v1 H1 k1 J M1 i1=>?_⟩;refine⟨gC,ρ,gh,_,A.mono J,M1,k1,λd2 W O v2 H2 k2 G M2 i2=>?_⟩;cases d1 with
 | mr j =>
  obtain⟨d,ex,k2⟩:=k2;obtain⟨p,fR,k,b,rfl,h1,rfl,hb,z⟩:=Mq M2 (i1.mono G) i2 ex;rcases z with⟨z,_⟩|⟨d',v,z,ev,U⟩
  .cases z
  .cases z;exact⟨p,v,rfl,by rw[<- ev];exact BN.t h1 hb,L _ W O _ H2 k2 (J.trans G) M2 U⟩
 |_=>exact k2.elim
def HG:vV:=λx y μ K=>match y with
 |.mr j=>∃ o,VP μ j x=some o/\K (.bl (!o.isSome)) μ
 |_=>False
def Ip{wa wb:De}{Q:VK}(h:tD (wL HG wa wb) σ H Q):Gn (tD wa) (tD wb) σ H Q:=by
 obtain⟨φ,ρ,μ,K,A,M,k,L⟩:=h;refine⟨φ,ρ,μ,_,A,M,k,λd1 gh gC v1 H1 k1 U M1 i1=>?_⟩;refine⟨gC,ρ,gh,_,A.mono U,M1,k1,λd2 Z Y v2 H2 k2 O M2 i2=>?_⟩;cases d2 with
 | mr j =>
  obtain⟨W,ex,k2⟩:=k2;obtain⟨p,fR,k,b,rfl,h1,rfl,hb,z⟩:=Mq M2 i2 (i1.mono O) ex;refine⟨p,pZ fR k,rfl,BN.t h1 hb,?_⟩;have es:(pZ fR k).isSome=W.isSome:=by
   rcases z with⟨J,G⟩|⟨d,v,J,G,_⟩
   .rw[J,G];rfl
   .rw[J,G];rfl
  rw[es];exact L _ Z Y _ H2 k2 (U.trans O) M2 rfl
 |_=>exact k2.elim
def KI{wa wb:De}(hu:X.A.units+1<cLine)(ha:PD X a wa)(hb:PD X b wb)(G:behindInMarks .NotIn b=false):JN X (.Compare a [.NotIn] [b] pos) (pJ (wL HG wa wb)):=(EG (IG hu ha hb) G).imp λσ H Q O=>by
 obtain⟨φ,ρ,μ,K,E,M,k,L⟩:=O;refine Ip ⟨φ,ρ,μ,_,E,M,k,λd W U v H' J f Y i=>?_⟩;cases d with
 |bl b=>cases(show v=_ from i);exact⟨b,rfl,L b W U H' J f Y⟩
 |_=>exact J.elim
def Yg(w wo wi:De):Ds:=λN ρ μ=>w ρ μ λd L=>wo ρ L λo J=>wi ρ J λi G=>match o with
 |.mr j=>∃ ks ds k,G[j]?=some (.lF ks ds)/\ks.length<sizeLine/\Us i=some k/\N.nx ρ (G.set j (.lF (Aa ks ds k d).1 (Aa ks ds k d).2))
 |_=>False
def Ti{i:Expr}{w wi:De}(hu:X.A.units+1<cLine)(he:PD X e w)(ho:PD X o wo)(hi:PD X i wi)(hs:swapsWith e (some (.Subscript o i pos')) pos.line X.env=pure false:=by rfl):
 yX X (.Assign [.Subscript o i pos'] e pos) (Yg w wo wi):=(GI hu ho hi he hs).imp λE σ H hq=>by
 obtain⟨φ,ρ,μ,N,A,M,w,L⟩:=hq;refine⟨φ,ρ,μ,_,A,M,w,λd gh gC v1 H1 k1 W M1 i1=>?_⟩;refine⟨gC,ρ,gh,_,A.mono W,M1,k1,λd2 iX lT v2 H2 k2 U M2 i2=>?_⟩;refine⟨lT,ρ,iX,_,A.mono (W.trans U),M2,k2,λd3 vk Z v3 H3 G O M3 i3=>?_⟩;cases d2 with
 | mr j =>obtain⟨ks,ds,k,em,hl,ek,G⟩:=G;obtain⟨p,Y,rfl⟩:=i2.mono O;obtain⟨p',e1,fR,hv,h1,ha⟩:=M3.at_ j _ em;rw[Y]at e1;cases e1;obtain⟨b,rfl,hb⟩:=G2 ek i3;have J:Fr Z H3 Z (upd H3 p (.dT (putK fR k v1))):=.put (mR Y);obtain⟨g1,g2⟩:=Ky (k:=k) ((i1.mono (U.trans O)).mono J) (ha.mono J);rw[h1]at g1 g2;refine⟨p,_,rfl,D5.t hv hb (by have:=cf List.length h1;rw[iE]at this;lia),?_⟩;exact L.nx ρ _ Z σ _ G ((W.trans (U.trans O)).trans J) (A.mono ((W.trans (U.trans O)).trans J)) (M3.put (k:=j) Y ⟨putK fR k v1,gc,g1,g2⟩)
 |_=>exact G.elim
end
def tw(es:ao Int)(ts:ao Tk)(a:Int)(i j:Nat):ao Nat:=(List.range ts.length).filter λx=>match ts[x]? with
 |some t=>decide (t.2<=a)&&decide (es.getD j 0<=jK es t.1 (es.getD i 0))
 |none=>false
def oz(T U:Nat->Nat->Int)(i j:Nat):ao Nat:=((List.range (j - (i+1))).map (i+1+·)).filter λk=>decide (U i k+U k j+1=T i j)
def jg(es:ao Int)(ts:ao Tk):Nat->Nat->Nat->Int
 |0,_,_=>0
 |a+1,i,j=>if gy es ts (a+1) i j=0 then((tw es ts a i j).length:Nat)else((oz (gy es ts (a+1)) (gy es ts a) i j).map λk=>jg es ts a i k*jg es ts a k j).sum
def ju{T U:Nat->Nat->Int}{k:Nat}:k∈oz T U i j↔i<k/\k<j/\U i k+U k j+1=T i j:=by
 unfold oz;rw[List.mem_filter,List.mem_map,bq];constructor
 .rintro⟨⟨x,hx,rfl⟩,h⟩;rw[cj]at hx;exact⟨by lia,by lia,h⟩
 .rintro⟨h1,h2,h3⟩;exact⟨⟨k - (i+1),List.mem_range.mpr (by lia),by lia⟩,h3⟩
def PN(T U:Nat->Nat->Int)(i j:Nat):(oz T U i j).length<=j - (i+1):=by unfold oz;refine aX (df _ _) ?_;rw[iE,tP];exact ar _
def GX(es:ao Int)(ts:ao Tk)(a:Int)(i j:Nat):(tw es ts a i j).length<=ts.length:=by unfold tw;refine aX (df _ _) ?_;rw[tP];exact ar _
theorem KQ{f:Nat->Int}{B:Int}(J:0<=B):∀ {l:ao Nat},(∀ x∈l,0<=f x/\f x<=B)->0<=(l.map f).sum/\(l.map f).sum<=(l.length:Int)*B
 |[],_=>by simp
 | x::l,h=>by
  have h1:=h x (by simp);have h2:=KQ J (l:=l) λy G=>h y (by simp[G]);rw[aw,cu,aU];refine⟨by lia,?_⟩;have e:(((l.length+1:Nat):Int))*B=(l.length:Int)*B+B:=by rw[Int.natCast_add,Int.add_mul];simp
  lia
theorem mI{es:ao Int}{ts:ao Tk}(hL:es.length<=100)(ht:ts.length<=100):∀(a i j:Nat),i<j->j<es.length->0<=jg es ts a i j/\jg es ts a i j<=128 ^ (2*(j - i) - 1)
 |0,i,j,_,_=>⟨by show(0:Int)<=0;lia,by show(0:Int)<=_;exact dm (Int.pow_pos (by lia))⟩
 | a+1,i,j,qA,Z=>by
  have O:∀ n:Nat,(0:Int)<128 ^ n:=λn=>Int.pow_pos (by lia);have e1:(128:Int) ^ (2*(j - i) - 1)=128 ^ (2*(j - i) - 2)*128:=by rw[<- Int.pow_succ,show(2*(j - i) - 2).succ=2*(j - i) - 1 by lia]
  have J:=O (2*(j - i) - 2);rw[e1];generalize hB:(128:Int) ^ (2*(j - i) - 2)=B at J ⊢
  show 0<=(if gy es ts (a+1) i j=0 then(((tw es ts a i j).length:Nat):Int)else _)/\(if gy es ts (a+1) i j=0 then(((tw es ts a i j).length:Nat):Int)else _)<=_;split
  .have:=GX es ts a i j;refine⟨by lia,?_⟩;lia
  .have hm:=PN (gy es ts (a+1)) (gy es ts a) i j;have G:∀ k∈oz (gy es ts (a+1)) (gy es ts a) i j,0<=jg es ts a i k*jg es ts a k j/\jg es ts a i k*jg es ts a k j<=B:=λk hk=>by obtain⟨h1,h2,_⟩:=ju.mp hk;have U:=mI hL ht a i k h1 (by lia);have L:=mI hL ht a k j h2 Z;refine⟨fg U.1 L.1,?_⟩;have:=Int.mul_le_mul U.2 L.2 L.1 (dm (O _));rw[<- Int.pow_add]at this;rw[<- hB,show 2*(j - i) - 2=2*(k - i) - 1+(2*(j - k) - 1) by lia];exact this
   obtain⟨Y,W⟩:=KQ (dm J) G;refine⟨Y,cF W ?_⟩;rw[Int.mul_comm B];exact Int.mul_le_mul_of_nonneg_right (by lia) (dm J)
def wQ{x:Int}{d:Nat}(h0:0<=x)(h:x<=128 ^ d)(hd:d<=2000):Builtin.Int.intBits x<=2 ^ 20:=by
 refine intBits_le_iff.mpr ?_;have e:(128:Int) ^ d=((2 ^ (7*d):Nat):Int):=by rw[Nat.pow_mul];norm_cast
 have h1:x.natAbs<=2 ^ (7*d):=by lia
 refine ck h1 (Nat.pow_lt_pow_right (by lia) ?_);have:(2:Nat) ^ 20=1048576:=by decide
 lia
def Bh(hL:es.length<=100)(ht:ts.length<=100)(a i k j:Nat)(h1:i<k)(h2:k<j)(L:j<es.length):IntMulOk (jg es ts a i k) (jg es ts a k j):=by have J:=mI hL ht a i k h1 (by lia);have G:=mI hL ht a k j h2 L;exact .of_bits (wQ J.1 J.2 (by lia)) (wQ G.1 G.2 (by lia))
section
variable {X:Cx}
def L6:k7 X (binaryOp .Mult) (rI IntMulOk λi j=>.int (i*j)):=VN λ_ _ _ _ _ _ _ G q=>mul_int q G
end
def Sr:vV:=λx y μ K=>match x,y with
 |.int i,.int j=>IntMulOk i j/\K (.int (i*j)) μ
 |_,_=>False
def sO:p7 (rI IntMulOk λi j=>.int (i*j)) Sr:=λφ H x y dx O μ K Q M J G k L=>by
 unfold Sr at k;split at k
 .cases(show x=_ from J);cases(show y=_ from G);exact⟨_,_,rfl,rfl,k.1,L.val M k.2 rfl⟩
 .exact k.elim
def rS(a:Int)(i j:Nat):D:=.tup [.int a,.int i,.int j]
def stK(a i j:Nat):ao Key:=[.inl (a:Int),.inl (i:Int),.inl (j:Int)]
def Gr{a b k l:Nat}(h:stK a i j=stK b k l):a=b/\i=k/\j=l:=by unfold stK at h;simp only[cx,Sum.inl.injEq,and_true]at h;lia
def BA:ao Str:=["places","rows","tables","whole","counts"]
def D2(es:ao Int)(ts:ao Tk)(A j:Nat):ao D:=[.lst (es.map D.int),.lst (ts.map (mV es)),.ka (nZ (A+1)) (pV es ts (A+1)),rS A 0 (es.length - 1),.mr j]
inductive Memo (es:List Int)(ts:List Tk)(A:Nat):List (List Key)->List D->Prop
 |nil:Memo es ts A [] []
 |add {ks:List (List Key)} {ds:List D} (h:Memo es ts A ks ds) {a i j:Nat} (ha:a<=A) (hi:i<es.length) (hj:j<es.length) (hn:stK a i j∉ks):Memo es ts A (ks++[stK a i j]) (ds++[.int (jg es ts (a+1) i j)])
def Memo.len{A:Nat}(h:Memo es ts A ks ds):ds.length=ks.length:=by
 induction h with
 |nil=>rfl
 |add h ha hi L J G=>simp[G]
def Kw{J:ao (ao Key)}{G:ao D}(k:ao Key)(hl:ds.length=ks.length):sM (ks++J) (ds++G) k=match sM ks ds k with | some d=>some d | none=>sM J G k:=by
 induction ks generalizing ds with
 | nil=>cases ds with
  |nil=>rfl
  |cons _ _=>cases hl
 | cons k0 ks L =>
  cases ds with
  |nil=>cases hl
  | cons d ds =>
   simp only[dZ,sM];by_cases h:k0=k
   .rw[aB h,aB h]
   .rw[aC h,aC h];exact L (by simpa using hl)
def Memo.get{A:Nat}(h:Memo es ts A ks ds)(a i j:Nat):(stK a i j∉ks/\sM ks ds (stK a i j)=none)\/(stK a i j∈ks/\sM ks ds (stK a i j)=some (.int (jg es ts (a+1) i j))):=by
 induction h with
 |nil=>exact .inl ⟨by simp,rfl⟩
 | @add ks ds h b k l ha hi L J G =>
  rw[Kw _ h.len];rcases G with⟨h1,h2⟩|⟨h1,h2⟩
  .rw[h2];by_cases e:stK b k l=stK a i j
   .obtain⟨rfl,rfl,rfl⟩:=Gr e;right;exact⟨by simp,by simp[sM]⟩
   .left;refine⟨λz=>?_,by simp only[sM];rw[aC e]⟩;rcases List.mem_append.mp z with z|z
    .exact h1 z
    .exact e (List.mem_singleton.mp z).symm
  .rw[h2];right;exact⟨cG _ h1,rfl⟩
def stN(L a i j:Nat):Nat:=(a*L+i)*L+j
theorem CW:∀(N:Nat) (l:ao Nat),l.Nodup->(∀ x∈l,x<N)->l.length<=N
 | 0,l,_,h=>by
  cases l with
  |nil=>exact ar _
  |cons x l=>exact absurd (h x (by simp)) (Nat.not_lt_zero _)
 | N+1,l,nd,h=>by
  have h1:=CW N (l.filter λx=>decide (x≠N)) (nd.sublist List.filter_sublist) λx G=>by rw[List.mem_filter,bq]at G;have:=h x G.1;lia
  have h2:l.length<=(l.filter λx=>decide (x≠N)).length+1:=by
   clear h1 h;induction l with
   |nil=>simp
   | cons x l J =>
    rw[List.nodup_cons]at nd;rw[dY];by_cases e:x=N
    .subst e;have:l.filter (λy=>decide (y≠x))=l:=List.filter_eq_self.mpr λy L=>by rw[bq];rintro rfl;exact nd.1 L
     rw[aC (by simp),this,aU];lia
    .rw[aB (by simp[e]),aU,aU];have:=J nd.2;lia
  lia
def Memo.codes{A:Nat}(h:Memo es ts A ks ds):∃ cs:ao (Nat×Nat×Nat),cs.Nodup/\(∀ c∈cs,c.1<=A/\c.2.1<es.length/\c.2.2<es.length)/\ks=cs.map λc=>stK c.1 c.2.1 c.2.2:=by
 induction h with
 |nil=>exact⟨[],by simp,by simp,rfl⟩
 | @add ks ds h a i j ha hi W U J =>
  obtain⟨cs,h1,h2,rfl⟩:=J;refine⟨cs++[(a,i,j)],?_,?_,by simp⟩
  .rw[fb];refine⟨h1,by simp,λx O y L=>?_⟩;rw[List.mem_singleton.mp L];rintro rfl;exact U (List.mem_map.mpr ⟨_,O,rfl⟩)
  .intro c G;rcases List.mem_append.mp G with G|G
   .exact h2 c G
   .rw[List.mem_singleton.mp G];exact⟨ha,hi,W⟩
def S9{L a A:Nat}(ha:a<=A)(hi:i<L)(G:j<L):stN L a i j<(A+1)*L*L:=by
 unfold stN;have h1:a*L+i<(A+1)*L:=by have:(a+1)*L<=(A+1)*L:=Nat.mul_le_mul_right L (by lia);rw[Nat.add_mul]at this;lia
 have h2:(a*L+i+1)*L<=(A+1)*L*L:=Nat.mul_le_mul_right L h1;rw[Nat.add_mul]at h2;lia
def Gf{L x y J G:Nat}(O:y<L)(W:G<L)(h:x*L+y=J*L+G):x=J/\y=G:=by
 have hL:0<L:=by lia
 have q:∀ u v:Nat,v<L->(u*L+v) / L=u:=λu v U=>by rw[Nat.mul_comm,Nat.mul_add_div hL,Nat.div_eq_of_lt U,Nat.add_zero]
 have e:x=J:=by rw[<- q x y O,h,q J G W]
 subst e;exact⟨rfl,by lia⟩
def OS{L a b k l:Nat}(hi:i<L)(G:j<L)(hk:k<L)(hl:l<L)(h:stN L a i j=stN L b k l):a=b/\i=k/\j=l:=by obtain⟨h1,h2⟩:=Gf G hl h;obtain⟨O,J⟩:=Gf hi hk h1;exact⟨O,J,h2⟩
def Memo.bd{A:Nat}(h:Memo es ts A ks ds):ks.length<=(A+1)*es.length*es.length:=by
 obtain⟨cs,h1,h2,rfl⟩:=h.codes;rw[iE];have:=CW ((A+1)*es.length*es.length) (cs.map λc=>stN es.length c.1 c.2.1 c.2.2) ?_ ?_
 .rwa [iE]at this
 .refine List.pairwise_map.mpr (List.Pairwise.imp_of_mem (λ{x y} G W ne e=>ne ?_) h1);obtain⟨x1,U,O⟩:=h2 _ G;obtain⟨Z,L,J⟩:=h2 _ W;obtain⟨e1,e2,e3⟩:=OS U O L J e;exact Prod.ext e1 (Prod.ext e2 e3)
 .intro x G;obtain⟨c,Y,rfl⟩:=List.mem_map.mp G;obtain⟨a1,a2,a3⟩:=h2 c Y;exact S9 a1 a2 a3
structure Bm (C:ai)(μ:MS)(k:Nat)(es:List Int)(ts:List Tk)(A j a i b:Nat):Prop where
 at_:μ[k]?=some (.ins C BA (D2 es ts A j))
 ha:a<=A
 Ec:i<b
 hb:b<es.length
 hl:es.length<=100
 ht:ts.length<=100
 hA:A<=100
 ok:gy es ts (a+1) i b<(es.length:Int) - 1
def tU{C:ai}{k:Nat}{ns:ao Str}{f:Str}(h:μ[k]?=some (.ins C ns ds))(e:kS f ns ds=some d):(yM C μ k).bind (λq=>kS f q.1 q.2)=some d:=by rw[pF h];exact e
def mH{C:ai}{k:Nat}{ns:ao Str}{f:Str}(h:μ[k]?=some (.ins C ns ds))(e:kS f ns ds=none):(yM C μ k).map (λq=>kS f q.1 q.2)=some none:=by rw[pF h];exact cf some e
section
variable {es:ao Int}{ts:ao Tk}{A j:Nat}
def zS:kS "places" BA (D2 es ts A j)=some (.lst (es.map D.int)):=by kernel_rfl
def QZ:kS "rows" BA (D2 es ts A j)=some (.lst (ts.map (mV es))):=by kernel_rfl
def u4:kS "tables" BA (D2 es ts A j)=some (.ka (nZ (A+1)) (pV es ts (A+1))):=by kernel_rfl
def um:kS "whole" BA (D2 es ts A j)=some (rS A 0 (es.length - 1)):=by kernel_rfl
def u5:kS "counts" BA (D2 es ts A j)=some (.mr j):=by kernel_rfl
def mK{f:Str}(h:f∈([("is_take" : Str), "clean_takes","halves","counted","count_anew","numbered","rank"]:ao Str)):kS f BA (D2 es ts A j)=none:=by simp only[aO,aH,bN]at h;rcases h with rfl|rfl|rfl|rfl|rfl|rfl|rfl<;>kernel_rfl
def Ab{a:Nat}(ha:a<=A):xY ((nZ (A+1)).zip (pV es ts (A+1))) (.inl (a:Int))=some (.lst (j0 es.length (gy es ts (a+1)))) :=
 Hz (xs:=List.range (A+1)) (k:=a) (λk=>D.lst (j0 es.length (gy es ts (k+1)))) (List.mem_range.mpr (by lia))
def Ac{T:Nat->Nat->Int}{L:Nat}(h:i<L):lS (j0 L T) (i:Int)=some (.lst (jd L (T i))):=jA (mF h)
def Ay{f:Nat->Int}{L:Nat}(h:i<L):lS (jd L f) (i:Int)=some (.int (f i)):=jA (kR h)
end
def wF(C:ai):jZ:=λds μ K=>match ds with
 |[.mr k,s]=>∃(es:ao Int) (ts:ao Tk) (A j a i b:Nat),Bm C μ k es ts A j a i b/\s=rS a i b/\K (.bl (decide (gy es ts (a+1) i b=0))) μ
 |_=>False
def wI(C:ai):jZ:=λds μ K=>match ds with
 |[.mr k,s]=>∃(es:ao Int) (ts:ao Tk) (A j a i b:Nat),Bm C μ k es ts A j a i b/\s=rS a i b/\K (.lst ((tw es ts a i b).map λx=>.int (x:Nat))) μ
 |_=>False
def G9(es:ao Int)(a i b k:Nat):D:=.tup [.int (es.getD k 0),rS ((a:Int) - 1) i k,rS ((a:Int) - 1) k b]
def wH(C:ai):jZ:=λds μ K=>match ds with
 |[.mr k,s]=>∃(es:ao Int) (ts:ao Tk) (A j a i b:Nat),Bm C μ k es ts A j a i b/\s=rS a i b/\1<=a/\K (.lst ((oz (gy es ts (a+1)) (gy es ts a) i b).map (G9 es a i b))) μ
 |_=>False
structure Q8 (es:List Int)(ts:List Tk):Prop where
 nn:∀ a x y,x<es.length->y<es.length->0<=gy es ts a x y
 z:∀ x y,x<es.length->y<es.length->gy es ts 1 x y<(es.length:Int) - 1->gy es ts 1 x y=0
def uS(C:ai)(n:Nat):jZ:=λds μ K=>match ds with
 | [.mr k,s]=>∃(es:ao Int) (ts:ao Tk) (A j a i b:Nat) (ks:ao (ao Key)) (dd:ao D),Bm C μ k es ts A j a i b/\s=rS a i b/\a<n/\Q8 es ts/\k≠j/\μ[j]?=some (.lF ks dd)/\Memo es ts A ks dd /\
  ∀ G J,Memo es ts A G J->K (.int (jg es ts (a+1) i b)) (μ.set j (.lF G J))
 |_=>False
def Bm.put{C:ai}{k:Nat}{A a b:Nat}(h:Bm C μ k es ts A j a i b)(hk:k≠j):Bm C (μ.set j m) k es ts A j a i b:=⟨by rw[aJ (bj hk)];exact h.at_,h.ha,h.Ec,h.hb,h.hl,h.ht,h.hA,h.ok⟩
def gD.never{P:ae}{K:aa}{CX:Ib}{k:Nat}(h:∀ vs H Q E,¬ sp vs H Q E):gD P w K mg fF CX k f fd ps sp :=
 ⟨λvs H Q E q=>(h vs H Q E q).elim,λA fN s H G us vs Q E _ _ _ _ q=>(h vs H Q E q).elim⟩
def Jx{C:ai}(vs:ao V)(H:Hp)(Q:VK)(E:XK):¬ iL (uS C 0) vs H Q E:=λh=>by
 obtain⟨φ,ds,μ,K,_,_,h,_⟩:=h;unfold uS at h;split at h
 .obtain⟨es,ts,A,j,a,i,b,ks,dd,_,_,h,_⟩:=h;lia
 .exact h
def Hq(C:ai):jZ:=λds μ K=>match ds with
 | [.mr k,.int n,.lst x,.lst y]=>∃(cs:ao Int) (ts:ao Tk),x=cs.map D.int/\y=ts.map mO/\iD n cs ts/\cs.length<=60/\iQ (fC n cs) ts=none/\μ[k]?=some (.ins C [] []) /\
  ∀ A:Nat,A<=66->gT (fC n cs) ts n A->K .iz (μ.set k (.ins C BA (D2 (fC n cs) ts A μ.length))++[.lF [] []])
 |_=>False
def cntK(es:ao Int)(ts:ao Tk)(n:Int)(μ:MS)(K:DK):Prop:=match iQ es ts with
 |some _=>K (.int 0) μ
 |none=>∀ a:Nat,a<=66->gT es ts n a->K (.int (jg es ts (a+1) 0 (es.length - 1))) μ
def pI:jZ:=λds μ K=>match ds with
 |[.int n,.lst x,.lst y]=>∃(cs:ao Int) (ts:ao Tk),x=cs.map D.int/\y=ts.map mO/\iD n cs ts/\cs.length<=60/\cntK (fC n cs) ts n μ K
 |_=>False
def za{n:Int}(S:iD n cs ts)(x y:Nat)(L:x<(fC n cs).length)(J:y<(fC n cs).length)(h:gy (fC n cs) ts 1 x y<((fC n cs).length:Int) - 1):gy (fC n cs) ts 1 x y=0:=by
 have U:=xl S 0;have G:=xl S 1 x y L J;by_cases q:y<=x
 .exact G.1 q
 .rcases G.2 (by lia)with⟨_,e⟩ | ⟨g1,g2,g3⟩
  .lia
  .rw[g3];have:kP (fC n cs) ts 1 x y<=1:=by
    show kb (fC n cs) (jl (fC n cs) ts (0:Nat)) (kP (fC n cs) ts 0) x y<=1;unfold kb;split
    .lia
    .split
     .lia
     .have:kK (kP (fC n cs) ts 0) x y=[]:=List.eq_nil_iff_forall_not_mem.mpr λv O=>by obtain⟨k,_,_,z,_⟩:=kW.mp O;exact absurd z (by show ¬ (0:Int)<0*0;lia)
      rw[this];show(0:Int)<=1;lia
   lia
theorem Hf{α:Type}(p:α->Bool)(f:α->D):∀ xs:ao α,xs.filterMap (λx=>if p x=true then some (f x)else none)=(xs.filter p).map f
 |[]=>rfl
 | x::xs=>by
  rw[cL,dY];by_cases h:p x=true
  .rw[aB h,aB h];show _::_=_;rw[Hf p f xs];rfl
  .rw[aC h,aC h];exact Hf p f xs
def Fu(ds:ao D):oa ds=(List.range ds.length).map λx=>D.tup [.int (x:Nat),ds.getD x .iz]:=by
 apply cD;intro i;rw[oC];by_cases h:i<ds.length
 .rw[bo h];unfold oa;rw[bV,bo h,jo h];simp[av,jo h]
 .rw[fv (by rw[m8];lia),fv (by rw[tP];lia)];rfl
def O5(i:Int)(n:Nat):kr i n=(List.range n).map λx=>D.int (i+(x:Nat)):=rfl
def K7{x:Nat}{t:Tk}(h:ts[x]?=some t):(ts.map (mV es)).getD x .iz=mV es t:=by rw[av,oC,h];rfl
def wX{n:Int}(S:iD n cs ts):Q8 (fC n cs) ts:=by
 refine⟨λa x y J G=>?_,λx y J G h=>za S x y J G h⟩;have s:=xl S a x y J G;by_cases q:y<=x
 .rw[s.1 q];lia
 .rcases s.2 (by lia)with⟨_,e⟩|⟨_,_,e⟩<;> lia
def AZ(es:ao Int)(a i b:Nat):G9 es (a+1) i b=λk=>D.tup [.int (es.getD k 0),rS a i k,rS a k b]:=by funext k;unfold G9;rw[show((a+1:Nat):Int) - 1=(a:Int) by lia]
def xb{f:Nat->Int}{M:ao Nat}{z:Nat}(h:z<M.length):((M.take (z+1)).map f).sum=((M.take z).map f).sum+f M[z]:=by rw[List.take_succ,jo h,bT,List.sum_append];simp
def EV(T U:Nat->Nat->Int)(i b:Nat):oz T U i b=((List.range (b - (i+1))).filter λx=>decide (U i (i+1+x)+U (i+1+x) b+1=T i b)).map (i+1+·):=by unfold oz;rw[List.filter_map];rfl
def Memo.same{A:Nat}(h:Memo es ts A ks ds)(a i b:Nat):∀ p∈ks.zip ds,p.1=stK a i b->p.2=.int (jg es ts (a+1) i b):=by
 induction h with
 |nil=>intro p G;cases G
 | @add ks ds h b' O L ha hi W U J =>
  intro p G e;rw[List.zip_append h.len.symm]at G;rcases List.mem_append.mp G with G|G
  .exact J p G e
  .simp only[cP,List.zip_nil_right,List.mem_singleton]at G;subst G;obtain⟨rfl,rfl,rfl⟩:=Gr e;rfl
def Memo.put{A:Nat}(h:Memo es ts A ks ds){a b:Nat}(ha:a<=A)(hi:i<es.length)(hb:b<es.length):
 Memo es ts A (Aa ks ds (stK a i b) (.int (jg es ts (a+1) i b))).1 (Aa ks ds (stK a i b) (.int (jg es ts (a+1) i b))).2/\stK a i b∈(Aa ks ds (stK a i b) (.int (jg es ts (a+1) i b))).1:=by
 have G:(ks.any λx=>decide (x=stK a i b))=true↔stK a i b∈ks:=by simp only[fB,bq];exact⟨λJ=>by obtain⟨x,h1,h2⟩:=J;exact h2▸h1,λh=>⟨_,h,rfl⟩⟩
 unfold Aa;by_cases q:stK a i b∈ks
 .rw[aB (G.mpr q)];refine⟨?_,q⟩;have e:(ks.zip ds).map (λp=>if p.1=stK a i b then D.int (jg es ts (a+1) i b)else p.2)=ds:=by
   have e1:(ks.zip ds).map (λp=>if p.1=stK a i b then D.int (jg es ts (a+1) i b)else p.2)=(ks.zip ds).map (·.2):=bW λp L=>by
    by_cases z:p.1=stK a i b
    .rw[aB z,h.same a i b p L z]
    .rw[aC z]
   rw[e1,List.map_snd_zip (by rw[h.len];exact ar _)]
  rw[e];exact h
 .rw[aC λz=>q (G.mp z)];exact⟨h.add ha hi hb q,by simp⟩
inductive FO (es:List Int)(ts:List Tk)(n:Int):D->Prop
 |no (h:iQ es ts≠none):FO es ts n .iz
 |yes (a:Nat) (ha:a<=66) (hb:iQ es ts=none) (h:gT es ts n a):FO es ts n (.int a)
def E5{n:Int}{K:DK}(h:∀ d,FO es ts n d->K d μ):sf es ts n μ K:=by
 unfold sf;cases hb:iQ es ts with
 |some p=>exact h _ (.no (by rw[hb];simp))
 |none=>exact λa ha G=>h _ (.yes a ha hb G)
inductive Vy (es:List Int)(ts:List Tk)(n:Int):Int->Prop
 |no (h:iQ es ts≠none):Vy es ts n 0
 |yes (a:Nat) (ha:a<=66) (hb:iQ es ts=none) (h:gT es ts n a):Vy es ts n (jg es ts (a+1) 0 (es.length - 1))
def NJ{n:Int}{K:DK}(h:∀ c,Vy es ts n c->K (.int c) μ):cntK es ts n μ K:=by
 unfold cntK;cases hb:iQ es ts with
 |some p=>exact h _ (.no (by rw[hb];simp))
 |none=>exact λa ha G=>h _ (.yes a ha hb G)
abbrev At(g:Heap)(b:ai):Prop:=∃ u,g.get? b=some u
structure Kp (g:Heap)(l:List Env)(h h':Heap):Prop where
 other:∀ b o,h.get? b=some o->At g b->b∉yO l->h'.get? b=some o
 slot:∀ b o,h.get? b=some o->At g b->b∈yO l->∃ sl,h'.get? b=some { o with slots:=sl}
def Kp.trans{l:ao Env}{h1 h2 J:Heap}(a:Kp g l h1 h2)(b:Kp g l h2 J):Kp g l h1 J :=
 ⟨λc o q lt G=>b.other c o (a.other c o q lt G) lt G,λc o q lt G=>by
  obtain⟨U,e⟩:=a.slot c o q lt G
  obtain⟨O,L⟩:=b.slot c _ e lt G
  exact⟨O,L⟩⟩
def Kp.any{l:ao Env}(a:Kp g l h h'){b:ai}{o:Obj}(q:h.get? b=some o)(lt:At g b):∃ G,h'.get? b=some { o with slots:=G}:=by
 by_cases hb:b∈yO l
 .exact a.slot b o q lt hb
 .exact⟨o.slots,a.other b o q lt hb⟩
def Kp.of{l:ao Env}(k:∀ b o,h.get? b=some o->At g b->h'.get? b=some o):Kp g l h h':=⟨λb o q lt _=>k b o q lt,λb o q lt _=>⟨o.slots,k b o q lt⟩⟩
abbrev Gk(g h:Heap):Prop:=∀ b,At g b->At h b
def Kp.gk{l:ao Env}(a:Kp g l h h')(k:Gk g h):Gk g h':=λb hb=>by obtain⟨o,e⟩:=k b hb;obtain⟨J,G⟩:=a.any e hb;exact⟨_,G⟩
def Gk.fresh(k:Gk g h):g.get? h.objs.size=none:=by
 cases q:g.get? h.objs.size with
 |none=>rfl
 |some o=>obtain⟨o',e⟩:=k _ ⟨o,q⟩;exact absurd (jf e) (cq _)
def HS{b c:ai}(h:At g b)(G:g.get? c=none):c≠b:=λz=>by obtain⟨u,e⟩:=h;rw[<- z,G]at e;cases e
def BM(g:Heap)(e:ai)(cls G:ak)(h:Heap):Prop:=∃(oe:Obj) (vs:Array ak) (T:ai) (oT:Obj) (ts:Array ak),(h.get? e=some oe/\(oe.cls=cls/\oe.dict=none)/\oe.data=.fields vs/\vs[1]?=some (.ref T)/\vs[2]?=some .none)/\(g.get? T=none/\T≠e/\h.get? T=some oT/\oT.data=.fields ts/\ts[3]?=some G)/\g.get? e=none
section
variable {M:Model}{A:Around}{E:ak->ah->Prop}{s:ah}
def zF{L e:ai}{oe:Obj}{vs:Array ak}{head:ak}{Qp:Bool}{Q:Unit->ah->Prop}
 (MJ:A.frames=some (env::fN)) (hl:s.heap.FunFrames fF (env::fN)) (hf:env.frame=some L) (he:s.heap.get? e=some oe) (Y:oe.dict=none) (hd:oe.data=.fields vs) (h1:1<vs.size) (h2:vs[2]?=some .none) (W:g.get? e=none) (hs:Gk g s.heap)
 (h:∀ h',BM g e oe.cls (rawInt L) h'->Kp g (env::fN) s.heap h'->Q () {s with heap:=h'}):
 wpAny M A (do let a <- frameOf env;let pl <- entryPlaceOf L Qp;let b <- EntryCells.newEntry head a .none (rawInt L) .none pl;setField (.ref e) 1 b) Q E s:=by
 have J:e∉(env::fN).filterMap (·.frame):=λhm=>by obtain⟨_,o,O,U⟩:=hl.mem hm;rw[he]at O;injection O with O;subst O;exact U vs hd
 refine fV (wpAny_frameOf_fun MJ hl hf λm x=>?_);refine fV (wpAny_entryPlaceOf λpl nK=>?_);unfold EntryCells.newEntry newFields;refine fV (cA ?_ (nK.sizeOk5 _ _ _ _ _));obtain⟨G,Z⟩:∃ G:Obj,G={ cls:=.type "traceback",dict:=none,data:=.fields ([head,.ref L,.none,rawInt L,.none]++(if pl.isEmpty then List.replicate 6 Value.none else pl)).toArray}:=⟨_,rfl⟩;rw[<- Z];have e1:m.get? e=some oe:=(x.2.1 e J).trans he;have e2:=j4 G e1;have hT:(m.push G).get? m.objs.size=some G:=aE m (by rw[Z];rfl);have UW:m.objs.size≠e:=a8 (jf e1);have Xu:=eI hd (·.setIfInBounds 1 (Value.ref m.objs.size));have e3:=bz (Obj.mapFields (·.setIfInBounds 1 (Value.ref m.objs.size))) e2 (fo Xu);refine c9 e2 hd h1 (h _ ⟨_,_,m.objs.size,G,_,⟨e3,⟨Obj.cls_mapFields _ _,by show(Obj.mapFields _ oe).dict=none;unfold Obj.mapFields;split<;>exact Y⟩,Xu,by simp[h1],by rw[Array.getElem?_setIfInBounds_ne (by decide)];exact h2⟩,⟨by rw[x.1];exact hs.fresh,UW,?_,by rw[Z],?_⟩,W⟩ ⟨λb o q lt hb=>?_,λb o q lt hb=>?_⟩)
 .rw[aQ _ _ (bj UW)];exact hT
 .first|(simp;done)|(rcases nK with rfl|⟨_,_,_,_,_,_,_,rfl⟩<;> simp)
 .rw[aQ _ _ (HS lt W)];exact j4 _ ((x.2.1 b hb).trans q)
 .obtain⟨sl,q'⟩:=x.2.2 b o q;exact⟨sl,by rw[aQ _ _ (HS lt W)];exact j4 _ q'⟩
def ER{L e:ai}{oe:Obj}{vs:Array ak}{Q:Unit->ah->Prop}
 (U:A.frames=some (env::fN)) (hl:s.heap.FunFrames fF (env::fN)) (hf:env.frame=some L) (he:s.heap.get? e=some oe) (G:oe.dict=none) (hd:oe.data=.fields vs) (h1:vs[1]?=some .none) (h2:vs[2]?=some .none) (O:g.get? e=none) (J:Gk g s.heap)
 (h:∀ h',BM g e oe.cls (rawInt L) h'->Kp g (env::fN) s.heap h'->Q () {s with heap:=h'}):wpAny M A (noteFrame (.ref e) env) Q E s:=by
 unfold noteFrame;simp only[hf];refine fV (aI he hd h1 ?_);rw[aC (by decide)];exact zF U hl hf he G hd (Array.getElem?_eq_some_iff.mp h1).1 h2 O J h
def zr{L e:ai}{cls:ak}{Q:Unit->ah->Prop}
 (MJ:A.frames=some (env::fN)) (hl:s.heap.FunFrames fF (env::fN)) (hf:env.frame=some L) (Z:Gk g s.heap) (x:BM g e cls .none s.heap)
 (h:∀ h',BM g e cls (rawInt L) h'->Kp g (env::fN) s.heap h'->Q () {s with heap:=h'}):wpAny M A (noteFrame (.ref e) env) Q E s:=by
 obtain⟨oe,vs,T,oT,ts,⟨O,U,hd,h1,h2⟩,⟨hn,UW,G,J,W⟩,G6⟩:=x;unfold noteFrame;simp only[hf];refine fV (aI O hd h1 ?_);rw[aB (show(Value.ref T != Value.none)=true from by simp)];refine fV (aI G J W ?_);rw[aC (show ¬ ((Value.none==rawInt L)=true)from by simp[rawInt])];refine fV (c9 G J (Array.getElem?_eq_some_iff.mp W).1 ?_);have other:∀ b,b≠T->(s.heap.update T (Obj.mapFields (·.setIfInBounds 3 Value.none))).get? b=s.heap.get? b:=λb hb=>aQ _ _ (bj hb);have ff:(s.heap.update T (Obj.mapFields (·.setIfInBounds 3 Value.none))).FunFrames fF (env::fN):=hl.of_keeps λb o q Y=>⟨o,(other b λz=>by rw[z,G]at q;cases q;exact Y _ J).trans q,rfl⟩;have k0:Kp g (env::fN) s.heap (s.heap.update T (Obj.mapFields (·.setIfInBounds 3 Value.none))):=Kp.of λb o q lt=>(other b (bj (HS lt hn))).trans q;exact zF (g:=g) MJ ff hf ((other e (bj UW)).trans O) U.2 hd (Array.getElem?_eq_some_iff.mp h1).1 h2 G6 (k0.gk Z) λh' a k=>h h' (U.1▸a) (k0.trans k)
def n9{l:ao Env}{e:ai}{cls fl:ak}{Q:Unit->ah->Prop}(x:BM g e cls fl s.heap)
 (h:∀ h',BM g e cls .none h'->Kp g l s.heap h'->(∀ b o,s.heap.get? b=some o->(∀ vs,o.data≠.fields vs)->h'.get? b=some o)->Q () {s with heap:=h'}):wpAny M A (setFlight (.ref e) none) Q E s:=by
 obtain⟨oe,vs,T,oT,ts,⟨U,hc,hd,h1,h2⟩,⟨O,Y,J,L,h3⟩,G6⟩:=x;unfold setFlight;refine fV (aI U hd h1 ?_);rw[aB (show(Value.ref T != Value.none)=true from by simp)];have G:=(Array.getElem?_eq_some_iff.mp h3).1;have W:=eI L (·.setIfInBounds 3 ((none:aq ai).elim Value.none λf=>rawInt f));have other:∀ b,b≠T->(s.heap.update T (Obj.mapFields (·.setIfInBounds 3 ((none:aq ai).elim Value.none λf=>rawInt f)))).get? b=s.heap.get? b:=λb hb=>aQ _ _ (bj hb);refine c9 J L G (h _ ⟨oe,vs,T,_,_,⟨(other e (bj Y)).trans U,hc,hd,h1,h2⟩,⟨O,Y,bz _ J (fo W),W,by simp[G]⟩,G6⟩ (Kp.of λb o q lt=>(other b (bj (HS lt O))).trans q) λb o q Z=>(other b λz=>by rw[z,J]at q;cases q;exact Z _ L).trans q)
end
def yA(P:ae)(w:af):Ib:=λfN H s E ev s'=>∃(e:ai) (cls:ak) (H':Hp) (g:Heap),ev=.ref e/\s'.os=s.os/\AllBare s'.gens/\Un (yO fN) [] H H' s.heap s'.heap/\pT P w H' s'.heap/\(Gk s.heap g/\(∀ b,H' b≠none->At g b)/\Gk g s'.heap)/\BM g e cls .none s'.heap/\E cls none H'
def at_of{P:ae}{a:ai}{o:HO}(x:pT P w H h)(e:H a=some o):At h a:=by
 have x:=x a o e;cases o with
 |lst xs=>obtain⟨_,_,_,_,e⟩:=x;exact⟨_,e⟩
 |tup xs=>obtain⟨_,_,_,_,e,_⟩:=x;exact⟨_,e⟩
 |dK fR=>obtain⟨_,_,_,_,o,_,_,e,_⟩:=x;exact⟨_,e⟩
 |dT fR=>obtain⟨_,_,_,_,o,_,_,e,_⟩:=x;exact⟨_,e⟩
 |set S n=>obtain⟨o,_,_,_,e,_⟩:=x;exact⟨_,e⟩
 |ins C dx fs=>obtain⟨_,_,_,e,_⟩:=x;exact⟨_,e⟩
 |own y=>obtain⟨_,e⟩:=x;exact⟨_,e⟩
 |xd fs=>obtain⟨_,⟨_,_,_,e,_⟩,_⟩:=x;exact⟨_,e⟩
 |YZ lo hi=>obtain⟨_,_,_,e⟩:=x;exact⟨_,e⟩
 |Dv G u=>obtain⟨e,_⟩:=x;exact⟨_,e⟩
 |Rn ps=>exact⟨_,(show h.get? a=some _ from x)⟩
 |met f y=>exact⟨_,(show h.get? a=some _ from x)⟩
 |ext φ=>obtain⟨_,⟨_,e⟩,_⟩:=x;exact⟨_,e⟩
def Ff{P:ae}{l:ao Env}(x:pT P w H h)(hb:∀ b,H b≠none->At g b/\b∉yO l)(k:Kp g l h h'):pT P w H h':=λa o e =>
 (x a o e).xf (λb u J q=>by
   have G:H b≠none:=by rcases J with rfl|z<;>intro y<;>simp_all
   exact k.other b u q (hb b G).1 (hb b G).2) (λ_ q=>q) λ_ _ q=>q
section
variable {X:Cx}{fE:ao (ai×Obj)}{σ:St}{H H':Hp}{s:ah}{g h1 h2:Heap}
def Inv.exit(I:Inv X fE σ H s)(W:X.ex=[])(u:Un (yO X.stack) [] H H' s.heap h1)(Y:Gk s.heap g)(k:Kp g X.stack h1 h2):Un X.fs [] X.H₀ H' X.s₀.heap h2:=by
 have nx:∀ b,b∉X.ex:=λb z=>by rw[W]at z;cases z
 have nn:∀ b:ai,b∉([]:ao ai):=λb z=>by cases z
 have J:∀ b o,X.s₀.heap.get? b=some o->At g b:=λb o e=>by obtain⟨o',Z⟩:=I.fF.there b o e (nx b);exact Y b ⟨o',Z⟩
 refine⟨λb o e n hb _=>?_,λb o e n hb _=>?_,λb o e n _=>?_,λb o e _=>?_,λb xs e=>u.uy b xs (I.fF.uy b xs e),λb o xs e=>u.tS b o xs (I.fF.tS b o xs e),λb ps e=>?_⟩
 .have e1:=I.fF.keep b o e n hb (nx b);have n1:=I.fF.free b o e n (nx b);have L:b∉yO X.stack:=λz=>by
   rcases List.mem_cons.mp (I.xc b z)with y|y
   .exact absurd y (aA (aL (jf e) I.ok.above))
   .exact hb y
  exact k.other b o (u.keep b o e1 n1 L (nn b)) (J b o e) L
 .obtain⟨U,e1⟩:=I.fF.slot b o e n hb (nx b);have n1:=I.fF.free b o e n (nx b);obtain⟨O,e2⟩:=u.any e1 n1 (nn b);obtain⟨G,e3⟩:=k.any e2 (J b o e);exact⟨G,e3⟩
 .obtain⟨o',e1⟩:=I.fF.there b o e (nx b);exact u.free b o' e1 (I.fF.free b o e n (nx b)) (nn b)
 .obtain⟨o',e1⟩:=I.fF.there b o e (nx b);obtain⟨o2,e2⟩:=u.there b o' e1 (nn b);obtain⟨U,e3⟩:=k.any e2 (J b o e);exact⟨_,e3⟩
 .obtain⟨m1,e1⟩:=I.fF.uC b ps e;obtain⟨m2,e2⟩:=u.uC b _ e1;exact⟨m1++m2,by rw[e2,Array.append_assoc]⟩
end
section
variable {P:ae}{w:af}{K:aa}{mg:Str->aq ak}{fF:Heap}{N:ao Str}{qual:Str}{scope:Scope}{f:ai}{cd:ak}{A:Around}{fN:ao Env}{s₀ s:ah}{H₀ H:Hp}{E:XK}{fE:ao (ai×Obj)}{σ:St}
def XA:Passes (yA P w) (p6 (yA P w) P w K mg fF N qual scope f cd A fN s₀ H₀ E) E:=λfE σ H s ev s' I c=>by
 obtain⟨e,G,H',g,rfl,os,bare,un,hG,⟨O,L,J⟩,ex,Z⟩:=c;have U:=I.zP (s':=s') (ch:=[]) os un hG bare (λb z=>absurd z (by simp));have MJ:(p6 (yA P w) P w K mg fF N qual scope f cd A fN s₀ H₀ E).A.frames=some (envOfC qual scope s₀.heap.objs.size f cd::fN):=I.ok.frames;show wpAny _ _ (leaving _ (.ref e)) _ _ s';unfold leaving;refine fV (zr MJ U.stack rfl J ex λh1 Y k1=>?_);refine n9 (l:=envOfC qual scope s₀.heap.objs.size f cd::fN) Y λh2 W k2 _=>?_;have k:=k1.trans k2;exact⟨e,G,H',g,rfl,os.trans I.os,bare,I.exit rfl un O k,Ff hG (λb hb=>⟨L b hb,λz=>hb (U.qU b z)⟩) k,⟨λb hb=>by
  obtain⟨o,e0⟩:=hb
  obtain⟨o',e1⟩:=I.fF.there b o e0 (by simp[p6])
  exact O b ⟨o',e1⟩,L,k.gk J⟩,W,Z⟩
def raises{e:ai}{cls:ak}{vs:ao ak}(I:Inv (p6 (yA P w) P w K mg fF N qual scope f cd A fN s₀ H₀ E) fE σ H s)(x:Heap.MadeExcOf s.heap h' e cls vs)(W:E cls none H):(p6 (yA P w) P w K mg fF N qual scope f cd A fN s₀ H₀ E).xe (.ref e) { s with heap:=h'}:=by
 have Z:(p6 (yA P w) P w K mg fF N qual scope f cd A fN s₀ H₀ E).A.frames=some (envOfC qual scope s₀.heap.objs.size f cd::fN):=I.ok.frames;obtain⟨t,U,O,ht⟩:=x.there;have Y:h'.FunFrames fF (envOfC qual scope s₀.heap.objs.size f cd::fN):=(show s.heap.FunFrames fF _ from I.stack).of_keeps λb o q _=>⟨o,x.keeps b o q,rfl⟩;have gk:Gk s.heap h':=λb L=>by obtain⟨o,q⟩:=L;exact⟨o,x.keeps b o q⟩
 show wpAny _ _ (leaving _ (.ref e)) _ _ _;unfold leaving;refine fV (ER (s:={s with heap:=h'}) (g:=s.heap) Z Y rfl U rfl rfl rfl rfl x.new gk λh1 J k1=>?_);refine n9 (l:=envOfC qual scope s₀.heap.objs.size f cd::fN) J λh2 G k2 _=>?_;have k:=k1.trans k2;have un:Un (yO (envOfC qual scope s₀.heap.objs.size f cd::fN)) [] H H s.heap h':=Un.jk x.keeps;have hG:pT P w H h':=(show pT P w H s.heap from I.hG).jk x.keeps;refine⟨e,cls,H,s.heap,rfl,I.os,I.bare,I.exit rfl un (λb hb=>hb) k,Ff hG (λb hb=>⟨?_,λz=>hb (I.qU b z)⟩) k,⟨λb hb=>?_,λb hb=>?_,k.gk gk⟩,G,W⟩
 .cases q:H b with
  |none=>exact absurd q hb
  |some o=>exact at_of (show pT P w H s.heap from I.hG) q
 .obtain⟨o,e0⟩:=hb;obtain⟨o',e1⟩:=I.fF.there b o e0 (by simp[p6]);exact⟨o',e1⟩
 .cases q:H b with
  |none=>exact absurd q hb
  |some o=>exact at_of (show pT P w H s.heap from I.hG) q
end
abbrev DX:=ak->MS->Prop
variable{Kx:DX}
def vf(φ:ao ai)(H:Hp)(Kx:DX)(E:XK):Prop:=∀ c J G H',Kx c J->Fr φ H G H'->gz G H' J->E c none H'
def vf.mono{G:ao ai}{H1:Hp}{E:XK}(h:vf φ H Kx E)(f:Fr φ H G H1):vf G H1 Kx E:=λc L J H' k g M=>h c L J H' k (f.trans g) M
abbrev rL:=ao D->MS->DK->DX->Prop
def Ae(f:rL):Sp:=λvs H Q E=>∃ φ ds μ K Kx,f9 φ H ds vs/\gz φ H μ/\f ds μ K Kx/\vM φ H K Q/\vf φ H Kx E
structure JO (P:ae)(w:af)(K:aa)(mg:Str->Option ak)(fF:Heap)(x:Str)(k:Nat)(ps:List Str)(sp:Sp):Prop where
 ex:∃ f fd,gD P w K mg fF (yA P w) k f fd ps sp/\mg x=some (.ref f)/\W.keepIn K (.ref f)=true/\Binds K fd ps []
structure Rz (X:Cx)(ij:List ai)(H0:Hp)(Kx:DX):Prop where
 ex:∃ E:XK,vf ij H0 Kx E/\Passes (yA X.prog X.w) X E
structure Rm (X:Cx)(ij:List ai)(H0:Hp)(Kx:DX):Prop where
 ex:∃ E:XK,vf ij H0 Kx E/\Passes (yA X.prog X.w) X E/\∀(fE:List (ai×Obj)) (σ:St) (H:Hp) (s:ah) (h':Heap) (e:ai) (cls:ak) (vs:List ak),Inv X fE σ H s->Heap.MadeExcOf s.heap h' e cls vs->E cls none H->X.xe (.ref e) {s with heap:=h'}
def Rm.z{H0:Hp}(h:Rm X ij H0 Kx):Rz X ij H0 Kx:=let ⟨E,a,b,_⟩:=h.ex;⟨E,a,b⟩
def gz.Ql{H0:Hp}(M:gz φ H μ)(e:μ[0]?=some (.gx ij H0)):Fr ij H0 φ H:=let ⟨_,_,h⟩:=M.at_ 0 _ e;h.1
def yY.nt{p:ai}(h:yY φ H m p)(zs:ao V):H p≠some (.tup zs):=λe=>by
 cases m with
 |box=>obtain⟨q,ns,i,r,z,h1,_⟩:=h;rw[e]at h1;cases h1
 |lst ds=>obtain⟨vs,h1,_⟩:=h;rw[e]at h1;cases h1
 |ka ks ds=>obtain⟨fR,vs,h1,_⟩:=h;rw[e]at h1;cases h1
 |xS o fR ds=>have h1:=h.1;rw[e]at h1;cases h1
 |ins C ns ds=>obtain⟨dx,fs,h1,_⟩:=h;rw[e]at h1;cases h1
 |lF ks ds=>obtain⟨fR,h1,_⟩:=h;rw[e]at h1;cases h1
 |gx ij H0=>exact h.2.2.2 zs e
 |exc c=>rw[show _=_ from h]at e;cases e
def gz.ghost(M:gz φ H μ)(e:μ[0]?=some m):gz φ H (μ.set 0 (.gx φ H)):=by
 have J:0<μ.length:=(kN e).1;refine⟨M.nd,by rw[bL];exact M.len,λk n G=>?_⟩;by_cases hk:k=0
 .subst hk;rw[aG J]at G;cases G;obtain⟨p,e1,e2⟩:=M.at_ 0 m e;exact⟨p,e1,.refl _ _,rfl,e2.ex,e2.nt⟩
 .rw[aJ (bj hk)]at G;exact M.at_ k n G
def gz.back{O:ao ai}{H':Hp}{G:MS}(M:gz φ H μ)(e:μ[0]?=some m)(L:gz O H' G)(U:G[0]?=some (.gx φ H)):gz O H' (G.set 0 m):=by
 have h0:0<G.length:=(kN U).1;refine⟨L.nd,by rw[bL];exact L.len,λk n J=>?_⟩;by_cases hk:k=0
 .subst hk;rw[aG h0]at J;cases J;obtain⟨W,e1,f,Z,_⟩:=L.at_ 0 _ U;obtain⟨p,e2,Y⟩:=M.at_ 0 m e;have:=f.get e2;rw[e1]at this;cases this;exact⟨W,e1,Y.mono f λo q=>Z.trans q⟩
 .rw[aJ (bj hk)]at J;exact L.at_ k n J
def gK(ij:ao ai)(H0:Hp)(m:MO)(K:DK):DK:=λd G=>G[0]?=some (.gx ij H0)/\K d (G.set 0 m)
def gX(ij:ao ai)(H0:Hp)(m:MO)(K:DX):DX:=λc G=>G[0]?=some (.gx ij H0)/\K c (G.set 0 m)
def vM.ghost{K:DK}{Q:VK}(L:vM φ H K Q)(M:gz φ H μ)(e:μ[0]?=some m):vM φ H (gK φ H m K) Q:=λd U G v H' ⟨J,k⟩ f O i=>L d _ G v H' k f (M.back e O J) i
def vf.ghost{K:DX}{Q:XK}(L:vf φ H K Q)(M:gz φ H μ)(e:μ[0]?=some m):vf φ H (gX φ H m K) Q:=λc U G H' ⟨J,k⟩ f O=>L c _ G H' k f (M.back e O J)
section
variable {X:Cx}{e:Expr}{es:ao Expr}{pos:Pos}{ij:ao ai}{H0:Hp}{Kx:DX}
def Vh(ij:ao ai)(H0:Hp)(Kx:DX)(f:rL)(w:DA):De:=λρ μ K=>w ρ μ λds G=>G[0]?=some (.gx ij H0)/\f ds G K Kx
def Bf{f:rL}{w:DA}{p:Pos}{k:Nat}(Z:Rz X ij H0 Kx)(C:JO X.prog X.w X.K X.mg X.fF x k ps (Ae f))(J:jE k X.A)(W:Gl X x)(ha:u9 X (e::es) w)
 (G:(x==("__debug__" : Str))=false:=by decide) (he:starEach (e::es) X.env=(false,eval e X.env)::starEach es X.env:=by rfl) (nK:(backTo pos (starEach es X.env)).any (·.1)=false:=by rfl):
 PD X (.Call (.Name x p) (e::es) [] pos) (Vh ij H0 Kx f w):=by
 obtain⟨E,LX,O⟩:=Z.ex;obtain⟨f',fd,F,U,hk,hb⟩:=C.ex;exact(AB F J W U hk hb .nil O ha G he nK).imp λσ H Q ⟨φ,ρ,μ,K,Ee,M,w,L⟩ =>⟨φ,ρ,μ,_,Ee,M,w,λds Y gC vs H1 k1 f1 M1 i1=>by show Ae f (vs++[]) H1 Q E;rw[b9];exact⟨gC,ds,Y,K,Kx,i1,M1,k1.2,L.mono f1,LX.mono (M1.Ql k1.1)⟩⟩
def Ve(ij:ao ai)(H0:Hp)(Kx:DX)(C:ai)(w:DA):Ds:=λ_ ρ μ=>w ρ μ λds G=>ds.length<=sizeLine/\G[0]?=some (.gx ij H0)/\Kx (.ref C) G
def qY{w:DA}{C:ai}{bm BA:ao ak}{B Y newId J UA U:String}{np lV:Pos}(Z:Rm X ij H0 Kx)(hc:X.gY=true)(O:OwnCls x C bm newId X.mg X.fF)(Fn:ExcBaseFacts Y newId U BA)(W:bm.contains (.type Y)=true)
 (FB:ExcBaseFacts B J UA bm) (hg:Gl X x) (ha:u9 X (e::es) w) (hd:(x==("__debug__" : Str))=false:=by decide)
 (he:starEach (e::es) X.env=(false,eval e X.env)::starEach es X.env:=by rfl) (nK:(backTo lV (starEach es X.env)).any (·.1)=false:=by rfl):
 yX X (.Raise (some (.Call (.Name x np) (e::es) [] lV)) none pos) (Ve ij H0 Kx C w):=λfE s σ H D I hq=>by
 obtain⟨φ,ρ,μ,N,A,M,k,L⟩:=hq;obtain⟨E,LX,hp,mk⟩:=Z.ex;obtain⟨tl,Na,nm,q,bs,hdct,sn,sub,ab,col,dd,k0,k1,k2,k3,k5,mN,hC,hN,Y8,T⟩:=O.obj;refine wpAny_Raise_call_subU (C:=C) (nm:=nm) (q:=q) (N:=Na) (bs:=bs) (bm:=tl) (hdct:=hdct) (sn:=sn) (sub:=sub) (ab:=ab) (col:=col) (dd:=dd) (k0:=k0) (k1:=k1) (k2:=k2) (k3:=k3) (k5:=k5)
  Fn W FB (mN:=mN) (T.hasType FB.hasBase) (I.ok.hd hc) (by rw[he];show(false||(backTo lV (starEach es X.env)).any (·.1))=false;rw[nK];rfl) Y8 (rj I hg O.bound ⟨rfl,?_⟩ hd)
 have h:=ha lV fE s σ H (λvs H1=>vs.length<=sizeLine/\E (.ref C) none H1) I ⟨φ,ρ,μ,_,A,M,k,λds gh gC vs H1 k1 f1 M1 i1=>⟨by rw[i1.len];exact k1.1,LX (.ref C) gh gC H1 k1.2.2 (M1.Ql k1.2.1) M1⟩⟩;rw[he]at h ⊢
 refine Calls.evalArgs_plain (bU h (λus s2 qz=>by obtain⟨vs,H1,G,r1,q1⟩:=qz;exact⟨rfl,by rw[<- r1.length];exact q1.1,G.bk _ _ hC,hN.keeps G.bk,T.keeps G.bk,λh' e' mx=>mk fE σ H1 s2 h' e' _ _ G mx q1.2⟩) λ_ _ y=>y)
end
def FX(n:Nat)(K:DX):DX:=λc G=>K c G\/((∀(j:Nat) (m:MO),j<n->G[j]?=some m->zu n m)/\K c (G.take n))
def vf.fx{K:DX}{E:XK}(M:gz φ H μ)(L:vf φ H K E):vf φ H (FX μ.length K) E:=λc U G H' k f J=>by
 rcases k with k|⟨O,k⟩
 .exact L c U G H' k f J
 .have Hw:G.take μ.length=φ:=by obtain⟨⟨Y,rfl,_⟩,_,_⟩:=f;rw[<- M.len,bZ]
  have W:Fr φ H (G.take μ.length) H':=by rw[Hw];exact⟨⟨[],by simp,λ_ h=>nomatch h⟩,f.keep,f.Zm⟩
  exact L c _ _ H' k W (J.kL O)
section
variable {P:ae}{w:af}{K:aa}{mg:Str->aq ak}{fF:Heap}
def jY.Y1{qual:Str}{N:ao Str}{k:Nat}{fs:rL}(F:jY K x qual st f fd)(S:gb N ps (fM st))(len:∀ ds μ G Kx,fs ds μ G Kx->ds.length=ps.length/\∃ m,μ[0]?=some m)
 (qD:∀(O:ak) (A:Around) (fN:ao Env) (s:ah) (H:Hp) (E:XK),jE k (A.deeper (envOfC qual (fM st) s.heap.objs.size f O))->∀(ij:ao ai) (Kb:DX),Rm (p6 (yA P w) P w K mg fF N qual (fM st) f O A fN s H E) ij H Kb ->
   ∃ W,FJ (p6 (yA P w) P w K mg fF N qual (fM st) f O A fN s H E) (jy st) W/\∀ ds μ m G Kx,(∀(j:Nat) (Z:MO),(μ.set 0 (.gx ij H))[j]?=some Z->zu (μ.set 0 (.gx ij H)).length Z)->tx (μ.set 0 (.gx ij H)).length ds->μ[0]?=some m->fs ds μ G Kx->Kb=FX (μ.set 0 (.gx ij H)).length (gX ij H m Kx) ->
    W (EC (μ.set 0 (.gx ij H)).length (gK ij H m G)) (qh N ds) (μ.set 0 (.gx ij H))):gD P w K mg fF (yA P w) (k+1) f fd ps (Ae fs):=by
 obtain⟨oc,od,kV,doc,pm,an,O,ct,Ol,rfl,lk,Dq⟩:=F.ex
 refine Se lk Dq S (λvs H Q E h=>?_) λA fN s H vs Q E hr JU=>?_
 .obtain⟨φ,ds,μ,G,Kx,ha,M,hf,L,LX⟩:=h;rw[ha.len];exact(len ds μ G Kx hf).1
 .obtain⟨φ,ds,μ,G,Kx,ha,M,hf,L,LX⟩:=JU;obtain⟨_,m,Y⟩:=len ds μ G Kx hf;have U:=M.ghost Y;have Lg:=(L.ghost M Y).fz U;obtain⟨W,hW,q⟩:=qD O A fN s H E hr φ (FX (μ.set 0 (.gx φ H)).length (gX φ H m Kx)) ⟨E,(LX.ghost M Y).fx U,XA,λfE σ H' s' h' e cls vs I x hE=>raises I x hE⟩;refine⟨_,hW,φ,qh N ds,μ.set 0 (.gx φ H),EC (μ.set 0 (.gx φ H)).length (gK φ H m G),.start ha,U,q ds μ m G Kx U.bound (by rw[<- U.len];exact ha.bound) Y hf rfl,⟨λjV fX gA iS H' J f' A' M'=>?_,Lg,λ_ _ _ _ _ J _ _ _=>J.elim,λ_ _ _ _ _ J _ _ _=>J.elim⟩⟩;exact Lg .iz fX gA .iz H' J f' M' rfl
end
def yQ:entryFor table "proto.unchain"=some Builtin.«proto.unchain»:=entryFor_of_tree (by kernel_rfl)
section
variable {prog:ae}{w:af}{A:Around}{E:ak->ah->Prop}{s:ah}
def Az{α:Type}{e h:ai}{L oe:Obj}{vs ws:Array ak}{Q:α->ah->Prop}(hh:A.handled=some (.ref h))(W:h≠e)(O:s.heap.get? h=some L)(hd:L.data=.fields vs)(h2:vs[2]?=some .none)(he:s.heap.get? e=some oe)(G:oe.data=.fields ws)(J:2<ws.size)
 (U:E (.ref e) {s with heap:=s.heap.update e (Obj.mapFields (·.setIfInBounds 2 (.ref h)))}):wpAny (model prog w) A (raiseNew (.ref e):Sem α) Q E s:=by
 unfold raiseNew;refine fV (wpAny_handled ?_);rw[hh];dsimp only;rw[aB (show(Value.ref h != Value.ref e)=true from by simp[W])];refine fV (bB (wpAny_runValue (dG yQ ?_)));unfold Builtin.«proto.unchain»
 dsimp only;refine fV (aI O hd h2 ?_);rw[aB (by decide)];refine fV (au (au ?_));exact fV (show wpAny _ _ (setField (.ref e) 2 (.ref h)) _ _ _ from c9 he G J (wpAny_throw U))
def ED{it h:ai}{G:Obj}{vs:Array ak}{x left step:Int}{Q:aq ak->ah->Prop}(hh:A.handled=some (.ref h))(J:s.heap.get? h=some G)(hd:G.data=.fields vs)(h2:vs[2]?=some .none)(hit:IsRangeIter s.heap it x left step)(Y:left<=0)
 (W:∀ h',(∀ b o,s.heap.get? b=some o->h'.get? b=some o)->Q none {s with heap:=h'}):wpAny (model prog w) A (pyNext (.ref it)) Q E s:=by
 have O:s.TypeIs (.ref it) "range_iterator":=⟨_,hit,rfl⟩;unfold pyNext;refine fV (cR (bw (name:=Str.ofString "__next__") O F.slot_range_iterator_next
  (cc F.slot_range_iterator_next O F.entry_range_iterator_next ?_ (F.args_range_iterator_next_1 _))))
 show wpAny _ _ (field (.ref it) 0>>=_) _ _ s;refine fV (aI hit rfl (x:=rawInt x) rfl ?_);show wpAny _ _ (field (.ref it) 1>>=_) _ _ s;refine fV (aI hit rfl (x:=rawInt left) rfl ?_);show wpAny _ _ (field (.ref it) 2>>=_) _ _ s;refine fV (aI hit rfl (x:=rawInt step) rfl ?_);show wpAny _ _ (if left<=0 then _ else _) _ _ s;rw[aB Y];refine fV (dA (fV ?_));show wpAny _ _ (newExc (.type "StopIteration") []>>=_) _ _ _;refine fV ?_;simp only[newExc,newTuple];refine fV (cA ?_ (by size_fits));refine fV (m:=firstArgMember _ _) (wpAny_of_eq (a:=Value.none) (by first|rfl|(simp only[firstArgMember];rfl)) ?_);refine cA ?_ (by size_fits);obtain⟨g,L⟩:∃ g,g=s.heap.push { cls:=Value.type "tuple",data:=Data.seq #[]}:=⟨_,rfl⟩;show wpAny _ _ (raiseNew (.ref (s.heap.push { cls:=Value.type "tuple",data:=Data.seq #[]}).objs.size)) _ _ {s with heap:=(s.heap.push { cls:=Value.type "tuple",data:=Data.seq #[]}).push { cls:=Value.type "StopIteration",data:=Data.fields (#[Value.ref s.heap.objs.size,Value.none,Value.none,Value.none,Value.bool false,Value.none]++ownMembersOf (Value.type "StopIteration") [])}};rw[<- L];have k1:∀ b o,s.heap.get? b=some o->g.get? b=some o:=λb o e=>by rw[L];exact j4 _ e
 have k2:=λb o (e:g.get? b=some o)=>j4 (h:=g) { cls:=Value.type "StopIteration",data:=Data.fields (#[Value.ref s.heap.objs.size,Value.none,Value.none,Value.none,Value.bool false,Value.none]++ownMembersOf (Value.type "StopIteration") [])} e;have ne:h≠g.objs.size:=aA (jf (k1 _ _ J));have U:=aE g (o:={ cls:=Value.type "StopIteration",data:=Data.fields (#[Value.ref s.heap.objs.size,Value.none,Value.none,Value.none,Value.bool false,Value.none]++ownMembersOf (Value.type "StopIteration") [])}) rfl;refine Az (s:={s with heap:=g.push _}) (hh:=hh) ne (k2 _ _ (k1 _ _ J)) hd h2 U rfl (by rw[Array.size_append];show 2<6+_;lia) ?_;refine fV (dR (T:= "StopIteration") (b:=true) ⟨_,bz _ U rfl,rfl⟩ eV ?_);exact au (W _ λb o e=>by
  have e2:=k2 _ _ (k1 _ _ e)
  rw[aQ _ _ (a8 (jf (k1 _ _ e)))]
  exact e2)
end
structure V5 (K:aa)(C:ai):Prop where
 cl:(W.clsIn K C).isSome=true
 ga:W.findIn K (.ref C) "__getattribute__"=some (some (.builtin "BaseException.__getattribute__"))
 gn:W.findIn K (.ref C) "__getattr__"=some none
 ca:W.findIn K (.ref C) "__class__"=some (some (.builtin "object.__class__"))
 cg:W.specialIn K (.builtin "object.__class__") "__get__"=some (some (.builtin "getset_descriptor.__get__"))
 ct:W.takesIn K (.builtin "object.__class__")=some true
 mo:W.mroIn K C (.type "object")=some true
 mb:W.mroIn K C (.type "BaseException")=some true
section
variable {prog:ae}{w:af}{A:Around}{E:ak->ah->Prop}{s:ah}{K:aa}{e C:ai}{oe:Obj}
def Jz{Q:aq ak->ah->Prop}(X:K.In s.heap)(I:W.InstAt s.heap e oe C none)(f:V5 K C)(h:Q (some (.ref C)) { s with toks:=s.toks+1}):wpAny (model prog w) A (getAttr? (.ref e) "__class__") Q E s:=by
 obtain⟨J,g,d,t,os⟩:=s;have G:=I.type (M:=model prog w);have L1:=W.looks_findIn (M:=model prog w) X f.ga;have L2:=W.looks_findIn (M:=model prog w) X f.gn;have L:W.findObj K C none "__class__"=some (.bind (.builtin "getset_descriptor.__get__") (.builtin "object.__class__")):=by obtain⟨cd,O⟩:=Option.isSome_iff_exists.mp f.cl;unfold W.findObj;rw[O,Option.bind_some,f.ca,Option.bind_some];simp[f.cg,f.ct]
 have L3:=W.looks_find (M:=model prog w) X I L;have Z:=W.looks_mroIn (M:=model prog w) X f.mb;unfold getAttr? getAttrBy? getAttrBy;refine fV (wpAny_mkText (fV (cR (bB (fV (G.at (fV (L1.at ?_))))))));show wpAny _ _ (getAttrByItsOwn _ _ _ _ _ _) _ _ _;unfold getAttrByItsOwn;refine fV (show wpAny _ _ (typeLookup (.ref C) "__getattr__") _ _ _ from L2.at ?_);refine fV (cR (bB ?_));show wpAny _ _ (boundAndCalled _ _ _) _ _ _;unfold boundAndCalled;have ga:=PySem.F.attr_ValueError.ga;refine fV (wpAny_of_eq (ga.bind (.ref e)) (wpAny_call (codeAny_call_builtin ga.plain F.entry_bexc_ga ?_)));have Y:W.Looks (model prog w) J (isInstance (.ref e) (.type "BaseException")) true:=G.andThen Z;have hk:builtinKind "BaseException.__getattribute__"=some .slot:=by decide +kernel
 have U:splitId "BaseException.__getattribute__"=some ("BaseException","__getattribute__"):=by decide +kernel
 have ha:=F.args_bexc_ga (.ref e) (.str "__class__" t);show wpAny _ _ (checkBuiltinCall "BaseException.__getattribute__" ⟨[.ref e,.str "__class__" t],[]⟩) _ _ _;simp only[checkBuiltinCall,hk,U];refine fV (Y.at ?_);simp only[if_true,Bool.not_true,dF,if_false];refine wpAny_of_eq ha ?_;show wpAny _ _ (Builtin.«object.__getattribute__» ⟨[.ref e,.str "__class__" t],[]⟩) _ _ _;unfold Builtin.«object.__getattribute__»
 refine fV (au (fV (au (fV (G.at (fV (L3.at ?_)))))));show wpAny _ _ (holding [Value.builtin "object.__class__"] (call (.builtin "getset_descriptor.__get__") [.builtin "object.__class__",.ref e,.ref C])>>=λv=>ret v) _ _ _;refine fV (bB (wpAny_call (W.class_get (ox:=oe) (od:=none) X I f.mo ?_)));refine au ?_;exact W.handed_on rfl (au h)
def Mj(f:V5 K C):W.KitX K (.ref e) (.ref C) (λh=>∃ oe,W.InstAt h e oe C none) where
 ty:=λ_ _ _ U=>by obtain⟨_,I⟩:=U;exact I.type
 it:=λ_ _ X _=>by
  obtain⟨L,G⟩:=Option.isSome_iff_exists.mp f.cl;unfold W.clsIn at G;split at G
  .rename_i c' d' cd' Wq ho;intro A' Q' E' s' k q;unfold isType loadHead;exact fV (wpAny_loadPart (k _ _ (X _ _ ho)) (au q))
  .cases G
 ne:=λh O dd Z n Y X J=>by
  obtain⟨L,G⟩:=Option.isSome_iff_exists.mp f.cl;refine Bool.eq_false_iff.mpr λq=>?_;have e:C=O:=Value.ref.inj (beq_iff_eq.mp q);subst e;unfold W.clsIn at G;split at G
  .rename_i c' d' cd' Wq ho;have z:=(X _ _ ho).symm.trans J;cases z
  .cases G
 ca:=λX ⟨_,I⟩ k=>Jz X I f k
def Jy{g:Array GenState}{d:Drawn}{t:Nat}{os:OsState}{B:ai}{Q:Bool->ah->Prop}{nB Y Z qC:Str}{NB NC:ai}{Zs L Zr U:ao ak}{Ze Zd:Bool}{YX YW:ao Str}{subB Iq:ao ak}{Zv Zu:Bool}{QO QN:aq Bool}{Zo Zn:aq ai}{b0 b1 b2 b3 b5 c0 c1 c2 c3 c5:aq ak}{Y5 Y4:String}
 (O:h.get? B=some (excClassObj nB Y B NB Zs L Ze YX subB Zv QO Zo b0 b1 b2 b3 b5 Y5)) (hC:h.get? C=some (excClassObj Z qC C NC Zr U Zd YW Iq Zu QN Zn c0 c1 c2 c3 c5 Y4)) (he:h.get? e=some oe) (UT:oe.cls=.ref C)
 (J:L.contains (.type "BaseException")=true) (W:(Value.ref C::U).contains (.ref B)=true) (hq:Q true ⟨h,g,d,t,os⟩):wpAny (model prog w) A (excMatches (.ref e) (.ref B)) Q E ⟨h,g,d,t,os⟩:=by
 have G:(Value.ref B::L).contains (.type "BaseException")=true:=by rw[List.contains_cons,J,Bool.or_true]
 have f:=tc_notTuple;unfold excMatches;repeat (first|(with_reducible refine wpAny_loadPart_at he ?_;rw[UT])|with_reducible refine wpAny_loadPart_at O ?_|(with_reducible refine wpAny_isSubtype_exc O ?_;rw[G])|(with_reducible refine wpAny_isSubtype_exc hC ?_;rw[W])|wp_step)
 exact hq
end
section
variable {X:Cx}{a e:Expr}{es:ao Expr}{pos:Pos}
def Xc{c:V}{cv:ak}(rc:∀ u,gB c u->u=cv):jM X (.builtin "isinstance") (λvs H Q=>∃ e C b,vs=[.ref e,c]/\H e=some (.ext (mZ e (.ref C)))/\V5 X.K C/\W.kitOne X.K (.ref C) cv=some b/\Q (.bl b) H):=by intro fE s σ H vs us Q I r q;obtain⟨e,C,b,rfl,U,f,hk,q⟩:=q;obtain⟨J,G,rfl,O,L⟩:=r.two;cases(show J=.ref e from O);have:=rc G L;subst this;obtain⟨⟨oe,ws,h1,h2,Z,Y,_⟩,_,_⟩:=(show jj X.prog X.w H s.heap e (.ext (mZ e (.ref C)))from I.hG e _ U);exact du (Mj f) I.tH ⟨oe,h1,h2,by unfold W.notCls;rw[Y],by rw[Z];trivial⟩ hk (λz=>nomatch z) λtk=>⟨.bl b,H,I.tok tk,rfl,q⟩
def ND(K:aa)(cv:ak)(w:De):De:=λρ μ J=>w ρ μ λd G=>match d with
 |.mr k=>∃ C b,G[k]?=some (.exc (.ref C))/\V5 K C/\W.kitOne K (.ref C) cv=some b/\J (.bl b) G
 |_=>False
def Gm{c:V}{cv:ak}{w:De}{Q:VK}(h:tD (ND X.K cv w) σ H Q):YT (λvs H Q=>∃ e C b,vs=[.ref e,c]/\H e=some (.ext (mZ e (.ref C)))/\V5 X.K C/\W.kitOne X.K (.ref C) cv=some b/\Q (.bl b) H) (zc (tD w) (zc (tC c) KJ)) σ H Q:=by
 obtain⟨φ,ρ,μ,K,A,M,k,L⟩:=h;refine⟨φ,ρ,μ,_,A,M,k,λd J O Y H1 k1 U M1 i1=>?_⟩;cases d with
 | mr j =>obtain⟨C,b,e1,f,hk,k1⟩:=k1;obtain⟨p,G,rfl⟩:=i1;obtain⟨Z,e2,e3⟩:=M1.at_ j _ e1;rw[G]at e2;cases e2;exact⟨p,C,b,rfl,e3,f,hk,L _ J O _ H1 k1 U M1 rfl⟩
 |_=>exact k1.elim
def kA{w:De}{B:ai}{p p2:Pos}(G:Gl X "isinstance")(hm:X.mg "isinstance"=none)(J:Gl X x)(L:X.mg x=some (.ref B))(ha:PD X a w)(hd:(x==("__debug__" : Str))=false:=by decide)
 (hs:starEach [a,.Name x p2] X.env=(false,eval a X.env)::starEach [.Name x p2] X.env:=by rfl) (rE:starEach [.Name x p2] X.env=(false,eval (.Name x p2) X.env)::starEach [] X.env:=by rfl) (nK:(backTo pos (starEach [.Name x p2] X.env)).any (·.1)=false:=by rfl):
 PD X (.Call (.Name "isinstance" p) [a,.Name x p2] [] pos) (ND X.K (.ref B) w):=
 (hJ (Xc (c:=.ref B) (cv:=.ref B) λu r=>r) G hm boot_isinstance (gm ha (gm (Po (v:=.ref B) J L rfl hd) iJ rE) hs) (by decide) (by decide) hs nK).imp λσ H Q q=>Gm q
def U9{w:De}{T:String}{p p2:Pos}(L:Gl X "isinstance")(hm:X.mg "isinstance"=none)(O:Gl X x)(U:X.mg x=none)(G:bootBuiltins x=some (.type T))(ha:PD X a w)(J:x ≠ "__name__":=by decide)(hd:(x==("__debug__" : Str))=false:=by decide)
 (hs:starEach [a,.Name x p2] X.env=(false,eval a X.env)::starEach [.Name x p2] X.env:=by rfl) (rE:starEach [.Name x p2] X.env=(false,eval (.Name x p2) X.env)::starEach [] X.env:=by rfl) (nK:(backTo pos (starEach [.Name x p2] X.env)).any (·.1)=false:=by rfl):
 PD X (.Call (.Name "isinstance" p) [a,.Name x p2] [] pos) (ND X.K (.type T) w):=
 (hJ (Xc (c:=.ty T) (cv:=.type T) λu r=>r) L hm boot_isinstance (gm ha (gm (jF (v:=.ty T) O U G rfl J hd) iJ rE) hs) (by decide) (by decide) hs nK).imp λσ H Q q=>Gm q
end
def Vv(lo:Int)(n:Nat)(e:ai):It:=⟨λi _=>i<n,λi H x H'=>H'=H/\x=.int (lo+i),λi H=>n<=i/\∃ c,H e=some (.ext (mZ e c))⟩
def HX(e:ai):Cx->Prop:=λX=>X.A.handled=some (.ref e)
def Ci{P:ae}{K:aa}{tg:Expr}(it:ai)(lo:Int)(n:Nat)(e:ai):Turn P w K tg (Vv lo n e) [it] it (λi h=>IsRangeIter h it (lo+(i:Nat)*1) ((n:Int) - (i:Nat)) 1) (HX e) where
 mem:=by simp
 obj:=(o7 (P:=P) (w:=w) (K:=K) (tg:=tg) it lo n).obj
 keep:=(o7 (P:=P) (w:=w) (K:=K) (tg:=tg) it lo n).keep
 item:=by
  intro X O L U W i fE s σ H E I J st G;subst O L U;obtain⟨f0,f1,f2,f3,Z,Y⟩:=J it (by simp);refine wpAny_pyNext_range_item st (by have:i<n:=G;lia) λh' Rw kk=>?_;have I1:Inv X fE σ H {s with heap:=h',toks:=s.toks+1}:=I.turned (λb o hb e=>kk.extBut b o hb e) f0 f1 f3 Z Y;have JS:IsRangeIter h' it (lo+((i+1:Nat):Int)*1) ((n:Int) - ((i+1:Nat):Int)) 1:=by
   have e1:lo+((i+1:Nat):Int)*1=lo+(i:Int)*1+1:=by lia
   have e2:(n:Int) - ((i+1:Nat):Int)=(n:Int) - (i:Int) - 1:=by lia
   rw[e1,e2];exact Rw
  refine⟨_,rfl,MR (s:={s with heap:=h',toks:=s.toks+1}) (n:= "range_iterator") Rw rfl rfl (by decide) ⟨.int (lo+i),H,I1,⟨s.toks,by rw[Int.mul_one]⟩,⟨rfl,rfl⟩,JS,λb hb=>(J b hb).1⟩⟩
 done:=by intro X O L U W i fE s σ H E I J st G;subst O L U;obtain⟨f0,f1,f2,f3,Z,Y⟩:=J it (by simp);obtain⟨G,c,he⟩:=G;obtain⟨⟨oe,ws,h1,h2,h3,h4,h5⟩,_,_⟩:=(show jj X.prog X.w H s.heap e (.ext (mZ e c))from I.hG e _ he);exact ED W h1 h4 h5 st (by lia) λh' k=>⟨rfl,I.jk (t':=s.toks) k⟩
 self:=(o7 (P:=P) (w:=w) (K:=K) (tg:=tg) it lo n).self
section
variable {X:Cx}{tg:Expr}{CM:Cx->Prop}
def Vt(X:Cx)(CM:Cx->Prop)(tg iter:Expr)(wi:TI):Prop :=
 ∀(fE:ao (ai×Obj)) (s:ah) (σ:St) (H:Hp) (R:It->Hp->Prop),Inv X fE σ H s->wi σ H R ->
  wpAny (model X.prog X.w) X.A (eval iter X.env) (λv O=>wpAny (model X.prog X.w) X.A (pyIter v) (λU G=>∃(L:ai) (fp:ao ai) (tn:Nat->Heap->Prop) (J:It) (H':Hp),U=.ref L/\Inv X fE σ H' G/\Turn X.prog X.w X.K tg J fp L tn CM/\tn 0 G.heap/\(∀ b∈fp,mT X fE H' b)/\R J H') X.xe O) X.xe s
def Vt.imp{iter:Expr}{t t':TI}(h:Vt X CM tg iter t)(hi:∀ σ H Q,t' σ H Q->t σ H Q):Vt X CM tg iter t':=λfE s σ H R I q=>h fE s σ H R I (hi σ H R q)
def Xg(e:ai)(ta:TA):TI:=λσ H R=>ta σ H λvs H1=>∃ j:Int,vs=[.int j] /\ -(2 ^ 62)<=j/\j<2 ^ 62/\R (Vv 0 j.toNat e) H1
def ID{a:Expr}{ta:TA}{e:ai}{p pos:Pos}(Z:Gl X "range")(hm:X.mg "range"=none)(ha:PA X [a] ta)(W:starEach [a] X.env=[(false,eval a X.env)]:=by rfl):Vt X (HX e) tg (.Call (.Name "range" p) [a] [] pos) (Xg e ta):=by
 intro fE s σ H R I h;refine Call_ (lM I Z hm boot_range (bh (iN (ha pos fE s σ H _ I h) λus G O=>?_) W rfl));obtain⟨vs,H1,I1,U,q1⟩:=O;obtain⟨j,J,q1,q2,q⟩:=q1;subst J;cases U with
 | cons r rr =>
  cases rr;obtain⟨t,rfl⟩:=r;refine call_range_1 ?_;refine wpAny_pyIter_range (IsRange.new ..) (small_one (by lia) (by lia) q1 q2) ?_;obtain⟨o,Y⟩:∃ o:Obj,o={ cls:=.type "range",data:=.fields #[.int 0 G.toks,.int j t,.int 1 (G.toks+1)]}:=⟨_,rfl⟩;have L:Inv X fE σ H1 { G with heap:=G.heap.push o,toks:=G.toks+1+1}:=I1.jk λb u e=>j4 _ e;rw[<- Y];refine⟨(G.heap.push o).objs.size,[(G.heap.push o).objs.size],_,_,H1,rfl,L.jk (t':=G.toks+1+1) λb u e=>j4 _ e,Ci _ 0 j.toNat e,?_,λb hb=>?_,q⟩
  .have e1:(0:Int)+((0:Nat):Int)*1=0:=by simp
   have e2:((j.toNat:Nat):Int) - ((0:Nat):Int)=Builtin.Range.rangeSize 0 j 1:=by rw[rangeSize_one];split<;>lia
   show IsRangeIter _ _ ((0:Int)+((0:Nat):Int)*1) (((j.toNat:Nat):Int) - ((0:Nat):Int)) 1
   rw[e1,e2]
   exact aE _ rfl
  .have J:b=(G.heap.push o).objs.size:=by simpa using hb
   subst J
   exact L.Dw (ar _) (L.hG.fresh (ar _))
variable {N:ao Str}{js:ao (aq Nat)}{sc:Scope}{elt iter:Expr}{ifs:ao Expr}{g:TG}{tt:TT}{te:TE}
def Ly{wi:TI}{pos:Pos}(O:jU X N js sc)(gY:∀ fp s H,CM (m7 X N sc fp s H))(hi:Vt X CM tg iter wi)(hg:∀ fp s H,PG (m7 X N sc fp s H) tg g)(ht:∀ fp s H,JZ (m7 X N sc fp s H) ifs tt)(he:∀ fp s H,PE (m7 X N sc fp s H) elt te)
 (hs:∀ x,foldedSetIterable iter X.env x=pure x:=by intro _;rfl):PE X (.ListComp elt [⟨tg,iter,ifs,0⟩] sc pos) (Gp wi js g tt te):=by
 intro fE s σ H Q I h;rw[eval_ListComp];refine dq (use:=none) rfl hs (mB λy hy e=>I.ok.has y.1 (O.free y hy e)) O.kind O.loc (iN (hi fE s σ H _ I h) λv s1 h1=>iN h1 λR1 G h2=>?_);obtain⟨it,fp,tn,J,H2,e,L,T,JS,f2,q⟩:=h2;subst e;refine cA (nY ?_);have hC:(G.heap.push { cls:=.type "list",dict:=none,data:=.seq ([]:ao ak).toArray}).objs.size=G.heap.objs.size+1:=bg ..
 simp only[hC];refine sk (tk:=G.toks) L O (gY fp G H2) T JS f2 (hg fp G H2) (ht fp G H2) (he fp G H2) q λs' H' ys m IX Y W Z hn=>?_;refine⟨m,Z,λh' U=>?_⟩;have BY:∀(b:ai) (o:Obj),G.heap.get? b=some o->b≠G.heap.objs.size+1:=λb o e=>aA (aV (jf e));have IY:Inv X fE σ (upd H' G.heap.objs.size (.lst ys)) { s' with heap:=h'}:=IX.turned (t':=s'.toks) (it:=G.heap.objs.size+1) (λb o hb e=>(U.2 b hb).trans e) (by rw[gr (a8 (bG _))];exact hn)
  (a8 (aV L.lt)) (.inr (Nat.le_succ_of_le L.sz)) (λx c e=>let ⟨v,z⟩:=L.cell x c e;aA (aV z.lt)) (λp hp=>BY _ _ (L.pin p hp).1)
 exact⟨.ref _,_,IY,rfl,W _ Y⟩
end
abbrev hC(ij:ao ai)(H0:Hp)(k:Nat):MS->Prop:=λμ=>μ[0]?=some (.gx ij H0)/\∃ c,μ[k]?=some (.exc c)
def MN{H0:Hp}{k:Nat}{e:ai}(hk:ij[k]?=some e)(M:gz φ H μ)(h:hC ij H0 k μ):φ[k]?=some e/\∃ c,H e=some (.ext (mZ e c)):=by obtain⟨h1,c,h2⟩:=h;have:=(M.Ql h1).get hk;obtain⟨p,e1,e2⟩:=M.at_ k _ h2;rw[this]at e1;cases e1;exact⟨this,c,e2⟩
def Ih{lo:Int}{n k:Nat}{H0:Hp}{e:ai}(hk:ij[k]?=some e):Wk (Vv lo n e) φ H (kr lo n) (hC ij H0 k):=λJ H' L f M c i=>by
 have hl:(kr lo n).length=n:=by unfold kr;rw[iE,tP]
 refine⟨λd hd=>?_,λhi=>⟨by rw[hl]at hi;exact Nat.le_of_eq hi.symm,(MN hk M c).2⟩⟩;have hi:i<n:=by have:=(kN hd).1;lia
 refine⟨hi,λx O G=>?_⟩;obtain⟨rfl,rfl⟩:=G;refine⟨.refl _ _,M,?_⟩;unfold kr at hd;rw[oC,bo hi]at hd;cases hd;rfl
def X6(ij:ao ai)(H0:Hp)(k:Nat)(w:DA):DI:=λρ μ K=>w ρ μ λds G=>match ds with
 |[.int j]=> -(2 ^ 62)<=j/\j<2 ^ 62/\K (kr 0 j.toNat) (hC ij H0 k) G
 |_=>False
section
variable {X:Cx}{a:Expr}{pos:Pos}{N:ao Str}{js:ao (aq Nat)}{sc:Scope}{tg elt iter:Expr}{ifs:ao Expr}{g:TG}{y:DG}{S:ao Nat}{t:Dt}{w:De}{ij:ao ai}{H0:Hp}{k:Nat}{e:ai}
def Mw{w:DA}{p:Pos}(hk:ij[k]?=some e)(O:Gl X "range")(hm:X.mg "range"=none)(ha:u9 X [a] w)(G:starEach [a] X.env=[(false,eval a X.env)]:=by rfl):Vt X (HX e) tg (.Call (.Name "range" p) [a] [] pos) (Wi (X6 ij H0 k w)):=(ID O hm ha G).imp λσ H Q J=>by
 obtain⟨φ,ρ,μ,K,A,M,k,L⟩:=J;refine⟨φ,ρ,μ,_,A,M,k,λds U W vs H1 k1 Y M1 i1=>?_⟩;split at k1
 .obtain⟨v,r,rfl,h1,h2⟩:=i1;cases(show v=_ from h1);cases(show r=[]from h2);exact⟨_,rfl,k1.1,k1.2.1,L _ _ U W _ H1 k1.2.2 Y M1 (Ih hk)⟩
 .exact k1.elim
def QH(m:Bool){wi:DI}(O:jU X N js sc)(hh:X.A.handled=some (.ref e))(so:JY g y S)(mo:oY g)(J:qo S js=true)(hi:Vt X (HX e) tg iter (Wi wi))(L:∀ fp s H,PG (m7 X N sc fp s H) tg g)(ht:∀ fp s H,yW (m7 X N sc fp s H) ifs t)(he:∀ fp s H,PD (m7 X N sc fp s H) elt w)
 (G:∀ x,foldedSetIterable iter X.env x=pure x:=by intro _;rfl):PD X (.ListComp elt [⟨tg,iter,ifs,0⟩] sc pos) (vH m wi js y t w):=(Ly O (λ_ _ _=>hh) hi L ht he G).imp λσ H Q q=>Ad so mo J q
end
structure uu (k:Nat)(A:Around):Prop where
 dp:A.depth+3*k+5<recursionLimit
 un:A.units+16*k+200<cLine
def uu.deeper{k:Nat}{A:Around}(r:uu (k+1) A)(env:Env):uu k (A.deeper env) :=
 ⟨by have:=r.dp;show A.depth+1+3*k+5<_;lia,by have:=r.un;show A.units+3+16*k+200<_;lia⟩
def uu.depth{k:Nat}{A:Around}(r:uu k A):A.depth<recursionLimit:=by have:=r.dp;lia
abbrev Cx.Ot(X:Cx)(A:Around):Cx:={ X with A:=A,gY:=false,xe:=λ_ _=>False}
def Inv.Ot{X:Cx}{fE:ao (ai×Obj)}{σ:St}{H:Hp}{s:ah}(I:Inv X fE σ H s){A:Around}(hf:A.frames=some X.stack):Inv (X.Ot A) fE σ H s :=
 ⟨⟨I.ok.mod,I.ok.kind,I.ok.glob,I.ok.blt,I.ok.above,I.ok.inj,I.ok.has,I.ok.Vm,(λz=>by cases z),hf,I.ok.VI,I.ok.Sm,I.ok.bs,I.ok.Eh,I.ok.CU,I.ok.DD,I.ok.qE,I.ok.MV⟩,I.os,I.bare,I.fF,I.loc,I.cell,I.free,I.lZ,I.pin,I.hG,I.len⟩
structure HY (P:ae)(w:af)(K:aa)(mg:Str->Option ak)(fF:Heap)(k:Nat)(f:ai)(fd:ag)(ps:List Str)(fs:jZ):Prop where
 len:∀ ds μ Kd,fs ds μ Kd->ds.length=ps.length
 run:∀(A:Around) (fN:List Env) (s:ah) (H:Hp) (args:Args) (us:List ak) (vs:List V) (Q:VK) (e:ai),uu k A->A.handled=some (.ref e)->vU P w K mg fF A fN s H->BindsTo s fd args (ps.zip us)->gG vs us ->
  (∃ φ ds μ Kd kx,f9 φ H ds vs/\gz φ H μ/\φ[kx]?=some e/\kx≠0/\(∃ c,μ[kx]?=some (.exc c))/\fs ds μ Kd/\vM φ H Kd Q)->codeAny (model P w) A (.call (.ref f) args) (CR kO fN P w H s Q E0) s
section
variable {P:ae}{w:af}{K:aa}{mg:Str->aq ak}{fF:Heap}
abbrev cxH(P:ae)(w:af)(K:aa)(mg:Str->aq ak)(fF:Heap)(N:ao Str)(qual:Str)(scope:Scope)(f:ai)(cd:ak)(A:Around)(fN:ao Env)(s:ah)(H:Hp):Cx :=
 (p6 kO P w K mg fF N qual scope f cd { A with handled:=none} fN s H E0).Ot (A.deeper (envOfC qual scope s.heap.objs.size f cd))
def jY.okH{qual:Str}{N:ao Str}{k:Nat}{fs:jZ}(F:jY K x qual st f fd)(S:gb N ps (fM st))(len:∀ ds μ G,fs ds μ G->ds.length=ps.length/\∃ m,μ[0]?=some m)
 (qD:∀(O:ak) (A:Around) (fN:ao Env) (s:ah) (H:Hp),uu k (A.deeper (envOfC qual (fM st) s.heap.objs.size f O))->∀(ij:ao ai) (kx:Nat) (e:ai),ij[kx]?=some e->A.handled=some (.ref e) ->
   ∃ W,FJ (cxH P w K mg fF N qual (fM st) f O A fN s H) (jy st) W/\∀ ds μ m G,(∀(j:Nat) (m':MO),(μ.set 0 (.gx ij H))[j]?=some m'->zu (μ.set 0 (.gx ij H)).length m')->tx (μ.set 0 (.gx ij H)).length ds->μ[0]?=some m->hC ij H kx (μ.set 0 (.gx ij H))->fs ds μ G ->
    W (EC (μ.set 0 (.gx ij H)).length (gK ij H m G)) (qh N ds) (μ.set 0 (.gx ij H))):HY P w K mg fF (k+1) f fd ps fs:=by
 obtain⟨oc,od,kV,doc,pm,an,O,ct,Ol,rfl,lk,Dq⟩:=F.ex
 refine⟨λds μ G h=>(len ds μ G h).1,λA fN s H args us vs Q e hr hh e0 hb r JU=>?_⟩
 obtain⟨φ,ds,μ,G,kx,ha,M,hk,MG,hex,hf,L⟩:=JU
 obtain⟨oB,m,em⟩:=len ds μ G hf
 have hl:vs.length=ps.length:=by rw[ha.len];exact oB
 have KX:K.In s.heap:=e0.mod.Um.keeps λb o e=>(e0.bs b o e).1
 have lim:s.heap.NoLimit:=e0.mod.nolimit.keeps λb o e=>(e0.bs b o e).1
 have MF:∀ y∈ps.zip us,(fM st).names.lookup y.1=some .local\/((fM st).names.lookup y.1=some .cell/\((cellsFrom (s.heap.objs.size+1) (fM st).names []).lookup y.1).isSome=true):=λ⟨n,v⟩ hy=>by
  rcases S.par n (dH hy).1 with q|q
  .exact .inl q
  .exact .inr ⟨q,W.cellsFrom_some _ _ _ (.inl q)⟩
 refine codeAny_call_function hr.depth (KX _ _ lk) rfl S.co S.gen rfl (W.codeRec_of KX Dq) (hb _ _ _ _ ?_)
 refine wpAny_newFunctionEnv_cells S.kind MF λenv he s1 x=>?_
 subst he
 refine⟨lim.keeps x.toInCall.keep,codeAny_func ?_⟩
 have e1:vU P w K mg fF { A with handled:=none} fN s H:=⟨e0.frames,e0.mod,e0.bs,e0.Eh,e0.qE,e0.MV,e0.hG,e0.bare⟩
 have I0:Inv (p6 kO P w K mg fF N qual (fM st) f O { A with handled:=none} fN s H E0) [] (start N vs) H s1:=zz S rfl e1 hl r x
 have I:Inv (cxH P w K mg fF N qual (fM st) f O A fN s H) [] (start N vs) H s1:=I0.Ot (Around.frames_deeper e0.frames)
 have Mg:=M.ghost em
 have Lg:=(L.ghost M em).fz Mg
 have hc:hC φ H kx (μ.set 0 (.gx φ H)):=⟨aG (kN em).1,by rw[aJ (bj MG)];exact hex⟩
 obtain⟨W,hW,q⟩:=qD O A fN s H (hr.deeper _) φ kx e hk hh
 refine bU (hW [] s1 (start N vs) H { nx:=λ_ H'=>Q .iz H',rt:=Q} I ⟨φ,qh N ds,μ.set 0 (.gx φ H),EC (μ.set 0 (.gx φ H)).length (gK φ H m G),.start ha,Mg,q ds μ m G Mg.bound (by rw[<- Mg.len];exact ha.bound) em hc hf,⟨λjV fX gA Z H' Y f' A' M'=>Lg .iz fX gA .iz H' Y f' M' rfl,Lg,λ_ _ _ _ _ Y _ _ _=>Y.elim,λ_ _ _ _ _ Y _ _ _=>Y.elim⟩⟩) (λfl s' U=>?_) λe s' U=>U.elim
 have fin:∀ {Z:St} {H':Hp} {v:V} {u:ak},Inv (cxH P w K mg fF N qual (fM st) f O A fN s H) [] Z H' s'->gB v u->Q v H'->CE fN P w H s Q u s' :=
  λ{Z H' v u} J rv q=>⟨v,H',J.os,J.bare,J.fF,J.hG,rv,q⟩
 cases fl with
 | ret u =>obtain⟨v,Z,H',J,rv,q⟩:=U;exact fin J rv q
 | next =>obtain⟨Z,H',J,q⟩:=U;exact fin (v:=V.iz) (u:=Value.none) J rfl q
 | brk =>obtain⟨_,_,_,q⟩:=U;exact False.elim q
 | cont =>obtain⟨_,_,_,q⟩:=U;exact False.elim q
end
structure VB (P:ae)(w:af)(K:aa)(mg:Str->Option ak)(fF:Heap)(x:Str)(k:Nat)(ps:List Str)(fs:jZ):Prop where
 ex:∃ f fd,HY P w K mg fF k f fd ps fs/\mg x=some (.ref f)/\W.keepIn K (.ref f)=true/\Binds K fd ps []
section
variable {X:Cx}{e:Expr}{es:ao Expr}{pos:Pos}{ij:ao ai}{H0:Hp}{kx:Nat}{ea:ai}
def Vi(ij:ao ai)(H0:Hp)(kx:Nat)(f:jZ)(w:DA):De:=λρ μ K=>w ρ μ λds G=>hC ij H0 kx G/\f ds G K
def QJ{f:jZ}{w:DA}{p:Pos}{k:Nat}(hk:ij[kx]?=some ea)(MG:kx≠0)(hh:X.A.handled=some (.ref ea))(C:VB X.prog X.w X.K X.mg X.fF x k ps f)(hr:uu k X.A)(hg:Gl X x)(ha:u9 X (e::es) w)
 (vR:(x==("__debug__" : Str))=false:=by decide) (he:starEach (e::es) X.env=(false,eval e X.env)::starEach es X.env:=by rfl) (nK:(backTo pos (starEach es X.env)).any (·.1)=false:=by rfl):
 PD X (.Call (.Name x p) (e::es) [] pos) (Vi ij H0 kx f w):=by
 obtain⟨f',fd,F,hm,O,hb⟩:=C.ex;intro fE s σ H Q I h;obtain⟨φ,ρ,μ,K,A,M,w,L⟩:=h;refine cO (rj I hg hm ?_ vR);refine W.callWith_K (h₀:=X.fF) I.ok.mod.Um O (iN (ha pos fE s σ H (λvs H1=>∃ φ ds μ U kx,f9 φ H1 ds vs/\gz φ H1 μ/\φ[kx]?=some ea/\kx≠0/\(∃ c,μ[kx]?=some (.exc c))/\f ds μ U/\vM φ H1 U Q) I ⟨φ,ρ,μ,_,A,M,w,λds Z gC vs H1 k1 f1 M1 i1=>⟨gC,ds,Z,K,kx,i1,M1,(MN hk M1 k1.1).1,MG,k1.1.2,k1.2,L.mono f1⟩⟩) λus Y tL=>?_) he nK;obtain⟨vs,H1,J,r,q⟩:=tL;refine⟨J.tH,?_⟩;have hl:us.length=ps.length:=by obtain⟨gC,ds,Z,U,kx1,i1,_,_,_,_,hf,_⟩:=q;rw[<- r.length,i1.len];exact F.len _ _ _ hf
 refine wpAny_call (codeAny_mono (F.run X.A X.stack Y H1 ⟨us,[]⟩ us vs Q ea hr hh J.U3 (by have:=hb Y us J.tH (by rw[b9];exact hl);rwa [b9]at this) r q) λr s' G=>?_);cases r with
 |error e=>exact G.elim
 | ok fl =>
  cases fl with
  |ret u=>exact J.after G
  |next=>exact False.elim G
  |brk=>exact False.elim G
  |cont=>exact False.elim G
end
structure HZ (K:aa)(C B:ai):Prop where
 ex:∃(nB qB:Str) (NB:ai) (Zs Ou:List ak) (Ze:Bool) (YX:List Str) (subB:List ak) (Zv:Bool) (QO:Option Bool) (Zo:Option ai) (b0 b1 b2 b3 b5:Option ak) (Y5:String) (nC qC:Str) (NC:ai) (Zr V2:List ak) (Zd:Bool) (YW:List Str) (Iq:List ak) (Zu:Bool) (QN:Option Bool) (Zn:Option ai) (c0 c1 c2 c3 c5:Option ak) (Y4:String),
  K.lookup B=some (excClassObj nB qB B NB Zs Ou Ze YX subB Zv QO Zo b0 b1 b2 b3 b5 Y5)/\K.lookup C=some (excClassObj nC qC C NC Zr V2 Zd YW Iq Zu QN Zn c0 c1 c2 c3 c5 Y4)/\Ou.contains (.type "BaseException")=true/\(Value.ref C::V2).contains (.ref B)=true
section
variable {X:Cx}{fE:ao (ai×Obj)}{σ:St}{H:Hp}{s:ah}
def Inv.Wa(I:Inv X fE σ H s){e:ai}{c:ak}(W:H e=none)(x:mZ e c s.heap)(h0:X.s₀.heap.get? e=none)(hl:e≠X.env.locals)(Y:∀ y a,X.env.cells.lookup y=some a->a≠e)(U:∀ p∈X.pn++fE,p.1≠e):
 Inv X fE σ (upd H e (.ext (mZ e c))) s:=by
 have J:∀ b o,X.s₀.heap.get? b=some o->b≠e:=λb o q z=>by rw[z,h0]at q;cases q
 have G:∀ b o,H b=some o->b≠e:=λb o q z=>by rw[z,W]at q;cases q
 refine⟨I.ok,I.os,I.bare,⟨I.fF.keep,I.fF.slot,λb o q n O=>?_,I.fF.there,λb xs q=>?_,λb o xs q=>?_,λb ps q=>?_⟩,I.loc,I.cell,?_,λy a q=>?_,λp L=>?_,λa o q=>?_,I.len⟩
 .rw[gr (J b o q)];exact I.fF.free b o q n O
 .have:=I.fF.uy b xs q;rw[gr (G b _ this)];exact this
 .have:=I.fF.tS b o xs q;rw[gr (G b _ this)];exact this
 .obtain⟨m,this⟩:=I.fF.uC b ps q;exact⟨m,by rw[gr (G b _ this)];exact this⟩
 .rw[gr (bj hl)];exact I.free
 .rw[gr (Y y a q)];exact I.lZ y a q
 .obtain⟨h1,h2,h3⟩:=I.pin p L;exact⟨h1,by rw[gr (U p L)];exact h2,h3⟩
 .by_cases z:a=e
  .subst z;rw[gc]at q;cases q;obtain⟨oe,vs,q1,q2⟩:=x;exact⟨⟨oe,vs,q1,q2⟩,⟨oe,q1⟩,λh1 h2 ⟨o,v,e1,e2⟩ k=>⟨o,v,k o e1,e2⟩⟩
  .rw[gr z]at q;exact(I.hG a o q).xf (λ_ _ _ k=>k) (λb k=>by rw[gr (G b _ k)];exact k) λb xs k=>by rw[gr (G b _ k)];exact k
def Inv.forget(I:Inv X fE σ H s){U:Str->aq ak}{t:Nat}(Z:h'.Ns X.env.locals U)(G:Heap.SameBut X.env.locals s.heap h'):Inv X fE (σ.map λ_=>none) H { s with heap:=h',toks:=t}:=by
 have ne:∀ b o,X.s₀.heap.get? b=some o->b≠X.env.locals:=λb o e=>aA (aL (jf e) I.ok.above);refine⟨I.ok,I.os,I.bare,⟨λb o e n hb J=>?_,λb o e n hb J=>?_,I.fF.free,λb o e J=>?_,I.fF.uy,I.fF.tS,I.fF.uC⟩,⟨U,Z,λj y v' e1 e2 e3=>?_⟩,λy c e=>?_,I.free,I.lZ,λp Y=>?_,λb W e=>?_,by rw[iE];exact I.len⟩
 .exact(G.2 b (ne b o e)).trans (I.fF.keep b o e n hb J)
 .obtain⟨sl,e1⟩:=I.fF.slot b o e n hb J;exact⟨sl,(G.2 b (ne b o e)).trans e1⟩
 .obtain⟨o',e1⟩:=I.fF.there b o e J;exact⟨o',(G.2 b (ne b o e)).trans e1⟩
 .rw[oC]at e2;cases q:σ[j]?<;>rw[q]at e2<;>cases e2
 .obtain⟨O,z⟩:=I.cell y c e;exact⟨O,z.sameBut G (I.Sy y c e)⟩
 .obtain⟨e,n,ne,nf,d⟩:=I.pin p Y;exact⟨(G.2 p.1 ne).trans e,n,ne,nf,d⟩
 .refine(I.hG b W e).xf (λc O L q=>(G.2 c ?_).trans q) (λ_ q=>q) λ_ _ q=>q;rintro rfl;rcases L with rfl|L
  .rw[I.free]at e;cases e
  .rw[I.free]at L;cases L
def Un.kp{fs:ao ai}{l:ao Env}{H H':Hp}{h1 h2:Heap}(u:Un fs [] H H' h h1)(k:Kp g l h1 h2)(L:Gk h g)(hl:∀ b,b∈yO l->b∈fs):Un fs [] H H' h h2:=by
 refine⟨λb o e n hb G=>k.other b o (u.keep b o e n hb G) (L b ⟨o,e⟩) λz=>hb (hl b z),λb o e n hb G=>?_,u.free,λb o e G=>?_,u.uy,u.tS,u.uC⟩
 .obtain⟨O,e1⟩:=u.slot b o e n hb G;obtain⟨J,e2⟩:=k.any e1 (L b ⟨o,e⟩);exact⟨J,e2⟩
 .obtain⟨o',e1⟩:=u.there b o e G;obtain⟨O,e2⟩:=k.any e1 (L b ⟨o,e⟩);exact⟨_,e2⟩
end
def dTry(K:aa)(B:ai)(n i:Nat)(u:ao ai->Hp->DX->Ds)(v:ao ai->Hp->Nat->Ds):Ds:=λN ρ μ=>∃ m,μ[0]?=some m/\∀ ij H0,
 u ij H0 (gX ij H0 m λc G=>∃ C,c=.ref C/\HZ K C B/\∀ L H1,v L H1 G.length { nx:=λ_ _=>False,rt:=gK L H1 m N.rt} ((List.replicate n none).set i (some (.mr G.length))) ((G++[MO.exc c]).set 0 (.gx L H1)))
  { nx:=λJ G=>G[0]?=some (.gx ij H0)/\N.nx J (G.set 0 m),rt:=gK ij H0 m N.rt,bk:=λJ G=>G[0]?=some (.gx ij H0)/\N.bk J (G.set 0 m),ct:=λJ G=>G[0]?=some (.gx ij H0)/\N.ct J (G.set 0 m)} ρ (μ.set 0 (.gx ij H0))
def Oa.ghost{k:DE->MS->Prop}{q:St->Hp->Prop}(L:Oa φ H k q)(M:gz φ H μ)(e:μ[0]?=some m):Oa φ H (λG J=>J[0]?=some (.gx φ H)/\k G (J.set 0 m)) q:=λG J W U H' ⟨Y,O⟩ f A Z=>L G _ W U H' O f A (M.back e Z Y)
def Inv.NL{fE:ao (ai×Obj)}{H':Hp}{s s':ah}{h2:Heap}(I:Inv X fE σ H s)(os:s'.os=s.os)(bare:AllBare s'.gens)(un:Un (yO X.stack) [] H H' s.heap s'.heap)(hG:pT X.prog X.w H' s'.heap)(g1:Gk s.heap g)(g2:∀ b,H' b≠none->At g b)(k:Kp g X.stack s'.heap h2):
 Inv X fE σ H' { s' with heap:=h2}:=by
 have G:=I.zP (s':=s') (ch:=[]) os un hG bare (λb z=>absurd z (by simp));exact I.zP (s':={ s' with heap:=h2}) (ch:=[]) os (un.kp k g1 λb z=>z) (Ff hG (λb hb=>⟨g2 b hb,λz=>hb (G.qU b z)⟩) k) bare (λb z=>absurd z (by simp))
def BM.is{e:ai}{cls O:ak}(x:BM g e cls O h):mZ e cls h:=by obtain⟨oe,vs,T,U,ts,⟨h1,⟨h2,L⟩,J,_,G⟩,_⟩:=x;exact⟨oe,vs,h1,h2,L,J,G⟩
section
variable {X:Cx}{body KR:ao Stmt}{b0:Stmt}{x n:Str}{np UK pos:Pos}{B:ai}{i:Nat}{u:ao ai->Hp->DX->Ds}{v:ao ai->Hp->Nat->Ds}
def Ws(hex:X.ex=[])(B1:X.stack=X.env::X.fN)(hfm:X.env.frame=some X.env.locals)(hN:X.N.Nodup)(hi:X.N[i]?=some n)(hn:X.env.scope.names.lookup n=some .local)(hg:Gl X x)(hm:X.mg x=some (.ref B))
 (hb:∀(pn:ao (ai×Obj)) (xe:ak->ah->Prop) (ij:ao ai) (H0:Hp) (Kx:DX),Rz { X with pn:=pn,xe:=xe} ij H0 Kx->FJ { X with pn:=pn,xe:=xe} body (u ij H0 Kx))
 (hs:∀(pn:ao (ai×Obj)) (e:ai) (gC:ao ai) (H1:Hp) (kx:Nat),gC[kx]?=some e->kx≠0->FJ (Cx.Ot { X with pn:=pn} (X.A.mark (some (.ref e)))) (b0::KR) (v gC H1 kx)) (hd:(x==("__debug__" : Str))=false:=by decide):
 yX X (.Try body [.ExceptHandler (some (.Name x np)) (some n) (b0::KR) UK] [] [] pos) (dTry X.K B X.N.length i u v):=λfE s σ H D I hq=>by
 obtain⟨φ,ρ,μ,N,A,M,⟨m,em,w⟩,L⟩:=hq;have w:=w φ H;refine wpAny_Try_except ?_;obtain⟨xe,hxe⟩:∃ xe:ak->ah->Prop,xe=λev s₁=>wpAny (model X.prog X.w) X.A (noteFrame ev X.env) (λ_ s₂=>wpAny (model X.prog X.w) X.A (setFlight ev none) (λ_ s₃=>wpAny (model X.prog X.w) X.A (handleBy ev X.env [.ExceptHandler (some (.Name x np)) (some n) (b0::KR) UK]) (SP X fE D) X.xe s₃) X.xe s₂) X.xe s₁:=⟨_,rfl⟩;have I':Inv { X with pn:=X.pn++fE,xe:=xe} [] σ H s:=⟨⟨I.ok.mod,I.ok.kind,I.ok.glob,I.ok.blt,I.ok.above,I.ok.inj,I.ok.has,I.ok.Vm,I.ok.hd,I.ok.frames,I.ok.VI,I.ok.Sm,I.ok.bs,I.ok.Eh,I.ok.CU,I.ok.DD,I.ok.qE,I.ok.MV⟩,I.os,I.bare,I.fF,I.loc,I.cell,I.free,I.lZ,(λp G=>I.pin p (by simpa using G)),I.hG,I.len⟩;have back:∀ {RN:ao (ai×Obj)} {B6:St} {H1:Hp} {s1:ah},Inv { X with pn:=X.pn++fE,xe:=xe} RN B6 H1 s1->Inv X fE B6 H1 s1:=λJ=>⟨I.ok,J.os,J.bare,J.fF,J.loc,J.cell,J.free,J.lZ,(λp G=>J.pin p (cG _ G)),J.hG,J.len⟩;have Mg:=M.ghost em;have MJ:X.A.frames=some (X.env::X.fN):=by rw[<- B1];exact I.ok.frames
 obtain⟨Kx,hKx⟩:∃ Kx:DX,Kx=λc U=>∃ C,c=.ref C/\HZ X.K C B/\∀ gC H1,v gC H1 U.length { nx:=λ_ _=>False,rt:=gK gC H1 m N.rt} ((List.replicate X.N.length none).set i (some (.mr U.length))) ((U++[MO.exc c]).set 0 (.gx gC H1)):=⟨_,rfl⟩;rw[<- hKx]at w;have Z:Rz { X with pn:=X.pn++fE,xe:=xe} φ H (gX φ H m Kx):=by
  refine⟨λc _ H'=>∃ O U,gX φ H m Kx c U/\Fr φ H O H'/\gz O H' U,λc U O H' k f M=>⟨O,U,k,f,M⟩,λRN B6 H1 s1 ev s' J c=>?_⟩;obtain⟨e,cls,H',g,rfl,os,bare,un,hG,⟨g1,g2,g3⟩,ex,O,U,⟨e0,hK⟩,f',M'⟩:=c;rw[hKx]at hK;obtain⟨C,rfl,sub,hv⟩:=hK;show xe (.ref e) s';rw[hxe];have J2:=J.zP (s':=s') (ch:=[]) os un hG bare (λb z=>absurd z (by simp));have ff:s'.heap.FunFrames X.fF (X.env::X.fN):=by rw[<- B1];exact J2.stack
  refine zr MJ ff hfm g3 ex λh1 x1 k1=>?_;refine n9 (l:=X.env::X.fN) x1 λh2 x2 k2 _=>?_;have k12:Kp g X.stack s'.heap h2:=by rw[B1];exact k1.trans k2
  have J3:=(J.NL os bare un hG g1 g2 k12).pD (pins':=[]) (λp G=>absurd G (by simp));have eN:g.get? e=none:=by obtain⟨_,_,_,_,_,_,_,z⟩:=ex;exact z
  have hHe:H' e=none:=by
   cases q:H' e with
   |none=>rfl
   |some o=>obtain⟨u,z⟩:=g2 e (by rw[q];simp);rw[eN]at z;cases z
  have J4:Inv (Cx.Ot { X with pn:=X.pn++fE} (X.A.mark (some (.ref e)))) [] B6 H' { s' with heap:=h2}:=J3.Ot I.ok.frames;refine wpAny_handleBy_cons (codeAny_handlers_test (rj J4 hg hm ?_ hd)) (by intro q;cases q);obtain⟨nB,qB,NB,Zs,Ou,Ze,YX,subB,Zv,QO,Zo,b0',b1,b2,b3,b5,Y5,nC,qC,NC,Zr,V2,Zd,YW,Iq,Zu,QN,Zn,c0,c1,c2,c3,c5,Y4,lB,lC,hbB,yy⟩:=sub.ex;obtain⟨oe,vs,q1,q2,q3,q4,q5⟩:=x2.is;refine Jy (J4.tH _ _ lB) (J4.tH _ _ lC) q1 q2 hbB yy ?_;refine codeAny_handlers_suite_as (n9 (l:=X.env::X.fN) (s:={ s' with heap:=h2}) x2 λh3 x3 k3 _=>?_);have k13:Kp g X.stack s'.heap h3:=k12.trans (by rw[B1];exact k3);have J5:=(J.NL os bare un hG g1 g2 k13).pD (pins':=[]) (λp G=>absurd G (by simp));have SF:∀ b o,s1.heap.get? b=some o->b≠e:=λb o q z=>by obtain⟨u,y⟩:=g1 b ⟨o,q⟩;rw[z,eN]at y;cases y
  have J6:=J5.Wa hHe x3.is (by
   cases q:X.s₀.heap.get? e with
   |none=>rfl
   | some o =>
    obtain⟨o',y⟩:=J.fF.there e o q (by show e∉X.ex;rw[hex];simp)
    exact absurd rfl (SF e o' y)) (by
   obtain⟨mm,⟨oo,_,_,y,_⟩,_⟩:=J.loc
   exact λz=>SF _ oo y z.symm) (λy a q=>by
   obtain⟨w',o,z,_⟩:=J.cell y a q
   exact SF a o z) (λp G=>SF p.1 p.2 (J.pin p (cG _ (by simpa using G))).1)
  have J7:Inv (Cx.Ot { X with pn:=X.pn++fE} (X.A.mark (some (.ref e)))) [] B6 (upd H' e (.ext (mZ e (.ref C)))) { s' with heap:=h3}:=J6.Ot I.ok.frames;refine sN (X:=Cx.Ot { X with pn:=X.pn++fE} (X.A.mark (some (.ref e)))) J7 hN hi (.inl hn) (v:=.ref e) (u:=.ref e) rfl (λs8 J8=>?_) (.inr hn);have Mb:=M.back em M' e0;obtain⟨Y,UG⟩:∃ Y,Y=U.set 0 m:=⟨_,rfl⟩;rw[<- UG]at Mb hv;have h0l:0<U.length:=(kN e0).1;have em1:Y[0]?=some m:=by rw[UG];exact aG h0l
  have l1:Y.length≠0:=by rw[UG,bL];lia
  obtain⟨Msn,f2⟩:=Mb.snoc (m:=.exc (.ref C)) (o:=.ext (mZ e (.ref C))) hHe gc;have JW:(Y++[MO.exc (.ref C)])[0]?=some m:=by rw[uO (by lia)];exact em1
  have hk:(O++[e])[Y.length]?=some e:=by rw[pW (by rw[Mb.len];exact ar _),Mb.len,aY];rfl
  have ls:B6.length=X.N.length:=J.len;have hil:i<B6.length:=by rw[ls];exact(kN hi).1
  have A2:kX (O++[e]) (upd H' e (.ext (mZ e (.ref C)))) ((List.replicate X.N.length none).set i (some (.mr Y.length))) (B6.set i (some (.ref e))):=by
   refine⟨by rw[bL,bL,aT,ls],λj d q=>?_⟩;by_cases z:i=j
   .subst z;rw[aG (by rw[aT,<- ls];exact hil)]at q;cases q;exact⟨.ref e,aG hil,e,hk,rfl⟩
   .rw[aJ z,dz]at q;split at q<;>cases q
  have L2:Yy (O++[e]) (upd H' e (.ext (mZ e (.ref C)))) { nx:=λ_ _=>False,rt:=gK (O++[e]) (upd H' e (.ext (mZ e (.ref C)))) m N.rt} { nx:=λ_ _=>False,rt:=D.rt} :=
   ⟨λ_ _ _ _ _ k' _ _ _=>k'.elim,(L.rt.mono (f'.trans f2)).ghost Msn JW,λ_ _ _ _ _ k' _ _ _=>k'.elim,λ_ _ _ _ _ k' _ _ _=>k'.elim⟩
  refine bU (hs (X.pn++fE) e (O++[e]) (upd H' e (.ext (mZ e (.ref C)))) Y.length hk l1 [] s8 _ _ { nx:=λ_ _=>False,rt:=D.rt} J8 ⟨O++[e],_,_,_,A2,Msn.ghost JW,hv _ _,L2⟩) (λf s9 q=>?_) (λ_ _ z=>z.elim);cases f with
  |next=>obtain⟨_,_,_,q⟩:=q;exact q.elim
  |brk=>obtain⟨_,_,_,q⟩:=q;exact q.elim
  |cont=>obtain⟨_,_,_,q⟩:=q;exact q.elim
  | ret r =>obtain⟨v',σ9,H9,W,rv,qr⟩:=q;have J9x:Inv X fE σ9 H9 s9:=⟨I.ok,W.os,W.bare,W.fF,W.loc,W.cell,W.free,W.lZ,(λp G=>W.pin p (cG _ G)),W.hG,W.len⟩;obtain⟨mm,R6,_⟩:=W.loc;show wpAny _ _ (do bindName X.env n .none;unbindBehindTheSuite X.env n UK) _ _ _;refine wpAny_nameGoes hn R6 (by rw[I.ok.kind];rfl) λh' m' hns' hsb=>?_;exact⟨v',_,H9,J9x.forget hns' hsb,rv,qr⟩
 have qD:=hb _ _ φ H _ Z [] s σ H D I' ⟨φ,ρ,μ.set 0 (.gx φ H),_,A,Mg,w,⟨L.nx.ghost M em,L.rt.ghost M em,L.bk.ghost M em,L.ct.ghost M em⟩⟩;refine bU qD (λf s1 q=>?_) (λev s1 q=>by have q:xe ev s1:=q;rw[hxe]at q;exact q);cases f with
 |next=>obtain⟨iS,H',J,q⟩:=q;exact eE ⟨iS,H',back J,q⟩
 |brk=>obtain⟨iS,H',J,q⟩:=q;exact⟨iS,H',back J,q⟩
 |cont=>obtain⟨iS,H',J,q⟩:=q;exact⟨iS,H',back J,q⟩
 |ret u=>obtain⟨v',iS,H',J,r,q⟩:=q;exact⟨v',iS,H',back J,r,q⟩
end
abbrev rQ:ao ak:=[.type "ValueError",.type "Exception",.type "BaseException",.type "object"]
def FA{K:aa}{C:ai}{U:ao ak}{newId:String}(q:W.excIn K C U newId=true):∃(bm:ao ak) (ns:ai) (nm G:Str) (bs:ao ak) (hd:Bool) (sn:ao Str) (sub:ao ak) (ab:Bool) (col:aq Bool) (dd:aq ai) (k0 k1 k2 k3 k5:aq ak),
 K.lookup C=some (excClassObj nm G C ns bs bm hd sn sub ab col dd k0 k1 k2 k3 k5 newId)/\W.nsOkIn K ns=true/\W.nsIn K ns "__init__"=some none/\W.tailIn K U bm=true:=by
 unfold W.excIn at q;split at q
 .rename_i dd cd sl ho;split at q
  .rename_i C' bm k0 k1 k2 k3 n k5 hm hs;simp only[bE,beq_iff_eq,Bool.not_eq_true']at q;obtain⟨⟨⟨⟨⟨rfl,rfl⟩,O⟩,ht⟩,hG⟩,L⟩:=q;obtain⟨nm,bs,Y,ns,G,hd,sn,sub,ab,col,Z⟩:=cd;dsimp only at hm O hG L;subst hm O;have J:sl=#[k0,k1,k2,k3,some (.builtin n),k5]:=by obtain⟨l⟩:=sl;simp only at hs;rw[hs]
   subst J;exact⟨bm,ns,nm,G,bs,hd,sn,sub,ab,col,dd,k0,k1,k2,k3,k5,ho,hG,L,ht⟩
  .cases q
 .cases q
def ku{K:aa}{C:ai}(X:K.In h)(G:h.Ns mainGlobals mg)(e:W.nsIn K mainGlobals x=some (some (.ref C)))(q:W.excIn K C rQ "ValueError.__new__"=true):OwnCls x C rQ "ValueError.__new__" mg h:=by obtain⟨bm,ns,nm,L,bs,hd,sn,sub,ab,J,dd,k0,k1,k2,U,O,h1,h2,Z,Y⟩:=FA q;exact⟨eW X G e,bm,ns,nm,L,bs,hd,sn,sub,ab,J,dd,k0,k1,k2,U,O,_,X _ _ h1,.of_isNs (W.isNs_of_in X h2),W.nsMap_none_of_in X h2 Z,W.tail_of_in X Y⟩
def subIn(K:aa)(C B:ai):Bool:=match K.lookup C with
 |some ⟨_,_,.cls cd,_⟩=>cd.mro.contains (.ref B)
 |_=>false
def SY{K:aa}{C B:ai}(qB:W.excIn K B rQ "ValueError.__new__"=true)(qC:W.excIn K C rQ "ValueError.__new__"=true)(s:subIn K C B=true):HZ K C B:=by
 obtain⟨bm,ns,nm,qn,bs,hd,sn,sub,ab,col,dd,k0,k1,k2,k3,k5,h1,h2,h3,h4⟩:=FA qB;obtain⟨bm',WS,U,O,bs',G8,L,Z3,ab',J,lU,k0',k1',k2',Z,Y,G,h2',h3',h4'⟩:=FA qC;refine⟨nm,qn,ns,bs,bm,hd,sn,sub,ab,col,dd,k0,k1,k2,k3,k5,_,U,O,WS,bs',bm',G8,L,Z3,ab',J,lU,k0',k1',k2',Z,Y,_,h1,G,?_,?_⟩
 .have tl:∀ l,W.tailIn K rQ l=true->l.contains (.type "BaseException")=true:=λl=>by
   induction l with
   |nil=>intro z;exact absurd (show(rQ==[])=true from z) (by decide)
   | cons v r ih =>
    intro z;unfold W.tailIn at z;rcases Bool.or_eq_true_iff.mp z with q|q
    .rw[beq_iff_eq.mp q];decide
    .rw[List.contains_cons];have:W.tailIn K rQ r=true:=by
      split at q
      .split at q
       .simp only[bE]at q;exact q.2
       .cases q
      .cases q
     rw[ih this,Bool.or_true]
  exact tl _ h4
 .unfold subIn at s;rw[G]at s;exact s
def Wv{k:Nat}{A:Around}{h:aq ak}(r:jE k A):uu k (A.mark h):=⟨r.dp,r.un⟩
def Bo{P:ae}{K:aa}{q:Str}{k:Nat}(G:K.In h)(N:h.Ns mainGlobals mg)(F:jY K x q st f fd)(ok:gD P w K mg fF (yA P w) k f fd ps sp)(hb:Binds K fd ps [])
 (a:W.nsIn K mainGlobals x=some (some (.ref f)):=by kernel_rfl):JO P w K mg fF x k ps sp:=⟨f,fd,ok,eW G N a,F.kp,hb⟩
def QU{P:ae}{K:aa}{q:Str}{k:Nat}{sp:jZ}(G:K.In h)(N:h.Ns mainGlobals mg)(F:jY K x q st f fd)(ok:HY P w K mg fF k f fd ps sp)(hb:Binds K fd ps [])
 (a:W.nsIn K mainGlobals x=some (some (.ref f)):=by kernel_rfl):VB P w K mg fF x k ps sp:=⟨f,fd,ok,eW G N a,F.kp,hb⟩
def jJ{n:MO}(em:μ[0]?=some m):(μ.set 0 n)[0]?=some n:=aG (kN em).1
def my{n:MO}(em:μ[0]?=some m):(μ.set 0 n).set 0 m=μ:=by
 cases μ with
 |nil=>cases em
 |cons a r=>cases em;rfl
def tQ{n:Nat}{c:ak}{G:DX}(J:G=FX n (gX ij H m Kx))(em:μ[0]?=some m)(k:Kx c μ):(μ.set 0 (.gx ij H))[0]?=some (.gx ij H)/\G c (μ.set 0 (.gx ij H)):=⟨jJ em,by rw[J];exact .inl ⟨jJ em,by rw[my em];exact k⟩⟩
def zA{K:DK}(em:μ[0]?=some m)(k:K d μ):gK ij H m K d (μ.set 0 (.gx ij H)):=⟨jJ em,by rw[my em];exact k⟩
def RC(n e a b:Int):Prop:=e<a/\a<b/\b<=n
instance (n e a b:Int):Decidable (RC n e a b):=by unfold RC;infer_instance
def Xa(K:aa)(cs:ao ai)(j:Nat):Bool:=(List.range 17).all λi=>W.kitOne K (.ref (cs.getD j 0)) (.ref (cs.getD i 0))==some (decide (i=j))
structure mS (K:aa)(cs:List ai)(cH:ai)(j:Nat):Prop where
 ef:V5 K (cs.getD j 0)
 kit:Xa K cs j=true
 kv:W.kitOne K (.ref (cs.getD j 0)) (.type "ValueError")=some true
 sub:HZ K (cs.getD j 0) cH
def mS.at_{K:aa}{cs:ao ai}{G:ai}(h:mS K cs G j)(i:Nat)(hi:i<17):W.kitOne K (.ref (cs.getD j 0)) (.ref (cs.getD i 0))=some (decide (i=j)):=by have:=List.all_eq_true.mp h.kit i (List.mem_range.mpr hi);simpa using this
def Dk(j:Nat):Str:=(["BadBars","BadMake","BadNumber","BadText","BadName","BadAge","BadBar","BadPlace","BadSize","Taken","Full","NoTake","Shut","Joined","Needed","NothingLeft","NoWay"]:ao Str).getD j ""
structure Yw (x:Str)(C:ai)(mg:Str->Option ak):Prop where
 bound:mg x=some (.ref C)
section
variable {X:Cx}{a b e o:Expr}{es:ao Expr}{pos:Pos}
def RI:ao V->Hp->VK->Prop:=λvs H Q=>match vs with
 |[.ref a]=>∃ fR,Rd H a (.dK fR)/\Q (.int fR.length) H
 |_=>False
def lenD:jM X (.builtin "len") RI:=by
 intro fE s σ H xs us Q I r h;unfold RI at h;split at h
 .obtain⟨fR,rd,q⟩:=h;obtain⟨u,rfl,G⟩:=r.one;cases G;exact XS I rd λt s' J=>⟨.int _,H,J,⟨t,rfl⟩,q⟩
 .cases h
end
structure Ia (P:ae)(w:af)(K:aa)(mg:Str->Option ak)(fF:Heap)(C:ai)(m:Str)(k:Nat)(ps:List Str)(sp:Sp):Prop where
 ex:∃ f fd,gD P w K mg fF (yA P w) k f fd ps sp/\Meth K C m f/\Binds K fd ps []
def cX(f:rL):jZ:=λds μ K=>f ds μ K λ_ _=>False
def WI:Passes (yA X.prog X.w) X (λ_ _ _=>False):=λfE σ H s e s' I c=>by obtain⟨_,_,_,_,_,_,_,_,_,_,_,z⟩:=c;exact z.elim
section
variable {X:Cx}{a b e o:Expr}{es:ao Expr}{pos:Pos}{C:ai}{ij:ao ai}{H0:Hp}{Kx:DX}
def Nw{f:rL}{w:DA}{p:Pos}{k:Nat}(C:JO X.prog X.w X.K X.mg X.fF x k ps (Ae f))(J:jE k X.A)(U:Gl X x)(ha:u9 X (e::es) w)
 (G:(x==("__debug__" : Str))=false:=by decide) (he:starEach (e::es) X.env=(false,eval e X.env)::starEach es X.env:=by rfl) (nK:(backTo pos (starEach es X.env)).any (·.1)=false:=by rfl):
 PD X (.Call (.Name x p) (e::es) [] pos) (vI (cX f) w):=by
 obtain⟨f',fd,F,O,hk,hb⟩:=C.ex;exact(AB F J U O hk hb .nil WI ha G he nK).imp λσ H Q ⟨φ,ρ,μ,K,Ee,M,w,L⟩ =>⟨φ,ρ,μ,_,Ee,M,w,λds W Y vs H1 k1 Z M1 i1=>by show Ae f (vs++[]) H1 Q _;rw[b9];exact⟨Y,ds,W,K,_,i1,M1,k1,L.mono Z,λ_ _ _ _ z _ _=>z.elim⟩⟩
def KN{m:Str}{f:rL}{w:DA}{Q:VK}{E:XK}{ok:MS->Prop}{Kx:DX}(Y:∀ φ μ H,gz φ H μ->ok μ->vf φ H Kx E)(h:tD (λρ μ K=>wo ρ μ λx J=>GD C m J x/\w ρ J λds G=>ok G/\f (x::ds) G K Kx) σ H Q):KL C m (Ae f) [] E (tD wo) (VH w) σ H Q:=by obtain⟨φ,ρ,μ,K,A,M,k,L⟩:=h;refine⟨φ,ρ,μ,_,A,M,k,λd1 J Z v1 H1 k1 W M1 i1=>?_⟩;obtain⟨p,dx,fs,rfl,h1,h2⟩:=Cv M1 i1 k1.1;refine⟨p,dx,fs,rfl,h1,h2,Z,ρ,J,_,A.mono W,M1,k1.2,λds G O vs H2 k2 U M2 i2=>?_⟩;show Ae f (.ref p::(vs++[])) H2 Q E;rw[b9];exact⟨O,d1::ds,G,K,Kx,⟨_,vs,rfl,jG.mono U i1,i2⟩,M2,k2.2,L.mono (W.trans U),Y O G H2 M2 k2.1⟩
def Vf(ij:ao ai)(H0:Hp)(Kx:DX)(C:ai)(m:Str)(f:rL)(wo:De)(w:DA):De:=λρ μ K=>wo ρ μ λx J=>GD C m J x/\w ρ J λds G=>G[0]?=some (.gx ij H0)/\f (x::ds) G K Kx
def Be{m:Str}{f:rL}{w:DA}{mL:Pos}{pl:Sem Bool}{k:Nat}(Z:Rz X ij H0 Kx)(CM:Ia X.prog X.w X.K X.mg X.fF C m k ps (Ae f))(c:FQ X.K C)(G:jE k X.A)(O:PD X o wo)(ha:u9 X (e::es) w)
 (Y:starEach (e::es) X.env=(false,eval e X.env)::starEach es X.env:=by rfl) (nK:(backTo pos (starEach es X.env)).any (·.1)=false:=by rfl)
 (ht:eval (.Call (.Attribute o m mL) (e::es) [] pos) X.env=(do
   let ov <- eval o X.env
   standAt mL.atName
   let (f,first) <- holding [ov] (getMethod ov m pl)
   callWith pos f first (backTo pos (starEach (e::es) X.env)) (backToKw pos (keywordEach [] X.env))):=by rfl):
 PD X (.Call (.Attribute o m mL) (e::es) [] pos) (Vf ij H0 Kx C m f wo w):=by
 obtain⟨E,W,L⟩:=Z.ex;obtain⟨f',fd,F,U,hb⟩:=CM.ex;exact(GL O c U F G hb .nil L ha Y nK ht).imp λσ H Q J=>KN (ok:=λμ=>μ[0]?=some (MO.gx ij H0)) (λφ μ H M e=>W.mono (M.Ql e)) J
end
def NM{P:ae}{K:aa}{C:ai}{q:Str}{k:Nat}(F:jY K x q st f fd)(ok:gD P w K mg fF (yA P w) k f fd ps sp)(hb:Binds K fd ps [])
 (a:W.findIn K (.ref C) x=some (some (.ref f)):=by kernel_rfl) (i:W.isFn K (.ref f)=true:=by kernel_rfl):Ia P w K mg fF C x k ps sp:=⟨f,fd,ok,⟨a,i,F.kp⟩,hb⟩
inductive Pt where
 |fst (b:List Nat) (a:Int)
 |jn (l r:Str) (p:Int)
structure RS where
 n:Int
 jk:List (Str×Pt)
 Z6:List (Int×Unit)
inductive Dd where
 |put (nm b:Str) (a:Int)|join (nm l r:Str) (p:Int)|found (nm:Str) (bar:Int) (sg:Str)|aged (nm:Str) (a:Int)|drop (nm:Str)|free (p:Int)|Z6 (p:Int)
section
variable {α β:Type}[DecidableEq α]
def Yo(l:ao (α×β))(k:α):aq β:=(l.find? λp=>decide (p.1=k)).map (·.2)
end
section
variable {α β:Type}[DecidableEq α]{κ:α->Key}(hi:∀ a b,κ a=κ b->a=b)(f:β->D)
include hi
end
def evF{γ:Type}(gf:Str->ao Nat->Int->γ)(gj:γ->γ->Int->γ)(z:γ)(jk:ao (Str×Pt)):Nat->Str->γ
 |0,_=>z
 | f+1,nm=>match Yo jk nm with
  |some (.fst b a)=>gf nm b a
  |some (.jn l r p)=>gj (evF gf gj z jk f l) (evF gf gj z jk f r) p
  |none=>z
section
variable {γ:Type}{gf:Str->ao Nat->Int->γ}{gj:γ->γ->Int->γ}{z:γ}{jk:ao (Str×Pt)}
def ev(gf:Str->ao Nat->Int->γ)(gj:γ->γ->Int->γ)(z:γ)(jk:ao (Str×Pt))(nm:Str):γ:=evF gf gj z jk jk.length nm
end
section
variable {α β:Type}[DecidableEq α]{κ:α->Key}(hi:∀ a b,κ a=κ b->a=b)(f:β->D)
include hi
end
open PySem PySem.Spec PyProof.Rows PyProof
def TV(c:Dt)(ρ:DE)(μ:MS)(b:Bool):Prop:=∀ K:Bool->MS->Prop,K b μ->c ρ μ K
section
variable {a c:Dt}{t u:Ds}{N:DN}{ρ:DE}{μ:MS}{x y b:Bool}{e:De}
def TV.Gg(h:∀ K:DK,K (.bl b) μ->e ρ μ K):TV (pJ e) ρ μ b:=λK k=>h _ k
def TV.or(h1:TV a ρ μ x)(h2:x=false->TV c ρ μ y):TV (Nm a c) ρ μ (x||y):=λK k=>h1 _ (by
 cases x with
 |true=>rw[aB rfl];exact k
 |false=>rw[aC (by decide)];exact h2 rfl K k)
def TV.not(h1:TV a ρ μ x):TV (So a) ρ μ (!x):=λK k=>h1 _ k
def pL(b:Bool)(h:TV c ρ μ b)(ht:b=true->t N ρ μ)(hu:b=false->u N ρ μ):Vg c t u N ρ μ:=h _ (by
 cases b with
 |true=>rw[aB rfl];exact ht rfl
 |false=>rw[aC (by decide)];exact hu rfl)
end
def pK{N:DN}{ρ:DE}(h:N.nx ρ μ):dNx N ρ μ:=h
section
variable {α β:Type}[DecidableEq α]{κ:α->Key}(hi:∀ a b,κ a=κ b->a=b){f:β->D}{μ:MS}{j:Nat}{l:ao (α×β)}
include hi
end
end L2
namespace L2
open PySem PySem.W PyProof.Rows
noncomputable abbrev z9:=Fast.tw10156331382660048174
noncomputable abbrev Kv:=Fast.tw11892475500146522536
noncomputable def O3(p:ae)(w:af)(G:Nat)(ann:aq ak):Nat->SharedT->Thread->aq SharedT
 |0,_,_=>none
 | n+1,s,t=>match through t with
  |true=>some s
  | false=>match stepOk G ann t with
   |false=>none
   | true=>match z9 (Kv y8) p w s t with
    |some (s',t')=>O3 p w G ann n s' t'
    |none=>none
theorem GA{p:ae}{w:af}{G:Nat}{ann:aq ak}:∀ {n:Nat} {s s':SharedT} {t:Thread},O3 p w G ann n s t=some s'->topRun treeTable p w G ann n s.abs t=some s'.abs
 |0,_,_,_,h=>by cases h
 | n+1,s,s',t,h=>by
  unfold O3 at h;unfold topRun;cases O:through t with
  |true=>rw[O]at h;cases h;rfl
  | false =>
   rw[O]at h;cases hk:stepOk G ann t with
   |false=>rw[hk]at h;cases h
   | true =>
    rw[hk]at h;cases L:z9 (Kv y8) p w s t with
    |none=>rw[L]at h;cases h
    | some r =>
     obtain⟨W,U⟩:=r;rw[L]at h;have J:stepT (denote treeTable) p w s t=some (W,U):=by rw[show stepT=z9 from Fast.te10156331382660048174,show denote=Kv from Fast.te11892475500146522536,show treeTable=y8 from Fast.te14364793385576792824];exact L
     rw[stepT_spec J];exact GA h
noncomputable def boT(P:Params):BT:=(.node (boot_o_0 P) (.node (boot_o_1 P) (.node (boot_o_3 P) (.node (boot_o_7 P) .nil .nil) .nil) (.node (boot_o_5 P) (.node (boot_o_9 P) .nil .nil) .nil)) (.node (boot_o_2 P) (.node (boot_o_4 P) (.node (boot_o_8 P) .nil .nil) .nil) (.node (boot_o_6 P) (.node (boot_o_10 P) .nil .nil) .nil)))
noncomputable abbrev ST0(w:af)(os:OsState):SharedT:=⟨boT w.params,11,(boot_heap w.params).life,#[],boot_drawn,boot_toks,os⟩
def QX(w:af)(os:OsState):(ST0 w os).abs=S00 w os:=by kernel_rfl
end L2
namespace L2
open PySem PySem.Spec PyProof.Rows PyProof PySem.W
end L2
namespace L2
open PySem PySem.Spec PyProof.Rows PyProof
section
variable {jk:ao (Str×Pt)}{z:Str}{b b':ao Nat}{a:Int}(h:Yo jk z=some (.fst b a))
include h
end
variable{x:Str}
def zs{n:Nat}(h:Nat.ble n 100=true:=by rfl):n<=sizeLine:=aX (Nat.le_of_ble_eq_true h) (sz (by decide))
section
variable {X:Cx}{a b e e1 e2 e3:Expr}{wa wb w w1 w2 w3:De}{pos p:Pos}
def a1(h:PD X e w)(s:starEach [e] X.env=(false,eval e X.env)::starEach [] X.env:=by rfl):u9 X [e] (ue w JC):=fJ h g9 s
def a2(h:PD X e w)(h1:PD X e1 w1)(s:starEach [e,e1] X.env=(false,eval e X.env)::starEach [e1] X.env:=by rfl)(s1:starEach [e1] X.env=(false,eval e1 X.env)::starEach [] X.env:=by rfl):u9 X [e,e1] (ue w (ue w1 JC)):=fJ h (a1 h1 s1) s
def a3(h:PD X e w)(h1:PD X e1 w1)(h2:PD X e2 w2)(s:starEach [e,e1,e2] X.env=(false,eval e X.env)::starEach [e1,e2] X.env:=by rfl)(s1:starEach [e1,e2] X.env=(false,eval e1 X.env)::starEach [e2] X.env:=by rfl)(s2:starEach [e2] X.env=(false,eval e2 X.env)::starEach [] X.env:=by rfl):u9 X [e,e1,e2] (ue w (ue w1 (ue w2 JC))):=fJ h (a2 h1 h2 s1 s2) s
def jC(ha:PD X a wa)(hb:PD X b wb)(G:BF b:=by exact λ_ _=>rfl):PD X (.Subscript a b pos) (wL X5 wa wb):=d_ix Mr Wo ha hb G
def m6(ha:PD X a wa)(hb:PD X b wb):PD X (.BinOp a .Add b pos) (wL (Vj false) wa wb):=p5 N5 Te ha hb
def Ef(ha:PD X a wa)(hb:PD X b wb):PD X (.BinOp a .Sub b pos) (wL (vT λi j=>.int (i - j)) wa wb):=p5 Iq Td ha hb
def VM(ha:PD X a wa)(hb:PD X b wb):PT X (.Compare a [.Lt] [b] pos) (yE (pJ (wL (vT λi j=>.bl (decide (i<j))) wa wb))):=lO ltC Ai ha hb (jm _)
def O9(ha:PD X a wa)(hb:PD X b wb):PT X (.Compare a [.LtE] [b] pos) (yE (pJ (wL (vT λi j=>.bl (decide (i<=j))) wa wb))):=lO leC Ai ha hb (jm _)
def RL(ha:PD X a wa)(hb:PD X b wb):PT X (.Compare a [.Gt] [b] pos) (yE (pJ (wL (vT λi j=>.bl (decide (j<i))) wa wb))):=lO gtC Ai ha hb (jm _)
def Y0(ha:PD X a wa)(hb:PD X b wb):PT X (.Compare a [.GtE] [b] pos) (yE (pJ (wL (vT λi j=>.bl (decide (j<=i))) wa wb))):=lO geC Ai ha hb (jm _)
def CB(ha:PD X a wa)(hb:PD X b wb):PT X (.Compare a [.Eq] [b] pos) (yE (pJ (wL (NF false) wa wb))):=lO XF xk ha hb (jm _)
def qNe(ha:PD X a wa)(hb:PD X b wb):PT X (.Compare a [.NotEq] [b] pos) (yE (pJ (wL (NF true) wa wb))):=lO BY xk ha hb (jm _)
def zK(T:lR X.mg)(h:PD X e w)(G:Gl X "len":=by rfl)(he:starEach [e] X.env=(false,eval e X.env)::starEach [] X.env:=by rfl)(nK:(backTo pos (starEach [] X.env)).any (·.1)=false:=by rfl):PD X (.Call (.Name "len" p) [e] [] pos) (vI Qv (ue w JC)):=ny PY Tc G T.len PySem.boot_len (a1 h he) (by decide) (by decide) he nK
section
variable {es:ao Expr}{x:Str}{k k0:Nat}{ps:ao Str}{f:jZ}{fx:rL}{u:DA}
def qC(C:nO X.prog X.w X.K X.mg X.fF x k ps (iL f))(G:jE k0 X.A)(ha:u9 X (e::es) u)(hk:k<=k0:=by first | decide | exact ar _ | lia)(hg:Gl X x:=by rfl)(vR:(x==("__debug__" : Str))=false:=by decide)(he:starEach (e::es) X.env=(false,eval e X.env)::starEach es X.env:=by rfl)(nK:(backTo pos (starEach es X.env)).any (·.1)=false:=by rfl):
 PD X (.Call (.Name x p) (e::es) [] pos) (vI f u):=Vc C (G.mono hk) hg ha vR he nK
end
def qS(i:Nat){pos':Pos}(G:X.N.Nodup)(he:PD X e w)(hi:X.N[i]?=some x:=by rfl)(hx:Loc X.env.scope x:=by first | exact Or.inl rfl | exact Or.inr rfl)(hf:X.fn x=true\/X.env.scope.names.lookup x=some .local:=by first | exact .inl rfl | exact .inr rfl | assumption)
 (Mz:swapsWith e (some (.Name x pos')) pos.line X.env=pure false:=by rfl):yX X (.Assign [.Name x pos'] e pos) (Nx i w):=Wt G hi hx he hf Mz
def qN(i:Nat)(G:X.N.Nodup)(hi:X.N[i]?=some x:=by rfl)(hx:Loc X.env.scope x:=by first|exact Or.inl rfl|exact Or.inr rfl)(hf:X.fn x=true\/X.env.scope.names.lookup x=some .local:=by first|exact .inl rfl|exact .inr rfl|assumption):PG X (.Name x pos) (tR i):=wg G hi hx hf
def qT(i:Nat)(G:X.N.Nodup)(hi:X.N[i]?=some x:=by rfl)(hx:Loc X.env.scope x:=by first|exact Or.inl rfl|exact Or.inr rfl)(hf:X.fn x=true\/X.env.scope.names.lookup x=some .local:=by first|exact .inl rfl|exact .inr rfl|assumption):Tg X (.Name x pos) (tR i) (Ba i) [i]:=⟨wg G hi hx hf,fY i,fH i⟩
def sH{J ps N:ao Str}{js:ao (aq Nat)}{sc G:Scope}(S:gb J ps G)(h:wO J G N js sc=true)(L:X.N=J:=by rfl)(hs:X.env.scope=G:=by rfl):jU X N js sc:=Fy h L hs
section
variable {tg iter elt:Expr}{ifs:ao Expr}{sc:Scope}{N:ao Str}{js:ao (aq Nat)}{g:TG}{y:DG}{S:ao Nat}{t:Dt}{wi:DI}
def Z9(i:Nat)(m:Bool){pos' G:Pos}{x:Str}(U:X.N.Nodup)(J:jU X N js sc)(so:JY g y S)(mo:oY g)(hi:HV X tg iter wi)(O:∀ fp s H,N.Nodup->PG (m7 X N sc fp s H) tg g)
 (ht:∀ fp s H,yW (m7 X N sc fp s H) ifs t) (he:∀ fp s H,PD (m7 X N sc fp s H) elt w) (L:qo S js=true:=by rfl) (gY:X.gY=true:=by rfl) (Fd:X.N[i]?=some x:=by rfl) (hx:Loc X.env.scope x:=by first|exact Or.inl rfl|exact Or.inr rfl) (Mz:swapsWith (.ListComp elt [⟨tg,iter,ifs,0⟩] sc pos) (some (.Name x pos')) G.line X.env=pure true:=by rfl)
 (hs:∀ x,foldedSetIterable iter X.env x=pure x:=by intro _;rfl) (hf:X.fn x=true\/X.env.scope.names.lookup x=some .local:=by first|exact .inl rfl|exact .inr rfl|assumption):
 yX X (.Assign [.Name x pos'] (.ListComp elt [⟨tg,iter,ifs,0⟩] sc pos) G) (Nx i (vH m wi js y t w)):=IA m J gY so mo L U Fd hx hi (λfp s H=>O fp s H J.nd) ht he Mz hs hf
def NG(m:Bool)(G:jU X N js sc)(so:JY g y S)(mo:oY g)(hi:HV X tg iter wi)(L:∀ fp s H,N.Nodup->PG (m7 X N sc fp s H) tg g)(ht:∀ fp s H,yW (m7 X N sc fp s H) ifs t)(he:∀ fp s H,PD (m7 X N sc fp s H) elt w)(J:qo S js=true:=by rfl)(gY:X.gY=true:=by rfl)
 (hs:∀ x,foldedSetIterable iter X.env x=pure x:=by intro _;rfl):PD X (.ListComp elt [⟨tg,iter,ifs,0⟩] sc pos) (vH m wi js y t w):=Vb m G gY so mo J hi (λfp s H=>L fp s H G.nd) ht he hs
def YY(i:Nat)(m:Bool){pos' G:Pos}{x:Str}(U:X.N.Nodup)(O:jU X N js sc)(hi:HV X tg iter wi)(L:∀ fp s H,N.Nodup->PG (m7 X N sc fp s H) tg (tR 0))
 (ht:∀ fp s H,yW (m7 X N sc fp s H) ifs t) (he:∀ fp s H,PD (m7 X N sc fp s H) elt w) (J:qo [0] js=true:=by rfl) (gY:X.gY=true:=by rfl) (Fd:X.N[i]?=some x:=by rfl) (hx:Loc X.env.scope x:=by first|exact Or.inl rfl|exact Or.inr rfl) (Mz:swapsWith (.ListComp elt [⟨tg,iter,ifs,0⟩] sc pos) (some (.Name x pos')) G.line X.env=pure true:=by rfl)
 (hs:∀ x,foldedSetIterable iter X.env x=pure x:=by intro _;rfl) (hf:X.fn x=true\/X.env.scope.names.lookup x=some .local:=by first|exact .inl rfl|exact .inr rfl|assumption):
 yX X (.Assign [.Name x pos'] (.ListComp elt [⟨tg,iter,ifs,0⟩] sc pos) G) (Nx i (vH m wi js (Ba 0) t w)):=Z9 i m U O (fY 0) (fH 0) hi L ht he J gY Fd hx Mz hs hf
def Eg(m:Bool)(L:jU X N js sc)(hi:HV X tg iter wi)(J:∀ fp s H,N.Nodup->PG (m7 X N sc fp s H) tg (tR 0))(ht:∀ fp s H,yW (m7 X N sc fp s H) ifs t)(he:∀ fp s H,PD (m7 X N sc fp s H) elt w)(G:qo [0] js=true:=by rfl)(gY:X.gY=true:=by rfl)
 (hs:∀ x,foldedSetIterable iter X.env x=pure x:=by intro _;rfl):PD X (.ListComp elt [⟨tg,iter,ifs,0⟩] sc pos) (vH m wi js (Ba 0) t w):=NG m L (fY 0) (fH 0) hi J ht he G gY hs
end
end
end L2
namespace L2
open PySem PySem.Spec PyProof.Rows PyProof PySem.W
abbrev pA(s:Stmt):ao Str:=(j7 s).args.map (·.arg)
def je{N P:ao Str}{sc:Scope}(h1:sc.kind=.function:=by rfl)(h2:sc.isCoroutine=false:=by rfl)(h3:sc.isGenerator=false:=by rfl)(h4:N.Nodup:=by decide +kernel)(h5:N.take P.length=P:=by rfl)
 (h6:∀ x∈P,sc.names.lookup x=some .local\/sc.names.lookup x=some .cell:=by decide +kernel) (h7:∀ y∈sc.names,y.2≠.free:=by decide +kernel):gb N P sc:=⟨h1,h2,h3,h4,h5,h6,h7⟩
def kf(f c:ai)(x q:Str)(s:Stmt)(pm:ak)(t l a O L:Nat)(v1 v2:ak)(J G:Nat):ao (ai×Obj):=[ko f (Zh x q s pm c),ko c (coQ x q t l a O L v1 v2 J G)]
def oZ(f c:ai)(x:Str)(s:Stmt)(pm:ak)(t l a O L:Nat)(v1 v2:ak)(J G:Nat):ao (ai×Obj):=kf f c x x s pm t l a O L v1 v2 J G
def kx(P:Params)(a n h:ai)(x:Str)(G:aq ak)(t u:Nat)(m:ak)(i l:Nat)(st:ai)(sub:ao ak:=[])(bs:ao ak:=[.ref h])(mro:ao ak:=[.ref a,.ref h,.type "ValueError",.type "Exception",.type "BaseException",.type "object"]):ao (ai×Obj) :=
 [ko a ⟨.type "type",none,.cls ⟨x,bs,mro,n,x,true,[],sub,false,none,false⟩,#[G,none,some (.str x t),some (.str x u),some (.builtin "ValueError.__new__"),some (.bool true)]⟩,
  ko n ⟨.type "dict",none,.dict #[ud P "__module__" i m,ud P "__firstlineno__" (i+4) (.int l (i+3)),ud P "__static_attributes__" (i+5) (.ref st),ud P "__doc__" (i+6) .none] 2,#[]⟩]
section
variable {K:Frag}{x q:Str}{s:Stmt}{f:ai}{fd:ag}{ps:ao Str}(F:jY K x q s f fd)
include F
def Vo(hl:ps.length=1:=by rfl)(h:∀(kV G J:ak) (an:aq ai) (jc ct a:ak),bindArgs (fnOf x q (j7 s) (jy s) (fM s) .none kV G J an jc ct) ⟨[a],[]⟩=pure (ps.zip [a]):=by intros;rfl):Binds K fd ps []:=F.binds λk d p n c t=>by rw[hl];exact QY λa=>h k d p n c t a
def Ek(hl:ps.length=2:=by rfl)(h:∀(kV G J:ak) (an:aq ai) (jc ct a b:ak),bindArgs (fnOf x q (j7 s) (jy s) (fM s) .none kV G J an jc ct) ⟨[a,b],[]⟩=pure (ps.zip [a,b]):=by intros;rfl):Binds K fd ps []:=F.binds λk d p n c t=>by rw[hl];exact Ei λa=>QY λb=>h k d p n c t a b
def Ej(hl:ps.length=3:=by rfl)(h:∀(kV G J:ak) (an:aq ai) (jc ct a b e:ak),bindArgs (fnOf x q (j7 s) (jy s) (fM s) .none kV G J an jc ct) ⟨[a,b,e],[]⟩=pure (ps.zip [a,b,e]):=by intros;rfl):Binds K fd ps []:=F.binds λk d p n c t=>by rw[hl];exact Ei λa=>Ei λb=>QY λe=>h k d p n c t a b e
def JX(hl:ps.length=4:=by rfl)(h:∀(kV G J:ak) (an:aq ai) (jc ct a b e g:ak),bindArgs (fnOf x q (j7 s) (jy s) (fM s) .none kV G J an jc ct) ⟨[a,b,e,g],[]⟩=pure (ps.zip [a,b,e,g]):=by intros;rfl):Binds K fd ps []:=F.binds λk d p n c t=>by rw[hl];exact Ei λa=>Ei λb=>Ei λe=>QY λg=>h k d p n c t a b e g
def bd5(hl:ps.length=5:=by rfl)(h:∀(kV G J:ak) (an:aq ai) (jc ct a b e g i:ak),bindArgs (fnOf x q (j7 s) (jy s) (fM s) .none kV G J an jc ct) ⟨[a,b,e,g,i],[]⟩=pure (ps.zip [a,b,e,g,i]):=by intros;rfl):Binds K fd ps []:=F.binds λk d p n c t=>by rw[hl];exact Ei λa=>Ei λb=>Ei λe=>Ei λg=>QY λi=>h k d p n c t a b e g i
end
end L2
namespace L2
open PySem PySem.Spec PyProof.Rows PyProof
variable{H:Hp}{es cs:ao Int}{ts:ao Tk}{μ:MS}{ds:ao D}{n i j:Nat}{vs:ao V}{X:Cx}{Kx:DX}
def Bg{c:Dt}{t u:Ds}{N:DN}{ρ:DE}(B:Bool->Prop)(h:∀ K:Bool->MS->Prop,(∀ b,B b->K b μ)->c ρ μ K)(ht:B true->t N ρ μ)(hu:B false->u N ρ μ):Vg c t u N ρ μ:=h _ λb hb=>by
 cases b with
 |true=>rw[aB rfl];exact ht hb
 |false=>rw[aC (by decide)];exact hu hb
def tY(K:aa)(cs:ao ai)(G:ai):jZ:=λds μ J=>match ds with
 |[.mr k]=>(∃ m,μ[0]?=some m)/\k≠0/\∃ j,j<17/\μ[k]?=some (.exc (.ref (cs.getD j 0)))/\mS K cs G j/\J (.lst [.str (Dk j)]) μ
 |_=>False
def DB{K:aa}{cs:ao ai}{G:ai}{J:DK}(h:tY K cs G ds μ J):ds.length=1/\∃ m,μ[0]?=some m:=by
 unfold tY at h;split at h
 .exact⟨rfl,h.1⟩
 .cases h
def oA:ao Str:=["BadBars","BadMake","BadNumber","BadText","BadName","BadAge","BadBar","BadPlace","BadSize","Taken","Full","NoTake","Shut","Joined","Needed","NothingLeft","NoWay","no ValueError"]
def Mo(j:Nat):ao D:=(List.range 17).map (λi=>D.bl (decide (i=j)))++[.bl false]
def Mn(G:j<17)(hi:i<18):(Mo j)[i]?=some (.bl (decide (i=j))):=by
 unfold Mo;by_cases h:i<17
 .rw[uO (by rw[iE,tP];exact h),oC,bo h];rfl
 .rw[pW (by rw[iE,tP];lia),iE,tP,show i - 17=0 by lia,aW (by lia)];rfl
def kOne:∀ j:Nat,j<17->((List.range 18).filterMap λi=>if i=j then some (oA.getD i "")else none)=[Dk j]:=by decide +kernel
def Jg(hi:i<18):oA[i]?=some (oA.getD i ""):=by
 rw[av];cases e:oA[i]? with
 |none=>exact absurd (List.getElem?_eq_none_iff.mp e) (by show ¬ 18<=i;lia)
 |some x=>rfl
def DU{it:D->MS->(aq D->MS->Prop)->Prop}{c:MS->Prop}(L:j<17)(O:c μ){K:ao D->MS->Prop}(h:∀(i:Nat) (G:aq D->MS->Prop),i<18->(Mo j)[i]?=some (.bl (decide (i=j)))->oA[i]?=some (oA.getD i "")->(i=j->G (some (.str (oA.getD i ""))) μ)->(i≠j->G none μ)->it (.int (0+(i:Int))) μ G)(k:K [.str (Dk j)] μ):qG it c (kr 0 18) μ K:=by
 refine m9 O (λi:Nat=>D.int (0+(i:Int))) (λi=>if i=j then some (D.str (oA.getD i ""))else none) (λi hi G J=>?_) ?_
 .have hi:=List.mem_range.mp hi;refine h i G hi (Mn L hi) (Jg hi) (λe=>?_) (λe=>?_)
  .rw[aB e]at J;exact J
  .rw[aC e]at J;exact J
 .have e:((List.range 18).filterMap λi=>if i=j then some (D.str (oA.getD i ""))else none)=[.str (Dk j)]:=by have t:=cf (List.map D.str) (kOne j L);rw[List.map_filterMap]at t;refine Eq.trans ?_ t;congr 1;funext i;split<;>rfl
  rw[e]
  exact k
def w0(n:Nat):Bool:=n==0
def w1(n:Nat):Bool:=n==1
def k16{K:aa}{cs:ao ai}{G:ai}(h0:mS K cs G 0)(h1:mS K cs G 1)(h2:mS K cs G 2)(h3:mS K cs G 3)(Z:mS K cs G 4)(Y:mS K cs G 5)(W:mS K cs G 6)(U:mS K cs G 7)(O:mS K cs G 8)(L:mS K cs G 9)(ha:mS K cs G 10)(hb:mS K cs G 11)(J:mS K cs G 12)(hd:mS K cs G 13)(he:mS K cs G 14)(hf:mS K cs G 15):∀ j,j<16->mS K cs G j
 |0,_=>h0|1,_=>h1|2,_=>h2|3,_=>h3|4,_=>Z|5,_=>Y|6,_=>W|7,_=>U|8,_=>O|9,_=>L|10,_=>ha|11,_=>hb|12,_=>J|13,_=>hd|14,_=>he|15,_=>hf
 |n+16,h=>absurd h (by lia)
def kB{K:aa}{cs:ao ai}{G:ai}(e1:(W.clsIn K (cs.getD j 0)).isSome=true:=by kernel_rfl)(e2:W.findIn K (.ref (cs.getD j 0)) "__getattribute__"=some (some (.builtin "BaseException.__getattribute__")):=by kernel_rfl)(e3:W.findIn K (.ref (cs.getD j 0)) "__getattr__"=some none:=by kernel_rfl)
 (e4:W.findIn K (.ref (cs.getD j 0)) "__class__"=some (some (.builtin "object.__class__")):=by kernel_rfl) (e5:W.specialIn K (.builtin "object.__class__") "__get__"=some (some (.builtin "getset_descriptor.__get__")):=by kernel_rfl) (e6:W.takesIn K (.builtin "object.__class__")=some true:=by kernel_rfl) (e7:W.mroIn K (cs.getD j 0) (.type "object")=some true:=by kernel_rfl) (e8:W.mroIn K (cs.getD j 0) (.type "BaseException")=some true:=by kernel_rfl)
 (k:Xa K cs j=true:=by kernel_rfl) (v:W.kitOne K (.ref (cs.getD j 0)) (.type "ValueError")=some true:=by kernel_rfl) (q1:W.excIn K G rQ "ValueError.__new__"=true:=by kernel_rfl) (q2:W.excIn K (cs.getD j 0) rQ "ValueError.__new__"=true:=by kernel_rfl) (q3:subIn K (cs.getD j 0) G=true:=by kernel_rfl):mS K cs G j:=⟨⟨e1,e2,e3,e4,e5,e6,e7,e8⟩,k,v,SY q1 q2 q3⟩
def K9(i:Nat):D:=.tup [.str "refused",.lst [.str (Dk i)]]
def Gh(x:D):D:=.tup [.str "told",x]
open PySem PySem.Spec PyProof.Rows
def j9.vo(cs:ao Int)(ts:ao Tk):j9->aq Tk
 |.num n=>if 0<=n then ts[n.toNat]? else none
 | .p9 p l r=>match l.vo cs ts,r.vo cs ts with
  |some a,some b=>if p∈cs then some (qx a b p)else none
  |_,_=>none
theorem j9.wV{cs:ao Int}{ts:ao Tk}:∀ {t:j9} {v:Tk},t.vo cs ts=some v->t.ok cs ts.length/\t.val ts=v
 | .num n,v,h=>by
  have h:(if 0<=n then ts[n.toNat]? else none)=some v:=h;split at h
  .have:=(kN h).1;exact⟨⟨by lia,by lia⟩,by show(ts[n.toNat]?).getD ([],0)=v;rw[h];rfl⟩
  .cases h
 | .p9 p l r,v,h=>by
  have h:(match l.vo cs ts,r.vo cs ts with|some a,some b=>if p∈cs then some (qx a b p)else none|_,_=>none)=some v:=h;cases G:l.vo cs ts with
  |none=>rw[G]at h;cases h
  | some a =>
   cases J:r.vo cs ts with
   |none=>rw[G,J]at h;cases h
   | some b =>
    rw[G,J]at h;have h:(if p∈cs then some (qx a b p)else none)=some v:=h;split at h
    .rename_i hp;cases h;obtain⟨l1,l2⟩:=wV G;obtain⟨O,L⟩:=wV J;exact⟨⟨hp,l1,O⟩,by show qx (l.val ts) (r.val ts) p=_;rw[l2,L]⟩
    .cases h
theorem j9.LM{cs:ao Int}{ts:ao Tk}:∀ {t:j9},t.ok cs ts.length->t.vo cs ts=some (t.val ts)
 | .num n,h=>by obtain⟨G,h1⟩:0<=n/\n<ts.length:=h;show(if 0<=n then ts[n.toNat]? else none)=some ((ts[n.toNat]?).getD ([],0));rw[aB G,jo (by lia)];rfl
 | .p9 p l r,h=>by show(match l.vo cs ts,r.vo cs ts with|some a,some b=>if p∈cs then some (qx a b p)else none|_,_=>none)=_;rw[LM h.2.1,LM h.2.2];exact aB h.1
def Zj(cB:ai):rL:=λds μ K Kx=>match ds with
 |[.lst y,.int p]=>(∃ m,μ[0]?=some m)/\∃ cs:ao Int,y=cs.map D.int/\(p∈cs->K (.int p) μ)/\(¬ p∈cs->Kx (.ref cB) μ)
 |_=>False
def abk(cB:ai):rL:=λds μ K Kx=>match ds with
 |[.int n,.lst x,.lst y,d]=>(∃ m,μ[0]?=some m)/\∃(cs:ao Int) (ts:ao Tk) (t:j9),x=cs.map D.int/\y=ts.map mO/\d=wq t/\t.cnt<=1000/\(∀ p∈cs,0<=p)/\n<=1000/\(∀ t∈ts,BE n t)/\(match t.vo cs ts with|some v=>K (mO v) μ|none=>Kx (.ref cB) μ)
 |_=>False
def V9(o:aq Tk):D:=match o with
 |some v=>mO v
 |none=>.iz
def uR(n:Nat):jZ:=λds μ K=>match ds with
 |[.lst c,.lst y,d]=>∃(cs:ao Int) (ts:ao Tk) (t:j9) (z:Int),c=cs.map D.int/\y=ts.map mO/\d=wq t/\t.dep<=n/\(∀ p∈cs,0<=p)/\z<=1000/\(∀ t∈ts,BE z t)/\K (V9 (t.vo cs ts)) μ
 |_=>False
def uT(n:Nat):jZ:=λds μ K=>match ds with
 |[.mr k,d,.int s,.int m]=>μ[k]?=some .box/\∃ t:j9,d=wq t/\t.dep<=n/\1<=s/\s<=500/\0<=m/\m<=500/\∀ G:j9,G.dep<=t.dep->G.cnt<=t.cnt->K (wq G) μ
 |_=>False
def vp(f:Nat->Int):ao Nat->Int->aq (Nat×Int)
 |[],_=>none
 |k::M,r=>if r<f k then some (k,r)else vp f M (r - f k)
def FE(es:ao Int)(ts:ao Tk):Nat->Nat->Nat->Int->j9
 |0,_,_,_=>.num 0
 | a+1,i,j,r=>if gy es ts (a+1) i j=0 then .num ((tw es ts a i j).getD r.toNat 0:Nat)else
  match vp (λk=>jg es ts a i k*jg es ts a k j) (oz (gy es ts (a+1)) (gy es ts a) i j) r with
  |some (k,q)=>.p9 (es.getD k 0) (FE es ts a i k (q / jg es ts a k j)) (FE es ts a k j (q%jg es ts a k j))
  |none=>.num 0
def sF(es:ao Int)(ts:ao Tk):Nat->Nat->Nat->j9->Prop
 |0,_,_,_=>False
 | a+1,i,j,t=>if gy es ts (a+1) i j=0 then ∃ x∈tw es ts a i j,t=.num (x:Nat)else
  ∃ k∈oz (gy es ts (a+1)) (gy es ts a) i j,∃ l r,t=.p9 (es.getD k 0) l r/\sF es ts a i k l/\sF es ts a k j r
def mq(es:ao Int)(f:Nat->Int)(p:Int):ao Nat->aq (Nat×Int)
 |[]=>none
 |k::M=>if es.getD k 0=p then some (k,0)else(mq es f p M).map λq=>(q.1,f k+q.2)
def Ww(l:ao Nat):j9->aq Int
 |.num n=>(l.findIdx? λx:Nat=>decide ((x:Int)=n)).map λi=>((i:Nat):Int)
 |.p9 _ _ _=>none
def yw(es:ao Int)(ts:ao Tk):Nat->Nat->Nat->j9->aq Int
 |0,_,_,_=>none
 | a+1,i,j,t=>if gy es ts (a+1) i j=0 then Ww (tw es ts a i j) t else
  match t with
  |.num _=>none
  | .p9 p l r=>match mq es (λk=>jg es ts a i k*jg es ts a k j) p (oz (gy es ts (a+1)) (gy es ts a) i j)with
   |none=>none
   | some (k,h)=>match yw es ts a i k l,yw es ts a k j r with
    |some x,some y=>some (h+x*jg es ts a k j+y)
    |_,_=>none
theorem zi{f:Nat->Int}:∀ {M:ao Nat} {r:Int},0<=r->r<(M.map f).sum->∃ z k,M[z]?=some k/\vp f M r=some (k,r - ((M.take z).map f).sum)/\0<=r - ((M.take z).map f).sum/\r - ((M.take z).map f).sum<f k
 |[],r,h0,h=>by simp at h;lia
 | k::M,r,h0,h=>by
  by_cases q:r<f k
  .exact⟨0,k,rfl,by unfold vp;rw[aB q];simp,by simpa using h0,by simpa using q⟩
  .rw[aw,cu]at h;obtain⟨z,G,h1,h2,L,J⟩:=zi (f:=f) (M:=M) (r:=r - f k) (by lia) (by lia);refine⟨z+1,G,h1,?_,?_,?_⟩
   .unfold vp;rw[aC q,h2,c4,aw,cu];congr 2;lia
   .rw[c4,aw,cu];lia
   .rw[c4,aw,cu];lia
theorem sC{es:ao Int}{f:Nat->Int}{p:Int}:∀ {M:ao Nat} {k:Nat} {h:Int},mq es f p M=some (k,h)->∃ z,M[z]?=some k/\es.getD k 0=p/\h=((M.take z).map f).sum
 |[],k,h,e=>by cases e
 | k'::M,k,h,e=>by
  unfold mq at e;by_cases q:es.getD k' 0=p
  .rw[aB q]at e;cases e;exact⟨0,rfl,q,rfl⟩
  .rw[aC q]at e;cases e2:mq es f p M with
   |none=>rw[e2]at e;cases e
   | some x =>rw[e2]at e;obtain⟨k2,h2⟩:=x;cases e;obtain⟨z,h1,J,G⟩:=sC e2;exact⟨z+1,h1,J,by rw[c4,aw,cu,G]⟩
theorem uq{es:ao Int}{f:Nat->Int}:∀ {M:ao Nat} {z k:Nat},(∀ x∈M,∀ y∈M,es.getD x 0=es.getD y 0->x=y)->M.Nodup->M[z]?=some k->mq es f (es.getD k 0) M=some (k,((M.take z).map f).sum)
 |[],z,k,_,_,h=>by cases h
 |k'::M,0,k,hi,nd,h=>by cases h;unfold mq;rw[aB rfl];rfl
 | k'::M,z+1,k,hi,nd,h=>by have hk:k∈M:=mR (show M[z]?=some k from h);obtain⟨n1,n2⟩:=List.nodup_cons.mp nd;unfold mq;rw[aC λe=>n1 (by rw[hi k' aF k (nM _ hk) e];exact hk),uq (z:=z) (λx J y G=>hi x (nM _ J) y (nM _ G)) n2 h,c4,aw,cu];rfl
theorem we{f:Nat->Int}:∀ {M:ao Nat} {z k:Nat} {q:Int},(∀ x∈M,0<=f x)->M[z]?=some k->0<=q->q<f k->vp f M (((M.take z).map f).sum+q)=some (k,q)/\((M.take z).map f).sum+q<(M.map f).sum/\0<=((M.take z).map f).sum
 |[],z,k,q,_,h,_,_=>by cases h
 | k'::M,0,k,q,G,h,h0,h1=>by
  cases h;have:=(Es (f:=f) (l:=M) λx J=>G x (nM _ J));refine⟨?_,?_,?_⟩
  .unfold vp;rw[List.take_zero,List.map_nil,List.sum_nil,c6,aB h1]
  .rw[List.take_zero,List.map_nil,List.sum_nil,aw,cu];lia
  .rw[List.take_zero,List.map_nil,List.sum_nil];exact bS _
 | k'::M,z+1,k,q,G,h,h0,h1=>by obtain⟨O,W,U⟩:=we (M:=M) (z:=z) (λx J=>G x (nM _ J)) h h0 h1;have:=G k' aF;rw[c4,aw,cu,aw,cu];refine⟨?_,by lia,by lia⟩;unfold vp;rw[aC (by lia),show f k'+(List.map f (M.take z)).sum+q - f k'=(List.map f (M.take z)).sum+q by lia];exact O
where Es {f:Nat->Int}:∀ {l:ao Nat},(∀ x∈l,0<=f x)->0<=(l.map f).sum
 |[],_=>bS _
 | x::l,h=>by have:=h x aF;have:=Es (l:=l) λy L=>h y (nM _ L);rw[aw,cu];lia
def EU(T U:Nat->Nat->Int)(i j:Nat):(oz T U i j).Nodup:=by unfold oz;exact List.Pairwise.sublist List.filter_sublist (List.pairwise_map.mpr (List.Pairwise.imp (λ{a b} (q:a<b)=>by lia) List.pairwise_lt_range))
def Ud(es:ao Int)(ts:ao Tk)(a:Int)(i j:Nat):(tw es ts a i j).Nodup:=by unfold tw;exact List.Pairwise.sublist List.filter_sublist List.nodup_range
section
variable {es:ao Int}{ts:ao Tk}(hu:es.Pairwise (·<·))(hL:es.length<=100)(ht:ts.length<=100)
def Fq(hu:es.Pairwise (·<·)){x y:Nat}(J:x<es.length)(G:y<es.length)(e:es.getD x 0=es.getD y 0):x=y:=by
 rcases eZ x y with q|q|q
 .have:=l6 hu (getD_some J) (getD_some G) q;lia
 .exact q
 .have:=l6 hu (getD_some G) (getD_some J) q;lia
include hu hL ht
theorem EB:∀(a i j:Nat) (r:Int),i<j->j<es.length->0<=r->r<jg es ts a i j->yw es ts a i j (FE es ts a i j r)=some r
 |0,i,j,r,_,_,h0,h=>by have:r<0:=h;lia
 | a+1,i,j,r,qA,L,h0,h=>by
  unfold jg at h;unfold yw FE;by_cases q:gy es ts (a+1) i j=0
  .rw[aB q]at h;rw[aB q,aB q];have G:r.toNat<(tw es ts a i j).length:=by lia
   show((tw es ts a i j).findIdx? _).map _=_;have e:(tw es ts a i j).findIdx? (λx:Nat=>decide ((x:Int)=(((tw es ts a i j).getD r.toNat 0:Nat):Int)))=some r.toNat:=by rw[eP];refine⟨G,aM (by rw[av,jo G];rfl),λk hk=>?_⟩;rw[bq];intro e;rw[av,jo G]at e;have e:(tw es ts a i j)[k]=(tw es ts a i j)[r.toNat]:=Int.ofNat_inj.mp (by simpa using e);exact absurd ((List.getElem_inj (Ud es ts a i j)).mp e) (by lia)
   rw[e];show some ((r.toNat:Nat):Int)=some r;rw[cz h0]
  .rw[aC q]at h;rw[aC q,aC q];obtain⟨z,k,e1,e2,e3,J⟩:=zi (f:=λk=>jg es ts a i k*jg es ts a k j) h0 h;obtain⟨k1,k2,k3⟩:=ju.mp (mR e1);generalize hq:r - ((List.take z (oz (gy es ts (a+1)) (gy es ts a) i j)).map λk=>jg es ts a i k*jg es ts a k j).sum=v at e2 e3 J;rw[e2];dsimp only;rw[uq (z:=z) (λx W y U e=>Fq hu (by have:=ju.mp W;lia) (by have:=ju.mp U;lia) e) (EU _ _ i j) e1];dsimp only;have b1:=mI hL ht a i k k1 (by lia);have O:=mI hL ht a k j k2 L;have pos:0<jg es ts a k j:=by
    rcases Int.lt_or_eq_of_le O.1 with q|q
    .exact q
    .rw[<- q,Int.mul_zero]at J;lia
   have Z:0<=v / jg es ts a k j:=Int.ediv_nonneg e3 O.1;have Y:v / jg es ts a k j<jg es ts a i k:=Int.ediv_lt_of_lt_mul pos J;have m1:=Int.emod_nonneg v (show jg es ts a k j≠0 by lia);have m2:=eK v pos;rw[EB a i k _ k1 (by lia) Z Y,EB a k j _ k2 L m1 m2];dsimp only;congr 1;have:=Int.mul_ediv_add_emod v (jg es ts a k j);rw[Int.mul_comm]at this;lia
end
section
variable {es:ao Int}{ts:ao Tk}(hL:es.length<=100)(ht:ts.length<=100)
include hL ht
theorem Bz:∀(a i j:Nat) (t:j9) (r:Int),i<j->j<es.length->yw es ts a i j t=some r->0<=r/\r<jg es ts a i j/\FE es ts a i j r=t
 |0,i,j,t,r,_,_,h=>by cases h
 | a+1,i,j,t,r,qA,Z,h=>by
  unfold yw at h;unfold jg FE;by_cases q:gy es ts (a+1) i j=0
  .rw[aB q]at h;rw[aB q,aB q];cases t with
   |p9 _ _ _=>cases h
   | num n =>
    have h:((tw es ts a i j).findIdx? λx:Nat=>decide ((x:Int)=n)).map (λi=>((i:Nat):Int))=some r:=h;cases e:(tw es ts a i j).findIdx? λx:Nat=>decide ((x:Int)=n)with
    |none=>rw[e]at h;cases h
    | some z =>rw[e]at h;cases h;rw[eP]at e;obtain⟨e1,e2,_⟩:=e;refine⟨by lia,by lia,?_⟩;rw[vD,av,jo e1];rw[bq]at e2;show j9.num _=_;rw[<- e2];rfl
  .rw[aC q]at h;rw[aC q,aC q];cases t with
   |num _=>cases h
   | p9 p l Y =>
    dsimp only at h;cases ea:mq es (λk=>jg es ts a i k*jg es ts a k j) p (oz (gy es ts (a+1)) (gy es ts a) i j)with
    |none=>rw[ea]at h;cases h
    | some x =>
     obtain⟨k,hd⟩:=x;rw[ea]at h;dsimp only at h;obtain⟨z,e1,e2,e3⟩:=sC ea;obtain⟨k1,k2,k3⟩:=ju.mp (mR e1);cases G:yw es ts a i k l with
     |none=>rw[G]at h;cases h
     | some x =>
      cases O:yw es ts a k j Y with
      |none=>rw[G,O]at h;cases h
      | some y =>
       rw[G,O]at h;cases h;obtain⟨x0,x1,x2⟩:=Bz a i k l x k1 (by lia) G;obtain⟨W,U,y2⟩:=Bz a k j Y y k2 Z O;have L:0<=x*jg es ts a k j+y:=by have:=fg x0 (show 0<=jg es ts a k j by lia);lia
       have J:x*jg es ts a k j+y<jg es ts a i k*jg es ts a k j:=by have h1:(x+1)*jg es ts a k j<=jg es ts a i k*jg es ts a k j:=Int.mul_le_mul_of_nonneg_right (by lia) (by lia);rw[Int.add_mul,Int.one_mul]at h1;lia
       obtain⟨g1,g2,g3⟩:=we (f:=λk=>jg es ts a i k*jg es ts a k j) (λm hm=>by
        obtain⟨m1,m2,_⟩:=ju.mp hm
        exact fg (mI hL ht a i m m1 (by lia)).1 (mI hL ht a m j m2 Z).1) e1 L J
       rw[e3,Int.add_assoc];refine⟨by lia,g2,?_⟩;rw[g1];dsimp only;have cp:0<jg es ts a k j:=by lia
       rw[show(x*jg es ts a k j+y) / jg es ts a k j=x by rw[Int.add_comm,Int.add_mul_ediv_right _ _ (by lia),Int.ediv_eq_zero_of_lt W U,c6],show(x*jg es ts a k j+y)%jg es ts a k j=y by rw[Int.add_comm,Int.add_mul_emod_self_right,Int.emod_eq_of_lt W U],x2,y2,e2]
end
section
variable {es:ao Int}{ts:ao Tk}(hu:es.Pairwise (·<·))
include hu
theorem qZ:∀(a i j:Nat) (t:j9),i<j->j<es.length->((yw es ts a i j t).isSome=true↔sF es ts a i j t)
 |0,i,j,t,_,_=>⟨λh=>(by cases h),λh=>h.elim⟩
 | a+1,i,j,t,qA,U=>by
  unfold yw sF;by_cases q:gy es ts (a+1) i j=0
  .rw[aB q,aB q];cases t with
   |p9 _ _ _=>exact⟨λh=>(by cases h),λ⟨x,_,e⟩=>by cases e⟩
   | num n =>
    show(((tw es ts a i j).findIdx? λx:Nat=>decide ((x:Int)=n)).map (λi=>((i:Nat):Int))).isSome=true↔_;rw[eY,List.findIdx?_isSome,fB];constructor
    .rintro⟨x,G,e⟩;exact⟨x,G,by rw[cC e]⟩
    .rintro⟨x,G,e⟩;cases e;exact⟨x,G,aM rfl⟩
  .rw[aC q,aC q];cases t with
   |num _=>exact⟨λh=>(by cases h),λ⟨x,_,_,_,e,_⟩=>by cases e⟩
   | p9 p l r =>
    dsimp only;constructor
    .intro h;cases ea:mq es (λk=>jg es ts a i k*jg es ts a k j) p (oz (gy es ts (a+1)) (gy es ts a) i j)with
     |none=>rw[ea]at h;cases h
     | some x =>
      obtain⟨k,hd⟩:=x;rw[ea]at h;dsimp only at h;obtain⟨z,e1,e2,e3⟩:=sC ea;have J:=mR e1;obtain⟨k1,k2,W⟩:=ju.mp J;refine⟨k,J,l,r,by rw[e2],(qZ a i k l k1 (by lia)).mp ?_,(qZ a k j r k2 U).mp ?_⟩
      .cases O:yw es ts a i k l with
       |none=>rw[O]at h;cases h
       |some x=>rfl
      .cases er:yw es ts a k j r with
       |none=>rw[er]at h;cases O:yw es ts a i k l<;>(rw[O]at h;cases h)
       |some x=>rfl
    .rintro⟨k,J,l',r',e,bl,br⟩;cases e;obtain⟨k1,k2,W⟩:=ju.mp J;obtain⟨z,Y,Z⟩:=aZ J;have e1:(oz (gy es ts (a+1)) (gy es ts a) i j)[z]?=some k:=by rw[jo Y,Z]
     rw[uq (z:=z) (λx G y L e=>Fq hu (by have:=ju.mp G;lia) (by have:=ju.mp L;lia) e) (EU _ _ i j) e1];dsimp only;obtain⟨x,G⟩:=Option.isSome_iff_exists.mp ((qZ a i k l k1 (by lia)).mpr bl);obtain⟨y,L⟩:=Option.isSome_iff_exists.mp ((qZ a k j r k2 U).mpr br);rw[G,L];rfl
end
def AN{a:Int}{x:Nat}:x∈tw es ts a i j↔∃ t,ts[x]?=some t/\t.2<=a/\es.getD j 0<=jK es t.1 (es.getD i 0):=by
 unfold tw;rw[List.mem_filter,cj];constructor
 .rintro⟨h1,h2⟩;rw[jo h1]at h2 ⊢
  dsimp only at h2;rw[bE,bq,bq]at h2;exact⟨_,rfl,h2⟩
 .rintro⟨t,e,h1,h2⟩;refine⟨(kN e).1,?_⟩;rw[e];dsimp only;rw[aM h1,aM h2];rfl
def QA{n:Int}{k:Nat}(h0:0<k)(h1:k<cs.length+1):(fC n cs).getD k 0∈cs:=by
 obtain⟨k,rfl⟩:∃ x,k=x+1:=⟨k - 1,by lia⟩;have e:(fC n cs)[k+1]?=some cs[k]:=by unfold fC;rw[dZ,eO,uO (by lia),jo]
 rw[av,e];exact bI _
def QL{n:Int}{p:Int}(h:p∈cs):∃ k,k<(fC n cs).length/\(fC n cs).getD k 0=p:=by
 have:p∈fC n cs:=by unfold fC;simp[h]
 obtain⟨k,hk,e⟩:=aZ this;exact⟨k,hk,by rw[av,jo hk,e];rfl⟩
def Rl(hu:es.Pairwise (·<·)){x y:Nat}(J:x<es.length)(G:y<es.length)(h:es.getD x 0<es.getD y 0):x<y:=by
 rcases eZ x y with q|q|q
 .exact q
 .subst q;lia
 .have:=l6 hu (getD_some G) (getD_some J) q;lia
def KD{n:Int}{a:Nat}(hi:i<(fC n cs).length)(h:(fC n cs).getD j 0<=ky (fC n cs) ts a ((fC n cs).getD i 0)):gy (fC n cs) ts (a+1) i j=0:=by show jW _ _ _ _ i j=0;unfold jW;rw[aB];rw[oP (getD_some hi)];exact h
theorem AO{cs:ao Int}{ts:ao Tk}:∀ {t:j9},t.ok cs ts.length->BJ cs ts t.dep (t.val ts).1 (t.val ts).2
 | .num x,ok=>by obtain⟨t,e⟩:∃ t,ts[x.toNat]?=some t:=⟨_,jo (by have:=ok.1;have:=ok.2;lia)⟩;rw[j9.z6 e];exact mR e
 |.p9 p l r,ok=>.inr ⟨_,_,_,_,p,(AO ok.2.1).le (Nat.le_max_left _ _),(AO ok.2.2).le (Nat.le_max_right _ _),ok.1,rfl,rfl⟩
section
variable {n:Int}{cs:ao Int}{ts:ao Tk}(S:iD n cs ts)
include S
def KG{a k:Nat}(h1:i<k)(h2:k<j)(G:j<(fC n cs).length):gy (fC n cs) ts (a+1) i j<=gy (fC n cs) ts a i k+gy (fC n cs) ts a k j+1:=by
 have tb:=wX S;have n1:=tb.nn a i k (by lia) (by lia);have n2:=tb.nn a k j (by lia) G;show jW _ _ _ _ i j<=_;unfold jW;split
 .lia
 .exact(kZ _ _).2.2 _ (nr.mpr ⟨k,h1,h2,rfl⟩)
def uB:∀ t∈ts,BE n t:=λt h=>⟨(S.takes.ok t h).1,(S.takes.ok t h).2.2.1⟩
theorem u6:∀(a i j:Nat) (t:j9),i<j->j<(fC n cs).length->sF (fC n cs) ts a i j t->t.ok cs ts.length/\(t.cnt:Int)=gy (fC n cs) ts a i j+1/\(t.val ts).2+1<=a/\Rf (t.val ts).1 ((fC n cs).getD i 0) ((fC n cs).getD j 0)
 |0,i,j,t,_,_,h=>h.elim
 | a+1,i,j,t,qA,Y,h=>by
  unfold sF at h;have o3:=gv n cs;by_cases q:gy (fC n cs) ts (a+1) i j=0
  .rw[aB q]at h;obtain⟨x,W,rfl⟩:=h;obtain⟨t,e,h1,h2⟩:=AN.mp W;have U:=(kN e).1;have ok:=S.takes.ok t (mR e);have ev:(j9.num (x:Nat)).val ts=t:=j9.z6 (by rw[vD];exact e);have Z:=jx S.n1 S.jD (mR (getD_some (show i<(fC n cs).length by lia)));refine⟨⟨by lia,by lia⟩,by rw[q];rfl,by rw[ev];lia,?_⟩;rw[ev];exact Hl ok.2.1 Z.1 (by have:=ok.1;lia) h2
  .rw[aC q]at h;obtain⟨k,hk,l,r,rfl,bl,br⟩:=h;obtain⟨k1,k2,k3⟩:=ju.mp hk;obtain⟨l1,l2,l3,O⟩:=u6 a i k l k1 (by lia) bl;obtain⟨L,r2,r3,J⟩:=u6 a k j r k2 Y br;have G:=QA (n:=n) (cs:=cs) (k:=k) (by lia) (by lia);have hp:=S.jD.R3 _ G;have vl:=(j9.o6 (uB S) l1).1;refine⟨⟨G,l1,L⟩,?_,?_,?_⟩
   .show((l.cnt+r.cnt:Nat):Int)=_;lia
   .show max (l.val ts).2 (r.val ts).2+1+1<=_;lia
   .intro x x1 x2;show(Oq (l.val ts).1 (r.val ts).1 _)[x]?=_;by_cases z:(x:Int)<(fC n cs).getD k 0
    .rw[tI (by lia) z];exact O x x1 z
    .rw[qy (by lia) (by lia) (by lia)];exact J x (by lia) x2
theorem nA:∀(t:j9) (a i j:Nat),i<j->j<(fC n cs).length->t.ok cs ts.length->(t.val ts).2<=a->Rf (t.val ts).1 ((fC n cs).getD i 0) ((fC n cs).getD j 0)->gy (fC n cs) ts (a+1) i j+1<=t.cnt/\((t.cnt:Int)=gy (fC n cs) ts (a+1) i j+1->sF (fC n cs) ts (a+1) i j t)
 | .num x,a,i,j,L,J,ok,ha,G=>by
  obtain⟨x,rfl⟩:∃ y:Nat,x=y:=⟨x.toNat,by have:=ok.1;lia⟩;have hx:x<ts.length:=by have:=ok.2;lia
  obtain⟨t,e⟩:∃ t,ts[x]?=some t:=⟨_,jo hx⟩;have ev:(j9.num (x:Nat)).val ts=t:=j9.z6 (by rw[vD];exact e);rw[ev]at ha G;have tk:=S.takes.ok t (mR e);have hu:=iK S.n1 S.jD;have gi:=getD_some (show i<(fC n cs).length by lia);have gj:=getD_some J;have ei:=jx S.n1 S.jD (mR gi);have ej:=jx S.n1 S.jD (mR gj);have lt:=l6 hu gi gj L;have V1:=Bk (es:=fC n cs) tk.2.1 ei.1 (by lia) (by have:=tk.1;lia) (mR gj) G;have Y:=KD (n:=n) (cs:=cs) (ts:=ts) (a:=a) (i:=i) (j:=j) (by lia) (cF V1 (sX (mR e) ha));refine⟨by rw[Y];show(0:Int)+1<=((1:Nat):Int);decide,λ_=>?_⟩;unfold sF;rw[aB Y];exact⟨x,AN.mpr ⟨t,e,ha,V1⟩,rfl⟩
 | .p9 p l r,a,i,j,L,J,ok,ha,G=>by
  obtain⟨Z,ol,or⟩:=ok;have hp:=S.jD.R3 p Z;have hu:=iK S.n1 S.jD;have W:=j9.o6 (uB S) ol;have vr:=j9.o6 (uB S) or;have hl1:=W.1;have ha:max (l.val ts).2 (r.val ts).2+1<=(a:Int):=ha;have G:Rf (Oq (l.val ts).1 (r.val ts).1 p) ((fC n cs).getD i 0) ((fC n cs).getD j 0):=G;have cp:=l.Bj;have cr:=r.Bj;have ec:(((j9.p9 p l r).cnt:Nat):Int)=(l.cnt:Int)+r.cnt:=by show((l.cnt+r.cnt:Nat):Int)=_;lia
  rw[ec];by_cases q1:(fC n cs).getD j 0<=p
  .have:=(nA l a i j L J ol (by lia) λk k1 k2=>by rw[<- tI (l2:=(r.val ts).1) (p:=p) (by lia) (by lia)];exact G k k1 k2).1;exact⟨by lia,λe=>by lia⟩
  by_cases q2:p<=(fC n cs).getD i 0
  .have:=(nA r a i j L J or (by lia) λk k1 k2=>by rw[<- qy (l1:=(l.val ts).1) (p:=p) (by lia) (by lia) (by lia)];exact G k k1 k2).1;exact⟨by lia,λe=>by lia⟩
  obtain⟨k,hk,ek⟩:=QL (n:=n) Z;have k1:i<k:=Rl hu (by lia) hk (by lia);have k2:k<j:=Rl hu hk J (by lia);have v0:=W.2;have v1:=vr.2;obtain⟨a,rfl⟩:∃ x,a=x+1:=⟨a - 1,by lia⟩;have il:=nA l a i k k1 hk ol (by lia) λx U O=>by rw[<- tI (l2:=(r.val ts).1) (p:=p) (by lia) (by lia)];exact G x U (by lia)
  have ir:=nA r a k j k2 J or (by lia) λx U O=>by rw[<- qy (l1:=(l.val ts).1) (p:=p) (by lia) (by lia) (by lia)];exact G x (by lia) O
  have tj:=KG S (a:=a+1) k1 k2 J;refine⟨by lia,λe=>?_⟩;have tb:=wX S;have n1:=tb.nn (a+1) i k (by lia) (by lia);have n2:=tb.nn (a+1) k j (by lia) J;unfold sF;rw[aC (by lia)];exact⟨k,ju.mpr ⟨k1,k2,by lia⟩,l,r,by rw[ek],il.2 (by lia),ir.2 (by lia)⟩
def JE{t:j9}{A:Nat}(hl:gT (fC n cs) ts n A)(ok:t.ok cs ts.length)(G:Rf (t.val ts).1 0 n):(A:Int)<=(t.val ts).2:=by
 have v:=j9.o6 (uB S) ok;have J:=v.2;have n1:=S.n1;have nm:n∈fC n cs:=by unfold fC;simp
 have h:=tE S (a:=(t.val ts).2.toNat) (AO ok) (by lia) 0 n (rB n cs) nm (by lia) G;have h2:=jx S.n1 S.jD ((mE S (t.val ts).2.toNat).mem 0 (rB n cs));have:=least_le S (a:=(t.val ts).2.toNat) (by lia) hl;lia
def qK{t:j9}{A:Nat}(hl:gT (fC n cs) ts n A):sF (fC n cs) ts (A+1) 0 (cs.length+1) t↔(t.ok cs ts.length/\t.val ts=(List.replicate n.toNat 111,(A:Int))/\(t.cnt:Int)=gy (fC n cs) ts (A+1) 0 (cs.length+1)+1):=by
 have O:=gv n cs;have L:(fC n cs).getD 0 0=0:=by rw[av,A8];rfl
 have gn:(fC n cs).getD (cs.length+1) 0=n:=by rw[av,xX];rfl
 constructor
 .intro h;obtain⟨h1,h2,J,G⟩:=u6 S _ _ _ _ (by lia) (by lia) h;rw[L,gn]at G;have:=JE S hl h1 G;have v:=j9.o6 (uB S) h1;exact⟨h1,Prod.ext (QQ v.1 G) (by show(t.val ts).2=(A:Int);lia),h2⟩
 .rintro⟨h1,h2,J⟩;refine(nA S t A 0 (cs.length+1) (by lia) (by lia) h1 (by rw[h2];exact bS _) ?_).2 J;rw[L,gn,h2];exact Q4 n 0 n (bS _) (bS _)
end
section
variable {es:ao Int}{ts:ao Tk}(hu:es.Pairwise (·<·))(hL:es.length<=100)(ht:ts.length<=100)
include hu hL ht
end
def vF(C:ai)(n:Nat):jZ:=λds μ K=>match ds with
 | [.mr k,s,.int r]=>∃(es:ao Int) (ts:ao Tk) (A j a i b:Nat) (ks:ao (ao Key)) (dd:ao D),Bm C μ k es ts A j a i b/\s=rS a i b/\a<n/\Q8 es ts/\k≠j/\μ[j]?=some (.lF ks dd)/\Memo es ts A ks dd/\0<=r/\r<jg es ts (a+1) i b /\
  ∀ G J,Memo es ts A G J->K (wq (FE es ts (a+1) i b r)) (μ.set j (.lF G J))
 |_=>False
def Fo{C:ai}(vs:ao V)(H:Hp)(Q:VK)(E:XK):¬ iL (vF C 0) vs H Q E:=λh=>by
 obtain⟨φ,ds,μ,K,_,_,h,_⟩:=h;unfold vF at h;split at h
 .obtain⟨es,ts,A,j,a,i,b,ks,dd,_,_,h,_⟩:=h;lia
 .exact h
def Qh:Vs X .Sub (Xe λi j=>i - j):=by
 intro fE s σ H x y v u Q I J G h;unfold Xe at h;split at h
 .exact Uy fE s σ H _ _ v u Q I J G ⟨_,_,rfl,rfl,h⟩
 .cases h
def zZ(_ j:Int):Prop:=0<j/\∃ d:Nat,d<=1000/\j<=128 ^ d
def noPy{i j:Int}(h:zZ i j):Builtin.divisionGoesByPylong i j=false:=by
 obtain⟨G,d,hd,h⟩:=h;have e:(128:Int) ^ d=((2 ^ (7*d):Nat):Int):=by rw[Nat.pow_mul];norm_cast
 have h1:j.natAbs<2 ^ (7*d+1):=by rw[Nat.pow_succ];lia
 have h2:j.natAbs.log2<7*d+1:=(Nat.log2_lt (by lia)).mpr h1;unfold Builtin.divisionGoesByPylong;dsimp only;rw[Bool.and_eq_false_iff];left;rw[decide_eq_false_iff_not];split<;>lia
section
variable {X:Cx}
def CJ:k7 X (binaryOp .FloorDiv) (rI zZ λi j=>.int (i / j)):=VN λi j _ _ _ _ _ G q=>by have h1:(0:Int)<j:=G.1;exact floordiv_int (by lia) (by rw[Int.fdiv_eq_ediv_of_nonneg i (by lia)];exact q) (.inl (noPy G))
def U4:k7 X (binaryOp .FloorDiv) (Tt zZ λi j=>.int (i / j)):=CJ.i2
end
def Sx:vV:=λx y μ K=>match x,y with
 |.int i,.int j=>zZ i j/\K (.int (i / j)) μ
 |_,_=>False
def OV:p7 (rI zZ λi j=>.int (i / j)) Sx:=λφ H x y dx O μ K Q M J G k L=>by
 unfold Sx at k;split at k
 .cases(show x=_ from J);cases(show y=_ from G);exact⟨_,_,rfl,rfl,k.1,L.val M k.2 rfl⟩
 .exact k.elim
def Vk(hL:es.length<=100)(ht:ts.length<=100){a:Nat}(h1:i<j)(G:j<es.length){v:Int}(h:0<jg es ts a i j):zZ v (jg es ts a i j):=⟨h,_,by lia,(mI hL ht a i j h1 G).2⟩
def Gs:Sp:=λvs H Q _=>∃ b n q,vs=[.ref b,.int n]/\Rj H b q/\0<n/\(∃ d:Nat,d<=1000/\n<=128 ^ d)/\∀ v H',0<=v->v<n->Rj H' b q->OB b H H'->Q (.int v) H'
def xU:jZ:=λds μ K=>match ds with
 |[.mr k,.int n]=>μ[k]?=some .box/\0<n/\(∃ d:Nat,d<=1000/\n<=128 ^ d)/\∀ v,0<=v->v<n->K (.int v) μ
 |_=>False
def Il{Q:VK}{E:XK}(h:iL xU vs H Q E):Gs vs H Q E:=by
 obtain⟨φ,ds,μ,K,ha,M,k,L⟩:=h;unfold xU at k;split at k
 .rename_i kk n;obtain⟨v,r,rfl,h1,u,J,rfl,h2,h3⟩:=ha;cases(show J=[]from h3);cases(show u=_ from h2);obtain⟨b,hb,rfl⟩:=h1;obtain⟨em,hn,G7,k⟩:=k;obtain⟨b',e1,q,ns,i,r,z,g1,g2,g3,g4,g5,g6⟩:=M.at_ kk _ em;rw[hb]at e1;cases e1;have bin:b∈φ:=mR hb;have qb:q≠b:=λe=>g3 (by rw[e];exact bin);refine⟨b,n,q,rfl,⟨ns,i,r,z,g1,g2,qb,g4,g5,g6⟩,hn,G7,λv H' v0 v1 B' O=>?_⟩;obtain⟨WS,i',J,z',b1,b2,b3,b4,b5,b6⟩:=B';have f:Fr φ H φ H':=⟨⟨[],by simp,λ_ h=>nomatch h⟩,λc o G e=>(O c (λe'=>G (by rw[e'];exact bin))).trans e,λc e=>by
   by_cases G:c=b
   .rw[G,b1]at e;cases e
   .rw[<- O c G];exact e⟩
  refine L _ μ φ _ H' (k v v0 v1) f ⟨M.nd,M.len,λj m U=>?_⟩ rfl;by_cases Z:j=kk
  .subst Z;rw[em]at U;cases U;exact⟨b,hb,q,WS,i',J,z',b1,b2,g3,b4,b5,b6⟩
  .obtain⟨p,e1,e2⟩:=M.at_ j m U;refine⟨p,e1,e2.mono f λo eo=>?_⟩;have pb:p≠b:=λe=>by
    subst e;obtain⟨i1,Y⟩:=kN hb;obtain⟨i2,W⟩:=kN e1;rcases Nat.lt_or_gt_of_ne Z with z|z
    .exact List.pairwise_iff_getElem.mp M.nd j kk i2 i1 z (W.trans Y.symm)
    .exact List.pairwise_iff_getElem.mp M.nd kk j i1 i2 z (Y.trans W.symm)
   rw[O p pb];exact eo
 .exact k.elim
def Kz{Q:VK}{E:XK}(h:iL zB vs H Q E):iL xU vs H Q E:=by
 obtain⟨φ,ds,μ,K,ha,M,k,L⟩:=h;refine⟨φ,ds,μ,K,ha,M,?_,L⟩;unfold zB at k;split at k
 .exact⟨k.1,k.2.1,⟨5,by decide,by have:=k.2.2.1;lia⟩,k.2.2.2⟩
 .exact k.elim
structure BmG (C:ai)(ν g:MS)(es:List Int)(ts:List Tk)(a:Nat):Prop where
 e0:∀ ks dd,(g.set (ν.length+1) (.lF ks dd))[ν.length]?=some (.ins C BA (D2 es ts a (ν.length+1)))
 e1:∀ ks dd,(g.set (ν.length+1) (.lF ks dd))[ν.length+1]?=some (.lF ks dd)
 ol:∀ ks dd j m',j<ν.length->(g.set (ν.length+1) (.lF ks dd))[j]?=some m'->zu ν.length m'
 tk:∀ ks dd,(g.set (ν.length+1) (.lF ks dd)).take ν.length=ν
 z0:∀ ks dd m,ν[0]?=some m->(g.set (ν.length+1) (.lF ks dd))[0]?=some m
 nw:g=g.set (ν.length+1) (.lF [] [])
def bmG{C:ai}{G g:MS}{a:Nat}(hm:∀(j:Nat) (L:MO),G[j]?=some L->zu G.length L)(W:g=(G++[MO.ins C [] []]).set G.length (.ins C BA (D2 es ts a (G++[MO.ins C [] []]).length))++[.lF [] []]):BmG C G g es ts a:=by
 have J:g=G++[.ins C BA (D2 es ts a (G.length+1)),.lF [] []]:=by rw[W,dN _ _ (ar _),aY,cK,o4];rfl
 have Y:G.length+1<g.length:=by rw[J,o4];show _<_+2;lia
 refine⟨λks dd=>?_,λks dd=>aG Y,λks dd j L U e=>?_,λks dd=>?_,λks dd m O=>?_,?_⟩
 .rw[aJ (by lia),J,pW (ar _),aY];rfl
 .rw[aJ (by lia),J,uO U]at e;exact hm j L e
 .rw[List.take_set_of_le (by lia),J,bZ]
 .have:=(kN O).1;rw[aJ (by lia),J,uO this];exact O
 .exact(kc (by rw[J,pW (by lia),show G.length+1 - G.length=1 by lia];rfl)).symm
def oV(cB:ai):rL:=λds μ K Kx=>match ds with
 |[.lst y,x]=>(∃ m,μ[0]?=some m)/\∃(l:ao Nat) (t:j9),y=l.map (λx=>.int (x:Nat))/\l.length<=1000/\x=wq t/\(match Ww l t with|some r=>K (.int r) μ|none=>Kx (.ref cB) μ)
 |_=>False
def yP{cB:ai}{K:DK}(h:oV cB ds μ K Kx):ds.length=2/\∃ m,μ[0]?=some m:=by
 unfold oV at h;split at h
 .exact⟨rfl,h.1⟩
 .cases h
def tV(C cB:ai)(n:Nat):rL:=λds μ K Kx=>match ds with
 | [.mr k,s,x]=>(∃ m,μ[0]?=some m)/\∃(es:ao Int) (ts:ao Tk) (A j a i b:Nat) (ks:ao (ao Key)) (dd:ao D) (t:j9),Bm C μ k es ts A j a i b/\s=rS a i b/\x=wq t/\a<n/\Q8 es ts/\es.Pairwise (·<·)/\k≠j/\k≠0/\j≠0/\μ[j]?=some (.lF ks dd)/\Memo es ts A ks dd /\
  (match yw es ts (a+1) i b t with
   |some r=>∀ G J,Memo es ts A G J->K (.int r) (μ.set j (.lF G J))
   |none=>∀ G J,Memo es ts A G J->Kx (.ref cB) (μ.set j (.lF G J)))
 |_=>False
def Jw{C cB:ai}{K:DK}(h:tV C cB n ds μ K Kx):ds.length=3/\∃ m,μ[0]?=some m:=by
 unfold tV at h;split at h
 .exact⟨rfl,h.1⟩
 .cases h
def Fm{C cB:ai}(vs:ao V)(H:Hp)(Q:VK)(E:XK):¬ Ae (tV C cB 0) vs H Q E:=λh=>by
 obtain⟨φ,ds,μ,K,Kx,_,_,h,_⟩:=h;unfold tV at h;split at h
 .obtain⟨_,es,ts,A,j,a,i,b,ks,dd,t,_,_,_,h,_⟩:=h;lia
 .exact h
def gD.Uc{P:ae}{w:af}{K:aa}{mg:Str->aq ak}{fF:Heap}{k:Nat}{f:ai}{fd:ag}{ps:ao Str}{sp:Sp}(h:∀ vs H Q E,¬ sp vs H Q E):gD P w K mg fF (yA P w) k f fd ps sp :=
 ⟨λvs H Q E q=>(h vs H Q E q).elim,λA fN s H G us vs Q E _ _ _ _ q=>(h vs H Q E q).elim⟩
def qL(es:ao Int)(ts:ao Tk)(n:Int)(r:Int)(μ:MS)(K:DK)(X:Prop):Prop:=match iQ es ts with
 |some _=>X
 |none=>∀ a:Nat,a<=66->gT es ts n a->if 0<=r/\r<jg es ts (a+1) 0 (es.length - 1)then K (wq (FE es ts (a+1) 0 (es.length - 1) r)) μ else X
def ua(G:ai):rL:=λds μ K Kx=>match ds with
 |[.int n,.lst x,.lst y,.int r]=>(∃ m,μ[0]?=some m)/\∃(cs:ao Int) (ts:ao Tk),x=cs.map D.int/\y=ts.map mO/\iD n cs ts/\cs.length<=60/\qL (fC n cs) ts n r μ K (Kx (.ref G) μ)
 |_=>False
def DC{G:ai}{K:DK}(h:ua G ds μ K Kx):ds.length=4/\∃ m,μ[0]?=some m:=by
 unfold ua at h;split at h
 .exact⟨rfl,h.1⟩
 .cases h
def AL(es:ao Int)(ts:ao Tk)(n:Int)(t:j9)(μ:MS)(K:DK)(X:Prop):Prop:=match iQ es ts with
 |some _=>X
 |none=>∀ a:Nat,a<=66->gT es ts n a->match yw es ts (a+1) 0 (es.length - 1) t with|some r=>K (.int r) μ|none=>X
def xV(cB:ai):rL:=λds μ K Kx=>match ds with
 |[.int n,.lst x,.lst y,d]=>(∃ m,μ[0]?=some m)/\∃(cs:ao Int) (ts:ao Tk) (t:j9),x=cs.map D.int/\y=ts.map mO/\d=wq t/\iD n cs ts/\cs.length<=60/\AL (fC n cs) ts n t μ K (Kx (.ref cB) μ)
 |_=>False
def Fp{cB:ai}{K:DK}(h:xV cB ds μ K Kx):ds.length=4/\∃ m,μ[0]?=some m:=by
 unfold xV at h;split at h
 .exact⟨rfl,h.1⟩
 .cases h
def isI:V->Bool
 |.int _=>true
 |_=>false
def Xd:D->Bool
 |.int _=>true
 |_=>false
theorem G4:∀ {xs:ao V} {us:ao ak},gG xs us->xs.all isI=true->∀ u∈us,∃ i t,u=.int i t
 |_,_,.nil,_=>λu hu=>by cases hu
 | y::xs,u::us,.cons r t,f=>λG hu=>by
  rw[cS,bE]at f;rcases List.mem_cons.mp hu with rfl|hu
  .cases y with
   |int i=>obtain⟨t,rfl⟩:=r;exact⟨_,_,rfl⟩
   |_=>cases f.1
  .exact G4 t f.2 G hu
def Tr(K:aa):R2:=λx y H Q=>∃ p xs q zs,y=.ref p/\pS K H p xs/\xs.all isI=true/\x=.ref q/\FI K H q zs/\Q (.bl true) H
def Ua(hu:X.A.units+1<cLine):k7 X (compareOp .NotIn) (Tr X.K):=by
 intro fE s σ H x y v u Q I L J h;obtain⟨p,xs,q,zs,rfl,U,fs,rfl,ht,k⟩:=h;cases J;cases L;obtain⟨W,r,pl,Z⟩:=I.list U;obtain⟨Dn,Y,G,Dp⟩:=I.tuple ht;refine SeqAt.notIn_listAt (λ_=>false) pl.isList (λw O=>?_) ⟨.bl _,H,I,rfl,?_⟩
 .obtain⟨i,t,rfl⟩:=G4 r fs w (by simpa using O);exact SeqAt.EqAt.int_tuple _ _ G hu
 .have:W.toArray.any (λ_=>false)=false:=by simp
  rw[this];exact k
def niM(hu:X.A.units+1<cLine):k7 X (compareOp .NotIn) (λx y H Q=>Cy true x y H Q\/Tr X.K x y H Q):=LV.or (Ua hu)
def XY:vV:=λx y μ K=>match x with
 |.tup _=>opt (lv μ y) λds=>ds.all Xd=true/\K (.bl true) μ
 |x=>Zp true x y μ K
theorem G5{φ:ao ai}{H:Hp}:∀ {ds:ao D} {vs:ao V},f9 φ H ds vs->ds.all Xd=true->vs.all isI=true
 |[],vs,h,_=>by cases(show vs=[]from h);rfl
 | d::ds,vs,h,f=>by
  obtain⟨v,r,rfl,h1,h2⟩:=h;rw[cS,bE]at f;cases d with
  |int i=>cases(show v=_ from h1);rw[cS,G5 h2 f.2];rfl
  |_=>cases f.1
def Tb{K:aa}:p7 (λx y H Q=>Cy true x y H Q\/Tr K x y H Q) XY:=λφ H x y dx W μ K Q M J G k L=>by
 unfold XY at k;split at k
 .obtain⟨ds,el,f1,k⟩:=ip k;obtain⟨p,vs,rfl,U,ha⟩:=kz M G el;obtain⟨q,zs,rfl,_,O,_⟩:=J;exact .inr ⟨p,vs,q,zs,rfl,pS.of U,G5 ha f1,rfl,FI.of O,L.val M k rfl⟩
 .exact .inl (Gv φ H x y _ W μ K Q M J G k L)
theorem yg{es:ao Int}{f:Nat->Int}{p:Int}:∀ {M:ao Nat},(∀ x∈M,es.getD x 0≠p)->mq es f p M=none
 |[],_=>rfl
 | k::M,h=>by unfold mq;rw[aC (h k aF),yg λx G=>h x (nM _ G)];rfl
def Bm.O0{C:ai}{k G:Nat}{A a b:Nat}{m:MO}(h:Bm C μ k es ts A j a i b)(hk:k≠G):Bm C (μ.set G m) k es ts A j a i b:=⟨by rw[aJ (bj hk)];exact h.at_,h.ha,h.Ec,h.hb,h.hl,h.ht,h.hA,h.ok⟩
def To{l:ao Nat}{n:Int}:((l.map λx=>D.int (x:Nat)).any λd=>mX d (wq (.num n)))=(Ww l (.num n)).isSome:=by show _=((l.findIdx? λx:Nat=>decide ((x:Int)=n)).map (λi=>((i:Nat):Int))).isSome;rw[eY,List.findIdx?_isSome,List.any_map];congr 1
theorem K3:∀(t:j9) {n:Nat},t.dep<=n->oq n (wq t)
 |.num _,n,_=>Al
 | .p9 p l r,n,h=>by
  have h:max l.dep r.dep+1<=n:=h;obtain⟨n,rfl⟩:∃ G,n=G+1:=⟨n - 1,by lia⟩;refine Aj (by simp only[aU,eG];lia) λd hd=>?_;simp only[aO,aH,bN]at hd;rcases hd with rfl|rfl|rfl
  .exact Al
  .exact K3 l (by lia)
  .exact K3 r (by lia)
theorem j9.Bb:∀ t:j9,t.dep+1<=t.cnt
 |.num _=>ar _
 | .p9 _ l r=>by have:=l.Bb;have:=r.Bb;show max l.dep r.dep+1+1<=l.cnt+r.cnt;lia
theorem Gq{f:Nat->Int}:∀ {l:ao Nat} {x:Nat},(∀ y∈l,0<=f y)->x∈l->0<f x->0<(l.map f).sum
 |[],x,_,h,_=>by cases h
 | y::l,x,J,h,L=>by
  have O:=J y aF;have h1:=we.Es (f:=f) (l:=l) λz G=>J z (nM _ G);rw[aw,cu];rcases List.mem_cons.mp h with rfl|h
  .lia
  .have:=Gq (f:=f) (l:=l) (x:=x) (λz G=>J z (nM _ G)) h L;lia
section
variable {n:Int}{cs:ao Int}{ts:ao Tk}(S:iD n cs ts)
include S
def HI(a i j:Nat)(O:i<j)(G:j<(fC n cs).length)(h0:gy (fC n cs) ts (a+1) i j=0):0<jg (fC n cs) ts (a+1) i j:=by
 have W:=gv n cs;have tb:=wX S;have hu:=iK S.n1 S.jD;unfold jg;rw[aB h0];have e:gy (fC n cs) ts (a+1) i j=jW (fC n cs).length (fC n cs) (jl (fC n cs) ts (a:Int)) (gy (fC n cs) ts a) i j:=rfl;unfold jW at e;split at e
 .rename_i q;have lt:=l6 hu (getD_some (show i<(fC n cs).length by lia)) (getD_some G) O;rw[oP (getD_some (show i<(fC n cs).length by lia)),lJ]at q;rcases lN ((ts.filter λt=>decide (t.2<=(a:Int))).map λt=>jK (fC n cs) t.1 ((fC n cs).getD i 0)) ((fC n cs).getD i 0)with z|z
  .lia
  .obtain⟨t,ht,et⟩:=List.mem_map.mp z;obtain⟨L,J⟩:=List.mem_filter.mp ht;obtain⟨x,U,ex⟩:=aZ L;have:x∈tw (fC n cs) ts a i j:=AN.mpr ⟨t,by rw[jo U,ex],cC J,by rw[et];exact q⟩;have:=List.length_pos_of_mem this;lia
 .exfalso;rcases(kZ (n0 (gy (fC n cs) ts a) i j) (((fC n cs).length:Int) - 1)).1 with z|z
  .lia
  .obtain⟨k,k1,k2,k3⟩:=nr.mp z;have n1:=tb.nn a i k (by lia) (by lia);have n2:=tb.nn a k j (by lia) G;lia
def abN(Z:cs.length<=60):∀(a i j:Nat),i<j->j<(fC n cs).length->gy (fC n cs) ts (a+1) i j<((fC n cs).length:Int) - 1->0<jg (fC n cs) ts (a+1) i j:=by
 intro a;have o3:=gv n cs;have ft:=S.takes.nH;have tb:=wX S;have hu:=iK S.n1 S.jD;induction a with
 | zero =>intro i j J G h;have Y:=za S i j (by lia) G h;exact HI S 0 i j J G Y
 | succ a L =>
  intro i j J G h;by_cases q:gy (fC n cs) ts (a+1+1) i j=0
  .exact HI S (a+1) i j J G q
  .unfold jg;rw[aC q];have e:gy (fC n cs) ts (a+1+1) i j=jW (fC n cs).length (fC n cs) (jl (fC n cs) ts ((a+1:Nat):Int)) (gy (fC n cs) ts (a+1)) i j:=rfl;unfold jW at e;split at e
   .exact absurd e q
   .rcases(kZ (n0 (gy (fC n cs) ts (a+1)) i j) (((fC n cs).length:Int) - 1)).1 with z | z
    .lia
    .obtain⟨k,k1,k2,k3⟩:=nr.mp z;have n1:=tb.nn (a+1) i k (by lia) (by lia);have n2:=tb.nn (a+1) k j (by lia) G;refine Gq (x:=k) (λy W=>?_) (ju.mpr ⟨k1,k2,by lia⟩) (Int.mul_pos (L i k k1 (by lia) (by lia)) (L k j k2 G (by lia)));obtain⟨U,O,_⟩:=ju.mp W;exact fg (mI (by lia) (by lia) (a+1) i y U (by lia)).1 (mI (by lia) (by lia) (a+1) y j O G).1
def Gi{A:Nat}(G:gT (fC n cs) ts n A):gy (fC n cs) ts (A+1) 0 (cs.length+1)=kP (fC n cs) ts (A+1) 0 (cs.length+1) - 1/\gy (fC n cs) ts (A+1) 0 (cs.length+1)<((fC n cs).length:Int) - 1:=by
 have J:=gv n cs;have tl:=qR S G;rcases(xl S (A+1) 0 (cs.length+1) (by lia) (by lia)).2 (by lia)with⟨z,_⟩|⟨z1,z2,z3⟩
 .lia
 .exact⟨z3,by lia⟩
def NZ{A:Nat}(U:cs.length<=60)(G:gT (fC n cs) ts n A){r:Int}(O:0<=r)(L:r<jg (fC n cs) ts (A+1) 0 (cs.length+1)):(FE (fC n cs) ts (A+1) 0 (cs.length+1) r).ok cs ts.length/\(FE (fC n cs) ts (A+1) 0 (cs.length+1) r).val ts=(List.replicate n.toNat 111,(A:Int))/\((FE (fC n cs) ts (A+1) 0 (cs.length+1) r).cnt:Int)=kP (fC n cs) ts (A+1) 0 (cs.length+1)/\(FE (fC n cs) ts (A+1) 0 (cs.length+1) r).dep<=cs.length:=by have Z:=gv n cs;have ft:=S.takes.nH;have J:=EB (iK S.n1 S.jD) (by lia) (by lia) (A+1) 0 (cs.length+1) r (by lia) (by lia) O L;have b:=(qK S G).mp ((qZ (iK S.n1 S.jD) (A+1) 0 (cs.length+1) _ (by lia) (by lia)).mp (by rw[J];rfl));obtain⟨Y,W⟩:=Gi S G;have d:=(FE (fC n cs) ts (A+1) 0 (cs.length+1) r).Bb;exact⟨b.1,b.2.1,by lia,by have:=b.2.2;lia⟩
end
def Fl(n:Nat):jZ:=λds μ K=>match ds with
 |[x,y]=>∃ d,UZ μ x=some d/\UZ μ y=some d/\oq n d/\K (.bl true) μ
 |_=>False
def Iz{Q:VK}{E:XK}(h:iL (Fl n) vs H Q E):uD n vs H Q E:=by
 obtain⟨φ,ds,μ,K,ha,M,k,L⟩:=h;unfold Fl at k;split at k
 .obtain⟨v,r,rfl,h1,u,r',rfl,h2,h3⟩:=ha;cases(show r'=[]from h3);obtain⟨d,e1,e2,G,k⟩:=k;obtain⟨a,b,c⟩:=qj (φ:=φ) (H:=H) G;exact⟨uA d,b,ck c (by decide),Hb M e1 G h1,Hb M e2 G h2,λH' S=>L _ μ φ _ H' k (.same S) (M.same S) rfl⟩
 .exact k.elim
def oU(n:Nat):jZ:=λds μ K=>match ds with
 |[d]=>∃ t:j9,d=wq t/\t.dep<=n/\K (.int ((t.cnt:Int) - 1)) μ
 |_=>False
def wG:jZ:=λds μ K=>match ds with
 |[.int n,.lst x,.lst y,d]=>∃(cs:ao Int) (ts:ao Tk) (t:j9),x=cs.map D.int/\y=ts.map mO/\d=wq t/\iD n cs ts/\cs.length<=60/\t.dep<=63/\∀ b:Bool,(b=true->∃ a:Nat,a<=66/\iQ (fC n cs) ts=none/\gT (fC n cs) ts n a/\sF (fC n cs) ts (a+1) 0 (cs.length+1) t)->(b=false->iQ (fC n cs) ts=none->∀ a,gT (fC n cs) ts n a->¬ sF (fC n cs) ts (a+1) 0 (cs.length+1) t)->K (.bl b) μ
 |_=>False
def A1(K:aa)(cs:ao ai)(J:ai):jZ:=λds μ G=>match ds with
 | [.int n,.lst x,.lst y,.int r,d]=>(∃ m,μ[0]?=some m)/\mS K cs J 1/\mS K cs J 2/\∃(cs:ao Int) (ts:ao Tk),x=cs.map D.int/\y=ts.map mO/\iD n cs ts/\cs.length<=60 /\
  ((d=.iz/\qL (fC n cs) ts n r μ (λv μ=>G (Gh v) μ) (G (K9 2) μ))\/∃ t,d=wq t/\AL (fC n cs) ts n t μ (λv μ=>G (Gh v) μ) (G (K9 1) μ))
 |_=>False
def JK{n r:Int}{G:MS}{K O:DK}{X L:Prop}(h:qL es ts n r μ K X)(hk:∀ v,K v μ->O v G)(J:X->L):qL es ts n r G O L:=by
 unfold qL at h ⊢
 cases hb:iQ es ts with
 |some p=>rw[hb]at h;exact J h
 | none =>
  rw[hb]at h;intro a ha U;have h:=h a ha U;by_cases q:0<=r/\r<jg es ts (a+1) 0 (es.length - 1)
  .rw[aB q]at h ⊢;exact hk _ h
  .rw[aC q]at h ⊢;exact J h
def LS{n:Int}{t:j9}{G:MS}{K U:DK}{X O:Prop}(h:AL es ts n t μ K X)(hk:∀ v,K v μ->U v G)(J:X->O):AL es ts n t G U O:=by
 unfold AL at h ⊢
 cases hb:iQ es ts with
 |some p=>rw[hb]at h;exact J h
 | none =>
  rw[hb]at h;intro a ha W;have h:=h a ha W;cases L:yw es ts (a+1) 0 (es.length - 1) t with
  |none=>rw[L]at h;exact J h
  |some v=>rw[L]at h;exact hk _ h
def Nu(v w:Tk):mX (mO v) (mO w)=true↔v=w:=by
 obtain⟨a,b⟩:=v;obtain⟨c,d⟩:=w;unfold mO mX nv nv nv;simp only[bE,Bool.and_true];have e1:mX (D.str (txt a)) (D.str (txt c))=true↔a=c:=by unfold mX;rw[beq_iff_eq];exact⟨λh=>OE h,λh=>by rw[h]⟩
 have e2:mX (D.int b) (D.int d)=true↔b=d:=by unfold mX;exact beq_iff_eq
 rw[e1,e2];constructor
 .rintro⟨h1,h2⟩;rw[h1,h2]
 .intro h;cases h;exact⟨rfl,rfl⟩
def K0(n i:Nat):oq (n+2) (K9 i):=Aj (by simp only[aU,eG];lia) λd hd=>by
 simp only[aO,aH,bN]at hd;rcases hd with rfl|rfl
 .exact Ak
 .exact Eu (by simp only[aU,eG];lia) λd hd=>by rw[List.mem_singleton.mp hd];exact Ak
def KZ{t:j9}(h:t.dep<=n):oq (n+1) (Gh (wq t)):=Aj (by simp only[aU,eG];lia) λd hd=>by
 simp only[aO,aH,bN]at hd;rcases hd with rfl|rfl
 .exact Ak
 .exact K3 t h
end L2
namespace L2
open PySem PySem.Spec PyProof.Rows PyProof PySem.W
def SI(p q:ae)(loose:ao Str)(Xt:ah->Bool){α:Type}(G:ah->α)(J:af->α)(M:Nat):Prop:=∀(w:af) (os:OsState),(O3 p w 11 (some (.ref 6)) M (ST0 w os) (topStub p)).map (λs =>
 (W.staticsOk (importedModules p.main.body) (W.boot_heap w.params) s.abs.heap&&W.namesBound p s.abs.heap&&W.gensDone s.abs&&W.laidKept (W.boot_heap w.params) s.abs.heap,Kt q loose (importedModules p.main.body) Xt true s.abs,G s.abs))=some (true,W.openGood q loose,J w)
def Mf{p q:ae}{loose:ao Str}{Xt:ah->Bool}{α:Type}{J:ah->α}{L:af->α}{N M:Nat}
 (e:W.opening p=W.plainProg p.main.scope.names) (O:Nat.ble 600 N=true) (f:∀ s,fenceModules? p s=some s) (le:Nat.ble M N=true) (h:SI p q loose Xt J L M):W.LeftO p q loose Xt J L N:=PZ e O f le λw os=>by
 obtain⟨U,r,e⟩:=Option.map_eq_some_iff.mp (h w os);have G:=GA r;rw[QX,show topRun=Ku from Fast.te14082659384304107361,show treeTable=y8 from Fast.te14364793385576792824]at G;rw[G];exact cf some e
end L2
namespace Pf
open PySem L2 PyProof.Rows
variable{n:Nat}
def top(i:Nat):Stmt:=PySem.Challenge.pw_hissroom_k20_numbers_and_makes_refused.main.body.getD i (.Pass ⟨0,0,0,0⟩)
def met(i j:Nat):Stmt:=(QP (top i)).getD j (.Pass ⟨0,0,0,0⟩)
abbrev xu:Stmt:=top 43
abbrev ou:Stmt:=top 44
abbrev r8:Stmt:=top 45
abbrev rZ:Stmt:=top 46
abbrev l8:Stmt:=top 47
abbrev px:Stmt:=top 48
abbrev s_same:Stmt:=top 63
abbrev rY:Stmt:=top 1
abbrev nh:Stmt:=top 2
abbrev nj:Stmt:=top 4
abbrev lg:Stmt:=top 3
abbrev jO:Stmt:=top 27
abbrev kq:Stmt:=top 28
abbrev jQ:Stmt:=top 29
abbrev k9:Stmt:=top 26
abbrev ki:Stmt:=top 25
abbrev l9:Stmt:=top 32
abbrev jt:Stmt:=top 33
abbrev i8:Stmt:=top 35
abbrev jr:Stmt:=top 34
abbrev jR:Stmt:=top 31
abbrev hV:Stmt:=met 40 1
abbrev gE:Stmt:=met 40 2
abbrev iu:Stmt:=met 40 3
abbrev gI:Stmt:=met 40 5
abbrev hX:Stmt:=met 40 4
abbrev gW:Stmt:=met 40 0
abbrev jS:Stmt:=top 37
abbrev gU:Stmt:=met 40 6
abbrev mf:Stmt:=top 38
abbrev ke:Stmt:=top 41
abbrev iO:Stmt:=met 40 7
abbrev kh:Stmt:=top 39
abbrev xr:Stmt:=top 53
abbrev xp:Stmt:=top 54
abbrev rV:Stmt:=top 55
abbrev ni:Stmt:=top 56
abbrev pz:Stmt:=top 57
abbrev kn:Stmt:=top 58
abbrev xq:Stmt:=top 59
abbrev rW:Stmt:=top 49
abbrev rX:Stmt:=top 52
abbrev ng:Stmt:=top 60
abbrev ma:Stmt:=top 61
abbrev pB:Stmt:=top 62
abbrev r6:Stmt:=top 65
abbrev rT:Stmt:=top 64
abbrev nR:Stmt:=top 66
structure iC (K:aa)(C:ai):Prop where
 cl:FQ K C
 tq:W.findIn K (.ref C) "places"=some none
 L5:W.findIn K (.ref C) "rows"=some none
 tm:W.findIn K (.ref C) "tables"=some none
 sZ:W.findIn K (.ref C) "whole"=some none
 tu:W.findIn K (.ref C) "counts"=some none
def Th:gb ["_law_script"] (pA xu) (fM xu):=je
def sP:gb ["_law_box_here","_law_many","_law_rest","_law_cell","_law_one","_law_two"] (pA ou) (fM ou):=je
def pv:gb ["_law_box_here","_law_size","_law_kind","_law_first","_law_behind"] (pA r8) (fM r8):=je
def vZ:gb ["_law_box_here","_law_size","_law_kind"] (pA rZ) (fM rZ):=je
def l7:gb ["_law_box_here","_law_size","_law_cuts_here","_law_texts","_law_border","_law_k","_law_at","_law_old","_law_clean"] (pA l8) (fM l8):=je
def jX:gb ["_law_box_here","_law_most","_law_size","_law_cuts_here","_law_many","_law_texts","_law_kind","_law_low","_law_ages"] (pA px) (fM px):=je
def O1:gb ["_law_found","_law_due"] (pA s_same) (fM s_same):=je
def O2:gb ["size","cuts"] (pA rY) (fM rY):=je
def zg:gb ["size","cuts","places"] (pA nh) (fM nh):=je
def qX:gb ["size","cuts","takes","first","behind"] (pA nj) (fM nj):=je
def nQ:gb ["size","cuts","text","end","spoilt","clean_to"] (pA lg) (fM lg):=je
def ph:gb ["size","cuts","takes","places"] (pA jO) (fM jO):=je
def kF:gb ["places","rows","age","told","take_age","row"] (pA kq) (fM kq):=je
def kQ:gb ["places","rows","before","age","where","clean"] (pA jQ) (fM jQ):=je
def vm:gb ["takes"] (pA k9) (fM k9):=je
def jP:gb ["size","cuts","takes","places","rows","age","told"] (pA ki) (fM ki):=je
def Ex:gb ["places"] (pA l9) (fM l9):=je
def ot:gb ["places","none"] (pA jt) (fM jt):=je
def oK:gb ["lefts","rights","none"] (pA i8) (fM i8):=je
def iR:gb ["places","clean","before","columns","none","told","first","row","far"] (pA jr) (fM jr):=je
def gZ:gb ["size","cuts","takes","age","places","rows","ages","table","changing","told","now","before"] (pA jR) (fM jR):=je
def jq:gb ["self","stretch","age","first","behind"] (pA hV) (fM hV):=je
def gN:gb ["self","stretch","age","first","behind","end"] (pA gE) (fM gE):=je
def hU:gb ["self","stretch","age","first","behind","many","before"] (pA iu) (fM iu):=je
def gQ:gb ["self","stretch","many","place","left","right"] (pA gI) (fM gI):=je
def qk:gb ["self","stretch"] (pA hX) (fM hX):=je
def lW:gb ["self","size","cuts","takes","least"] (pA gW) (fM gW):=je
def rM:gb ["size","cuts","takes","best"] (pA jS) (fM jS):=je
def gO:gb ["self","stretch","number","rest","place","left","right","many"] (pA gU) (fM gU):=je
def xo:gb ["size","cuts","takes","number","best"] (pA mf) (fM mf):=je
def Aq:gb ["numbers","make"] (pA ke) (fM ke):=je
def iW:gb ["self","stretch","make","ahead","place","left","right"] (pA iO) (fM iO):=je
def sQ:gb ["size","cuts","takes","make","best"] (pA kh) (fM kh):=je
def Aw:gb ["_law_border","_law_text","_law_end","_law_at"] (pA xr) (fM xr):=je
def Ar:gb ["_law_border","_law_takes","_law_age","_law_row","_law_end"] (pA xp) (fM xp):=je
def pj:gb ["_law_border","_law_takes","_law_many","_law_rows_here","_law_age","_law_row","_law_last"] (pA rV) (fM rV):=je
def qW:gb ["_law_border","_law_takes","_law_k","_law_part"] (pA ni) (fM ni):=je
def sR:gb ["_law_border","_law_takes","_law_rows_here"] (pA pz) (fM pz):=je
def jN:gb ["_law_border","_law_own_here","_law_last","_law_table","_law_i","_law_j","_law_some"] (pA kn) (fM kn):=je
def Av:gb ["_law_border","_law_takes","_law_age","_law_table","_law_old"] (pA xq) (fM xq):=je
def As:gb ["_law_box_here","_law_many","_law_places","_law_deep","_law_place","_law_left"] (pA rW) (fM rW):=je
def Au:gb ["_law_cuts_here","_law_takes","_law_make_here","_law_left","_law_right"] (pA rX) (fM rX):=je
def Iy:gb ["_law_make_here"] (pA ng) (fM ng):=je
def pq:gb ["_law_size","_law_cuts_here","_law_takes","_law_make_here","_law_border","_law_take_here","_law_age"] (pA ma) (fM ma):=je
def lH:gb ["_law_e","_law_found","_law_words"] (pA pB) (fM pB):=je
def Gx:gb ["_law_box_here","_law_make_here","_law_size","_law_many","_law_way"] (pA r6) (fM r6):=je
def vY:gb ["_law_size","_law_cuts_here","_law_takes","_law_number","_law_make_here","_law_found","_law_e"] (pA rT) (fM rT):=je
def mP:gb ["_law_script","_law_box_here","_law_size","_law_cuts_here","_law_takes","_law_many","_law_number","_law_turn","_law_make_here","_law_found","_law_again"] (pA nR) (fM nR):=je
def fI:ai:=399
def ja:ai:=85
def iH:ai:=73
def ye:ai:=61
def yb:ai:=97
def yd:ai:=109
def By:ai:=121
def Bx:ai:=133
def u3:ai:=145
def yc:ai:=241
def FC:ai:=157
def NY:ai:=169
def Bu:ai:=181
def NX:ai:=193
def Bw:ai:=205
def Bv:ai:=217
def pQ:ai:=229
def FD:ai:=260
def kC:ai:=48
abbrev Tq:ao ai:=[ye,iH,ja,yb,yd,By,Bx,u3,yc,FC,NY,Bu,NX,Bw,Bv,pQ,FD]
section
variable (P:ae)(w:af)(K:aa)(mg:Str->aq ak)(fF:Heap)
abbrev SE:Prop:=nO P w K mg fF "_law_box" 1 (pA xu) (Ag K)
abbrev oF:Prop:=nO P w K mg fF "_law_take" 1 (pA ou) (iL zB)
abbrev NW:Prop:=nO P w K mg fF "_law_bars" 2 (pA r8) (iL Hu)
abbrev NU:Prop:=nO P w K mg fF "_law_cuts" 2 (pA rZ) (iL Ht)
abbrev zQ:Prop:=nO P w K mg fF "_law_patched" 2 (pA l8) (iL tW)
abbrev HK:Prop:=nO P w K mg fF "_law_shelf" 3 (pA px) (iL A3)
abbrev DZ:Prop:=nO P w K mg fF "_law_take" 1 (pA ou) (iL xU)
abbrev NP:Prop:=nO P w K mg fF "_law_same" 21 (pA s_same) (iL (Fl 20))
abbrev sA:Prop:=nO P w K mg fF "ends" 1 (pA rY) (iL Hs)
abbrev D0:Prop:=nO P w K mg fF "pieces" 2 (pA nh) (iL wB)
abbrev qJ:Prop:=nO P w K mg fF "bar_of" 3 (pA nj) (iL A7)
abbrev ya:Prop:=nO P w K mg fF "farthest" 2 (pA lg) (iL rq)
abbrev oi:Prop:=nO P w K mg fF "take_rows" 3 (pA jO) (iL rp)
abbrev qI:Prop:=nO P w K mg fF "clean_row" 1 (pA kq) (iL rA)
abbrev uh:Prop:=nO P w K mg fF "next_reach" 2 (pA jQ) (iL A4)
abbrev sy:Prop:=nO P w K mg fF "youngest" 1 (pA k9) (iL rm)
abbrev vK:Prop:=nO P w K mg fF "least_age" 4 (pA ki) (iL A5)
abbrev uY:Prop:=nO P w K mg fF "no_make" 1 (pA l9) (iL wC)
abbrev uk:Prop:=nO P w K mg fF "bare_table" 2 (pA jt) (iL A6)
abbrev pX:Prop:=nO P w K mg fF "fewest_joined" 1 (pA i8) (iL tZ)
abbrev ug:Prop:=nO P w K mg fF "next_table" 2 (pA jr) (iL tX)
abbrev ui:Prop:=nO P w K mg fF "few_tables" 4 (pA jR) (iL t6)
abbrev hZ:Prop:=yr P w K mg fF fI "is_take" 1 (pA hV) (iL (wF fI))
abbrev gF:Prop:=yr P w K mg fF fI "clean_takes" 1 (pA gE) (iL (wI fI))
abbrev iB:Prop:=yr P w K mg fF fI "halves" 1 (pA iu) (iL (wH fI))
abbrev Bt:Prop:=yr P w K mg fF fI "count_anew" 143 (pA gI) (iL (uS fI 71))
abbrev ia:Prop:=yr P w K mg fF fI "counted" 144 (pA hX) (iL (uS fI 71))
abbrev jz:Prop:=VA P w K mg fF "BestMakes" fI 5 (pA gW) (iL (Hq fI))
abbrev uj:Prop:=nO P w K mg fF "count_best" 145 (pA jS) (iL pI)
abbrev mJ:Prop:=yr P w K mg fF fI "numbered" 216 (pA gU) (iL (vF fI 71))
abbrev uZ:Prop:=JO P w K mg fF "best_of" 217 (pA mf) (Ae (ua ja))
abbrev qH:Prop:=JO P w K mg fF "take_rank" 1 (pA ke) (Ae (oV iH))
abbrev oX:Prop:=Ia P w K mg fF fI "rank" 216 (pA iO) (Ae (tV fI iH 71))
abbrev vJ:Prop:=JO P w K mg fF "number_of" 217 (pA kh) (Ae (xV iH))
abbrev SD:Prop:=nO P w K mg fF "_law_far" 1 (pA xr) (iL Qw)
abbrev NR:Prop:=nO P w K mg fF "_law_own" 2 (pA xp) (iL Qu)
abbrev NQ:Prop:=nO P w K mg fF "_law_rows" 3 (pA rV) (iL Ho)
abbrev D1:Prop:=nO P w K mg fF "_law_barred" 1 (pA ni) (iL wJ)
abbrev HL:Prop:=nO P w K mg fF "_law_least" 4 (pA pz) (iL wD)
abbrev x9:Prop:=nO P w K mg fF "_law_few_next" 1 (pA kn) (iL t9)
abbrev SA:Prop:=nO P w K mg fF "_law_few" 3 (pA xq) (iL Hr)
abbrev NS:Prop:=nO P w K mg fF "_law_make" 8 (pA rW) (iL (uQ 6))
abbrev NT:Prop:=nO P w K mg fF "_law_made" 64 (pA rX) (iL (uR 63))
abbrev DY:Prop:=nO P w K mg fF "_law_tuples" 64 (pA ng) (iL (oU 63))
abbrev zR:Prop:=nO P w K mg fF "_law_is_best" 66 (pA ma) (iL wG)
abbrev HM:Prop:=VB P w K mg fF "_law_kinds" 1 (pA pB) (tY K Tq kC)
abbrev NV:Prop:=nO P w K mg fF "_law_bent" 65 (pA r6) (iL (uT 63))
abbrev NO:Prop:=nO P w K mg fF "_law_told" 218 (pA rT) (iL (A1 K Tq kC))
end
section
variable {P:ae}{w:af}{K:aa}{mg:Str->aq ak}{fF:Heap}{f:ai}{fd:ag}
def T9(F:jY K "_law_box" "_law_box" xu f fd)(T:lR mg)  : gD P w K mg fF kO 1 f fd (pA xu) (Ag K):=by
 refine F.ok Th (λvs H Q E h=>?_) (λO A fN s H vs Q E U h=>?_)
 .unfold Ag at h;split at h
  .rfl
  .cases h
 .unfold Ag at h;split at h
  .rename_i a;obtain⟨ns,L,k⟩:=h;refine⟨_,(lI (ow (Lu (gm (zj qu (by rfl) T.list ba (gm (lX 0) iJ)) (gm iw (gm iw (gm iw iJ))))))),?_⟩;refine⟨_,L,λl hl=>?_⟩;refine⟨(zs),λb hb=>?_⟩;have G:l≠b:=gJ (o:=.lst (ns.map V.int)) gc hb;have J:H b=none:=by rw[gr G.symm]at hb;exact hb
   refine k b l _ ⟨ns,0,0,1,gc,by rw[gr G];exact gc,G,by decide,by decide,by decide⟩ J hl λc o e=>?_;rw[gr (gJ e J),gr (gJ e hl)];exact e
  .cases h
def Pz(F:jY K "_law_cuts" "_law_cuts" rZ f fd)(T:lR mg)(W:oF P w K mg fF):gD P w K mg fF kO 2 f fd (pA rZ) (iL Ht):=by
 refine F.pE vZ (λds μ Kd h=>by unfold Ht at h;split at h <;> first | rfl | exact h.elim) (λjc A fN s H E U=>⟨_,(fK (qS 2 vZ.nd (qC W U (a2 (dv 0) fP)))
  (fK (jh (CB (dv 2) fP)
  (fU (gw (jL false g9)))
  ig)
  (fK (jh (CB (dv 2) fP)
  (fU (gw (Eg false (sH (N:=["_law_place"]) (js:=[none]) vZ (by decide +kernel)) (oS rfl T.range (a2 fP (dv 1))) (λ_ _ _ nd=>(qN 0 nd)) (λ_ _ _=>iY) (λ_ _ _=>(dv 0)))))
  ig)
  (fU (gw (Eg false (sH (N:=["_law_place","_law_box_here"]) (js:=[none,some 0]) vZ (by decide +kernel)) (oS rfl T.range (a2 fP (dv 1))) (λ_ _ _ nd=>(qN 0 nd)) (λ_ _ _=>(o8 (RL (qC W U (a2 (dv 1) fP)) fP))) (λ_ _ _=>(dv 0)))))))),λds μ Kd hm hl h=>?_⟩)
 unfold Ht at h;split at h
 .rename_i k n;obtain⟨hb,h1,h2,kk⟩:=h;refine⟨hb,by decide,by decide,λv Z Y=>?_⟩;refine lY (λhv=>?_) (λhv=>?_)
  .exact⟨bA _,.keep (kk [] (bA _) ⟨(λ_ q=>nomatch q),.nil⟩)⟩
  refine lY (λG=>?_) (λG=>?_)
  .refine⟨⟨by decide,by decide,by lia,by lia⟩,sz (by rw[iF];lia),?_⟩;refine iP trivial (λd=>some d) (λd hd K' k'=>k') ?_;rw[List.filterMap_some,wc];obtain⟨L,J⟩:=Ct h1 (List.Sublist.refl _);exact .keep (kk _ L J)
  .refine⟨⟨by decide,by decide,by lia,by lia⟩,sz (by rw[iF];lia),?_⟩;refine uW trivial (λd hd K' k1 k2=>?_) λzs O=>?_
   .refine⟨hb,by decide,by decide,λv Z Y=>?_⟩;exact kT (λ_=>k1) (λ_=>k2)
   .rw[wc]at O;obtain⟨bs,hs,rfl⟩:=OP O;obtain⟨L,J⟩:=Ct h1 hs;exact .keep (kk _ L J)
 .cases h
def u7{μ:MS}{it:D->MS->(aq D->MS->Prop)->Prop}{K:DK}(Y:n<=1000)(hit:∀(d:D) (G:aq D->MS->Prop),(∀ c:Nat,(c=111\/c=120)->G (some (.str ⟨#[c]⟩)) μ)->it d μ G)(k:∀ l:ao Nat,l.length=n->OX l->K (.str (txt l)) μ):
 qG it (λ_=>True) (kr 0 n) μ λys O=>nL false ys O λx J=>M9 (.str (Str.ofString "")) [x] J K:=by
 refine rC (λc:Nat=>D.str ⟨#[c]⟩) (λc=>c=111\/c=120) trivial (λd hd G L=>hit d G L) λl hl U=>?_;rw[iF]at hl;refine⟨rfl,l.map (λc=>⟨#[c]⟩),by unfold lv;rw[bx];rfl,by rw[zd];lia,?_⟩;rw[xR];exact k l hl λc W=>U c W
def PB(F:jY K "_law_bars" "_law_bars" r8 f fd)(T:lR mg)(O:oF P w K mg fF):gD P w K mg fF kO 2 f fd (pA r8) (iL Hu):=by
 refine F.pE pv (λds μ Kd h=>by unfold Hu at h;split at h <;> first | rfl | exact h.elim) (λjc A fN s H E J=>⟨_,(fK (qS 2 pv.nd (qC O J (a2 (dv 0) fP)))
  (fK (jh (CB (dv 2) fP)
  (fU (gw (Bd dD fk fj Mp Ah gR (a1 (Eg false (sH (N:=["_law_k","_law_box_here"]) (js:=[none,some 0]) pv (by decide +kernel)) (jb rfl T.range (a1 (dv 1))) (λ_ _ _ nd=>(qN 0 nd)) (λ_ _ _=>iY) (λ_ _ _=>(jC gR (qC O J (a2 (dv 1) fP)))))))))
  ig)
  (fK (jh (CB (dv 2) fP)
  (fU (gw (Bd dD fk fj Mp Ah gR (a1 (Eg false (sH (N:=["_law_k","_law_box_here"]) (js:=[none,some 0]) pv (by decide +kernel)) (jb rfl T.range (a1 (dv 1))) (λ_ _ _ nd=>(qN 0 nd)) (λ_ _ _=>iY) (λ_ _ _=>(jC gR (qC O J (a2 (dv 1) fP)))))))))
  ig)
  (fK (jh (CB (dv 2) fP)
  (fK (qS 3 pv.nd (qC O J (a2 (dv 0) (dv 1))))
  (fK (qS 4 pv.nd (m6 (m6 (dv 3) fP) (qC O J (a2 (dv 0) (Ef (dv 1) (dv 3))))))
  (fU (gw (m6 (m6 (p5 mulC qi gR (dv 3)) (p5 mulC qi gR (Ef (dv 4) (dv 3)))) (p5 mulC qi gR (Ef (dv 1) (dv 4))))))))
  ig)
  (fK (jh (CB (dv 2) fP)
  (fU (gw (Bd dD fk fj Mp Ah gR (a1 (Eg false (sH (N:=["_law_k","_law_box_here"]) (js:=[none,some 0]) pv (by decide +kernel)) (jb rfl T.range (a1 (dv 1))) (λ_ _ _ nd=>(qN 0 nd)) (λ_ _ _=>iY) (λ_ _ _=>(jC gR (qC O J (a2 (dv 1) fP)))))))))
  ig)
  (fU (gw (p5 mulC qi (jC gR (qC O J (a2 (dv 0) fP))) (dv 1))))))))),λds μ Kd hm hl h=>?_⟩)
 unfold Hu at h;split at h
 .rename_i k n;obtain⟨hb,h1,h2,kk⟩:=h;refine⟨hb,by decide,by decide,λv W U=>?_⟩;refine lY (λG=>?_) (λG=>?_)
  .refine⟨rfl,by lia,by lia,sz (by rw[iF];lia),?_⟩;refine u7 (n:=n.toNat) (by lia) (λd K' Y=>?_) λl hl Z=>.keep (kk l hl Z);refine⟨hb,by decide,by decide,λv W U=>⟨by decide,?_⟩⟩;obtain⟨c,e,L⟩:=BB (l:=(Str.ofString "ox").cps.toList) W U;exact fO e (Y c ((OX.of (l:=(Str.ofString "ox").cps.toList) (by decide +kernel)) c L))
  refine lY (λG=>?_) (λG=>?_)
  .refine⟨rfl,by lia,by lia,sz (by rw[iF];lia),?_⟩;refine u7 (n:=n.toNat) (by lia) (λd K' Y=>?_) λl hl Z=>.keep (kk l hl Z);refine⟨hb,by decide,by decide,λv W U=>⟨by decide,?_⟩⟩;obtain⟨c,e,L⟩:=BB (l:=(Str.ofString "ooooox").cps.toList) W U;exact fO e (Y c ((OX.of (l:=(Str.ofString "ooooox").cps.toList) (by decide +kernel)) c L))
  refine lY (λG=>?_) (λG=>?_)
  .refine⟨hb,by lia,by lia,λp p0 p1=>⟨hb,by lia,by lia,λg g0 g1=>?_⟩⟩;refine⟨120,rfl,by lia,by lia,111,rfl,by lia,by lia,?_,120,rfl,by lia,by lia,?_,?_⟩
   .rw[Jc,Jc,aT,aT];exact sz (by lia)
   .rw[pR,Jc,Jc,o4,aT,aT,aT];exact sz (by lia)
   rw[pR,pR];refine .keep (kk _ ?_ (((OX.rep (.inr rfl)).app (OX.rep (.inl rfl))).app (OX.rep (.inr rfl))));rw[o4,o4,aT,aT,aT];lia
  refine lY (λG=>?_) (λG=>?_)
  .refine⟨rfl,by lia,by lia,sz (by rw[iF];lia),?_⟩;refine u7 (n:=n.toNat) (by lia) (λd K' Y=>?_) λl hl Z=>.keep (kk l hl Z);refine⟨hb,by decide,by decide,λv W U=>⟨by decide,?_⟩⟩;obtain⟨c,e,L⟩:=BB (l:=(Str.ofString "xxxo").cps.toList) W U;exact fO e (Y c ((OX.of (l:=(Str.ofString "xxxo").cps.toList) (by decide +kernel)) c L))
  refine⟨hb,by decide,by decide,λp p0 p1=>⟨by decide,?_⟩⟩;obtain⟨c,e,L⟩:=BB (l:=(Str.ofString "ox").cps.toList) p0 p1;exact fO e ⟨c,rfl,by lia,by lia,.keep (kk _ (aT ..) (OX.rep ((OX.of (l:=(Str.ofString "ox").cps.toList) (by decide +kernel)) c L)))⟩
 .cases h
def EL(F:jY K "_law_patched" "_law_patched" l8 f fd)(T:lR mg)(gM:oF P w K mg fF):gD P w K mg fF kO 2 f fd (pA l8) (iL tW):=by
 refine F.pE l7 (λds μ Kd h=>by unfold tW at h;split at h <;> first | rfl | exact h.elim) (λjc A fN s H E hr=>⟨_,(fK (qS 4 l7.nd (m6 (m6 (jL false (a1 fP)) (dv 2)) (jL false (a1 (dv 1)))))
  (fK (mU bJ rfl (jb rfl T.range (a1 (Ef (zK T (dv 4)) fP))) (qT 5 l7.nd)
  (fK (qS 6 l7.nd (qC gM hr (a2 (dv 0) (zK T (dv 3)))))
  (fK (qS 7 l7.nd (jC (dv 3) (dv 6)))
  (fK (qS 8 l7.nd (p5 mulC qi gR (Ef (jC (dv 4) (m6 (dv 5) fP)) (jC (dv 4) (dv 5)))))
  (fU (Ez (m6 (m6 (m5 false (dv 7) LR (mh (jC (dv 4) (dv 5)))) (dv 8)) (m5 false (dv 7) (mh (jC (dv 4) (m6 (dv 5) fP))) LR)) (dv 3) (dv 6)))))))
  (fU (gw (dv 3))))),λds μ Kd hm hl h=>?_⟩)
 unfold tW at h;split at h
 .rename_i k n cs0 t;obtain⟨hb,hkt,h1,h2,cs,ls,rfl,uN,J,ht,G6,hll,hg,kk⟩:=h;have lt:t<μ.length:=(kN ht).1;refine⟨zs,?_⟩;refine⟨by rw[iE];exact sz (by show 1+cs.length<=_;lia),?_⟩;refine⟨zs,?_⟩;refine⟨by rw[o4,iE];exact sz (by show 1+cs.length+1<=_;lia),?_⟩;rw[uc n cs];obtain⟨es,U⟩:∃ es,es=fC n cs:=⟨_,rfl⟩;rw[<- U];have Z:es.Pairwise (·<·):=by rw[U];exact iK h1 J
  have yy:∀ x∈es,0<=x/\x<=n:=λx L=>jx h1 J (by rw[<- U];exact L);have o3:es.length=cs.length+2:=by rw[U,gv]
  have W:((es.map D.int).length:Int)=(es.length:Nat):=by rw[iE]
  refine⟨by rw[W];lia,by rw[W];lia,?_⟩;refine iU (λds ρ fX=>(∀ d∈ds,∃ j:Nat,j+1<es.length/\d=.int j)/\∃ G a b c d,ρ=[some (.mr k),some (.int n),some (.lst (cs.map D.int)),some (.mr t),some (.lst (es.map D.int)),a,b,c,d]/\fX=μ.set t (.lst (G.map Ks))/\G.length=ls.length/\Good n G) ⟨λd hd=>?_,ls,none,none,none,none,rfl,?_,rfl,hg⟩ ?_ ?_
  .obtain⟨j,hj,rfl⟩:=xx hd;rw[W]at hj;exact⟨j,by lia,by rw[c6]⟩
  .exact(kc ht).symm
  .rintro d wK ρ fX ⟨hd,G,a,b,c,e,rfl,rfl,oB,R9⟩;refine⟨trivial,λnx pG=>?_⟩;obtain⟨j,hj,rfl⟩:=hd d aF;have hbx:(μ.set t (.lst (G.map Ks)))[k]?=some .box:=by rw[aJ (bj hkt)];exact hb
   have lls:0<G.length:=by rw[oB];exact List.length_pos_iff.mpr G6
   refine fO (AR lt) ⟨hbx,by rw[iE];lia,by rw[iE];lia,λv v0 v1=>?_⟩;rw[iE]at v1;obtain⟨l,sG⟩:∃ l,G[v.toNat]?=some l:=⟨G[v.toNat]'(by lia),jo _⟩;obtain⟨hll2,O⟩:=R9 l (mR sG);have ev:lS (G.map Ks) v=some (Ks l):=by have:=j8 (g:=Ks) sG;rwa [cz v0]at this
   refine fO (AR lt) (fO ev ?_);obtain⟨x,L⟩:∃ x,es[j]?=some x:=⟨es[j]'(by lia),jo _⟩;obtain⟨y,Y⟩:∃ y,es[j+1]?=some y:=⟨es[j+1]'(by lia),jo _⟩;have hxy:=l6 Z L Y (bG _);have yN:=yy x (mR L);have Jn:=yy y (mR Y);have e1:lS (es.map D.int) (j:Int)=some (.int x):=j8 L;have e2:lS (es.map D.int) ((j:Int)+1)=some (.int y):=j8 (i:=j+1) Y;refine fO e2 (fO e1 ⟨111,rfl,by lia,by lia,?_⟩);have lz:(txt l).length<=sizeLine:=by rw[kE];exact sz (by lia)
   refine fO e1 ⟨lz,?_⟩;have c1:=wM l none (some x);have c2:=wM l (some y) none;refine⟨?_,?_⟩
   .show(txt (lD l none (some x))).length+(txt (List.replicate (y - x).toNat 111)).length<=sizeLine;rw[kE,kE,aT];exact sz (by lia)
   refine fO e2 ⟨lz,?_,?_⟩
   .show(txt (lD l none (some x))++txt (List.replicate (y - x).toNat 111)).length+(txt (lD l (some y) none)).length<=sizeLine;rw[pR,Jc,kE,o4,aT];exact sz (by lia)
   have ei:Dm (G.map Ks).length v=some v.toNat:=by unfold Dm;rw[aB v0,aB (by rw[iE];lia)]
   refine fO (AR lt) (fO ei (pG _ _ ⟨λd G8=>hd d (nM _ G8),G.set v.toNat (l.take x.toNat++List.replicate (y - x).toNat 111++l.drop y.toNat),_,_,_,_,rfl,?_,by rw[bL];exact oB,λl' hl3=>?_⟩))
   .rw[b7,List.map_set];congr 3;show D.str (txt (lD l none (some x))++txt (List.replicate (y - x).toNat 111)++txt (lD l (some y) none))=_;rw[pR,pR,HH yN.1,zL Jn.1];rfl
   .rcases List.mem_or_eq_of_mem_set hl3 with q | q
    .exact R9 l' q
    .rw[q];refine⟨?_,((show OX (l.take x.toNat)from λc J=>O c (bp J)).app (OX.rep (.inl rfl))).app (show OX (l.drop y.toNat)from λc J=>O c (List.mem_of_mem_drop J))⟩;rw[o4,o4,bH,aT,bD];lia
  .rintro ρ fX ⟨_,G,a,b,c,e,rfl,rfl,oB,R9⟩;exact⟨trivial,.keep (kk G oB R9)⟩
 .cases h
def LN(F:jY K "_law_shelf" "_law_shelf" px f fd)(T:lR mg)(O:oF P w K mg fF)(VE:NW P w K mg fF)(VD:NU P w K mg fF)(JP:zQ P w K mg fF):gD P w K mg fF kO 3 f fd (pA px) (iL A3):=by
 refine F.pE jX (λds μ Kd h=>by unfold A3 at h;split at h <;> first | rfl | exact h.elim) (λjc A fN s H E J=>⟨_,(fK (qS 2 jX.nd (m6 fP (qC O J (a2 (dv 0) (dv 1)))))
  (fK (qS 3 jX.nd (qC VD J (a2 (dv 0) (dv 2))))
  (fK (qS 4 jX.nd (qC O J (a2 (dv 0) fP)))
  (yf (jh (CB (qC O J (a2 (dv 0) fP)) fP)
  (fU (qS 4 jX.nd fP))
  ig)
  (fK (YY 5 true jX.nd (sH (N:=["_law_k","_law_box_here","_law_size"]) (js:=[none,some 0,some 2]) jX (by decide +kernel)) (jb rfl T.range (a1 (dv 4))) (λ_ _ _ nd=>(qN 0 nd)) (λ_ _ _=>iY) (λ_ _ _=>(qC VE J (a2 (dv 1) (dv 2)))))
  (yf (jh (PW.pt (Cm (RL (dv 4) fP) (xa (RL (qC O J (a2 (dv 0) fP)) fP))))
  (fU (qS 5 jX.nd (qC JP J (fJ (dv 0) (fJ (dv 2) (fJ (dv 3) (fJ (dv 5) g9)))))))
  ig)
  (fK (qS 6 jX.nd (qC O J (a2 (dv 0) fP)))
  (fK (qS 7 jX.nd (qC O J (a2 (dv 0) fP)))
  (fK (YY 8 false jX.nd (sH (N:=["_law_k","_law_low","_law_box_here","_law_kind"]) (js:=[none,some 7,some 0,some 6]) jX (by decide +kernel)) (jb rfl T.range (a1 (dv 4))) (λ_ _ _ nd=>(qN 0 nd)) (λ_ _ _=>iY) (λ_ _ _=>(m6 (dv 1) (qC O J (a2 (dv 2) (jC (jL false (fJ fP (fJ fP (fJ fP (fJ fP g9))))) (dv 3)))))))
  (fU (gw (kU (a3 (dv 2) (dv 3) (zJ false rfl (by rfl) T.list (by rfl) T.zip (a2 (dv 5) (dv 8)))))))))))))))),λds μ Kd hm hl h=>?_⟩)
 unfold A3 at h;split at h
 .rename_i k m;obtain⟨hb,h1,h2,kk⟩:=h;refine⟨hb,by lia,by lia,λv v0 v1=>?_⟩;refine⟨hb,by lia,by lia,λcs uN hc=>?_⟩;refine⟨hb,by decide,by decide,λw w0 w1=>?_⟩;refine⟨λjV U=>∃ G:Int,0<=G/\G<=20/\jV=[some (.mr k),some (.int m),some (.int (1+v)),some (.lst (cs.map D.int)),some (.int G),none,none,none,none]/\U=μ,?_,?_⟩
  .refine⟨hb,by decide,by decide,λu u0 u1=>?_⟩;exact lY (λ_=>⟨20,by decide,by decide,rfl,rfl⟩) (λ_=>⟨w,w0,by lia,rfl,rfl⟩)
  rintro jV U ⟨G,m0,m1,rfl,rfl⟩;refine⟨by lia,by lia,sz (by rw[iF];lia),?_⟩;refine rC Ks (λl=>(l.length:Int)=1+v/\OX l) trivial (λd hd K' k'=>⟨hb,by lia,by lia,λl hl ho=>k' l ⟨by lia,ho⟩⟩) λZ W hg=>?_;rw[iF]at W;have kl:k<U.length:=(kN hb).1;have Y:∀ x:MO,(U++[x])[k]?=some .box:=λx=>by rw[uO kl];exact hb
  refine⟨λV7 J1=>∃ L:ao (ao Nat),L.length=G.toNat/\Good (1+v) L/\V7=[some (.mr k),some (.int m),some (.int (1+v)),some (.lst (cs.map D.int)),some (.int G),some (.mr U.length),none,none,none]/\J1=U++[.lst (L.map Ks)],?_,?_⟩
  .refine kT (λhp=>?_) (λhp=>⟨Z,W,hg,rfl,rfl⟩);refine⟨Y _,by decide,by decide,λu u0 u1=>?_⟩;refine kT (λ_=>?_) (λ_=>⟨Z,W,hg,rfl,rfl⟩);refine⟨Y _,aA kl,by lia,by lia,cs,Z,rfl,by lia,hc,mn j6,?_,by lia,hg,λL oB R9=>⟨L,oB.trans W,R9,rfl,qV⟩⟩;intro e;rw[e]at W;simp at W;lia
  rintro V7 J1 ⟨L,oB,R9,rfl,rfl⟩;refine⟨Y _,by decide,by decide,λkd k0 k1=>⟨Y _,by decide,by decide,λlw l0 l1=>?_⟩⟩;refine⟨by lia,by lia,sz (by rw[iF];lia),?_⟩;obtain⟨mm,em,mm1,IW⟩:=Yp k0 k1;refine rC D.int (λa=>0<=a/\a<=60) trivial (λd hd K' k'=>⟨zs,fO em ⟨Y _,by lia,by lia,λa a0 a1=>k' (lw+a) ⟨by lia,by lia⟩⟩⟩) λas has hag=>?_;rw[iF]at has;refine fO j6 ⟨zs,?_⟩;rw[Kc];refine .drop ⟨True.intro,xG cs,Ug _,True.intro⟩ (T4 (n:=0) hm) ?_;rw[KC];refine kk (1+v) cs (L.zip as) (by lia) (by lia) uN hc ⟨by rw[List.length_zip];lia,λt ht=>?_⟩;have z1:=R9 t.1 (dH ht).1;have z2:=hag t.2 (dH ht).2;exact⟨z1.1,z1.2,z2.1,z2.2⟩
 .cases h
def Py(F:jY K "ends" "ends" rY f fd)(T:lR mg)  : gD P w K mg fF kO 1 f fd (pA rY) (iL Hs):=by
 refine F.pE O2 (λds μ G h=>by unfold Hs at h;split at h<;>first|rfl|exact h.elim) (λJ A fN s H E L=>⟨_,(fU (gw (m6 (m6 (jL false (a1 fP)) (yS qu (mv (m:=false)) (by rfl) T.list ba (a1 (dv 1)))) (jL false (a1 (dv 0)))))),λds μ G O hl h=>?_⟩);unfold Hs at h;split at h
 .rename_i n x;obtain⟨cs,ex,U,kk⟩:=h;refine⟨zs,fO ex ⟨by rw[iE];exact sz (by show 1+cs.length<=_;lia),zs,by rw[o4,iE];exact sz (by show 1+cs.length+1<=_;lia),?_⟩⟩;rw[uc];exact .keep kk
 .cases h
def Pe(es:ao Int):List.zipWith (λa b=>D.tup [a,b]) (es.map D.int) (L2.cutD (es.map D.int) (some 1) none)=(BX es).map WE:=by
 have e:L2.cutD (es.map D.int) (some 1) none=es.tail.map D.int:=by
  unfold L2.cutD;rw[show(1:Int)=((1:Nat):Int)from rfl,HT.m4,HT.xw,iE];cases es with
  |nil=>rfl
  |cons a es=>rw[aU,cE (by lia)];simp[bQ]
 rw[e];unfold BX;have G:∀(xs ys:ao Int),List.zipWith (λa b=>D.tup [a,b]) (xs.map D.int) (ys.map D.int)=(xs.zip ys).map WE:=by
  intro xs;induction xs with
  |nil=>intro ys;simp
  | cons x xs J =>
   intro ys;cases ys with
   |nil=>simp
   |cons y ys=>rw[aw,aw,bP,J,cP,aw];rfl
 exact G es es.tail
def IP(F:jY K "pieces" "pieces" nh f fd)(T:lR mg)(G:sA P w K mg fF):gD P w K mg fF kO 2 f fd (pA nh) (iL wB):=by
 refine F.pE zg (λds μ O h=>by unfold wB at h;split at h <;> first | rfl | exact h.elim) (λU A fN s H E J=>⟨_,(fK (qS 2 zg.nd (qC G J (a2 (dv 0) (dv 1))))
  (fU (gw (zJ false rfl (by rfl) T.list (by rfl) T.zip (a2 (dv 2) (m5 false (dv 2) (mh fP) LR)))))),λds μ O W hl h=>?_⟩)
 unfold wB at h;split at h
 .rename_i n x;obtain⟨cs,ex,L,kk⟩:=h;refine⟨cs,ex,L,?_⟩;show Fz _ _ (.lst (List.zipWith (λa b=>D.tup [a,b]) ((fC n cs).map D.int) (L2.cutD ((fC n cs).map D.int) (some 1) none))) μ;rw[Pe];exact .keep kk
 .cases h
def IS(F:jY K "bar_of" "bar_of" nj f fd)(T:lR mg)(Y:D0 P w K mg fF):gD P w K mg fF kO 3 f fd (pA nj) (iL A7):=by
 refine F.pE qX (λds μ Z h=>by unfold A7 at h;split at h <;> first | rfl | exact h.elim) (λjc A fN s H E U=>⟨_,(fK (mU bJ rfl (jI (qC Y U (a2 (dv 0) (dv 1)))) ⟨(ic (n:=2) rfl (fQ (qN 3 qX.nd) (fQ (qN 4 qX.nd) gH))),(iZ (fZ (fY 3) (fH 3) (fZ (fY 4) (fH 4) i7 fT) (fL (fH 4) fT))),(iG (fL (fH 3) (fL (fH 4) fT)))⟩
  (fU (jh (jT (ny (Ym rfl) KY (by rfl) T.all PyProof.Rows.boot_all (a1 (NG false (sH (N:=["text","age","first","behind"]) (js:=[none,none,some 3,some 4]) qX (by decide +kernel)) (iZ (fZ (fY 0) (fH 0) (fZ (fY 1) (fH 1) i7 fT) (fL (fH 1) fT))) (iG (fL (fH 0) (fL (fH 1) fT))) (jI (dv 2)) (λ_ _ _ nd=>(ic (n:=2) rfl (fQ (qN 0 nd) (fQ (qN 1 nd) gH)))) (λ_ _ _=>iY) (λ_ _ _=>(DQ inC Gv gR (m5 false (dv 0) (mh (dv 2)) (mh (dv 3))) (by with_unfolding_all rfl)))))))
  (fU (gw (kU (a2 (dv 3) (dv 4)))))
  ig)))
  (fU (gw vG))),λds μ Z hm hl h=>?_⟩)
 unfold A7 at h;split at h
 .rename_i n x y;obtain⟨cs,ts,ex,J,W,ht,hn,kk⟩:=h;refine⟨cs,ex,W,?_⟩;refine iU (λds ρ G=>∃(ps:ao (Int×Int)) (a b:aq D),ds=ps.map WE/\iQ (fC n cs) ts=ps.find? (bad ts)/\ρ=[some (.int n),some x,some y,a,b]/\G=μ) ⟨_,none,none,rfl,rfl,rfl,rfl⟩ ?_ ?_
  .rintro d wK ρ G ⟨ps,a,b,e,hf,rfl,rfl⟩;refine⟨trivial,λnx L=>?_⟩;cases ps with
   |nil=>cases e
   | cons p ps =>
    cases e;refine⟨rfl,?_⟩;refine fO J ⟨by rw[iE];exact sz (by have:=ht.nH;lia),?_⟩;refine iP (vz J) (λd=>match d with|.tup [.str z,_]=>some (.bl (decide (120∈lD z.cps.toList (some p.1) (some p.2))))|_=>none) (λd hd K' O=>?_) ?_
    .obtain⟨t,wz,rfl⟩:=List.mem_map.mp hd;have hz:=ht.ok t wz;refine⟨rfl,?_⟩;refine⟨by rw[kE];exact sz (by lia),120,rfl,?_⟩;rw[V0];exact O
    .refine⟨ts.map λt=>decide (120∈oE t.1 p.1 p.2),?_,?_⟩
     .show some _=_;rw[List.filterMap_map,bx];congr 1;rw[<- fw];rfl
     .have eb:(ts.map λt=>decide (120∈oE t.1 p.1 p.2)).all id=bad ts p:=by unfold bad;rw[List.all_map];rfl
      rw[cw,<- eb]at hf
      refine Qg (b:=(ts.map λt=>decide (120∈oE t.1 p.1 p.2)).all id) (λhb=>?_) (λhb=>?_)
      .refine⟨zs,.keep ?_⟩;rw[hb]at hf;rw[hf]at kk;exact kk
      .rw[hb]at hf;exact L _ _ ⟨ps,_,_,rfl,hf,rfl,rfl⟩
  .rintro ρ G ⟨ps,a,b,e,hf,rfl,rfl⟩;cases ps with
   | nil =>rw[hf]at kk;exact⟨trivial,.keep kk⟩
   |cons p ps=>cases e
 .cases h
def CL(n:Nat){f:ai}{fd:ag}(F:jY K "_law_same" "_law_same" s_same f fd)(T:lR mg)(yt:nO P w K mg fF "_law_same" n ["_law_found","_law_due"] (spS n)):gD P w K mg fF kO (n+1) f fd ["_law_found","_law_due"] (uD n):=by
 refine F.ok O1 (λvs H Q E h=>?_) (λjc A fN s H vs Q E hr h=>?_)
 .unfold uD at h;split at h
  .rfl
  .cases h
 .unfold uD at h;split at h
  .rename_i x y;obtain⟨d,hd,Z,Y,W,k⟩:=h;refine⟨_,(iT (vn (PW.pt (pw_or (sV (hJ sh (by rfl) T.isinstance aP (gm (lX 1) (gm (jF (v:=.ty "bool") rfl T.bool dE rfl) iJ)))) (pw_or1 (sV (hJ sh (by rfl) T.isinstance aP (gm (lX 0) (gm (jF (v:=.ty "bool") rfl T.bool dE rfl) iJ)))))))
   (lI (ow (AD (hJ sh (by rfl) T.isinstance aP (gm (lX 1) (gm (jF (v:=.ty "bool") rfl T.bool dE rfl) iJ))) (AD (hJ sh (by rfl) T.isinstance aP (gm (lX 0) (gm (jF (v:=.ty "bool") rfl T.bool dE rfl) iJ))) (Ls (sW eqN (lX 0) (lX 1) (jm _)))))))
   nV)
   (iT (vn (PW.pt (pw_or (sV (hJ sh (by rfl) T.isinstance aP (gm (lX 1) (gm (jF (v:=.ty "list") rfl T.list ba rfl) iJ)))) (pw_or1 (sV (hJ sh (by rfl) T.isinstance aP (gm (lX 1) (gm (jF (v:=.ty "tuple") rfl T.tuple dw rfl) iJ)))))))
   (iT (vn (PW.pt (pw_or (nU BY (hJ sh (by rfl) T.isinstance aP (gm (lX 1) (gm (jF (v:=.ty "list") rfl T.list ba rfl) iJ))) (hJ sh (by rfl) T.isinstance aP (gm (lX 0) (gm (jF (v:=.ty "list") rfl T.list ba rfl) iJ))) (jm _)) (pw_or1 (nU BY (hJ sh (by rfl) T.isinstance aP (gm (lX 1) (gm (jF (v:=.ty "tuple") rfl T.tuple dw rfl) iJ))) (hJ sh (by rfl) T.isinstance aP (gm (lX 0) (gm (jF (v:=.ty "tuple") rfl T.tuple dw rfl) iJ))) (jm _)))))
   (lI (ow LA))
   nV)
   (lI (ow (AD (sW XF (hJ PY (by rfl) T.len PySem.boot_len (gm (lX 0) iJ)) (hJ PY (by rfl) T.len PySem.boot_len (gm (lX 1) iJ)) (jm _)) (Ls (hJ (Ym rfl) (by rfl) T.all PyProof.Rows.boot_all (gm (GO (Fy (XN:=["_law_found","_law_due"]) (xsc:=(fM s_same)) (N:=["_law_one","_law_other"]) (js:=[none,none]) (by decide +kernel)) rfl (TH rfl T.zip (gm (lX 0) (gm (lX 1) iJ))) (λ_ _ _=>(ic (n:=2) rfl (fQ (wg (i:=0) (show List.Nodup (["_law_one","_law_other"]:ao Str) by decide +kernel) rfl (by first|exact Or.inl rfl|exact Or.inr rfl)) (fQ (wg (i:=1) (show List.Nodup (["_law_one","_law_other"]:ao Str) by decide +kernel) rfl (by first|exact Or.inl rfl|exact Or.inr rfl)) gH)))) (λ_ _ _=>GH) (λ_ _ _=>(xC yt (hr.mono (by first|decide|exact ar _|lia)) rfl (gm (lX 0) (gm (lX 1) iJ))))) iJ)))))))
   nV)
   (iT (vn (PW.pt (pw_or (nU BY (hJ sh (by rfl) T.isinstance aP (gm (lX 1) (gm (jF (v:=.ty "str") rfl T.str PyProof.Rows.boot_str rfl) iJ))) (hJ sh (by rfl) T.isinstance aP (gm (lX 0) (gm (jF (v:=.ty "str") rfl T.str PyProof.Rows.boot_str rfl) iJ))) (jm _)) (pw_or1 (nU BY (hJ sh (by rfl) T.isinstance aP (gm (lX 1) (gm (jF (v:=.ty "int") rfl T.int de rfl) iJ))) (hJ sh (by rfl) T.isinstance aP (gm (lX 0) (gm (jF (v:=.ty "int") rfl T.int de rfl) iJ))) (jm _)))))
   (lI (ow LA))
   nV)
   (lI (ow (sW eqN (lX 0) (lX 1) (jm _))))))),?_⟩
   cases d with
   | bl b =>obtain rfl:x=.bl b:=Y;obtain rfl:y=.bl b:=W;refine⟨_,true,kM.bl b,jv K _,_,true,kM.bl b,jv K _,_,true,kM.bl b,jv K _,?_⟩;show Q (.bl (decide (b=b))) H;rw[aM rfl];exact k H (iM.refl H)
   | int i =>obtain rfl:x=.int i:=Y;obtain rfl:y=.int i:=W;refine⟨_,false,.int i,rfl,_,false,.int i,rfl,_,false,.int i,rfl,_,false,.int i,rfl,_,false,.int i,rfl,_,false,.int i,rfl,_,true,.int i,jv K _,_,true,.int i,jv K _,?_⟩;show Q (.bl (decide (i=i))) H;rw[aM rfl];exact k H (iM.refl H)
   | str z =>obtain rfl:x=.str z:=Y;obtain rfl:y=.str z:=W;refine⟨_,false,.str z,rfl,_,false,.str z,rfl,_,false,.str z,rfl,_,false,.str z,rfl,_,true,.str z,jv K _,_,true,.str z,jv K _,_,false,.str z,rfl,_,false,.str z,rfl,?_⟩;show Q (.bl (decide (z=z))) H;rw[aM rfl];exact k H (iM.refl H)
   | iz =>obtain rfl:x=.iz:=Y;obtain rfl:y=.iz:=W;refine⟨_,false,.iz,rfl,_,false,.iz,rfl,_,false,.iz,rfl,_,false,.iz,rfl,_,false,.iz,rfl,_,false,.iz,rfl,_,false,.iz,rfl,_,false,.iz,rfl,?_⟩;exact k H (iM.refl H)
   | lst ds =>
    obtain⟨p,vs,rfl,J,L⟩:=Y;obtain⟨q,ws,rfl,G,qq⟩:=W;obtain⟨m,rfl⟩:∃ m,n=m+1:=⟨n - 1,by unfold dep at hd;lia⟩;have G8:yR ds<=m:=by unfold dep at hd;lia
    have hw1:ds.length<sizeLine:=by unfold Oh at Z;lia
    have O:yC ds<sizeLine:=by unfold Oh at Z;lia
    have len:vs.length=ws.length:=by rw[L.len,qq.len]
    refine⟨_,false,kM.lst G,rfl,_,false,kM.lst J,rfl,_,true,kM.lst G,jv K _,_,true,kM.lst G,jv K _,_,true,kM.lst J,jv K _,_,false,kM.lst G,rfl,_,false,kM.lst J,rfl,?_⟩;refine⟨_,.inl J,_,.inl G,?_⟩;refine lY (λ_=>?_) (λh=>(h (by rw[len])).elim);refine⟨false,_,_,J,G,?_⟩;refine HJ len (λi ys H'=>ys=List.replicate i (V.bl true)/\iM H H') ⟨rfl,iM.refl H⟩ (λi ys H' h=>⟨h.2 _ _ J,h.2 _ _ G⟩) ?_ ?_
    .rintro i x' y' ys H' T' hi ex ey ⟨rfl,S⟩ hT;refine⟨_,gc,rfl,Ext.WJ,?_⟩;obtain⟨d1,e1,i1⟩:=L.get ex;obtain⟨d2,e2,i2⟩:=qq.get ey;rw[e1]at e2;cases e2;have U:iM H (upd H' T' (.tup [x',y'])):=S.trans (iM.upd hT);refine⟨d1,aX (x6 e1) G8,ck (wU e1) O,i1.mono U _ _,i2.mono U _ _,λH3 S3=>?_⟩;exact cnx hi (by rw[aT];have:=L.len;lia) ⟨by rw[List.replicate_succ'],U.trans S3⟩
    .rintro ys H' ⟨rfl,S⟩ D hD;refine⟨List.replicate vs.length true,by rw[gc,List.map_replicate],?_⟩;have e:(List.replicate vs.length true).all id=true:=by rw[c7];intro b hb;rw[(List.mem_replicate.mp hb).2];rfl
     show Q (.bl ((List.replicate vs.length true).all id)) (upd H' D (.lst (List.replicate vs.length (V.bl true))));rw[e];exact k _ (S.trans (iM.upd hD))
   | tup ds =>
    obtain⟨p,vs,rfl,J,L⟩:=Y;obtain⟨q,ws,rfl,G,qq⟩:=W;obtain⟨m,rfl⟩:∃ m,n=m+1:=⟨n - 1,by unfold dep at hd;lia⟩;have G8:yR ds<=m:=by unfold dep at hd;lia
    have hw1:ds.length<sizeLine:=by unfold Oh at Z;lia
    have O:yC ds<sizeLine:=by unfold Oh at Z;lia
    have len:vs.length=ws.length:=by rw[L.len,qq.len]
    refine⟨_,false,kM.tup G,rfl,_,false,kM.tup J,rfl,_,false,kM.tup G,rfl,_,true,kM.tup G,jv K _,_,false,kM.tup G,rfl,_,false,kM.tup J,rfl,_,true,kM.tup G,jv K _,_,true,kM.tup J,jv K _,?_⟩;refine⟨_,.inr J,_,.inr G,?_⟩;refine lY (λ_=>?_) (λh=>(h (by rw[len])).elim);refine⟨true,_,_,J,G,?_⟩;refine HJ len (λi ys H'=>ys=List.replicate i (V.bl true)/\iM H H') ⟨rfl,iM.refl H⟩ (λi ys H' h=>⟨h.2 _ _ J,h.2 _ _ G⟩) ?_ ?_
    .rintro i x' y' ys H' T' hi ex ey ⟨rfl,S⟩ hT;refine⟨_,gc,rfl,Ext.WJ,?_⟩;obtain⟨d1,e1,i1⟩:=L.get ex;obtain⟨d2,e2,i2⟩:=qq.get ey;rw[e1]at e2;cases e2;have U:iM H (upd H' T' (.tup [x',y'])):=S.trans (iM.upd hT);refine⟨d1,aX (x6 e1) G8,ck (wU e1) O,i1.mono U _ _,i2.mono U _ _,λH3 S3=>?_⟩;exact cnx hi (by rw[aT];have:=L.len;lia) ⟨by rw[List.replicate_succ'],U.trans S3⟩
    .rintro ys H' ⟨rfl,S⟩ D hD;refine⟨List.replicate vs.length true,by rw[gc,List.map_replicate],?_⟩;have e:(List.replicate vs.length true).all id=true:=by rw[c7];intro b hb;rw[(List.mem_replicate.mp hb).2];rfl
     show Q (.bl ((List.replicate vs.length true).all id)) (upd H' D (.lst (List.replicate vs.length (V.bl true))));rw[e];exact k _ (S.trans (iM.upd hD))
  .cases h
theorem GP{f:ai}{fd:ag}(F:jY K "_law_same" "_law_same" s_same f fd)(T:lR mg)(hm:mg "_law_same"=some (.ref f))(hk:W.keepIn K (.ref f)=true)(hb:Binds K fd ["_law_found","_law_due"] []):∀ n,gD P w K mg fF kO (n+1) f fd ["_law_found","_law_due"] (uD n)
 |0=>CL 0 F T ⟨f,fd,⟨λ_ _ _ _ h=>h.elim,λ_ _ _ _ _ _ _ _ _ _ _ _ _ h=>h.elim⟩,hm,hk,hb⟩
 |n+1=>CL (n+1) F T ⟨f,fd,GP F T hm hk hb n,hm,hk,hb⟩
def IQ(F:jY K "_law_barred" "_law_barred" ni f fd)(T:lR mg)  : gD P w K mg fF kO 1 f fd (pA ni) (iL wJ):=by
 refine F.pE qW (λds μ Kd h=>by unfold wJ at h;split at h <;> first | rfl | exact h.elim) (λjc A fN s H E hr=>⟨_,(fK (mU bJ rfl (jb rfl T.range (a1 (Ef (zK T (dv 0)) fP))) (qT 2 qW.nd)
  (fK (qS 3 qW.nd (p5 mulC qi gR (Ef (jC (dv 0) (m6 (dv 2) fP)) (jC (dv 0) (dv 2)))))
  (fU (jh (zb (jT (ny (anyC rfl) KY (by rfl) T.any PyProof.Rows.boot_any (a1 (NG false (sH (N:=["_law_text","_law_old","_law_border","_law_k","_law_part"]) (js:=[none,none,some 0,some 2,some 3]) qW (by decide +kernel)) (iZ (fZ (fY 0) (fH 0) (fZ (fY 1) (fH 1) i7 fT) (fL (fH 1) fT))) (iG (fL (fH 0) (fL (fH 1) fT))) (jI (dv 1)) (λ_ _ _ nd=>(ic (n:=2) rfl (fQ (qN 0 nd) (fQ (qN 1 nd) gH)))) (λ_ _ _=>iY) (λ_ _ _=>(DQ XF xk (m5 false (dv 0) (mh (jC (dv 2) (dv 3))) (mh (jC (dv 2) (m6 (dv 3) fP)))) (dv 4) (jm _))))))))
  (fU (gw (kU (a2 (jC (dv 0) (dv 2)) (jC (dv 0) (m6 (dv 2) fP))))))
  ig))))
  (fU (gw vG))),λds μ Kd hm hl h=>?_⟩)
 unfold wJ at h;split at h
 .rename_i bd y;obtain⟨n,cs,ts,rfl,ey,hc,h1,h2,G,ht,kk⟩:=h;obtain⟨es,L⟩:∃ es,es=fC n cs:=⟨_,rfl⟩;rw[<- L]at kk ⊢
  have W:es.Pairwise (·<·):=by rw[L];exact iK h1 G
  have Z:∀ x∈es,0<=x/\x<=n:=λx hx=>jx h1 G (by rw[<- L];exact hx);have o3:es.length=cs.length+2:=by rw[L,gv]
  have U:((es.map D.int).length:Int)=(es.length:Nat):=by rw[iE]
  refine⟨by rw[U];lia,by rw[U];lia,?_⟩;have Xm:(((es.map D.int).length:Int) - 1).toNat=(BX es).length:=by unfold BX;rw[U,List.length_zip,List.length_tail];lia
  rw[Xm];refine iU (λds ρ O=>∃(i:Nat) (a b:aq D),ds=(kr 0 (BX es).length).drop i/\iQ es ts=((BX es).drop i).find? (bad ts)/\ρ=[some (.lst (es.map D.int)),some y,a,b]/\O=μ) ⟨0,none,none,rfl,rfl,rfl,rfl⟩ ?_ ?_
  .rintro d wK ρ O ⟨i,a,b,e,hf,rfl,rfl⟩;refine⟨trivial,λnx pG=>?_⟩;have hi:i<(BX es).length:=by
    by_cases q:i<(BX es).length
    .exact q
    .rw[bC (by rw[iF];lia)]at e;cases e
   rw[bu (by rw[iF];exact hi)]at e;cases e;have ed:(kr 0 (BX es).length)[i]'(by rw[iF];exact hi)=.int i:=by unfold kr;simp
   rw[ed];have hlz:(BX es).length=es.length - 1:=by unfold BX;rw[List.length_zip,List.length_tail];lia
   obtain⟨u,hu⟩:∃ u,es[i]?=some u:=⟨es[i]'(by lia),jo _⟩;obtain⟨v,J⟩:∃ v,es[i+1]?=some v:=⟨es[i+1]'(by lia),jo _⟩;have hp:(BX es)[i]=(u,v):=by have q:=GJ (es:=es) (i:=i);rw[hu,J,jo hi]at q;exact aN q
   have huv:=l6 W hu J (bG _);have Y:=Z u (mR hu);have My:=Z v (mR J);have e1:lS (es.map D.int) (i:Int)=some (.int u):=j8 hu;have e2:lS (es.map D.int) ((i:Int)+1)=some (.int v):=j8 (i:=i+1) J;refine fO e2 (fO e1 ⟨111,rfl,by lia,by lia,?_⟩);refine fO ey ⟨by rw[iE];exact sz (by have:=ht.nH;lia),?_⟩;refine kH (vz ey) mO (λt=>.bl (!decide (120∈oE t.1 u v))) (λt wz K' k'=>?_) ?_
   .have hz:=ht.ok t wz;refine⟨rfl,?_⟩;refine fO e1 (fO e2 ⟨by rw[kE];exact sz (by lia),?_⟩);show K' (some (.bl (false != decide (txt (oE t.1 u v)=txt (List.replicate (v - u).toNat 111))))) O;rw[V0,JD hz.2.1 Y.1 (by lia) (by lia)];exact k'
   .refine⟨ts.map λt=>!decide (120∈oE t.1 u v),by show some _=_;rw[bx];rfl,?_⟩
    .have eb:(!(ts.map λt=>!decide (120∈oE t.1 u v)).any id)=bad ts (u,v):=by unfold bad;rw[List.any_map,List.not_any_eq_all_not];congr 1;funext t;simp
     rw[bu hi,cw,hp,<- eb]at hf
     refine Qg (b:=!(ts.map λt=>!decide (120∈oE t.1 u v)).any id) (λhb=>?_) (λhb=>?_)
     .refine fO e1 (fO e2 ⟨zs,.keep ?_⟩);rw[hb]at hf;rw[hf]at kk;exact kk
     .rw[hb]at hf;exact pG _ _ ⟨i+1,_,_,rfl,hf,rfl,rfl⟩
  .rintro ρ O ⟨i,a,b,e,hf,rfl,rfl⟩;refine⟨trivial,.keep ?_⟩;have hi:(BX es).length<=i:=by have:=cf List.length e;rw[bD,iF]at this;simp at this;lia
   rw[bC hi]at hf;rw[hf]at kk;exact kk
 .cases h
def CQ(F:jY K "farthest" "farthest" lg f fd)(T:lR mg)(Z:sA P w K mg fF):gD P w K mg fF kO 2 f fd (pA lg) (iL rq):=by
 refine F.pE nQ (λds μ Kd h=>by unfold rq at h;split at h <;> first | rfl | exact h.elim) (λjc A fN s H E U=>⟨_,(fK (qS 4 nQ.nd (Bd dD PySem.F.slot_str_find PySem.F.type_str_find XB OU (dv 2) (a2 gR (dv 3))))
  (fK (qS 5 nQ.nd (QF (VM (dv 4) fP) (dv 0) (dv 4)))
  (fU (gw (ny (PQ rfl) vX (by rfl) T.max b8 (a1 (m6 (jL false (a1 (dv 3))) (Eg false (sH (N:=["place","clean_to"]) (js:=[none,some 5]) nQ (by decide +kernel)) (jI (qC Z U (a2 (dv 0) (dv 1)))) (λ_ _ _ nd=>(qN 0 nd)) (λ_ _ _=>(o8 (O9 (dv 0) (dv 1)))) (λ_ _ _=>(dv 0)))))))))),λds μ Kd hm hl h=>?_⟩)
 unfold rq at h;split at h
 .rename_i n x z e;obtain⟨cs,ex,hc,hn,G7,W,Y,h1,L,kk⟩:=h;have len:(z.cps.toList.length:Int)=n:=by rw[<- hn];simp[Str.length]
  refine⟨rfl,120,rfl,Y,by lia,λr U=>?_⟩;obtain⟨q1,q2⟩:=U.cl W (by lia);have o3:(fC n cs).length=cs.length+2:=gv n cs;refine kT (λG=>?_) (λG=>?_);all_goals
   refine⟨zs,cs,ex,hc,by rw[iE];exact sz (by lia),?_⟩
  .have ct:=q1 G;refine iP trivial (rN λi=>decide (i<=n)) (λd hd K' J=>?_) ?_
   .obtain⟨i,hi,rfl⟩:=List.mem_map.mp hd;refine kT (λg=>?_) (λg=>?_)
    .exact wu (aM g) J
    .exact tF (by simp[g]) J
   .rw[tT];have fl:=df (λi=>decide (i<=n)) (fC n cs);refine⟨by rw[iE];exact sz (by show 1+_<=_;lia),?_⟩;refine⟨e::(fC n cs).filter λi=>decide (i<=n),rfl,by simp,λm a b=>.keep ?_⟩;rw[Fj W Y (by lia) L (m:=m) ⟨_,ct,?_,?_,?_⟩]
    .exact kk
    .rcases List.mem_cons.mp a with q | q
     .rw[q];exact L
     .exact(List.mem_filter.mp q).1
    .rcases List.mem_cons.mp a with q | q
     .lia
     .have:=cC (List.mem_filter.mp q).2;lia
    .exact λy O Jn=>b y (nM _ (List.mem_filter.mpr ⟨O,aM (by lia)⟩))
  .obtain⟨ct,hrt⟩:=q2 G;refine iP trivial (rN λi=>decide (i<=r)) (λd hd K' J=>?_) ?_
   .obtain⟨i,hi,rfl⟩:=List.mem_map.mp hd;refine kT (λg=>?_) (λg=>?_)
    .exact wu (aM g) J
    .exact tF (by simp[g]) J
   .rw[tT];have fl:=df (λi=>decide (i<=r)) (fC n cs);refine⟨by rw[iE];exact sz (by show 1+_<=_;lia),?_⟩;refine⟨e::(fC n cs).filter λi=>decide (i<=r),rfl,by simp,λm a b=>.keep ?_⟩;rw[Fj W Y (by lia) L (m:=m) ⟨_,ct,?_,?_,?_⟩]
    .exact kk
    .rcases List.mem_cons.mp a with q | q
     .rw[q];exact L
     .exact(List.mem_filter.mp q).1
    .rcases List.mem_cons.mp a with q | q
     .have:=ct.1;lia
     .have:=cC (List.mem_filter.mp q).2;lia
    .exact λy O Jn=>b y (nM _ (List.mem_filter.mpr ⟨O,aM (by lia)⟩))
 .cases h
def AG(F:jY K "take_rows" "take_rows" jO f fd)(T:lR mg)(W:sA P w K mg fF)(FU:ya P w K mg fF):gD P w K mg fF kO 3 f fd (pA jO) (iL rp):=by
 refine F.pE ph (λds μ Z h=>by unfold rp at h;split at h <;> first | rfl | exact h.elim) (λjc A fN s H E O=>⟨_,(fK (qS 3 ph.nd (qC W O (a2 (dv 0) (dv 1))))
  (fU (gw (NG false (sH (N:=["text","age","places","size","cuts"]) (js:=[none,none,some 3,some 0,some 1]) ph (by decide +kernel)) (iZ (fZ (fY 0) (fH 0) (fZ (fY 1) (fH 1) i7 fT) (fL (fH 1) fT))) (iG (fL (fH 0) (fL (fH 1) fT))) (jI (dv 2)) (λ_ _ _ nd=>(ic (n:=2) rfl (fQ (qN 0 nd) (fQ (qN 1 nd) gH)))) (λ_ _ _=>iY) (λ_ _ _=>(kU (a2 (dv 1) (Eg false (wN (xsc:=(fM jO)) (N:=["end","size","cuts","text"]) (js:=[none,some 3,some 4,some 0]) rfl (by decide +kernel)) (jI (dv 2)) (λ_ _ _ nd=>(qN 0 nd)) (λ_ _ _=>iY) (λ_ _ _=>(qC FU O (fJ (dv 1) (fJ (dv 2) (fJ (dv 3) (fJ (dv 0) g9)))))))))))))),λds μ Z hm hl h=>?_⟩)
 unfold rp at h;split at h
 .rename_i n x y;obtain⟨cs,ts,ex,U,S,kk⟩:=h;have o3:(fC n cs).length=cs.length+2:=gv n cs;have nH:=S.nH;have ft:=S.takes.nH;refine⟨cs,ex,S.nH,?_⟩;refine fO U ⟨by rw[iE];exact sz (by lia),?_⟩;refine iP (vz U) (PR (mV (fC n cs))) (λd hd K' Y=>?_) ?_
  .obtain⟨t,ht,rfl⟩:=List.mem_map.mp hd;have L:=S.takes.ok t ht;refine⟨rfl,by rw[iE];exact sz (by lia),?_⟩;refine iP trivial (PU λe=>.int (jK (fC n cs) t.1 e)) (λd hd K'' G=>?_) ?_
   .obtain⟨e,he,rfl⟩:=List.mem_map.mp hd;have J:=jx S.n1 S.jD he;exact⟨cs,ex,S.nH,by rw[kE];exact L.1,S.n2,by rw[sL];exact L.2.1,J.1,J.2,he,by rw[sL];exact G⟩
   .refine⟨zs,?_⟩;rw[He,show(fC n cs).map (λe=>D.int (jK (fC n cs) t.1 e))=(yG (fC n cs) t).map D.int by unfold yG;rw[bx];rfl];exact Y
  .refine .keep ?_;rw[A0];exact kk
 .cases h
def AK(F:jY K "clean_row" "clean_row" kq f fd)(T:lR mg)  : gD P w K mg fF kO 1 f fd (pA kq) (iL rA):=by
 refine F.pE kF (λds μ W h=>by unfold rA at h;split at h <;> first | rfl | exact h.elim) (λZ A fN s H E hr=>⟨_,(fK (qS 3 kF.nd (yS qu (mv (m:=false)) (by rfl) T.list ba (a1 (dv 0))))
  (fK (mU bJ rfl (jI (dv 1)) ⟨(ic (n:=2) rfl (fQ (qN 4 kF.nd) (fQ (qN 5 kF.nd) gH))),(iZ (fZ (fY 4) (fH 4) (fZ (fY 5) (fH 5) i7 fT) (fL (fH 5) fT))),(iG (fL (fH 4) (fL (fH 5) fT)))⟩
  (fU (jh (O9 (dv 4) (dv 2))
  (fU (Z9 3 false kF.nd (sH (N:=["far","other"]) (js:=[none,none]) kF (by decide +kernel)) (iZ (fZ (fY 0) (fH 0) (fZ (fY 1) (fH 1) i7 fT) (fL (fH 1) fT))) (iG (fL (fH 0) (fL (fH 1) fT))) (Mv rfl T.zip (a2 (dv 3) (dv 5))) (λ_ _ _ nd=>(ic (n:=2) rfl (fQ (qN 0 nd) (fQ (qN 1 nd) gH)))) (λ_ _ _=>iY) (λ_ _ _=>(ny (L9 rfl) xi (by rfl) T.max b8 (a2 (dv 0) (dv 1))))))
  ig)))
  (fU (gw (dv 3))))),λds μ W hm hl h=>?_⟩)
 unfold rA at h;split at h
 .rename_i x r a;obtain⟨es,ts,ex,rfl,L,U,kk⟩:=h;refine fO ex ?_;refine iU (λds ρ G=>∃(us:ao Tk) (tl:ao Int) (u v:aq D),ds=us.map (mV es)/\us.foldl (su es a) tl=jl es ts a/\tl.length<=2000/\ρ=[some x,some (.lst (ts.map (mV es))),some (.int a),some (.lst (tl.map D.int)),u,v]/\G=μ) ⟨ts,es,none,none,rfl,NK es ts a,L,rfl,rfl⟩ ?_ ?_
  .rintro d wK ρ G ⟨us,tl,u,v,e,hf,oB,rfl,rfl⟩;refine⟨trivial,λnx J=>?_⟩;cases us with
   |nil=>cases e
   | cons t us =>
    cases e;refine⟨rfl,?_⟩;rw[cZ]at hf;refine kT (λg=>?_) (λg=>?_)
    .unfold su at hf;rw[aB g]at hf;have Y:(yG es t).length=es.length:=by unfold yG;rw[iE]
     refine⟨by rw[bO,iE,iE];exact sz (by lia),?_⟩;refine iP ⟨trivial,trivial⟩ (Ja λa b=>.int (max a b)) (λd hd K' O=>?_) ?_
     .obtain⟨p,hp,q,hq,rfl⟩:=FY hd;exact⟨rfl,O⟩
     .rw[Hd,<- El D.int max];exact J _ _ ⟨us,List.zipWith max tl (yG es t),_,_,rfl,hf,by rw[bO];lia,rfl,rfl⟩
    .unfold su at hf;rw[aC g]at hf;exact J _ _ ⟨us,tl,_,_,rfl,hf,oB,rfl,rfl⟩
  .rintro ρ G ⟨us,tl,u,v,e,hf,oB,rfl,rfl⟩;cases us with
   | nil =>refine⟨trivial,.keep ?_⟩;rw[show jl es ts a=tl from hf.symm]at kk;exact kk
   |cons t us=>cases e
 .cases h
def yI(F:jY K "next_reach" "next_reach" jQ f fd)(T:lR mg)(Y:qI P w K mg fF):gD P w K mg fF kO 2 f fd (pA jQ) (iL A4):=by
 refine F.pE kQ (λds μ Kd h=>by unfold A4 at h;split at h <;> first | rfl | exact h.elim) (λjc A fN s H E W=>⟨_,(fK (qS 4 kQ.nd (QI (sH (N:=["at","end"]) (js:=[none,none]) kQ (by decide +kernel)) rfl (iZ (fZ (fY 0) (fH 0) (fZ (fY 1) (fH 1) i7 fT) (fL (fH 1) fT))) (iG (fL (fH 0) (fL (fH 1) fT))) rfl (AW rfl T.enumerate (a1 (dv 0))) (λ_ _ _=>(ic (n:=2) rfl (fQ (qN 0 (show List.Nodup (["at","end"]:ao Str) by decide +kernel)) (fQ (qN 1 (show List.Nodup (["at","end"]:ao Str) by decide +kernel)) gH)))) (λ_ _ _=>iY) (λ_ _ _=>(dv 1)) (λ_ _ _=>(dv 0))))
  (fK (qS 5 kQ.nd (qC Y W (a3 (dv 0) (dv 1) (dv 3))))
  (fU (gw (NG true (sH (N:=["far","middle","before","where"]) (js:=[none,none,some 2,some 4]) kQ (by decide +kernel)) (iZ (fZ (fY 0) (fH 0) (fZ (fY 1) (fH 1) i7 fT) (fL (fH 1) fT))) (iG (fL (fH 0) (fL (fH 1) fT))) (Mv rfl T.zip (a2 (dv 5) (dv 2))) (λ_ _ _ nd=>(ic (n:=2) rfl (fQ (qN 0 nd) (fQ (qN 1 nd) gH)))) (λ_ _ _=>iY) (λ_ _ _=>(ny (L9 rfl) xi (by rfl) T.max b8 (a2 (dv 0) (jC (dv 2) (HE (tK W) (dv 3) (dv 1) (λ_ _=>rfl))))))))))),λds μ Kd hm hl h=>?_⟩)
 unfold A4 at h;split at h
 .rename_i x r y a;obtain⟨es,ts,G,ex,rfl,Z,O,nd,U,ok,kk⟩:=h;have lb:=ok.len;refine fO ex ⟨by rw[m8,iE];exact sz (by lia),?_⟩;rw[Ni];refine Ce (λm=>vz (AQ ex)) (λi e fX K' L=>⟨rfl,L⟩) es 0 [] nd (λ_ h=>nomatch h) ?_;refine⟨es,ts,ex,rfl,Z,O,?_⟩;refine fO U ⟨by rw[bO,iE,iE];exact sz (by lia),?_⟩;refine iP ⟨trivial,vz U⟩ (Ja λf m=>.int (max f (rowAt es G m))) (λd hd K' L=>?_) ?_
  .obtain⟨f,hf,m,hmm,rfl⟩:=FY hd;refine⟨rfl,?_⟩;have J:=ok.mem m hmm;have e1:xY (((rP 0 es).map (·.1)).zip ((rP 0 es).map (·.2))) (kI m)=some (.int (es.idxOf m:Nat)):=by rw[zip_parts,yZ J,Nat.zero_add]
   have e2:lS (G.map D.int) ((es.idxOf m:Nat):Int)=some (.int (rowAt es G m)):=j8 (r9 ok J);exact fO e1 (Nz U e2 L)
  .rw[Hd,show List.zipWith (λf m=>D.int (max f (rowAt es G m))) (jl es ts a) G=(lK es ts G a).map D.int from(El D.int (λf m=>max f (rowAt es G m)) _ _).symm];exact .keep kk
 .cases h
def CK(F:jY K "youngest" "youngest" k9 f fd)(T:lR mg)  : gD P w K mg fF kO 1 f fd (pA k9) (iL rm):=by
 refine F.pE vm (λds μ O h=>by unfold rm at h;split at h<;>first|rfl|exact h.elim) (λU A fN s H E W=>⟨_,(fU (gw (U8 rfl (by rfl) T.min (NG false (sH (N:=["text","age"]) (js:=[none,none]) vm (by decide +kernel)) (iZ (fZ (fY 0) (fH 0) (fZ (fY 1) (fH 1) i7 fT) (fL (fH 1) fT))) (iG (fL (fH 0) (fL (fH 1) fT))) (jI (dv 0)) (λ_ _ _ nd=>(ic (n:=2) rfl (fQ (qN 0 nd) (fQ (qN 1 nd) gH)))) (λ_ _ _=>iY) (λ_ _ _=>(dv 1))) fP))),λds μ O Y hl h=>?_⟩);unfold rm at h;split at h
 .rename_i y;obtain⟨ts,G,L,kk⟩:=h;refine fO G ⟨by rw[iE];exact sz (by lia),?_⟩;refine iP (vz G) (PR λt=>.int t.2) (λd hd Z J=>?_) ?_
  .obtain⟨t,ht,rfl⟩:=List.mem_map.mp hd;exact⟨rfl,J⟩
  .rw[A0];refine⟨ts.map (·.2),by unfold lv;rw[bx];rfl,?_⟩;split
   .rename_i e;refine .keep ?_;have:k8 ts=0:=by unfold k8;rw[e]
    rw[this]at kk;exact kk
   .exact λm a b=>.keep (by rw[Km a b];exact kk)
 .cases h
def T8(F:jY K "_law_far" "_law_far" xr f fd)(T:lR mg)  : gD P w K mg fF kO 1 f fd (pA xr) (iL Qw):=by
 refine F.pE Aw (λds μ Kd h=>by unfold Qw at h;split at h <;> first | rfl | exact h.elim) (λjc A fN s H E hr=>⟨_,(fK (qS 3 Aw.nd (dv 2))
  (fK (Gy bJ (PW.pt (Cm (VM (dv 3) (zK T (dv 1))) (xa (CB (jC (dv 1) (dv 3)) gR))))
  (fU (Cs (i:=3) Aw.nd rfl lo fP tJ xj)))
  (fU (gw (ny (PQ rfl) vX (by rfl) T.max b8 (a1 (Eg false (sH (N:=["_law_one","_law_end","_law_at"]) (js:=[none,some 2,some 3]) Aw (by decide +kernel)) (jI (dv 0)) (λ_ _ _ nd=>(qN 0 nd)) (λ_ _ _=>(o8 (PW.pt (Cm (O9 (dv 1) (dv 0)) (xa (O9 (dv 0) (dv 2))))))) (λ_ _ _=>(dv 0))))))))),λds μ Kd hm hl h=>?_⟩)
 unfold Qw at h;split at h
 .rename_i b z e;obtain⟨es,rfl,o3,hz,Z,h0,h1,he,kk⟩:=h;have len:z.cps.toList.length=z.length:=by simp[Str.length]
  have ct:=uX Z (e:=e.toNat) (by lia);refine⟨λm ρ L=>∃ at_:Nat,m=sv z.cps.toList e.toNat - at_/\e.toNat<=at_/\at_<=sv z.cps.toList e.toNat/\ρ=[some (.lst (es.map D.int)),some (.str z),some (.int e),some (.int (at_:Int))]/\L=μ,⟨_,e.toNat,rfl,ar _,ct.1,by rw[cz h0];rfl,rfl⟩,?_⟩;rintro m ρ L ⟨at_,rfl,g1,g2,rfl,rfl⟩;have J:∀ K:Bool->MS->Prop,K (decide (at_<sv z.cps.toList e.toNat)) L->Nn (pJ (wL (vT λi j=>D.bl (decide (i<j))) (vS 3) (vI Qv (ue (vS 1) JC))))
   (pJ (wL (NF false) (wL X5 (vS 1) (vS 3)) (dC (D.str (Str.ofString "o")))))
   [some (D.lst (List.map D.int es)),some (D.str z),some (D.int e),some (D.int ↑at_)] L K:=by
   intro K k;refine⟨sz (by lia),kT (c:=(at_:Int)<(z.length:Nat)) (λU=>?_) (λU=>?_)⟩
   .have hat:at_<z.cps.toList.length:=by lia
    have ga:z.cps.toList[at_]?=some (z.cps.toList[at_]):=jo hat
    have ea:lS z.cps.toList (at_:Int)=some (z.cps.toList[at_]):=jA ga
    refine⟨sz (by lia),fO ea ?_⟩
    by_cases q:at_<sv z.cps.toList e.toNat
    .have:=ct.2.2.1 at_ g1 q;rw[ga]at this;rw[aN this];rw[aM q]at k;exact k
    .have G:sv z.cps.toList e.toNat=at_:=by lia
     have:=ct.2.2.2
     rw[G,ga]at this
     rcases this with Y|Y
     .lia
     .rw[aN Y];rw[aW q]at k;exact k
   .rw[aW (by have:=ct.2.1;lia)]at k;exact k
  refine J _ ?_;refine kT (λU=>?_) (λU=>?_)
  .exact⟨_,by lia,at_+1,rfl,by lia,by lia,rfl,rfl⟩
  .refine⟨by rw[iE];exact sz (by lia),?_⟩;refine iP trivial (rN λi=>decide (e<=i)&&decide (i<=(at_:Int))) (λd hd K' W=>?_) ?_
   .obtain⟨i,hi,rfl⟩:=List.mem_map.mp hd;refine kT (c:=e<=i) (λO=>?_) (λO=>?_)
    .refine kT (c:=i<=(at_:Int)) (λp2=>?_) (λp2=>?_)
     .exact wu (by simp[O,p2]) W
     .exact tF (by simp[p2]) W
    .exact tF (by simp[O]) W
   .rw[tT];have Zl:e∈es.filter λi=>decide (e<=i)&&decide (i<=(at_:Int)):=List.mem_filter.mpr ⟨he,by simp;lia⟩;refine⟨_,rfl,(λq=>by rw[q]at Zl;cases Zl),λm a b=>.keep ?_⟩;have G:sv z.cps.toList e.toNat=at_:=by lia
    rw[G]at ct;obtain⟨a1,a2⟩:=List.mem_filter.mp a;simp only[bE,bq]at a2;rw[Fj Z h0 (by lia) he (m:=m) ⟨_,ct,a1,a2.2,λy hy Jn=>?_⟩]
    .exact kk
    .by_cases q:e<=y
     .exact b y (List.mem_filter.mpr ⟨hy,by simp;lia⟩)
     .lia
 .cases h
def T5(F:jY K "_law_own" "_law_own" xp f fd)(T:lR mg)(YK:SD P w K mg fF):gD P w K mg fF kO 2 f fd (pA xp) (iL Qu):=by
 refine F.pE Ar (λds μ Kd h=>by unfold Qu at h;split at h <;> first | rfl | exact h.elim) (λjc A fN s H E hr=>⟨_,(fK (qS 3 Ar.nd (jL true g9))
  (fK (mU bJ rfl (jI (dv 0)) (qT 4 Ar.nd)
  (fU (Ey (Bd cW eB eA BD uE (dv 3) (a1 (ny (PQ rfl) vX (by rfl) T.max b8 (a1 (m6 (jL false (a1 (dv 4))) (NG false (sH (N:=["_law_text","_law_old","_law_border","_law_end","_law_age"]) (js:=[none,none,some 0,some 4,some 2]) Ar (by decide +kernel)) (iZ (fZ (fY 0) (fH 0) (fZ (fY 1) (fH 1) i7 fT) (fL (fH 1) fT))) (iG (fL (fH 0) (fL (fH 1) fT))) (jI (dv 1)) (λ_ _ _ nd=>(ic (n:=2) rfl (fQ (qN 0 nd) (fQ (qN 1 nd) gH)))) (λ_ _ _=>(o8 (O9 (dv 1) (dv 4)))) (λ_ _ _=>(qC YK hr (a3 (dv 2) (dv 0) (dv 3)))))))))))))
  (fU (gw (dv 3))))),λds μ Kd hm hl h=>?_⟩)
 unfold Qu at h;split at h
 .rename_i b y a;obtain⟨n,cs,ts,rfl,O,S,kk⟩:=h;have nH:=S.nH;have ft:=S.takes.nH;have Z:(fC n cs).length=cs.length+2:=gv n cs;have J:∀ x∈fC n cs,0<=x/\x<=n:=λx hx=>jx S.n1 S.jD hx;obtain⟨es,he⟩:∃ es,es=fC n cs:=⟨_,rfl⟩;rw[<- he]at kk Z J ⊢
  refine⟨zs,?_⟩;refine iU (λds ρ G=>∃(i:Nat) (v:aq D),ds=(es.drop i).map D.int/\ρ=[some (.lst (es.map D.int)),some y,some (.int a),some (.mr μ.length),v]/\G=μ++[.lst (((es.take i).map (ky es ts a)).map D.int)]) ⟨0,none,rfl,rfl,rfl⟩ ?_ ?_
  .rintro d wK ρ G ⟨i,v,e,rfl,rfl⟩;refine⟨trivial,λnx W=>?_⟩;have hi:i<es.length:=by
    by_cases q:i<es.length
    .exact q
    .rw[bC (by lia)]at e;cases e
   rw[bu hi]at e;cases e;have U:es[i]∈es:=bI hi;have h2:=J _ U;refine⟨EZ j6,zs,?_⟩;refine fO (AQ O) ⟨by rw[iE];exact sz (by lia),?_⟩;refine iP (vz (AQ O)) (Dj (λt=>decide (t.2<=a)) λt=>.int (jK es t.1 es[i])) (λd hd K' L=>?_) ?_
   .obtain⟨t,ht,rfl⟩:=List.mem_map.mp hd;have hz:=S.takes.ok t ht;refine⟨rfl,kT (λq=>?_) (λq=>Qc (by simp[q]) L)⟩;have n2:=S.n2;exact⟨es,rfl,by lia,by rw[kE];lia,by rw[sL];exact hz.2.1,h2.1,by rw[kE];lia,U,by rw[sL];exact Qb (by simp[q]) L⟩
   .rw[xQ];have fl:=df (λt:Tk=>decide (t.2<=a)) ts;refine⟨by rw[iE];exact sz (by show 1+_<=_;lia),?_⟩;refine⟨es[i]::(ts.filter λt=>decide (t.2<=a)).map λt=>jK es t.1 es[i],(by show some (D.int es[i]::_)=_;rw[aw,bx];rfl),by simp,λm Y p2=>?_⟩;have em:m=ky es ts a es[i]:=by rw[lJ];exact Qr Y p2
    refine fO j6 ⟨YV (by rw[iE,iE,bH];lia),?_⟩;refine W _ _ ⟨i+1,_,rfl,rfl,?_⟩;have et:es.take (i+1)=es.take i++[es[i]]:=by rw[List.take_succ,jo hi];rfl
    rw[qV,et,em,bT,bT];rfl
  .rintro ρ G ⟨i,v,e,rfl,rfl⟩;refine⟨trivial,?_⟩;have hi:es.length<=i:=by have:=cf List.length e;rw[iE,bD]at this;simp at this;lia
   rw[bQ hi];refine Fz.lst (ar _) (mn j6) (xG _) (nX hm) ?_;rw[bZ];exact kk
 .cases h
def Px(F:jY K "_law_rows" "_law_rows" rV f fd)(T:lR mg)(Od:NR P w K mg fF):gD P w K mg fF kO 3 f fd (pA rV) (iL Ho):=by
 refine F.pE pj (λds μ Kd h=>by unfold Ho at h;split at h <;> first | rfl | exact h.elim) (λjc A fN s H E hr=>⟨_,(fK (qS 3 pj.nd (jL true g9))
  (fK (mU bJ rfl (jb rfl T.range (a1 (dv 2))) (qT 4 pj.nd)
  (fK (qS 5 pj.nd (qC Od hr (a3 (dv 0) (dv 1) (dv 4))))
  (yf (jh (RL (dv 4) fP)
  (fK (qS 6 pj.nd (jC (dv 3) (DP fP)))
  (fU (qS 5 pj.nd (Eg false (sH (N:=["_law_k","_law_row","_law_last","_law_border"]) (js:=[none,some 5,some 6,some 0]) pj (by decide +kernel)) (jb rfl T.range (a1 (zK T (dv 0)))) (λ_ _ _ nd=>(qN 0 nd)) (λ_ _ _=>iY) (λ_ _ _=>(ny (L9 rfl) xi (by rfl) T.max b8 (a2 (jC (dv 1) (dv 0)) (jC (dv 2) (Bd cW eM PySem.F.type_list_index Mu Co (dv 3) (a1 (jC (dv 2) (dv 0))))))))))))
  ig)
  (fU (Ey (Bd cW eB eA BD uE (dv 3) (a1 (dv 5))))))))
  (fU (gw (dv 3))))),λds μ Kd hm hl h=>?_⟩)
 unfold Ho at h;split at h
 .rename_i b y m;obtain⟨n,cs,ts,rfl,ey,S,VT,Xm,kk⟩:=h;have nH:=S.nH;have ft:=S.takes.nH;have o3:(fC n cs).length=cs.length+2:=gv n cs;have nd:=Hy S.n1 S.jD;obtain⟨es,he⟩:∃ es,es=fC n cs:=⟨_,rfl⟩;refine⟨zs,?_⟩;refine⟨by lia,by lia,?_⟩;rw[<- he]at kk o3 nd ⊢
  refine iU (λds ρ J=>∃(i k:Nat) (u v w:aq D),ds=kr i k/\i+k=m.toNat/\ρ=[some (.lst (es.map D.int)),some y,some (.int m),some (.mr μ.length),u,v,w]/\J=μ++[.lst ((List.range i).map λa=>.lst ((gL es ts a).map D.int))]) ⟨0,m.toNat,none,none,none,rfl,by lia,rfl,rfl⟩ ?_ ?_
  .rintro d wK ρ J ⟨i,k,u,v,O,e,hik,rfl,rfl⟩;refine⟨trivial,λnx pG=>?_⟩;cases k with
   |zero=>cases e
   | succ k =>
    rw[jH]at e;cases e;refine⟨n,cs,ts,by rw[he],AQ ey,S,?_⟩;rw[<- he];refine⟨λjV J=>∃ O:aq D,jV=[some (.lst (es.map D.int)),some y,some (.int m),some (.mr μ.length),some (.int i),some (.lst ((gL es ts i).map D.int)),O]/\J=μ++[.lst ((List.range i).map λa=>.lst ((gL es ts a).map D.int))],?_,?_⟩
    .refine kT (c:=(0:Int)<i) (λq=>?_) (λq=>?_)
     .obtain⟨j,rfl⟩:∃ j,i=j+1:=⟨i - 1,by lia⟩;have el:lS ((List.range (j+1)).map λa=>D.lst ((gL es ts a).map D.int)) (-1)=some (.lst ((gL es ts j).map D.int)):=by rw[dj,bT];exact FF _ _
      refine Nz (show lv _ (.mr μ.length)=_ from j6) el ?_;have W:=pC es ts j;have Y:=xD es ts ((j+1:Nat):Int);have L:=AM (ts:=ts) (a:=((j+1:Nat):Int)) W;have U:((es.map D.int).length:Int)=(es.length:Nat):=by rw[iE]
      refine⟨by rw[U];lia,by rw[U];lia,sz (by rw[iF,U];lia),?_⟩;rw[U,vD,show es.length=(lK es ts (gL es ts j) ((j+1:Nat):Int)).length from L.len.symm];refine iP trivial (PU λk=>.int (((lK es ts (gL es ts j) ((j+1:Nat):Int))[k.toNat]?).getD 0)) (λd hd K' k'=>?_) ?_
      .obtain⟨c,hc,rfl⟩:=xx hd;rw[c6]at k' ⊢
       have lc':=L.len;have lo:=Y.len;have lr:=W.len;obtain⟨f,hf⟩:∃ f,(jl es ts ((j+1:Nat):Int))[c]?=some f:=⟨_,jo (by lia)⟩;obtain⟨p,Z⟩:∃ p,(gL es ts j)[c]?=some p:=⟨_,jo (by lia)⟩;have G:=W.mem p (mR Z);refine fO (j8 hf) ⟨rfl,fO (j8 Z) ⟨es,es.idxOf p,rfl,rl G,Jk nd G,fO (j8 (r9 W G)) ?_⟩⟩;have k2:K' (some (.int (((lK es ts (gL es ts j) ((j+1:Nat):Int))[((c:Nat):Int).toNat]?).getD 0))) _:=k';rw[vD,wj hf Z]at k2;exact k2
      .rw[Qs D.int _ _ λi x e=>by show D.int (((lK es ts (gL es ts j) ((j+1:Nat):Int))[((i:Nat):Int).toNat]?).getD 0)=_;rw[vD,e];rfl];exact⟨_,rfl,rfl⟩
     .obtain rfl:i=0:=by lia
      exact⟨_,rfl,rfl⟩
    .rintro jV J ⟨O,rfl,rfl⟩;refine⟨EZ j6,fO j6 ⟨YV (by rw[iE,tP];lia),?_⟩⟩;refine pG _ _ ⟨i+1,k,_,_,_,rfl,by lia,rfl,?_⟩;rw[qV,dj,bT];rfl
  .rintro ρ J ⟨i,k,u,v,O,e,hik,rfl,rfl⟩;cases k with
   |succ k=>rw[jH]at e;cases e
   | zero =>
    refine⟨trivial,?_⟩;rw[show i=m.toNat by lia];refine Fz.lst (ar _) (mn j6) (wm λd hd=>?_) (nX hm) ?_
    .obtain⟨a,_,rfl⟩:=List.mem_map.mp hd;exact xG _
    .rw[bZ];exact kk
 .cases h
def AJ(F:jY K "least_age" "least_age" ki f fd)(T:lR mg)(nG:qJ P w K mg fF)(nF:sA P w K mg fF)(mM:oi P w K mg fF)(sE:sy P w K mg fF)(uw:uh P w K mg fF):gD P w K mg fF kO 4 f fd (pA ki) (iL A5):=by
 refine F.pE jP (λds μ Kd h=>by unfold A5 at h;split at h <;> first | rfl | exact h.elim) (λjc A fN s H E J=>⟨_,(fK (jh (w5 (qC nG J (a3 (dv 0) (dv 1) (dv 2))))
  (fU (gw vG))
  ig)
  (fK (qS 3 jP.nd (qC nF J (a2 (dv 0) (dv 1))))
  (fK (qS 4 jP.nd (qC mM J (a3 (dv 0) (dv 1) (dv 2))))
  (fK (qS 5 jP.nd (qC sE J (a1 (dv 2))))
  (fK (qS 6 jP.nd (qC uw J (fJ (dv 3) (fJ (dv 4) (fJ (dv 3) (fJ (dv 5) g9))))))
  (fK (Gy bJ (qNe (jC (dv 6) fP) (dv 0))
  (fK (Cs (i:=5) jP.nd rfl lo fP tJ xj)
  (fU (qS 6 jP.nd (qC uw J (fJ (dv 3) (fJ (dv 4) (fJ (dv 6) (fJ (dv 5) g9)))))))))
  (fU (gw (dv 5))))))))),λds μ Kd hm hl h=>?_⟩)
 unfold A5 at h;split at h
 .rename_i n x y;obtain⟨cs,ts,ex,Z,S,uN,kk⟩:=h;have nH:=S.nH;have ft:=S.takes.nH;have n2:=S.n2;have nd:=Hy S.n1 S.jD;have o3:(fC n cs).length=cs.length+2:=gv n cs;refine⟨cs,ts,ex,Z,by lia,S.takes,by lia,?_⟩;unfold sf at kk;cases hb:iQ (fC n cs) ts with
  | some p =>rw[hb]at kk;exact .keep kk
  | none =>
   rw[hb]at kk;obtain⟨a,ha,O⟩:=E4 S uN hb;have ly:=Dh S O;have kk:=kk a ha O;refine⟨cs,ex,S.nH,?_⟩;refine⟨cs,ts,ex,Z,S,?_⟩;refine⟨ts,Z,by lia,?_⟩;have yn:=Cb S.takes;have yl:=Cc (ts:=ts);obtain⟨G,W⟩:∃ G:Nat,k8 ts=(G:Int):=⟨(k8 ts).toNat,by lia⟩;rw[W]at yn yl ly ⊢
   obtain⟨es,he⟩:∃ es,es=fC n cs:=⟨_,rfl⟩;rw[<- he]at nd o3 O ⊢
   refine⟨es,ts,es,rfl,rfl,by lia,by lia,nd,rfl,Qz es,?_⟩;have e0:lK es ts es (G:Int)=gL es ts G:=by have:=N1 es ts G;rwa [JL (b:=G) yl]at this
   rw[e0];refine⟨λm ρ Y=>∃(b j:Nat) (g:MS),m=a - b/\b<=a/\ρ=[some (.int n),some x,some y,some (.lst (es.map D.int)),some (.lst (ts.map (mV es))),some (.int b),some (.mr j)]/\Y=μ++g/\zw Y j=some ((gL es ts b).map D.int),⟨_,G,_,[.lst ((gL es ts G).map D.int)],rfl,by lia,rfl,rfl,j6⟩,?_⟩;rintro m ρ Y ⟨b,j,g,rfl,hba,rfl,rfl,el⟩;have O4:=pC es ts b;obtain⟨z,U⟩:∃ z,(gL es ts b)[0]?=some z:=⟨_,jo (by rw[O4.len];lia)⟩;refine fO (show lv _ (.mr j)=_ from el) (fO (show lS _ (0:Int)=_ from j8 (i:=0) U) ?_);refine Xb (λq=>?_) (λq=>?_)
   .have mW:b<a:=by
     rcases Nat.lt_or_ge b a with L|L
     .exact L
     .have e:b=a:=by lia
      rw[e,O.at_]at U
      exact absurd (aN U).symm q
    refine⟨es,ts,gL es ts b,rfl,rfl,by lia,by lia,nd,el,O4,?_⟩
    exact⟨_,by lia,b+1,_,g++[.lst ((gL es ts (b+1)).map D.int)],rfl,by lia,rfl,by rw[cK];rfl,j6⟩
   .have e:b=a:=by
     rcases Nat.lt_or_ge b a with L|L
     .rw[q]at U;exact absurd U (O.low b L)
     .lia
    refine Fz.drop True.intro (nX hm) ?_
    rw[bZ,e]
    exact kk
 .cases h
def Dz{es:ao Int}{ts:ao Tk}{n:Int}{a N:Nat}(J:gT es ts n a)(h:a<N):((List.range N).filter λb=>decide ((gL es ts b)[0]?=some n))[0]?=some a:=by
 have G:∀ N,a<N->∃ r,(List.range N).filter (λb=>decide ((gL es ts b)[0]?=some n))=a::r:=by
  intro N;induction N with
  |zero=>intro h;lia
  | succ N L =>
   intro h;rw[dj,List.filter_append];by_cases q:a<N
   .obtain⟨r,e⟩:=L q;exact⟨_,by rw[e];rfl⟩
   .have e:N=a:=by lia
    subst e
    refine⟨[],?_⟩
    rw[List.filter_eq_nil_iff.mpr λb hb=>by have:=J.low b (List.mem_range.mp hb);simp[this]]
    simp[J.at_]
 obtain⟨r,e⟩:=G N h;rw[e];rfl
def LO(F:jY K "_law_least" "_law_least" pz f fd)(T:lR mg)(Oe:D1 P w K mg fF)(VC:NQ P w K mg fF):gD P w K mg fF kO 4 f fd (pA pz) (iL wD):=by
 refine F.pE sR (λds μ Kd h=>by unfold wD at h;split at h <;> first | rfl | exact h.elim) (λjc A fN s H E W=>⟨_,(fK (jh (w5 (qC Oe W (a2 (dv 0) (dv 1))))
  (fU (gw vG))
  ig)
  (fK (qS 2 sR.nd (qC VC W (a3 (dv 0) (dv 1) (m6 (ny (PQ rfl) vX (by rfl) T.max b8 (a1 (NG false (sH (N:=["_law_text","_law_old"]) (js:=[none,none]) sR (by decide +kernel)) (iZ (fZ (fY 0) (fH 0) (fZ (fY 1) (fH 1) i7 fT) (fL (fH 1) fT))) (iG (fL (fH 0) (fL (fH 1) fT))) (jI (dv 1)) (λ_ _ _ nd=>(ic (n:=2) rfl (fQ (qN 0 nd) (fQ (qN 1 nd) gH)))) (λ_ _ _=>iY) (λ_ _ _=>(dv 1))))) fP))))
  (fU (gw (jC (Eg false (sH (N:=["_law_age","_law_rows_here","_law_border"]) (js:=[none,some 2,some 0]) sR (by decide +kernel)) (jb rfl T.range (a1 (zK T (dv 2)))) (λ_ _ _ nd=>(qN 0 nd)) (λ_ _ _=>(o8 (CB (jC (jC (dv 1) (dv 0)) fP) (jC (dv 2) (DP fP))))) (λ_ _ _=>(dv 0))) fP))))),λds μ Kd hm hl h=>?_⟩)
 unfold wD at h;split at h
 .rename_i b y;obtain⟨n,cs,ts,rfl,J,S,Z,kk⟩:=h;have nH:=S.nH;have ft:=S.takes.nH;have n2:=S.n2;have o3:(fC n cs).length=cs.length+2:=gv n cs;refine⟨n,cs,ts,rfl,J,by lia,S.n1,by lia,S.jD,S.takes,?_⟩;unfold sf at kk;cases hb:iQ (fC n cs) ts with
  | some p =>rw[hb]at kk;exact .keep kk
  | none =>
   rw[hb]at kk;have VG:=JM S hb;refine fO J ⟨by rw[iE];exact sz (by lia),?_⟩;refine iP (vz J) (PR λt=>.int t.2) (λd hd K' G=>?_) ?_
   .obtain⟨t,ht,rfl⟩:=List.mem_map.mp hd;exact⟨rfl,G⟩
   .rw[A0];refine⟨ts.map (·.2),by unfold lv;rw[bx];rfl,by simpa using VG,λm h1 h2=>?_⟩;obtain⟨t,ht,rfl⟩:=List.mem_map.mp h1;have tok:=S.takes.ok t ht;obtain⟨a,ha,O⟩:=xK S Z hb (a:=t.2.toNat) λu hu=>by have:=h2 u.2 (List.mem_map.mpr ⟨u,hu,rfl⟩);lia
    have kk:=kk a (by lia) O;refine⟨n,cs,ts,rfl,J,S,by lia,by lia,?_⟩;obtain⟨es,he⟩:∃ es,es=fC n cs:=⟨_,rfl⟩;have Y:lS ((fC n cs).map D.int) (-1)=some (.int n):=by rw[<- uc];exact D4 _ _
    rw[<- he]at O o3 Y ⊢
    have e8:(t.2+8).toNat=((t.2+8).toNat:Nat):=rfl;obtain⟨N,hN⟩:∃ N:Nat,(t.2+8).toNat=N:=⟨_,rfl⟩;rw[hN];have L:(((List.range N).map λa=>D.lst ((gL es ts a).map D.int)).length:Int)=(N:Int):=by rw[iE,tP]
    refine⟨by rw[L];lia,by rw[L];lia,sz (by rw[iF,L];lia),?_⟩;rw[L,vD];refine iP trivial (rN λb=>decide ((gL es ts b.toNat)[0]?=some n)) (λd hd K' G=>?_) ?_
    .obtain⟨b,hbN,rfl⟩:=xx hd;rw[c6]at G ⊢
     have O4:=pC es ts b;obtain⟨z,U⟩:∃ z,(gL es ts b)[0]?=some z:=⟨_,jo (by rw[O4.len];lia)⟩;have er:lS ((List.range N).map λa=>D.lst ((gL es ts a).map D.int)) (b:Int)=some (.lst ((gL es ts b).map D.int)):=j8 (bo hbN);refine fO er (fO (show lS _ (0:Int)=_ from j8 (i:=0) U) (fO Y ?_));refine lY (λq=>wu ?_ G) (λq=>tF ?_ G)
     .rw[vD,U,q];simp
     .rw[vD,U];simp[q]
    .rw[wc,tT];have ef:(List.filter (λb:Int=>decide ((gL es ts b.toNat)[0]?=some n)) ((List.range N).map λi=>(0:Int)+(i:Nat)))=((List.range N).filter λb=>decide ((gL es ts b)[0]?=some n)).map λi=>((i:Nat):Int):=by
      rw[List.filter_map];have:(λb:Int=>decide ((gL es ts b.toNat)[0]?=some n)) ∘ (λi:Nat=>(0:Int)+(i:Int))=λb=>decide ((gL es ts b)[0]?=some n):=by funext i;show decide ((gL es ts ((0:Int)+(i:Int)).toNat)[0]?=some n)=_;rw[c6,vD]
      rw[this];exact bW λi _=>c6 _
     rw[ef,bx];have fl:=Dz O (N:=N) (by lia);refine fO (show lS _ (0:Int)=_ from j8 (i:=0) fl) (.keep kk)
 .cases h
def T7(F:jY K "_law_few" "_law_few" xq f fd)(T:lR mg)(Z:NR P w K mg fF)(FT:x9 P w K mg fF):gD P w K mg fF kO 3 f fd (pA xq) (iL Hr):=by
 refine F.pE Av (λds μ Kd h=>by unfold Hr at h;split at h <;> first | rfl | exact h.elim) (λjc A fN s H E L=>⟨_,(fK (qS 3 Av.nd (jL false g9))
  (fK (mU bJ rfl (jb rfl T.range (a1 (m6 (dv 2) fP))) (qT 4 Av.nd)
  (fU (qS 3 Av.nd (qC FT L (a3 (dv 0) (qC Z L (a3 (dv 0) (dv 1) (dv 4))) (dv 3))))))
  (fU (gw (jC (jC (dv 3) fP) (DP fP)))))),λds μ Kd hm hl h=>?_⟩)
 unfold Hr at h;split at h
 .rename_i b y a;obtain⟨n,cs,ts,rfl,Y,S,W,U,kk⟩:=h;have G:(fC n cs).length=cs.length+2:=gv n cs;have Qn:=S.nH;refine⟨zs,by lia,by lia,?_⟩;refine iU (λds ρ J=>∃(k c:Nat) (l:ao D) (v:aq D),ds=kr (k:Int) c/\(k:Int)+c=a+1/\((l=[]/\k=0)\/(1<=k/\l=j0 (fC n cs).length (kP (fC n cs) ts k)))/\ρ=[some (.lst ((fC n cs).map D.int)),some y,some (.int a),some (.lst l),v]/\J=μ) ⟨0,(a+1).toNat,[],none,rfl,by lia,.inl ⟨rfl,rfl⟩,rfl,rfl⟩ ?_ ?_
  .rintro d wK ρ J ⟨k,c,l,v,e,Xq,sG,rfl,rfl⟩;refine⟨trivial,λnx O=>?_⟩;cases c with
   |zero=>cases e
   | succ c =>
    rw[jH]at e;cases e;refine⟨n,cs,ts,rfl,Y,S,?_⟩;refine⟨fC n cs,jl (fC n cs) ts k,kP (fC n cs) ts k,rfl,rfl,(xD _ _ _).len,λe=>by rw[e]at G;simp at G,by lia,?_,wY _ _ k,?_⟩
    .rcases sG with⟨rfl,rfl⟩ | ⟨_,rfl⟩
     .exact .inl ⟨rfl,rfl⟩
     .exact .inr rfl
    .exact O _ _ ⟨k+1,c,_,_,rfl,by lia,.inr ⟨by lia,rfl⟩,rfl,rfl⟩
  .rintro ρ J ⟨k,c,l,v,e,Xq,sG,rfl,rfl⟩;cases c with
   |succ c=>rw[jH]at e;cases e
   | zero =>
    have hk:k=a.toNat+1:=by lia
    rcases sG with⟨rfl,h0⟩|⟨_,rfl⟩
    .lia
    .rw[hk];rw[<- hk]at kk;have a1:lS (j0 (fC n cs).length (kP (fC n cs) ts (a.toNat+1))) 0=some (.lst (jd (fC n cs).length (kP (fC n cs) ts (a.toNat+1) 0))):=jA (j:=0) (mF (by lia));have a2:lS (jd (fC n cs).length (kP (fC n cs) ts (a.toNat+1) 0)) (-1)=some (.int (kP (fC n cs) ts (a.toNat+1) 0 (cs.length+1))):=Q2 (by rw[nq,G];exact kR (by lia));refine⟨trivial,fO a1 (fO a2 (.keep ?_))⟩;rw[hk]at kk;exact kk
 .cases h
def CP(F:jY K "_law_few_next" "_law_few_next" kn f fd)(T:lR mg)  : gD P w K mg fF kO 1 f fd (pA kn) (iL t9):=by
 refine F.pE jN (λds μ Kd h=>by unfold t9 at h;split at h <;> first | rfl | exact h.elim) (λjc A fN s H E hr=>⟨_,(fK (YY 3 false jN.nd (sH (N:=["_law_end","_law_border"]) (js:=[none,some 0]) jN (by decide +kernel)) (jI (dv 0)) (λ_ _ _ nd=>(qN 0 nd)) (λ_ _ _=>iY) (λ_ _ _=>(Eg true (wN (xsc:=(fM kn)) (N:=["_law_end"]) (js:=[none]) rfl (by decide +kernel)) (jI (dv 1)) (λ_ _ _ nd=>(qN 0 nd)) (λ_ _ _=>iY) (λ_ _ _=>fP))))
  (fK (mU bJ rfl (jb rfl T.range (a1 (zK T (dv 0)))) (qT 4 jN.nd)
  (fU (mU bJ rfl (oS rfl T.range (a2 (m6 (dv 4) fP) (zK T (dv 0)))) (qT 5 jN.nd)
  (fK (qS 6 jN.nd (jL false g9))
  (yf (jh (lO (WX (tK hr)) KU (dv 2) (jL false g9) (jm _))
  (fU (YY 6 false jN.nd (sH (N:=["_law_k","_law_last","_law_i","_law_j"]) (js:=[none,some 2,some 4,some 5]) jN (by decide +kernel)) (oS rfl T.range (a2 (m6 (dv 4) fP) (dv 5))) (λ_ _ _ nd=>(qN 0 nd)) (λ_ _ _=>(o8 (RL (p5 mulC qi (jC (jC (dv 1) (dv 2)) (dv 0)) (jC (jC (dv 1) (dv 0)) (dv 3))) fP))) (λ_ _ _=>(m6 (jC (jC (dv 1) (dv 2)) (dv 0)) (jC (jC (dv 1) (dv 0)) (dv 3))))))
  ig)
  (fU (jh (O9 (jC (dv 0) (dv 5)) (jC (dv 1) (dv 4)))
  (fU (Ez fP (jC (dv 3) (dv 4)) (dv 5)))
  (fU (jh (RL (zK T (dv 6)) fP)
  (fU (Ez (ny (W2 rfl) Gu (by rfl) T.min dM (a1 (dv 6))) (jC (dv 3) (dv 4)) (dv 5)))
  ig)))))))))
  (fU (gw (dv 3))))),λds μ Kd hm hl h=>?_⟩)
 unfold t9 at h;split at h
 .rename_i b o l;obtain⟨es,own,T,rfl,rfl,R5,G6,o3,R7,hT,kk⟩:=h;obtain⟨L,hL⟩:∃ L,L=es.length:=⟨_,rfl⟩;rw[<- hL]at R5 o3 R7 kk;obtain⟨S,hS⟩:∃ S,S=kb es own T:=⟨_,rfl⟩;rw[<- hS]at kk;have S0:∀ a b,b<=a->S a b=0:=λa b Ha=>by rw[hS];unfold kb;rw[aB Ha]
  refine⟨sz (by rw[iE];lia),?_⟩;refine zM (λds ys G=>∃ k:Nat,k<=L/\ds=(es.drop k).map D.int/\ys=(List.range k).map (λi=>D.mr (μ.length+i))/\∃ g:MS,G=μ++g/\g.length=k/\∀ a,a<k->g[a]?=some (.lst (jd L λ_=>0))) (ys:=[]) ⟨0,by lia,rfl,rfl,[],by simp,rfl,λa ha=>by lia⟩ ?_ (λys G _=>trivial) ?_
  .rintro d wK ys G ⟨k,hk,e,rfl,g,rfl,U,UQ⟩;refine⟨trivial,λK' hK'=>?_⟩;have hk2:k<es.length:=by
    by_cases q:k<es.length
    .exact q
    .rw[bC (by lia)]at e;cases e
   rw[bu hk2]at e;cases e;refine⟨sz (by rw[iE];lia),?_⟩;refine kH trivial D.int (λ_:Int=>D.int 0) (λx hx K'' k''=>k'') ?_;refine hK' _ _ ⟨k+1,by lia,rfl,?_,g++[.lst (jd L λ_=>0)],?_,by rw[o4,U];rfl,λa ha=>?_⟩
   .rw[dj,bT];show _++[D.mr (μ++g).length]=_;rw[o4,U];rfl
   .rw[Kl,<- hL,cK]
   .rcases Nat.lt_or_ge a k with z | z
    .rw[uO (by lia)];exact UQ a z
    .have:a=k:=by lia
     subst this
     rw[pW (by lia),U,aY];rfl
  rintro zs G ⟨k,hk,e,rfl,g,rfl,U,UQ⟩;have Za:k=L:=by have:=cf List.length e;rw[iE,bD]at this;simp at this;lia
  subst Za;have R0:lA k (j5 S 0 0) g:=EI U UQ;refine⟨by rw[iE];lia,by rw[iE];lia,?_⟩;rw[iE,vD,<- hL];have esj:∀ j,j<k->lS (es.map D.int) (j:Int)=some (.int (es.getD j 0)):=λj hj=>by
   have:es[j]?=some (es.getD j 0):=by rw[av,jo (by lia)];rfl
   exact nE this
  have owj:∀ j,j<k->lS (own.map D.int) (j:Int)=some (.int (own.getD j 0)):=λj hj=>by
   have:own[j]?=some (own.getD j 0):=by rw[av,jo (by lia)];rfl
   exact nE this
  refine iU (λds ρ G=>∃(i c:Nat) (g:MS) (u v w:aq D),ds=kr (i:Int) c/\i+c=k/\G=μ++g/\lA k (j5 S i 0) g/\ρ=[some (.lst (es.map D.int)),some (.lst (own.map D.int)),some (.lst l),some (.lst ((List.range k).map λi=>D.mr (μ.length+i))),u,v,w]) ⟨0,k,g,none,none,none,rfl,by lia,rfl,R0,rfl⟩ ?_ ?_
  .clear R0 U UQ hk e;clear g;rintro d wK ρ G ⟨i,c,g,u,v,w,e,hic,rfl,J,rfl⟩;refine⟨trivial,λnx Y=>?_⟩;cases c with
   |zero=>cases e
   | succ c =>
    rw[jH]at e;cases e;refine⟨⟨by lia,by lia,by rw[iE];lia,by rw[iE];lia⟩,?_⟩;rw[iE,<- hL];have ek:((k:Int) - ((i:Int)+1)).toNat=k - (i+1):=by lia
    rw[ek];refine iU (λds ρ G=>∃(j c:Nat) (g:MS) (v w:aq D),ds=kr (j:Int) c/\i<j/\j+c=k/\G=μ++g/\lA k (j5 S i j) g/\ρ=[some (.lst (es.map D.int)),some (.lst (own.map D.int)),some (.lst l),some (.lst ((List.range k).map λi=>D.mr (μ.length+i))),some (.int (i:Int)),v,w]) ⟨i+1,k - (i+1),g,v,w,rfl,by lia,by lia,rfl,IJ S0 J,rfl⟩ ?_ ?_
    .clear J Y;clear g;rintro d ds'' ρ G ⟨j,O,g,v',w',e,qA,hjc,rfl,J,rfl⟩;refine⟨trivial,λnx Y=>?_⟩;cases O with
     |zero=>cases e
     | succ O =>
      rw[jH]at e;cases e;have hi:i<k:=by lia
      have hj:j<k:=by lia
      have ami:lS ((List.range k).map λi=>D.mr (μ.length+i)) (i:Int)=some (D.mr (μ.length+i)):=nE (g:=λi=>D.mr (μ.length+i)) (bo hi);have Z:zw (μ++g) (μ.length+i)=some (jd k (j5 S i j i)):=Mc (J.2 i hi);have ixj:Dm (jd k (j5 S i j i)).length (j:Int)=some j:=by unfold Dm;rw[nq,aB (by lia),aB (by lia),vD]
      have fin:∀ v:Int,S i j=v->lA k (j5 S i (j+1)) (g.set i (.lst ((jd k (j5 S i j i)).set j (.int v)))):=λv hv=>LD J hi hj hv;have W:S i j=if es.getD j 0<=own.getD i 0 then 1 else xH (kK T i j):=by rw[hS];unfold kb;rw[aC (by lia)]
      refine⟨zs,?_⟩;refine⟨λjV J1=>jV=[some (.lst (es.map D.int)),some (.lst (own.map D.int)),some (.lst l),some (.lst ((List.range k).map λi=>D.mr (μ.length+i))),some (.int (i:Int)),some (.int (j:Int)),some (.lst ((kK T i j).map D.int))]/\J1=μ++g,?_,?_⟩
      .refine⟨zs,?_⟩;rcases R7 with⟨rfl,rfl⟩|rfl
       .exact⟨by rw[JF];rfl,rfl⟩
       .refine Qg (b:=!(j0 k T).isEmpty) (λ_=>?_) (λz=>by rw[OI (by lia)]at z;cases z);refine⟨⟨by lia,by lia,by lia,by lia⟩,?_⟩;have ej:((j:Int) - ((i:Int)+1)).toNat=j - (i+1):=by lia
        rw[ej];refine⟨sz (by unfold kr;rw[iE,tP];lia),?_⟩;refine m9 trivial (λx:Nat=>D.int ((i:Int)+1+(x:Nat))) (λx=>(if 0<T i (i+1+x)*T (i+1+x) j then some (T i (i+1+x)+T (i+1+x) j)else none).map D.int) (λx hx K' k'=>?_) ?_
        .rw[cj]at hx;have a1:lS (j0 k T) (i:Int)=some (.lst (jd k (T i))):=jA (mF hi);have ex:(i:Int)+1+(x:Nat)=((i+1+x:Nat):Int):=by lia
         have a2:lS (jd k (T i)) ((i:Int)+1+(x:Nat))=some (.int (T i (i+1+x))):=by rw[ex];exact jA (kR (by lia))
         have a3:lS (j0 k T) ((i:Int)+1+(x:Nat))=some (.lst (jd k (T (i+1+x)))):=by rw[ex];exact jA (mF (by lia))
         have a4:lS (jd k (T (i+1+x))) (j:Int)=some (.int (T (i+1+x) j)):=jA (kR hj);have cm:JR (T i (i+1+x)) (T (i+1+x) j):=.inl (by have:=hT i (i+1+x);lia);refine fO a1 (fO a2 (fO a3 (fO a4 ⟨cm,?_⟩)));refine kT (c:=0<T i (i+1+x)*T (i+1+x) j) (λq=>?_) (λq=>?_)
         .rw[aB q]at k';exact fO a1 (fO a2 (fO a3 (fO a4 k')))
         .rw[aC q]at k';exact k'
        .refine⟨?_,rfl⟩;rw[Vl];rfl
      rintro jV J1 ⟨rfl,rfl⟩;refine fO (esj j hj) (fO (owj i hi) ?_);refine kT (c:=es.getD j 0<=own.getD i 0) (λq=>?_) (λq=>?_)
      .refine fO ami (fO Z (fO ixj ?_));rw[Ap];exact Y _ _ ⟨j+1,O,_,_,_,rfl,by lia,by lia,rfl,fin 1 (by rw[W,aB q]),rfl⟩
      .refine kT (c:=(0:Int)<((kK T i j).map D.int).length) (λz=>?_) (λz=>?_)
       .have hcn:kK T i j≠[]:=λe=>by rw[e]at z;simp at z
        refine⟨kK T i j,rfl,hcn,λm h1 h2=>?_⟩
        refine fO ami (fO Z (fO ixj ?_))
        rw[Ap]
        exact Y _ _ ⟨j+1,O,_,_,_,rfl,by lia,by lia,rfl,fin m (by rw[W,aC q,L8 h1 h2]),rfl⟩
       .have hcn:kK T i j=[]:=by
         cases e:kK T i j with
         |nil=>rfl
         |cons a b=>rw[e]at z;exact absurd (by simp) z
        refine Y _ _ ⟨j+1,O,g,_,_,rfl,by lia,by lia,rfl,IH J (by rw[W,aC q,hcn];rfl),rfl⟩
    .clear J;clear g;rintro ρ G ⟨j,O,g,v',w',e,qA,hjc,rfl,J,rfl⟩;cases O with
     |succ O=>rw[jH]at e;cases e
     | zero =>refine⟨trivial,Y _ _ ⟨i+1,c,g,_,_,_,rfl,by lia,rfl,II (by lia) J,rfl⟩⟩
  .clear R0 U UQ hk e;clear g;rintro ρ G ⟨i,c,g,u,v,w,e,hic,rfl,J,rfl⟩;cases c with
   |succ c=>rw[jH]at e;cases e
   | zero =>refine⟨trivial,.deep (Qq rfl J) (nX hm) ?_⟩;rw[bZ];rw[LF (by lia)];exact kk
 .cases h
def EM(F:jY K "no_make" "no_make" l9 f fd)(T:lR mg)  : gD P w K mg fF kO 1 f fd (pA l9) (iL wC):=by
 refine F.pE Ex (λds μ G h=>by unfold wC at h;split at h<;>first|rfl|exact h.elim) (λJ A fN s H E L=>⟨_,(fU (gw (Ef (zK T (dv 0)) fP))),λds μ G O hl h=>?_⟩);unfold wC at h;split at h
 .rename_i b;obtain⟨hl,kk⟩:=h;exact .keep kk
 .cases h
def yL(F:jY K "bare_table" "bare_table" jt f fd)(T:lR mg)(J:uY P w K mg fF):gD P w K mg fF kO 2 f fd (pA jt) (iL A6):=by
 refine F.pE ot (λds μ O h=>by unfold A6 at h;split at h <;> first | rfl | exact h.elim) (λW A fN s H E L=>⟨_,(fK (qS 1 ot.nd (qC J L (a1 (dv 0))))
  (fU (gw (Eg false (sH (N:=["first","places","none"]) (js:=[none,some 0,some 1]) ot (by decide +kernel)) (jb rfl T.range (a1 (zK T (dv 0)))) (λ_ _ _ nd=>(qN 0 nd)) (λ_ _ _=>iY) (λ_ _ _=>(Eg false (wN (xsc:=(fM jt)) (N:=["behind","first","none"]) (js:=[none,some 0,some 2]) rfl (by decide +kernel)) (jb rfl T.range (a1 (zK T (dv 1)))) (λ_ _ _ nd=>(qN 0 nd)) (λ_ _ _=>iY) (λ_ _ _=>(QF (O9 (dv 0) (dv 1)) fP (dv 2))))))))),λds μ O Y hl h=>?_⟩)
 unfold A6 at h;split at h
 .rename_i b;obtain⟨hl,kk⟩:=h;refine⟨hl,?_⟩;refine⟨by lia,by lia,?_⟩;rw[vD];refine⟨sz (by rw[iF];lia),?_⟩;refine kH trivial (λi:Nat=>D.int (0+(i:Nat))) (λi=>D.lst (jd b.length (lQ b.length i))) (λi hi U G=>?_) (.keep kk);refine⟨by lia,by lia,?_⟩;rw[vD];refine⟨sz (by rw[iF];lia),?_⟩;refine kH trivial (λj:Nat=>D.int (0+(j:Nat))) (λj=>D.int (lQ b.length i j)) (λj Z U G=>?_) G;unfold lQ at G;refine kT (c:=(0+(j:Nat):Int)<=0+(i:Nat)) (λq=>?_) (λq=>?_)
  .rw[aB (by lia)]at G;exact G
  .rw[aC (by lia)]at G;exact G
 .cases h
def uK(F:jY K "fewest_joined" "fewest_joined" i8 f fd)(T:lR mg)  : gD P w K mg fF kO 1 f fd (pA i8) (iL tZ):=by
 refine F.pE oK (λds μ Z h=>by unfold tZ at h;split at h<;>first|rfl|exact h.elim) (λjc A fN s H E hr=>⟨_,(fU (gw (ny (W2 rfl) Gu (by rfl) T.min dM (a1 (m6 (jL false (a1 (dv 2))) (NG false (sH (N:=["left","right"]) (js:=[none,none]) oK (by decide +kernel)) (iZ (fZ (fY 0) (fH 0) (fZ (fY 1) (fH 1) i7 fT) (fL (fH 1) fT))) (iG (fL (fH 0) (fL (fH 1) fT))) (Mv rfl T.zip (a2 (dv 0) (dv 1))) (λ_ _ _ nd=>(ic (n:=2) rfl (fQ (qN 0 nd) (fQ (qN 1 nd) gH)))) (λ_ _ _=>iY) (λ_ _ _=>(m6 (m6 (dv 0) (dv 1)) fP)))))))),λds μ Z hm hl h=>?_⟩);unfold tZ at h;split at h
 .rename_i l r m;obtain⟨J,G,rfl,rfl,h1,h2,kk⟩:=h;refine⟨zs,?_⟩;refine⟨by rw[bO,iE,iE];exact sz (by lia),?_⟩;rw[Kj];refine kH ⟨trivial,trivial⟩ (λp:Int×Int=>D.tup [.int p.1,.int p.2]) (λp=>D.int (p.1+p.2+1)) (λp hp K' W=>⟨rfl,W⟩) ?_;rw[Ke];refine⟨by rw[iE,bO];exact sz (by show 1+_<=_;lia),?_⟩;obtain⟨Y,b2,O⟩:=kZ (List.zipWith (λa b=>a+b+1) J G) m;refine⟨m::List.zipWith (λa b=>a+b+1) J G,rfl,by simp,λv L U=>.keep ?_⟩;have e:v=(List.zipWith (λa b=>a+b+1) J G).foldl min m:=by
   have g1:=U m aF;rcases Y with q|q
   .rcases List.mem_cons.mp L with z | z
    .lia
    .have:=O v z;lia
   .have:=U _ (nM _ q);rcases List.mem_cons.mp L with z|z
    .lia
    .have:=O v z;lia
  rw[e];exact kk
 .cases h
def yH(F:jY K "next_table" "next_table" jr f fd)(T:lR mg)(vg:uY P w K mg fF)(vW:pX P w K mg fF):gD P w K mg fF kO 2 f fd (pA jr) (iL tX):=by
 refine F.pE iR (λds μ Kd h=>by unfold tX at h;split at h <;> first | rfl | exact h.elim) (λjc A fN s H E W=>⟨_,(fK (qS 3 iR.nd (Eg false (sH (N:=["at","before"]) (js:=[none,some 2]) iR (by decide +kernel)) (jb rfl T.range (a1 (zK T (dv 2)))) (λ_ _ _ nd=>(qN 0 nd)) (λ_ _ _=>iY) (λ_ _ _=>(Eg false (wN (xsc:=(fM jr)) (N:=["row","at"]) (js:=[none,some 0]) rfl (by decide +kernel)) (jI (dv 1)) (λ_ _ _ nd=>(qN 0 nd)) (λ_ _ _=>iY) (λ_ _ _=>(jC (dv 0) (dv 1)))))))
  (fK (qS 4 iR.nd (qC vg W (a1 (dv 0))))
  (fK (qS 5 iR.nd (jL true g9))
  (fK (mU bJ rfl (Qi rfl T.enumerate rfl T.zip (a2 (dv 2) (dv 1))) ⟨(ic (n:=2) rfl (fQ (qN 6 iR.nd) (fQ (ic (n:=2) rfl (fQ (qN 7 iR.nd) (fQ (qN 8 iR.nd) gH))) gH))),(iZ (fZ (fY 6) (fH 6) (fZ (iZ (fZ (fY 7) (fH 7) (fZ (fY 8) (fH 8) i7 fT) (fL (fH 8) fT))) (iG (fL (fH 7) (fL (fH 8) fT))) i7 fT) (fL (iG (fL (fH 7) (fL (fH 8) fT))) fT))),(iG (fL (fH 6) (fL (iG (fL (fH 7) (fL (fH 8) fT))) fT)))⟩
  (fU (Ey (Bd cW eB eA BD uE (dv 5) (a1 (NG false (sH (N:=["behind","end","far","row","first","columns","none"]) (js:=[none,none,some 8,some 7,some 6,some 3,some 4]) iR (by decide +kernel)) (iZ (fZ (fY 0) (fH 0) (fZ (fY 1) (fH 1) i7 fT) (fL (fH 1) fT))) (iG (fL (fH 0) (fL (fH 1) fT))) (AW rfl T.enumerate (a1 (dv 0))) (λ_ _ _ nd=>(ic (n:=2) rfl (fQ (qN 0 nd) (fQ (qN 1 nd) gH)))) (λ_ _ _=>iY) (λ_ _ _=>(QF (O9 (dv 1) (dv 2)) fP (qC vW W (a3 (m5 false (dv 3) (mh (m6 (dv 4) fP)) (mh (dv 0))) (m5 false (jC (dv 5) (dv 0)) (mh (m6 (dv 4) fP)) (mh (dv 0))) (dv 6)))))))))))
  (fU (gw (dv 5))))))),λds μ Kd hm hl h=>?_⟩)
 unfold tX at h;split at h
 .rename_i b c l;obtain⟨es,own,P,rfl,rfl,R5,o3,rfl,kk⟩:=h;obtain⟨L,hL⟩:∃ L,L=es.length:=⟨_,rfl⟩;rw[<- hL]at R5 o3 kk ⊢
  refine⟨by rw[lG];lia,by rw[lG];lia,?_⟩;rw[lG,vD];refine⟨sz (by rw[iF];lia),?_⟩;refine kH trivial (λj:Nat=>D.int (0+(j:Nat))) (λj=>D.lst (jd L λi=>P i j)) (λj J K' G=>?_) ?_
  .rw[cj]at J;refine⟨sz (by rw[lG];lia),?_⟩;refine kH trivial (λi:Nat=>D.lst (jd L (P i))) (λi=>D.int (P i j)) (λi hi K' G=>?_) G;have a1:lS (jd L (P i)) (0+(j:Nat):Int)=some (.int (P i j)):=by rw[c6];exact jA (kR J)
   exact fO a1 G
  refine⟨by rw[iE];lia,?_⟩;rw[iE,<- hL];refine⟨zs,?_⟩;obtain⟨Q,Y⟩:∃ Q,Q=jW L es own P:=⟨_,rfl⟩;rw[<- Y]at kk;refine iU (λds ρ U=>∃(k:Nat) (u v w:aq D),k<=L/\ds=((List.range L).drop k).map (λi=>D.tup [.int (i:Nat),.tup [.lst (jd L (P i)),.int (own.getD i 0)]])/\ρ=[some (.lst (es.map D.int)),some (.lst (own.map D.int)),some (.lst (j0 L P)),some (.lst ((List.range L).map λj=>D.lst (jd L λi=>P i j))),some (.int ((L:Int) - 1)),some (.mr μ.length),u,v,w]/\U=μ++[.lst ((List.range k).map λi=>D.lst (jd L (Q i)))]) ⟨0,none,none,none,by lia,Nh R5,rfl,rfl⟩ ?_ ?_
  .rintro d wK ρ U ⟨k,u,v,w,hk,e,rfl,rfl⟩;refine⟨⟨trivial,trivial⟩,λnx pG=>?_⟩;have hi:k<(List.range L).length:=by
    by_cases q:k<(List.range L).length
    .exact q
    .rw[bC (by lia)]at e;cases e
   have Z:k<L:=by rwa [tP]at hi
   rw[bu hi,List.getElem_range]at e;cases e;refine⟨rfl,rfl,?_⟩;refine⟨EZ j6,?_⟩;refine⟨by rw[m8,iE];exact sz (by lia),?_⟩;rw[Qy,<- hL];refine kH trivial (λj:Nat=>D.tup [.int (j:Nat),.int (es.getD j 0)]) (λj=>D.int (Q k j)) (λj J K' G=>?_) ?_
   .rw[cj]at J;refine⟨rfl,?_⟩;have O:Q k j=if es.getD j 0<=own.getD k 0 then 0 else(n0 P k j).foldl min ((L:Int) - 1):=by rw[Y];rfl
    refine kT (c:=es.getD j 0<=own.getD k 0) (λq=>?_) (λq=>?_)
    .rw[aB q]at O;rw[O]at G;exact G
    .rw[aC q]at O;rw[O]at G;have ac:lS ((List.range L).map λj=>D.lst (jd L λi=>P i j)) (j:Int)=some (.lst (jd L λi=>P i j)):=nE (g:=λj=>D.lst (jd L λi=>P i j)) (bo J);refine fO ac ?_;refine⟨(List.range (j - (k+1))).map λx=>P k (k+1+x),(List.range (j - (k+1))).map λx=>P (k+1+x) j,?_,?_,?_,?_,?_⟩
     .rw[DR (by lia),bx];rfl
     .rw[DR (by lia),bx];rfl
     .rw[iE,tP];lia
     .rw[iE,tP];lia
     .rw[Ki (L:=L)];exact G
   .refine fO j6 ⟨YV (by rw[iE,tP];lia),?_⟩;refine pG _ _ ⟨k+1,_,_,_,by lia,rfl,rfl,?_⟩;rw[qV,Io];rfl
  .rintro ρ U ⟨k,u,v,w,hk,e,rfl,rfl⟩;refine⟨⟨trivial,trivial⟩,?_⟩;have Z:k=L:=by have:=cf List.length e;rw[iE,bD,tP]at this;simp at this;lia
   subst Z;refine Fz.lst (ar _) (mn j6) (PJ _ _ _) (nX hm) ?_;rw[bZ];exact kk
 .cases h
def yJ(F:jY K "few_tables" "few_tables" jR f fd)(T:lR mg)(nF:sA P w K mg fF)(mM:oi P w K mg fF)(BV:uk P w K mg fF)(Y:sy P w K mg fF)(BO:ug P w K mg fF)(Z:qI P w K mg fF):gD P w K mg fF kO 4 f fd (pA jR) (iL t6):=by
 refine F.pE gZ (λds μ Kd h=>by unfold t6 at h;split at h <;> first | rfl | exact h.elim) (λjc A fN s H E G=>⟨_,(fK (qS 4 gZ.nd (qC nF G (a2 (dv 0) (dv 1))))
  (fK (qS 5 gZ.nd (qC mM G (a3 (dv 0) (dv 1) (dv 2))))
  (fK (Z9 6 false gZ.nd (sH (N:=["text","old"]) (js:=[none,none]) gZ (by decide +kernel)) (iZ (fZ (fY 0) (fH 0) (fZ (fY 1) (fH 1) i7 fT) (fL (fH 1) fT))) (iG (fL (fH 0) (fL (fH 1) fT))) (jI (dv 2)) (λ_ _ _ nd=>(ic (n:=2) rfl (fQ (qN 0 nd) (fQ (qN 1 nd) gH)))) (λ_ _ _=>iY) (λ_ _ _=>(dv 1)))
  (fK (qS 7 gZ.nd (qC BV G (a1 (dv 4))))
  (fK (qS 8 gZ.nd Fw)
  (fK (qS 9 gZ.nd Va)
  (fK (mU bJ rfl (oS rfl T.range (a2 (ny (W3 rfl) OT (by rfl) T.min dM (a3 (qC Y G (a1 (dv 2))) fP (dv 3))) (m6 (dv 3) fP))) (qT 10 gZ.nd)
  (yf (jh (PW.pt (yD (jT (dv 8)) (wZ (lO inC Gv (dv 10) (dv 6) (by with_unfolding_all rfl)))))
  (fK (qS 11 gZ.nd (dv 7))
  (fK (qS 7 gZ.nd (qC BO G (a3 (dv 4) (qC Z G (a3 (dv 4) (dv 5) (dv 10))) (dv 11))))
  (fU (qS 8 gZ.nd (DQ (L4 (n:=4) (Kr G (by decide))) KW (dv 7) (dv 11) (jm _))))))
  ig)
  (fU (Tj (tK G) (dv 7) (dv 9) (dv 10)))))
  (fU (gw (dv 9)))))))))),λds μ Kd hm hl h=>?_⟩)
 unfold t6 at h;split at h
 .rename_i n x y a;obtain⟨cs,ts,rfl,rfl,S,a0,a1,kk⟩:=h;have nH:=S.nH;have ft:=S.takes.nH;have o3:(fC n cs).length=cs.length+2:=gv n cs;refine⟨cs,rfl,nH,cs,ts,rfl,rfl,S,?_⟩;refine⟨sz (by rw[iE];lia),?_⟩;refine kH trivial mO (λt=>D.int t.2) (λt ht K' k'=>⟨rfl,k'⟩) ?_;have XH:ts.map (λt=>D.int t.2)=(ts.map (·.2)).map D.int:=by rw[bx];rfl
  rw[XH];refine⟨by rw[iE];lia,?_⟩;rw[iE];have fs:=Jv S;obtain⟨es,he⟩:∃ es,es=fC n cs:=⟨_,rfl⟩;rw[<- he]at kk o3 fs ⊢
  refine⟨ts,rfl,by lia,?_⟩;have yn:=Cb S.takes;have W:min (k8 ts) (min 0 a)=0:=by lia
  refine⟨⟨by lia,by lia,by lia,by lia⟩,?_⟩;rw[W];refine iU (λds ρ J=>∃(k c:Nat) (ch:Bool) (u v:aq D),ds=kr (k:Int) c/\(k:Int)+c=a+1/\(ch=false->∀ i j,i<es.length->j<es.length->jW es.length es (jl es ts ((k:Int) - 1)) (gy es ts k) i j=gy es ts k i j)/\ρ=[some (.int n),some (.lst (cs.map D.int)),some (.lst (ts.map mO)),some (.int a),some (.lst (es.map D.int)),some (.lst (ts.map (mV es))),some (.lst ((ts.map (·.2)).map D.int)),some (.lst (j0 es.length (gy es ts k))),some (.bl ch),some (.mr μ.length),u,v]/\J=μ++[.ka (nZ k) (pV es ts k)]) ⟨0,(a+1).toNat,false,none,none,by rw[Int.sub_zero];rfl,by lia,λ_=>fs,rfl,rfl⟩ ?_ ?_
  .rintro d wK ρ J ⟨k,c,ch,u,v,e,Xq,Jr,rfl,rfl⟩;refine⟨trivial,λnx pG=>?_⟩;cases c with
   |zero=>cases e
   | succ c =>
    rw[jH]at e;cases e;refine⟨λU J=>∃(L:Bool) (v':aq D),(L=false->∀ i j,i<es.length->j<es.length->jW es.length es (jl es ts (((k+1:Nat):Int) - 1)) (gy es ts (k+1)) i j=gy es ts (k+1) i j)/\U=[some (.int n),some (.lst (cs.map D.int)),some (.lst (ts.map mO)),some (.int a),some (.lst (es.map D.int)),some (.lst (ts.map (mV es))),some (.lst ((ts.map (·.2)).map D.int)),some (.lst (j0 es.length (gy es ts (k+1)))),some (.bl L),some (.mr μ.length),some (.int (k:Int)),v']/\J=μ++[.ka (nZ k) (pV es ts k)],?_,?_⟩
    .refine WK (i:=8) (j:=10) (k:=6) ch (k:Int) (ts.map (·.2)) rfl rfl rfl λb hb=>?_;refine Qg (b:=b) (λhbT=>?_) (λO=>?_)
     .refine⟨es,ts,rfl,rfl,by lia,by lia,?_⟩;refine⟨es,jl es ts k,gy es ts k,rfl,rfl,(xD _ _ _).len,by lia,rfl,?_⟩;refine⟨Cp (Gw _ _ (by lia)),Cp (Gw _ _ (by lia)),rfl,?_⟩;refine⟨_,_,λhf=>Dy (QC ?_),rfl,rfl⟩;exact(show ∀ b:Bool,(true != b)=false->b=true by decide) _ hf
     .obtain⟨h1,h2⟩:=hb O;have fx:=M7 (Jr h1) λt ht et=>h2 (by rw[<- et];exact List.mem_map_of_mem ht);rw[KH fx];refine⟨ch,_,λ_=>Dy fx,rfl,rfl⟩
    .rintro U J ⟨L,v',hch',rfl,rfl⟩;refine⟨_,_,(by rw[pW (ar _),aY];rfl),YV (by unfold nZ;rw[iE,tP];lia),Ml k,?_⟩;refine pG _ _ ⟨k+1,c,L,_,_,rfl,by lia,hch',rfl,?_⟩;rw[qV,E9,Er]
  .rintro ρ J ⟨k,c,ch,u,v,e,Xq,Jr,rfl,rfl⟩;refine⟨trivial,?_⟩;cases c with
   |succ c=>rw[jH]at e;cases e
   | zero =>
    have hk:k=a.toNat+1:=by lia
    subst hk;refine Fz.ka (ar _) (by rw[pW (ar _),aY];rfl) (xF λd hd=>by obtain⟨i,_,rfl⟩:=List.mem_map.mp hd;exact PL _ _) (nX hm) ?_;rw[bZ];exact kk
 .cases h
def qt(F:jY K "is_take" "BestMakes.is_take" hV f fd)(T:lR mg)(G:iC K fI):gD P w K mg fF kO 1 f fd (pA hV) (iL (wF fI)):=by
 refine F.pE jq (λds μ L h=>by unfold wF at h;split at h <;> first | rfl | exact h.elim) (λO A fN s H E J=>⟨_,(fK (Gz (dv 1) ⟨(ic (n:=3) rfl (fQ (qN 2 jq.nd) (fQ (qN 3 jq.nd) (fQ (qN 4 jq.nd) gH)))),(iZ (fZ (fY 2) (fH 2) (fZ (fY 3) (fH 3) (fZ (fY 4) (fH 4) i7 fT) (fL (fH 4) fT)) (fL (fH 3) (fL (fH 4) fT)))),(iG (fL (fH 2) (fL (fH 3) (fL (fH 4) fT))))⟩)
  (fU (gw (DQ XF xk (jC (jC (HE (tK J) (og G.cl G.tm (dv 0)) (dv 2) (λ_ _=>rfl)) (dv 3)) (dv 4)) fP (jm _))))),λds μ L U hl h=>?_⟩)
 unfold wF at h;split at h
 .rename_i k s;obtain⟨es,ts,A,j,a,i,b,B,rfl,kk⟩:=h;have Ec:=B.Ec;have hb:=B.hb;refine⟨rfl,_,tU B.at_ u4,?_⟩;refine fO (Ab B.ha) ?_;refine fO (Ac (by lia)) ?_;refine fO (Ay hb) (.keep ?_);generalize decide (gy es ts (a+1) i b=0)=c at kk ⊢
  cases c<;>exact kk
 .cases h
def oy(F:jY K "clean_takes" "BestMakes.clean_takes" gE f fd)(T:lR mg)(J:iC K fI):gD P w K mg fF kO 1 f fd (pA gE) (iL (wI fI)):=by
 refine F.pE gN (λds μ W h=>by unfold wI at h;split at h <;> first | rfl | exact h.elim) (λjc A fN s H E hr=>⟨_,(fK (Gz (dv 1) ⟨(ic (n:=3) rfl (fQ (qN 2 gN.nd) (fQ (qN 3 gN.nd) (fQ (qN 4 gN.nd) gH)))),(iZ (fZ (fY 2) (fH 2) (fZ (fY 3) (fH 3) (fZ (fY 4) (fH 4) i7 fT) (fL (fH 4) fT)) (fL (fH 3) (fL (fH 4) fT)))),(iG (fL (fH 2) (fL (fH 3) (fL (fH 4) fT))))⟩)
  (fK (qS 5 gN.nd (jC (og J.cl J.tq (dv 0)) (dv 4)))
  (fU (gw (NG false (sH (N:=["number","old","row","age","first","end"]) (js:=[none,none,none,some 2,some 3,some 5]) gN (by decide +kernel)) (iZ (fZ (fY 0) (fH 0) (fZ (iZ (fZ (fY 1) (fH 1) (fZ (fY 2) (fH 2) i7 fT) (fL (fH 2) fT))) (iG (fL (fH 1) (fL (fH 2) fT))) i7 fT) (fL (iG (fL (fH 1) (fL (fH 2) fT))) fT))) (iG (fL (fH 0) (fL (iG (fL (fH 1) (fL (fH 2) fT))) fT))) (AW rfl T.enumerate (a1 (og J.cl J.L5 (dv 0)))) (λ_ _ _ nd=>(ic (n:=2) rfl (fQ (qN 0 nd) (fQ (ic (n:=2) rfl (fQ (qN 1 nd) (fQ (qN 2 nd) gH))) gH)))) (λ_ _ _=>(o8 (PW.pt (Cm (O9 (dv 1) (dv 3)) (xa (Y0 (jC (dv 2) (dv 4)) (dv 5))))))) (λ_ _ _=>(dv 0))))))),λds μ W hm hl h=>?_⟩)
 unfold wI at h;split at h
 .rename_i k s;obtain⟨es,ts,A,j,a,i,b,B,rfl,kk⟩:=h;have Ec:=B.Ec;have hb:=B.hb;have Z:=B.hl;have Y:=B.ht;have U:(es.map D.int)[b]?=some (.int (es.getD b 0)):=by rw[oC,getD_some hb];rfl
  refine⟨rfl,_,tU B.at_ zS,fO (jA U) ?_⟩;refine⟨_,tU B.at_ QZ,?_⟩;refine⟨by rw[m8,iE];exact sz (by lia),?_⟩;rw[Fu,iE];refine m9 trivial _ (λx=>if(match ts[x]? with|some t=>decide (t.2<=(a:Int))&&decide (es.getD b 0<=jK es t.1 (es.getD i 0))|none=>false)=true then some (D.int (x:Nat))else none) (λx L K' G=>?_) ?_
  .rw[cj]at L;obtain⟨t,O⟩:∃ t,ts[x]?=some t:=⟨_,jo L⟩;rw[K7 O];rw[O]at G;dsimp only at G;refine⟨rfl,rfl,?_⟩;refine kT (c:=t.2<=(a:Int)) (λq=>?_) (λq=>?_)
   .have er:((yG es t).map D.int)[i]?=some (.int (jK es t.1 (es.getD i 0))):=by unfold yG;rw[oC,oC,getD_some (by lia)];rfl
    refine fO (jA er) ?_
    refine kT (c:=es.getD b 0<=jK es t.1 (es.getD i 0)) (λq2=>?_) (λq2=>?_)
    .rw[aB (by rw[aM q,aM q2];rfl)]at G;exact G
    .rw[aC (by rw[aW q2,fh];exact aK)]at G;exact G
   .rw[aC (by rw[aW q];exact aK)]at G;exact G
  .rw[Hf];exact .keep kk
 .cases h
def rD(F:jY K "halves" "BestMakes.halves" iu f fd)(T:lR mg)(J:iC K fI):gD P w K mg fF kO 1 f fd (pA iu) (iL (wH fI)):=by
 refine F.pE hU (λds μ Kd h=>by unfold wH at h;split at h <;> first | rfl | exact h.elim) (λjc A fN s H E U=>⟨_,(fK (Gz (dv 1) ⟨(ic (n:=3) rfl (fQ (qN 2 hU.nd) (fQ (qN 3 hU.nd) (fQ (qN 4 hU.nd) gH)))),(iZ (fZ (fY 2) (fH 2) (fZ (fY 3) (fH 3) (fZ (fY 4) (fH 4) i7 fT) (fL (fH 4) fT)) (fL (fH 3) (fL (fH 4) fT)))),(iG (fL (fH 2) (fL (fH 3) (fL (fH 4) fT))))⟩)
  (fK (qS 5 hU.nd (jC (jC (HE (tK U) (og J.cl J.tm (dv 0)) (dv 2) (λ_ _=>rfl)) (dv 3)) (dv 4)))
  (fK (qS 6 hU.nd (HE (tK U) (og J.cl J.tm (dv 0)) (Ef (dv 2) fP) (λ_ _=>rfl)))
  (fU (gw (Eg false (sH (N:=["middle","self","age","first","behind","before","many"]) (js:=[none,some 0,some 2,some 3,some 4,some 6,some 5]) hU (by decide +kernel)) (oS rfl T.range (a2 (m6 (dv 3) fP) (dv 4))) (λ_ _ _ nd=>(qN 0 nd)) (λ_ _ _=>(o8 (CB (m6 (m6 (jC (jC (dv 5) (dv 3)) (dv 0)) (jC (jC (dv 5) (dv 0)) (dv 4))) fP) (dv 6)))) (λ_ _ _=>(kU (a3 (jC (og J.cl J.tq (dv 1)) (dv 0)) (kU (a3 (Ef (dv 2) fP) (dv 3) (dv 0))) (kU (a3 (Ef (dv 2) fP) (dv 0) (dv 4)))))))))))),λds μ Kd hm hl h=>?_⟩)
 unfold wH at h;split at h
 .rename_i k s;obtain⟨es,ts,A,j,a,i,b,B,rfl,h1,kk⟩:=h;have Ec:=B.Ec;have hb:=B.hb;have ha:=B.ha;have oB:=B.hl;obtain⟨G,rfl⟩:∃ G,a=G+1:=⟨a - 1,by lia⟩;refine⟨rfl,_,tU B.at_ u4,fO (Ab ha) (fO (Ac (by lia)) (fO (Ay hb) ?_))⟩;have Z:xY ((nZ (A+1)).zip (pV es ts (A+1))) (.inl (((G+1:Nat):Int) - 1))=some (.lst (j0 es.length (gy es ts (G+1)))):=by rw[show((G+1:Nat):Int) - 1=(G:Int) by lia];exact Ab (by lia)
  refine⟨_,tU B.at_ u4,fO Z ?_⟩;refine⟨⟨by lia,by lia,by lia,by lia⟩,?_⟩;refine⟨by unfold kr;rw[iE,tP];exact sz (by lia),?_⟩;rw[O5];refine m9 trivial _ (λx=>if decide (gy es ts (G+1) i (i+1+x)+gy es ts (G+1) (i+1+x) b+1=gy es ts (G+1+1) i b)=true then some (G9 es (G+1) i b (i+1+x))else none) (λx W K' L=>?_) ?_
  .rw[cj]at W;have O:i+1+x<b:=by lia
   rw[show(i:Int)+1+(x:Nat)=((i+1+x:Nat):Int) by lia];generalize i+1+x=m at O L ⊢
   refine fO (Ac (by lia)) (fO (Ay (by lia)) (fO (Ac (by lia)) (fO (Ay hb) ?_)));refine lY (λq=>?_) (λq=>?_)
   .rw[aB (aM q)]at L;have Y:(es.map D.int)[m]?=some (.int (es.getD m 0)):=by rw[oC,getD_some (by lia)];rfl
    refine⟨_,tU B.at_ zS,fO (jA Y) ⟨zs,zs,zs,?_⟩⟩;exact L
   .rw[aC (by rw[aW q];exact aK)]at L;exact L
  .rw[Hf];rw[EV,bx]at kk;rw[show((b:Int) - ((i:Int)+1)).toNat=b - (i+1) by lia];exact .keep kk
 .cases h
def p4(F:jY K "__init__" "BestMakes.__init__" gW f fd)(T:lR mg)(G:iC K fI)(Z:sA P w K mg fF)(mM:oi P w K mg fF)(D7:vK P w K mg fF)(BR:ui P w K mg fF):gD P w K mg fF kO 5 f fd (pA gW) (iL (Hq fI)):=by
 refine F.pE lW (λds μ Kd h=>by unfold Hq at h;split at h <;> first | rfl | exact h.elim) (λjc A fN s H E L=>⟨_,(fK (Cr G.cl G.tq (qC Z L (a2 (dv 1) (dv 2))) (dv 0))
  (fK (Cr G.cl G.L5 (qC mM L (a3 (dv 1) (dv 2) (dv 3))) (dv 0))
  (fK (qS 4 lW.nd (qC D7 L (a3 (dv 1) (dv 2) (dv 3))))
  (fK (Cr G.cl G.tm (qC BR L (fJ (dv 1) (fJ (dv 2) (fJ (dv 3) (fJ (dv 4) g9))))) (dv 0))
  (fK (Cr G.cl G.sZ (kU (a3 (dv 4) fP (Ef (zK T (og G.cl G.tq (dv 0))) fP))) (dv 0))
  (fU (Cr G.cl G.tu QG (dv 0)))))))),λds μ Kd hm hl h=>?_⟩)
 unfold Hq at h;split at h
 .rename_i k n x y;obtain⟨cs,ts,rfl,rfl,S,Y,hb,hk,kk⟩:=h;have nH:=S.nH;have U:k<μ.length:=(kN hk).1;have at_:∀ {m:MO},(μ.set k m)[k]?=some m:=aG U;have o3:(fC n cs).length=cs.length+2:=gv n cs;obtain⟨es,J⟩:∃ es,es=fC n cs:=⟨_,rfl⟩;refine⟨cs,rfl,nH,_,(["places"],[.lst (es.map D.int)]),pF hk,by rw[<- J];kernel_rfl,by decide,?_⟩;refine⟨cs,ts,rfl,rfl,S,_,(["places","rows"],[.lst (es.map D.int),.lst (ts.map (mV es))]),pF at_,by rw[<- J];kernel_rfl,by show 1<1000;decide,?_⟩;rw[b7];refine⟨cs,ts,rfl,rfl,S,Y,?_⟩;unfold sf;rw[hb];intro a ha la;refine⟨cs,ts,rfl,rfl,S,by lia,by lia,_,(["places","rows","tables"],[.lst (es.map D.int),.lst (ts.map (mV es)),.ka (nZ (a+1)) (pV es ts (a+1))]),pF at_,by rw[<- J];kernel_rfl,by show 2<1000;decide,?_⟩;rw[b7];refine⟨_,tU at_ (d:=.lst (es.map D.int)) (by kernel_rfl),fO rfl ⟨zs,?_⟩⟩;have el:((es.map D.int).length:Int) - 1=((es.length - 1:Nat):Int):=by rw[iE,J];lia
  refine⟨_,(["places","rows","tables","whole"],[.lst (es.map D.int),.lst (ts.map (mV es)),.ka (nZ (a+1)) (pV es ts (a+1)),rS a 0 (es.length - 1)]),pF at_,by show putN "whole" (.tup [.int a,.int 0,.int (((es.map D.int).length:Int) - 1)]) _ _=_;rw[el];kernel_rfl,by show 3<1000;decide,?_⟩;rw[b7];have O:∀ {m W:MO},(μ.set k m++[W])[k]?=some m:=λ{m W}=>by rw[uO (by rw[bL];exact U)];exact at_
  refine⟨_,(BA,D2 es ts a μ.length),pF O,by rw[bL];kernel_rfl,by show 4<1000;decide,.keep ?_⟩;have kk:=kk a ha (J▸la);rw[List.set_append_left _ _ (by rw[bL];exact U),b7,J];exact kk
 .cases h
def oQ{f:ai}{fd:ag}(F:jY K "count_anew" "BestMakes.count_anew" gI f fd)(T:lR mg)(O:iC K fI){l:Nat}(hl:1<=l)(gq:hZ P w K mg fF)(fW:gF P w K mg fF)(gu:iB P w K mg fF)(fS:yr P w K mg fF fI "counted" l ["self","stretch"] (iL (uS fI n))):gD P w K mg fF kO (l+1) f fd ["self","stretch"] (iL (uS fI (n+1))):=by
 refine F.pE gQ (λds μ Kd h=>by unfold uS at h;split at h <;> first | rfl | exact h.elim) (λjc A fN s H E L=>⟨_,(fK (jh (jT (ji gq O.cl L.le (dv 0) (a1 (dv 1))))
  (fU (gw (zK T (ji fW O.cl L.le (dv 0) (a1 (dv 1))))))
  ig)
  (fK (qS 2 gQ.nd fP)
  (fK (mU bJ rfl (jI (ji gu O.cl L.le (dv 0) (a1 (dv 1)))) ⟨(ic (n:=3) rfl (fQ (qN 3 gQ.nd) (fQ (qN 4 gQ.nd) (fQ (qN 5 gQ.nd) gH)))),(iZ (fZ (fY 3) (fH 3) (fZ (fY 4) (fH 4) (fZ (fY 5) (fH 5) i7 fT) (fL (fH 5) fT)) (fL (fH 4) (fL (fH 5) fT)))),(iG (fL (fH 3) (fL (fH 4) (fL (fH 5) fT))))⟩
  (fU (Cs (i:=2) gQ.nd rfl lo (p5 L6 sO (ji fS O.cl L.le (dv 0) (a1 (dv 4))) (ji fS O.cl L.le (dv 0) (a1 (dv 5)))) tJ xj)))
  (fU (gw (dv 2)))))),λds μ Kd hm hl h=>?_⟩)
 unfold uS at h;split at h
 .rename_i k s;obtain⟨es,ts,A,j,a,i,b,ks,dd,B,rfl,Zf,h1,U,hj,mm,kk⟩:=h;have Ec:=B.Ec;have hb:=B.hb;have ha:=B.ha;have oB:=B.hl;have Z:=B.ht;have hA:=B.hA;have hG:=B.ok;refine⟨mH B.at_ (mK (by simp)),es,ts,A,j,a,i,b,B,rfl,?_⟩;refine kT (c:=gy es ts (a+1) i b=0) (λq=>?_) (λq=>?_)
  .refine⟨mH B.at_ (mK (by simp)),es,ts,A,j,a,i,b,B,rfl,fO rfl (.keep ?_)⟩;have kk:=kk ks dd mm;rw[kc hj]at kk;unfold jg at kk;rw[aB q]at kk;rw[iE];exact kk
  .have ha1:a≠0:=λz=>by subst z;exact q (h1.z i b (by lia) hb hG)
   obtain⟨G,rfl⟩:∃ G,a=G+1:=⟨a - 1,by lia⟩
   refine⟨mH B.at_ (mK (by simp)),es,ts,A,j,G+1,i,b,B,rfl,by lia,?_⟩
   rw[AZ]
   obtain⟨M,hM⟩:∃ M,M=oz (gy es ts (G+1+1)) (gy es ts (G+1)) i b:=⟨_,rfl⟩
   rw[<- hM]
   obtain⟨g,hg⟩:∃ g:Nat->Int,g=λx=>jg es ts (G+1) i x*jg es ts (G+1) x b:=⟨_,rfl⟩
   have R4:∀ x∈M,i<x/\x<b/\gy es ts (G+1) i x+gy es ts (G+1) x b+1=gy es ts (G+1+1) i b:=λx hx=>ju.mp (hM▸hx)
   refine fO rfl ?_
   refine iU (λds ρ fX=>∃(z:Nat) (mw:ao (ao Key)) (lU:ao D) (u v w:aq D),ds=(M.drop z).map (λk=>D.tup [.int (es.getD k 0),rS G i k,rS G k b])/\Memo es ts A mw lU/\ρ=[some (.mr k),some (rS ((G+1:Nat):Int) i b),some (.int ((M.take z).map g).sum),u,v,w]/\fX=μ.set j (.lF mw lU)) ⟨0,ks,dd,none,none,none,rfl,mm,rfl,(kc hj).symm⟩ ?_ ?_
   .rintro d wK ρ fX ⟨z,mw,lU,u,v,w,e,L7,rfl,rfl⟩;refine⟨trivial,λnx pG=>?_⟩;have J:z<M.length:=by
     by_cases y:z<M.length
     .exact y
     .rw[bC (by lia)]at e;cases e
    rw[bu J,aw,cx]at e;obtain⟨rfl,rfl⟩:=e;obtain⟨Y,W,x3⟩:=R4 _ (bI J);have Qx:=xb (f:=g) J;generalize M[z]=x at Y W x3 Qx ⊢
    have n1:=h1.nn (G+1) i x (by lia) (by lia);have n2:=h1.nn (G+1) x b (by lia) hb;have Eb:j<μ.length:=(kN hj).1;have B':=B.put (m:=.lF mw lU) U;have Bl:Bm fI (μ.set j (.lF mw lU)) k es ts A j G i x:=⟨B'.at_,by lia,Y,by lia,oB,Z,hA,by lia⟩;refine⟨rfl,mH B'.at_ (mK (by simp)),es,ts,A,j,G,i,x,mw,lU,Bl,rfl,by lia,h1,U,aG Eb,L7,λD8 Ed IW=>?_⟩;rw[b7];have B2:=B.put (m:=.lF D8 Ed) U;have Br:Bm fI (μ.set j (.lF D8 Ed)) k es ts A j G x b:=⟨B2.at_,by lia,W,hb,oB,Z,hA,by lia⟩;refine⟨mH B2.at_ (mK (by simp)),es,ts,A,j,G,x,b,D8,Ed,Br,rfl,by lia,h1,U,aG Eb,IW,λQa QD RU=>?_⟩;rw[b7];refine⟨Bh oB Z (G+1) i x b Y W hb,?_⟩;refine pG _ _ ⟨z+1,Qa,QD,some (.int (es.getD x 0)),some (rS G i x),some (rS G x b),rfl,RU,?_,rfl⟩;rw[Qx,hg];rfl
   .rintro ρ fX ⟨z,mw,lU,u,v,w,e,L7,rfl,rfl⟩;refine⟨trivial,?_⟩;have J:M.length<=z:=by have:=cf List.length e;rw[iE,bD]at this;simp at this;lia
    rw[bQ J];have kk:=kk mw lU L7;unfold jg at kk;rw[aC q,<- hM]at kk;rw[hg];exact .keep kk
 .cases h
def mG{f:ai}{fd:ag}(F:jY K "counted" "BestMakes.counted" hX f fd)(T:lR mg)(L:iC K fI){l:Nat}(pU:yr P w K mg fF fI "count_anew" l ["self","stretch"] (iL (uS fI n))):gD P w K mg fF kO (l+1) f fd ["self","stretch"] (iL (uS fI n)):=by
 refine F.pE qk (λds μ Kd h=>by unfold uS at h;split at h <;> first | rfl | exact h.elim) (λjc A fN s H E O=>⟨_,(yf (jh (KI (tK O) (dv 1) (og L.cl L.tu (dv 0)) (by with_unfolding_all rfl))
  (fU (Ti (tK O) (ji pU L.cl O.le (dv 0) (a1 (dv 1))) (og L.cl L.tu (dv 0)) (dv 1)))
  ig)
  (fU (gw (XT (tK O) (og L.cl L.tu (dv 0)) (dv 1) (λ_ _=>rfl))))),λds μ Kd hm hl h=>?_⟩)
 unfold uS at h;split at h
 .rename_i k s;obtain⟨es,ts,A,j,a,i,b,ks,dd,B,rfl,Zf,h1,Z,U,mm,kk⟩:=h;have ha:=B.ha;have Ec:=B.Ec;have hb:=B.hb;have oB:=B.hl;have hA:=B.hA;have Eb:j<μ.length:=(kN U).1;have bd:∀ {G:ao (ao Key)} {J:ao D},Memo es ts A G J->G.length<sizeLine:=λm=>by have h2:=m.bd;have h3:(A+1)*es.length*es.length<=101*100*100:=Nat.mul_le_mul (Nat.mul_le_mul (by lia) oB) oB;exact ck (aX h2 h3) (by decide)
  have fin:∀ {G:ao (ao Key)} {J:ao D},Memo es ts A G J->stK a i b∈G->XW (wL X3 (Yb fI "counts" (vS 0)) (vS 1)) (EC μ.length Kd) [some (.mr k),some (rS a i b)] (μ.set j (.lF G J)):=λ{G J} m Y=>by
   have B':=B.put (m:=.lF G J) Z;rcases m.get a i b with⟨z,_⟩|⟨_,z⟩
   .exact absurd Y z
   .refine⟨_,tU B'.at_ u5,_,?_,.keep (kk G J m)⟩;unfold VP Nk;rw[aG Eb];exact cf some z
  refine⟨λjV fX=>∃ G J,Memo es ts A G J/\stK a i b∈G/\jV=[some (.mr k),some (rS a i b)]/\fX=μ.set j (.lF G J),?_,?_⟩
  .have ei:VP μ j (rS a i b)=some (sM ks dd (stK a i b)):=by unfold VP Nk;rw[U];rfl
   refine⟨_,tU B.at_ u5,_,ei,?_⟩
   rcases mm.get a i b with⟨z1,W⟩|⟨z1,W⟩
   .rw[W];refine iteT ?_;refine⟨mH B.at_ (mK (by simp)),es,ts,A,j,a,i,b,ks,dd,B,rfl,Zf,h1,Z,U,mm,λD8 Ed IW=>?_⟩;have B2:=B.put (m:=.lF D8 Ed) Z;refine⟨_,tU B2.at_ u5,D8,Ed,stK a i b,aG Eb,bd IW,rfl,?_⟩;rw[b7];obtain⟨m1,m2⟩:=IW.put (i:=i) ha (by lia) hb;exact⟨_,_,m1,m2,rfl,rfl⟩
   .rw[W];refine iteF ?_;exact⟨ks,dd,mm,z1,rfl,(kc U).symm⟩
  .rintro jV fX ⟨G,J,m,Y,rfl,rfl⟩;exact fin m Y
 .cases h
theorem zp{f1 f2:ai}{L J:ag}(U:jY K "counted" "BestMakes.counted" hX f1 L)(F2:jY K "count_anew" "BestMakes.count_anew" gI f2 J)(T:lR mg)(G:iC K fI)(m1:Meth K fI "counted" f1)(m2:Meth K fI "count_anew" f2)(b1:Binds K L ["self","stretch"] [])(O:Binds K J ["self","stretch"] [])(Y:hZ P w K mg fF)(Z:gF P w K mg fF)(W:iB P w K mg fF):∀ n,gD P w K mg fF kO (2*n+2) f1 L ["self","stretch"] (iL (uS fI n))
 |0=>mG U T G (l:=1) ⟨f2,J,.never Jx,m2,O⟩
 |n+1=>mG U T G (l:=2*n+3) ⟨f2,J,oQ F2 T G (by lia) Y Z W ⟨f1,L,zp U F2 T G m1 m2 b1 O Y Z W n,m1,b1⟩,m2,O⟩
def yK(F:jY K "count_best" "count_best" jS f fd)(T:lR mg)(L:iC K fI)(nG:qJ P w K mg fF)(iV:jz P w K mg fF)(fS:ia P w K mg fF):gD P w K mg fF kO 145 f fd (pA jS) (iL pI):=by
 refine F.pE rM (λds μ Kd h=>by unfold pI at h;split at h <;> first | rfl | exact h.elim) (λjc A fN s H E J=>⟨_,(fK (jh (w5 (qC nG J (a3 (dv 0) (dv 1) (dv 2))))
  (fU (gw fP))
  ig)
  (fK (qS 3 rM.nd (Fv iV J.le rfl (a3 (dv 0) (dv 1) (dv 2))))
  (fU (gw (ji fS L.cl J.le (dv 3) (a1 (og L.cl L.sZ (dv 3)))))))),λds μ Kd hm hl h=>?_⟩)
 unfold pI at h;split at h
 .rename_i n x y;obtain⟨cs,ts,rfl,rfl,S,W,kk⟩:=h;have nH:=S.nH;have Z:(fC n cs).length=cs.length+2:=gv n cs;have ft:=S.takes.nH;refine⟨cs,ts,rfl,rfl,nH,S.takes,S.n2,?_⟩;unfold cntK at kk;cases hb:iQ (fC n cs) ts with
  | some p =>rw[hb]at kk;exact .keep kk
  | none =>
   rw[hb]at kk;dsimp only at kk;refine⟨cs,ts,rfl,rfl,S,W,hb,by rw[pW (ar _),aY];rfl,λa ha O=>⟨rfl,?_⟩⟩;have kk:=kk a ha O;obtain⟨es,he⟩:∃ es,es=fC n cs:=⟨_,rfl⟩;have tl:=qR S O;have Y:=(xl S (a+1) 0 (cs.length+1) (by lia) (by lia)).2 (by lia);have tb:=wX S;rw[<- he]at tl Y tb kk Z ⊢
   obtain⟨g,U⟩:∃ g,g=(μ++[MO.ins fI [] []]).set μ.length (.ins fI BA (D2 es ts a (μ++[MO.ins fI [] []]).length))++[.lF [] []]:=⟨_,rfl⟩;rw[<- U];have G:g=μ++[.ins fI BA (D2 es ts a (μ.length+1)),.lF [] []]:=by rw[U,dN _ _ (ar _),aY,cK,o4];rfl
   have e0:g[μ.length]?=some (.ins fI BA (D2 es ts a (μ.length+1))):=by rw[G,pW (ar _),aY];rfl
   have e1:g[μ.length+1]?=some (.lF [] []):=by rw[G,pW (by lia),show μ.length+1 - μ.length=1 by lia];rfl
   have B:Bm fI g μ.length es ts a (μ.length+1) a 0 (es.length - 1):=⟨e0,ar _,by lia,by lia,by lia,by lia,by lia,by rw[show es.length - 1=cs.length+1 by lia];lia⟩;refine⟨mH e0 (mK (by simp)),_,tU e0 um,es,ts,a,μ.length+1,a,0,es.length - 1,[],[],B,rfl,by lia,tb,by lia,e1,.nil,λmw lU m=>?_⟩;refine .drop True.intro ?_ ?_
   .intro j m' hj e;rw[aJ (by lia),G,uO hj]at e;exact hm j m' e
   .rw[List.take_set_of_le (by lia),G,bZ];exact kk
 .cases h
def p3{f:ai}{fd:ag}(F:jY K "numbered" "BestMakes.numbered" gU f fd)(T:lR mg)(U:iC K fI){l:Nat}(hl:144<=l)(hn:n<=70)(gq:hZ P w K mg fF)(fW:gF P w K mg fF)(gu:iB P w K mg fF)(fS:ia P w K mg fF)(jB:yr P w K mg fF fI "numbered" l ["self","stretch","number"] (iL (vF fI n))):gD P w K mg fF kO (l+1) f fd ["self","stretch","number"] (iL (vF fI (n+1))):=by
 refine F.pE gO (λds μ Kd h=>by unfold vF at h;split at h <;> first | rfl | exact h.elim) (λjc A fN s H E O=>⟨_,(fK (jh (jT (ji gq U.cl O.le (dv 0) (a1 (dv 1))))
  (fU (gw (jC (ji fW U.cl O.le (dv 0) (a1 (dv 1))) (dv 2))))
  ig)
  (fK (qS 3 gO.nd (dv 2))
  (fU (mU bJ rfl (jI (ji gu U.cl O.le (dv 0) (a1 (dv 1)))) ⟨(ic (n:=3) rfl (fQ (qN 4 gO.nd) (fQ (qN 5 gO.nd) (fQ (qN 6 gO.nd) gH)))),(iZ (fZ (fY 4) (fH 4) (fZ (fY 5) (fH 5) (fZ (fY 6) (fH 6) i7 fT) (fL (fH 6) fT)) (fL (fH 5) (fL (fH 6) fT)))),(iG (fL (fH 4) (fL (fH 5) (fL (fH 6) fT))))⟩
  (fK (qS 7 gO.nd (ji fS U.cl O.le (dv 0) (a1 (dv 6))))
  (fK (jh (VM (dv 3) (p5 L6 sO (ji fS U.cl O.le (dv 0) (a1 (dv 5))) (dv 7)))
  (fU (gw (kU (a3 (dv 4) (ji jB U.cl O.le (dv 0) (a2 (dv 5) (p5 CJ OV (dv 3) (dv 7)))) (ji jB U.cl O.le (dv 0) (a2 (dv 6) (p5 CZ RA (dv 3) (dv 7))))))))
  ig)
  (fU (Cs (i:=3) gO.nd rfl lo (p5 L6 sO (ji fS U.cl O.le (dv 0) (a1 (dv 5))) (dv 7)) Qh xj)))))))),λds μ Kd hm hl h=>?_⟩)
 unfold vF at h;split at h
 .rename_i k s r;obtain⟨es,ts,A,j,a,i,b,ks,dd,B,rfl,Zf,h1,W,hj,mm,r0,r1,kk⟩:=h;have Ec:=B.Ec;have hb:=B.hb;have ha:=B.ha;have L:=B.hl;have J:=B.ht;have hA:=B.hA;have hG:=B.ok;refine⟨mH B.at_ (mK (by simp)),es,ts,A,j,a,i,b,B,rfl,?_⟩;refine kT (c:=gy es ts (a+1) i b=0) (λq=>?_) (λq=>?_)
  .refine⟨mH B.at_ (mK (by simp)),es,ts,A,j,a,i,b,B,rfl,?_⟩;have kk:=kk ks dd mm;rw[kc hj]at kk;unfold jg at r1;rw[aB q]at r1;unfold FE at kk;rw[aB q]at kk;have e1:(tw es ts a i b)[r.toNat]?=some ((tw es ts a i b).getD r.toNat 0):=by rw[av,jo (by lia)];rfl
   have e2:lS ((tw es ts a i b).map λx=>D.int (x:Nat)) r=some (.int ((tw es ts a i b).getD r.toNat 0:Nat)):=by have:=nE (g:=λx:Nat=>D.int (x:Nat)) e1;rwa [cz r0]at this
   exact fO e2 (.keep kk)
  .have ha1:a≠0:=λz=>by subst z;exact q (h1.z i b (by lia) hb hG)
   obtain⟨G,rfl⟩:∃ G,a=G+1:=⟨a - 1,by lia⟩
   refine⟨mH B.at_ (mK (by simp)),es,ts,A,j,G+1,i,b,B,rfl,by lia,?_⟩
   rw[AZ]
   obtain⟨M,hM⟩:∃ M,M=oz (gy es ts (G+1+1)) (gy es ts (G+1)) i b:=⟨_,rfl⟩
   rw[<- hM]
   obtain⟨g,hg⟩:∃ g:Nat->Int,g=λx=>jg es ts (G+1) i x*jg es ts (G+1) x b:=⟨_,rfl⟩
   have R4:∀ x∈M,i<x/\x<b/\gy es ts (G+1) i x+gy es ts (G+1) x b+1=gy es ts (G+1+1) i b:=λx hx=>ju.mp (hM▸hx)
   have gnn:∀ x∈M,0<=g x:=λx hx=>by have:=R4 x hx;rw[hg];exact fg (mI L J (G+1) i x this.1 (by lia)).1 (mI L J (G+1) x b this.2.1 hb).1
   unfold jg at r1
   rw[aC q,<- hM,<- hg]at r1
   unfold FE at kk
   rw[aC q,<- hM,<- hg]at kk
   refine fO rfl ?_
   refine iU (λds ρ fX=>∃(z:Nat) (mw:ao (ao Key)) (lU:ao D) (u v w m:aq D),ds=(M.drop z).map (λk=>D.tup [.int (es.getD k 0),rS G i k,rS G k b])/\Memo es ts A mw lU/\0<=r - ((M.take z).map g).sum/\ρ=[some (.mr k),some (rS ((G+1:Nat):Int) i b),some (.int r),some (.int (r - ((M.take z).map g).sum)),u,v,w,m]/\fX=μ.set j (.lF mw lU)) ⟨0,ks,dd,none,none,none,none,rfl,mm,by simpa using r0,by simp;rfl,(kc hj).symm⟩ ?_ ?_
   .rintro d wK ρ fX ⟨z,mw,lU,u,v,w,m,e,L7,rn,rfl,rfl⟩;refine⟨trivial,λnx pG=>?_⟩;have Z:z<M.length:=by
     by_cases y:z<M.length
     .exact y
     .rw[bC (by lia)]at e;cases e
    rw[bu Z,aw,cx]at e;obtain⟨rfl,rfl⟩:=e;obtain⟨x1,Y,x3⟩:=R4 _ (bI Z);have Qx:=xb (f:=g) Z;have ez:M[z]?=some M[z]:=jo Z;generalize M[z]=x at x1 Y x3 Qx ez ⊢
    have n1:=h1.nn (G+1) i x (by lia) (by lia);have n2:=h1.nn (G+1) x b (by lia) hb;have Eb:j<μ.length:=(kN hj).1;have Bl:∀ {ks:ao (ao Key)} {dd:ao D},Bm fI (μ.set j (.lF ks dd)) k es ts A j G i x:=λ{ks dd}=>⟨(B.put (m:=.lF ks dd) W).at_,by lia,x1,by lia,L,J,hA,by lia⟩;have Br:∀ {ks:ao (ao Key)} {dd:ao D},Bm fI (μ.set j (.lF ks dd)) k es ts A j G x b:=λ{ks dd}=>⟨(B.put (m:=.lF ks dd) W).at_,by lia,Y,hb,L,J,hA,by lia⟩;have at_:∀ {m:MO},(μ.set j m)[j]?=some m:=aG Eb;have c2:=mI L J (G+1) x b Y hb;refine⟨rfl,mH Br.at_ (mK (by simp)),es,ts,A,j,G,x,b,mw,lU,Br,rfl,by lia,h1,W,at_,L7,λD8 Ed IW=>?_⟩;rw[b7];refine⟨mH Bl.at_ (mK (by simp)),es,ts,A,j,G,i,x,D8,Ed,Bl,rfl,by lia,h1,W,at_,IW,λQa QD RU=>?_⟩;rw[b7];refine⟨Bh L J (G+1) i x b x1 Y hb,?_⟩;obtain⟨v,hv⟩:∃ v,v=r - ((M.take z).map g).sum:=⟨_,rfl⟩;rw[<- hv]at rn ⊢
    have gx:g x=jg es ts (G+1) i x*jg es ts (G+1) x b:=by rw[hg]
    refine kT (c:=v<jg es ts (G+1) i x*jg es ts (G+1) x b) (λq2=>?_) (λq2=>?_)
    .have pos:0<jg es ts (G+1) x b:=by
      rcases Int.lt_or_eq_of_le c2.1 with y|y
      .exact y
      .rw[<- y,Int.mul_zero]at q2;lia
     have d1:0<=v / jg es ts (G+1) x b:=Int.ediv_nonneg rn c2.1
     have d2:v / jg es ts (G+1) x b<jg es ts (G+1) i x:=Int.ediv_lt_of_lt_mul pos q2
     have m1:=Int.emod_nonneg v (show jg es ts (G+1) x b≠0 by lia)
     have m2:=eK v pos
     have pk:=(we (f:=g) gnn ez rn (by rw[gx];exact q2)).1
     rw[show((M.take z).map g).sum+v=r by lia]at pk
     rw[pk]at kk
     dsimp only at kk
     refine⟨mH Bl.at_ (mK (by simp)),Vk L J Y hb pos,es,ts,A,j,G,i,x,Qa,QD,Bl,rfl,by lia,h1,W,at_,RU,d1,d2,λUk U7 Uh=>?_⟩
     rw[b7]
     refine⟨mH Br.at_ (mK (by simp)),pos,es,ts,A,j,G,x,b,Uk,U7,Br,rfl,by lia,h1,W,at_,Uh,m1,m2,λks5 dd5 mm5=>?_⟩
     rw[b7]
     exact⟨zs,.keep (kk ks5 dd5 mm5)⟩
    .refine pK ?_;refine⟨mH Bl.at_ (mK (by simp)),es,ts,A,j,G,i,x,Qa,QD,Bl,rfl,by lia,h1,W,at_,RU,λUk U7 Uh=>?_⟩;rw[b7];refine⟨Bh L J (G+1) i x b x1 Y hb,?_⟩;refine pG _ _ ⟨z+1,Uk,U7,some (.int (es.getD x 0)),some (rS G i x),some (rS G x b),some (.int (jg es ts (G+1) x b)),rfl,Uh,by rw[Qx,gx];lia,?_,rfl⟩;rw[Qx,gx,show r - (((M.take z).map g).sum+jg es ts (G+1) i x*jg es ts (G+1) x b)=v - jg es ts (G+1) i x*jg es ts (G+1) x b by lia];rfl
   .rintro ρ fX ⟨z,mw,lU,u,v,w,m,e,L7,rn,rfl,rfl⟩;exfalso;have Z:M.length<=z:=by have:=cf List.length e;rw[iE,bD]at this;simp at this;lia
    rw[bQ Z]at rn;lia
 .cases h
theorem GR{f1:ai}{G:ag}(Z:jY K "numbered" "BestMakes.numbered" gU f1 G)(T:lR mg)(W:iC K fI)(m1:Meth K fI "numbered" f1)(Y:Binds K G ["self","stretch","number"] [])(L:hZ P w K mg fF)(O:gF P w K mg fF)(J:iB P w K mg fF)(U:ia P w K mg fF)   : ∀ n,n<=71->gD P w K mg fF kO (n+145) f1 G ["self","stretch","number"] (iL (vF fI n))
 |0,_=>.never Fo
 |n+1,h=>p3 Z T W (l:=n+145) (by lia) (by lia) L O J U ⟨f1,G,GR Z T W m1 Y L O J U n (by lia),m1,Y⟩
def AH(F:jY K "take_rank" "take_rank" ke f fd)(T:lR mg)(W:OwnCls "BadMake" iH rQ "ValueError.__new__" mg fF):gD P w K mg fF (yA P w) 1 f fd (pA ke) (Ae (oV iH)):=by
 refine F.Y1 Aq (λds μ Kd Kx h=>yP h) (λjc A fN s H E Y ij Kb Z=>⟨_,(fK (jh (lO (niM (Kr (n:=1) Y (by decide))) Tb (dv 1) (dv 0) (by with_unfolding_all rfl))
  (fU (qY Z rfl W a9 (by decide) a9 rfl (a1 gR)))
  ig)
  (fU (gw (Bd cW eM PySem.F.type_list_index Mu Co (dv 0) (a1 (dv 1)))))),λds μ m Kd Kx J hl G h L=>?_⟩)
 unfold oV at h;split at h
 .rename_i y x;obtain⟨_,l,t,rfl,ll,rfl,kk⟩:=h;cases t with
  |p9 p u v=>exact⟨List.all_eq_true.mpr λd hd=>by obtain⟨x,_,rfl⟩:=List.mem_map.mp hd;rfl,zs,tQ L G kk⟩
  | num n =>
   refine⟨rfl,List.all_eq_true.mpr λd hd=>by obtain⟨x,_,rfl⟩:=List.mem_map.mp hd;rfl,?_⟩;rw[To];cases e:Ww l (.num n)with
   |none=>rw[e]at kk;exact⟨zs,tQ L G kk⟩
   | some r =>
    rw[e]at kk;have e:(l.findIdx? λx:Nat=>decide ((x:Int)=n)).map (λi=>((i:Nat):Int))=some r:=e;cases e2:l.findIdx? λx:Nat=>decide ((x:Int)=n)with
    |none=>rw[e2]at e;cases e
    | some z =>rw[e2]at e;cases e;obtain⟨e3,U,e5⟩:=List.findIdx?_eq_some_iff_getElem.mp e2;rw[bq]at U;refine⟨(by first|trivial|rfl),l.map λx:Nat=>(x:Int),z,by rw[bx];rfl,by rw[oC,jo e3];exact cf some U,λm J O=>?_,.keep (zA G kk)⟩;have:=e5 m J;rw[bq]at this;rw[oC,jo (by lia)]at O;exact this (aN O)
 .cases h
def sY{f:ai}{fd:ag}(F:jY K "rank" "BestMakes.rank" iO f fd)(T:lR mg)(O:iC K fI)(iI:OwnCls "BadMake" iH rQ "ValueError.__new__" mg fF){l:Nat}(hl:144<=l)(hn:n<=70)(gq:hZ P w K mg fF)(fW:gF P w K mg fF)(gu:iB P w K mg fF)(fS:ia P w K mg fF)(oj:qH P w K mg fF)(kJ:Ia P w K mg fF fI "rank" l ["self","stretch","make"] (Ae (tV fI iH n))):gD P w K mg fF (yA P w) (l+1) f fd ["self","stretch","make"] (Ae (tV fI iH (n+1))):=by
 refine F.Y1 iW (λds μ Kd Kx h=>Jw h) (λjc A fN s H E J ij Kb Z=>⟨_,(fK (jh (jT (ji gq O.cl J.le (dv 0) (a1 (dv 1))))
  (fU (gw (Bf Z.z oj J.le rfl (a2 (ji fW O.cl J.le (dv 0) (a1 (dv 1))) (dv 2)))))
  ig)
  (fK (jh (zb (jT (HF (T:= "tuple") (by simp) (by rfl) T.isinstance (by rfl) T.tuple dw (dv 2))))
  (fU (qY Z rfl iI a9 (by decide) a9 rfl (a1 gR)))
  ig)
  (fK (qS 3 iW.nd fP)
  (fK (mU PassesOwn.leaving rfl (jI (ji gu O.cl J.le (dv 0) (a1 (dv 1)))) ⟨(ic (n:=3) rfl (fQ (qN 4 iW.nd) (fQ (qN 5 iW.nd) (fQ (qN 6 iW.nd) gH)))),(iZ (fZ (fY 4) (fH 4) (fZ (fY 5) (fH 5) (fZ (fY 6) (fH 6) i7 fT) (fL (fH 6) fT)) (fL (fH 5) (fL (fH 6) fT)))),(iG (fL (fH 4) (fL (fH 5) (fL (fH 6) fT))))⟩
  (fK (jh (CB (dv 4) (jC (dv 2) fP))
  (fU (gw (m6 (m6 (dv 3) (p5 L6 sO (Be Z.z kJ O.cl J.le (dv 0) (a2 (dv 5) (jC (dv 2) fP))) (ji fS O.cl J.le (dv 0) (a1 (dv 6))))) (Be Z.z kJ O.cl J.le (dv 0) (a2 (dv 6) (jC (dv 2) fP))))))
  ig)
  (fU (Cs (i:=3) iW.nd rfl lo (p5 L6 sO (ji fS O.cl J.le (dv 0) (a1 (dv 5))) (ji fS O.cl J.le (dv 0) (a1 (dv 6)))) tJ xj))))
  (fU (qY Z rfl iI a9 (by decide) a9 rfl (a1 gR))))))),λds μ m Kd Kx hm hl em h hK=>?_⟩)
 unfold tV at h;split at h
 .rename_i k s x;obtain⟨_,es,ts,A,j,a,i,b,ks,dd,t,B0,rfl,rfl,Zf,h1,hu,W,MG,R8,hj,mm,kk⟩:=h;have B:Bm fI (μ.set 0 (.gx ij H)) k es ts A j a i b:=B0.O0 MG;have Ec:=B.Ec;have hb:=B.hb;have ha:=B.ha;have oB:=B.hl;have wz:=B.ht;have hA:=B.hA;have hG:=B.ok;have Eb:j<μ.length:=(kN hj).1;have U:∀ {X:MO},(μ.set j X)[0]?=some m:=by intro X;rw[aJ R8];exact em
  have sw:∀ {X:MO},(μ.set 0 (.gx ij H)).set j X=(μ.set j X).set 0 (.gx ij H):=by intro X;exact List.set_comm _ _ (bj R8)
  have aj:∀ {X:MO},((μ.set j X).set 0 (.gx ij H))[j]?=some X:=by intro X;rw[aJ (bj R8),aG Eb]
  have sj:∀ {X Y:MO},((μ.set j X).set 0 (.gx ij H)).set j Y=(μ.set j Y).set 0 (.gx ij H):=by intro X Y;exact(List.set_comm _ _ (bj R8)).trans (by rw[b7])
  have e0:μ.set 0 (.gx ij H)=(μ.set j (.lF ks dd)).set 0 (.gx ij H):=by rw[kc hj]
  refine⟨mH B.at_ (mK (by simp)),es,ts,A,j,a,i,b,B,rfl,?_⟩;refine kT (c:=gy es ts (a+1) i b=0) (λq=>?_) (λq=>?_)
  .refine⟨mH B.at_ (mK (by simp)),es,ts,A,j,a,i,b,B,rfl,jJ em,⟨_,jJ em⟩,tw es ts a i b,t,rfl,by have:=GX es ts a i b;lia,rfl,?_⟩;unfold yw at kk;rw[aB q]at kk;cases e:Ww (tw es ts a i b) t with
   | none =>rw[e]at kk;have kk:=kk ks dd mm;rw[kc hj]at kk;exact(tQ hK em kk).2
   | some r =>rw[e]at kk;have kk:=kk ks dd mm;rw[kc hj]at kk;exact .keep (zA em kk)
  .have ha1:a≠0:=λz=>by subst z;exact q (h1.z i b (by lia) hb hG)
   obtain⟨G,rfl⟩:∃ G,a=G+1:=⟨a - 1,by lia⟩
   unfold yw at kk
   rw[aC q]at kk
   refine fO (Gd t _) ?_
   cases t with
   | num v =>have kk:=kk ks dd mm;rw[kc hj]at kk;exact⟨zs,tQ hK em kk⟩
   | p9 p u v =>
    dsimp only at kk;refine⟨mH B.at_ (mK (by simp)),es,ts,A,j,G+1,i,b,B,rfl,by lia,?_⟩;rw[AZ];obtain⟨M,hM⟩:∃ M,M=oz (gy es ts (G+1+1)) (gy es ts (G+1)) i b:=⟨_,rfl⟩;rw[<- hM]at kk ⊢
    obtain⟨g,hg⟩:∃ g:Nat->Int,g=λx=>jg es ts (G+1) i x*jg es ts (G+1) x b:=⟨_,rfl⟩;rw[<- hg]at kk;have R4:∀ x∈M,i<x/\x<b/\gy es ts (G+1) i x+gy es ts (G+1) x b+1=gy es ts (G+1+1) i b:=λx hx=>ju.mp (hM▸hx);rw[e0];refine fO rfl ?_;refine iU (λds ρ fX=>∃(z:Nat) (mw:ao (ao Key)) (lU:ao D) (v4 v5 v6:aq D),ds=(M.drop z).map (λk=>D.tup [.int (es.getD k 0),rS G i k,rS G k b])/\Memo es ts A mw lU/\(∀ x∈M.take z,es.getD x 0≠p)/\ρ=[some (.mr k),some (rS ((G+1:Nat):Int) i b),some (wq (.p9 p u v)),some (.int ((M.take z).map g).sum),v4,v5,v6]/\fX=(μ.set j (.lF mw lU)).set 0 (.gx ij H)) ⟨0,ks,dd,none,none,none,rfl,mm,λx hx=>(nomatch hx),rfl,rfl⟩ ?_ ?_
    .rintro d wK ρ fX ⟨z,mw,lU,v4,v5,v6,e,L7,VS,rfl,rfl⟩;refine⟨trivial,λnx pG=>?_⟩;have hz:z<M.length:=by
      by_cases y:z<M.length
      .exact y
      .rw[bC (by lia)]at e;cases e
     rw[bu hz,aw,cx]at e;obtain⟨rfl,rfl⟩:=e;obtain⟨x1,x2,x3⟩:=R4 _ (bI hz);have Qx:=xb (f:=g) hz;have ez:M[z]?=some M[z]:=jo hz;have et:M.take (z+1)=M.take z++[M[z]]:=List.take_succ_eq_append_getElem hz;generalize M[z]=x at x1 x2 x3 Qx ez et ⊢
     have n1:=h1.nn (G+1) i x (by lia) (by lia);have n2:=h1.nn (G+1) x b (by lia) hb;have Bl:∀ {ks:ao (ao Key)} {dd:ao D},Bm fI ((μ.set j (.lF ks dd)).set 0 (.gx ij H)) k es ts A j G i x:=λ{ks dd}=>⟨((B0.put (m:=.lF ks dd) W).O0 MG).at_,by lia,x1,by lia,oB,wz,hA,by lia⟩;have Br:∀ {ks:ao (ao Key)} {dd:ao D},Bm fI ((μ.set j (.lF ks dd)).set 0 (.gx ij H)) k es ts A j G x b:=λ{ks dd}=>⟨((B0.put (m:=.lF ks dd) W).O0 MG).at_,by lia,x2,hb,oB,wz,hA,by lia⟩;have c1:=mI oB wz (G+1) i x x1 (by lia);have c2:=mI oB wz (G+1) x b x2 hb;refine⟨rfl,?_⟩;refine lY (λq2=>?_) (λq2=>?_)
     .rw[show mq es g p M=some (x,((M.take z).map g).sum) by rw[<- q2];exact uq (λx hx y L e=>Fq hu (by have:=R4 x hx;lia) (by have:=R4 y L;lia) e) (by rw[hM];exact EU _ _ i b) ez]at kk;dsimp only at kk;refine⟨mH Bl.at_ (mK (by simp)),jJ U,⟨_,jJ U⟩,es,ts,A,j,G,i,x,mw,lU,u,Bl,rfl,rfl,by lia,h1,hu,W,MG,R8,aj,L7,?_⟩;cases el:yw es ts (G+1) i x u with
      | none =>rw[el]at kk;intro D8 Ed IW;rw[sj];exact(tQ hK U (kk D8 Ed IW)).2
      | some r1 =>
       rw[el]at kk;intro D8 Ed IW;rw[sj];obtain⟨y1,y2,_⟩:=Bz oB wz (G+1) i x u r1 x1 (by lia) el;refine⟨mH Br.at_ (mK (by simp)),es,ts,A,j,G,x,b,D8,Ed,Br,rfl,by lia,h1,W,aj,IW,λQa QD RU=>?_⟩;rw[sj];refine⟨.of_bits (wQ y1 (cF (dm y2) c1.2) (by lia)) (wQ c2.1 c2.2 (by lia)),?_⟩;refine⟨mH Br.at_ (mK (by simp)),jJ U,⟨_,jJ U⟩,es,ts,A,j,G,x,b,Qa,QD,v,Br,rfl,rfl,by lia,h1,hu,W,MG,R8,aj,RU,?_⟩;cases er:yw es ts (G+1) x b v with
       | none =>rw[er]at kk;intro Uk U7 Uh;rw[sj];exact(tQ hK U (kk Uk U7 Uh)).2
       | some r2 =>rw[er]at kk;intro Uk U7 Uh;rw[sj];exact .keep (zA U (kk Uk U7 Uh))
     .refine pK ?_;refine⟨mH Bl.at_ (mK (by simp)),es,ts,A,j,G,i,x,mw,lU,Bl,rfl,by lia,h1,W,aj,L7,λD8 Ed IW=>?_⟩;rw[sj];refine⟨mH Br.at_ (mK (by simp)),es,ts,A,j,G,x,b,D8,Ed,Br,rfl,by lia,h1,W,aj,IW,λQa QD RU=>?_⟩;rw[sj];refine⟨Bh oB wz (G+1) i x b x1 x2 hb,?_⟩;refine pG _ _ ⟨z+1,Qa,QD,some (.int (es.getD x 0)),some (rS G i x),some (rS G x b),rfl,RU,λy L=>?_,?_,rfl⟩
      .rw[et]at L;rcases List.mem_append.mp L with L|L
       .exact VS y L
       .rw[List.mem_singleton.mp L];exact q2
      .rw[Qx,hg];rfl
    .rintro ρ fX ⟨z,mw,lU,v4,v5,v6,e,L7,VS,rfl,rfl⟩;refine⟨trivial,zs,?_⟩;have hz:M.length<=z:=by have:=cf List.length e;rw[iE,bD]at this;simp at this;lia
     rw[bQ hz]at VS;rw[yg VS]at kk;exact tQ hK U (kk mw lU L7)
 .cases h
theorem GQ{f1:ai}{G:ag}(F1:jY K "rank" "BestMakes.rank" iO f1 G)(T:lR mg)(Z:iC K fI)(L:OwnCls "BadMake" iH rQ "ValueError.__new__" mg fF)(m1:Meth K fI "rank" f1)(b1:Binds K G ["self","stretch","make"] [])(U:hZ P w K mg fF)(W:gF P w K mg fF)(O:iB P w K mg fF)(Y:ia P w K mg fF)(J:qH P w K mg fF):∀ n,n<=71->gD P w K mg fF (yA P w) (n+145) f1 G ["self","stretch","make"] (Ae (tV fI iH n))
 |0,_=>.Uc Fm
 |n+1,h=>sY F1 T Z L (l:=n+145) (by lia) (by lia) U W O Y J ⟨f1,G,GQ F1 T Z L m1 b1 U W O Y J n (by lia),m1,b1⟩
def EO(F:jY K "best_of" "best_of" mf f fd)(T:lR mg)(L:iC K fI)(kD:OwnCls "BadNumber" ja rQ "ValueError.__new__" mg fF)(nG:qJ P w K mg fF)(iV:jz P w K mg fF)(fS:ia P w K mg fF)(jB:mJ P w K mg fF):gD P w K mg fF (yA P w) 217 f fd (pA mf) (Ae (ua ja)):=by
 refine F.Y1 xo (λds μ Kd Kx h=>DC h) (λjc A fN s H E W ij Kb Z=>⟨_,(fK (jh (w5 (qC nG W (a3 (dv 0) (dv 1) (dv 2))))
  (fU (qY Z rfl kD a9 (by decide) a9 rfl (a1 gR)))
  ig)
  (fK (qS 4 xo.nd (Fv iV W.le rfl (a3 (dv 0) (dv 1) (dv 2))))
  (fK (jh (PW.pt (yD (VM (dv 3) fP) (wZ (Y0 (dv 3) (ji fS L.cl W.le (dv 4) (a1 (og L.cl L.sZ (dv 4))))))))
  (fU (qY Z rfl kD a9 (by decide) a9 rfl (a1 gR)))
  ig)
  (fU (gw (ji jB L.cl W.le (dv 4) (a2 (og L.cl L.sZ (dv 4)) (dv 3)))))))),λds μ m Kd Kx hm hl U h hK=>?_⟩)
 unfold ua at h;split at h
 .rename_i n x y r;obtain⟨_,cs,ts,rfl,rfl,S,uN,kk⟩:=h;have nH:=S.nH;have o3:(fC n cs).length=cs.length+2:=gv n cs;have ft:=S.takes.nH;obtain⟨J,O⟩:∃ J,J=μ.set 0 (.gx ij H):=⟨_,rfl⟩;have Y:J[0]?=some (.gx ij H):=by rw[O];exact jJ U
  have l0:0<J.length:=(kN Y).1;rw[<- O]at hm ⊢
  refine⟨cs,ts,rfl,rfl,nH,S.takes,S.n2,?_⟩;unfold qL at kk;cases hb:iQ (fC n cs) ts with
  | some p =>rw[hb]at kk;exact⟨zs,by rw[O];exact tQ hK U kk⟩
  | none =>
   rw[hb]at kk;dsimp only at kk;refine⟨cs,ts,rfl,rfl,S,uN,hb,by rw[pW (ar _),aY];rfl,λa ha la=>⟨rfl,?_⟩⟩;have kk:=kk a ha la;obtain⟨es,he⟩:∃ es,es=fC n cs:=⟨_,rfl⟩;have tl:=qR S la;have sd:=(xl S (a+1) 0 (cs.length+1) (by lia) (by lia)).2 (by lia);have tb:=wX S;rw[<- he]at tl sd tb kk o3 ⊢
   obtain⟨g,hg⟩:∃ g,g=(J++[MO.ins fI [] []]).set J.length (.ins fI BA (D2 es ts a (J++[MO.ins fI [] []]).length))++[.lF [] []]:=⟨_,rfl⟩;rw[<- hg];have G:=bmG hm hg;have B:∀ {ks:ao (ao Key)} {dd:ao D},Bm fI (g.set (J.length+1) (.lF ks dd)) J.length es ts a (J.length+1) a 0 (es.length - 1):=λ{ks dd}=>⟨G.e0 ks dd,ar _,by lia,by lia,by lia,by lia,by lia,by rw[show es.length - 1=cs.length+1 by lia];lia⟩;have bad:∀ {ks:ao (ao Key)} {dd:ao D},Kx (.ref ja) μ->Kb (.ref ja) (g.set (J.length+1) (.lF ks dd)):=λ{ks dd} kx=>by rw[hK,<- O];refine .inr ⟨G.ol ks dd,?_⟩;rw[G.tk,O];exact⟨jJ U,by rw[my U];exact kx⟩
   rw[G.nw];refine kT (c:=r<0) (λq=>?_) (λq=>?_)
   .rw[aC (by lia)]at kk;exact⟨zs,G.z0 _ _ _ Y,bad kk⟩
   refine⟨mH B.at_ (mK (by simp)),_,tU B.at_ um,es,ts,a,J.length+1,a,0,es.length - 1,[],[],B,rfl,by lia,tb,by lia,G.e1 _ _,.nil,λD8 Ed m2=>?_⟩;rw[b7];refine kT (c:=jg es ts (a+1) 0 (es.length - 1)<=r) (λq2=>?_) (λq2=>?_)
   .rw[aC (by lia)]at kk;exact⟨zs,G.z0 _ _ _ Y,bad kk⟩
   rw[aB (by lia)]at kk;refine⟨mH B.at_ (mK (by simp)),_,tU B.at_ um,es,ts,a,J.length+1,a,0,es.length - 1,D8,Ed,B,rfl,by lia,tb,by lia,G.e1 _ _,m2,by lia,by lia,λQa QD m3=>?_⟩;rw[b7];refine .drop (ET _) (G.ol _ _) ?_;rw[G.tk,O];exact zA U kk
 .cases h
def AI(F:jY K "number_of" "number_of" kh f fd)(T:lR mg)(W:iC K fI)(iI:OwnCls "BadMake" iH rQ "ValueError.__new__" mg fF)(nG:qJ P w K mg fF)(iV:jz P w K mg fF)(kJ:oX P w K mg fF):gD P w K mg fF (yA P w) 217 f fd (pA kh) (Ae (xV iH)):=by
 refine F.Y1 sQ (λds μ Kd Kx h=>Fp h) (λjc A fN s H E U ij Kb Z=>⟨_,(fK (jh (w5 (qC nG U (a3 (dv 0) (dv 1) (dv 2))))
  (fU (qY Z rfl iI a9 (by decide) a9 rfl (a1 gR)))
  ig)
  (fK (qS 4 sQ.nd (Fv iV U.le rfl (a3 (dv 0) (dv 1) (dv 2))))
  (fU (gw (Be Z.z kJ W.cl U.le (dv 4) (a2 (og W.cl W.sZ (dv 4)) (dv 3))))))),λds μ m Kd Kx hm hl O h hK=>?_⟩)
 unfold xV at h;split at h
 .rename_i n x y d;obtain⟨_,cs,ts,t,rfl,rfl,rfl,S,uN,kk⟩:=h;have nH:=S.nH;have o3:(fC n cs).length=cs.length+2:=gv n cs;have ft:=S.takes.nH;obtain⟨J,L⟩:∃ J,J=μ.set 0 (.gx ij H):=⟨_,rfl⟩;have g0:J[0]?=some (.gx ij H):=by rw[L];exact jJ O
  have l0:0<J.length:=(kN g0).1;rw[<- L]at hm ⊢
  refine⟨cs,ts,rfl,rfl,nH,S.takes,S.n2,?_⟩;unfold AL at kk;cases hb:iQ (fC n cs) ts with
  | some p =>rw[hb]at kk;exact⟨zs,by rw[L];exact tQ hK O kk⟩
  | none =>
   rw[hb]at kk;dsimp only at kk;refine⟨cs,ts,rfl,rfl,S,uN,hb,by rw[pW (ar _),aY];rfl,λa ha Y=>⟨rfl,?_⟩⟩;have kk:=kk a ha Y;obtain⟨es,he⟩:∃ es,es=fC n cs:=⟨_,rfl⟩;have tl:=qR S Y;have sd:=(xl S (a+1) 0 (cs.length+1) (by lia) (by lia)).2 (by lia);have tb:=wX S;have hu:=iK S.n1 S.jD;rw[<- he]at tl sd tb kk o3 hu ⊢
   obtain⟨g,hg⟩:∃ g,g=(J++[MO.ins fI [] []]).set J.length (.ins fI BA (D2 es ts a (J++[MO.ins fI [] []]).length))++[.lF [] []]:=⟨_,rfl⟩;rw[<- hg];have G:=bmG hm hg;have gg:=G.z0 [] [] _ g0;have e0:=G.e0 [] [];have B:Bm fI (g.set (J.length+1) (.lF [] [])) J.length es ts a (J.length+1) a 0 (es.length - 1):=⟨e0,ar _,by lia,by lia,by lia,by lia,by lia,by rw[show es.length - 1=cs.length+1 by lia];lia⟩;rw[G.nw];refine⟨mH e0 (mK (by simp)),_,tU e0 um,gg,⟨_,gg⟩,es,ts,a,J.length+1,a,0,es.length - 1,[],[],t,B,rfl,rfl,by lia,tb,hu,by lia,by lia,by lia,G.e1 [] [],.nil,?_⟩;cases er:yw es ts (a+1) 0 (es.length - 1) t with
   | none =>rw[er]at kk;intro ks dd mm;rw[b7,hK,<- L];refine .inr ⟨G.ol ks dd,?_⟩;rw[G.tk,L];exact⟨jJ O,by rw[my O];exact kk⟩
   | some r =>rw[er]at kk;intro ks dd mm;rw[b7];refine .drop trivial (G.ol ks dd) ?_;rw[G.tk,L];exact zA O kk
 .cases h
def zo(F:jY K "_law_take" "_law_take" ou f fd)(T:lR mg)  : gD P w K mg fF kO 1 f fd (pA ou) (iL xU):=by
 refine gD.imp (sp:=Gs) ?_ λvs H Q E h=>Il h;refine F.ok sP (λvs H Q E h=>?_) (λjc A fN s H vs Q E hr h=>?_)
 .obtain⟨b,n,q,rfl,_⟩:=h;rfl
 .obtain⟨b,n,q,rfl,⟨ns,i,r,z,hb,hq,Y3,hi,hz,Dp⟩,hn,G7,k⟩:=h;refine⟨_,(iT (vn (nU gtC (qm Mr (lX 0) iw (λ_ _=>rfl)) iw (jm _))
   (iT (uH (i:=2) sP.nd rfl (by first|exact Or.inl rfl|exact Or.inr rfl) (qm Mr (lX 0) iw (λ_ _=>rfl)))
   (iT (uI (lp U4 (lX 2) (lX 1)) (xB (lX 0) iw setC))
   (lI (ow (lp CZ (lX 2) (lX 1))))))
   nV)
   (iT (uI (lp CZ (lp N5 (lp mulC (qm Mr (lX 0) iw (λ_ _=>rfl)) iw) iw) iw) (xB (lX 0) iw setC))
   (Pb (vn (nU ltC (qm Mr (lX 0) iw (λ_ _=>rfl)) (hJ PY (by rfl) T.len PySem.boot_len (gm (qm Mr (lX 0) iw (λ_ _=>rfl)) iJ)) (jm _))
   (iT (uH (i:=3) sP.nd rfl (by first|exact Or.inl rfl|exact Or.inr rfl) (qm Mr (qm Mr (lX 0) iw (λ_ _=>rfl)) (qm Mr (lX 0) iw (λ_ _=>rfl)) (λ_ _=>rfl)))
   (iT (Pd (lX 0) iw getC iw tJ setC)
   (iT (vn (nU geC (lX 3) (lp powC iw iw) (jm _))
   (iT (uI (lp U4 (lX 3) (lX 1)) (xB (lX 0) iw setC))
   (lI (ow (lp CZ (lX 3) (lX 1)))))
   nV)
   (lI (uI (lp CZ (lp N5 (qm Mr (lX 0) iw (λ_ _=>rfl)) (lp mulC (lX 3) iw)) iw) (xB (lX 0) iw setC))))))
   nV)
   (iT (uH (i:=4) sP.nd rfl (by first|exact Or.inl rfl|exact Or.inr rfl) (qm Mr (lX 0) iw (λ_ _=>rfl)))
   (iT (uH (i:=5) sP.nd rfl (by first|exact Or.inl rfl|exact Or.inr rfl) (lp CZ (lp N5 (lp mulC (lX 4) (lX 4)) (lp U4 (lX 4) iw)) iw))
   (lI (ow (lp CZ (lp CZ (lp N5 (lp mulC (lX 5) iw) (lX 4)) iw) (lX 1))))))))),?_⟩
  have fin:∀(v:Int) (H':Hp) (J L G:Int),OB b H H'->H' b=some (.lst [.ref q,.int J,.int L,.int G])->0<=J->0<=G->G<2147483647->Q (.int (v%n)) H':=λv H' J L G Y Z h1 h2 W =>k _ _ (Int.emod_nonneg _ (by lia)) (eK _ hn) ⟨ns,J,L,G,Z,(Y q Y3).trans hq,Y3,h1,h2,W⟩ Y
  have O:∀ x:Int,0<=x%2147483647/\x%2147483647<2147483647:=λx=>⟨Int.emod_nonneg _ (by decide),eK _ (by decide)⟩;refine⟨_,.inl hb,?_⟩;refine kT (λh1=>?_) (λh1=>?_)
  .refine⟨_,.inl hb,⟨hn,G7⟩,_,hb,hn,?_⟩;exact fin _ _ _ _ _ OB.refl.upd gc hi hz Dp
  .refine⟨_,.inl hb,.inr ⟨by decide,by decide⟩,pM,_,hb,?_⟩;have U:∀ o,OB b H (upd H b o):=λo=>OB.refl.upd;refine⟨λiS H'=>∃(c:aq V) (J L G:Int),iS=[some (.ref b),some (.int n),none,c,none,none]/\OB b H H'/\H' b=some (.lst [.ref q,.int J,.int L,.int G])/\0<=J/\0<=G/\G<2147483647,?_,?_⟩
   .refine⟨_,.inl gc,_,.inl gc,_,.inl ((U _ q Y3).trans hq),?_⟩;refine kT (λh2=>?_) (λh2=>?_)
    .have h2':i<(ns.length:Int):=by simpa using h2
     obtain⟨c,hc⟩:∃ c,ns[i.toNat]?=some c:=⟨ns[i.toNat]'(by lia),jo _⟩
     have e:lS (ns.map V.int) i=some (.int c):=by have q:=jA (xs:=ns.map V.int) (j:=i.toNat) (v:=.int c) (by rw[oC,hc];rfl);rwa [cz hi]at q
     refine⟨_,.inl gc,_,.inl gc,_,.inl ((U _ q Y3).trans hq),fO e ?_⟩
     refine⟨_,gc,by decide,_,gc,?_⟩
     refine⟨⟨by decide,by decide,by decide⟩,?_⟩
     refine kT (λW=>?_) (λW=>?_)
     .refine⟨⟨hn,G7⟩,_,gc,hn,?_⟩;exact fin _ _ (i+1) _ _ OB.refl.upd.upd.upd gc (by lia) (O _).1 (O _).2
     .refine⟨_,.inl gc,.inr ⟨by decide,by decide⟩,pM,_,gc,?_⟩;exact⟨_,i+1,_,_,rfl,OB.refl.upd.upd.upd,gc,by lia,(O _).1,(O _).2⟩
    .exact⟨_,i,_,_,rfl,OB.refl.upd,gc,hi,(O _).1,(O _).2⟩
   .rintro iS H' ⟨c,J,L,G,rfl,Y,Z,h1,h2,W⟩;refine⟨_,.inl Z,.inl ⟨by lia,by lia⟩,⟨by decide,by decide⟩,pN,.inr ⟨by decide,by decide⟩,pM,hn,?_⟩;exact fin _ _ J _ _ Y Z h1 h2 W
def Pw(F:jY K "_law_take" "_law_take" ou f fd)(T:lR mg)  : gD P w K mg fF kO 1 f fd (pA ou) (iL zB):=by exact(zo F T).imp λvs H Q E h=>Kz h
def CN(n:Nat){f:ai}{fd:ag}(F:jY K "_law_make" "_law_make" rW f fd)(T:lR mg)(L:oF P w K mg fF)(BP:nO P w K mg fF "_law_make" (n+1) ["_law_box_here","_law_many","_law_places","_law_deep"] (iL (Qt uQ n))):gD P w K mg fF kO (n+2) f fd ["_law_box_here","_law_many","_law_places","_law_deep"] (iL (uQ n)):=by
 refine F.pE As (λds μ Kd h=>by unfold uQ at h;split at h <;> first | rfl | exact h.elim) (λjc A fN s H E G=>⟨_,(fK (jh (PW.pt (yD (CB (dv 3) fP) (yD (CB (zK T (dv 2)) fP) (wZ (CB (qC L G (a2 (dv 0) fP)) fP)))))
  (fU (gw (qC L G (a2 (dv 0) (dv 1)))))
  ig)
  (fK (qS 4 As.nd (jC (dv 2) (qC L G (a2 (dv 0) (zK T (dv 2))))))
  (fK (qS 5 As.nd (qC BP G (fJ (dv 0) (fJ (dv 1) (fJ (dv 2) (fJ (Ef (dv 3) fP) g9))))))
  (fU (gw (kU (a3 (dv 4) (dv 5) (qC BP G (fJ (dv 0) (fJ (dv 1) (fJ (dv 2) (fJ (Ef (dv 3) fP) g9)))))))))))),λds μ Kd hm hl h=>?_⟩)
 unfold uQ at h;split at h
 .rename_i k m c d;obtain⟨hb,J,Xm,cs,rfl,U,hd0,hd1,kk⟩:=h;obtain⟨d,rfl⟩:∃ O:Nat,d=(O:Int):=⟨d.toNat,by lia⟩;rw[vD]at kk;have num:∀ v:Int,0<=v->v<m->Fz μ.length Kd (.int v) μ:=λv v0 v1=>.keep (kk (.num v) ⟨v0,by lia⟩ (bA _) (Nat.one_le_two_pow));refine lY (c:=(d:Int)=0) (λ_=>⟨hb,J,by lia,num⟩) (λhd=>?_);refine lY (c:=((cs.map D.int).length:Int)=0) (λ_=>⟨hb,J,by lia,num⟩) (λhc=>?_);rw[iE]at hc;refine⟨hb,by decide,by decide,λu u0 u1=>?_⟩;refine lY (c:=u=0) (λ_=>⟨hb,J,by lia,num⟩) (λ_=>?_);refine⟨hb,by rw[iE];lia,by rw[iE];lia,λw w0 w1=>?_⟩;rw[iE]at w1;obtain⟨p,Z⟩:∃ x,cs[w.toNat]?=some x:=⟨_,jo (by lia)⟩;have ap:lS (cs.map D.int) w=some (.int p):=by have:=nE (g:=D.int) Z;rwa [cz w0]at this
  obtain⟨d,rfl⟩:∃ O,d=O+1:=⟨d - 1,by lia⟩;obtain⟨n,rfl⟩:∃ n',n=n'+1:=⟨n - 1,by lia⟩;have ed:((d+1:Nat):Int) - 1=(d:Int):=by lia
  refine fO ap ?_;refine⟨hb,J,Xm,cs,rfl,U,by lia,by lia,λl l1 l2 Y=>?_⟩;rw[ed,vD]at l2 Y;refine⟨hb,J,Xm,cs,rfl,U,by lia,by lia,λr r1 r2 W=>?_⟩;rw[ed,vD]at r2 W;refine⟨zs,.keep (kk (.p9 p l r) ⟨mR Z,l1,r1⟩ ?_ (OF Y W))⟩;show max l.dep r.dep+1<=d+1;lia
 .cases h
theorem GS{f:ai}{fd:ag}(F:jY K "_law_make" "_law_make" rW f fd)(T:lR mg)(hm:mg "_law_make"=some (.ref f))(hk:W.keepIn K (.ref f)=true)(hb:Binds K fd ["_law_box_here","_law_many","_law_places","_law_deep"] [])(G:oF P w K mg fF):∀ n,gD P w K mg fF kO (n+2) f fd ["_law_box_here","_law_many","_law_places","_law_deep"] (iL (uQ n))
 |0=>CN 0 F T G ⟨f,fd,⟨λ_ _ _ _ L=>by obtain⟨_,_,_,_,_,_,h,_⟩:=L;exact h.elim,λ_ _ _ _ _ _ _ _ _ _ _ _ _ J=>by obtain⟨_,_,_,_,_,_,h,_⟩:=J;exact h.elim⟩,hm,hk,hb⟩
 |n+1=>CN (n+1) F T G ⟨f,fd,GS F T hm hk hb G n,hm,hk,hb⟩
def LP(F:jY K "_law_kinds" "_law_kinds" pB f fd)(T:lR mg)(TV:mg "ValueError"=none)(ve:OwnCls "BadBars" ye rQ "ValueError.__new__" mg fF)(iI:OwnCls "BadMake" iH rQ "ValueError.__new__" mg fF)(kD:OwnCls "BadNumber" ja rQ "ValueError.__new__" mg fF)(va:OwnCls "BadText" yb rQ "ValueError.__new__" mg fF)(vd:OwnCls "BadName" yd rQ "ValueError.__new__" mg fF)(O:OwnCls "BadAge" By rQ "ValueError.__new__" mg fF)(U:OwnCls "BadBar" Bx rQ "ValueError.__new__" mg fF)(sD:OwnCls "BadPlace" u3 rQ "ValueError.__new__" mg fF)(vc:OwnCls "BadSize" yc rQ "ValueError.__new__" mg fF)(BH:OwnCls "Taken" FC rQ "ValueError.__new__" mg fF)(FN:OwnCls "Full" NY rQ "ValueError.__new__" mg fF)(Z:OwnCls "NoTake" Bu rQ "ValueError.__new__" mg fF)(FL:OwnCls "Shut" NX rQ "ValueError.__new__" mg fF)(W:OwnCls "Joined" Bw rQ "ValueError.__new__" mg fF)(Y:OwnCls "Needed" Bv rQ "ValueError.__new__" mg fF)(oH:OwnCls "NothingLeft" pQ rQ "ValueError.__new__" mg fF)(BI:Yw "NoWay" FD mg):HY P w K mg fF 1 f fd (pA pB) (tY K Tq kC):=by
 refine F.okH lH (λds μ Kd h=>DB h) (λjc A fN s H hr ij kx e hk hh=>⟨_,(fK (qS 1 lH.nd (jL false (fJ (kA (by rfl) T.isinstance (by rfl) ve.bound (dv 0)) (fJ (kA (by rfl) T.isinstance (by rfl) iI.bound (dv 0)) (fJ (kA (by rfl) T.isinstance (by rfl) kD.bound (dv 0)) (fJ (kA (by rfl) T.isinstance (by rfl) va.bound (dv 0)) g9))))))
  (fK (qS 1 lH.nd (m6 (dv 1) (jL false (fJ (kA (by rfl) T.isinstance (by rfl) vd.bound (dv 0)) (fJ (kA (by rfl) T.isinstance (by rfl) O.bound (dv 0)) (fJ (kA (by rfl) T.isinstance (by rfl) U.bound (dv 0)) (fJ (kA (by rfl) T.isinstance (by rfl) sD.bound (dv 0)) g9)))))))
  (fK (qS 1 lH.nd (m6 (dv 1) (jL false (fJ (kA (by rfl) T.isinstance (by rfl) vc.bound (dv 0)) (fJ (kA (by rfl) T.isinstance (by rfl) BH.bound (dv 0)) (fJ (kA (by rfl) T.isinstance (by rfl) FN.bound (dv 0)) (fJ (kA (by rfl) T.isinstance (by rfl) Z.bound (dv 0)) g9)))))))
  (fK (qS 1 lH.nd (m6 (dv 1) (jL false (fJ (kA (by rfl) T.isinstance (by rfl) FL.bound (dv 0)) (fJ (kA (by rfl) T.isinstance (by rfl) W.bound (dv 0)) (fJ (kA (by rfl) T.isinstance (by rfl) Y.bound (dv 0)) (fJ (kA (by rfl) T.isinstance (by rfl) oH.bound (dv 0)) g9)))))))
  (fK (qS 1 lH.nd (m6 (dv 1) (jL false (a2 (kA (by rfl) T.isinstance (by rfl) BI.bound (dv 0)) (XR (U9 (by rfl) T.isinstance (by rfl) TV PyProof.Rows.Boot.«ValueError» (dv 0)))))))
  (fK (qS 2 lH.nd (jL false (fJ gR (fJ gR (fJ gR (fJ gR (fJ gR (fJ gR (fJ gR (fJ gR (fJ gR g9)))))))))))
  (fK (qS 2 lH.nd (m6 (dv 2) (jL false (fJ gR (fJ gR (fJ gR (fJ gR (fJ gR (fJ gR (fJ gR (fJ gR (fJ gR g9))))))))))))
  (fU (gw (QH false (sH (N:=["_law_k","_law_words","_law_found"]) (js:=[none,some 2,some 1]) lH (by decide +kernel)) hh (fY 0) (fH 0) rfl (Mw (H0:=H) hk rfl T.range (a1 fP)) (λ_ _ _=>(qN 0 (show List.Nodup (["_law_k","_law_words","_law_found"]:ao Str) by decide +kernel))) (λ_ _ _=>(o8 (jT (jC (dv 2) (dv 0))))) (λ_ _ _=>(jC (dv 1) (dv 0))))))))))))),λds μ m Kd hm hl em hc h=>?_⟩)
 unfold tY at h;split at h
 .rename_i k;obtain⟨_,L,j,hj,hx,G,kk⟩:=h;have J:(μ.set 0 (MO.gx ij H))[k]?=some (.exc (.ref (Tq.getD j 0))):=by rw[aJ (bj L)];exact hx
  refine⟨_,_,J,G.ef,G.at_ 0 (by decide),_,_,J,G.ef,G.at_ 1 (by decide),_,_,J,G.ef,G.at_ 2 (by decide),_,_,J,G.ef,G.at_ 3 (by decide),zs,?_⟩;refine⟨_,_,J,G.ef,G.at_ 4 (by decide),_,_,J,G.ef,G.at_ 5 (by decide),_,_,J,G.ef,G.at_ 6 (by decide),_,_,J,G.ef,G.at_ 7 (by decide),zs,fO rfl (fO rfl ⟨zs,?_⟩)⟩;refine⟨_,_,J,G.ef,G.at_ 8 (by decide),_,_,J,G.ef,G.at_ 9 (by decide),_,_,J,G.ef,G.at_ 10 (by decide),_,_,J,G.ef,G.at_ 11 (by decide),zs,fO rfl (fO rfl ⟨zs,?_⟩)⟩;refine⟨_,_,J,G.ef,G.at_ 12 (by decide),_,_,J,G.ef,G.at_ 13 (by decide),_,_,J,G.ef,G.at_ 14 (by decide),_,_,J,G.ef,G.at_ 15 (by decide),zs,fO rfl (fO rfl ⟨zs,?_⟩)⟩;refine⟨_,_,J,G.ef,G.at_ 16 (by decide),_,_,J,G.ef,G.kv,zs,fO rfl (fO rfl ⟨zs,?_⟩)⟩;refine⟨zs,zs,fO rfl (fO rfl ⟨zs,?_⟩)⟩;refine⟨by decide,by decide,zs,?_⟩;refine DU hj hc (λi K' hi h1 h2 k1 k2=>?_) (.keep (zA em kk));rw[c6];refine fO (v:=D.bl (decide (i=j))) (jA h1) ?_;show(if decide (i=j)=true then _ else _);by_cases q:i=j
  .rw[aB (aM q)];refine fO (v:=D.str (oA.getD i "")) (jA ?_) (k1 q);have:=cf (Option.map D.str) h2;rw[<- oC]at this;exact this
  .rw[aC (by simpa using q)];exact k2 q
 .cases h
def CO(n:Nat){f:ai}{fd:ag}(F:jY K "_law_made" "_law_made" rX f fd)(T:lR mg)(BQ:nO P w K mg fF "_law_made" n ["_law_cuts_here","_law_takes","_law_make_here"] (iL (Qt uR n))):gD P w K mg fF kO (n+1) f fd ["_law_cuts_here","_law_takes","_law_make_here"] (iL (uR n)):=by
 refine F.pE Au (λds μ U h=>by unfold uR at h;split at h <;> first | rfl | exact h.elim) (λjc A fN s H E hr=>⟨_,(fK (jh (jT (HF (T := "int") (by simp) (by rfl) T.isinstance (by rfl) T.int de (dv 2)))
  (fK (jh (PW.pt (yD (VM (dv 2) fP) (wZ (Y0 (dv 2) (zK T (dv 1))))))
  (fU (gw vG))
  ig)
  (fU (gw (jC (dv 1) (dv 2)))))
  ig)
  (fK (qS 3 Au.nd (qC BQ hr (a3 (dv 0) (dv 1) (jC (dv 2) fP))))
  (fK (qS 4 Au.nd (qC BQ hr (a3 (dv 0) (dv 1) (jC (dv 2) fP))))
  (fK (jh (PW.pt (yD (lO LV Gv (jC (dv 2) fP) (dv 0) (by with_unfolding_all rfl)) (yD (Ck (dv 3)) (wZ (Ck (dv 4))))))
  (fU (gw vG))
  ig)
  (fU (gw (kU (a2 (m6 (m5 false (jC (dv 3) fP) LR (mh (jC (dv 2) fP))) (m5 false (jC (dv 4) fP) (mh (jC (dv 2) fP)) LR)) (m6 (ny (L9 rfl) xi (by rfl) T.max b8 (a2 (jC (dv 3) fP) (jC (dv 4) fP))) fP))))))))),λds μ U hm hl h=>?_⟩)
 unfold uR at h;split at h
 .rename_i c y d;obtain⟨cs,ts,t,z,rfl,rfl,rfl,hd,L,hz,W,kk⟩:=h;refine fO (Gd t _) ?_;cases t with
  | num k =>
   have kk:U (V9 (if 0<=k then ts[k.toNat]? else none)) μ:=kk;refine kT (c:=k<0) (λq=>?_) (λq0=>?_)
   .rw[aC (by lia)]at kk;exact .keep kk
   rw[aB (by lia)]at kk;refine kT (c:=((ts.map mO).length:Int)<=k) (λq=>?_) (λq=>?_)
   .rw[iE]at q;rw[fv (by lia)]at kk;exact .keep kk
   .rw[iE]at q;have hx:ts[k.toNat]?=some ts[k.toNat]:=jo (by lia);have a1:lS (ts.map mO) k=some (mO ts[k.toNat]):=by have:=nE (g:=mO) hx;rwa [cz (by lia)]at this
    rw[hx]at kk;exact fO a1 (.keep kk)
  | p9 p l r =>
   have G8:max l.dep r.dep+1<=n:=hd;obtain⟨n,rfl⟩:∃ n',n=n'+1:=⟨n - 1,by lia⟩;refine⟨cs,ts,l,z,rfl,rfl,rfl,by lia,L,hz,W,?_⟩;refine⟨cs,ts,r,z,rfl,rfl,rfl,by lia,L,hz,W,?_⟩;have kk:U (V9 (match l.vo cs ts,r.vo cs ts with|some a,some b=>if p∈cs then some (qx a b p)else none|_,_=>none)) μ:=kk;dsimp only;refine pL ((true != decide (p∈cs))||((l.vo cs ts).isNone||(r.vo cs ts).isNone)) ?_ (λq=>?_) (λq=>?_)
   .refine .or (.Gg λK k=>⟨rfl,MY cs,by rw[Q3];exact k⟩) λ_=>.or (.Gg λK k=>?_) λ_=>.Gg λK k=>?_
    .cases e:l.vo cs ts with
     |none=>rw[e]at k;exact k
     |some v=>rw[e]at k;exact k
    .cases e:r.vo cs ts with
     |none=>rw[e]at k;exact k
     |some v=>rw[e]at k;exact k
   .refine .keep (d:=.iz) ?_;cases G:l.vo cs ts with
    |none=>rw[G]at kk;exact kk
    | some a =>
     cases O:r.vo cs ts with
     |none=>rw[G,O]at kk;exact kk
     | some b =>rw[G,O]at kk q;have kk:U (V9 (if p∈cs then some (qx a b p)else none)) μ:=kk;rw[aC (λJ=>by rw[aM J]at q;cases q)]at kk;exact kk
   .cases G:l.vo cs ts with
    |none=>rw[G]at q;simp at q
    | some a =>
     cases O:r.vo cs ts with
     |none=>rw[G,O]at q;simp at q
     | some b =>
      rw[G,O]at kk q;have J:p∈cs:=by
       by_cases J:p∈cs
       .exact J
       .rw[aW J]at q;cases q
      have kk:U (V9 (if p∈cs then some (qx a b p)else none)) μ:=kk;rw[aB J]at kk;have vl:=(j9.wV G).2▸j9.o6 W (j9.wV G).1;have vr:=(j9.wV O).2▸j9.o6 W (j9.wV O).1;have wl:=vl.1;have wr:=vr.1;have p0:=L p J;have Z:(txt a.1).length<=sizeLine:=by rw[kE];exact sz (by lia)
      have Y:(txt b.1).length<=sizeLine:=by rw[kE];exact sz (by lia)
      have c1:=wM a.1 none (some p);have c2:=wM b.1 (some p) none;refine⟨Z,Y,?_,zs,.keep ?_⟩
      .show(txt (lD a.1 none (some p))).length+(txt (lD b.1 (some p) none)).length<=sizeLine;rw[kE,kE];exact sz (by lia)
      .show U (.tup [.str (txt (lD a.1 none (some p))++txt (lD b.1 (some p) none)),.int (max a.2 b.2+1)]) μ;rw[pR,HH p0,zL p0];exact kk
 .cases h
theorem GU{f:ai}{fd:ag}(F:jY K "_law_made" "_law_made" rX f fd)(T:lR mg)(hm:mg "_law_made"=some (.ref f))(hk:W.keepIn K (.ref f)=true)(hb:Binds K fd ["_law_cuts_here","_law_takes","_law_make_here"] []):∀ n,gD P w K mg fF kO (n+1) f fd ["_law_cuts_here","_law_takes","_law_make_here"] (iL (uR n))
 |0=>CO 0 F T ⟨f,fd,⟨λ_ _ _ _ J=>by obtain⟨_,_,_,_,_,_,h,_⟩:=J;exact h.elim,λ_ _ _ _ _ _ _ _ _ _ _ _ _ G=>by obtain⟨_,_,_,_,_,_,h,_⟩:=G;exact h.elim⟩,hm,hk,hb⟩
 |n+1=>CO (n+1) F T ⟨f,fd,GU F T hm hk hb n,hm,hk,hb⟩
def xE(n:Nat){f:ai}{fd:ag}(F:jY K "_law_tuples" "_law_tuples" ng f fd)(T:lR mg)(J:nO P w K mg fF "_law_tuples" n ["_law_make_here"] (iL (Qt oU n))):gD P w K mg fF kO (n+1) f fd ["_law_make_here"] (iL (oU n)):=by
 refine F.pE Iy (λds μ O h=>by unfold oU at h;split at h<;>first|rfl|exact h.elim) (λW A fN s H E L=>⟨_,(fU (gw (QF (jT (HF (T:= "int") (by simp) (by rfl) T.isinstance (by rfl) T.int de (dv 0))) fP (m6 (m6 fP (qC J L (a1 (jC (dv 0) fP)))) (qC J L (a1 (jC (dv 0) fP))))))),λds μ O Y hl h=>?_⟩);unfold oU at h;split at h
 .rename_i d;obtain⟨t,rfl,hd,kk⟩:=h;refine fO (Gd t _) ?_;cases t with
  |num _=>exact .keep kk
  | p9 p l r =>have Z:max l.dep r.dep+1<=n:=hd;obtain⟨n,rfl⟩:∃ U,n=U+1:=⟨n - 1,by lia⟩;refine⟨l,rfl,by lia,r,rfl,by lia,.keep ?_⟩;have G:O (.int (((l.cnt+r.cnt:Nat):Int) - 1)) μ:=kk;rw[show((l.cnt+r.cnt:Nat):Int) - 1=1+((l.cnt:Int) - 1)+((r.cnt:Int) - 1) by lia]at G;exact G
 .cases h
theorem zm{f:ai}{fd:ag}(F:jY K "_law_tuples" "_law_tuples" ng f fd)(T:lR mg)(hm:mg "_law_tuples"=some (.ref f))(hk:W.keepIn K (.ref f)=true)(hb:Binds K fd ["_law_make_here"] []):∀ n,gD P w K mg fF kO (n+1) f fd ["_law_make_here"] (iL (oU n))
 |0=>xE 0 F T ⟨f,fd,⟨λ_ _ _ _ G=>by obtain⟨_,_,_,_,_,_,h,_⟩:=G;exact h.elim,λ_ _ _ _ _ _ _ _ _ _ _ _ _ J=>by obtain⟨_,_,_,_,_,_,h,_⟩:=J;exact h.elim⟩,hm,hk,hb⟩
 |n+1=>xE (n+1) F T ⟨f,fd,zm F T hm hk hb n,hm,hk,hb⟩
def CS(n:Nat){f:ai}{fd:ag}(F:jY K "_law_bent" "_law_bent" r6 f fd)(T:lR mg)(O:oF P w K mg fF)(Y:nO P w K mg fF "_law_bent" (n+1) ["_law_box_here","_law_make_here","_law_size","_law_many"] (iL (Qt uT n))):gD P w K mg fF kO (n+2) f fd ["_law_box_here","_law_make_here","_law_size","_law_many"] (iL (uT n)):=by
 refine F.pE Gx (λds μ Kd h=>by unfold uT at h;split at h <;> first | rfl | exact h.elim) (λjc A fN s H E G=>⟨_,(fK (jh (jT (HF (T := "int") (by simp) (by rfl) T.isinstance (by rfl) T.int de (dv 1)))
  (fU (gw (Ef (qC O G (a2 (dv 0) (m6 (dv 3) fP))) fP)))
  ig)
  (fK (qS 4 Gx.nd (qC O G (a2 (dv 0) fP)))
  (fK (jh (CB (dv 4) fP)
  (fU (gw (kU (a3 (qC O G (a2 (dv 0) (m6 (dv 2) fP))) (jC (dv 1) fP) (jC (dv 1) fP)))))
  ig)
  (fK (jh (CB (dv 4) fP)
  (fU (gw (kU (a3 (jC (dv 1) fP) (jC (dv 1) fP) (jC (dv 1) fP)))))
  ig)
  (fK (jh (CB (dv 4) fP)
  (fU (gw (kU (a3 (jC (dv 1) fP) (qC Y G (fJ (dv 0) (fJ (jC (dv 1) fP) (fJ (dv 2) (fJ (dv 3) g9))))) (jC (dv 1) fP)))))
  ig)
  (fU (gw (kU (a3 (jC (dv 1) fP) (jC (dv 1) fP) (qC Y G (fJ (dv 0) (fJ (jC (dv 1) fP) (fJ (dv 2) (fJ (dv 3) g9)))))))))))))),λds μ Kd hm hl h=>?_⟩)
 unfold uT at h;split at h
 .rename_i k d s0 m;obtain⟨hb,t,rfl,hd,W,U,m1,m2,kk⟩:=h;refine fO (Gd t _) ?_;cases t with
  |num v=>exact⟨hb,by lia,by lia,λx x0 x1=>.keep (kk (.num (x - 1)) (ar _) (ar _))⟩
  | p9 p l r =>
   have G8:max l.dep r.dep+1<=n:=hd;obtain⟨n,rfl⟩:∃ Z,n=Z+1:=⟨n - 1,by lia⟩;refine⟨hb,by decide,by decide,λw w0 w1=>?_⟩;dsimp only;refine lY (c:=w=0) (λ_=>?_) (λ_=>?_)
   .exact⟨hb,by lia,by lia,λc c0 c1=>⟨zs,.keep (kk (.p9 c l r) (ar _) (ar _))⟩⟩
   .refine lY (c:=w=1) (λ_=>?_) (λ_=>?_)
    .refine⟨zs,.keep (kk (.p9 p r l) ?_ ?_)⟩
     .show max r.dep l.dep+1<=max l.dep r.dep+1;lia
     .show r.cnt+l.cnt<=l.cnt+r.cnt;lia
    .refine lY (c:=w=2) (λ_=>?_) (λ_=>?_)
     .refine⟨hb,l,rfl,by lia,W,U,m1,m2,λL d1 d2=>⟨zs,.keep (kk (.p9 p L r) ?_ ?_)⟩⟩
      .show max L.dep r.dep+1<=max l.dep r.dep+1;lia
      .show L.cnt+r.cnt<=l.cnt+r.cnt;lia
     .refine⟨hb,r,rfl,by lia,W,U,m1,m2,λJ d1 d2=>⟨zs,.keep (kk (.p9 p l J) ?_ ?_)⟩⟩
      .show max l.dep J.dep+1<=max l.dep r.dep+1;lia
      .show l.cnt+J.cnt<=l.cnt+r.cnt;lia
 .cases h
theorem GV{f:ai}{fd:ag}(F:jY K "_law_bent" "_law_bent" r6 f fd)(T:lR mg)(hm:mg "_law_bent"=some (.ref f))(hk:W.keepIn K (.ref f)=true)(hb:Binds K fd ["_law_box_here","_law_make_here","_law_size","_law_many"] [])(G:oF P w K mg fF):∀ n,gD P w K mg fF kO (n+2) f fd ["_law_box_here","_law_make_here","_law_size","_law_many"] (iL (uT n))
 |0=>CS 0 F T G ⟨f,fd,⟨λ_ _ _ _ J=>by obtain⟨_,_,_,_,_,_,h,_⟩:=J;exact h.elim,λ_ _ _ _ _ _ _ _ _ _ _ _ _ L=>by obtain⟨_,_,_,_,_,_,h,_⟩:=L;exact h.elim⟩,hm,hk,hb⟩
 |n+1=>CS (n+1) F T G ⟨f,fd,GV F T hm hk hb G n,hm,hk,hb⟩
def EN(F:jY K "_law_is_best" "_law_is_best" ma f fd)(T:lR mg)(BQ:NT P w K mg fF)(Rh:HL P w K mg fF)(W:DY P w K mg fF)(YJ:SA P w K mg fF):gD P w K mg fF kO 66 f fd (pA ma) (iL wG):=by
 refine F.pE pq (λds μ Kd h=>by unfold wG at h;split at h <;> first | rfl | exact h.elim) (λjc A fN s H E J=>⟨_,(fK (qS 4 pq.nd (m6 (m6 (jL false (a1 fP)) (dv 1)) (jL false (a1 (dv 0)))))
  (fK (qS 5 pq.nd (qC BQ J (a3 (dv 1) (dv 2) (dv 3))))
  (fK (qS 6 pq.nd (qC Rh J (a2 (dv 4) (dv 2))))
  (fK (jh (PW.pt (yD (Ck (dv 5)) (yD (Ck (dv 6)) (wZ (lO (L4 (n:=3) (Kr J (by decide))) KW (dv 5) (kU (a2 (p5 mulC qi gR (dv 0)) (dv 6))) (jm _))))))
  (fU (gw Fw))
  ig)
  (fU (gw (DQ XF xk (qC W J (a1 (dv 3))) (Ef (qC YJ J (a3 (dv 4) (dv 2) (dv 6))) fP) (jm _)))))))),λds μ Kd hm hl h=>?_⟩)
 unfold wG at h;split at h
 .rename_i n x y d;obtain⟨cs,ts,t,rfl,rfl,rfl,S,Y,hd,kk⟩:=h;have n2:=S.n2;have n1:=S.n1;refine⟨zs,by rw[iE];exact sz (by show 1+cs.length<=_;lia),zs,by rw[o4,iE];exact sz (by show 1+cs.length+1<=_;lia),?_⟩;rw[uc];refine⟨cs,ts,t,n,rfl,rfl,rfl,hd,λp hp=>by have:=S.jD.R3 p hp;lia,by lia,uB S,?_⟩;refine⟨n,cs,ts,rfl,rfl,S,Y,E5 λd8 h8=>?_⟩;dsimp only;cases U:t.vo cs ts with
  | none =>
   have no:∀ a,gT (fC n cs) ts n a->¬ sF (fC n cs) ts (a+1) 0 (cs.length+1) t:=λa G hb=>by have:=j9.LM ((qK S G).mp hb).1;rw[U]at this;cases this
   exact .keep (kk false (λq=>by cases q) λ_ _=>no)
  | some v =>
   obtain⟨ok,ev⟩:=j9.wV U;cases h8 with
   |no hb=>exact .keep (kk false (λq=>by cases q) λ_ Js=>absurd Js hb)
   | yes a ha hb G =>
    refine pL (false||(false||(true != mX (mO v) (mO (List.replicate n.toNat 111,(a:Int)))))) (.or (.Gg λK k=>k) λ_=>.or (.Gg λK k=>k) λ_=>.Gg λK k=>?_) (λq=>?_) (λq=>?_)
    .exact⟨111,rfl,by lia,by lia,zs,Cp (RB _),Cp (RB (List.replicate n.toNat 111,(a:Int))),rfl,k⟩
    .refine .keep (kk false (λq=>by cases q) λ_ _ a' O L=>?_);obtain rfl:=G.uniq O;have e:=((qK S G).mp L).2.1;rw[ev]at e;rw[(Nu _ _).mpr e]at q;cases q
    .have ee:v=(List.replicate n.toNat 111,(a:Int)):=(Nu _ _).mp (by
      cases z:mX (mO v) (mO (List.replicate n.toNat 111,(a:Int)))with
      |true=>rfl
      |false=>rw[z]at q;cases q)
     refine pK ?_
     refine⟨t,rfl,hd,n,cs,ts,rfl,rfl,S,by lia,by lia,?_⟩
     rw[vD]
     obtain⟨tf1,Z⟩:=Gi S G
     refine .keep (kk _ (λq=>⟨a,ha,hb,G,(qK S G).mpr ⟨ok,by rw[ev,ee],?_⟩⟩) λq _ a' O L=>?_)
     .have q:(false != decide ((t.cnt:Int) - 1=kP (fC n cs) ts (a+1) 0 (cs.length+1) - 1))=true:=q;have q:decide ((t.cnt:Int) - 1=kP (fC n cs) ts (a+1) 0 (cs.length+1) - 1)=true:=by simpa using q
      have:=cC q;lia
     .obtain rfl:=G.uniq O;have q:(false != decide ((t.cnt:Int) - 1=kP (fC n cs) ts (a+1) 0 (cs.length+1) - 1))=false:=q;have e:=((qK S G).mp L).2.2;rw[aM (by lia)]at q;cases q
 .cases h
def Pu(F:jY K "_law_told" "_law_told" rT f fd)(T:lR mg)(qM:OwnCls "HissError" kC rQ "ValueError.__new__" mg fF)(vh:uZ P w K mg fF)(D6:vJ P w K mg fF)(Ri:HM P w K mg fF):gD P w K mg fF kO 218 f fd (pA rT) (iL (A1 K Tq kC)):=by
 refine F.pE vY (λds μ Kd h=>by unfold A1 at h;split at h <;> first | rfl | exact h.elim) (λjc A fN s H E U=>⟨_,(fK (Ws rfl rfl rfl vY.nd (i:=6) rfl rfl rfl qM.bound (λpn xe ij H0 Kx Zt=>(fU (jh (Ck (dv 4))
  (fU (qS 5 vY.nd (Bf Zt vh U.le rfl (fJ (dv 0) (fJ (yS qu (mv (m:=false)) (by rfl) T.list ba (a1 (dv 1))) (fJ (yS qu (mv (m:=false)) (by rfl) T.list ba (a1 (dv 2))) (fJ (dv 3) g9)))))))
  (fU (qS 5 vY.nd (Bf Zt D6 U.le rfl (fJ (dv 0) (fJ (yS qu (mv (m:=false)) (by rfl) T.list ba (a1 (dv 1))) (fJ (yS qu (mv (m:=false)) (by rfl) T.list ba (a1 (dv 2))) (fJ (dv 4) g9))))))))))
  (λpn e O H1 kx hk MG=>(fU (gw (kU (a2 gR (QJ (H0:=H1) hk MG rfl Ri (Wv U.le) rfl (a1 (dv 6)))))))))
  (fU (gw (kU (a2 gR (dv 5)))))),λds μ Kd Y hl h=>?_⟩)
 unfold A1 at h;split at h
 .rename_i n x y r d;obtain⟨⟨m,G⟩,K1,K2,cs,ts,rfl,rfl,S,W,kk⟩:=h;have Z:0<μ.length:=(kN G).1;refine⟨m,G,λij H0=>?_⟩;rcases kk with⟨rfl,kk⟩|⟨t,rfl,kk⟩
  .refine pL true (.Gg λK k=>k) (λ_=>?_) (λq=>by cases q);refine⟨jJ G,⟨_,jJ G⟩,cs,ts,rfl,rfl,S,W,?_⟩;refine JK kk (λv kk=>?_) (λkk=>?_)
   .refine⟨jJ G,?_⟩;rw[my G];exact⟨zs,.keep kk⟩
   .refine⟨jJ G,?_⟩;rw[my G];refine⟨ja,rfl,K2.sub,λO H1=>?_⟩;have J:(μ++[MO.exc (.ref (ja))])[0]?=some m:=by rw[uO Z];exact G
    have L:((μ++[MO.exc (.ref (ja))]).set 0 (.gx O H1))[μ.length]?=some (.exc (.ref (ja))):=by rw[aJ (by lia),pW (ar _),aY];rfl
    refine⟨⟨jJ J,_,L⟩,⟨_,jJ J⟩,by lia,2,by decide,L,K2,zs,jJ J,?_⟩;rw[my J];refine .drop ?_ (nX Y) ?_
    .exact⟨trivial,⟨trivial,trivial⟩,trivial⟩
    .rw[bZ];exact kk
  .refine pL false (.Gg λK k=>by cases t <;> exact k) (λq=>by cases q) (λ_=>?_);refine⟨jJ G,⟨_,jJ G⟩,cs,ts,t,rfl,rfl,rfl,S,W,?_⟩;refine LS kk (λv kk=>?_) (λkk=>?_)
   .refine⟨jJ G,?_⟩;rw[my G];exact⟨zs,.keep kk⟩
   .refine⟨jJ G,?_⟩;rw[my G];refine⟨iH,rfl,K1.sub,λO H1=>?_⟩;have J:(μ++[MO.exc (.ref (iH))])[0]?=some m:=by rw[uO Z];exact G
    have L:((μ++[MO.exc (.ref (iH))]).set 0 (.gx O H1))[μ.length]?=some (.exc (.ref (iH))):=by rw[aJ (by lia),pW (ar _),aY];rfl
    refine⟨⟨jJ J,_,L⟩,⟨_,jJ J⟩,by lia,1,by decide,L,K1,zs,jJ J,?_⟩;rw[my J];refine .drop ?_ (nX Y) ?_
    .exact⟨trivial,⟨trivial,trivial⟩,trivial⟩
    .rw[bZ];exact kk
 .cases h
set_option maxHeartbeats 8000000 in
def T6(F:jY K "law" "law" nR f fd)(T:lR mg)(KA:∀ j,j<16->mS K Tq kC j)(YL:SE P w K mg fF)(gM:oF P w K mg fF)(Ob:DZ P w K mg fF)(Rg:HK P w K mg fF)(BS:uj P w K mg fF)(BP:NS P w K mg fF)(BU:NV P w K mg fF)(vh:uZ P w K mg fF)(FR:NO P w K mg fF)(yt:NP P w K mg fF)(JQ:zR P w K mg fF):gD P w K mg fF kO 220 f fd (pA nR) (Ry K):=by
 refine F.ok mP (λvs H Q E h=>?_) (λjc A fN s H vs Q E G h=>?_)
 .obtain⟨a,ns,rfl,_⟩:=h;rfl
 .obtain⟨a,ns,rfl,hs,hl,k⟩:=h;refine⟨_,iT (uH (i:=1) mP.nd rfl (by first | exact Or.inl rfl | exact Or.inr rfl) (xC YL (G.mono (by first | decide | exact ar _ | lia)) rfl (gm (lX 0) iJ))) (fK (Gz (qC Rg G (a2 (dv 1) fP)) ⟨(ic (n:=3) rfl (fQ (qN 2 mP.nd) (fQ (qN 3 mP.nd) (fQ (qN 4 mP.nd) gH)))),(iZ (fZ (fY 2) (fH 2) (fZ (fY 3) (fH 3) (fZ (fY 4) (fH 4) i7 fT) (fL (fH 4) fT)) (fL (fH 3) (fL (fH 4) fT)))),(iG (fL (fH 2) (fL (fH 3) (fL (fH 4) fT))))⟩)
   (fK (qS 5 mP.nd (qC BS G (a3 (dv 2) (yS qu (mv (m:=false)) (by rfl) T.list ba (a1 (dv 3))) (yS qu (mv (m:=false)) (by rfl) T.list ba (a1 (dv 4))))))
   (fK (mU bJ rfl (jI (jL false (fJ (DP fP) (fJ (dv 5) (fJ (m6 (dv 5) fP) (fJ (p5 powC RA fP fP) (fJ (DP (dv 5)) g9))))))) (qT 6 mP.nd)
   (fU (jh (PW.pt (yD (VM (dv 6) fP) (wZ (Y0 (dv 6) (dv 5)))))
   (fU (jh (zb (jT (qC yt G (a2 (qC FR G (fJ (dv 2) (fJ (dv 3) (fJ (dv 4) (fJ (dv 6) (fJ vG g9)))))) (kU (a2 gR (jL false (a1 gR))))))))
   (fU (gw Fw))
   ig))
   ig)))
   (fK (mU bJ rfl (jb rfl T.range (a1 fP)) (qT 7 mP.nd)
   (fK (qS 8 mP.nd (qC BP G (fJ (dv 1) (fJ (ny (L9 rfl) xi (by rfl) T.max b8 (a2 fP (zK T (dv 4)))) (fJ (dv 3) (fJ fP g9))))))
   (yf (jh (PW.pt (Cm (RL (dv 5) fP) (xa (RL (qC gM G (a2 (dv 1) fP)) fP))))
   (fU (qS 8 mP.nd (qC BU G (fJ (dv 1) (fJ (Nw vh G.le rfl (fJ (dv 2) (fJ (yS qu (mv (m:=false)) (by rfl) T.list ba (a1 (dv 3))) (fJ (yS qu (mv (m:=false)) (by rfl) T.list ba (a1 (dv 4))) (fJ (qC Ob G (a2 (dv 1) (dv 5))) g9))))) (fJ (dv 2) (fJ (zK T (dv 4)) g9)))))))
   ig)
   (fK (qS 9 mP.nd (qC FR G (fJ (dv 2) (fJ (dv 3) (fJ (dv 4) (fJ fP (fJ (dv 8) g9)))))))
   (fU (jh (zb (jT (qC JQ G (fJ (dv 2) (fJ (dv 3) (fJ (dv 4) (fJ (dv 8) g9)))))))
   (fU (jh (zb (jT (qC yt G (a2 (dv 9) (kU (a2 gR (jL false (a1 gR))))))))
   (fU (gw Fw))
   ig))
   (fK (jh (qNe (jC (dv 9) fP) gR)
   (fU (gw Fw))
   ig)
   (fK (qS 10 mP.nd (qC FR G (fJ (dv 2) (fJ (dv 3) (fJ (dv 4) (fJ (jC (dv 9) fP) (fJ vG g9)))))))
   (fU (jh (zb (jT (qC yt G (a2 (dv 10) (kU (a2 gR (dv 8)))))))
   (fU (gw Fw))
   ig))))))))))
   (fU (gw Fw)))))),?_⟩
  refine⟨ns,hs,λb q H0 B0 hb0 rO S0=>?_⟩;refine Uj (m:=9) B0 ?_ k;refine⟨rfl,by decide,by decide,λn cs ts h1 h2 uN hc ht=>?_⟩;have tf:=ht.nH;have S:iD n cs ts:=⟨h1,by lia,by lia,hc,ht⟩;have o3:(fC n cs).length=cs.length+2:=gv n cs;have el:(fC n cs).length - 1=cs.length+1:=by lia
  refine⟨rfl,?_⟩;refine⟨cs,ts,rfl,rfl,S,by lia,NJ λc hc1=>?_⟩;have cn:∀ r:Int,r<0\/c<=r->∀(μ:MS) (K:DK) (X:Prop),X->qL (fC n cs) ts n r μ K X:=λr G μ K X U=>by
   unfold qL;cases hc1 with
   | no hb =>
    cases Js:iQ (fC n cs) ts with
    |none=>exact absurd Js hb
    |some p=>exact U
   | yes a ha hb O =>rw[hb];intro a' _ L;obtain rfl:=O.uniq L;rw[aC (by lia)];exact U
  have pw:VF 10 30:=⟨by decide,by decide,by decide⟩;have K1:=KA 1 (by decide);have K2:=KA 2 (by decide);refine⟨pw,zs,nLf (fO rfl ?_)⟩;refine iU (λds ρ W=>∃(Y:ao Int) (v6:aq D),ds=Y.map D.int/\ρ=[none,some (.mr 0),some (.int n),some (.lst (cs.map D.int)),some (.lst (ts.map mO)),some (.int c),v6,none,none,none,none]/\W=[.box]) ⟨[-1,c,c+1,10 ^ (30:Int).toNat,-c],none,rfl,rfl,rfl⟩ ?_ ?_
  .rintro d' wK ρ W ⟨Y,v6,e1,rfl,rfl⟩;refine⟨trivial,λnx pG=>?_⟩;cases Y with
   |nil=>cases e1
   | cons z Y =>
    cases e1;refine pL (decide (z<0)||decide (c<=z)) (.or (.Gg λK k=>k) λ_=>.Gg λK k=>k) (λq=>?_) (λ_=>pK (pG _ _ ⟨Y,_,rfl,rfl,rfl⟩));have q:z<0\/c<=z:=by simpa using q
    refine pL (!true) (.not (.Gg λK k=>⟨⟨_,rfl⟩,K1,K2,cs,ts,rfl,rfl,S,by lia,.inl ⟨rfl,cn z q _ _ _ ⟨zs,zs,K9 2,rfl,rfl,K0 18 2,k⟩⟩⟩)) (λq=>by cases q) (λ_=>pK (pG _ _ ⟨Y,_,rfl,rfl,rfl⟩))
  rintro ρ W ⟨Y,v6,e1,rfl,rfl⟩;refine⟨trivial,by decide,by decide,?_⟩;refine iU (λds ρ W=>∃(i j:Nat) (v7 v8 Z J:aq D),ds=kr i j/\ρ=[none,some (.mr 0),some (.int n),some (.lst (cs.map D.int)),some (.lst (ts.map mO)),some (.int c),v6,v7,v8,Z,J]/\W=[.box]) ⟨0,3,none,none,none,none,rfl,rfl,rfl⟩ ?_ (λρ W _=>⟨trivial,rfl⟩);rintro d' wK ρ W ⟨i,j,v7,v8,Z,J,e1,rfl,rfl⟩;refine⟨trivial,λnx pG=>?_⟩;cases j with
  |zero=>cases e1
  | succ j =>
   rw[jH]at e1;cases e1;have pG:∀ v7 v8 Z J,nx [none,some (.mr 0),some (.int n),some (.lst (cs.map D.int)),some (.lst (ts.map mO)),some (.int c),v6,v7,v8,Z,J] [.box]:=λv7 v8 Z J=>pG _ _ ⟨i+1,j,v7,v8,Z,J,by rw[Int.natCast_add];rfl,rfl,rfl⟩;have RW:(ts.map mO).length=ts.length:=iE _;refine⟨rfl,by lia,by rw[RW];lia,cs,rfl,by lia,by decide,by decide,λt t1 t2 t3=>?_⟩;refine⟨λjV W=>∃ t:j9,t.dep<=15/\jV=[none,some (.mr 0),some (.int n),some (.lst (cs.map D.int)),some (.lst (ts.map mO)),some (.int c),v6,some (.int i),some (wq t),Z,J]/\W=[.box],?_,?_⟩
   .refine Bg (λb=>b=true->0<c) (λK k=>?_) (λq=>?_) (λ_=>pK ⟨t,by have:t.dep<=3:=t2;lia,rfl,rfl⟩)
    .exact kT (c:=0<c) (λq=>⟨rfl,by decide,by decide,λv v0 v1=>k _ λ_=>q⟩) (λq=>k _ λh=>by cases h)
    .have q:=q rfl;cases hc1 with
     |no _=>exact absurd q (by decide)
     | yes a ha hb O =>
      rw[el]at q ⊢
      have cb:=(mI (es:=fC n cs) (ts:=ts) (by lia) (by lia) (a+1) 0 (cs.length+1) (by lia) (by lia)).2;refine⟨rfl,q,⟨_,by lia,cb⟩,λr r0 r1=>⟨⟨_,rfl⟩,cs,ts,rfl,rfl,S,by lia,?_⟩⟩;unfold qL;rw[hb];intro a' _ L;obtain rfl:=O.uniq L;rw[el,aB ⟨r0,r1⟩];obtain⟨b1,b2,b3,b4⟩:=NZ S (by lia) O r0 r1;refine⟨rfl,_,rfl,by lia,h1,by lia,by lia,by rw[RW];lia,λt' d1 d2=>⟨t',by lia,rfl,rfl⟩⟩
   clear t1 t2 t3;clear t;rintro jV W ⟨t,td,rfl,rfl⟩;have tn:(∃ r:Int,(∀ b:Bool,(b=false->iQ (fC n cs) ts=none->∀ a,gT (fC n cs) ts n a->¬ sF (fC n cs) ts (a+1) 0 (cs.length+1) t)->b=true)/\(∀(μ:MS) (K:DK) (X:Prop),K (.int r) μ->AL (fC n cs) ts n t μ K X)/\∀(μ:MS) (K:DK) (X:Prop),K (wq t) μ->qL (fC n cs) ts n r μ K X) \/
    ((∀ b:Bool,(b=true->∃ a:Nat,a<=66/\iQ (fC n cs) ts=none/\gT (fC n cs) ts n a/\sF (fC n cs) ts (a+1) 0 (cs.length+1) t)->b=false)/\∀(μ:MS) (K:DK) (X:Prop),X->AL (fC n cs) ts n t μ K X):=by
    unfold AL qL;cases hc1 with
    | no hb =>
     right;refine⟨λb h=>?_,λμ K X U=>?_⟩
     .cases b with
      |false=>rfl
      |true=>obtain⟨_,_,Js,_⟩:=h rfl;exact absurd Js hb
     .cases Js:iQ (fC n cs) ts with
      |none=>exact absurd Js hb
      |some p=>exact U
    | yes a ha hb O =>
     rw[hb,el];have rb:=qZ (iK S.n1 S.jD) (ts:=ts) (a+1) 0 (cs.length+1) t (by lia) (by lia);cases er:yw (fC n cs) ts (a+1) 0 (cs.length+1) t with
     | none =>
      right;refine⟨λb h=>?_,λμ K X U a' _ L=>?_⟩
      .cases b with
       |false=>rfl
       | true =>obtain⟨a',_,_,L,ML⟩:=h rfl;obtain rfl:=O.uniq L;have:=rb.mpr ML;rw[er]at this;cases this
      .obtain rfl:=O.uniq L;rw[er];exact U
     | some r =>
      left;obtain⟨r0,r1,r2⟩:=Bz (by lia) (by lia) (a+1) 0 (cs.length+1) t r (by lia) (by lia) er;refine⟨r,λb h=>?_,λμ K X U a' _ L=>?_,λμ K X U a' _ L=>?_⟩
      .cases b with
       |true=>rfl
       |false=>exact absurd (rb.mp (by rw[er];rfl)) (h rfl rfl a O)
      .obtain rfl:=O.uniq L;rw[er];exact U
      .obtain rfl:=O.uniq L;rw[aB ⟨r0,r1⟩,r2];exact U
   rcases tn with⟨r,ib,nk,bk⟩|⟨ib,nk⟩
   .refine⟨⟨_,rfl⟩,K1,K2,cs,ts,rfl,rfl,S,by lia,.inr ⟨t,rfl,nk _ _ _ ?_⟩⟩;dsimp only;refine Bg (λb=>b=false) (λK k=>⟨cs,ts,t,rfl,rfl,rfl,S,by lia,by lia,λb _ h=>k _ (by rw[ib b h];rfl)⟩) (λq=>by cases q) (λ_=>?_);refine pL false (.Gg λK k=>k) (λq=>by cases q) (λ_=>pK ?_);dsimp only;refine⟨⟨_,rfl⟩,K1,K2,cs,ts,rfl,rfl,S,by lia,.inl ⟨rfl,bk _ _ _ ?_⟩⟩;dsimp only;exact pL (!true) (.not (.Gg λK k=>⟨zs,Gh (wq t),rfl,rfl,KZ (n:=19) (by lia),k⟩)) (λq=>by cases q) (λ_=>pK (pG _ _ _ _))
   .refine⟨⟨_,rfl⟩,K1,K2,cs,ts,rfl,rfl,S,by lia,.inr ⟨t,rfl,nk _ _ _ ?_⟩⟩;dsimp only;refine Bg (λb=>b=true) (λK k=>⟨cs,ts,t,rfl,rfl,rfl,S,by lia,by lia,λb h _=>k _ (by rw[ib b h];rfl)⟩) (λ_=>?_) (λq=>by cases q);exact pL (!true) (.not (.Gg λK k=>⟨zs,zs,K9 1,rfl,rfl,K0 18 1,k⟩)) (λq=>by cases q) (λ_=>pK (pG _ _ _ _))
end
def D9:ak:=(.str "hissroom.errors" 218)
def nJ:ak:=(.str "law_hissroom_k20_numbers_and_makes_refused" 741)
def RZ:ak:=(.str "hissroom.ends" 187)
def Oo:ak:=(.str "hissroom.reach" 521)
def Om:ak:=(.str "hissroom.tables" 560)
def wx:ak:=(.str "hissroom.few" 593)
def kk(P:Params):aa:=List.flatten [[ko 3 (W4 P "law_hissroom_k20_numbers_and_makes_refused" 741 [me "ends" 196 (.ref 21),me "pieces" 205 (.ref 28),me "farthest" 211 (.ref 33),me "bar_of" 217 (.ref 38),me "HissError" 237 (.ref 48),me "BadBars" 253 (.ref 61),me "BadMake" 269 (.ref 73),me "BadNumber" 285 (.ref 85),me "BadText" 301 (.ref 97),me "BadName" 317 (.ref 109),me "BadAge" 333 (.ref 121),me "BadBar" 349 (.ref 133),me "BadPlace" 365 (.ref 145),me "Taken" 381 (.ref 157),me "Full" 397 (.ref 169),me "NoTake" 413 (.ref 181),me "Shut" 429 (.ref 193),me "Joined" 445 (.ref 205),me "Needed" 461 (.ref 217),me "NothingLeft" 477 (.ref 229),me "BadSize" 493 (.ref 241),me "NoWay" 520 (.ref 260),me "least_age" 535 (.ref 269),me "youngest" 541 (.ref 274),me "take_rows" 547 (.ref 279),me "clean_row" 553 (.ref 284),me "next_reach" 559 (.ref 289),me "few_tables" 567 (.ref 294),me "no_make" 574 (.ref 301),me "bare_table" 580 (.ref 306),me "next_table" 586 (.ref 311),me "fewest_joined" 592 (.ref 316),me "count_best" 604 (.ref 323),me "best_of" 615 (.ref 330),me "number_of" 626 (.ref 337),me "BestMakes" 732 (.ref 399),me "take_rank" 740 (.ref 410),me "_law_box" 749 (.ref 417),me "_law_take" 761 (.ref 424),me "_law_bars" 767 (.ref 429),me "_law_cuts" 773 (.ref 434),me "_law_patched" 788 (.ref 441),me "_law_shelf" 794 (.ref 446),me "_law_make" 806 (.ref 453),me "_law_count" 813 (.ref 460),me "_law_small" 820 (.ref 467),me "_law_made" 831 (.ref 474),me "_law_far" 837 (.ref 479),me "_law_own" 843 (.ref 484),me "_law_rows" 849 (.ref 489),me "_law_barred" 855 (.ref 494),me "_law_least" 861 (.ref 499),me "_law_few_next" 867 (.ref 504),me "_law_few" 878 (.ref 511),me "_law_tuples" 885 (.ref 518),me "_law_is_best" 898 (.ref 525),me "_law_kinds" 904 (.ref 530),me "_law_same" 910 (.ref 535),me "_law_told" 923 (.ref 542),me "_law_bent" 934 (.ref 549),me "law" 951 (.ref 556)])],[ko 399 ⟨.type "type",none,(.cls ⟨"BestMakes",[.type "object"],[.ref 399,.type "object"],398, "BestMakes",true,[],[],false,none,false⟩),#[none,none,(some (.str "BestMakes" 627)),(some (.str "BestMakes" 635)),(some (.builtin "object.__new__")),(some (.bool true))]⟩,ko 398 ⟨.type "dict",none,(.dict #[ud P "__module__" 634 (.str "hissroom.few" 593),ud P "__firstlineno__" 638 (.int 130 637),ud P "__init__" 649 (.ref 351),ud P "is_take" 660 (.ref 358),ud P "clean_takes" 666 (.ref 363),ud P "halves" 672 (.ref 368),ud P "counted" 680 (.ref 375),ud P "count_anew" 692 (.ref 382),ud P "numbered" 706 (.ref 389),ud P "rank" 719 (.ref 396),ud P "__static_attributes__" 725 (.ref 397),ud P "__dict__" 727 (.ref 400),ud P "__weakref__" 729 (.ref 401),ud P "__doc__" 730 (.none)] 4),#[]⟩],kx P 85 84 48 "BadNumber" (some (.ref 76)) 270 278 D9 277 23 83,kx P 73 72 48 "BadMake" (some (.ref 64)) 254 262 D9 261 21 71,kx P 61 60 48 "BadBars" (some (.ref 52)) 238 246 D9 245 19 59,kx P 97 96 48 "BadText" (some (.ref 88)) 286 294 D9 293 25 95,kx P 109 108 48 "BadName" (some (.ref 100)) 302 310 D9 309 27 107,kx P 121 120 48 "BadAge" (some (.ref 112)) 318 326 D9 325 29 119,kx P 133 132 48 "BadBar" (some (.ref 124)) 334 342 D9 341 31 131,kx P 145 144 48 "BadPlace" (some (.ref 136)) 350 358 D9 357 33 143,kx P 241 240 48 "BadSize" (some (.ref 232)) 478 486 D9 485 49 239,kx P 157 156 48 "Taken" (some (.ref 148)) 366 374 D9 373 35 155,kx P 169 168 48 "Full" (some (.ref 160)) 382 390 D9 389 37 167,kx P 181 180 48 "NoTake" (some (.ref 172)) 398 406 D9 405 39 179,kx P 193 192 48 "Shut" (some (.ref 184)) 414 422 D9 421 41 191,kx P 205 204 48 "Joined" (some (.ref 196)) 430 438 D9 437 43 203,kx P 217 216 48 "Needed" (some (.ref 208)) 446 454 D9 453 45 215,kx P 229 228 48 "NothingLeft" (some (.ref 220)) 462 470 D9 469 47 227,[ko 260 ⟨.type "type",none,(.cls ⟨"NoWay",[.ref 48],[.ref 260,.ref 48,.type "ValueError",.type "Exception",.type "BaseException",.type "object"],259, "NoWay",true,[],[],false,none,false⟩),#[(some (.ref 244)),none,(some (.str "NoWay" 494)),(some (.str "NoWay" 502)),(some (.builtin "ValueError.__new__")),(some (.bool true))]⟩,ko 259 ⟨.type "dict",none,(.dict #[ud P "__module__" 501 (.str "hissroom.errors" 218),ud P "__firstlineno__" 505 (.int 51 504),ud P "__init__" 514 (.ref 257),ud P "__static_attributes__" 517 (.ref 258),ud P "__doc__" 518 (.none)] 2),#[]⟩],[ko 48 ⟨.type "type",none,(.cls ⟨"HissError",[.type "ValueError"],[.ref 48,.type "ValueError",.type "Exception",.type "BaseException",.type "object"],47, "HissError",true,[],[.ref 61,.ref 73,.ref 85,.ref 97,.ref 109,.ref 121,.ref 133,.ref 145,.ref 157,.ref 169,.ref 181,.ref 193,.ref 205,.ref 217,.ref 229,.ref 241,.ref 260],false,none,false⟩),#[(some (.ref 39)),none,(some (.str "HissError" 220)),(some (.str "HissError" 228)),(some (.builtin "ValueError.__new__")),(some (.bool true))]⟩,ko 47 ⟨.type "dict",none,(.dict #[ud P "__module__" 227 (.str "hissroom.errors" 218),ud P "__firstlineno__" 231 (.int 17 230),ud P "__static_attributes__" 232 (.ref 46),ud P "__weakref__" 234 (.ref 49),ud P "__doc__" 235 (.none)] 3),#[]⟩],oZ 417 416 "_law_box" xu nJ 743 194 1 411 412 (.ref 413) (.ref 414) 415 747,oZ 424 423 "_law_take" ou nJ 750 196 2 418 419 (.ref 420) (.ref 421) 422 759,oZ 429 428 "_law_bars" r8 nJ 762 212 2 425 426 .none .none 427 765,oZ 434 433 "_law_cuts" rZ nJ 768 225 2 430 431 .none .none 432 771,oZ 441 440 "_law_patched" l8 nJ 774 232 4 435 436 (.ref 437) (.ref 438) 439 786,oZ 446 445 "_law_shelf" px nJ 789 240 2 442 443 .none .none 444 792,oZ 535 534 "_law_same" s_same nJ 905 342 2 531 532 .none .none 533 908,oZ 21 20 "ends" rY RZ 189 2 2 15 16 (.ref 17) (.ref 18) 19 194,oZ 28 27 "pieces" nh RZ 197 4 2 22 23 (.ref 24) (.ref 25) 26 203,oZ 38 37 "bar_of" nj RZ 212 11 3 34 35 .none .none 36 215,oZ 33 32 "farthest" lg RZ 206 7 4 29 30 .none .none 31 209,oZ 279 278 "take_rows" jO Oo 542 70 3 275 276 .none .none 277 545,oZ 284 283 "clean_row" kq Oo 548 73 3 280 281 .none .none 282 551,oZ 289 288 "next_reach" jQ Oo 554 79 4 285 286 .none .none 287 557,oZ 274 273 "youngest" k9 Oo 536 68 1 270 271 .none .none 272 539,oZ 269 268 "least_age" ki Oo 523 57 3 263 264 (.ref 265) (.ref 266) 267 533,oZ 301 300 "no_make" l9 Om 568 98 1 295 296 (.ref 297) (.ref 298) 299 572,oZ 306 305 "bare_table" jt Om 575 100 1 302 303 .none .none 304 578,oZ 316 315 "fewest_joined" i8 Om 587 110 3 312 313 .none .none 314 590,oZ 311 310 "next_table" jr Om 581 103 3 307 308 .none .none 309 584,oZ 294 293 "few_tables" jR Om 562 84 4 290 291 .none .none 292 565,kf 358 357 "is_take" "BestMakes.is_take" hV wx 650 140 2 352 353 (.ref 354) (.ref 355) 356 658,kf 363 362 "clean_takes" "BestMakes.clean_takes" gE wx 661 144 2 359 360 .none .none 361 664,kf 368 367 "halves" "BestMakes.halves" iu wx 667 149 2 364 365 .none .none 366 670,kf 382 381 "count_anew" "BestMakes.count_anew" gI wx 681 160 2 376 377 (.ref 378) (.ref 379) 380 690,kf 375 374 "counted" "BestMakes.counted" hX wx 673 155 2 369 370 (.ref 371) (.ref 372) 373 678,kf 351 350 "__init__" "BestMakes.__init__" gW wx 639 132 4 345 346 (.ref 347) (.ref 348) 349 647,oZ 323 322 "count_best" jS wx 595 113 3 317 318 (.ref 319) (.ref 320) 321 602,kf 389 388 "numbered" "BestMakes.numbered" gU wx 693 168 3 383 384 (.ref 385) (.ref 386) 387 704,oZ 330 329 "best_of" mf wx 605 118 4 324 325 (.ref 326) (.ref 327) 328 613,oZ 410 409 "take_rank" ke wx 733 189 2 404 405 (.ref 406) (.ref 407) 408 738,kf 396 395 "rank" "BestMakes.rank" iO wx 707 178 3 390 391 (.ref 392) (.ref 393) 394 717,oZ 337 336 "number_of" kh wx 616 125 4 331 332 (.ref 333) (.ref 334) 335 624,oZ 479 478 "_law_far" xr nJ 832 277 3 475 476 .none .none 477 835,oZ 484 483 "_law_own" xp nJ 838 282 3 480 481 .none .none 482 841,oZ 489 488 "_law_rows" rV nJ 844 287 3 485 486 .none .none 487 847,oZ 494 493 "_law_barred" ni nJ 850 296 2 490 491 .none .none 492 853,oZ 499 498 "_law_least" pz nJ 856 302 2 495 496 .none .none 497 859,oZ 504 503 "_law_few_next" kn nJ 862 307 3 500 501 .none .none 502 865,oZ 511 510 "_law_few" xq nJ 868 319 3 505 506 (.ref 507) (.ref 508) 509 876,oZ 453 452 "_law_make" rW nJ 795 253 4 447 448 (.ref 449) (.ref 450) 451 804,oZ 474 473 "_law_made" rX nJ 821 267 3 468 469 (.ref 470) (.ref 471) 472 829,oZ 518 517 "_law_tuples" ng nJ 879 324 1 512 513 (.ref 514) (.ref 515) 516 883,oZ 525 524 "_law_is_best" ma nJ 886 326 4 519 520 (.ref 521) (.ref 522) 523 896,oZ 530 529 "_law_kinds" pB nJ 899 333 1 526 527 .none .none 528 902,oZ 549 548 "_law_bent" r6 nJ 924 361 4 543 544 (.ref 545) (.ref 546) 547 932,oZ 542 541 "_law_told" rT nJ 911 352 5 536 537 (.ref 538) (.ref 539) 540 921,oZ 556 555 "law" nR nJ 935 372 1 550 551 (.ref 552) (.ref 553) 554 949]
def hk:W.Hook:=W.kHook kk [3,399,398,85,84,73,72,61,60,97,96,109,108,121,120,133,132,145,144,241,240,157,156,169,168,181,180,193,192,205,204,217,216,229,228,260,259,48,47,417,416,424,423,429,428,434,433,441,440,446,445,535,534,21,20,28,27,38,37,33,32,279,278,284,283,289,288,274,273,269,268,301,300,306,305,316,315,311,310,294,293,358,357,363,362,368,367,382,381,375,374,351,350,323,322,389,388,330,329,410,409,396,395,337,336,479,478,484,483,489,488,494,493,499,498,504,503,511,510,453,452,474,473,518,517,525,524,530,529,549,548,542,541,556,555] (λ_=>by kernel_rfl)
def lw:W.OpenLaw:=PySem.Challenge.rw_hissroom_k20_numbers_and_makes_refused
def qq:ae:={ lw.prog with main:={ lw.prog.main with body:=[nR]}}
def ll:ao Str:=[sS "ends",sS "pieces",sS "farthest",sS "bar_of",sS "HissError",sS "BadBars",sS "BadMake",sS "BadNumber",sS "BadText",sS "BadName",sS "BadAge",sS "BadBar",sS "BadPlace",sS "Taken",sS "Full",sS "NoTake",sS "Shut",sS "Joined",sS "Needed",sS "NothingLeft",sS "BadSize",sS "NoWay",sS "least_age",sS "youngest",sS "take_rows",sS "clean_row",sS "next_reach",sS "few_tables",sS "no_make",sS "bare_table",sS "next_table",sS "fewest_joined",sS "count_best",sS "best_of",sS "number_of",sS "BestMakes",sS "take_rank",sS "_law_box",sS "_law_take",sS "_law_bars",sS "_law_cuts",sS "_law_patched",sS "_law_shelf",sS "_law_make",sS "_law_count",sS "_law_small",sS "_law_made",sS "_law_far",sS "_law_own",sS "_law_rows",sS "_law_barred",sS "_law_least",sS "_law_few_next",sS "_law_few",sS "_law_tuples",sS "_law_is_best",sS "_law_kinds",sS "_law_same",sS "_law_told",sS "_law_bent"]
def xt(s:ah):Bool:=W.xlAt qq [] s&&W.recOk (W.RowW.records lw.row.toRowW) s
def W7:SI lw.prog qq ll xt hk.obs hk.val 5601:=λw os=>by kernel_rfl
def left:W.LeftO lw.prog qq ll xt hk.obs hk.val 5601:=Mf (by kernel_rfl) rfl (λs=>by kernel_rfl) rfl W7
def Z7:lw.wellSaid=true:=(congrFun W.Fast.te9446332074065402090 lw).trans (by kernel_rfl)
def dd:DefRec:=⟨"law",j7 nR,jy nR,fM nR,U6 nR⟩
def holds(F:W.WalkO qq ll (W.XL qq []) hk.says lw.row.toRowW dd [] (λf vs=>PySem.call f vs)):lw.Holds:=W.holds_law Z7 λk1=>W.holds_open (q:=qq) (loose:=ll) (Xt:=xt) (XP:=W.XL qq []) (d:=dd) (kwd:=[]) left hk.of hk.keeps (λs e=>W.xl_of s (Bool.and_eq_true_iff.mp e).1) W.XL.keeps (by kernel_rfl) (by kernel_rfl) rfl (λs e=>W.recFacts_of (Bool.and_eq_true_iff.mp e).2) rfl k1 (by kernel_rfl) ⟨rfl,rfl,rfl,rfl,rfl,by kernel_rfl⟩ ⟨[.list []],by kernel_rfl,by kernel_rfl⟩ F
abbrev lx(f:ae->af->aa->(Str->aq ak)->Heap->Prop)(w:af)(mg:Str->aq ak)(fF:Heap):Prop:=f lw.prog w (kk w.params) mg fF
def fq(w:af)(x q:Str)(s:Stmt)(f:ai)(pm:ak)(c:ai)(l:(kk w.params).lookup f=some (Zh x q s pm c):=by kernel_rfl)(c':W.codeIn (kk w.params) (.ref c) q=true:=by kernel_rfl)(k:W.keepIn (kk w.params) (.ref f)=true:=by kernel_rfl):=MU l c' k
def o5(w:af)(x:Str)(s:Stmt)(f:ai)(pm:ak)(c:ai)(l:(kk w.params).lookup f=some (Zh x x s pm c):=by kernel_rfl)(c':W.codeIn (kk w.params) (.ref c) x=true:=by kernel_rfl)(k:W.keepIn (kk w.params) (.ref f)=true:=by kernel_rfl):=MU l c' k
set_option maxHeartbeats 40000000 in
def fin:W.WalkO qq ll (W.XL qq []) hk.says lw.row.toRowW dd [] (λf vs=>PySem.call f vs):=by
 refine L2.OD (l:=lw) (d:=dd) (n:=63) (k:=220) (x:= "_law_script") (K:=kk) (CX:=λ_=>kO) (sp:=λw=>Ry (kk w.params)) rfl (by decide) rfl ⟨rfl,by decide,by decide⟩ (λw h Y=>W.kIn_of Y) (λw mg fa h X G hfa=>?_) (λ_ _ a ns hl _ hS=>⟨a,ns,rfl,hS,hl,λ_=>rfl⟩) λ_ _ _ _ _ z=>z;have e:=hfa.symm.trans (eW X G (show W.nsIn (kk w.params) mainGlobals "law"=sr 556 by kernel_rfl));cases e;have T:lR mg:=⟨bY X G (by kernel_rfl),bY X G (by kernel_rfl),bY X G (by kernel_rfl),bY X G (by kernel_rfl),bY X G (by kernel_rfl),bY X G (by kernel_rfl),bY X G (by kernel_rfl),bY X G (by kernel_rfl),bY X G (by kernel_rfl),bY X G (by kernel_rfl),bY X G (by kernel_rfl),bY X G (by kernel_rfl),bY X G (by kernel_rfl),bY X G (by kernel_rfl),bY X G (by kernel_rfl),bY X G (by kernel_rfl),bY X G (by kernel_rfl)⟩;have TV:mg "ValueError"=none:=bY X G (by kernel_rfl);have O:iC (kk w.params) fI:=⟨⟨by kernel_rfl,by kernel_rfl,by kernel_rfl,by kernel_rfl⟩,by kernel_rfl,by kernel_rfl,by kernel_rfl,by kernel_rfl,by kernel_rfl⟩;have F0:=o5 w "_law_box" xu 417 nJ 416;have F1:=o5 w "_law_take" ou 424 nJ 423;have F2:=o5 w "_law_bars" r8 429 nJ 428;have F3:=o5 w "_law_cuts" rZ 434 nJ 433;have F4:=o5 w "_law_patched" l8 441 nJ 440;have F5:=o5 w "_law_shelf" px 446 nJ 445;have F6:=o5 w "_law_same" s_same 535 nJ 534;have F7:=o5 w "ends" rY 21 RZ 20;have F8:=o5 w "pieces" nh 28 RZ 27;have F9:=o5 w "bar_of" nj 38 RZ 37;have F10:=o5 w "farthest" lg 33 RZ 32;have F11:=o5 w "take_rows" jO 279 Oo 278;have F12:=o5 w "clean_row" kq 284 Oo 283;have F13:=o5 w "next_reach" jQ 289 Oo 288;have F14:=o5 w "youngest" k9 274 Oo 273;have F15:=o5 w "least_age" ki 269 Oo 268;have F16:=o5 w "no_make" l9 301 Om 300;have F17:=o5 w "bare_table" jt 306 Om 305;have F18:=o5 w "fewest_joined" i8 316 Om 315;have F19:=o5 w "next_table" jr 311 Om 310;have F20:=o5 w "few_tables" jR 294 Om 293;have F21:=fq w "is_take" "BestMakes.is_take" hV 358 wx 357;have F22:=fq w "clean_takes" "BestMakes.clean_takes" gE 363 wx 362;have F23:=fq w "halves" "BestMakes.halves" iu 368 wx 367;have F24:=fq w "count_anew" "BestMakes.count_anew" gI 382 wx 381;have ZA:=fq w "counted" "BestMakes.counted" hX 375 wx 374;have F26:=fq w "__init__" "BestMakes.__init__" gW 351 wx 350;have F27:=o5 w "count_best" jS 323 wx 322;have Zz:=fq w "numbered" "BestMakes.numbered" gU 389 wx 388;have F29:=o5 w "best_of" mf 330 wx 329;have F30:=o5 w "take_rank" ke 410 wx 409;have Zy:=fq w "rank" "BestMakes.rank" iO 396 wx 395;have F32:=o5 w "number_of" kh 337 wx 336;have F33:=o5 w "_law_far" xr 479 nJ 478;have F34:=o5 w "_law_own" xp 484 nJ 483;have F35:=o5 w "_law_rows" rV 489 nJ 488;have F36:=o5 w "_law_barred" ni 494 nJ 493;have F37:=o5 w "_law_least" pz 499 nJ 498;have F38:=o5 w "_law_few_next" kn 504 nJ 503;have F39:=o5 w "_law_few" xq 511 nJ 510;have YI:=o5 w "_law_make" rW 453 nJ 452;have YH:=o5 w "_law_made" rX 474 nJ 473;have YG:=o5 w "_law_tuples" ng 518 nJ 517;have F43:=o5 w "_law_is_best" ma 525 nJ 524;have Z:=o5 w "_law_kinds" pB 530 nJ 529
 have YF:=o5 w "_law_bent" r6 549 nJ 548;have U:=o5 w "_law_told" rT 542 nJ 541;have F47:=o5 w "law" nR 556 nJ 555;refine⟨W.fnOf "law" "law" (j7 nR) (jy nR) (fM nR) .none .none .none nJ none (.ref 555) .none,λs v=>.of_eq rfl,λfF J L=>?_⟩;have kD:=ku (x:= "BadNumber") (C:=ja) (h:=fF) J L (by kernel_rfl) (by kernel_rfl);have iI:=ku (x:= "BadMake") (C:=iH) (h:=fF) J L (by kernel_rfl) (by kernel_rfl);have ve:=ku (x:= "BadBars") (C:=ye) (h:=fF) J L (by kernel_rfl) (by kernel_rfl);have va:=ku (x:= "BadText") (C:=yb) (h:=fF) J L (by kernel_rfl) (by kernel_rfl);have vd:=ku (x:= "BadName") (C:=yd) (h:=fF) J L (by kernel_rfl) (by kernel_rfl);have yp:=ku (x:= "BadAge") (C:=By) (h:=fF) J L (by kernel_rfl) (by kernel_rfl);have yo:=ku (x:= "BadBar") (C:=Bx) (h:=fF) J L (by kernel_rfl) (by kernel_rfl);have sD:=ku (x:= "BadPlace") (C:=u3) (h:=fF) J L (by kernel_rfl) (by kernel_rfl);have vc:=ku (x:= "BadSize") (C:=yc) (h:=fF) J L (by kernel_rfl) (by kernel_rfl);have BH:=ku (x:= "Taken") (C:=FC) (h:=fF) J L (by kernel_rfl) (by kernel_rfl);have FN:=ku (x:= "Full") (C:=NY) (h:=fF) J L (by kernel_rfl) (by kernel_rfl);have yh:=ku (x:= "NoTake") (C:=Bu) (h:=fF) J L (by kernel_rfl) (by kernel_rfl);have FL:=ku (x:= "Shut") (C:=NX) (h:=fF) J L (by kernel_rfl) (by kernel_rfl);have yj:=ku (x:= "Joined") (C:=Bw) (h:=fF) J L (by kernel_rfl) (by kernel_rfl);have yi:=ku (x:= "Needed") (C:=Bv) (h:=fF) J L (by kernel_rfl) (by kernel_rfl);have oH:=ku (x:= "NothingLeft") (C:=pQ) (h:=fF) J L (by kernel_rfl) (by kernel_rfl);have BI:Yw "NoWay" FD mg:=⟨eW X G (by kernel_rfl)⟩;have qM:=ku (x:= "HissError") (C:=kC) (h:=fF) J L (by kernel_rfl) (by kernel_rfl);have KA:∀ j,j<16->mS (kk w.params) Tq kC j:=k16 kB kB kB kB kB kB kB kB kB kB kB kB kB kB kB kB;have C0:lx SE w mg fF:=gP X G F0 (T9 F0 T ) (Vo F0);have C1:lx oF w mg fF:=gP X G F1 (Pw F1 T ) (Ek F1);have C2:lx NW w mg fF:=gP X G F2 (PB F2 T  C1) (Ek F2);have C3:lx NU w mg fF:=gP X G F3 (Pz F3 T  C1) (Ek F3);have C4:lx zQ w mg fF:=gP X G F4 (EL F4 T  C1) (JX F4);have C5:lx HK w mg fF:=gP X G F5 (LN F5 T  C1 C2 C3 C4) (Ek F5);have C6:lx DZ w mg fF:=gP X G F1 (zo F1 T ) (Ek F1);have C7:lx NP w mg fF:=gP X G F6 ((GP F6 T  (eW X G (by kernel_rfl)) F6.kp (Ek F6)  20).imp λvs H Q E h=>Iz h) (Ek F6);have C8:lx sA w mg fF:=gP X G F7 (Py F7 T ) (Ek F7);have C9:lx D0 w mg fF:=gP X G F8 (IP F8 T  C8) (Ek F8);have ZD:lx qJ w mg fF:=gP X G F9 (IS F9 T  C9) (Ej F9);have C11:lx ya w mg fF:=gP X G F10 (CQ F10 T  C8) (JX F10);have C12:lx oi w mg fF:=gP X G F11 (AG F11 T  C8 C11) (Ej F11);have C13:lx qI w mg fF:=gP X G F12 (AK F12 T ) (Ej F12);have C14:lx uh w mg fF:=gP X G F13 (yI F13 T  C13) (JX F13);have C15:lx sy w mg fF:=gP X G F14 (CK F14 T ) (Vo F14);have C16:lx vK w mg fF:=gP X G F15 (AJ F15 T  ZD C8 C12 C15 C14) (Ej F15);have C17:lx uY w mg fF:=gP X G F16 (EM F16 T ) (Vo F16);have C18:lx uk w mg fF:=gP X G F17 (yL F17 T  C17) (Vo F17);have C19:lx pX w mg fF:=gP X G F18 (uK F18 T ) (Ej F18);have C20:lx ug w mg fF:=gP X G F19 (yH F19 T  C17 C19) (Ej F19)
 have C21:lx ui w mg fF:=gP X G F20 (yJ F20 T  C8 C12 C18 C15 C20 C13) (JX F20);have C22:lx hZ w mg fF:=uf F21 (qt F21 T O) (Ek F21);have C23:lx gF w mg fF:=uf F22 (oy F22 T O) (Ek F22);have C24:lx iB w mg fF:=uf F23 (rD F23 T O) (Ek F23);have ZC:lx ia w mg fF:=uf ZA (zp ZA F24 T O ⟨by kernel_rfl,by kernel_rfl,by kernel_rfl⟩ ⟨by kernel_rfl,by kernel_rfl,by kernel_rfl⟩ (ZA.binds λ_ _ _ _ _ _=>Ei λ_=>QY λ_=>rfl) (F24.binds λ_ _ _ _ _ _=>Ei λ_=>QY λ_=>rfl) C22 C23 C24 71) (Ek ZA);have C27:lx jz w mg fF:=QT X G F26 (p4 F26 T O C8 C12 C16 C21) (JX F26);have C28:lx uj w mg fF:=gP X G F27 (yK F27 T O ZD C27 ZC) (Ej F27);have C29:lx mJ w mg fF:=uf Zz (GR Zz T O ⟨by kernel_rfl,by kernel_rfl,by kernel_rfl⟩ (Zz.binds λ_ _ _ _ _ _=>Ei λ_=>Ei λ_=>QY λ_=>rfl) C22 C23 C24 ZC 71 (by decide)) (Ej Zz);have C30:lx uZ w mg fF:=Bo X G F29 (EO F29 T O kD ZD C27 ZC C29) (JX F29);have C31:lx qH w mg fF:=Bo X G F30 (AH F30 T iI) (Ek F30);have C32:lx oX w mg fF:=NM Zy (GQ Zy T O iI ⟨by kernel_rfl,by kernel_rfl,by kernel_rfl⟩ (Zy.binds λ_ _ _ _ _ _=>Ei λ_=>Ei λ_=>QY λ_=>rfl) C22 C23 C24 ZC C31 71 (by decide)) (Ej Zy);have C33:lx vJ w mg fF:=Bo X G F32 (AI F32 T O iI ZD C27 C32) (JX F32);have C34:lx SD w mg fF:=gP X G F33 (T8 F33 T ) (Ej F33);have C35:lx NR w mg fF:=gP X G F34 (T5 F34 T  C34) (Ej F34);have C36:lx NQ w mg fF:=gP X G F35 (Px F35 T  C35) (Ej F35);have C37:lx D1 w mg fF:=gP X G F36 (IQ F36 T ) (Ek F36);have C38:lx HL w mg fF:=gP X G F37 (LO F37 T  C37 C36) (Ek F37);have C39:lx x9 w mg fF:=gP X G F38 (CP F38 T ) (Ej F38);have C40:lx SA w mg fF:=gP X G F39 (T7 F39 T  C35 C39) (Ej F39);have C41:lx NS w mg fF:=gP X G YI (GS YI T  (eW X G (by kernel_rfl)) YI.kp (JX YI) C1 6) (JX YI);have C42:lx NT w mg fF:=gP X G YH (GU YH T  (eW X G (by kernel_rfl)) YH.kp (Ej YH)  63) (Ej YH);have C43:lx DY w mg fF:=gP X G YG (zm YG T  (eW X G (by kernel_rfl)) YG.kp (Vo YG)  63) (Vo YG);have C44:lx zR w mg fF:=gP X G F43 (EN F43 T  C42 C38 C43 C40) (JX F43);have C45:lx HM w mg fF:=QU X G Z (LP Z T TV ve iI kD va vd yp yo sD vc BH FN yh FL yj yi oH BI) (Vo Z);have C46:lx NV w mg fF:=gP X G YF (GV YF T  (eW X G (by kernel_rfl)) YF.kp (JX YF) C1 63) (JX YF);have C47:lx NO w mg fF:=gP X G U (Pu U T qM C30 C33 C45) (bd5 U);exact T6 F47 T KA C0 C1 C6 C5 C28 C41 C46 C30 C47 C7 C44
end Pf
theorem PySem.Challenge.cw_hissroom_k20_numbers_and_makes_refused_holds : PySem.Challenge.rw_hissroom_k20_numbers_and_makes_refused.Holds :=
 Pf.holds Pf.fin