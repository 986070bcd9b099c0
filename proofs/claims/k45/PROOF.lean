import PyProof.Rows.All
import Wide.All
import OpenK.AllK
import Wide.FinOn
import Lean
import PyProof.EqAt
import PyProof.EqKinds
import PyProof.TupleCall
import PyProof.NeKinds
import PyProof.ListRange
import PyProof.MaxThree
import PyProof.DictWalks
import PyProof.Rows.SortWalk
import PyProof.Rows.TopTwo
import PyProof.RangeIter
import PyProof.ExcArgsOwn
import PyProof.ExcBaseAll.ValueError
import PyProof.ExcAttrAll.ValueError
import KE.KIsAll
import OpenK.KOwn
import PyProof.StrBlock
import PyProof.DictItems
import PyProof.DictItemsLoops
import PyProof.DictValues
import PySem.Challenge.RW_hissroom_k45_sheets_written
set_option Elab.async false
set_option linter.all false
set_option maxRecDepth 100000
local macro_rules | `(tactic| omega) => `(tactic| lia)
set_option genSizeOf false
set_option maxHeartbeats 4000000
theorem gxA {α:Type _}{l:List α}{i:Nat}(h:i<l.length):l[i]?=some l[i]:=List.getElem?_eq_getElem h
theorem gxB {α:Type _}{l:List α}{i:Nat}{a:α}(h:l[i]?=some a):∃ h:i<l.length,l[i]=a:=List.getElem?_eq_some_iff.mp h
theorem gxC {α β:Type _}{as:List α}(f:α->β):(as.map f).length=as.length:=List.length_map f
theorem gxD {α:Type _}{l:List α}{i:Nat}{a:α}(e:l[i]?=some a):a∈l:=List.mem_of_getElem? e
theorem gxE {α:Type _}{as bs:List α}:(as++bs).length=as.length+bs.length:=List.length_append
theorem gxF {α:Type _}{l₁ l₂:List α}{i:Nat}(h:i<l₁.length):(l₁++l₂)[i]?=l₁[i]?:=List.getElem?_append_left h
theorem gxG {α:Type _}{l₁ l₂:List α}{i:Nat}(h:l₁.length<=i):(l₁++l₂)[i]?=l₂[i - l₁.length]?:=List.getElem?_append_right h
theorem gxI {α:Type _}{a:α}(b:α){l:List α}(h:a∈l):a∈b::l:=List.mem_cons_of_mem b h
theorem gxJ {n:Nat}:(List.range n).length=n:=List.length_range
theorem gxK (n:Nat):(n:Int).toNat=n:=Int.toNat_natCast n
theorem gxL {h:PySem.Heap}{a:PySem.Addr}{u:PySem.Obj}(v:PySem.Obj)(e:h.get? a=some u):(h.push v).get? a=some u:=PySem.Heap.get?_push_of_some v e
theorem gxM {α β:Type}{M:PySem.Model}{A:PySem.Around}{E:PySem.Value->PySem.Shared->Prop}{s:PySem.Shared}{m:PySem.Sem α}{f:α->PySem.Sem β}{Q:β->PySem.Shared->Prop}(h:PySem.wpAny M A m (fun a s=>PySem.wpAny M A (f a) Q E s) E s):PySem.wpAny M A (m >>= f) Q E s:=PySem.wpAny_bind h
theorem gxN {h:PySem.Heap}{a:PySem.Addr}{o:PySem.Obj}(e:h.get? a=some o):a<h.objs.size:=PySem.Heap.lt_size e
theorem gxH {α β:Type _}{f:α->β}{l:List α}{i:Nat}:(l.map f)[i]?=(l[i]?).map f:=List.getElem?_map ..
namespace L2
open PySem PySem.Spec PyProof.Rows
abbrev Key:=Sum Int Str
def keyIs:Key->Value->Bool
 | .inl k,v=>Value.isInt k v
 | .inr x,v=>Value.isStrOf x v
def keyH (w:World):Key->Int
 | .inl k=>hashInt k
 | .inr x=>hashStr w x
theorem keyIs_shape:∀ {k:Key} {v:Value},keyIs k v=true->(∃ i t,k=Sum.inl i/\v=Value.int i t)\/(∃ x t,k=Sum.inr x/\v=Value.str x t)
 | .inl i,v,h=>by
  obtain⟨t,e⟩:=Value.isInt_shape (k:=i) (v:=v) h
  exact .inl ⟨i,t,rfl,e⟩
 | .inr x,v,h=>by
  obtain⟨t,e⟩:=Value.isStrOf_shape (x:=x) (v:=v) h
  exact .inr ⟨x,t,rfl,e⟩
theorem keyIs_int (i:Int)(t:Tok):keyIs (.inl i) (.int i t)=true:=by simp[keyIs,Value.isInt]
theorem keyIs_str (x:Str)(t:Tok):keyIs (.inr x) (.str x t)=true:=by simp[keyIs,Value.isStrOf]
theorem key_ll (a b:Int):decide ((Sum.inl a:Key)=Sum.inl b)=(a==b):=by
 by_cases e:a=b
 ·subst e;simp
 ·have h:¬ (Sum.inl a:Key)=Sum.inl b:=fun q=>e (Sum.inl.inj q)
  rw[decide_eq_false h]
  exact(beq_eq_false_iff_ne.mpr e).symm
theorem key_rr (a b:Str):decide ((Sum.inr a:Key)=Sum.inr b)=decide (a=b):=by
 by_cases e:a=b
 ·subst e;simp
 ·have h:¬ (Sum.inr a:Key)=Sum.inr b:=fun q=>e (Sum.inr.inj q)
  rw[decide_eq_false h,decide_eq_false e]
theorem key_lr (a:Int)(b:Str):decide ((Sum.inl a:Key)=Sum.inr b)=false:=decide_eq_false (fun q=>nomatch q)
theorem key_rl (a:Str)(b:Int):decide ((Sum.inr a:Key)=Sum.inl b)=false:=decide_eq_false (fun q=>nomatch q)
def mixKind (prog:Program)(w:World):PySem.KeyKind prog w Key where
 is:=keyIs
 hash:=keyH w
 inj:=fun v a b ha hb=>by
  rcases keyIs_shape ha with⟨i,t,rfl,rfl⟩ | ⟨x,t,rfl,rfl⟩
  ·rcases keyIs_shape hb with⟨j,u,rfl,e⟩ | ⟨y,u,rfl,e⟩
   ·injection e with e1 _;rw[e1]
   ·exact nomatch e
  ·rcases keyIs_shape hb with⟨j,u,rfl,e⟩ | ⟨y,u,rfl,e⟩
   ·exact nomatch e
   ·injection e with e1 _;rw[e1]
 byValue:=fun k v h=>by
  rcases keyIs_shape h with⟨i,t,rfl,rfl⟩ | ⟨x,t,rfl,rfl⟩<;> rfl
 pyHash:=fun hv h=>by
  rcases keyIs_shape hv with⟨i,t,rfl,rfl⟩ | ⟨x,t,rfl,rfl⟩
  ·exact wpAny_pyHash_int h
  ·exact wpAny_pyHash_str h
 eqBool:=fun hu hv h=>by
  rcases keyIs_shape hu with⟨i,t,rfl,rfl⟩ | ⟨x,t,rfl,rfl⟩
  ·rcases keyIs_shape hv with⟨j,u,rfl,rfl⟩ | ⟨y,u,rfl,rfl⟩
   ·rw[key_ll]at h;exact wpAny_eqBool_int h
   ·rw[key_lr]at h;exact SeqAt.EqAt.int_str i t y u _ _ _ _ h
  ·rcases keyIs_shape hv with⟨j,u,rfl,rfl⟩ | ⟨y,u,rfl,rfl⟩
   ·rw[key_rl]at h;exact SeqAt.EqAt.str_int x t j u _ _ _ _ h
   ·rw[key_rr]at h;exact wpAny_eqBool_str h
 «strs»:=fun k x t v h=>by
  rcases keyIs_shape h with⟨i,u,rfl,e⟩ | ⟨y,u,rfl,e⟩
  ·exact nomatch e
  ·injection e with e1 _
   subst e1
   cases v <;> rfl
theorem mixKind_int (prog:Program)(w:World)(i:Int)(t:Tok):(mixKind prog w).is (.inl i) (.int i t)=true:=keyIs_int i t
theorem mixKind_str (prog:Program)(w:World)(x:Str)(t:Tok):(mixKind prog w).is (.inr x) (.str x t)=true:=keyIs_str x t
inductive V where
 | non | bl (b:Bool) | int (i:Int) | str (x:Str) | byt (b:Array UInt8) | flt (b:UInt64) | ref (a:Addr) | ty (n:String)
 deriving DecidableEq
def RelV:V->Value->Prop
 | .non,u=>u=Value.none
 | .bl b,u=>u=Value.bool b
 | .int i,u=>∃ t,u=Value.int i t
 | .str x,u=>∃ t,u=Value.str x t
 | .byt b,u=>∃ t,u=Value.bytes b t
 | .flt b,u=>∃ t,u=Value.float b t
 | .ref a,u=>u=Value.ref a
 | .ty n,u=>u=Value.type n
abbrev Vals:List V->List Value->Prop:=Paired RelV
theorem Vals.length {xs:List V}{us:List Value}(r:Vals xs us):xs.length=us.length:=Paired.length r
theorem Vals.get:∀ {xs:List V} {us:List Value} {i:Nat} {x:V},Vals xs us->xs[i]?=some x->∃ u,us[i]?=some u/\RelV x u
 | _,_,_,_,.nil,e=>by simp at e
 | _,_,0,_,.cons r _,e=>by simp at e;subst e;exact⟨_,rfl,r⟩
 | _,_,i+1,x,.cons _ t,e=>by
  obtain⟨u,h1,h2⟩:=Vals.get (i:=i) (x:=x) t (by simpa using e)
  exact⟨u,by simpa using h1,h2⟩
theorem Vals.set {x:V}{u:Value}(r:RelV x u):∀ {xs:List V} {us:List Value} (i:Nat),Vals xs us->Vals (xs.set i x) (us.set i u)
 | _,_,_,.nil=>.nil
 | _,_,0,.cons _ t=>.cons r t
 | _,_,i+1,.cons q t=>.cons q (Vals.set r i t)
theorem Vals.append {xs ys:List V}{us ws:List Value}(h:Vals xs us)(s:Vals ys ws):Vals (xs++ys) (us++ws):=by
 induction h with
 | nil=>exact s
 | cons r t ih=>exact .cons r ih
theorem Vals.take:∀ {xs:List V} {us:List Value} (n:Nat),Vals xs us->Vals (xs.take n) (us.take n)
 | _,_,0,_=>.nil
 | _,_,_+1,.nil=>.nil
 | _,_,n+1,.cons r t=>.cons r (Vals.take n t)
theorem Vals.drop:∀ {xs:List V} {us:List Value} (n:Nat),Vals xs us->Vals (xs.drop n) (us.drop n)
 | _,_,0,r=>r
 | _,_,_+1,.nil=>.nil
 | _,_,n+1,.cons _ t=>Vals.drop n t
theorem Vals.none_of:∀ {xs:List V} {us:List Value} {i:Nat},Vals xs us->xs[i]?=none->us[i]?=none:=fun {xs us i} r e=>by
 have h1:=r.length
 have h2:xs.length<=i:=List.getElem?_eq_none_iff.mp e
 exact List.getElem?_eq_none_iff.mpr (by omega)
def RelO:Option V->Option Value->Prop
 | some v,some u=>RelV v u
 | none,none=>True
 | _,_=>False
def KV {κ:Type}:List (κ×V)->List (κ×Value)->Prop:=Paired fun(p:κ×V) (q:κ×Value)=>p.1=q.1/\RelV p.2 q.2
def kV:Key->V
 | .inl i=>.int i
 | .inr x=>.str x
inductive HO where
 | lst (xs:List V)
 | tup (xs:List V)
 | dK (kvs:List (Key×V)) | dT (kvs:List (List Key×V))
 | set (S:Int->Bool) (n:Nat)
 | ins (C dx:Addr) (fs:List (Str×V))
 | own (x:Addr)
 | xd (fs:List (Str×V))
 | met (f x:Addr)
 | rng (lo hi:Int)
 | frz (o:Obj) (u:HO)
 | tbl (ps:Array Value)
 | ext (φ:Heap->Prop)
abbrev Hp:=Addr->Option HO
def upd (H:Hp)(a:Addr)(o:HO):Hp:=fun b=>if b=a then some o else H b
theorem upd_same {H:Hp}{a:Addr}{o:HO}:upd H a o a=some o:=by unfold upd;rw[if_pos rfl]
theorem upd_ne {H:Hp}{a b:Addr}{o:HO}(h:b≠a):upd H a o b=H b:=by unfold upd;rw[if_neg h]
theorem ne_of {H:Hp}{a b:Addr}{o u:HO}(h:H a=some o)(h':H b=some u)(d:o≠u):a≠b:=by
 intro e;subst e;rw[h]at h';exact d (Option.some.inj h')
theorem ne_of_none {H:Hp}{a b:Addr}{o:HO}(h:H a=some o)(h':H b=none):a≠b:=by
 intro e;subst e;rw[h]at h';cases h'
section
variable (P:Program)(w:World)
def ObjOk (H:Hp)(h:Heap)(a:Addr):HO->Prop
 | .lst xs=>xs.length<=sizeLine/\∃(its:List Value) (n:Nat),Vals xs its/\h.get? a=some { cls:=.type "list",data:=.seq its.toArray n}
 | .tup xs=>xs.length<=sizeLine/\∃ its:List Value,Vals xs its/\IsTup h a its.toArray
 | .dK kvs=>kvs.length<=sizeLine/\(a==sysModules)=false/\∃ vs,KV kvs vs/\h.DictOf (mixKind P w) a vs
 | .dT kvs=>kvs.length<=sizeLine/\(a==sysModules)=false/\∃ xs:List (List Key×Addr×Value),
  Paired (fun(p:List Key×V) (q:List Key×Addr×Value)=>p.1=q.1/\H q.2.1=some (.tup (p.1.map kV))/\RelV p.2 q.2.2) kvs xs /\
  ∃ o es ep,h.get? a=some o/\o.ExactDict/\o.data=.dict es ep/\es.toList=xs.map (entryOfKey (tupleKind (mixKind P w)))/\(xs.map (·.1)).Nodup
 | .set S n=>h.SetOf (intKind P w) a S n
 | .ins C dx fs=>H dx=some (.own a)/\fs.length<=1000/\dx≠a/\h.get? a=some (PySem.W.instObj C dx) /\
  ∃ mA,h.Ns1 dx mA/\(∀ f,RelO (fs.lookup f) (mA f))/\PySem.Within mA (fs.map (·.1))
 | .own _=>∃ o,h.get? a=some o
 | .xd fs=>∃ mA,h.Ns1 a mA/\∀ f,RelO (fs.lookup f) (mA f)
 | .rng lo hi=>∃ t u v,h.get? a=some { cls:=.type "range",data:=.fields #[.int lo t,.int hi u,.int 1 v]}
 | .frz o u=>h.get? a=some o/\ObjOk H h a u
 | .tbl ps=>h.get? a=some { cls:=.none,data:=.fields ps}
 | .met f x=>h.get? a=some (PySem.W.methodObj (.ref f) (.ref x))
 | .ext φ=>φ h/\(∃ o,h.get? a=some o)/\∀ h1 h2:Heap,φ h1->(∀ o,h1.get? a=some o->h2.get? a=some o)->φ h2
def HOk (H:Hp)(h:Heap):Prop:=∀ a o,H a=some o->ObjOk P w H h a o
end
section
variable {P:Program}{w:World}{H H':Hp}{h h':Heap}{a:Addr}{o:HO}
theorem ObjOk.lt (x:ObjOk P w H h a o):a<h.objs.size:=by
 cases o with
 | lst xs=>obtain⟨_,_,_,_,e⟩:=x;exact gxN e
 | tup xs=>obtain⟨_,_,_,p⟩:=x;exact p.lt
 | dK kvs=>obtain⟨_,_,_,_,o,_,_,e,_⟩:=x;exact gxN e
 | dT kvs=>obtain⟨_,_,_,_,o,_,_,e,_⟩:=x;exact gxN e
 | set S n=>obtain⟨o,_,_,_,e,_⟩:=x;exact gxN e
 | ins C dx fs=>obtain⟨_,_,_,e,_⟩:=x;exact gxN e
 | own y=>obtain⟨_,e⟩:=x;exact gxN e
 | xd fs=>obtain⟨_,⟨_,_,_,e,_⟩,_⟩:=x;exact gxN e
 | rng lo hi=>obtain⟨_,_,_,e⟩:=x;exact gxN e
 | frz ob u=>obtain⟨e,_⟩:=x;exact gxN e
 | tbl ps=>exact gxN (show h.get? a=some _ from x)
 | met f y=>exact gxN (show h.get? a=some _ from x)
 | ext φ=>obtain⟨_,⟨_,e⟩,_⟩:=x;exact gxN e
theorem Paired.mapP {α β:Type}{F G:α->β->Prop}{l₁:List α}{l₂:List β}(h:Paired F l₁ l₂)(f:∀ a b,F a b->G a b):Paired G l₁ l₂:=by
 induction h with
 | nil=>exact .nil
 | cons r t ih=>exact .cons (f _ _ r) ih
theorem ObjOk.stay (x:ObjOk P w H h a o)(k:∀ b u,(b=a\/H b=some (.own a))->h.get? b=some u->h'.get? b=some u)
 (ho:∀ b,H b=some (.own a)->H' b=some (.own a)) (ht:∀ b xs,H b=some (.tup xs)->H' b=some (.tup xs)):ObjOk P w H' h' a o:=by
 induction o with
 | lst xs=>obtain⟨z,its,n,r,e⟩:=x;exact⟨z,its,n,r,k _ _ (.inl rfl) e⟩
 | tup xs=>obtain⟨z,its,r,ob,e,c⟩:=x;exact⟨z,its,r,ob,k _ _ (.inl rfl) e,c⟩
 | dK kvs=>obtain⟨z,y,vs,r,ob,es,ep,e,c⟩:=x;exact⟨z,y,vs,r,ob,es,ep,k _ _ (.inl rfl) e,c⟩
 | dT kvs =>
  obtain⟨z,y,xs,r,ob,es,ep,e,c⟩:=x
  exact⟨z,y,xs,Paired.mapP r fun p q z=>⟨z.1,ht _ _ z.2.1,z.2.2⟩,ob,es,ep,k _ _ (.inl rfl) e,c⟩
 | set S n=>obtain⟨ob,es,ep,t,e,c⟩:=x;exact⟨ob,es,ep,t,k _ _ (.inl rfl) e,c⟩
 | ins C dx fs =>
  obtain⟨d,z,ne,e,mA,⟨od,es,ep,e2,c⟩,r⟩:=x
  exact⟨ho _ d,z,ne,k _ _ (.inl rfl) e,mA,⟨od,es,ep,k _ _ (.inr d) e2,c⟩,r⟩
 | own y=>obtain⟨ob,e⟩:=x;exact⟨ob,k _ _ (.inl rfl) e⟩
 | xd fs=>obtain⟨mA,⟨od,es,ep,e,c⟩,r⟩:=x;exact⟨mA,⟨od,es,ep,k _ _ (.inl rfl) e,c⟩,r⟩
 | rng lo hi=>obtain⟨t,u,v,e⟩:=x;exact⟨t,u,v,k _ _ (.inl rfl) e⟩
 | frz ob u ih=>obtain⟨e,q⟩:=x;exact⟨k _ _ (.inl rfl) e,ih q⟩
 | tbl ps =>
  have e:h.get? a=some { cls:=.none,data:=.fields ps}:=x
  show h'.get? a=some { cls:=.none,data:=.fields ps}
  exact k a _ (.inl rfl) e
 | met f y =>
  have e:h.get? a=some (PySem.W.methodObj (.ref f) (.ref y)):=x
  show h'.get? a=some (PySem.W.methodObj (.ref f) (.ref y))
  exact k a _ (.inl rfl) e
 | ext φ=>obtain⟨p,⟨o,e⟩,st⟩:=x;exact⟨st _ _ p fun o q=>k _ _ (.inl rfl) q,⟨o,k _ _ (.inl rfl) e⟩,st⟩
theorem HOk.lt (x:HOk P w H h)(e:H a=some o):a<h.objs.size:=(x a o e).lt
theorem HOk.fresh (x:HOk P w H h)(e:h.objs.size<=a):H a=none:=by
 cases q:H a with
 | none=>rfl
 | some u=>exact absurd (Nat.lt_of_lt_of_le (x.lt q) e) (Nat.lt_irrefl _)
theorem HOk.kept (x:HOk P w H h)(k:∀ b u,h.get? b=some u->h'.get? b=some u):HOk P w H h':=fun a o e =>
 (x a o e).stay (fun b u _ q=>k b u q) (fun _ q=>q) fun _ _ q=>q
theorem HOk.laid (x:HOk P w H h)(k:∀ b u,h.get? b=some u->h'.get? b=some u)(hp:h.objs.size<=a)(new:ObjOk P w (upd H a o) h' a o):HOk P w (upd H a o) h':=fun b u e=>by
 have hn:=x.fresh hp
 by_cases hb:b=a
 ·subst hb;rw[upd_same]at e;cases e;exact new
 ·rw[upd_ne hb]at e
  exact(x b u e).stay (fun c v _ q=>k c v q) (fun c q=>by rw[upd_ne (ne_of_none q hn)];exact q) fun c xs q=>by rw[upd_ne (ne_of_none q hn)];exact q
end
def Rd (H:Hp)(a:Addr)(u:HO):Prop:=H a=some u\/∃ o,H a=some (.frz o u)
theorem Rd.ok {P:Program}{w:World}{H:Hp}{h:Heap}{a:Addr}{u:HO}(r:Rd H a u)(x:HOk P w H h):ObjOk P w H h a u:=by
 rcases r with r | ⟨o,r⟩
 ·exact x a u r
 ·obtain⟨_,q⟩:=x a _ r
  exact q
def Mut:Option HO->Prop
 | some (.lst _)=>True
 | some (.dK _)=>True
 | some (.dT _)=>True
 | some (.set _ _)=>True
 | some (.ins _ _ _)=>True
 | some (.ext _)=>True
 | _=>False
section
variable {P:Program}{w:World}{H:Hp}{h h':Heap}{x e:Addr}{o':HO}
theorem HOk.write (ok:HOk P w H h)(mu:Mut (H x))(he:e=x\/H e=some (.own x))(k:∀ b u,b≠e->h.get? b=some u->h'.get? b=some u)(heo:∃ u,h'.get? e=some u)
 (new:ObjOk P w (upd H x o') h' x o'):HOk P w (upd H x o') h':=fun b u q=>by
 have nown:∀ c y,H c=some (.own y)->c≠x:=fun c y r z=>by subst z;rw[r]at mu;exact mu
 have ntup:∀ c xs,H c=some (.tup xs)->c≠x:=fun c xs r z=>by subst z;rw[r]at mu;exact mu
 by_cases hb:b=x
 ·subst hb;rw[upd_same]at q;cases q;exact new
 ·rw[upd_ne hb]at q
  by_cases hbe:b=e
  ·have q':H b=some (.own x):=by
    rcases he with z | z
    ·exact absurd (hbe.trans z) hb
    ·rw[hbe];exact z
   rw[q]at q';cases q'
   obtain⟨v,hv⟩:=heo
   exact⟨v,by rw[hbe];exact hv⟩
  ·refine(ok b u q).stay (fun c v hc r=>k c v ?_ r) (fun c r=>by rw[upd_ne (nown c b r)];exact r) fun c xs r=>by rw[upd_ne (ntup c xs r)];exact r
   rcases hc with rfl | hc
   ·exact hbe
   ·rintro rfl
    rcases he with z | z
    ·exact nown c b hc z
    ·rw[hc]at z;cases z;exact hb rfl
end
structure Un (fs ex:List Addr)(H H':Hp)(h h':Heap):Prop where
 keep:∀ b o,h.get? b=some o->H b=none->b∉fs->b∉ex->h'.get? b=some o
 slot:∀ b o,h.get? b=some o->H b=none->b∈fs->b∉ex->∃ sl,h'.get? b=some { o with slots:=sl}
 free:∀ b o,h.get? b=some o->H b=none->b∉ex->H' b=none
 there:∀ b o,h.get? b=some o->b∉ex->∃ o',h'.get? b=some o'
 tups:∀ b xs,H b=some (.tup xs)->H' b=some (.tup xs)
 frzs:∀ b o u,H b=some (.frz o u)->H' b=some (.frz o u)
 tbls:∀ b ps,H b=some (.tbl ps)->∃ more,H' b=some (.tbl (ps++more))
section
variable {fs fs' ex ex':List Addr}{H H1 H2:Hp}{h h1 h2 h':Heap}{a x e:Addr}{o:HO}
theorem Un.any (u:Un fs ex H H1 h h1){b:Addr}{ob:Obj}(q:h.get? b=some ob)(n:H b=none)(hx:b∉ex):∃ sl,h1.get? b=some { ob with slots:=sl}:=by
 by_cases hb:b∈fs
 ·exact u.slot b ob q n hb hx
 ·exact⟨ob.slots,u.keep b ob q n hb hx⟩
theorem Un.trans (a:Un fs ex H H1 h h1)(b:Un fs ex H1 H2 h1 h2):Un fs ex H H2 h h2 where
 keep:=fun c ob q n hc hx=>b.keep c ob (a.keep c ob q n hc hx) (a.free c ob q n hx) hc hx
 slot:=fun c ob q n hc hx=>by
  obtain⟨sl,e1⟩:=a.slot c ob q n hc hx
  obtain⟨sl',e2⟩:=b.slot c _ e1 (a.free c ob q n hx) hc hx
  exact⟨sl',e2⟩
 free:=fun c ob q n hx=>by
  obtain⟨o',e1⟩:=a.there c ob q hx
  exact b.free c o' e1 (a.free c ob q n hx) hx
 there:=fun c ob q hx=>by
  obtain⟨o',e1⟩:=a.there c ob q hx
  exact b.there c o' e1 hx
 tups:=fun c xs q=>b.tups c xs (a.tups c xs q)
 frzs:=fun c ob xs q=>b.frzs c ob xs (a.frzs c ob xs q)
 tbls:=fun c ps q=>by
  obtain⟨m1,e1⟩:=a.tbls c ps q
  obtain⟨m2,e2⟩:=b.tbls c _ e1
  exact⟨m1++m2,by rw[e2,Array.append_assoc]⟩
theorem Un.kept (k:∀ b u,h.get? b=some u->h'.get? b=some u):Un fs ex H H h h' :=
 ⟨fun b ob q _ _ _=>k b ob q,fun b ob q _ _ _=>⟨ob.slots,k b ob q⟩,fun _ _ _ n _=>n,fun b ob q _=>⟨ob,k b ob q⟩,fun _ _ q=>q,fun _ _ _ q=>q,fun _ ps q=>⟨#[],by rw[q];simp⟩⟩
theorem Un.refl:Un fs ex H H h h:=Un.kept fun _ _ q=>q
theorem Un.laid (k:∀ b u,h.get? b=some u->h'.get? b=some u)(hp:h.objs.size<=a)(hn:H a=none):Un fs ex H (upd H a o) h h' where
 keep:=fun b u q _ _ _=>k b u q
 slot:=fun b u q _ _ _=>⟨u.slots,k b u q⟩
 free:=fun b u q n _=>by rw[upd_ne (Nat.ne_of_lt (Nat.lt_of_lt_of_le (gxN q) hp))];exact n
 there:=fun b u q _=>⟨u,k b u q⟩
 tups:=fun b xs q=>by rw[upd_ne (ne_of_none q hn)];exact q
 frzs:=fun b u xs q=>by rw[upd_ne (ne_of_none q hn)];exact q
 tbls:=fun b ps q=>⟨#[],by rw[upd_ne (ne_of_none q hn),q];simp⟩
theorem Un.write (mu:Mut (H x))(he:e=x\/H e=some (.own x))(k:∀ b u,b≠e->h.get? b=some u->h'.get? b=some u)(heo:∃ u,h'.get? e=some u):Un fs ex H (upd H x o) h h':=by
 have hx:∀ b,H b=none->b≠x:=fun b n z=>by subst z;rw[n]at mu;exact mu
 have hb:∀ b,H b=none->b≠e:=fun b n z=>by
  subst z
  rcases he with r | r
  ·exact hx b n r
  ·rw[n]at r;cases r
 have hm:∀ b u,H b=some u->¬ Mut (some u)->b≠x:=fun b u q nm z=>by subst z;rw[q]at mu;exact nm mu
 refine⟨fun b u q n _ _=>k b u (hb b n) q,fun b u q n _ _=>⟨u.slots,k b u (hb b n) q⟩,fun b u q n _=>by rw[upd_ne (hx b n)];exact n,fun b u q _=>?_,
  fun b xs q=>by rw[upd_ne (hm b _ q fun z=>z)];exact q,fun b u xs q=>by rw[upd_ne (hm b _ q fun z=>z)];exact q,fun b ps q=>⟨#[],by rw[upd_ne (hm b _ q fun z=>z),q];simp⟩⟩
 by_cases hbe:b=e
 ·subst hbe;exact heo
 ·exact⟨u,k b u hbe q⟩
theorem Un.mono (u:Un fs ex H H1 h h1)(hs:∀ b∈fs,b∈fs')(hx:∀ b∈ex,b∈ex'):Un fs' ex' H H1 h h1 :=
 ⟨fun b ob q n hb he=>u.keep b ob q n (fun z=>hb (hs b z)) fun z=>he (hx b z),fun _ _ q n _ he=>u.any q n fun z=>he (hx _ z),fun b ob q n he=>u.free b ob q n fun z=>he (hx b z),fun b ob q he=>u.there b ob q fun z=>he (hx b z),u.tups,u.frzs,u.tbls⟩
end
def trk (h:Heap)(H:Hp):List Addr:=(List.range h.objs.size).filter fun a=>(H a).isSome
def hidT (h:Heap)(H:Hp):Heap:=PySem.W.hideAll h (trk h H)
theorem hidT_size (h:Heap)(H:Hp):(hidT h H).objs.size=h.objs.size:=PySem.W.hideAll_size _ _
theorem hidT_get {h:Heap}{H:Hp}{b:Addr}{o:Obj}(e:h.get? b=some o)(n:H b=none):(hidT h H).get? b=some o :=
 PySem.W.hideAll_get _ e fun hm=>by
  have q:(H b).isSome=true:=(List.mem_filter.mp hm).2
  rw[n]at q;simp at q
theorem of_hidT {h:Heap}{H:Hp}{b:Addr}{o:Obj}(e:(hidT h H).get? b=some o):h.get? b=some o/\H b=none:=by
 have e':h.get? b=some o:=PySem.W.of_hideAll (trk h H) e
 refine⟨e',?_⟩
 cases q:H b with
 | none=>rfl
 | some x =>
  have hm:b∈trk h H:=List.mem_filter.mpr ⟨List.mem_range.mpr (gxN e'),by simp[q]⟩
  have z:(hidT h H).get? b=none:=PySem.W.hideAll_none (trk h H) hm
  rw[z]at e;cases e
def allNews (g h:Heap)(L:Addr):List (Addr×Obj):=(List.range h.objs.size).filterMap fun a=>if a=L\/(g.get? a).isSome=true then none else(h.get? a).map fun o=>(a,o)
def rest (g h:Heap)(L d:Addr):List (Addr×Obj):=(allNews g h L).filter fun p=>decide (p.1≠d)
structure Mod (K:PySem.W.Frag)(mg:Str->Option Value)(base:Heap):Prop where
 kin:K.In base
 glob:base.Ns mainGlobals mg
 blt:∃ mb,base.Ns builtinsNs mb/\∀ x:Str,x ≠ "__name__"->mb x=bootBuiltins x
 nolimit:base.NoLimit
structure Cx where
 prog:Program
 w:World
 K:PySem.W.Frag
 mg:Str->Option Value
 base:Heap
 A:Around
 N:List Str
 s₀:Shared
 H₀:Hp
 env:Env
 outer:List Env
 stack:List Env
 ex:List Addr
 fn:Str->Bool
 calm:Bool
 pn:List (Addr×Obj)
 xe:Value->Shared->Prop
def frs (l:List Env):List Addr:=l.filterMap (·.frame)
abbrev Cx.fs (X:Cx):List Addr:=frs X.outer
def Vis (sc:Scope)(x:Str):Prop:=sc.names.lookup x=some .local\/sc.names.lookup x=some .cell\/sc.names.lookup x=some .free
def Loc (sc:Scope)(x:Str):Prop:=sc.names.lookup x=some .local\/sc.names.lookup x=some .cell
def Look (env:Env)(h:Heap)(m:Str->Option Value)(x:Str)(u:Value):Prop :=
 (env.kindOf x=some .local/\m x=some u)\/((env.kindOf x=some .cell\/env.kindOf x=some .free)/\∃ c,env.cells.lookup x=some c/\h.IsCell c (some u))
structure Cx.Ok (X:Cx):Prop where
 mod:Mod X.K X.mg X.base
 kind:X.env.scope.kind=.function
 glob:X.env.globals=mainGlobals
 blt:X.env.builtins=builtinsNs
 above:X.s₀.heap.objs.size<=X.env.locals
 inj:∀ x y c,X.env.cells.lookup x=some c->X.env.cells.lookup y=some c->x=y
 has:∀ x,(X.env.kindOf x=some .cell\/X.env.kindOf x=some .free)->∃ c,X.env.cells.lookup x=some c
 cab:∀ x c,X.fn x=true->X.env.cells.lookup x=some c->X.s₀.heap.objs.size<=c
 hd:X.calm=true->X.A.handled=none
 frames:X.A.frames=some X.stack
 stk:X.stack=X.outer\/(X.stack=X.env::X.outer/\X.env.frame=some X.env.locals)
 exf:∀ b∈X.ex,b≠X.env.locals/\∀ x c,X.env.cells.lookup x=some c->c≠b
 bs:∀ b o,X.base.get? b=some o->X.s₀.heap.get? b=some o/\X.H₀ b=none
 bsz:X.base.objs.size<=X.s₀.heap.objs.size
 noex:∀ b o,X.base.get? b=some o->b∉X.ex
 exfs:∀ b∈X.ex,b∉X.fs
 funs:X.s₀.heap.FunFrames X.base X.outer
 frf:∀ b∈X.fs,X.H₀ b=none
structure Inv (X:Cx)(pins:List (Addr×Obj))(σ:List (Option V))(H:Hp)(s:Shared):Prop where
 ok:X.Ok
 os:s.os=X.s₀.os
 bare:AllBare s.gens
 base:Un X.fs X.ex X.H₀ H X.s₀.heap s.heap
 loc:∃ m,s.heap.Ns X.env.locals m/\∀(i:Nat) (x:Str) (v:V),X.N[i]?=some x->σ[i]?=some (some v)->Vis X.env.scope x->∃ u,RelV v u/\Look X.env s.heap m x u
 cell:∀ x c,X.env.cells.lookup x=some c->∃ v,s.heap.IsCell c v
 free:H X.env.locals=none
 freeC:∀ x c,X.env.cells.lookup x=some c->H c=none
 pin:∀ p∈X.pn++pins,s.heap.get? p.1=some p.2/\H p.1=none/\p.1≠X.env.locals/\p.1∉X.fs/\∀ v,p.2.data≠.cell v
 hok:HOk X.prog X.w H s.heap
 len:σ.length=X.N.length
section
variable {X:Cx}{pins:List (Addr×Obj)}{σ:List (Option V)}{H H':Hp}{s:Shared}{h':Heap}
theorem Cx.Ok.nofr (ok:X.Ok){b:Addr}{o:Obj}(e:X.base.get? b=some o):b∉X.fs:=fun hb=>by
 have:=(ok.funs.mem hb).1
 rw[e]at this;cases this
theorem Inv.bs (I:Inv X pins σ H s):∀ b o,X.base.get? b=some o->s.heap.get? b=some o/\H b=none:=fun b o e =>
 ⟨I.base.keep b o (I.ok.bs b o e).1 (I.ok.bs b o e).2 (I.ok.nofr e) (I.ok.noex b o e),I.base.free b o (I.ok.bs b o e).1 (I.ok.bs b o e).2 (I.ok.noex b o e)⟩
theorem Inv.bk (I:Inv X pins σ H s):∀ b o,X.base.get? b=some o->s.heap.get? b=some o:=fun b o e=>(I.bs b o e).1
theorem Inv.mod (I:Inv X pins σ H s):Mod X.K X.mg X.base:=I.ok.mod
theorem Inv.kIn (I:Inv X pins σ H s):X.K.In s.heap:=I.ok.mod.kin.keeps I.bk
theorem Inv.fr (I:Inv X pins σ H s):∃ m,Fr X.base X.env.locals s.heap m :=
 let ⟨m,hn,_⟩:=I.loc
 ⟨m,hn,I.bk,Nat.le_trans I.ok.bsz I.ok.above⟩
theorem Inv.lt (I:Inv X pins σ H s):X.env.locals<s.heap.objs.size:=let ⟨_,hn,_⟩:=I.loc;hn.lt
theorem Inv.sz (I:Inv X pins σ H s):X.s₀.heap.objs.size<=s.heap.objs.size:=Nat.le_trans I.ok.above (Nat.le_of_lt I.lt)
theorem Inv.nofs (I:Inv X pins σ H s){a:Addr}(h:s.heap.objs.size<=a):a∉X.fs:=fun hb=>by
 obtain⟨_,o,ho,_⟩:=I.ok.funs.mem hb
 exact absurd (Nat.lt_of_lt_of_le (gxN ho) (Nat.le_trans I.sz h)) (Nat.lt_irrefl _)
theorem Inv.cne (I:Inv X pins σ H s):∀ x c,X.env.cells.lookup x=some c->c≠X.env.locals:=fun x c e z=>by
 obtain⟨v,o,ho,hd⟩:=I.cell x c e
 obtain⟨m,⟨o',es,ep,ho',hd',_⟩,_⟩:=I.loc
 rw[z,ho']at ho;cases ho;rw[hd']at hd;cases hd
theorem Inv.funs (I:Inv X pins σ H s):s.heap.FunFrames X.base X.outer:=by
 have all:∀(l:List Env),(∀ b∈frs l,b∈X.fs)->X.s₀.heap.FunFrames X.base l->s.heap.FunFrames X.base l:=by
  intro l
  induction l with
  | nil=>intro _ _;trivial
  | cons env r ih =>
   intro hs hl
   obtain⟨hk,⟨L,o,hf,hn,ho,hd⟩,hr⟩:=hl
   have hL:L∈X.fs:=hs L (by unfold frs;rw[List.filterMap_cons,hf];exact List.mem_cons_self)
   obtain⟨sl,e⟩:=I.base.slot L o ho (I.ok.frf L hL) hL fun z=>I.ok.exfs L z hL
   exact⟨hk,⟨L,_,hf,hn,e,hd⟩,ih (fun b hb=>hs b (by unfold frs;rw[List.filterMap_cons,hf];exact gxI _ hb)) hr⟩
 exact all X.outer (fun _ hb=>hb) I.ok.funs
theorem Inv.stack (I:Inv X pins σ H s):s.heap.FunFrames X.base X.stack:=by
 rcases I.ok.stk with e | ⟨e,hf⟩
 ·rw[e];exact I.funs
 ·rw[e]
  obtain⟨m,hn,_⟩:=I.loc
  refine .cons (by rw[I.ok.kind];decide) hf hn ?_ I.funs
  exact Heap.get?_none_of_le (Nat.le_trans I.ok.bsz I.ok.above)
theorem Inv.stkSub (I:Inv X pins σ H s):∀ b∈frs X.stack,b∈X.env.locals::X.fs:=fun b hb=>by
 rcases I.ok.stk with e | ⟨e,hf⟩
 ·rw[e]at hb;exact gxI _ hb
 ·rw[e]at hb
  unfold frs at hb
  rw[List.filterMap_cons,hf]at hb
  exact hb
theorem Inv.stkFree (I:Inv X pins σ H s):∀ b∈frs X.stack,H b=none:=fun b hb=>by
 rcases List.mem_cons.mp (I.stkSub b hb)with e | hb
 ·rw[e];exact I.free
 ·obtain⟨_,o,ho,_⟩:=I.ok.funs.mem hb
  exact I.base.free b o ho (I.ok.frf b hb) fun z=>I.ok.exfs b z hb
theorem Inv.step {g':Array GenState}{t':Nat}{d':Drawn}{ch:List Addr}(I:Inv X pins σ H s)
 (hch:∀ b∈ch,(b∈X.ex\/X.s₀.heap.objs.size<=b)/\b≠X.env.locals/\(∀ x c,X.env.cells.lookup x=some c->c≠b)/\∀ p∈X.pn++pins,p.1≠b)
 (keep:∀ b o,b≠X.env.locals->b∉X.fs->b∉ch->s.heap.get? b=some o->H b=none->h'.get? b=some o)
 (slot:∀ b o,b≠X.env.locals->b∈X.fs->b∉ch->s.heap.get? b=some o->H b=none->∃ sl,h'.get? b=some { o with slots:=sl}) (free:∀ b o,b∉ch->s.heap.get? b=some o->H b=none->H' b=none)
 (there:∀ b o,b∉ch->s.heap.get? b=some o->∃ o',h'.get? b=some o')
 (tups:∀ b xs,H b=some (.tup xs)->H' b=some (.tup xs)) (frzs:∀ b o u,H b=some (.frz o u)->H' b=some (.frz o u)) (tbls:∀ b ps,H b=some (.tbl ps)->∃ more,H' b=some (.tbl (ps++more)))
 (ns:∀ m,s.heap.Ns X.env.locals m->h'.Ns X.env.locals m) (hok:HOk X.prog X.w H' h') (hg:AllBare g') :
 Inv X pins σ H' { s with heap:=h',gens:=g',drawn:=d',toks:=t'}:=by
 have neL:∀ b o,X.s₀.heap.get? b=some o->b≠X.env.locals:=fun b o e=>Nat.ne_of_lt (Nat.lt_of_lt_of_le (gxN e) I.ok.above)
 have neC:∀ b o,X.s₀.heap.get? b=some o->b∉X.ex->b∉ch:=fun b o e hx hb=>by
  rcases(hch b hb).1 with z | z
  ·exact hx z
  ·exact absurd (Nat.lt_of_lt_of_le (gxN e) z) (Nat.lt_irrefl _)
 have cellK:∀ x c,X.env.cells.lookup x=some c->∀ v,s.heap.IsCell c v->h'.IsCell c v:=fun x c e v ⟨o,ho,hd⟩=>by
  have nch:c∉ch:=fun z=>(hch c z).2.2.1 x c e rfl
  by_cases hc:c∈X.fs
  ·obtain⟨sl,q⟩:=slot c o (I.cne x c e) hc nch ho (I.freeC x c e)
   exact⟨_,q,hd⟩
  ·exact⟨o,keep c o (I.cne x c e) hc nch ho (I.freeC x c e),hd⟩
 refine⟨I.ok,I.os,hg,⟨fun b o e n hb hx=>?_,fun b o e n hb hx=>?_,fun b o e n hx=>?_,fun b o e hx=>?_,fun b xs e=>tups b xs (I.base.tups b xs e),fun b o xs e=>frzs b o xs (I.base.frzs b o xs e),fun b ps e=>?_⟩,?_,fun x c e=>?_,?_,fun x c e=>?_,fun p hp=>?_,hok,I.len⟩
 ·exact keep b o (neL b o e) hb (neC b o e hx) (I.base.keep b o e n hb hx) (I.base.free b o e n hx)
 ·obtain⟨sl,e1⟩:=I.base.slot b o e n hb hx
  obtain⟨sl',e2⟩:=slot b _ (neL b o e) hb (neC b o e hx) e1 (I.base.free b o e n hx)
  exact⟨sl',e2⟩
 ·obtain⟨o',e1⟩:=I.base.there b o e hx
  exact free b o' (neC b o e hx) e1 (I.base.free b o e n hx)
 ·obtain⟨o',e1⟩:=I.base.there b o e hx
  exact there b o' (neC b o e hx) e1
 ·obtain⟨m1,e1⟩:=I.base.tbls b ps e
  obtain⟨m2,e2⟩:=tbls b _ e1
  exact⟨m1++m2,by rw[e2,Array.append_assoc]⟩
 ·obtain⟨m,hn,hl⟩:=I.loc
  refine⟨m,ns m hn,fun i x v e1 e2 e3=>?_⟩
  obtain⟨u,r,l⟩:=hl i x v e1 e2 e3
  refine⟨u,r,?_⟩
  rcases l with l | ⟨k,c,e,z⟩
  ·exact .inl l
  ·exact .inr ⟨k,c,e,cellK x c e _ z⟩
 ·obtain⟨v,z⟩:=I.cell x c e
  exact⟨v,cellK x c e v z⟩
 ·obtain⟨m,⟨o,_,_,ho,_⟩,_⟩:=I.loc
  exact free _ o (fun z=>(hch _ z).2.1 rfl) ho I.free
 ·obtain⟨v,o,ho,hd⟩:=I.cell x c e
  exact free c o (fun z=>(hch c z).2.2.1 x c e rfl) ho (I.freeC x c e)
 ·obtain⟨e,n,ne,nf,d⟩:=I.pin p hp
  have nch:p.1∉ch:=fun z=>(hch p.1 z).2.2.2 p hp rfl
  exact⟨keep p.1 p.2 ne nf nch e n,free p.1 p.2 nch e n,ne,nf,d⟩
theorem Inv.un {t':Nat}(I:Inv X pins σ H s)(u:Un X.fs [] H H' s.heap h')(hok:HOk X.prog X.w H' h'):Inv X pins σ H' { s with heap:=h',toks:=t'}:=by
 obtain⟨m,⟨o,es,ep,ho,r⟩,_⟩:=id I.loc
 obtain⟨sl,hL⟩:=u.any ho I.free (by simp)
 exact I.step (g':=s.gens) (d':=s.drawn) (ch:=[]) (fun _ z=>nomatch z) (fun b o _ hb _ e n=>u.keep b o e n hb (by simp)) (fun b o _ hb _ e n=>u.slot b o e n hb (by simp)) (fun b o _ e n=>u.free b o e n (by simp)) (fun b o _ e=>u.there b o e (by simp)) u.tups u.frzs u.tbls (fun m' hm=>by
  obtain⟨o',es',ep',ho',r'⟩:=hm
  rw[ho]at ho';cases ho'
  exact⟨_,es',ep',hL,r'⟩) hok I.bare
theorem Inv.call {g':Array GenState}{t':Nat}{d':Drawn}{ch:List Addr}(I:Inv X pins σ H s)(u:Un (frs X.stack) ch H H' s.heap h')(hok:HOk X.prog X.w H' h')(hg:AllBare g')
 (hch:∀ b∈ch,(b∈X.ex\/X.s₀.heap.objs.size<=b)/\b≠X.env.locals/\(∀ x c,X.env.cells.lookup x=some c->c≠b)/\∀ p∈X.pn++pins,p.1≠b) :
 Inv X pins σ H' { s with heap:=h',gens:=g',drawn:=d',toks:=t'}:=by
 obtain⟨m,⟨o,es,ep,ho,r⟩,_⟩:=id I.loc
 obtain⟨sl,hL⟩:=u.any ho I.free fun z=>(hch _ z).2.1 rfl
 exact I.step (ch:=ch) hch (fun b o hL hb hc e n=>u.keep b o e n (fun z=>(List.mem_cons.mp (I.stkSub b z)).elim hL hb) hc) (fun b o _ _ hc e n=>u.any e n hc) (fun b o hc e n=>u.free b o e n hc) (fun b o hc e=>u.there b o e hc) u.tups u.frzs u.tbls (fun m' hm=>by
  obtain⟨o',es',ep',ho',r'⟩:=hm
  rw[ho]at ho';cases ho'
  exact⟨_,es',ep',hL,r'⟩) hok hg
theorem Inv.turned {t':Nat}{it:Addr}(I:Inv X pins σ H s)(k:∀ b o,b≠it->s.heap.get? b=some o->h'.get? b=some o)(hn:H it=none)(hL:it≠X.env.locals)
 (h1:it∈X.ex\/X.s₀.heap.objs.size<=it) (h2:∀ x c,X.env.cells.lookup x=some c->c≠it) (h3:∀ p∈X.pn++pins,p.1≠it):Inv X pins σ H { s with heap:=h',toks:=t'}:=by
 have nit:∀ b u,H b=some u->b≠it:=fun b u e z=>by rw[z,hn]at e;cases e
 refine I.step (g':=s.gens) (d':=s.drawn) (ch:=[it]) (fun b hb=>?_) (fun b o _ _ hc e _=>k b o (fun z=>hc (by simp[z])) e) (fun b o _ _ hc e _=>⟨o.slots,k b o (fun z=>hc (by simp[z])) e⟩) (fun _ _ _ _ n=>n)
  (fun b o hc e=>⟨o,k b o (fun z=>hc (by simp[z])) e⟩) (fun _ _ e=>e) (fun _ _ _ e=>e) (fun b ps e=>⟨#[],by rw[e];simp⟩) (fun m hm=>?_) (fun b u e=>?_) I.bare
 ·have e:b=it:=by simpa using hb
  subst e
  exact⟨h1,hL,h2,h3⟩
 ·obtain⟨o,es,ep,ho,r⟩:=hm
  exact⟨o,es,ep,k _ o (Ne.symm hL) ho,r⟩
 ·refine(I.hok b u e).stay (fun c v hc q=>k c v ?_ q) (fun _ q=>q) fun _ _ q=>q
  rcases hc with z | z
  ·rw[z];exact nit b u e
  ·exact nit c _ z
theorem Inv.tok (I:Inv X pins σ H s)(t:Nat):Inv X pins σ H { s with toks:=t}:=I.un (h':=s.heap) (t':=t) Un.refl I.hok
theorem Inv.kept {t':Nat}(I:Inv X pins σ H s)(k:∀ b u,s.heap.get? b=some u->h'.get? b=some u):Inv X pins σ H { s with heap:=h',toks:=t'}:=I.un (Un.kept k) (I.hok.kept k)
theorem Inv.laid {a:Addr}{o:HO}{t':Nat}(I:Inv X pins σ H s)(k:∀ b u,s.heap.get? b=some u->h'.get? b=some u)(hp:s.heap.objs.size<=a)(new:ObjOk X.prog X.w (upd H a o) h' a o) :
 Inv X pins σ (upd H a o) { s with heap:=h',toks:=t'}:=I.un (Un.laid k hp (I.hok.fresh hp)) (I.hok.laid k hp new)
theorem Inv.write {x e:Addr}{o:HO}{t':Nat}(I:Inv X pins σ H s)(mu:Mut (H x))(he:e=x\/H e=some (.own x))(k:∀ b u,b≠e->s.heap.get? b=some u->h'.get? b=some u)(heo:∃ u,h'.get? e=some u)
 (new:ObjOk X.prog X.w (upd H x o) h' x o):Inv X pins σ (upd H x o) { s with heap:=h',toks:=t'}:=I.un (Un.write mu he k heo) (I.hok.write mu he k heo new)
theorem Inv.weak {σ':List (Option V)}(I:Inv X pins σ H s)(hl:σ'.length=σ.length)(w:∀(i:Nat) v,σ'[i]?=some (some v)->σ[i]?=some (some v)):Inv X pins σ' H s :=
 ⟨I.ok,I.os,I.bare,I.base,let ⟨m,hn,hl'⟩:=I.loc;⟨m,hn,fun i x v e1 e2 e3=>hl' i x v e1 (w i v e2) e3⟩,I.cell,I.free,I.freeC,I.pin,I.hok,hl.trans I.len⟩
theorem Inv.pins_of {pins':List (Addr×Obj)}(I:Inv X pins σ H s)(h:∀ p∈pins',s.heap.get? p.1=some p.2/\H p.1=none/\p.1≠X.env.locals/\p.1∉X.fs/\∀ v,p.2.data≠.cell v):Inv X pins' σ H s :=
 ⟨I.ok,I.os,I.bare,I.base,I.loc,I.cell,I.free,I.freeC,fun p hp=>(List.mem_append.mp hp).elim (fun z=>I.pin p (List.mem_append_left _ z)) (h p),I.hok,I.len⟩
theorem nodup_ix {N:List Str}(hN:N.Nodup){i j:Nat}{x:Str}(a:N[i]?=some x)(b:N[j]?=some x):i=j:=by
 obtain⟨h1,e1⟩:=gxB a
 obtain⟨h2,e2⟩:=gxB b
 exact(List.getElem_inj hN).mp (e1.trans e2.symm)
theorem store_ok2 {M:Model}{A:Around}{E:Value->Shared->Prop}{i:Nat}{x:Str}{v:V}{u:Value}{Q:Unit->Shared->Prop}(I:Inv X pins σ H s)(hN:X.N.Nodup)(hi:X.N[i]?=some x)(hx:Loc X.env.scope x)(r:RelV v u)
 (h:∀ s',Inv X pins (σ.set i (some v)) H s'->(∃ a,Heap.SameBut a s.heap s'.heap/\(a=X.env.locals\/X.env.cells.lookup x=some a))->Q () s') (hf:X.fn x=true\/X.env.scope.names.lookup x=some .local:=by first | exact .inl rfl | exact .inr rfl | assumption):wpAny M A (storeName X.env x u) Q E s:=by
 obtain⟨m,hn,hl⟩:=id I.loc
 have hcls:(X.env.scope.kind==.class||(X.env.scope.kind==.module&&X.env.locals != X.env.globals))=false:=by rw[I.ok.kind];rfl
 have hiσ:i<σ.length:=by rw[I.len];exact(gxB hi).1
 have cne:=I.cne
 have tracked:∀ {a:Addr} {h':Heap},(∃ o,s.heap.get? a=some o/\H a=none)->Heap.SameBut a s.heap h'->HOk X.prog X.w H h':=fun {a h'} ha hs b ob e=>by
  obtain⟨_,_,hfree⟩:=ha
  refine(I.hok b ob e).stay (fun c w' hc q=>(hs.2 c ?_).trans q) (fun _ q=>q) fun _ _ q=>q
  rintro rfl
  rcases hc with rfl | hc
  ·rw[hfree]at e;cases e
  ·rw[hfree]at hc;cases hc
 rcases hx with hk | hk
 ·refine wpAny_storeName_local hk hn (fun h' hn' hs=>?_) hcls
  obtain⟨oL,_,_,hoL,_⟩:=id hn
  refine h _ ⟨I.ok,I.os,I.bare,⟨fun b o e n hb hx=>?_,fun b o e n hb hx=>?_,I.base.free,fun b o e hx=>?_,I.base.tups,I.base.frzs,I.base.tbls⟩,⟨_,hn',fun j y v' e1 e2 e3=>?_⟩,fun y c e=>?_,I.free,I.freeC,fun p hp=>?_,tracked ⟨oL,hoL,I.free⟩ hs,by simpa using I.len⟩ ⟨_,hs,.inl rfl⟩
  ·exact(hs.2 b (Nat.ne_of_lt (Nat.lt_of_lt_of_le (gxN e) I.ok.above))).trans (I.base.keep b o e n hb hx)
  ·obtain⟨sl,e1⟩:=I.base.slot b o e n hb hx
   exact⟨sl,(hs.2 b (Nat.ne_of_lt (Nat.lt_of_lt_of_le (gxN e) I.ok.above))).trans e1⟩
  ·obtain⟨o',e1⟩:=I.base.there b o e hx
   exact⟨o',(hs.2 b (Nat.ne_of_lt (Nat.lt_of_lt_of_le (gxN e) I.ok.above))).trans e1⟩
  ·by_cases hj:j=i
   ·subst hj
    rw[hi]at e1;cases e1
    rw[List.getElem?_set_self hiσ]at e2
    cases e2
    exact⟨u,r,.inl ⟨hk,by simp⟩⟩
   ·rw[List.getElem?_set_ne (Ne.symm hj)]at e2
    obtain⟨u',r',q⟩:=hl j y v' e1 e2 e3
    refine⟨u',r',?_⟩
    rcases q with⟨k,e⟩ | ⟨k,c,e,z⟩
    ·refine .inl ⟨k,?_⟩
     have:y≠x:=fun e=>hj (nodup_ix hN e1 (e▸hi))
     simp[this,e]
    ·exact .inr ⟨k,c,e,z.sameBut hs (cne y c e)⟩
  ·obtain⟨w',z⟩:=I.cell y c e
   exact⟨w',z.sameBut hs (cne y c e)⟩
  ·obtain⟨e,n,ne,nf,d⟩:=I.pin p hp
   exact⟨(hs.2 p.1 ne).trans e,n,ne,nf,d⟩
 ·have hfn:X.fn x=true:=by
   rcases hf with z | z
   ·exact z
   ·rw[z]at hk;cases hk
  obtain⟨c,hc⟩:=I.ok.has x (.inl hk)
  obtain⟨w',z⟩:=I.cell x c hc
  refine wpAny_storeName_cell I.ok.kind hk hc z (fun h' hc' hs=>?_)
  obtain⟨oc,hoc,hocd⟩:=id z
  refine h { s with heap:=h'} ⟨I.ok,I.os,I.bare,⟨fun b o e n hb hx=>?_,fun b o e n hb hx=>?_,I.base.free,fun b o e hx=>?_,I.base.tups,I.base.frzs,I.base.tbls⟩,⟨m,hn.sameBut hs (Ne.symm (cne x c hc)),fun j y v' e1 e2 e3=>?_⟩,fun y c' e=>?_,I.free,I.freeC,fun p hp=>?_,tracked ⟨oc,hoc,I.freeC x c hc⟩ hs,by simpa using I.len⟩ ⟨c,hs,.inr hc⟩
  ·exact(hs.2 b (Nat.ne_of_lt (Nat.lt_of_lt_of_le (gxN e) (I.ok.cab x c hfn hc)))).trans (I.base.keep b o e n hb hx)
  ·obtain⟨sl,e1⟩:=I.base.slot b o e n hb hx
   exact⟨sl,(hs.2 b (Nat.ne_of_lt (Nat.lt_of_lt_of_le (gxN e) (I.ok.cab x c hfn hc)))).trans e1⟩
  ·obtain⟨o',e1⟩:=I.base.there b o e hx
   exact⟨o',(hs.2 b (Nat.ne_of_lt (Nat.lt_of_lt_of_le (gxN e) (I.ok.cab x c hfn hc)))).trans e1⟩
  ·by_cases hj:j=i
   ·subst hj
    rw[hi]at e1;cases e1
    rw[List.getElem?_set_self hiσ]at e2
    cases e2
    exact⟨u,r,.inr ⟨.inl hk,c,hc,hc'⟩⟩
   ·rw[List.getElem?_set_ne (Ne.symm hj)]at e2
    obtain⟨u',r',q⟩:=hl j y v' e1 e2 e3
    refine⟨u',r',?_⟩
    rcases q with q | ⟨k,c',e,z'⟩
    ·exact .inl q
    ·refine .inr ⟨k,c',e,z'.sameBut hs ?_⟩
     rintro rfl
     exact hj (nodup_ix hN e1 (I.ok.inj _ _ _ e hc▸hi))
  ·by_cases hcc:c'=c
   ·subst hcc;exact⟨_,hc'⟩
   ·obtain⟨w2,z2⟩:=I.cell y c' e
    exact⟨w2,z2.sameBut hs hcc⟩
  ·obtain⟨e,n,ne,nf,d⟩:=I.pin p hp
   refine⟨(hs.2 p.1 ?_).trans e,n,ne,nf,d⟩
   intro q
   rw[q,hoc]at e
   have q':oc=p.2:=Option.some.inj e
   exact d w' (by rw[<- q'];exact hocd)
theorem store_ok {M:Model}{A:Around}{E:Value->Shared->Prop}{i:Nat}{x:Str}{v:V}{u:Value}{Q:Unit->Shared->Prop}(I:Inv X pins σ H s)(hN:X.N.Nodup)(hi:X.N[i]?=some x)(hx:Loc X.env.scope x)(r:RelV v u)
 (h:∀ s',Inv X pins (σ.set i (some v)) H s'->Q () s') (hf:X.fn x=true\/X.env.scope.names.lookup x=some .local:=by first | exact .inl rfl | exact .inr rfl | assumption):wpAny M A (storeName X.env x u) Q E s :=
 store_ok2 I hN hi hx r (fun s' I' _=>h s' I') hf
theorem Inv.call' {s':Shared}{ch:List Addr}(I:Inv X pins σ H s)(ho:s'.os=s.os)(u:Un (frs X.stack) ch H H' s.heap s'.heap)(hok:HOk X.prog X.w H' s'.heap)(hg:AllBare s'.gens)
 (hch:∀ b∈ch,(b∈X.ex\/X.s₀.heap.objs.size<=b)/\b≠X.env.locals/\(∀ x c,X.env.cells.lookup x=some c->c≠b)/\∀ p∈X.pn++pins,p.1≠b):Inv X pins σ H' s':=by
 obtain⟨h',g',d',t',o'⟩:=s'
 have e:o'=s.os:=ho
 subst e
 exact I.call (g':=g') (t':=t') (d':=d') u hok hg hch
end
abbrev XK:=Value->Option Addr->Hp->Prop
abbrev St:=List (Option V)
abbrev VK:=V->Hp->Prop
abbrev TE:=St->Hp->VK->Prop
abbrev TT:=St->Hp->(Bool->Hp->Prop)->Prop
abbrev TA:=St->Hp->(List V->Hp->Prop)->Prop
structure Ends where
 nx:St->Hp->Prop
 rt:VK
 bk:St->Hp->Prop:=fun _ _=>False
 ct:St->Hp->Prop:=fun _ _=>False
abbrev TS:=Ends->St->Hp->Prop
def EP (X:Cx)(pins:List (Addr×Obj))(σ:St)(Q:VK)(u:Value)(s':Shared):Prop:=∃ v H',Inv X pins σ H' s'/\RelV v u/\Q v H'
def TP (X:Cx)(pins:List (Addr×Obj))(σ:St)(Q:Bool->Hp->Prop)(b:Bool)(s':Shared):Prop:=∃ H',Inv X pins σ H' s'/\Q b H'
def AP (X:Cx)(pins:List (Addr×Obj))(σ:St)(Q:List V->Hp->Prop)(us:List Value)(s':Shared):Prop:=∃ vs H',Inv X pins σ H' s'/\Vals vs us/\Q vs H'
def SP (X:Cx)(pins:List (Addr×Obj))(D:Ends)(f:Flow)(s':Shared):Prop :=
 match f with
 | .next=>∃ σ' H',Inv X pins σ' H' s'/\D.nx σ' H'
 | .brk=>∃ σ' H',Inv X pins σ' H' s'/\D.bk σ' H'
 | .cont=>∃ σ' H',Inv X pins σ' H' s'/\D.ct σ' H'
 | .ret u=>∃ v σ' H',Inv X pins σ' H' s'/\RelV v u/\D.rt v H'
def PE (X:Cx)(e:Expr)(t:TE):Prop :=
 ∀(pins:List (Addr×Obj)) (s:Shared) (σ:St) (H:Hp) (Q:VK),Inv X pins σ H s->t σ H Q->wpAny (model X.prog X.w) X.A (eval e X.env) (EP X pins σ Q) X.xe s
def PT (X:Cx)(e:Expr)(t:TT):Prop :=
 ∀(pins:List (Addr×Obj)) (s:Shared) (σ:St) (H:Hp) (Q:Bool->Hp->Prop),Inv X pins σ H s->t σ H Q->wpAny (model X.prog X.w) X.A (isTrue e X.env (eval e X.env)) (TP X pins σ Q) X.xe s
def PW (X:Cx)(e:Expr)(t:TT):Prop :=
 ∀(whole:Sem Value) (pins:List (Addr×Obj)) (s:Shared) (σ:St) (H:Hp) (Q:Bool->Hp->Prop),Inv X pins σ H s->t σ H Q->wpAny (model X.prog X.w) X.A (isTrue e X.env whole) (TP X pins σ Q) X.xe s
theorem PW.pt {X:Cx}{e:Expr}{t:TT}(h:PW X e t):PT X e t:=h _
def PA (X:Cx)(es:List Expr)(t:TA):Prop :=
 ∀(pos:Pos) (pins:List (Addr×Obj)) (s:Shared) (σ:St) (H:Hp) (Q:List V->Hp->Prop),Inv X pins σ H s->t σ H Q->wpAny (model X.prog X.w) X.A (spliced (backTo pos (starEach es X.env))) (AP X pins σ Q) X.xe s
def PS (X:Cx)(st:Stmt)(t:TS):Prop :=
 ∀(pins:List (Addr×Obj)) (s:Shared) (σ:St) (H:Hp) (D:Ends),Inv X pins σ H s->t D σ H->wpAny (model X.prog X.w) X.A (exec st X.env) (SP X pins D) X.xe s
def PSs (X:Cx)(st:List Stmt)(t:TS):Prop :=
 ∀(pins:List (Addr×Obj)) (s:Shared) (σ:St) (H:Hp) (D:Ends),Inv X pins σ H s->t D σ H->wpAny (model X.prog X.w) X.A (execs st X.env) (SP X pins D) X.xe s
theorem thn {α:Type}{t:Sem α}{Q Q':α->Shared->Prop}{M:Model}{A:Around}{E:Value->Shared->Prop}{s:Shared}(h:wpAny M A t Q E s)(hQ:∀ a s,Q a s->Q' a s):wpAny M A t Q' E s:=wpAny_mono h hQ fun _ _ x=>x
section
variable {X:Cx}
theorem bin {a b:Expr}{ta tb:TE}(ha:PE X a ta)(hb:PE X b tb){pins:List (Addr×Obj)}{s:Shared}{σ:St}{H:Hp}{R:V->V->Hp->Prop}(I:Inv X pins σ H s)(h:ta σ H fun x H1=>tb σ H1 fun y H2=>R x y H2)
 {α:Type} {Q:α->Shared->Prop} {f:Value->Value->Sem α}
 (hf:∀ v u s2 x y H2,Inv X pins σ H2 s2->RelV x v->RelV y u->R x y H2->wpAny (model X.prog X.w) X.A (f v u) Q X.xe s2) :
 wpAny (model X.prog X.w) X.A (eval a X.env) (fun v s₁=>wpAny (model X.prog X.w) X.A (eval b X.env) (fun u s₂=>wpAny (model X.prog X.w) X.A (f v u) Q X.xe s₂) X.xe s₁) X.xe s:=by
 refine thn (ha pins s σ H _ I h) fun v s1 hq2=>?_
 obtain⟨x,H1,I1,r1,q1⟩:=hq2
 refine thn (hb pins s1 σ H1 _ I1 q1) fun u s2 hq3=>?_
 obtain⟨y,H2,I2,r2,q2⟩:=hq3
 exact hf v u s2 x y H2 I2 r1 r2 q2
def tVar (i:Nat):TE:=fun σ H Q=>∃ v,σ[i]?=some (some v)/\Q v H
def tC (v:V):TE:=fun _ H Q=>Q v H
theorem pe_var {i:Nat}{x:Str}{pos:Pos}(hN:X.N[i]?=some x)(hv:Vis X.env.scope x)(hd:(x==("__debug__" : Str))=false:=by decide)(hcd:(x==("__classdict__" : Str))=false:=by decide):PE X (.Name x pos) (tVar i):=by
 intro pins s σ H Q I h
 obtain⟨v,e,h⟩:=h
 obtain⟨m,hn,hl⟩:=I.loc
 obtain⟨u,r,l⟩:=hl i x v hN e hv
 have fin:EP X pins σ Q u s:=⟨v,H,I,r,h⟩
 rcases l with⟨hk,hm⟩ | ⟨hk,c,hc,hcell⟩
 ·exact wpAny_Name (wpAny_loadName_local I.ok.kind hk hn hm fin) hd
 ·rcases hk with hk | hk
  ·exact wpAny_Name (wpAny_loadName_cell I.ok.kind hk hc hcell fin) hd
  ·exact wpAny_Name (wpAny_loadName_free I.ok.kind hk hc hcell fin hcd) hd
theorem pe_int {i j pos}:PE X (.Constant (.int i) j pos) (tC (.int i)):=fun _ _ _ H _ I h=>wpAny_Constant_int ⟨.int i,H,I.tok _,⟨_,rfl⟩,h⟩
theorem pe_bl {b j pos}:PE X (.Constant (.bool b) j pos) (tC (.bl b)):=fun _ _ _ H _ I h=>Constant_bool ⟨.bl b,H,I,rfl,h⟩
theorem pe_non {j pos}:PE X (.Constant .none j pos) (tC .non):=fun _ _ _ H _ I h=>Constant_none ⟨.non,H,I,rfl,h⟩
theorem pe_str {x j pos}:PE X (.Constant (.str x) j pos) (tC (.str x)):=fun _ _ _ H _ I h=>Calls.Constant_str ⟨.str x,H,I.tok _,⟨_,rfl⟩,h⟩
def Gl (X:Cx)(x:Str):Prop:=X.env.kindOf x=some .globalImplicit
theorem ld_glob {E:Value->Shared->Prop}{pins:List (Addr×Obj)}{s:Shared}{σ:St}{H:Hp}{x:Str}{u:Value}{pos:Pos}{Q:Value->Shared->Prop}(I:Inv X pins σ H s)(hg:Gl X x)(hm:X.mg x=some u)(h:Q u s)
 (hd:(x==("__debug__" : Str))=false:=by decide):wpAny (model X.prog X.w) X.A (eval (.Name x pos) X.env) Q E s :=
 Calls.Name_function_global I.ok.kind hg (Calls.loadGlobal_global (by rw[I.ok.glob];exact I.mod.glob.keeps I.bk) hm h) hd
theorem ld_blt {E:Value->Shared->Prop}{pins:List (Addr×Obj)}{s:Shared}{σ:St}{H:Hp}{x:Str}{u:Value}{pos:Pos}{Q:Value->Shared->Prop}(I:Inv X pins σ H s)(hg:Gl X x)(hm:X.mg x=none)(hv:bootBuiltins x=some u)(h:Q u s)
 (hn:x ≠ "__name__":=by decide) (hd:(x==("__debug__" : Str))=false:=by decide):wpAny (model X.prog X.w) X.A (eval (.Name x pos) X.env) Q E s:=by
 obtain⟨mb,h1,h2⟩:=I.mod.blt
 exact Calls.Name_function_global I.ok.kind hg (Calls.loadGlobal_builtin (by rw[I.ok.glob];exact I.mod.glob.keeps I.bk) hm (by rw[I.ok.blt];exact h1.keeps I.bk) ((h2 x hn).trans hv) h) hd
theorem pe_glob {x:Str}{v:V}{u:Value}{pos:Pos}(hg:Gl X x)(hm:X.mg x=some u)(r:RelV v u)(hd:(x==("__debug__" : Str))=false:=by decide):PE X (.Name x pos) (tC v) :=
 fun _ _ _ H _ I h=>ld_glob I hg hm ⟨v,H,I,r,h⟩ hd
theorem pe_bltn {x:Str}{v:V}{u:Value}{pos:Pos}(hg:Gl X x)(hm:X.mg x=none)(hv:bootBuiltins x=some u)(r:RelV v u)(hn:x ≠ "__name__":=by decide)(hd:(x==("__debug__" : Str))=false:=by decide):PE X (.Name x pos) (tC v) :=
 fun _ _ _ H _ I h=>ld_blt I hg hm hv ⟨v,H,I,r,h⟩ hn hd
variable {a b:Expr}{ta tb:TE}{pos:Pos}
def PC (X:Cx)(op:CmpOp)(a b:Expr)(t:TE):Prop :=
 ∀(pins:List (Addr×Obj)) (s:Shared) (σ:St) (H:Hp) (Q:VK),Inv X pins σ H s->t σ H Q ->
  wpAny (model X.prog X.w) X.A (eval a X.env) (fun v s₁=>wpAny (model X.prog X.w) X.A (eval b X.env) (fun u s₂=>wpAny (model X.prog X.w) X.A (compareOp op v u) (EP X pins σ Q) X.xe s₂) X.xe s₁) X.xe s
theorem nobehind (b:Expr){op:CmpOp}(h:op≠.In)(h2:op≠.NotIn):behindInMarks op b=false:=by
 have e1:(op==CmpOp.In)=false:=by cases op <;> first | rfl | exact absurd rfl h
 have e2:(op==CmpOp.NotIn)=false:=by cases op <;> first | rfl | exact absurd rfl h2
 cases b <;> simp[behindInMarks,e1,e2]
def tNotN (ta:TE):TE:=fun σ H Q=>ta σ H fun x H1=>Q (.bl (!decide (x=.non))) H1
theorem RelV.none_iff {x:V}{v:Value}(r:RelV x v):(v==Value.none)=decide (x=.non):=by
 cases x with
 | non=>cases r;rfl
 | bl _=>cases r;rfl
 | int _=>obtain⟨t,rfl⟩:=r;rfl
 | str _=>obtain⟨t,rfl⟩:=r;rfl
 | byt _=>obtain⟨t,rfl⟩:=r;rfl
 | flt _=>obtain⟨t,rfl⟩:=r;rfl
 | ref _=>cases r;rfl
 | ty _=>cases r;rfl
theorem pc_notN {j pos'}(ha:PE X a ta):PC X .IsNot a (.Constant .none j pos') (tNotN ta):=by
 intro pins s σ H Q I h
 refine thn (ha pins s σ H _ I h) fun v s1 hq4=>?_
 obtain⟨x,H1,I1,r1,q1⟩:=hq4
 exact Constant_none (isnot_none_gen ⟨.bl _,H1,I1,by rw[r1.none_iff];rfl,q1⟩)
def tB (t:TE):TT:=fun σ H Q=>t σ H fun x H1=>∃ c,x=.bl c/\Q c H1
theorem pe_cmp {op:CmpOp}{t:TE}(h:PC X op a b t)(h1:behindInMarks op b=false:=by first | exact nobehind _ (by decide) (by decide) | rfl):PE X (.Compare a [op] [b] pos) t:=fun pins s σ H Q I hw=>wpAny_Compare1 (h pins s σ H Q I hw) h1
theorem pt_cmp {op:CmpOp}{t:TE}(h:PC X op a b t)(h1:behindInMarks op b=false:=by first | exact nobehind _ (by decide) (by decide) | rfl):PT X (.Compare a [op] [b] pos) (tB t):=by
 intro pins s σ H Q I hw
 refine wpAny_isTrue_Compare1 (thn (h pins s σ H _ I hw) fun v s1 h1=>thn h1 fun u s2 h2=>thn h2 fun c s3 hq5=>?_) h1
 obtain⟨x,H1,I1,r1,q1⟩:=hq5
 obtain⟨d,rfl,q⟩:=q1
 cases r1
 exact wpAny_truthy_bool ⟨H1,I1,q⟩
variable {tA tB':TT}{rest:List Expr}
def tAnd (t u:TT):TT:=fun σ H Q=>t σ H fun c H1=>if c=true then u σ H1 Q else Q false H1
def tOr (t u:TT):TT:=fun σ H Q=>t σ H fun c H1=>if c=true then Q true H1 else u σ H1 Q
def tNot (t:TT):TT:=fun σ H Q=>t σ H fun c H1=>Q (!c) H1
theorem pw_and1 (ha:PT X a tA):PW X (.BoolOp .And [a] pos) tA:=by
 intro wh pins s σ H Q I h
 refine isTrue_and (thn (ha pins s σ H Q I h) fun c s1 e=>?_)
 cases c with
 | true=>exact isTrue_and_nil e
 | false=>exact e
theorem pw_or1 (ha:PT X a tA):PW X (.BoolOp .Or [a] pos) tA:=by
 intro wh pins s σ H Q I h
 refine isTrue_or (thn (ha pins s σ H Q I h) fun c s1 e=>?_)
 cases c with
 | false=>exact isTrue_or_nil e
 | true=>exact e
theorem pw_and (ha:PT X a tA)(hb:PW X (.BoolOp .And (b::rest) pos) tB'):PW X (.BoolOp .And (a::b::rest) pos) (tAnd tA tB'):=by
 intro wh pins s σ H Q I h
 refine isTrue_and (thn (ha pins s σ H _ I h) fun c s1 hq6=>?_)
 obtain⟨H1,I1,q1⟩:=hq6
 cases c with
 | true=>exact hb wh pins s1 σ H1 Q I1 q1
 | false=>exact⟨H1,I1,q1⟩
theorem pw_or (ha:PT X a tA)(hb:PW X (.BoolOp .Or (b::rest) pos) tB'):PW X (.BoolOp .Or (a::b::rest) pos) (tOr tA tB'):=by
 intro wh pins s σ H Q I h
 refine isTrue_or (thn (ha pins s σ H _ I h) fun c s1 hq0=>?_)
 obtain⟨H1,I1,q1⟩:=hq0
 cases c with
 | true=>exact⟨H1,I1,q1⟩
 | false=>exact hb wh pins s1 σ H1 Q I1 q1
theorem pt_not (ha:PT X a tA):PT X (.UnaryOp .Not a pos) (tNot tA):=by
 intro pins s σ H Q I h
 exact isTrue_not (ha pins s σ H (fun c H1=>Q (!c) H1) I h)
theorem pe_one {op}{t:TE}(h:PE X a t):PE X (.BoolOp op [a] pos) t:=fun pins s σ H Q I hw=>BoolOp_one (h pins s σ H Q I hw)
def tIf (t:TT)(ta tb:TE):TE:=fun σ H Q=>t σ H fun c H1=>if c=true then ta σ H1 Q else tb σ H1 Q
theorem pe_ifExp {c:Expr}(hc:PT X c tA)(ha:PE X a ta)(hb:PE X b tb):PE X (.IfExp c a b pos) (tIf tA ta tb):=by
 intro pins s σ H Q I h
 refine wpAny_IfExp (thn (hc pins s σ H _ I h) fun d s1 hq1=>?_)
 obtain⟨H1,I1,q1⟩:=hq1
 cases d with
 | true=>exact ha pins s1 σ H1 Q I1 q1
 | false=>exact hb pins s1 σ H1 Q I1 q1
end
def SqL (K:PySem.W.Frag)(H:Hp)(a:Addr)(xs:List V):Prop :=
 Rd H a (.lst xs) \/
  ∃(o:Obj) (its:Array Value) (n:Nat),K.lookup a=some o/\o.cls=.type "list"/\o.dict=none/\o.data=.seq its n/\its.size<=sizeLine/\Vals xs its.toList
def SqT (K:PySem.W.Frag)(H:Hp)(a:Addr)(xs:List V):Prop :=
 Rd H a (.tup xs) \/
  ∃(o:Obj) (its:Array Value) (n:Nat),K.lookup a=some o/\o.cls=.type "tuple"/\o.data=.seq its n/\its.size<=sizeLine/\Vals xs its.toList
def absV:Value->Option V
 | .none=>some .non
 | .bool b=>some (.bl b)
 | .int i _=>some (.int i)
 | .str x _=>some (.str x)
 | .bytes b _=>some (.byt b)
 | .float b _=>some (.flt b)
 | .ref a=>some (.ref a)
 | .type n=>some (.ty n)
 | _=>none
theorem RelV.abs {x:V}{u:Value}(r:RelV x u):absV u=some x:=by
 cases x with
 | non=>cases r;rfl
 | bl _=>cases r;rfl
 | int _=>obtain⟨t,rfl⟩:=r;rfl
 | str _=>obtain⟨t,rfl⟩:=r;rfl
 | byt _=>obtain⟨t,rfl⟩:=r;rfl
 | flt _=>obtain⟨t,rfl⟩:=r;rfl
 | ref _=>cases r;rfl
 | ty _=>cases r;rfl
theorem RelV.inj {x y:V}{u:Value}(r:RelV x u)(q:RelV y u):x=y:=Option.some.inj (r.abs.symm.trans q.abs)
theorem Vals.inj {xs ys:List V}{us:List Value}(h:Vals xs us)(g:Vals ys us):xs=ys:=by
 induction h generalizing ys with
 | nil=>cases g;rfl
 | cons r t ih =>
  cases g with
  | cons r' t'=>rw[r.inj r',ih t']
section
variable {X:Cx}{pins:List (Addr×Obj)}{σ:St}{H:Hp}{s:Shared}{a:Addr}{xs ys:List V}
theorem SqL.of {K:PySem.W.Frag}(h:H a=some (.lst xs)):SqL K H a xs:=.inl (.inl h)
theorem SqT.of {K:PySem.W.Frag}(h:H a=some (.tup xs)):SqT K H a xs:=.inl (.inl h)
theorem Inv.list (I:Inv X pins σ H s)(h:SqL X.K H a xs):∃ its:List Value,Vals xs its/\PlainL s.heap a its.toArray/\xs.length<=sizeLine:=by
 rcases h with h | ⟨o,its,n,hk,hc,hd,hs,hz,r⟩
 ·obtain⟨z,its,n,r,e⟩:=h.ok I.hok
  exact⟨its,r,⟨_,n,e,rfl,rfl,rfl⟩,z⟩
 ·refine⟨its.toList,r,⟨o,n,I.kIn a o hk,hc,hd,by simpa using hs⟩,?_⟩
  have e:=r.length
  simp only[Array.length_toList]at e
  omega
theorem Inv.tuple (I:Inv X pins σ H s)(h:SqT X.K H a xs):∃ its:List Value,Vals xs its/\IsTup s.heap a its.toArray/\xs.length<=sizeLine:=by
 rcases h with h | ⟨o,its,n,hk,hc,hs,hz,r⟩
 ·obtain⟨z,its,r,p⟩:=h.ok I.hok
  exact⟨its,r,p,z⟩
 ·refine⟨its.toList,r,⟨o,I.kIn a o hk,hc,n,by simpa using hs⟩,?_⟩
  have e:=r.length
  simp only[Array.length_toList]at e
  omega
theorem Inv.list_inj (I:Inv X pins σ H s)(h:SqL X.K H a xs)(h':SqL X.K H a ys):xs=ys:=by
 obtain⟨its,r,⟨o,n,e,_,_,d⟩,_⟩:=I.list h
 obtain⟨its',r',⟨o',n',e',_,_,d'⟩,_⟩:=I.list h'
 rw[e]at e';cases e'
 rw[d]at d'
 injection d' with d1 _
 have:its=its':=by simpa using congrArg Array.toList d1
 subst this
 exact r.inj r'
theorem Inv.tuple_inj (I:Inv X pins σ H s)(h:SqT X.K H a xs)(h':SqT X.K H a ys):xs=ys:=by
 obtain⟨its,r,⟨o,e,_,n,d⟩,_⟩:=I.tuple h
 obtain⟨its',r',⟨o',e',_,n',d'⟩,_⟩:=I.tuple h'
 rw[e]at e';cases e'
 rw[d]at d'
 injection d' with d1 _
 have:its=its':=by simpa using congrArg Array.toList d1
 subst this
 exact r.inj r'
end
abbrev Cx.wish (X:Cx)(E:Value->Shared->Prop):Cx:={ X with xe:=E}
abbrev Cx.nox (X:Cx):Cx:=X.wish fun _ _=>False
theorem Cx.Ok.wish {X:Cx}(ok:X.Ok)(E:Value->Shared->Prop):(X.wish E).Ok :=
 ⟨ok.mod,ok.kind,ok.glob,ok.blt,ok.above,ok.inj,ok.has,ok.cab,ok.hd,ok.frames,ok.stk,ok.exf,ok.bs,ok.bsz,ok.noex,ok.exfs,ok.funs,ok.frf⟩
theorem Cx.Ok.unwish {X:Cx}{E:Value->Shared->Prop}(ok:(X.wish E).Ok):X.Ok :=
 ⟨ok.mod,ok.kind,ok.glob,ok.blt,ok.above,ok.inj,ok.has,ok.cab,ok.hd,ok.frames,ok.stk,ok.exf,ok.bs,ok.bsz,ok.noex,ok.exfs,ok.funs,ok.frf⟩
section
variable {X:Cx}{pins:List (Addr×Obj)}{σ:St}{H:Hp}{s:Shared}{E:Value->Shared->Prop}
theorem Inv.wish (I:Inv X pins σ H s)(E:Value->Shared->Prop):Inv (X.wish E) pins σ H s:=⟨I.ok.wish E,I.os,I.bare,I.base,I.loc,I.cell,I.free,I.freeC,I.pin,I.hok,I.len⟩
theorem Inv.unwish (I:Inv (X.wish E) pins σ H s):Inv X pins σ H s:=⟨I.ok.unwish,I.os,I.bare,I.base,I.loc,I.cell,I.free,I.freeC,I.pin,I.hok,I.len⟩
theorem SP.unwish {D:Ends}{f:Flow}{s':Shared}(h:SP (X.wish E) pins D f s'):SP X pins D f s':=by
 cases f with
 | next=>obtain⟨σ',H',I,q⟩:=h;exact⟨σ',H',I.unwish,q⟩
 | brk=>obtain⟨σ',H',I,q⟩:=h;exact⟨σ',H',I.unwish,q⟩
 | cont=>obtain⟨σ',H',I,q⟩:=h;exact⟨σ',H',I.unwish,q⟩
 | ret u=>obtain⟨v,σ',H',I,r,q⟩:=h;exact⟨v,σ',H',I.unwish,r,q⟩
theorem PSs.nox {st:List Stmt}{t:TS}(h:PSs X.nox st t):PSs X st t:=fun pins s σ H D I hw =>
 wpAny_mono (h pins s σ H D (I.wish _) hw) (fun _ _ q=>q.unwish) fun _ _ z=>False.elim z
end
section
variable {X:Cx}{st:Stmt}{rest:List Stmt}{t u:TS}{e:Expr}{te:TE}{pos:Pos}
def tNext:TS:=fun D σ H=>D.nx σ H
def tSeq (t u:TS):TS:=fun D σ H=>t { D with nx:=u D} σ H
theorem pss_nil:PSs X [] tNext:=fun _ _ σ H _ I h=>wpAny_execs_nil ⟨σ,H,I,h⟩
theorem pss_cons (h1:PS X st t)(h2:PSs X rest u):PSs X (st::rest) (tSeq t u):=by
 intro pins s σ H D I h
 refine wpAny_execs_cons (thn (h1 pins s σ H { D with nx:=u D} I h) fun f s1 q=>?_)
 cases f with
 | next =>
  obtain⟨σ',H',I',q⟩:=q
  exact h2 pins s1 σ' H' D I' q
 | ret v=>exact q
 | brk=>exact q
 | cont=>exact q
theorem pss_one (h1:PS X st t):PSs X [st] t:=by
 intro pins s σ H D I h
 refine wpAny_execs_cons (thn (h1 pins s σ H D I h) fun f s1 q=>?_)
 cases f with
 | next=>exact wpAny_execs_nil q
 | ret v=>exact q
 | brk=>exact q
 | cont=>exact q
theorem Inv.quiet {pins:List (Addr×Obj)}{σ:St}{H:Hp}{s:Shared}(I:Inv X pins σ H s):interactive X.env=false:=by simp[interactive,I.ok.kind]
def tDrop (te:TE):TS:=fun D σ H=>te σ H fun _ H1=>D.nx σ H1
theorem ps_expr (he:PE X e te)(hs:swapsWith e none pos.line X.env=pure false:=by rfl):PS X (.Expr e pos) (tDrop te):=by
 intro pins s σ H D I h
 exact wpAny_Expr_any (thn (he pins s σ H _ I h) fun v s1 hq2=>by obtain⟨x,H1,I1,r1,q1⟩:=hq2;exact⟨σ,H1,I1,q1⟩) I.quiet hs
def tRet (te:TE):TS:=fun D σ H=>te σ H D.rt
theorem ps_ret (he:PE X e te):PS X (.Return (some e) pos) (tRet te):=by
 intro pins s σ H D I h
 exact wpAny_Return_some (thn (he pins s σ H _ I h) fun v s1 hq3=>by obtain⟨x,H1,I1,r1,q1⟩:=hq3;exact⟨x,σ,H1,I1,r1,q1⟩)
def tIfS (c:TT)(t u:TS):TS:=fun D σ H=>c σ H fun b H1=>if b=true then t D σ H1 else u D σ H1
theorem ps_if {c:Expr}{a b:List Stmt}{tc:TT}(hc:PT X c tc)(ha:PSs X a t)(hb:PSs X b u):PS X (.If c a b pos) (tIfS tc t u):=by
 intro pins s σ H D I h
 refine wpAny_If (thn (hc pins s σ H _ I h) fun d s1 hq4=>?_)
 obtain⟨H1,I1,q1⟩:=hq4
 cases d with
 | true=>exact ha pins s1 σ H1 D I1 q1
 | false=>exact hb pins s1 σ H1 D I1 q1
end
abbrev TG:=V->St->Hp->(St->Hp->Prop)->Prop
abbrev TGs:=List V->St->Hp->(St->Hp->Prop)->Prop
def PG (X:Cx)(target:Expr)(t:TG):Prop :=
 ∀(pins:List (Addr×Obj)) (s:Shared) (σ:St) (H:Hp) (v:V) (u:Value) (Q:St->Hp->Prop),Inv X pins σ H s->RelV v u->t v σ H Q ->
  wpAny (model X.prog X.w) X.A (assign target X.env u) (fun _ s'=>∃ σ' H',Inv X pins σ' H' s'/\Q σ' H') X.xe s
def PGs (X:Cx)(ts:List Expr)(t:TGs):Prop :=
 ∀(pins:List (Addr×Obj)) (s:Shared) (σ:St) (H:Hp) (vs:List V) (us:List Value) (Q:St->Hp->Prop),Inv X pins σ H s->Vals vs us->t vs σ H Q ->
  wpAny (model X.prog X.w) X.A (assignInOrder ((assignEach ts X.env).map (·.2)) us) (fun _ s'=>∃ σ' H',Inv X pins σ' H' s'/\Q σ' H') X.xe s
abbrev TSet:=V->V->V->Hp->(Hp->Prop)->Prop
def PSet (X:Cx)(t:TSet):Prop :=
 ∀(pins:List (Addr×Obj)) (s:Shared) (σ:St) (H:Hp) (o i v:V) (ov iv u:Value) (Q:Hp->Prop),Inv X pins σ H s->RelV o ov->RelV i iv->RelV v u->t o i v H Q ->
  wpAny (model X.prog X.w) X.A (setItem ov iv u) (fun _ s'=>∃ H',Inv X pins σ H' s'/\Q H') X.xe s
abbrev TIp:=V->V->Hp->VK->Prop
def PIp (X:Cx)(op:Operator)(t:TIp):Prop :=
 ∀(pins:List (Addr×Obj)) (s:Shared) (σ:St) (H:Hp) (x y:V) (v u:Value) (Q:VK),Inv X pins σ H s->RelV x v->RelV y u->t x y H Q ->
  wpAny (model X.prog X.w) X.A (inplaceOp op v u) (EP X pins σ Q) X.xe s
section
variable {X:Cx}{pos:Pos}
def gName (i:Nat):TG:=fun v σ H Q=>Q (σ.set i (some v)) H
theorem pg_name {i:Nat}{x:Str}(hN:X.N.Nodup)(hi:X.N[i]?=some x)(hx:Loc X.env.scope x)(hf:X.fn x=true\/X.env.scope.names.lookup x=some .local:=by first | exact .inl rfl | exact .inr rfl | assumption):PG X (.Name x pos) (gName i):=by
 intro pins s σ H v u Q I r h
 exact wpAny_assign_Name (store_ok I hN hi hx r (fun s' I'=>⟨_,H,I',h⟩) hf)
def gNil:TGs:=fun vs σ H Q=>vs=[]/\Q σ H
def gCons (t:TG)(u:TGs):TGs:=fun vs σ H Q=>∃ v r,vs=v::r/\t v σ H fun σ' H'=>u r σ' H' Q
theorem pgs_nil:PGs X [] gNil:=by
 intro pins s σ H vs us Q I r h
 obtain⟨e,h⟩:=h
 subst e
 cases r
 exact assignInOrder_nil ⟨σ,H,I,h⟩
theorem pgs_cons {e:Expr}{es:List Expr}{t:TG}{u:TGs}(h1:PG X e t)(h2:PGs X es u)
 (hs:(assignEach (e::es) X.env).map (·.2)=assign e X.env::(assignEach es X.env).map (·.2):=by rfl):PGs X (e::es) (gCons t u):=by
 intro pins s σ H vs us Q I r h
 obtain⟨v,vr,e1,h⟩:=h
 subst e1
 cases r with
 | cons r rr =>
  rw[hs]
  refine assignInOrder_cons (thn (h1 pins s σ H _ _ _ I r h) fun _ s1 hq5=>?_)
  obtain⟨σ1,H1,I1,q1⟩:=hq5
  exact h2 pins s1 σ1 H1 _ _ Q I1 rr q1
def gTup (K:PySem.W.Frag)(n:Nat)(t:TGs):TG:=fun v σ H Q=>∃ a xs,v=.ref a/\SqT K H a xs/\xs.length=n/\t xs σ H Q
theorem pg_tup {es:List Expr}{k:Nat}{t:TGs}{n:Nat}(hc:X.calm=true)(h:PGs X es t)
 (hn:(assignEach es X.env).length=n:=by rfl) (hst:(assignEach es X.env).findIdx? (·.1)=none:=by rfl):PG X (.Tuple es k pos) (gTup X.K n t):=by
 intro pins s σ H v u Q I r hw
 obtain⟨a,xs,e1,hq,hl,hw⟩:=hw
 subst e1
 cases r
 obtain⟨its,rv,ht,hz⟩:=I.tuple hq
 refine assign_Tuple_tuple (I.ok.hd hc) ht (by simp[hn,<- hl,rv.length]) hst fun h' hx=>?_
 have I1:Inv X pins σ H { s with heap:=h'}:=I.kept (t':=s.toks) fun b o e=>hx b o (Nat.ne_of_lt (gxN e)) e
 exact h pins _ σ H xs _ Q I1 (by simpa using rv) hw
def gSub (to ti:TE)(t:TSet):TG:=fun v σ H Q=>to σ H fun o H1=>ti σ H1 fun i H2=>t o i v H2 fun H3=>Q σ H3
theorem pg_sub {o i:Expr}{to ti:TE}{t:TSet}(ho:PE X o to)(hi:PE X i ti)(hs:PSet X t)
 (ha:∀ v,assign (.Subscript o i pos) X.env v=(do
   let ov <- holding [v] (eval o X.env)
   let iv <- holding [v,ov] (eval i X.env)
   standAt pos
   holding [v,ov,iv] (setItem ov iv v)
   release [v,ov,iv] []):=by intro _;rfl):PG X (.Subscript o i pos) (gSub to ti t):=by
 intro pins s σ H v u Q I r h
 rw[ha]
 refine gxM (wpAny_holding (thn (ho pins s σ H _ I h) fun ov s1 hq6=>?_))
 obtain⟨x,H1,I1,r1,q1⟩:=hq6
 refine gxM (wpAny_holding (thn (hi pins s1 σ H1 _ I1 q1) fun iv s2 hq0=>?_))
 obtain⟨y,H2,I2,r2,q2⟩:=hq0
 refine gxM (wpAny_standAt (gxM (wpAny_holding (thn (hs pins s2 σ H2 x y v ov iv u _ I2 r1 r2 r q2) fun _ s3 hq1=>?_))))
 obtain⟨H3,I3,q3⟩:=hq1
 exact wpAny_release ⟨σ,H3,I3,q3⟩
def tAsg (te:TE)(g:TG):TS:=fun D σ H=>te σ H fun x H1=>g x σ H1 D.nx
theorem ps_asg {tg e:Expr}{te:TE}{g:TG}(he:PE X e te)(hg:PG X tg g)(hs:swapsWithSole [tg] e pos.line X.env=pure false:=by rfl)(hw:swappedStores [tg] e X.env=pure none:=by rfl)
 (h1:(assignEach [tg] X.env).map (·.2)=[assign tg X.env]:=by rfl):PS X (.Assign [tg] e pos) (tAsg te g):=by
 intro pins s σ H D I h
 refine wpAny_Assign_stores (thn (he pins s σ H _ I h) fun v s1 hq2=>?_) hs hw
 obtain⟨x,H1,I1,r1,q1⟩:=hq2
 rw[h1]
 exact thn (hg pins s1 σ H1 x v _ I1 r1 q1) fun _ s2 q=>q
theorem ps_set {i:Nat}{x:Str}{e:Expr}{te:TE}{pos':Pos}(hN:X.N.Nodup)(hi:X.N[i]?=some x)(hx:Loc X.env.scope x)(he:PE X e te)(hs:swapsWith e (some (.Name x pos')) pos.line X.env=pure false:=by rfl)(hf:X.fn x=true\/X.env.scope.names.lookup x=some .local:=by first | exact .inl rfl | exact .inr rfl | assumption) :
 PS X (.Assign [.Name x pos'] e pos) (tAsg te (gName i)):=by
 intro pins s σ H D I h
 refine wpAny_Assign_Name (thn (he pins s σ H _ I h) fun v s1 hq3=>?_) hs
 obtain⟨y,H1,I1,r1,q1⟩:=hq3
 exact store_ok I1 hN hi hx r1 (fun s2 I2=>⟨_,H1,I2,q1⟩) hf
def tAug (i:Nat)(te:TE)(ti:TIp):TS:=fun D σ H=>∃ x,σ[i]?=some (some x)/\te σ H fun y H1=>ti x y H1 fun z H2=>D.nx (σ.set i (some z)) H2
theorem ps_aug {i:Nat}{x:Str}{e:Expr}{te:TE}{op:Operator}{ti:TIp}{pos':Pos}(hN:X.N.Nodup)(hi:X.N[i]?=some x)(hx:Loc X.env.scope x)(he:PE X e te)(ho:PIp X op ti)(hf:X.fn x=true\/X.env.scope.names.lookup x=some .local:=by first | exact .inl rfl | exact .inr rfl | assumption) :
 PS X (.AugAssign (.Name x pos') op e pos) (tAug i te ti):=by
 intro pins s σ H D I h
 obtain⟨v,e1,h⟩:=h
 obtain⟨m,hn,hl⟩:=I.loc
 have vis:Vis X.env.scope x:=by rcases hx with k | k;exact .inl k;exact .inr (.inl k)
 obtain⟨u,r,l⟩:=hl i x v hi e1 vis
 refine wpAny_AugAssign_Name ?_
 have go:wpAny (model X.prog X.w) X.A (eval e X.env) (fun w s₂=>wpAny (model X.prog X.w) X.A (inplaceOp op u w) (fun r s₃=>wpAny (model X.prog X.w) X.A (storeName X.env x r) (fun _=>SP X pins D .next) X.xe s₃) X.xe s₂) X.xe s:=by
  refine thn (he pins s σ H _ I h) fun w s1 hq4=>?_
  obtain⟨y,H1,I1,r1,q1⟩:=hq4
  refine thn (ho pins s1 σ H1 v y u w _ I1 r r1 q1) fun z s2 hq5=>?_
  obtain⟨zv,H2,I2,r2,q2⟩:=hq5
  exact store_ok I2 hN hi hx r2 (fun s3 I3=>⟨_,H2,I3,q2⟩) hf
 rcases l with⟨hk,hm⟩ | ⟨hk,c,hc,hcell⟩
 ·exact wpAny_loadName_local I.ok.kind hk hn hm go
 ·rcases hk with hk | hk
  ·exact wpAny_loadName_cell I.ok.kind hk hc hcell go
  ·rcases hx with k | k
   ·have:X.env.scope.names.lookup x=some .free:=hk
    rw[k]at this;cases this
   ·have:X.env.scope.names.lookup x=some .free:=hk
    rw[k]at this;cases this
def tAugS (to ti te:TE)(tget:V->V->Hp->VK->Prop)(tip:TIp)(tset:TSet):TS:=fun D σ H=>to σ H fun o H1=>ti σ H1 fun i H2=>tget o i H2 fun x H3=>te σ H3 fun y H4=>tip x y H4 fun z H5=>tset o i z H5 fun H6=>D.nx σ H6
def PGet (X:Cx)(t:V->V->Hp->VK->Prop):Prop :=
 ∀(pins:List (Addr×Obj)) (s:Shared) (σ:St) (H:Hp) (o i:V) (ov iv:Value) (Q:VK),Inv X pins σ H s->RelV o ov->RelV i iv->t o i H Q ->
  wpAny (model X.prog X.w) X.A (getItem ov iv) (EP X pins σ Q) X.xe s
theorem ps_augS {o i e:Expr}{to ti te:TE}{tget:V->V->Hp->VK->Prop}{tip:TIp}{tset:TSet}{op:Operator}{tpos:Pos}(ho:PE X o to)(hi:PE X i ti)(hg:PGet X tget)(he:PE X e te)(hp:PIp X op tip)(hs:PSet X tset)
 (ha:∀ ov iv new,augStore i ov iv new=(do holding [new,ov,iv] (setItem ov iv new);release [new,ov,iv] [];pure .next):=by intros;rfl):PS X (.AugAssign (.Subscript o i tpos) op e pos) (tAugS to ti te tget tip tset):=by
 intro pins s σ H D I h
 refine wpAny_AugAssign_SubscriptAny (thn (ho pins s σ H _ I h) fun ov s1 hq6=>?_) ha
 obtain⟨x1,H1,I1,r1,q1⟩:=hq6
 refine thn (hi pins s1 σ H1 _ I1 q1) fun iv s2 hq0=>?_
 obtain⟨x2,H2,I2,r2,q2⟩:=hq0
 refine thn (hg pins s2 σ H2 x1 x2 ov iv _ I2 r1 r2 q2) fun old s3 hq1=>?_
 obtain⟨x3,H3,I3,r3,q3⟩:=hq1
 refine thn (he pins s3 σ H3 _ I3 q3) fun v s4 hq2=>?_
 obtain⟨x4,H4,I4,r4,q4⟩:=hq2
 refine thn (hp pins s4 σ H4 x3 x4 old v _ I4 r3 r4 q4) fun new s5 hq3=>?_
 obtain⟨x5,H5,I5,r5,q5⟩:=hq3
 exact thn (hs pins s5 σ H5 x1 x2 x5 ov iv new _ I5 r1 r2 r5 q5) fun _ s6 hq4=>by obtain⟨H6,I6,q6⟩:=hq4;exact⟨σ,H6,I6,q6⟩
def ipI (f:Int->Int->Int):TIp:=fun x y H Q=>∃ i j,x=.int i/\y=.int j/\Q (.int (f i j)) H
theorem ip_add:PIp X .Add (ipI fun i j=>i+j):=by
 intro pins s σ H x y v u Q I r1 r2 h
 obtain⟨i,j,e1,e2,q⟩:=h
 subst e1;subst e2
 obtain⟨t,rfl⟩:=r1
 obtain⟨t',rfl⟩:=r2
 exact iadd_int ⟨.int _,H,I.tok _,⟨_,rfl⟩,q⟩
end
section
variable {X:Cx}{pos:Pos}
def tWhile (c:TT)(tb:TS):TS:=fun D σ H=>∃ W:Nat->St->Hp->Prop,(∃ m,W m σ H)/\∀ m σ H,W m σ H ->
 c σ H fun b H1=>if b=true then ∃ N:St->Hp->Prop,(∀ σ' H',N σ' H'->∃ m',m'<m/\W m' σ' H')/\tb { D with nx:=N,ct:=N,bk:=D.nx} σ H1 else D.nx σ H1
theorem ps_while {c:Expr}{body:List Stmt}{tc:TT}{tb:TS}(hp:PassesOwn (model X.prog X.w) X.A X.env X.xe)(hc:PT X c tc)(hb:PSs X body tb):PS X (.While c body [] pos) (tWhile tc tb):=by
 intro pins s σ H D I h
 obtain⟨W,⟨m0,w0⟩,turn⟩:=h
 refine wpAny_While (codeAny_whileLoop (fun n s'=>∃ σ' H',Inv X pins σ' H' s'/\W n σ' H') ?_ m0 ⟨σ,H,I,w0⟩)
 rintro n s1 ⟨σ1,H1,I1,w1⟩
 refine wpAny_passesOwn hp (thn (hc pins s1 σ1 H1 _ I1 (turn n σ1 H1 w1)) fun b s2 hq5=>?_)
 obtain⟨H2,I2,q2⟩:=hq5
 cases b with
 | true =>
  obtain⟨N,hN,q2⟩:=q2
  rw[if_pos rfl]
  refine wpAny_passesOwn hp (thn (hb pins s2 σ1 H2 _ I2 q2) fun f s3 q3=>?_)
  cases f with
  | next =>
   obtain⟨σ3,H3,I3,n3⟩:=q3
   obtain⟨m',hm,w3⟩:=hN σ3 H3 n3
   exact⟨m',hm,σ3,H3,I3,w3⟩
  | cont =>
   obtain⟨σ3,H3,I3,n3⟩:=q3
   obtain⟨m',hm,w3⟩:=hN σ3 H3 n3
   exact⟨m',hm,σ3,H3,I3,w3⟩
  | brk=>exact q3
  | ret v=>exact q3
 | false =>
  rw[if_neg Bool.false_ne_true]
  exact wpAny_execs_nil ⟨σ1,H2,I2,q2⟩
end
structure It where
 go:Nat->Hp->Prop
 yld:Nat->Hp->V->Hp->Prop
 stop:Nat->Hp->Prop
def FpOk (X:Cx)(pins:List (Addr×Obj))(H:Hp)(b:Addr):Prop :=
 H b=none/\b≠X.env.locals/\b∉X.fs/\(b∈X.ex\/X.s₀.heap.objs.size<=b)/\(∀ x c,X.env.cells.lookup x=some c->c≠b)/\∀ p∈X.pn++pins,p.1≠b
theorem Inv.fpOk {X:Cx}{pins:List (Addr×Obj)}{σ:St}{H H':Hp}{s:Shared}{b:Addr}(I:Inv X pins σ H s)(hb:s.heap.objs.size<=b)(hn:H' b=none):FpOk X pins H' b:=by
 refine⟨hn,Nat.ne_of_gt (Nat.lt_of_lt_of_le I.lt hb),I.nofs hb,.inr (Nat.le_trans I.sz hb),fun x c e z=>?_,fun p hp z=>?_⟩
 ·obtain⟨v,q⟩:=I.cell x c e
  exact absurd (Nat.lt_of_lt_of_le q.lt (by rw[z];exact hb)) (Nat.lt_irrefl _)
 ·exact absurd (Nat.lt_of_lt_of_le (gxN (I.pin p hp).1) (by rw[z];exact hb)) (Nat.lt_irrefl _)
structure Turn (P:Program)(w:World)(K:PySem.W.Frag)(tg:Expr)(J:It)(fp:List Addr)(it:Addr)(tn:Nat->Heap->Prop)(CM:Cx->Prop:=fun X=>X.calm=true):Prop where
 mem:it∈fp
 obj:∀ i h,tn i h->∀ b∈fp,∃ o,h.get? b=some o/\∀ v,o.data≠.cell v
 keep:∀ i h h',tn i h->(∀ b∈fp,∀ o,h.get? b=some o->h'.get? b=some o)->tn i h'
 item:∀(X:Cx),X.prog=P->X.w=w->X.K=K->CM X->∀(i:Nat) (pins:List (Addr×Obj)) (s:Shared) (σ:St) (H:Hp) (E:Value->Shared->Prop),Inv X pins σ H s->(∀ b∈fp,FpOk X pins H b)->tn i s.heap->J.go i H ->
  wpAny (model P w) X.A (pyNext (.ref it)) (fun r s1=>∃ u,r=some u /\
   wpAny (model P w) X.A (letOwnedTupleGo tg (.ref it) u) (fun _ s2=>∃ x H',Inv X pins σ H' s2/\RelV x u/\J.yld i H x H'/\tn (i+1) s2.heap/\∀ b∈fp,H' b=none) E s1) E s
 done:∀(X:Cx),X.prog=P->X.w=w->X.K=K->CM X->∀(i:Nat) (pins:List (Addr×Obj)) (s:Shared) (σ:St) (H:Hp) (E:Value->Shared->Prop),Inv X pins σ H s->(∀ b∈fp,FpOk X pins H b)->tn i s.heap->J.stop i H ->
  wpAny (model P w) X.A (pyNext (.ref it)) (fun r s1=>r=none/\Inv X pins σ H s1) E s
 self:∀(A:Around) (i:Nat) (s:Shared) (Q:Value->Shared->Prop) (E:Value->Shared->Prop),tn i s.heap->Q (.ref it) s->wpAny (model P w) A (pyIter (.ref it)) Q E s
abbrev TI:=St->Hp->(It->Hp->Prop)->Prop
def PIE (X:Cx)(pins:List (Addr×Obj))(σ:St)(tg:Expr)(R:It->Hp->Prop)(itv:Value)(s2:Shared):Prop :=
 ∃(it:Addr) (fp:List Addr) (tn:Nat->Heap->Prop) (J:It) (H':Hp),itv=.ref it/\Inv X pins σ H' s2/\Turn X.prog X.w X.K tg J fp it tn/\tn 0 s2.heap/\(∀ b∈fp,FpOk X pins H' b)/\R J H'
def PI (X:Cx)(tg iter:Expr)(wi:TI):Prop :=
 ∀(pins:List (Addr×Obj)) (s:Shared) (σ:St) (H:Hp) (R:It->Hp->Prop),Inv X pins σ H s->wi σ H R ->
  wpAny (model X.prog X.w) X.A (eval iter X.env) (fun v s1=>wpAny (model X.prog X.w) X.A (pyIter v) (PIE X pins σ tg R) X.xe s1) X.xe s
theorem go_of {M:Model}{A:Around}{E:Value->Shared->Prop}{s:Shared}{tg:Expr}{it:Addr}{u:Value}{o:Obj}{n:String}{vs:Array Value}{Q:Unit->Shared->Prop}(ho:s.heap.get? it=some o)(hc:o.cls=.type n)(hd:o.data=.fields vs)
 (hn:["enumerate", "zip", "dict_itemiterator", "dict_reverseitemiterator", "odict_iterator", "itertools.zip_longest", "itertools.pairwise"].contains n=false) (hQ:Q () s):wpAny M A (letOwnedTupleGo tg (.ref it) u) Q E s:=by
 unfold letOwnedTupleGo
 cases tg <;> first
  | exact wpAny_pure hQ
  | (cases u <;> first
      | exact wpAny_pure hQ
      | (refine gxM (wpAny_load ho ?_)
         rw[hc,hd]
         show wpAny M A (if(["enumerate", "zip", "dict_itemiterator", "dict_reverseitemiterator", "odict_iterator", "itertools.zip_longest", "itertools.pairwise"].contains n&&vs[0]?==some (rawInt _))=true then _ else _) Q E s
         rw[if_neg (by intro h;rw[hn,Bool.false_and]at h;cases h)]
         exact wpAny_pure hQ))
def Itl (K:PySem.W.Frag)(a:Addr):It :=
 ⟨fun i H=>∃ xs x,SqL K H a xs/\xs[i]?=some x,fun i H x H'=>H'=H/\∀ xs,SqL K H a xs->xs[i]?=some x,fun i H=>∃ xs,SqL K H a xs/\xs.length<=i⟩
def Itt (K:PySem.W.Frag)(a:Addr):It :=
 ⟨fun i H=>∃ xs x,SqT K H a xs/\xs[i]?=some x,fun i H x H'=>H'=H/\∀ xs,SqT K H a xs->xs[i]?=some x,fun i H=>∃ xs,SqT K H a xs/\xs.length<=i⟩
def Itr (lo:Int)(n:Nat):It:=⟨fun i _=>i<n,fun i H x H'=>H'=H/\x=.int (lo+i),fun i _=>n<=i⟩
theorem turn_list {P:Program}{w:World}{K:PySem.W.Frag}{tg:Expr}(a it:Addr):Turn P w K tg (Itl K a) [it] it (fun i h=>h.IsListIter it a i) where
 mem:=by simp
 obj:=fun i h st b hb=>by
  have e:b=it:=by simpa using hb
  subst e
  obtain⟨o,e,c,d⟩:=st
  exact⟨o,e,fun v z=>by rw[d]at z;cases z⟩
 keep:=fun i h h' st k=>st.at fun o e=>k it (by simp) o e
 item:=by
  intro X hP hw hK hc i pins s σ H E I hf st hg
  subst hP hw hK
  obtain⟨xs,x,hq,hx⟩:=hg
  obtain⟨its,rv,p,hz⟩:=I.list hq
  obtain⟨u,hu,ru⟩:=rv.get hx
  obtain⟨f0,f1,f2,f3,f4,f5⟩:=hf it (by simp)
  refine wpAny_pyNext_list_item st p.isList (x:=u) (by simpa using hu) fun h' st' sb=>?_
  have I1:Inv X pins σ H { s with heap:=h'}:=I.turned (t':=s.toks) (fun b o hb e=>(sb.2 b hb).trans e) f0 f1 f3 f4 f5
  obtain⟨o,e,c,d⟩:=id st'
  exact⟨u,rfl,go_of (s:={ s with heap:=h'}) e c d (by decide) ⟨x,H,I1,ru,⟨rfl,fun ys hy=>by rw[I.list_inj hy hq];exact hx⟩,st',fun b hb=>(hf b hb).1⟩⟩
 done:=by
  intro X hP hw hK hc i pins s σ H E I hf st hg
  subst hP hw hK
  obtain⟨xs,hq,hx⟩:=hg
  obtain⟨its,rv,p,hz⟩:=I.list hq
  obtain⟨f0,f1,f2,f3,f4,f5⟩:=hf it (by simp)
  have hl:=rv.length
  exact wpAny_pyNext_list_end (I.ok.hd hc) st p.isList (by simp;omega) fun h' eb=>⟨rfl,I.turned (t':=s.toks) (fun b o hb e=>eb b o hb e) f0 f1 f3 f4 f5⟩
 self:=fun _ _ _ _ _ st h=>wpAny_pyIter_listiter st h
theorem turn_tuple {P:Program}{w:World}{K:PySem.W.Frag}{tg:Expr}(a it:Addr):Turn P w K tg (Itt K a) [it] it (fun i h=>h.IsTupleIter it a i) where
 mem:=by simp
 obj:=fun i h st b hb=>by
  have e:b=it:=by simpa using hb
  subst e
  obtain⟨o,e,c,d⟩:=st
  exact⟨o,e,fun v z=>by rw[d]at z;cases z⟩
 keep:=fun i h h' st k=>st.at fun o e=>k it (by simp) o e
 item:=by
  intro X hP hw hK hc i pins s σ H E I hf st hg
  subst hP hw hK
  obtain⟨xs,x,hq,hx⟩:=hg
  obtain⟨its,rv,p,hz⟩:=I.tuple hq
  obtain⟨u,hu,ru⟩:=rv.get hx
  obtain⟨f0,f1,f2,f3,f4,f5⟩:=hf it (by simp)
  refine wpAny_pyNext_tuple_item st (show s.heap.IsTuple a its.toArray from p) (x:=u) (by simpa using hu) fun h' st' sb=>?_
  have I1:Inv X pins σ H { s with heap:=h'}:=I.turned (t':=s.toks) (fun b o hb e=>(sb.2 b hb).trans e) f0 f1 f3 f4 f5
  obtain⟨o,e,c,d⟩:=id st'
  exact⟨u,rfl,go_of (s:={ s with heap:=h'}) e c d (by decide) ⟨x,H,I1,ru,⟨rfl,fun ys hy=>by rw[I.tuple_inj hy hq];exact hx⟩,st',fun b hb=>(hf b hb).1⟩⟩
 done:=by
  intro X hP hw hK hc i pins s σ H E I hf st hg
  subst hP hw hK
  obtain⟨xs,hq,hx⟩:=hg
  obtain⟨its,rv,p,hz⟩:=I.tuple hq
  obtain⟨f0,f1,f2,f3,f4,f5⟩:=hf it (by simp)
  have hl:=rv.length
  exact wpAny_pyNext_tuple_end (I.ok.hd hc) st (show s.heap.IsTuple a its.toArray from p) (by simp;omega) fun h' eb=>⟨rfl,I.turned (t':=s.toks) (fun b o hb e=>eb b o hb e) f0 f1 f3 f4 f5⟩
 self:=fun _ _ _ _ _ st h=>wpAny_pyIter_tupleiter st h
theorem turn_range {P:Program}{w:World}{K:PySem.W.Frag}{tg:Expr}(it:Addr)(lo:Int)(n:Nat):Turn P w K tg (Itr lo n) [it] it (fun i h=>IsRangeIter h it (lo+(i:Nat)*1) ((n:Int) - (i:Nat)) 1) where
 mem:=by simp
 obj:=fun i h st b hb=>by
  have e:b=it:=by simpa using hb
  subst e
  exact⟨_,st,fun v z=>by
   have z':Data.fields _=Data.cell v:=z
   cases z'⟩
 keep:=fun i h h' st k=>k it (by simp) _ st
 item:=by
  intro X hP hw hK hc i pins s σ H E I hf st hg
  subst hP hw hK
  obtain⟨f0,f1,f2,f3,f4,f5⟩:=hf it (by simp)
  have W:=Walks.range (prog:=X.prog) (w:=X.w) (I.ok.hd hc) it lo 1 n
  refine W.item i s _ _ hg st fun v h' tk hv st' kk=>?_
  obtain⟨t,rfl⟩:=hv
  have I1:Inv X pins σ H { s with heap:=h',toks:=tk}:=I.turned (fun b o hb e=>kk b o (by simpa using hb) e) f0 f1 f3 f4 f5
  refine⟨_,rfl,go_of (s:={ s with heap:=h',toks:=tk}) (n := "range_iterator") st' rfl rfl (by decide) ⟨.int (lo+i),H,I1,⟨t,?_⟩,⟨rfl,rfl⟩,st',fun b hb=>(hf b hb).1⟩⟩
  rw[Int.mul_one]
 done:=by
  intro X hP hw hK hc i pins s σ H E I hf st hg
  subst hP hw hK
  obtain⟨f0,f1,f2,f3,f4,f5⟩:=hf it (by simp)
  exact wpAny_pyNext_range_end (I.ok.hd hc) st (by have:n<=i:=hg;omega) fun h' eb=>⟨rfl,I.turned (t':=s.toks) (fun b o hb e=>eb b o hb e) f0 f1 f3 f4 f5⟩
 self:=fun _ _ _ _ _ st h=>wpAny_pyIter_rangeiter st h
section
variable {X:Cx}{tg:Expr}
def iList (K:PySem.W.Frag)(tl:TE):TI:=fun σ H R=>tl σ H fun x H1=>∃ a,x=.ref a/\(∃ xs,SqL K H1 a xs)/\R (Itl K a) H1
def iTup (K:PySem.W.Frag)(tl:TE):TI:=fun σ H R=>tl σ H fun x H1=>∃ a,x=.ref a/\(∃ xs,SqT K H1 a xs)/\R (Itt K a) H1
theorem pi_list {l:Expr}{tl:TE}(hl:PE X l tl):PI X tg l (iList X.K tl):=by
 intro pins s σ H R I h
 refine thn (hl pins s σ H _ I h) fun v s1 hq6=>?_
 obtain⟨x,H1,I1,r1,q1⟩:=hq6
 obtain⟨a,e,⟨xs,hq⟩,q⟩:=q1
 subst e
 cases r1
 obtain⟨its,rv,p,hz⟩:=I1.list hq
 refine wpAny_pyIter_list p.isList ?_
 refine⟨s1.heap.objs.size,[s1.heap.objs.size],_,_,H1,rfl,I1.kept (t':=s1.toks) fun b o e=>gxL _ e,turn_list a _,⟨_,Heap.get?_push_size _ rfl,rfl,rfl⟩,fun b hb=>?_,q⟩
 have e:b=s1.heap.objs.size:=by simpa using hb
 subst e
 exact I1.fpOk (Nat.le_refl _) (I1.hok.fresh (Nat.le_refl _))
theorem pi_tup {l:Expr}{tl:TE}(hl:PE X l tl):PI X tg l (iTup X.K tl):=by
 intro pins s σ H R I h
 refine thn (hl pins s σ H _ I h) fun v s1 hq0=>?_
 obtain⟨x,H1,I1,r1,q1⟩:=hq0
 obtain⟨a,e,⟨xs,hq⟩,q⟩:=q1
 subst e
 cases r1
 obtain⟨its,rv,p,hz⟩:=I1.tuple hq
 refine wpAny_pyIter_tuple (show s1.heap.IsTuple a its.toArray from p) ?_
 refine⟨s1.heap.objs.size,[s1.heap.objs.size],_,_,H1,rfl,I1.kept (t':=s1.toks) fun b o e=>gxL _ e,turn_tuple a _,⟨_,Heap.get?_push_size _ rfl,rfl,rfl⟩,fun b hb=>?_,q⟩
 have e:b=s1.heap.objs.size:=by simpa using hb
 subst e
 exact I1.fpOk (Nat.le_refl _) (I1.hok.fresh (Nat.le_refl _))
theorem range_it {pins:List (Addr×Obj)}{σ:St}{H:Hp}{s:Shared}{R:It->Hp->Prop}{E:Value->Shared->Prop}{lo hi:Int}{t u v:Tok}{tk:Nat}(I:Inv X pins σ H s)(h1:-(2 ^ 62)<=lo)(h2:lo<2 ^ 62)(h3:-(2 ^ 62)<=hi)(h4:hi<2 ^ 62)
 (q:R (Itr lo (hi - lo).toNat) H):wpAny (model X.prog X.w) X.A (pyIter (.ref s.heap.objs.size)) (PIE X pins σ tg R) E { s with heap:=s.heap.push { cls:=.type "range",data:=.fields #[.int lo t,.int hi u,.int 1 v]},toks:=tk}:=by
 refine wpAny_pyIter_range (IsRange.new ..) (small_one h1 h2 h3 h4) ?_
 have I1:Inv X pins σ H { s with heap:=s.heap.push { cls:=.type "range",data:=.fields #[.int lo t,.int hi u,.int 1 v]},toks:=tk}:=I.kept fun b o e=>gxL _ e
 refine⟨(s.heap.push { cls:=.type "range",data:=.fields #[.int lo t,.int hi u,.int 1 v]}).objs.size,[(s.heap.push { cls:=.type "range",data:=.fields #[.int lo t,.int hi u,.int 1 v]}).objs.size],_,_,H,rfl,
  I1.kept (t':=tk) fun b o e=>gxL _ e,turn_range _ lo (hi - lo).toNat,?_,fun b hb=>?_,q⟩
 ·have e1:lo+((0:Nat):Int)*1=lo:=by simp
  have e2:(((hi - lo).toNat:Nat):Int) - ((0:Nat):Int)=Builtin.Range.rangeSize lo hi 1:=by rw[rangeSize_one];split <;> omega
  show IsRangeIter _ _ (lo+((0:Nat):Int)*1) ((((hi - lo).toNat:Nat):Int) - ((0:Nat):Int)) 1
  rw[e1,e2]
  exact Heap.get?_push_size _ rfl
 ·have e:b=(s.heap.push { cls:=.type "range",data:=.fields #[.int lo t,.int hi u,.int 1 v]}).objs.size:=by simpa using hb
  subst e
  exact I1.fpOk (Nat.le_refl _) (I1.hok.fresh (Nat.le_refl _))
def iRng1 (ta:TA):TI:=fun σ H R=>ta σ H fun vs H1=>∃ j:Int,vs=[.int j] /\ -(2 ^ 62)<=j/\j<2 ^ 62/\R (Itr 0 j.toNat) H1
def iRng2 (ta:TA):TI:=fun σ H R=>ta σ H fun vs H1=>∃ i j:Int,vs=[.int i,.int j]/\(-(2 ^ 62)<=i/\i<2 ^ 62 /\ -(2 ^ 62)<=j/\j<2 ^ 62)/\R (Itr i (j - i).toNat) H1
theorem pi_range1 {a:Expr}{ta:TA}{p pos:Pos}(hg:Gl X "range")(hm:X.mg "range"=none)(ha:PA X [a] ta)(hs:starEach [a] X.env=[(false,eval a X.env)]:=by rfl):PI X tg (.Call (.Name "range" p) [a] [] pos) (iRng1 ta):=by
 intro pins s σ H R I h
 refine Call_ (ld_blt I hg hm boot_range (PyProof.Rows.callWith_type1 (thn (ha pos pins s σ H _ I h) fun us s1 hq1=>?_) hs rfl))
 obtain⟨vs,H1,I1,r1,q1⟩:=hq1
 obtain⟨j,e,q1,q2,q⟩:=q1
 subst e
 cases r1 with
 | cons r rr =>
  cases rr
  obtain⟨t,rfl⟩:=r
  exact call_range_1 (range_it I1 (by omega) (by omega) q1 q2 (by simpa using q))
theorem pi_range2 {a b:Expr}{ta:TA}{p pos:Pos}(hg:Gl X "range")(hm:X.mg "range"=none)(ha:PA X [a,b] ta)(hs:starEach [a,b] X.env=[(false,eval a X.env),(false,eval b X.env)]:=by rfl)(hs2:starEach [b] X.env=[(false,eval b X.env)]:=by rfl) :
 PI X tg (.Call (.Name "range" p) [a,b] [] pos) (iRng2 ta):=by
 intro pins s σ H R I h
 refine Call_ (ld_blt I hg hm boot_range (PyProof.Rows.callWith_type1 (thn (ha pos pins s σ H _ I h) fun us s1 hq2=>?_) (by rw[hs,hs2]) (by rw[hs2];rfl)))
 obtain⟨vs,H1,I1,r1,q1⟩:=hq2
 obtain⟨i,j,e,⟨q1,q2,q3,q4⟩,q⟩:=q1
 subst e
 cases r1 with
 | cons r rr =>
  cases rr with
  | cons r' rr =>
   cases rr
   obtain⟨t,rfl⟩:=r
   obtain⟨t',rfl⟩:=r'
   exact call_range_2 (range_it I1 q1 q2 q3 q4 q)
def tFor (wi:TI)(g:TG)(tb:TS):TS:=fun D σ H=>wi σ H fun J H1=>∃ W:Nat->Nat->St->Hp->Prop,(∃ m,W 0 m σ H1)/\∀ i m σ H,W i m σ H ->
 (J.stop i H/\D.nx σ H)\/(J.go i H/\∃ N:St->Hp->Prop,(∀ σ' H',N σ' H'->∃ m',m'<m/\W (i+1) m' σ' H')/\∀ x H',J.yld i H x H'->g x σ H' fun σ2 H2=>tb { D with nx:=N,ct:=N,bk:=D.nx} σ2 H2)
def pinsAt (fp:List Addr)(h:Heap):List (Addr×Obj):=fp.filterMap fun b=>(h.get? b).map fun o=>(b,o)
theorem mem_pinsAt {fp:List Addr}{h:Heap}{b:Addr}{o:Obj}(hb:b∈fp)(e:h.get? b=some o):(b,o)∈pinsAt fp h:=List.mem_filterMap.mpr ⟨b,hb,by rw[e];rfl⟩
theorem of_pinsAt {fp:List Addr}{h:Heap}{p:Addr×Obj}(hp:p∈pinsAt fp h):p.1∈fp/\h.get? p.1=some p.2:=by
 obtain⟨b,hb,e⟩:=List.mem_filterMap.mp hp
 cases q:h.get? b with
 | none=>rw[q]at e;cases e
 | some o =>
  rw[q]at e
  have e':(b,o)=p:=Option.some.inj e
  subst e'
  exact⟨hb,q⟩
theorem Inv.pinned {pins:List (Addr×Obj)}{σ:St}{H:Hp}{s:Shared}{fp:List Addr}(I:Inv X pins σ H s)(hf:∀ b∈fp,FpOk X pins H b)(ho:∀ b∈fp,∃ o,s.heap.get? b=some o/\∀ v,o.data≠.cell v):Inv X (pins++pinsAt fp s.heap) σ H s :=
 I.pins_of fun p hp=>(List.mem_append.mp hp).elim (fun z=>I.pin p (List.mem_append_right _ z)) fun z=>by
  obtain⟨hb,e⟩:=of_pinsAt z
  obtain⟨f0,f1,f2,_⟩:=hf p.1 hb
  obtain⟨o,e',d⟩:=ho p.1 hb
  rw[e]at e';cases e'
  exact⟨e,f0,f1,f2,d⟩
theorem Inv.unpinned {pins pl:List (Addr×Obj)}{σ:St}{H:Hp}{s:Shared}(I:Inv X (pins++pl) σ H s):Inv X pins σ H s:=I.pins_of fun p hp=>I.pin p (List.mem_append_right _ (List.mem_append_left _ hp))
theorem ps_for {iter:Expr}{body:List Stmt}{wi:TI}{g:TG}{tb:TS}{pos:Pos}(hp:PassesOwn (model X.prog X.w) X.A X.env X.xe)(hc:X.calm=true)(hi:PI X tg iter wi)(hg:PG X tg g)(hb:PSs X body tb)
 (hs:∀ x,foldedSetIterable iter X.env x=pure x:=by intro _;rfl):PS X (.For tg iter body [] pos) (tFor wi g tb):=by
 intro pins s σ H D I h
 refine wpAny_For (thn (hi pins s σ H _ I h) fun v s1 h1=>thn h1 fun itv s2 h2=>?_) hs
 obtain⟨it,fp,tn,J,H2,e,I2,T,st2,f2,W,⟨m0,w0⟩,turn⟩:=h2
 subst e
 have stat:∀ {H':Hp},(∀ b∈fp,H' b=none)->∀ b∈fp,FpOk X pins H' b:=fun hn b hb=>⟨hn b hb,(f2 b hb).2⟩
 refine codeAny_forLoop_any (fun n s'=>∃ i σ' H',Inv X pins σ' H' s'/\tn i s'.heap/\(∀ b∈fp,H' b=none)/\W i n σ' H') ?_ m0 ⟨0,σ,H2,I2,st2,fun b hb=>(f2 b hb).1,w0⟩
 rintro n s3 ⟨i,σ3,H3,I3,st3,fr3,w3⟩
 rcases turn i n σ3 H3 w3 with⟨stop,qn⟩ | ⟨go,N,hN,step⟩
 ·refine wpAny_passesOwn hp (thn (T.done X rfl rfl rfl hc i pins s3 σ3 H3 X.xe I3 (stat fr3) st3 stop) fun r s4 hq3=>?_)
  obtain⟨hr,I4⟩:=hq3
  subst hr
  exact wpAny_execs_nil ⟨σ3,H3,I4,qn⟩
 ·refine wpAny_passesOwn hp (thn (T.item X rfl rfl rfl hc i pins s3 σ3 H3 X.xe I3 (stat fr3) st3 go) fun r s4 hq4=>?_)
  obtain⟨u,hr,h4⟩:=hq4
  subst hr
  refine wpAny_passesOwn hp (thn h4 fun _ s5 hq5=>?_)
  obtain⟨x,H5,I5,r5,y5,st5,fr5⟩:=hq5
  have I5':=I5.pinned (stat fr5) (T.obj _ _ st5)
  refine wpAny_passesOwn hp (thn (hg _ s5 σ3 H5 x u _ I5' r5 (step x H5 y5)) fun _ s6 hq6=>?_)
  obtain⟨σ6,H6,I6,q6⟩:=hq6
  refine wpAny_passesOwn hp (thn (hb _ s6 σ6 H6 _ I6 q6) fun f s7 q7=>?_)
  have again:∀ {σ7:St} {H7:Hp},Inv X (pins++pinsAt fp s5.heap) σ7 H7 s7->N σ7 H7->∃ m,m<n/\∃ i σ' H',Inv X pins σ' H' s7/\tn i s7.heap/\(∀ b∈fp,H' b=none)/\W i m σ' H':=fun {σ7 H7} I7 n7=>by
   obtain⟨m',hm,w7⟩:=hN σ7 H7 n7
   refine⟨m',hm,i+1,σ7,H7,I7.unpinned,T.keep _ _ _ st5 fun b hb o e=>(I7.pin (b,o) (List.mem_append_right _ (List.mem_append_right _ (mem_pinsAt hb e)))).1,fun b hb=>?_,w7⟩
   obtain⟨o,e,d⟩:=T.obj _ _ st5 b hb
   exact(I7.pin (b,o) (List.mem_append_right _ (List.mem_append_right _ (mem_pinsAt hb e)))).2.1
  cases f with
  | next=>obtain⟨σ7,H7,I7,n7⟩:=q7;exact again I7 n7
  | cont=>obtain⟨σ7,H7,I7,n7⟩:=q7;exact again I7 n7
  | brk=>obtain⟨σ7,H7,I7,q7⟩:=q7;exact⟨σ7,H7,I7.unpinned,q7⟩
  | ret v=>obtain⟨x7,σ7,H7,I7,r7,q7⟩:=q7;exact⟨x7,σ7,H7,I7.unpinned,r7,q7⟩
end
abbrev R2:=V->V->Hp->VK->Prop
def OpR (X:Cx)(f:Value->Value->Sem Value)(r:R2):Prop :=
 ∀(pins:List (Addr×Obj)) (s:Shared) (σ:St) (H:Hp) (x y:V) (v u:Value) (Q:VK),Inv X pins σ H s->RelV x v->RelV y u->r x y H Q ->
  wpAny (model X.prog X.w) X.A (f v u) (EP X pins σ Q) X.xe s
def UnR (X:Cx)(f:Value->Sem Value)(r:V->Hp->VK->Prop):Prop :=
 ∀(pins:List (Addr×Obj)) (s:Shared) (σ:St) (H:Hp) (x:V) (v:Value) (Q:VK),Inv X pins σ H s->RelV x v->r x H Q ->
  wpAny (model X.prog X.w) X.A (f v) (EP X pins σ Q) X.xe s
def CallR (X:Cx)(f:Value)(r:List V->Hp->VK->Prop):Prop :=
 ∀(pins:List (Addr×Obj)) (s:Shared) (σ:St) (H:Hp) (xs:List V) (us:List Value) (Q:VK),Inv X pins σ H s->Vals xs us->r xs H Q ->
  wpAny (model X.prog X.w) X.A (call f us) (EP X pins σ Q) X.xe s
def tOp (r:R2)(ta tb:TE):TE:=fun σ H Q=>ta σ H fun x H1=>tb σ H1 fun y H2=>r x y H2 Q
def tUn (r:V->Hp->VK->Prop)(ta:TE):TE:=fun σ H Q=>ta σ H fun x H1=>r x H1 Q
def rI (C:Int->Int->Prop)(g:Int->Int->V):R2:=fun x y H Q=>∃ i j,x=.int i/\y=.int j/\C i j/\Q (g i j) H
def rI0 (g:Int->Int->V):R2:=fun x y H Q=>∃ i j,x=.int i/\y=.int j/\Q (g i j) H
def rU (g:Int->V):V->Hp->VK->Prop:=fun x H Q=>∃ i,x=.int i/\Q (g i) H
section
variable {X:Cx}{a b c:Expr}{ta tb tc:TE}{pos:Pos}
theorem binT (ha:PE X a ta)(hb:PE X b tb){pins:List (Addr×Obj)}{s:Shared}{σ:St}{H:Hp}{R:V->V->Hp->Prop}(I:Inv X pins σ H s)
 (h:ta σ H fun x H1=>tb σ H1 fun y H2=>R x y H2) {Q:Value->Shared->Prop} {f:Value->Value->Sem Value}
 (hf:∀ v u s2 x y H2,Inv X pins σ H2 s2->RelV x v->RelV y u->R x y H2->wpAny (model X.prog X.w) X.A (f v u) Q X.xe s2) :
 wpAny (model X.prog X.w) X.A (eval a X.env) (fun v s₁=>wpAny (model X.prog X.w) X.A (eval b X.env) (fun u s₂=>wpAny (model X.prog X.w) X.A (f v u) Q X.xe s₂) X.xe s₁) X.xe s:=by
 refine thn (ha pins s σ H _ I h) fun v s1 hq0=>?_
 obtain⟨x,H1,I1,r1,q1⟩:=hq0
 refine thn (hb pins s1 σ H1 _ I1 q1) fun u s2 hq1=>?_
 obtain⟨y,H2,I2,r2,q2⟩:=hq1
 exact hf v u s2 x y H2 I2 r1 r2 q2
theorem pe_op {op:Operator}{r:R2}(ho:OpR X (binaryOp op) r)(ha:PE X a ta)(hb:PE X b tb):PE X (.BinOp a op b pos) (tOp r ta tb):=by
 intro pins s σ H Q I h
 exact wpAny_BinOp (binT ha hb I h fun v u s2 x y H2 I2 rx ry q=>ho pins s2 σ H2 x y v u Q I2 rx ry q)
theorem pe_un {op:UnaryOp}{r:V->Hp->VK->Prop}(ho:UnR X (unaryOp op) r)(ha:PE X a ta):PE X (.UnaryOp op a pos) (tUn r ta):=by
 intro pins s σ H Q I h
 exact UnaryOp_ (thn (ha pins s σ H _ I h) fun v s1 hq2=>by obtain⟨x,H1,I1,r1,q1⟩:=hq2;exact ho pins s1 σ H1 x v Q I1 r1 q1)
theorem opI {f:Value->Value->Sem Value}{C:Int->Int->Prop}{g:Int->Int->Int}
 (rule:∀(i j:Int) (t u:Tok) (s:Shared) (Q:Value->Shared->Prop) (E:Value->Shared->Prop),C i j->Q (.int (g i j) s.toks) { s with toks:=s.toks+1}->wpAny (model X.prog X.w) X.A (f (.int i t) (.int j u)) Q E s) :
 OpR X f (rI C fun i j=>.int (g i j)):=by
 intro pins s σ H x y v u Q I rx ry h
 obtain⟨i,j,rfl,rfl,hc,q⟩:=h
 obtain⟨t,rfl⟩:=rx
 obtain⟨t',rfl⟩:=ry
 exact rule i j t t' s _ _ hc ⟨.int (g i j),H,I.tok _,⟨_,rfl⟩,q⟩
theorem opI0 {f:Value->Value->Sem Value}{g:Int->Int->Int}
 (rule:∀(i j:Int) (t u:Tok) (s:Shared) (Q:Value->Shared->Prop) (E:Value->Shared->Prop),Q (.int (g i j) s.toks) { s with toks:=s.toks+1}->wpAny (model X.prog X.w) X.A (f (.int i t) (.int j u)) Q E s) :
 OpR X f (rI0 fun i j=>.int (g i j)):=by
 intro pins s σ H x y v u Q I rx ry h
 obtain⟨i,j,rfl,rfl,q⟩:=h
 obtain⟨t,rfl⟩:=rx
 obtain⟨t',rfl⟩:=ry
 exact rule i j t t' s _ _ ⟨.int (g i j),H,I.tok _,⟨_,rfl⟩,q⟩
theorem opB0 {f:Value->Value->Sem Value}{g:Int->Int->Bool}
 (rule:∀(i j:Int) (t u:Tok) (s:Shared) (Q:Value->Shared->Prop) (E:Value->Shared->Prop),Q (.bool (g i j)) s->wpAny (model X.prog X.w) X.A (f (.int i t) (.int j u)) Q E s) :
 OpR X f (rI0 fun i j=>.bl (g i j)):=by
 intro pins s σ H x y v u Q I rx ry h
 obtain⟨i,j,rfl,rfl,q⟩:=h
 obtain⟨t,rfl⟩:=rx
 obtain⟨t',rfl⟩:=ry
 exact rule i j t t' s _ _ ⟨.bl (g i j),H,I,rfl,q⟩
def CDiv (i j:Int):Prop:=0<j/\j<1073741824
def CPow (i j:Int):Prop:=0<=j/\j<=1000000/\i.natAbs<2 ^ 64
def CMul (i j:Int):Prop:=(-(2 ^ 64)<i/\i<2 ^ 64)\/(-(2 ^ 64)<j/\j<2 ^ 64)
theorem CMul.ok {i j:Int}(h:CMul i j):IntMulOk i j:=by
 rcases h with⟨h1,h2⟩ | ⟨h1,h2⟩
 ·exact .of_left (intBits_le_64 h1 h2)
 ·exact .of_right (intBits_le_64 h1 h2)
theorem op_add:OpR X (binaryOp .Add) (rI0 fun i j=>.int (i+j)):=opI0 fun _ _ _ _ _ _ _ q=>add_int q
theorem op_sub:OpR X (binaryOp .Sub) (rI0 fun i j=>.int (i - j)):=opI0 fun _ _ _ _ _ _ _ q=>sub_int q
theorem op_mul:OpR X (binaryOp .Mult) (rI CMul fun i j=>.int (i*j)):=opI fun _ _ _ _ _ _ _ hc q=>mul_int q hc.ok
theorem op_fdiv:OpR X (binaryOp .FloorDiv) (rI CDiv fun i j=>.int (i / j)):=opI fun i j _ _ _ _ _ hc q=>by
 have h1:(0:Int)<j:=hc.1
 have h2:j<1073741824:=hc.2
 exact floordiv_int (by omega) (by rw[Int.fdiv_eq_ediv_of_nonneg i (by omega)];exact q) (.inl (PyProof.noPylong_small (by omega)))
theorem op_mod:OpR X (binaryOp .Mod) (rI (fun _ j=>0<j) fun i j=>.int (i%j)):=opI fun i j _ _ _ _ _ hc q=>by
 have h1:(0:Int)<j:=hc
 exact mod_int' (by omega) (by rw[Int.fmod_eq_emod_of_nonneg i (by omega)];exact q)
theorem op_pow:OpR X (binaryOp .Pow) (rI CPow fun i j=>.int (i ^ j.toNat)):=opI fun _ _ _ _ _ _ _ hc q=>pow_int_small hc.1 hc.2.1 hc.2.2 q
theorem unI {f:Value->Sem Value}{g:Int->Int}
 (rule:∀(i:Int) (t:Tok) (s:Shared) (Q:Value->Shared->Prop) (E:Value->Shared->Prop),Q (.int (g i) s.toks) { s with toks:=s.toks+1}->wpAny (model X.prog X.w) X.A (f (.int i t)) Q E s) :
 UnR X f (rU fun i=>.int (g i)):=by
 intro pins s σ H x v Q I rx h
 obtain⟨i,rfl,q⟩:=h
 obtain⟨t,rfl⟩:=rx
 exact rule i t s _ _ ⟨.int (g i),H,I.tok _,⟨_,rfl⟩,q⟩
theorem un_neg:UnR X (unaryOp .USub) (rU fun i=>.int (-i)):=unI fun _ _ _ _ _ q=>neg_int q
end
def scal:V->V->Bool
 | .non,.non=>true | .non,.int _=>true | .int _,.non=>true | .non,.bl _=>true | .bl _,.non=>true | .non,.str _=>true | .str _,.non=>true
 | .int _,.int _=>true | .bl _,.bl _=>true | .str _,.str _=>true | .byt _,.byt _=>true
 | .int _,.str _=>true | .str _,.int _=>true | .bl _,.str _=>true | .str _,.bl _=>true
 | _,_=>false
def rEq:R2:=fun x y H Q=>scal x y=true/\Q (.bl (decide (x=y))) H
def rNe:R2:=fun x y H Q=>scal x y=true/\Q (.bl (!decide (x=y))) H
theorem dec_int {i j:Int}:decide (V.int i=V.int j)=(i==j):=by
 rw[Bool.eq_iff_iff]
 simp
theorem dec_bl {i j:Bool}:decide (V.bl i=V.bl j)=(i==j):=by
 rw[Bool.eq_iff_iff]
 simp
theorem dec_str {i j:Str}:decide (V.str i=V.str j)=(i==j):=by
 rw[Bool.eq_iff_iff]
 simp
theorem dec_byt {i j:Array UInt8}:decide (V.byt i=V.byt j)=(i.toList==j.toList):=by
 rw[Bool.eq_iff_iff]
 cases i
 cases j
 simp
section
variable {X:Cx}{a b c:Expr}{ta tb tc:TE}{pos:Pos}
theorem fin_bl {pins:List (Addr×Obj)}{σ:St}{H:Hp}{s:Shared}{Q:VK}{k k':Bool}(I:Inv X pins σ H s)(q:Q (.bl k) H)(e:k=k'):EP X pins σ Q (.bool k') s:=by
 subst e
 exact⟨.bl k,H,I,rfl,q⟩
theorem op_eq:OpR X (compareOp .Eq) rEq:=by
 intro pins s σ H x y v u Q I rx ry h
 obtain⟨hs,q⟩:=h
 cases x with
 | non =>
  cases rx
  cases y with
  | non=>cases ry;exact PySem.EqNone.eq_none_none (fin_bl I q (by simp))
  | bl j=>cases ry;exact PySem.EqNone.eq_none_bool (fin_bl I q (by simp))
  | int j=>obtain⟨t',rfl⟩:=ry;exact PySem.EqNone.eq_none_int (fin_bl I q (by simp))
  | str j=>obtain⟨t',rfl⟩:=ry;exact PySem.EqNone.eq_none_str (fin_bl I q (by simp))
  | _=>exact absurd (show false=true from hs) Bool.false_ne_true
 | bl i =>
  cases rx
  cases y with
  | non=>cases ry;exact PySem.EqNone.eq_bool_none (fin_bl I q (by simp))
  | bl j=>cases ry;exact eq_bool (fin_bl I q dec_bl)
  | str j=>obtain⟨t',rfl⟩:=ry;exact PySem.EqMixed.eq_bool_str (fin_bl I q (by simp))
  | _=>exact absurd (show false=true from hs) Bool.false_ne_true
 | int i =>
  obtain⟨t,rfl⟩:=rx
  cases y with
  | non=>cases ry;exact PySem.EqNone.eq_int_none (fin_bl I q (by simp))
  | int j=>obtain⟨t',rfl⟩:=ry;exact eq_int (fin_bl I q dec_int)
  | str j=>obtain⟨t',rfl⟩:=ry;exact PySem.EqMixed.eq_int_str (fin_bl I q (by simp))
  | _=>exact absurd (show false=true from hs) Bool.false_ne_true
 | str i =>
  obtain⟨t,rfl⟩:=rx
  cases y with
  | non=>cases ry;exact PySem.EqNone.eq_str_none (fin_bl I q (by simp))
  | bl j=>cases ry;exact PySem.EqMixed.eq_str_bool (fin_bl I q (by simp))
  | int j=>obtain⟨t',rfl⟩:=ry;exact PySem.EqMixed.eq_str_int (fin_bl I q (by simp))
  | str j=>obtain⟨t',rfl⟩:=ry;exact eq_str (fin_bl I q dec_str)
  | _=>exact absurd (show false=true from hs) Bool.false_ne_true
 | byt i =>
  obtain⟨t,rfl⟩:=rx
  cases y with
  | byt j=>obtain⟨t',rfl⟩:=ry;exact PySem.W.eq_bytes (fin_bl I q dec_byt)
  | _=>exact absurd (show false=true from hs) Bool.false_ne_true
 | _=>cases y <;> exact absurd (show false=true from hs) Bool.false_ne_true
theorem op_ne:OpR X (compareOp .NotEq) rNe:=by
 intro pins s σ H x y v u Q I rx ry h
 obtain⟨hs,q⟩:=h
 cases x with
 | non =>
  cases rx
  cases y with
  | non=>cases ry;exact PySem.EqNone.ne_none_none (fin_bl I q (by simp))
  | bl j=>cases ry;exact PySem.EqNone.ne_none_bool (fin_bl I q (by simp))
  | int j=>obtain⟨t',rfl⟩:=ry;exact PySem.EqNone.ne_none_int (fin_bl I q (by simp))
  | str j=>obtain⟨t',rfl⟩:=ry;exact PySem.EqNone.ne_none_str (fin_bl I q (by simp))
  | _=>exact absurd (show false=true from hs) Bool.false_ne_true
 | bl i =>
  cases rx
  cases y with
  | non=>cases ry;exact PySem.EqNone.ne_bool_none (fin_bl I q (by simp))
  | bl j=>cases ry;exact ne_bool (fin_bl I q (congrArg not dec_bl))
  | str j=>obtain⟨t',rfl⟩:=ry;exact PySem.EqMixed.ne_bool_str (fin_bl I q (by simp))
  | _=>exact absurd (show false=true from hs) Bool.false_ne_true
 | int i =>
  obtain⟨t,rfl⟩:=rx
  cases y with
  | non=>cases ry;exact PySem.EqNone.ne_int_none (fin_bl I q (by simp))
  | int j=>obtain⟨t',rfl⟩:=ry;exact ne_int (fin_bl I q (congrArg not dec_int))
  | str j=>obtain⟨t',rfl⟩:=ry;exact PySem.EqMixed.ne_int_str (fin_bl I q (by simp))
  | _=>exact absurd (show false=true from hs) Bool.false_ne_true
 | str i =>
  obtain⟨t,rfl⟩:=rx
  cases y with
  | non=>cases ry;exact PySem.EqNone.ne_str_none (fin_bl I q (by simp))
  | bl j=>cases ry;exact PySem.EqMixed.ne_str_bool (fin_bl I q (by simp))
  | int j=>obtain⟨t',rfl⟩:=ry;exact PySem.EqMixed.ne_str_int (fin_bl I q (by simp))
  | str j=>obtain⟨t',rfl⟩:=ry;exact ne_str (fin_bl I q (congrArg not dec_str))
  | _=>exact absurd (show false=true from hs) Bool.false_ne_true
 | byt i =>
  obtain⟨t,rfl⟩:=rx
  cases y with
  | byt j=>obtain⟨t',rfl⟩:=ry;exact PySem.W.ne_bytes (fin_bl I q (congrArg not dec_byt))
  | _=>exact absurd (show false=true from hs) Bool.false_ne_true
 | _=>cases y <;> exact absurd (show false=true from hs) Bool.false_ne_true
theorem op_lt:OpR X (compareOp .Lt) (rI0 fun i j=>.bl (decide (i<j))):=opB0 fun _ _ _ _ _ _ _ q=>lt_int q
theorem op_gt:OpR X (compareOp .Gt) (rI0 fun i j=>.bl (decide (j<i))):=opB0 fun _ _ _ _ _ _ _ q=>gt_int q
theorem op_ge:OpR X (compareOp .GtE) (rI0 fun i j=>.bl (decide (j<=i))):=opB0 fun _ _ _ _ _ _ _ q=>ge_int q
theorem op_in_str:OpR X (compareOp .In) (fun x y H Q=>∃ i j,x=.str i/\y=.str j/\Q (.bl (!(Builtin.Str.occurrences j i 0 j.length 1).isEmpty)) H):=by
 intro pins s σ H x y v u Q I rx ry h
 obtain⟨i,j,rfl,rfl,q⟩:=h
 obtain⟨t,rfl⟩:=rx
 obtain⟨t',rfl⟩:=ry
 exact in_str (fin_bl I q rfl)
theorem OpR.or {f:Value->Value->Sem Value}{r r':R2}(h:OpR X f r)(h':OpR X f r'):OpR X f (fun x y H Q=>r x y H Q\/r' x y H Q):=by
 intro pins s σ H x y v u Q I rx ry q
 rcases q with q | q
 ·exact h pins s σ H x y v u Q I rx ry q
 ·exact h' pins s σ H x y v u Q I rx ry q
theorem nomark (b:Expr){op:CmpOp}(h:op≠.In:=by decide)(h2:op≠.NotIn:=by decide):behindInMarks op b=false:=by
 have e1:(op==CmpOp.In)=false:=by cases op <;> first | rfl | exact absurd rfl h
 have e2:(op==CmpOp.NotIn)=false:=by cases op <;> first | rfl | exact absurd rfl h2
 cases b <;> simp[behindInMarks,e1,e2]
theorem pe_cmpR {op:CmpOp}{r:R2}(ho:OpR X (compareOp op) r)(ha:PE X a ta)(hb:PE X b tb)(hm:behindInMarks op b=false):PE X (.Compare a [op] [b] pos) (tOp r ta tb):=by
 intro pins s σ H Q I h
 exact wpAny_Compare1 (binT ha hb I h fun v u s2 x y H2 I2 rx ry q=>ho pins s2 σ H2 x y v u Q I2 rx ry q) hm
def tChain (r r':R2)(ta tb tc:TE):TE:=fun σ H Q=>ta σ H fun x H1=>tb σ H1 fun y H2=>r x y H2 fun z H3=>∃ k,z=.bl k /\
 (if k=true then tc σ H3 fun w' H4=>r' y w' H4 Q else Q (.bl false) H3)
theorem pe_chain {op op':CmpOp}{r r':R2}(ho:OpR X (compareOp op) r)(ho':OpR X (compareOp op') r')(ha:PE X a ta)(hb:PE X b tb)(hc:PE X c tc)
 (hm:lastMarks [op,op'] [b,c]=false:=by with_unfolding_all rfl):PE X (.Compare a [op,op'] [b,c] pos) (tChain r r' ta tb tc):=by
 intro pins s σ H Q I h
 refine Compare_chain (thn (ha pins s σ H _ I h) fun v s1 ⟨x,H1,I1,r1,q1⟩=>chain_link (thn (hb pins s1 σ H1 _ I1 q1) fun u s2 ⟨y,H2,I2,r2,q2⟩ =>
  thn (ho pins s2 σ H2 x y v u _ I2 r1 r2 q2) fun d s3 ⟨z,H3,I3,r3,k,e,q3⟩=>?_)) hm
 subst e
 cases r3
 refine wpAny_truthy_bool ?_
 cases k with
 | false=>exact ite_ff ⟨.bl false,H3,I3,rfl,q3⟩
 | true=>exact ite_tt (chain_last (thn (hc pins s3 σ H3 _ I3 q3) fun w' s4 hq4=>by obtain⟨z',H4,I4,r4,q4⟩:=hq4;exact ho' pins s4 σ H4 y z' u w' Q I4 r2 r4 q4))
theorem line63:(sizeLine:Nat)<2 ^ 63:=by rw[sizeLine_eq];decide
theorem op_add_str:OpR X (binaryOp .Add) (fun x y H Q=>∃ i j,x=.str i/\y=.str j/\i.length+j.length<=sizeLine/\Q (.str (i++j)) H):=by
 intro pins s σ H x y v u Q I rx ry h
 obtain⟨i,j,rfl,rfl,hz,q⟩:=h
 obtain⟨t,rfl⟩:=rx
 obtain⟨t',rfl⟩:=ry
 exact add_str (fun t' tk=>⟨.str (i++j),H,I.tok _,⟨_,rfl⟩,q⟩) hz
theorem vals1 {x:V}{us:List Value}(r:Vals [x] us):∃ u,us=[u]/\RelV x u:=by
 cases r with
 | cons r1 r2=>cases r2;exact⟨_,rfl,r1⟩
theorem vals2 {x y:V}{us:List Value}(r:Vals [x,y] us):∃ u w',us=[u,w']/\RelV x u/\RelV y w':=by
 cases r with
 | cons r1 r2 =>
  cases r2 with
  | cons r3 r4=>cases r4;exact⟨_,_,rfl,r1,r3⟩
theorem call_max2 (hc:X.calm=true):CallR X (.builtin "max") (fun xs H Q=>∃ i j,xs=[.int i,.int j]/\Q (.int (if j>i then j else i)) H):=by
 intro pins s σ H xs us Q I r h
 obtain⟨i,j,rfl,q⟩:=h
 obtain⟨u,w',rfl,⟨t,rfl⟩,⟨t',rfl⟩⟩:=vals2 r
 refine max_two_ints (I.ok.hd hc) fun h' tk k=>⟨_,H,I.kept k,?_,q⟩
 by_cases hj:j>i
 ·rw[if_pos hj,if_pos hj];exact⟨_,rfl⟩
 ·rw[if_neg hj,if_neg hj];exact⟨_,rfl⟩
end
structure ObjM (h:Heap)(x dx C:Addr)(mA:Str->Option Value):Prop where
 obj:h.get? x=some (PySem.W.instObj C dx)
 ns:h.Ns1 dx mA
 ne:dx≠x
theorem lookIn_ns {h:Heap}{dx:Addr}{mA:Str->Option Value}(n:h.Ns1 dx mA):∃ od,h.get? dx=some od/\∀ name,PySem.W.lookIn name od=some (mA name):=by
 obtain⟨o,es,ep,ho,hd,hk,_,hm⟩:=n
 refine⟨o,ho,fun name=>?_⟩
 have e:=hm name
 unfold nsFind findBy at e
 rw[<- Array.find?_toList]at e
 unfold PySem.W.lookIn
 rw[hd]
 dsimp only
 split
 ·rename_i y q
  rw[q]at e
  exact congrArg some e
 ·rename_i q
  rw[q]at e
  have a:es.toList.any (·.refKey)=false:=by
   rw[List.any_eq_false]
   intro y hy
   obtain⟨z,t,hkey⟩:=hk y (Array.mem_toList_iff.mp hy)
   simp[DictEntry.refKey,hkey]
  have a':¬ es.toList.any (·.refKey)=true:=by rw[a];exact Bool.false_ne_true
  rw[if_neg a']
  exact congrArg some e
theorem ObjM.look {h:Heap}{x dx C:Addr}{mA:Str->Option Value}(I:ObjM h x dx C mA):∃ od,PySem.W.InstAt h x (PySem.W.instObj C dx) C (some od)/\∀ name,PySem.W.lookIn name od=some (mA name) :=
 let ⟨od,ho,hl⟩:=lookIn_ns I.ns
 ⟨od,⟨I.obj,rfl,rfl,ho⟩,hl⟩
section
variable {prog:Program}{w:World}{A:Around}{E:Value->Shared->Prop}{s:Shared}{K:PySem.W.Frag}{x dx C f:Addr}{mA:Str->Option Value}{name:Str}{v:Value}
theorem get_map {expr:Bool}{Q:Value->Shared->Prop}(X:K.In s.heap)(I:ObjM s.heap x dx C mA)(hg:PySem.W.plainGet K C name=true)(hh:PySem.W.hasDictIn K C=true)
 (ha:PySem.W.findIn K (.ref C) name=some none) (hv:mA name=some v) (hv':PySem.W.handedIn v=true) (h:Q v { s with toks:=s.toks+1}) :
 wpAny (model prog w) A (getAttr (.ref x) name expr) Q E s:=by
 obtain⟨od,J,hl⟩:=I.look
 exact PySem.W.get_value X J (PySem.W.plainGet_of hg).1 (PySem.W.findObj_own hh ha rfl (by rw[hl,hv])) hv' h
theorem get_meth {pl:Sem Bool}{Q:Value×List Value->Shared->Prop}(X:K.In s.heap)(I:ObjM s.heap x dx C mA)(hg:PySem.W.plainGet K C name=true)
 (hf:PySem.W.findIn K (.ref C) name=some (some (.ref f))) (ht:PySem.W.isFn K (.ref f)=true) (hv:mA name=none) (h:Q (.ref f,[.ref x]) s) :
 wpAny (model prog w) A (getMethod (.ref x) name pl) Q E s:=by
 obtain⟨od,J,hl⟩:=I.look
 exact PySem.W.method_fn X J (PySem.W.plainGet_of hg).1 (PySem.W.plainGet_of hg).2 hf (beq_iff_eq.mp ht) (by show(PySem.W.lookIn name od).map (·.isSome)=some false;rw[hl,hv];rfl) h
theorem set_map {ns:List Str}{Q:Unit->Shared->Prop}(X:K.In s.heap)(I:ObjM s.heap x dx C mA)
 (hs:PySem.W.findIn K (.ref C) "__setattr__"=some (some (.builtin "object.__setattr__"))) (hp:PySem.W.plainOver K C=true) (ht:PySem.W.takerIn K C name=some none) (hh:PySem.W.hasDictIn K C=true)
 (hw:PySem.Within mA ns) (hsz:ns.length<=sizeLine)
 (h:∀ h',ObjM h' x dx C (fun y=>if y=name then some v else mA y)->Heap.SameBut dx s.heap h'->Q () { s with heap:=h',toks:=s.toks+2}) :
 wpAny (model prog w) A (setAttr (.ref x) name v) Q E s:=by
 obtain⟨od,J,hl⟩:=I.look
 refine PySem.W.set_plain X J hs (PySem.W.osa_open (s:={ s with toks:=s.toks+1}) (r:=none) X J hp ht fun b=>?_)
 obtain⟨cd,hc,hd'⟩:=PySem.W.any_some hh
 have hx:s.heap.get? x=some ⟨.ref C,some dx,.plain,#[]⟩:=I.obj
 refine gxM (wpAny_pure (gxM (gxM (wpAny_loadPart hx (gxM (PySem.W.Looks.here (s:={ s with toks:=s.toks+1}) (PySem.W.looks_clsIn X hc) ?_))))))
 rw[hd']
 refine wpAny_pure (a:=some dx) (gxM (wpAny_pure (gxM ?_)))
 refine wpAny_nsSet1 (s:={ s with toks:=s.toks+1}) I.ns fun h' hn2 hs2=>?_
 obtain⟨oD,esD,epD,hoD,hdD,hcD⟩:=hn2.count (PySem.Within.cons name v hw)
 refine gxM (wpAny_lookBehind hoD (by rw[hdD];exact pastItsLine_dict (Nat.le_trans hcD (by rw[List.length_cons];omega))) ?_)
 exact wpAny_pure (h _ ⟨(hs2.2 _ (Ne.symm I.ne)).trans I.obj,hn2,I.ne⟩ hs2)
theorem make_map {R:Result->Shared->Prop}{vs:List Value}{kw:List (Str×Value)}(X:K.In s.heap)(hm:PySem.W.makesIn K C=true)
 (hi:PySem.W.findIn K (.ref C) "__init__"=some (some (.ref f))) (hf:PySem.W.typeIn K (.ref f)=some (.type "function"))
 (h:codeAny (model prog w) (A.under (.builtin "type.__call__" ⟨.ref C::vs,kw⟩)) (.call (.ref f) ⟨.ref (s.heap.objs.size+1)::vs,kw⟩) (PySem.W.InitBack (s.heap.objs.size+1) R)
   { s with heap:=(s.heap.push PySem.W.emptyDict).push (PySem.W.instObj C s.heap.objs.size)}) :
 codeAny (model prog w) A (.call (.ref C) ⟨vs,kw⟩) R s:=by
 obtain⟨hh,g,d,t,os⟩:=s
 exact PySem.W.make_core (PySem.W.makes_of X hm) (PySem.W.looks_findIn X hi) (fun self=>PySem.W.bind_fn X self hf) (.inl rfl) h
end
def putF (f:Str)(v:V):List (Str×V)->List (Str×V)
 | []=>[(f,v)]
 | (g,x)::r=>if g=f then(g,v)::r else(g,x)::putF f v r
theorem lookup_putF (f g:Str)(v:V):∀ fs:List (Str×V),(putF f v fs).lookup g=if g=f then some v else fs.lookup g
 | []=>by
  show List.lookup g [(f,v)]=_
  by_cases h:g=f
  ·have hb:(g==f)=true:=beq_iff_eq.mpr h
   simp only[List.lookup,hb,if_pos h]
  ·have hb:(g==f)=false:=beq_eq_false_iff_ne.mpr h
   simp only[List.lookup,hb,if_neg h]
 | (k,x)::r=>by
  have ih:=lookup_putF f g v r
  rw[show putF f v ((k,x)::r)=(if k=f then(k,v)::r else(k,x)::putF f v r)from rfl]
  by_cases hk:k=f
  ·rw[if_pos hk]
   by_cases h:g=k
   ·have hb:(g==k)=true:=beq_iff_eq.mpr h
    simp only[List.lookup,hb,if_pos (h.trans hk)]
   ·have hb:(g==k)=false:=beq_eq_false_iff_ne.mpr h
    simp only[List.lookup,hb,if_neg (fun e:g=f=>h (e.trans hk.symm))]
  ·rw[if_neg hk]
   by_cases h:g=k
   ·have hb:(g==k)=true:=beq_iff_eq.mpr h
    simp only[List.lookup,hb,if_neg (fun e:g=f=>hk (h.symm.trans e))]
   ·have hb:(g==k)=false:=beq_eq_false_iff_ne.mpr h
    simp only[List.lookup,hb]
    exact ih
theorem keys_putF (f:Str)(v:V):∀ fs:List (Str×V),f∈(putF f v fs).map (·.1)/\∀ g,g∈fs.map (·.1)->g∈(putF f v fs).map (·.1)
 | []=>⟨by simp[putF],fun g h=>by simp at h⟩
 | (k,x)::r=>by
  obtain⟨i1,i2⟩:=keys_putF f v r
  rw[show putF f v ((k,x)::r)=(if k=f then(k,v)::r else(k,x)::putF f v r)from rfl]
  by_cases hk:k=f
  ·rw[if_pos hk]
   subst hk
   exact⟨by simp,fun g h=>by simpa using h⟩
  ·rw[if_neg hk]
   refine⟨?_,fun g h=>?_⟩
   ·rw[List.map_cons]
    exact gxI _ i1
   ·rw[List.map_cons]at h ⊢
    rcases List.mem_cons.mp h with e | e
    ·exact List.mem_cons.mpr (.inl e)
    ·exact gxI _ (i2 g e)
theorem length_putF (f:Str)(v:V):∀ fs:List (Str×V),(putF f v fs).length<=fs.length+1
 | []=>by simp[putF]
 | (k,x)::r=>by
  have ih:=length_putF f v r
  rw[show putF f v ((k,x)::r)=(if k=f then(k,v)::r else(k,x)::putF f v r)from rfl]
  by_cases hk:k=f
  ·rw[if_pos hk,List.length_cons,List.length_cons];omega
  ·rw[if_neg hk,List.length_cons,List.length_cons];omega
theorem RelO.some_of {v:V}{o:Option Value}(r:RelO (some v) o):∃ u,o=some u/\RelV v u:=by
 cases o with
 | none=>exact(show False from r).elim
 | some u=>exact⟨u,rfl,r⟩
theorem RelO.none_of {o:Option Value}(r:RelO none o):o=none:=by
 cases o with
 | none=>rfl
 | some u=>exact(show False from r).elim
theorem handed_of {v:V}{u:Value}(r:RelV v u):PySem.W.handedIn u=true:=by
 cases v with
 | non=>cases(show u=Value.none from r);rfl
 | bl b=>cases(show u=Value.bool b from r);rfl
 | int i=>obtain⟨t,e⟩:=(show ∃ t,u=Value.int i t from r);cases e;rfl
 | str x=>obtain⟨t,e⟩:=(show ∃ t,u=Value.str x t from r);cases e;rfl
 | byt b=>obtain⟨t,e⟩:=(show ∃ t,u=Value.bytes b t from r);cases e;rfl
 | flt b=>obtain⟨t,e⟩:=(show ∃ t,u=Value.float b t from r);cases e;rfl
 | ref a=>cases(show u=Value.ref a from r);rfl
 | ty n=>cases(show u=Value.type n from r);rfl
section
variable {P:Program}{w:World}{H H':Hp}{h h':Heap}{a C dx:Addr}{fs fs':List (Str×V)}
theorem ins_get (hok:HOk P w H h)(e:H a=some (.ins C dx fs)):∃ mA,ObjM h a dx C mA/\(∀ f,RelO (fs.lookup f) (mA f))/\PySem.Within mA (fs.map (·.1))/\fs.length<=1000/\H dx=some (.own a):=by
 obtain⟨d,z,ne,ob,mA,n,r,q⟩:=(show ObjOk P w H h a (.ins C dx fs)from hok a _ e)
 exact⟨mA,⟨ob,n,ne⟩,r,q,z,d⟩
end
structure Cls (K:PySem.W.Frag)(C:Addr):Prop where
 pg:PySem.W.plainGet K C Str.empty=true
 hd:PySem.W.hasDictIn K C=true
 po:PySem.W.plainOver K C=true
 sa:PySem.W.findIn K (.ref C) "__setattr__"=some (some (.builtin "object.__setattr__"))
theorem Cls.get {K:PySem.W.Frag}{C:Addr}(c:Cls K C)(f:Str):PySem.W.plainGet K C f=true:=c.pg
def NoAttr (K:PySem.W.Frag)(C:Addr)(f:Str):Prop:=PySem.W.findIn K (.ref C) f=some none
theorem NoAttr.taker {K:PySem.W.Frag}{C:Addr}{f:Str}(n:NoAttr K C f):PySem.W.takerIn K C f=some none:=by
 unfold PySem.W.takerIn
 rw[show PySem.W.findIn K (.ref C) f=some none from n]
 rfl
structure Meth (K:PySem.W.Frag)(C:Addr)(m:Str)(f:Addr):Prop where
 at_:PySem.W.findIn K (.ref C) m=some (some (.ref f))
 fn:PySem.W.isFn K (.ref f)=true
 kp:PySem.W.keepIn K (.ref f)=true
section
variable {X:Cx}{pins:List (Addr×Obj)}{σ:St}{H:Hp}{s:Shared}{a C dx:Addr}{fs:List (Str×V)}{f:Str}{v:V}{A:Around}{E:Value->Shared->Prop}
theorem getattr_ok {b:Bool}{Q:Value->Shared->Prop}(I:Inv X pins σ H s)(e:H a=some (.ins C dx fs))(c:Cls X.K C)(n:NoAttr X.K C f)(l:fs.lookup f=some v)
 (h:∀ u s',Inv X pins σ H s'->RelV v u->Q u s'):wpAny (model X.prog X.w) A (getAttr (.ref a) f b) Q E s:=by
 obtain⟨mA,O,r,_,_,_⟩:=ins_get I.hok e
 obtain⟨u,hu,ru⟩:=RelO.some_of (v:=v) (o:=mA f) (by rw[<- l];exact r f)
 exact get_map I.kIn O (c.get f) c.hd n hu (handed_of ru) (h u _ (I.tok _) ru)
theorem getmeth_ok {m:Str}{g:Addr}{pl:Sem Bool}{Q:Value×List Value->Shared->Prop}(I:Inv X pins σ H s)(e:H a=some (.ins C dx fs))(c:Cls X.K C)(k:Meth X.K C m g)(l:fs.lookup m=none)
 (h:Q (.ref g,[.ref a]) s):wpAny (model X.prog X.w) A (getMethod (.ref a) m pl) Q E s:=by
 obtain⟨mA,O,r,_,_,_⟩:=ins_get I.hok e
 have hn:mA m=none:=RelO.none_of (by rw[<- l];exact r m)
 exact get_meth I.kIn O (c.get m) k.at_ k.fn hn h
theorem setattr_ok {y:V}{u:Value}{Q:Unit->Shared->Prop}(I:Inv X pins σ H s)(e:H a=some (.ins C dx fs))(c:Cls X.K C)(n:NoAttr X.K C f)(hl:fs.length<1000)(ry:RelV y u)
 (h:∀ s',Inv X pins σ (upd H a (.ins C dx (putF f y fs))) s'->Q () s'):wpAny (model X.prog X.w) A (setAttr (.ref a) f u) Q E s:=by
 obtain⟨mA,O,r,wi,_,ho⟩:=ins_get I.hok e
 have hz:(fs.map (·.1)).length<=sizeLine:=by rw[gxC,sizeLine_eq];omega
 refine set_map I.kIn O c.sa c.po n.taker c.hd wi hz fun h' O' sb=>h _ ?_
 have hd:∃ o,h'.get? dx=some o:=let ⟨o,_,_,e',_⟩:=O'.ns;⟨o,e'⟩
 refine I.write (x:=a) (e:=dx) (by rw[e];exact True.intro) (.inr ho) (fun b q hb z=>(sb.2 b hb).trans z) hd ?_
 refine⟨by rw[upd_ne O.ne];exact ho,?_,O.ne,O'.obj,_,O'.ns,fun g=>?_,fun g hg=>?_⟩
 ·have:=length_putF f y fs;omega
 ·show RelO ((putF f y fs).lookup g) (if g=f then some u else mA g)
  rw[lookup_putF]
  by_cases q:g=f
  ·rw[if_pos q,if_pos q];exact ry
  ·rw[if_neg q,if_neg q];exact r g
 ·by_cases q:g=f
  ·rw[q];exact(keys_putF f y fs).1
  ·refine(keys_putF f y fs).2 g (wi g fun z=>hg ?_)
   show(if g=f then some u else mA g)=none
   rw[if_neg q];exact z
theorem Inv.made (I:Inv X pins σ H s):Inv X pins σ (upd (upd H s.heap.objs.size (.own (s.heap.objs.size+1))) (s.heap.objs.size+1) (.ins C s.heap.objs.size []))
 { s with heap:=(s.heap.push PySem.W.emptyDict).push (PySem.W.instObj C s.heap.objs.size)}:=by
 have e1:(s.heap.push PySem.W.emptyDict).get? s.heap.objs.size=some PySem.W.emptyDict:=Heap.get?_push_size s.heap rfl
 have e2:((s.heap.push PySem.W.emptyDict).push (PySem.W.instObj C s.heap.objs.size)).get? (s.heap.objs.size+1)=some (PySem.W.instObj C s.heap.objs.size):=by
  have:=Heap.get?_push_size (s.heap.push PySem.W.emptyDict) (o:=PySem.W.instObj C s.heap.objs.size) rfl
  rwa [Heap.size_push]at this
 have e3:(s.heap.push PySem.W.emptyDict).Ns s.heap.objs.size (fun _=>none):=⟨PySem.W.emptyDict,#[],_,e1,rfl,(fun e he=>absurd he (by simp)),fun _=>rfl⟩
 have I1:=I.laid (a:=s.heap.objs.size) (o:=.own (s.heap.objs.size+1)) (h':=s.heap.push PySem.W.emptyDict) (t':=s.toks) (fun b u q=>gxL _ q) (Nat.le_refl _) ⟨_,e1⟩
 refine I1.laid (a:=s.heap.objs.size+1) (o:=.ins C s.heap.objs.size []) (t':=s.toks) (fun b u q=>gxL _ q) (Nat.le_of_eq (Heap.size_push _ _)) ?_
 have ne:s.heap.objs.size≠s.heap.objs.size+1:=Nat.ne_of_lt (Nat.lt_succ_self _)
 refine⟨by rw[upd_ne ne,upd_same],Nat.zero_le _,ne,e2,fun _=>none,(Heap.Ns1.of_empty e3).at fun o q=>gxL _ q,fun _=>True.intro,fun y hy=>absurd rfl hy⟩
theorem attr_of {prog:Program}{w:World}{env:Env}{e:Expr}{f:Str}{pos:Pos}{s:Shared}{Q:Value->Shared->Prop}(hb:attributeBase e f env (eval e env)=eval e env)
 (h:wpAny (model prog w) A (eval e env) (fun o s₁=>wpAny (model prog w) A (getAttr o f true) Q E s₁) E s):wpAny (model prog w) A (eval (.Attribute e f pos) env) Q E s :=
 Attribute_any_ h (by rw[arm_eval_Attribute,hb])
end
def tFld (K:PySem.W.Frag)(ta:TE)(f:Str):TE:=fun σ H Q=>ta σ H fun x H1=>∃ a C dx fs v,x=.ref a/\H1 a=some (.ins C dx fs)/\Cls K C/\NoAttr K C f/\fs.lookup f=some v/\Q v H1
def sFld (K:PySem.W.Frag)(ta tv:TE)(f:Str):TS:=fun D σ H=>tv σ H fun y H1=>ta σ H1 fun x H2=>∃ a C dx fs,x=.ref a/\H2 a=some (.ins C dx fs)/\Cls K C/\NoAttr K C f/\fs.length<1000 /\
 D.nx σ (upd H2 a (.ins C dx (putF f y fs)))
def InOp (X:Cx)(op:Operator)(rd:V->V->Hp->VK->Prop):Prop :=
 ∀(pins:List (Addr×Obj)) (s:Shared) (σ:St) (H:Hp) (x y:V) (u v:Value) (Q:VK),Inv X pins σ H s->RelV x u->RelV y v->rd x y H Q->wpAny (model X.prog X.w) X.A (inplaceOp op u v) (EP X pins σ Q) X.xe s
def sFldAug (K:PySem.W.Frag)(ta tv:TE)(rd:V->V->Hp->VK->Prop)(f:Str):TS:=fun D σ H=>ta σ H fun x H1=>∃ a C dx fs v,x=.ref a/\H1 a=some (.ins C dx fs)/\Cls K C/\NoAttr K C f/\fs.lookup f=some v /\
 tv σ H1 fun y H2=>rd v y H2 fun z H3=>∃ dx' fs',H3 a=some (.ins C dx' fs')/\fs'.length<1000/\D.nx σ (upd H3 a (.ins C dx' (putF f z fs')))
section
variable {X:Cx}{o e value:Expr}{f:Str}{pos pos' tpos:Pos}{ta tv:TE}
theorem pe_fld (he:PE X e ta)(hb:attributeBase e f X.env (eval e X.env)=eval e X.env):PE X (.Attribute e f pos) (tFld X.K ta f):=by
 intro pins s σ H Q I h
 refine attr_of hb (thn (he pins s σ H _ I h) fun u s1 hq5=>?_)
 obtain⟨x,H1,I1,rx,a,C,dx,fs,v,ex,ea,c,n,l,q⟩:=hq5
 subst ex
 obtain rfl:u=Value.ref a:=rx
 exact getattr_ok I1 ea c n l fun u' s2 I2 ru=>⟨v,H1,I2,ru,q⟩
theorem ps_fld (ha:PE X o ta)(hv:PE X value tv)(hs:swapsWith value (some (.Attribute o f pos')) pos.line X.env=pure false):PS X (.Assign [.Attribute o f pos'] value pos) (sFld X.K ta tv f):=by
 intro pins s σ H D I h
 refine plainObj_wpAny_Assign_Attribute (thn (hv pins s σ H _ I h) fun u s1 hq6=>?_) hs
 obtain⟨y,H1,I1,ry,q⟩:=hq6
 refine thn (ha pins s1 σ H1 _ I1 q) fun ov s2 hq0=>?_
 obtain⟨x,H2,I2,rx,a,C,dx,fs,ex,ea,c,n,l,q2⟩:=hq0
 subst ex
 obtain rfl:ov=Value.ref a:=rx
 exact setattr_ok I2 ea c n l ry fun s3 I3=>⟨σ,_,I3,q2⟩
theorem ps_fldaug {op:Operator}{rd:V->V->Hp->VK->Prop}(ha:PE X o ta)(hv:PE X value tv)(hop:InOp X op rd):PS X (.AugAssign (.Attribute o f tpos) op value pos) (sFldAug X.K ta tv rd f):=by
 intro pins s σ H D I h
 refine wpAny_AugAssign_AttributeAny (thn (ha pins s σ H _ I h) fun ov s1 hq1=>?_)
 obtain⟨x,H1,I1,rx,a,C,dx,fs,v,ex,ea,c,n,l,q⟩:=hq1
 subst ex
 obtain rfl:ov=Value.ref a:=rx
 refine getattr_ok I1 ea c n l fun u s2 I2 ru=>thn (hv pins s2 σ H1 _ I2 q) fun w3 s3 hq2=>?_
 obtain⟨y,H2,I3,ry,q3⟩:=hq2
 refine thn (hop pins s3 σ H2 v y u w3 _ I3 ru ry q3) fun w4 s4 hq3=>?_
 obtain⟨z,H3,I4,rz,dx',fs',ea',l',q4⟩:=hq3
 exact setattr_ok I4 ea' c n l' rz fun s5 I5=>⟨σ,_,I5,q4⟩
def rAdd:V->V->Hp->VK->Prop:=fun x y H Q=>∃ i j,x=.int i/\y=.int j/\Q (.int (i+j)) H
def rSub:V->V->Hp->VK->Prop:=fun x y H Q=>∃ i j,x=.int i/\y=.int j/\Q (.int (i - j)) H
theorem in_add:InOp X .Add rAdd:=by
 rintro pins s σ H x y u v Q I rx ry ⟨i,j,rfl,rfl,q⟩
 obtain⟨t,rfl⟩:=(show ∃ t,u=Value.int i t from rx)
 obtain⟨t',rfl⟩:=(show ∃ t',v=Value.int j t' from ry)
 exact PyProof.Rows.iadd_int ⟨.int (i+j),H,I.tok _,⟨_,rfl⟩,q⟩
theorem in_sub:InOp X .Sub rSub:=by
 rintro pins s σ H x y u v Q I rx ry ⟨i,j,rfl,rfl,q⟩
 obtain⟨t,rfl⟩:=(show ∃ t,u=Value.int i t from rx)
 obtain⟨t',rfl⟩:=(show ∃ t',v=Value.int j t' from ry)
 exact PyProof.Rows.isub_int ⟨.int (i - j),H,I.tok _,⟨_,rfl⟩,q⟩
theorem methcall_of {pl:Sem Bool}{m:Str}{apos:Pos}{args:List Expr}{pins:List (Addr×Obj)}{s:Shared}{σ:St}{H:Hp}{Q:Value->Shared->Prop}{te:TE}(he:PE X e te)(I:Inv X pins σ H s)
 (h:te σ H fun x H1=>∃ a C dx fs g,x=.ref a/\H1 a=some (.ins C dx fs)/\Cls X.K C/\Meth X.K C m g/\fs.lookup m=none /\
   ∀ s1,Inv X pins σ H1 s1->wpAny (model X.prog X.w) X.A (callWith pos (.ref g) [.ref a] (backTo pos (starEach args X.env)) (backToKw pos (keywordEach [] X.env))) Q X.xe s1)
 (ht:eval (.Call (.Attribute e m apos) args [] pos) X.env=(do
   let ov <- eval e X.env
   standAt apos.atName
   let (f,first) <- holding [ov] (getMethod ov m pl)
   callWith pos f first (backTo pos (starEach args X.env)) (backToKw pos (keywordEach [] X.env)))) :
 wpAny (model X.prog X.w) X.A (eval (.Call (.Attribute e m apos) args [] pos) X.env) Q X.xe s:=by
 refine PySem.W.methodCall_KW (pl:=pl) (thn (he pins s σ H _ I h) fun u s1 hq4=>?_) ht
 obtain⟨x,H1,I1,rx,a,C,dx,fs,g,ex,ea,c,k,l,q⟩:=hq4
 subst ex
 obtain rfl:u=Value.ref a:=rx
 exact getmeth_ok I1 ea c k l (q s1 I1)
end
section
variable {X:Cx}{pins:List (Addr×Obj)}{σ:St}{H:Hp}{s:Shared}{A:Around}{E:Value->Shared->Prop}{Q:Value->Shared->Prop}{c:Value}{b:Bool}
inductive TyOf (K:PySem.W.Frag)(H:Hp):V->Value->Prop where
 | non:TyOf K H .non (.type "NoneType")
 | bl (x:Bool):TyOf K H (.bl x) (.type "bool")
 | int (i:Int):TyOf K H (.int i) (.type "int")
 | str (x:Str):TyOf K H (.str x) (.type "str")
 | flt (x:UInt64):TyOf K H (.flt x) (.type "float")
 | lst {a:Addr} {xs:List V} (e:H a=some (.lst xs)):TyOf K H (.ref a) (.type "list")
 | frz {a:Addr} {o:Obj} {xs:List V} (e:H a=some (.frz o (.lst xs))):TyOf K H (.ref a) (.type "list")
 | tup {a:Addr} {xs:List V} (e:H a=some (.tup xs)):TyOf K H (.ref a) (.type "tuple")
 | dK {a:Addr} {kvs:List (Key×V)} (e:H a=some (.dK kvs)):TyOf K H (.ref a) (.type "dict")
 | dT {a:Addr} {kvs:List (List Key×V)} (e:H a=some (.dT kvs)):TyOf K H (.ref a) (.type "dict")
 | ins {a C dx:Addr} {fs:List (Str×V)} (e:H a=some (.ins C dx fs)) (cl:Cls K C) (ha:PySem.W.findIn K (.ref C) "__class__"=some (some (.builtin "object.__class__")))
  (hn:PySem.W.specialIn K (.builtin "object.__class__") "__get__"=some (some (.builtin "getset_descriptor.__get__"))) (htk:PySem.W.takesIn K (.builtin "object.__class__")=some true)
  (hm:PySem.W.mroIn K C (.type "object")=some true):TyOf K H (.ref a) (.ref C)
theorem isinst_ok {x:V}{u t:Value}(I:Inv X pins σ H s)(rx:RelV x u)(ty:TyOf X.K H x t)(e:PySem.W.kitOne X.K t c=some b)(h:∀ tk,Q (.bool b) { s with toks:=tk}) :
 wpAny (model X.prog X.w) A (call (.builtin "isinstance") [u,c]) Q E s:=by
 cases ty with
 | non=>cases(show u=Value.none from rx);exact PySem.W.kia_one PySem.W.kitx_none I.kIn True.intro e (fun z=>nomatch z) h
 | bl y=>cases(show u=Value.bool y from rx);exact PySem.W.kia_one PySem.W.kitx_bool I.kIn True.intro e (fun z=>nomatch z) h
 | int i=>obtain⟨t,q⟩:=(show ∃ t,u=Value.int i t from rx);cases q;exact PySem.W.kia_one PySem.W.kitx_int I.kIn True.intro e (fun z=>nomatch z) h
 | str y=>obtain⟨t,q⟩:=(show ∃ t,u=Value.str y t from rx);cases q;exact PySem.W.kia_one PySem.W.kitx_str I.kIn True.intro e (fun z=>nomatch z) h
 | flt y=>obtain⟨t,q⟩:=(show ∃ t,u=Value.float y t from rx);cases q;exact PySem.W.kia_one PySem.W.kitx_float I.kIn True.intro e (fun z=>nomatch z) h
 | @lst a xs ea =>
  cases(show u=Value.ref a from rx)
  obtain⟨_,_,n,_,h1⟩:=(show ObjOk X.prog X.w H s.heap a (.lst xs)from I.hok a _ ea)
  exact PySem.W.kia_one PySem.W.kitx_list I.kIn ⟨_,h1,rfl⟩ e (fun z=>nomatch z) h
 | @frz a ob xs ea =>
  cases(show u=Value.ref a from rx)
  obtain⟨_,_,_,n,_,h1⟩:=(show ObjOk X.prog X.w H s.heap a (.frz ob (.lst xs))from I.hok a _ ea)
  exact PySem.W.kia_one PySem.W.kitx_list I.kIn ⟨_,h1,rfl⟩ e (fun z=>nomatch z) h
 | @tup a xs ea =>
  cases(show u=Value.ref a from rx)
  obtain⟨_,_,_,p⟩:=(show ObjOk X.prog X.w H s.heap a (.tup xs)from I.hok a _ ea)
  obtain⟨o,h1,h2,_⟩:=p
  exact PySem.W.kia_one PySem.W.kitx_tuple I.kIn ⟨o,h1,h2⟩ e (fun z=>nomatch z) h
 | @dK a kvs ea =>
  cases(show u=Value.ref a from rx)
  obtain⟨_,_,vs,_,p⟩:=(show ObjOk X.prog X.w H s.heap a (.dK kvs)from I.hok a _ ea)
  obtain⟨o,es,ep,h1,h2,_⟩:=p
  exact PySem.W.kia_one PySem.W.kitx_dict I.kIn ⟨o,h1,h2.1⟩ e (fun z=>nomatch z) h
 | @dT a kvs ea =>
  cases(show u=Value.ref a from rx)
  obtain⟨_,_,xs,_,o,es,ep,h1,h2,_⟩:=(show ObjOk X.prog X.w H s.heap a (.dT kvs)from I.hok a _ ea)
  exact PySem.W.kia_one PySem.W.kitx_dict I.kIn ⟨o,h1,h2.1⟩ e (fun z=>nomatch z) h
 | @ins a C dx fs ea cl ha hn htk hm =>
  cases(show u=Value.ref a from rx)
  obtain⟨mA,O,_⟩:=ins_get I.hok ea
  obtain⟨od,J,_⟩:=O.look
  exact PySem.W.kia_one (PySem.W.kitx_own (cl.get _) cl.hd ha hn htk hm) I.kIn J e (fun z=>nomatch z) h
end
structure Room (k:Nat)(A:Around):Prop where
 hd:A.handled=none
 dp:A.depth+3*k+5<recursionLimit
 un:A.units+16*k+200<cLine
theorem Room.mono {j k:Nat}{A:Around}(r:Room k A)(h:j<=k):Room j A:=⟨r.hd,by have:=r.dp;omega,by have:=r.un;omega⟩
theorem Room.deeper {k:Nat}{A:Around}(r:Room (k+1) A)(env:Env):Room k (A.deeper env) :=
 ⟨r.hd,by have:=r.dp;show A.depth+1+3*k+5<_;omega,by have:=r.un;show A.units+3+16*k+200<_;omega⟩
theorem make_depth {A:Around}{C:Addr}{us:List Value}{kw:List (Str×Value)}:(A.under (.builtin "type.__call__" ⟨.ref C::us,kw⟩)).depth=A.depth+1:=by
 first | rfl | simp[Around.under,Code.weight,Code.isCreation,Code.isGuard,Code.isCaller,Code.frames,Code.isFrame,guardIds]
theorem make_units {A:Around}{C:Addr}{us:List Value}{kw:List (Str×Value)}:(A.under (.builtin "type.__call__" ⟨.ref C::us,kw⟩)).units=A.units+1:=by
 first | rfl | simp[Around.under,Code.cUnits,Code.frames,Code.isFrame]
theorem Room.make {k:Nat}{A:Around}(r:Room (k+1) A)(C:Addr)(us:List Value)(kw:List (Str×Value)):Room k (A.under (.builtin "type.__call__" ⟨.ref C::us,kw⟩)) :=
 ⟨r.hd,by have:=r.dp;rw[make_depth];omega,by have:=r.un;rw[make_units];omega⟩
theorem Room.depth {k:Nat}{A:Around}(r:Room k A):A.depth<recursionLimit:=by have:=r.dp;omega
theorem Room.units {k:Nat}{A:Around}(r:Room k A):A.units+64<cLine:=by have:=r.un;omega
def tNil:TA:=fun _ H Q=>Q [] H
def tCons (ta:TE)(tr:TA):TA:=fun σ H Q=>ta σ H fun x H1=>tr σ H1 fun xs H2=>Q (x::xs) H2
section
variable {X:Cx}{e:Expr}{es:List Expr}{te:TE}{t:TA}{pos:Pos}
theorem pa_nil:PA X [] tNil:=fun _ _ _ _ H Q I h=>Calls.spliced_nil ⟨[],H,I,.nil,h⟩
theorem pa_cons (ha:PE X e te)(hr:PA X es t)(hs:starEach (e::es) X.env=(false,eval e X.env)::starEach es X.env:=by rfl):PA X (e::es) (tCons te t):=by
 intro pos pins s σ H Q I h
 rw[hs]
 show wpAny _ _ (spliced ((false,eval e X.env)::backTo pos (starEach es X.env))) _ _ s
 refine Calls.spliced_cons (thn (ha pins s σ H _ I h) fun u s1 hq5=>?_)
 obtain⟨x,H1,I1,r1,q1⟩:=hq5
 exact thn (hr pos pins s1 σ H1 _ I1 q1) fun us s2 hq6=>by obtain⟨xs,H2,I2,r2,q2⟩:=hq6;exact⟨x::xs,H2,I2,.cons r1 r2,q2⟩
def tTup (t:TA):TE:=fun σ H Q=>t σ H fun xs H1=>xs.length<=sizeLine/\∀ p,H1 p=none->Q (.ref p) (upd H1 p (.tup xs))
def tLst (t:TA):TE:=fun σ H Q=>t σ H fun xs H1=>xs.length<=sizeLine/\∀ p,H1 p=none->Q (.ref p) (upd H1 p (.lst xs))
theorem pe_tup {x1}(h:PA X es t):PE X (.Tuple es x1 pos) (tTup t):=by
 intro pins s σ H Q I hq
 refine wpAny_Tuple_spliced (thn (h pos pins s σ H _ I hq) fun us s1 ⟨xs,H1,I1,r,z,q⟩=>⟨by rw[<- r.length];exact z,?_⟩)
 have hf:H1 s1.heap.objs.size=none:=I1.hok.fresh (Nat.le_refl _)
 refine⟨.ref s1.heap.objs.size,upd H1 s1.heap.objs.size (.tup xs),I1.laid (t':=s1.toks) (fun b u e=>gxL _ e) (Nat.le_refl _) ?_,rfl,q _ hf⟩
 exact⟨z,us,r,⟨_,Heap.get?_push_size _ rfl,rfl,_,rfl⟩⟩
theorem pe_lst (h:PA X es t):PE X (.List es pos) (tLst t):=by
 intro pins s σ H Q I hq
 refine wpAny_List_spliced (thn (h pos pins s σ H _ I hq) fun us s1 ⟨xs,H1,I1,r,z,q⟩=>⟨by rw[<- r.length];exact z,?_⟩)
 have hf:H1 s1.heap.objs.size=none:=I1.hok.fresh (Nat.le_refl _)
 refine⟨.ref s1.heap.objs.size,upd H1 s1.heap.objs.size (.lst xs),I1.laid (t':=s1.toks) (fun b u e=>gxL _ e) (Nat.le_refl _) ?_,rfl,q _ hf⟩
 exact⟨z,us,0,r,Heap.get?_push_size _ rfl⟩
end
abbrev Sp:=List V->Hp->VK->XK->Prop
abbrev CXT:=List Env->Hp->Shared->XK->Value->Shared->Prop
structure Env0 (P:Program)(w:World)(K:PySem.W.Frag)(mg:Str->Option Value)(base:Heap)(A:Around)(outer:List Env)(s:Shared)(H:Hp):Prop where
 frames:A.frames=some outer
 mod:Mod K mg base
 bs:∀ b o,base.get? b=some o->s.heap.get? b=some o/\H b=none
 bsz:base.objs.size<=s.heap.objs.size
 funs:s.heap.FunFrames base outer
 frf:∀ b∈frs outer,H b=none
 hok:HOk P w H s.heap
 bare:AllBare s.gens
def CE (outer:List Env)(P:Program)(w:World)(H:Hp)(s:Shared)(Q:VK)(u:Value)(s':Shared):Prop :=
 ∃ v H',s'.os=s.os/\AllBare s'.gens/\Un (frs outer) [] H H' s.heap s'.heap/\HOk P w H' s'.heap/\RelV v u/\Q v H'
def CR (CX:CXT)(outer:List Env)(P:Program)(w:World)(H:Hp)(s:Shared)(Q:VK)(E:XK)(r:Result)(s':Shared):Prop :=
 match r with
 | .ok (.ret u)=>CE outer P w H s Q u s'
 | .ok _=>False
 | .error e=>CX outer H s E e s'
structure FnOk (P:Program)(w:World)(K:PySem.W.Frag)(mg:Str->Option Value)(base:Heap)(CX:CXT)(k:Nat)(f:Addr)(fd:FuncData)(ps:List Str)(sp:Sp):Prop where
 len:∀ vs H Q E,sp vs H Q E->vs.length=ps.length
 run:∀(A:Around) (outer:List Env) (s:Shared) (H:Hp) (args:Args) (us:List Value) (vs:List V) (Q:VK) (E:XK),Room k A->Env0 P w K mg base A outer s H->BindsTo s fd args (ps.zip us)->Vals vs us->sp vs H Q E ->
  codeAny (model P w) A (.call (.ref f) args) (CR CX outer P w H s Q E) s
theorem FnOk.mono {P:Program}{w:World}{K:PySem.W.Frag}{mg:Str->Option Value}{base:Heap}{CX:CXT}{j k:Nat}{f:Addr}{fd:FuncData}{ps:List Str}{sp:Sp}(F:FnOk P w K mg base CX j f fd ps sp)(h:j<=k) :
 FnOk P w K mg base CX k f fd ps sp:=⟨F.len,fun A outer s H args us vs Q E hr=>F.run A outer s H args us vs Q E (hr.mono h)⟩
theorem FnOk.imp {P:Program}{w:World}{K:PySem.W.Frag}{mg:Str->Option Value}{base:Heap}{CX:CXT}{k:Nat}{f:Addr}{fd:FuncData}{ps:List Str}{sp sp':Sp}(F:FnOk P w K mg base CX k f fd ps sp)
 (h:∀ vs H Q E,sp' vs H Q E->sp vs H Q E):FnOk P w K mg base CX k f fd ps sp' :=
 ⟨fun vs H Q E q=>F.len vs H Q E (h _ _ _ _ q),fun A outer s H args us vs Q E hr he hb hv hs=>F.run A outer s H args us vs Q E hr he hb hv (h _ _ _ _ hs)⟩
theorem Env0.make {P:Program}{w:World}{K:PySem.W.Frag}{mg:Str->Option Value}{base:Heap}{A:Around}{outer:List Env}{s:Shared}{H:Hp}(e:Env0 P w K mg base A outer s H)(C:Addr)(us:List Value)(kw:List (Str×Value)) :
 Env0 P w K mg base (A.under (.builtin "type.__call__" ⟨.ref C::us,kw⟩)) outer s H:=⟨by first | exact e.frames | (simpa [Around.under,Code.envs,Code.isFrame,pushEnvs]using e.frames),e.mod,e.bs,e.bsz,e.funs,e.frf,e.hok,e.bare⟩
section
variable {X:Cx}{pins:List (Addr×Obj)}{σ:St}{H:Hp}{s s':Shared}
theorem Inv.env0 (I:Inv X pins σ H s):Env0 X.prog X.w X.K X.mg X.base X.A X.stack s H :=
 ⟨I.ok.frames,I.ok.mod,I.bs,Nat.le_trans I.ok.bsz I.sz,I.stack,I.stkFree,I.hok,I.bare⟩
theorem Inv.after {Q:VK}{u:Value}(I:Inv X pins σ H s)(h:CE X.stack X.prog X.w H s Q u s'):EP X pins σ Q u s':=by
 obtain⟨v,H',os,bare,un,hok,r,q⟩:=h
 obtain⟨hh,g,d,t,os'⟩:=s'
 obtain rfl:os'=s.os:=os
 exact⟨v,H',I.call (h':=hh) (g':=g) (d':=d) (t':=t) (ch:=[]) un hok bare (fun b z=>absurd z (by simp)),r,q⟩
end
def tCall (sp:Sp)(dvs:List V)(E:XK)(t:TA):TE:=fun σ H Q=>t σ H fun vs H1=>sp (vs++dvs) H1 Q E
def tMeth (C:Addr)(m:Str)(sp:Sp)(dvs:List V)(E:XK)(ta:TE)(t:TA):TE:=fun σ H Q=>ta σ H fun x H1=>∃ a dx fs,x=.ref a/\H1 a=some (.ins C dx fs)/\fs.lookup m=none /\
 t σ H1 fun vs H2=>sp (x::(vs++dvs)) H2 Q E
def tMake (C:Addr)(sp:Sp)(dvs:List V)(E:XK)(t:TA):TE:=fun σ H Q=>t σ H fun vs H1=>∀ x dx,H1 x=none->H1 dx=none->dx≠x ->
 sp (.ref x::(vs++dvs)) (upd (upd H1 dx (.own x)) x (.ins C dx [])) (fun v H2=>v=.non/\Q (.ref x) H2) E
def Binds (K:PySem.W.Frag)(fd:FuncData)(ps:List Str)(ds:List Value):Prop :=
 ∀(s:Shared) (us:List Value),K.In s.heap->(us++ds).length=ps.length->BindsTo s fd ⟨us,[]⟩ (ps.zip (us++ds))
theorem Binds.all {K:PySem.W.Frag}{fd:FuncData}{ps:List Str}(h:∀ us:List Value,us.length=ps.length->bindArgs fd ⟨us,[]⟩=pure (ps.zip us)):Binds K fd ps []:=fun s us _ hl=>by
 rw[List.append_nil]at hl ⊢
 exact .of_eq (h us hl)
def Passes (CX:CXT)(X:Cx)(E:XK):Prop:=∀(pins:List (Addr×Obj)) (σ:St) (H:Hp) (s:Shared) (e:Value) (s':Shared),Inv X pins σ H s->CX X.stack H s E e s'->X.xe e s'
section
variable {X:Cx}{CX:CXT}{k:Nat}{f C:Addr}{fd:FuncData}{ps:List Str}{sp:Sp}{dvs:List V}{ds:List Value}{E:XK}{x m:Str}{p pos apos:Pos}{e o:Expr}{es:List Expr}{ta:TE}{t:TA}
theorem run_fn {pins:List (Addr×Obj)}{σ:St}{H:Hp}{s:Shared}{Q:VK}{us:List Value}{vs:List V}(F:FnOk X.prog X.w X.K X.mg X.base CX k f fd ps sp)(hr:Room k X.A)(hb:Binds X.K fd ps ds)(hd:Vals dvs ds)(hx:Passes CX X E)
 (I:Inv X pins σ H s) (r:Vals vs us) (h:sp (vs++dvs) H Q E):wpAny (model X.prog X.w) X.A (call (.ref f) us) (EP X pins σ Q) X.xe s:=by
 have r2:Vals (vs++dvs) (us++ds):=r.append hd
 have hl:(us++ds).length=ps.length:=by rw[<- r2.length];exact F.len _ _ _ _ h
 refine wpAny_call (codeAny_mono (F.run X.A X.stack s H ⟨us,[]⟩ (us++ds) (vs++dvs) Q E hr I.env0 (hb s us I.kIn hl) r2 h) fun r s' hq=>?_)
 cases r with
 | error e=>exact hx pins σ H s e s' I hq
 | ok fl =>
  cases fl with
  | ret u=>exact I.after hq
  | next=>exact False.elim hq
  | brk=>exact False.elim hq
  | cont=>exact False.elim hq
theorem pe_call (F:FnOk X.prog X.w X.K X.mg X.base CX k f fd ps sp)(hr:Room k X.A)(hg:Gl X x)(hm:X.mg x=some (.ref f))(hk:PySem.W.keepIn X.K (.ref f)=true)(hb:Binds X.K fd ps ds)(hd:Vals dvs ds)(hx:Passes CX X E)
 (ha:PA X (e::es) t) (hdb:(x==("__debug__" : Str))=false:=by decide) (he:starEach (e::es) X.env=(false,eval e X.env)::starEach es X.env:=by rfl) (hpl:(backTo pos (starEach es X.env)).any (·.1)=false:=by rfl) :
 PE X (.Call (.Name x p) (e::es) [] pos) (tCall sp dvs E t):=by
 intro pins s σ H Q I h
 refine wpAny_Call_Name_kw (ld_glob I hg hm ?_ hdb)
 refine PySem.W.callWith_K (h₀:=X.base) I.ok.mod.kin hk (thn (ha pos pins s σ H _ I h) fun us s1 hq2=>?_) he hpl
 obtain⟨vs,H1,I1,r,q⟩:=hq2
 refine⟨I1.kIn,?_⟩
 exact run_fn F hr hb hd hx I1 r q
theorem pe_meth {pl:Sem Bool}(he:PE X o ta)(c:Cls X.K C)(hm:Meth X.K C m f)(F:FnOk X.prog X.w X.K X.mg X.base CX k f fd ps sp)(hr:Room k X.A)(hb:Binds X.K fd ps ds)(hd:Vals dvs ds)(hx:Passes CX X E)(ha:PA X (e::es) t)
 (hst:starEach (e::es) X.env=(false,eval e X.env)::starEach es X.env:=by rfl) (hpl:(backTo pos (starEach es X.env)).any (·.1)=false:=by rfl)
 (ht:eval (.Call (.Attribute o m apos) (e::es) [] pos) X.env=(do
   let ov <- eval o X.env
   standAt apos.atName
   let (f,first) <- holding [ov] (getMethod ov m pl)
   callWith pos f first (backTo pos (starEach (e::es) X.env)) (backToKw pos (keywordEach [] X.env))):=by rfl) :
 PE X (.Call (.Attribute o m apos) (e::es) [] pos) (tMeth C m sp dvs E ta t):=by
 intro pins s σ H Q I h
 refine PySem.W.methodCall_KW (pl:=pl) (thn (he pins s σ H _ I h) fun u s1 hq3=>?_) ht
 obtain⟨x,H1,I1,rx,a,dx,fs,ex,ea,l,q⟩:=hq3
 subst ex
 obtain rfl:u=Value.ref a:=rx
 refine getmeth_ok I1 ea c hm l ?_
 refine PySem.W.callWith_K (first:=[.ref a]) (h₀:=X.base) I.ok.mod.kin hm.kp (thn (ha pos pins s1 σ H1 _ I1 q) fun us s2 hq4=>?_) hst hpl
 obtain⟨vs,H2,I2,r,q2⟩:=hq4
 refine⟨I2.kIn,?_⟩
 exact run_fn (us:=.ref a::us) (vs:=.ref a::vs) F hr hb hd hx I2 (.cons rfl r) q2
theorem pe_meth0 {pl:Sem Bool}(he:PE X o ta)(c:Cls X.K C)(hm:Meth X.K C m f)(F:FnOk X.prog X.w X.K X.mg X.base CX k f fd ps sp)(hr:Room k X.A)(hb:Binds X.K fd ps ds)(hd:Vals dvs ds)(hx:Passes CX X E)
 (ht:eval (.Call (.Attribute o m apos) [] [] pos) X.env=(do
   let ov <- eval o X.env
   standAt apos.atName
   let (f,first) <- holding [ov] (getMethod ov m pl)
   callWith pos f first (backTo pos (starEach [] X.env)) (backToKw pos (keywordEach [] X.env))):=by rfl) :
 PE X (.Call (.Attribute o m apos) [] [] pos) (tMeth C m sp dvs E ta tNil):=by
 intro pins s σ H Q I h
 refine PySem.W.methodCall_KW (pl:=pl) (thn (he pins s σ H _ I h) fun u s1 hq5=>?_) ht
 obtain⟨x,H1,I1,rx,a,dx,fs,ex,ea,l,q⟩:=hq5
 subst ex
 obtain rfl:u=Value.ref a:=rx
 refine getmeth_ok I1 ea c hm l ?_
 exact PySem.W.callWith_K0 (first:=[.ref a]) I1.kIn hm.kp (run_fn (us:=[.ref a]) (vs:=[.ref a]) F hr hb hd hx I1 (.cons rfl .nil) q)
structure Mk (K:PySem.W.Frag)(C f:Addr):Prop where
 makes:PySem.W.makesIn K C=true
 init:PySem.W.findIn K (.ref C) "__init__"=some (some (.ref f))
 fn:PySem.W.isFn K (.ref f)=true
 kp:PySem.W.keepIn K (.ref C)=true
theorem run_make {pins:List (Addr×Obj)}{σ:St}{H:Hp}{s:Shared}{Q:VK}{us:List Value}{vs:List V}(M:Mk X.K C f)(F:FnOk X.prog X.w X.K X.mg X.base CX k f fd ps sp)(hr:Room (k+1) X.A)(hb:Binds X.K fd ps ds)(hd:Vals dvs ds)
 (hx:Passes CX X E) (I:Inv X pins σ H s) (r:Vals vs us)
 (h:∀ x dx,H x=none->H dx=none->dx≠x->sp (.ref x::(vs++dvs)) (upd (upd H dx (.own x)) x (.ins C dx [])) (fun v H2=>v=.non/\Q (.ref x) H2) E) :
 wpAny (model X.prog X.w) X.A (call (.ref C) us) (EP X pins σ Q) X.xe s:=by
 have hq:=h (s.heap.objs.size+1) s.heap.objs.size (I.hok.fresh (Nat.le_succ _)) (I.hok.fresh (Nat.le_refl _)) (Nat.ne_of_lt (Nat.lt_succ_self _))
 have I2:=Inv.made (C:=C) I
 have r2:Vals (V.ref (s.heap.objs.size+1)::(vs++dvs)) (Value.ref (s.heap.objs.size+1)::(us++ds)):=.cons rfl (r.append hd)
 have hl:(Value.ref (s.heap.objs.size+1)::us++ds).length=ps.length:=by
  have e:=r2.length
  rw[F.len _ _ _ _ hq]at e
  exact e.symm
 refine wpAny_call (make_map (f:=f) I.kIn M.makes M.init (beq_iff_eq.mp M.fn) (codeAny_mono (F.run _ X.stack _ _ ⟨Value.ref (s.heap.objs.size+1)::us,[]⟩ (Value.ref (s.heap.objs.size+1)::(us++ds)) _ _ E (hr.make C us [])
  (I2.env0.make C us []) (hb _ (Value.ref (s.heap.objs.size+1)::us) I2.kIn hl) r2 hq) fun r s' hq'=>?_))
 cases r with
 | error e=>exact hx pins σ _ _ e s' I2 hq'
 | ok fl =>
  cases fl with
  | ret u =>
   obtain⟨v,H',I3,rv,ev,q3⟩:=I2.after hq'
   subst ev
   exact⟨rv,⟨V.ref (s.heap.objs.size+1),H',I3,rfl,q3⟩⟩
  | next=>exact False.elim hq'
  | brk=>exact False.elim hq'
  | cont=>exact False.elim hq'
theorem pe_make (M:Mk X.K C f)(F:FnOk X.prog X.w X.K X.mg X.base CX k f fd ps sp)(hr:Room (k+1) X.A)(hg:Gl X x)(hm:X.mg x=some (.ref C))(hb:Binds X.K fd ps ds)(hd:Vals dvs ds)(hx:Passes CX X E)
 (ha:PA X (e::es) t) (hdb:(x==("__debug__" : Str))=false:=by decide) (he:starEach (e::es) X.env=(false,eval e X.env)::starEach es X.env:=by rfl) (hpl:(backTo pos (starEach es X.env)).any (·.1)=false:=by rfl) :
 PE X (.Call (.Name x p) (e::es) [] pos) (tMake C sp dvs E t):=by
 intro pins s σ H Q I h
 refine wpAny_Call_Name_kw (ld_glob I hg hm ?_ hdb)
 refine PySem.W.callWith_K (h₀:=X.base) I.ok.mod.kin M.kp (thn (ha pos pins s σ H _ I h) fun us s1 hq6=>?_) he hpl
 obtain⟨vs,H1,I1,r,q⟩:=hq6
 refine⟨I1.kIn,?_⟩
 exact run_make M F hr hb hd hx I1 r q
end
structure FnScope (N P:List Str)(sc:Scope):Prop where
 kind:sc.kind=.function
 co:sc.isCoroutine=false
 gen:sc.isGenerator=false
 nd:N.Nodup
 pre:N.take P.length=P
 par:∀ x∈P,sc.names.lookup x=some .local\/sc.names.lookup x=some .cell
 nofree:∀ y∈sc.names,y.2≠.free
theorem bindL_out {kindOf:Str->Option NameKind}{x:Str}:∀ {binds:List (Str×Value)} {m:Str->Option Value},(∀ v,(x,v)∉binds)->bindL kindOf binds m x=m x
 | [],_,_=>rfl
 | (n,v)::r,m,h=>by
  unfold bindL
  rw[bindL_out fun w hw=>h w (gxI _ hw)]
  split
  ·have:x≠n:=by rintro rfl;exact h v List.mem_cons_self
   simp[this]
  ·rfl
theorem bindC_out {kindOf:Str->Option NameKind}{x:Str}:∀ {binds:List (Str×Value)} {m:Str->Option Value},(∀ v,(x,v)∉binds)->bindC kindOf binds m x=m x
 | [],_,_=>rfl
 | (n,v)::r,m,h=>by
  unfold bindC
  rw[bindC_out fun w hw=>h w (gxI _ hw)]
  split
  ·rfl
  ·have:x≠n:=by rintro rfl;exact h v List.mem_cons_self
   simp[this]
theorem bindL_get {kindOf:Str->Option NameKind}{x:Str}{v:Value}:∀ {P:List Str} {vs:List Value} {i:Nat} {m:Str->Option Value},P.Nodup->P[i]?=some x->vs[i]?=some v->kindOf x=some .local ->
 bindL kindOf (P.zip vs) m x=some v
 | [],_,_,_,_,h,_,_=>by simp at h
 | _::_,[],_,_,_,_,h,_=>by simp at h
 | p::P,w::vs,0,m,nd,h1,h2,hk=>by
  simp at h1 h2;subst h1;subst h2
  show bindL kindOf ((p,w)::P.zip vs) m p=_
  unfold bindL
  rw[bindL_out fun v hv=>(List.nodup_cons.mp nd).1 (List.of_mem_zip hv).1,if_pos hk]
  simp
 | p::P,w::vs,i+1,m,nd,h1,h2,hk=>by
  show bindL kindOf ((p,w)::P.zip vs) m x=_
  unfold bindL
  exact bindL_get (i:=i) (List.nodup_cons.mp nd).2 (by simpa using h1) (by simpa using h2) hk
theorem bindC_get {kindOf:Str->Option NameKind}{x:Str}{v:Value}:∀ {P:List Str} {vs:List Value} {i:Nat} {m:Str->Option Value},P.Nodup->P[i]?=some x->vs[i]?=some v->kindOf x≠some .local ->
 bindC kindOf (P.zip vs) m x=some v
 | [],_,_,_,_,h,_,_=>by simp at h
 | _::_,[],_,_,_,_,h,_=>by simp at h
 | p::P,w::vs,0,m,nd,h1,h2,hk=>by
  simp at h1 h2;subst h1;subst h2
  show bindC kindOf ((p,w)::P.zip vs) m p=_
  unfold bindC
  rw[bindC_out fun v hv=>(List.nodup_cons.mp nd).1 (List.of_mem_zip hv).1,if_neg hk]
  simp
 | p::P,w::vs,i+1,m,nd,h1,h2,hk=>by
  show bindC kindOf ((p,w)::P.zip vs) m x=_
  unfold bindC
  exact bindC_get (i:=i) (List.nodup_cons.mp nd).2 (by simpa using h1) (by simpa using h2) hk
def start (N:List Str)(vs:List V):St:=vs.map some++List.replicate (N.length - vs.length) none
def cxOf (CX:CXT)(P:Program)(w:World)(K:PySem.W.Frag)(mg:Str->Option Value)(base:Heap)(N:List Str)(qual:Str)(scope:Scope)(f:Addr)(cd:Value)(A:Around)(outer:List Env)(s:Shared)(H:Hp)(E:XK):Cx where
 prog:=P
 w:=w
 K:=K
 mg:=mg
 base:=base
 A:=A.deeper (envOfC qual scope s.heap.objs.size f cd)
 N:=N
 s₀:=s
 H₀:=H
 env:=envOfC qual scope s.heap.objs.size f cd
 outer:=outer
 stack:=envOfC qual scope s.heap.objs.size f cd::outer
 ex:=[]
 calm:=true
 fn:=fun _=>true
 pn:=[]
 xe:=fun e s'=>wpAny (model P w) (A.deeper (envOfC qual scope s.heap.objs.size f cd)) (leaving (envOfC qual scope s.heap.objs.size f cd) e) (fun _ s''=>CX outer H s E e s'') (fun e' s''=>CX outer H s E e' s'') s'
theorem cell_has {sc:Scope}{n:Nat}{x:Str}(h:sc.names.lookup x=some .cell):∃ c,(cellsFrom n sc.names []).lookup x=some c:=by
 have q:=PySem.W.cellsFrom_some sc.names n [] (.inl h)
 exact Option.isSome_iff_exists.mp q
theorem inv_start {CX:CXT}{P:Program}{w:World}{K:PySem.W.Frag}{mg:Str->Option Value}{base:Heap}{N ps:List Str}{qual:Str}{scope:Scope}{f:Addr}{cd:Value}{A:Around}{outer:List Env}{s s1:Shared}{H:Hp}{E:XK}{us:List Value}{vs:List V}
 (S:FnScope N ps scope) (hd:A.handled=none) (e0:Env0 P w K mg base A outer s H) (hl:vs.length=ps.length) (r:Vals vs us)
 (x:InCallC s s.heap.objs.size (bindL (envOfC qual scope s.heap.objs.size f cd).kindOf (ps.zip us) fun _=>none) (cellsFrom (s.heap.objs.size+1) scope.names []) (bindC (envOfC qual scope s.heap.objs.size f cd).kindOf (ps.zip us) fun _=>none) s1) :
 Inv (cxOf CX P w K mg base N qual scope f cd A outer s H E) [] (start N vs) H s1:=by
 have hpl:ps.length<=N.length:=by have:=congrArg List.length S.pre;rw[List.length_take]at this;omega
 obtain⟨h1,tk,rfl,hk⟩:=x.done
 have noA:∀ b:Addr,b∉(cxOf CX P w K mg base N qual scope f cd A outer s H E).ex:=fun b z=>absurd (show b∈([]:List Addr)from z) (by simp)
 refine⟨⟨e0.mod,S.kind,rfl,rfl,Nat.le_refl _,fun y z c h1 h2=>?_,fun y hy=>?_,fun y c _ h=>?_,fun _=>hd,Around.frames_deeper e0.frames,.inr ⟨rfl,rfl⟩,fun b z=>absurd z (noA b),e0.bs,e0.bsz,fun b _ _=>noA b,fun b z=>absurd z (noA b),e0.funs,e0.frf⟩,
  rfl,e0.bare,Un.kept hk,⟨_,x.toInCall.ns,fun i y v h1 h2 h3=>?_⟩,fun y c h=>⟨_,x.cell y c h⟩,e0.hok.fresh (Nat.le_refl _),fun y c h=>?_,fun p hp=>absurd (show p∈([]:List (Addr×Obj))from hp) (by simp),e0.hok.kept hk,?_⟩
 ·exact name_of_addr x.apart (PySem.mem_of_lookup h1) (PySem.mem_of_lookup h2)
 ·have hy:scope.names.lookup y=some .cell\/scope.names.lookup y=some .free:=hy
  rcases hy with hy | hy
  ·exact cell_has hy
  ·exact absurd rfl (S.nofree _ (PySem.mem_of_lookup hy))
 ·exact Nat.le_of_lt (x.above y c (PySem.mem_of_lookup h))
 ·have hi:i<vs.length:=by
   unfold start at h2
   by_cases hi:i<vs.length
   ·exact hi
   ·rw[gxG (by simpa using hi)]at h2
    rw[List.getElem?_replicate]at h2
    split at h2 <;> cases h2
  have ha:vs[i]?=some v:=by
   unfold start at h2
   rw[gxF (by simpa using hi),gxH]at h2
   cases e:vs[i]? with
   | none=>rw[e]at h2;cases h2
   | some a=>rw[e]at h2;cases h2;rfl
  obtain⟨u,hu,rv⟩:=r.get ha
  have hp:ps[i]?=some y:=by
   rw[<- S.pre,List.getElem?_take_of_lt (by omega)];exact h1
  have ndP:ps.Nodup:=by rw[<- S.pre];exact S.nd.sublist (List.take_sublist _ _)
  refine⟨u,rv,?_⟩
  rcases S.par y (gxD hp)with k | k
  ·exact .inl ⟨k,bindL_get ndP hp hu k⟩
  ·obtain⟨c,e⟩:=cell_has (n:=s.heap.objs.size+1) k
   refine .inr ⟨.inl k,c,e,?_⟩
   have q:=x.cell y c e
   rw[bindC_get ndP hp hu (by show scope.names.lookup y≠_;rw[k];decide)]at q
   exact q
 ·exact e0.hok.fresh (Nat.le_of_lt (x.above y c (PySem.mem_of_lookup h)))
 ·unfold start
  show _=N.length
  rw[gxE,gxC,List.length_replicate]
  omega
theorem fn_of {CX:CXT}{P:Program}{w:World}{K:PySem.W.Frag}{mg:Str->Option Value}{base:Heap}{k:Nat}{f:Addr}{name qual:Str}{params:Arguments}{body:List Stmt}{scope:Scope}{dV kV doc pm cdv ct oc:Value}{an od:Option Addr}
 {osl:Array (Option Value)} {N ps:List Str} {sp:Sp} (lk:K.lookup f=some ⟨oc,od,.func (PySem.W.fnOf name qual params body scope dV kV doc pm an cdv ct),osl⟩) (hcd:PySem.W.codeIn K cdv qual=true) (S:FnScope N ps scope)
 (len:∀ vs H Q E,sp vs H Q E->vs.length=ps.length)
 (hbody:∀(A:Around) (outer:List Env) (s:Shared) (H:Hp) (vs:List V) (Q:VK) (E:XK),Room k (A.deeper (envOfC qual scope s.heap.objs.size f cdv))->sp vs H Q E ->
   ∃ t,PSs (cxOf CX P w K mg base N qual scope f cdv A outer s H E) body t/\t { nx:=fun _ H'=>Q .non H',rt:=Q} (start N vs) H) :
 FnOk P w K mg base CX (k+1) f (PySem.W.fnOf name qual params body scope dV kV doc pm an cdv ct) ps sp:=by
 refine⟨len,fun A outer s H args us vs Q E hr e0 hb r hsp=>?_⟩
 have hl:=len _ _ _ _ hsp
 have KX:K.In s.heap:=e0.mod.kin.keeps fun b o e=>(e0.bs b o e).1
 have lim:s.heap.NoLimit:=e0.mod.nolimit.keeps fun b o e=>(e0.bs b o e).1
 have hkind:∀ y∈ps.zip us,scope.names.lookup y.1=some .local\/(scope.names.lookup y.1=some .cell/\((cellsFrom (s.heap.objs.size+1) scope.names []).lookup y.1).isSome=true):=fun⟨n,v⟩ hy=>by
  rcases S.par n (List.of_mem_zip hy).1 with q | q
  ·exact .inl q
  ·exact .inr ⟨q,PySem.W.cellsFrom_some _ _ _ (.inl q)⟩
 refine codeAny_call_function hr.depth (KX _ _ lk) rfl S.co S.gen rfl (PySem.W.codeRec_of KX hcd) (hb _ _ _ _ ?_)
 refine wpAny_newFunctionEnv_cells S.kind hkind fun env he s1 x=>?_
 subst he
 refine⟨lim.keeps x.toInCall.keep,codeAny_func ?_⟩
 obtain⟨t,ht,hq⟩:=hbody A outer s H vs Q E (hr.deeper _) hsp
 have I:Inv (cxOf CX P w K mg base N qual scope f cdv A outer s H E) [] (start N vs) H s1:=inv_start S hr.hd e0 hl r x
 refine wpAny_mono (ht [] s1 (start N vs) H _ I hq) (fun fl s' hs=>?_) fun e s' hs=>hs
 have fin:∀ {σ':St} {H':Hp} {v:V} {u:Value},Inv (cxOf CX P w K mg base N qual scope f cdv A outer s H E) [] σ' H' s'->RelV v u->Q v H'->CE outer P w H s Q u s' :=
  fun {σ' H' v u} J rv q=>⟨v,H',J.os,J.bare,J.base,J.hok,rv,q⟩
 cases fl with
 | ret u =>
  obtain⟨v,σ',H',J,rv,q⟩:=hs
  exact fin J rv q
 | next =>
  obtain⟨σ',H',J,q⟩:=hs
  exact fin (v:=V.non) (u:=Value.none) J rfl q
 | brk =>
  obtain⟨_,_,_,q⟩:=hs
  exact False.elim q
 | cont =>
  obtain⟨_,_,_,q⟩:=hs
  exact False.elim q
section
variable {X:Cx}{x:Str}{p pos:Pos}{e:Expr}{es:List Expr}{t:TA}{id T:String}{r:List V->Hp->VK->Prop}
def tCB (r:List V->Hp->VK->Prop)(t:TA):TE:=fun σ H Q=>t σ H fun vs H1=>r vs H1 Q
theorem pe_callB (hc:CallR X (.builtin id) r)(hg:Gl X x)(hm:X.mg x=none)(hv:bootBuiltins x=some (.builtin id))(ha:PA X (e::es) t)(hn:x ≠ "__name__":=by decide)(hdb:(x==("__debug__" : Str))=false:=by decide)
 (he:starEach (e::es) X.env=(false,eval e X.env)::starEach es X.env:=by rfl) (hpl:(backTo pos (starEach es X.env)).any (·.1)=false:=by rfl):PE X (.Call (.Name x p) (e::es) [] pos) (tCB r t):=by
 intro pins s σ H Q I h
 refine wpAny_Call_Name_kw (ld_blt I hg hm hv ?_ hn hdb)
 exact PyProof.Rows.callWith_builtin1 (thn (ha pos pins s σ H _ I h) fun us s1 hq0=>by obtain⟨vs,H1,I1,r1,q1⟩:=hq0;exact hc pins s1 σ H1 vs us Q I1 r1 q1) he hpl
theorem pe_callTy (hc:CallR X (.type T) r)(hg:Gl X x)(hm:X.mg x=none)(hv:bootBuiltins x=some (.type T))(ha:PA X (e::es) t)(hn:x ≠ "__name__":=by decide)(hdb:(x==("__debug__" : Str))=false:=by decide)
 (he:starEach (e::es) X.env=(false,eval e X.env)::starEach es X.env:=by rfl) (hpl:(backTo pos (starEach es X.env)).any (·.1)=false:=by rfl):PE X (.Call (.Name x p) (e::es) [] pos) (tCB r t):=by
 intro pins s σ H Q I h
 refine wpAny_Call_Name_kw (ld_blt I hg hm hv ?_ hn hdb)
 exact PyProof.Rows.callWith_type1 (thn (ha pos pins s σ H _ I h) fun us s1 hq1=>by obtain⟨vs,H1,I1,r1,q1⟩:=hq1;exact hc pins s1 σ H1 vs us Q I1 r1 q1) he hpl
end
end L2
namespace HT
open PySem PyProof.Rows
section
variable {prog:Program}{w:World}{A:Around}{E:Value->Shared->Prop}{s:Shared}
def sIx (n d:Nat):Option Int->Nat
 | none=>d
 | some v=>if v<0 then(v+(n:Int)).toNat else min v.toNat n
theorem sIx_none (n d:Nat):sIx n d none=d:=rfl
theorem sIx_nat (n d k:Nat):sIx n d (some (k:Int))=min k n:=by
 show(if(k:Int)<0 then((k:Int)+(n:Int)).toNat else min (k:Int).toNat n)=min k n
 rw[if_neg (by omega),gxK]
theorem sIx_le (n d:Nat)(hd:d<=n)(o:Option Int):sIx n d o<=n:=by
 cases o with
 | none=>exact hd
 | some v =>
  show(if v<0 then(v+(n:Int)).toNat else min v.toNat n)<=n
  by_cases hv:v<0
  ·rw[if_pos hv];omega
  ·rw[if_neg hv];exact Nat.min_le_right _ _
theorem clip_eq (v:Int)(n d:Nat):(if v<0 then max (v+(n:Int)) 0 else min v (n:Int))=((sIx n d (some v):Nat):Int):=by
 show(if v<0 then max (v+(n:Int)) 0 else min v (n:Int))=(((if v<0 then(v+(n:Int)).toNat else min v.toNat n):Nat):Int)
 by_cases hv:v<0
 ·simp only[if_pos hv];omega
 ·simp only[if_neg hv];omega
theorem adjust_gen (lo hi:Option Int)(n:Nat):Builtin.Slice.sliceAdjust lo hi 1 (n:Int)=(((sIx n 0 lo:Nat):Int),((sIx n n hi:Nat):Int)):=by
 have h1:¬ ((1:Int)<0):=by omega
 unfold Builtin.Slice.sliceAdjust
 simp only[h1,if_false]
 refine Prod.ext ?_ ?_
 ·cases lo with
  | none=>rfl
  | some v=>exact clip_eq v n 0
 ·cases hi with
  | none=>rfl
  | some v=>exact clip_eq v n n
theorem places_gen (i j:Nat):Builtin.Slice.slicePlaces (i:Int) (j:Int) 1=j - i:=by
 unfold Builtin.Slice.slicePlaces
 have h1:(1:Int)>0:=by omega
 simp only[h1,if_true,Int.ediv_one]
 split <;> omega
theorem slicePart_ {v:Value}{o:Option Int}{Q:Option Int->Shared->Prop}(p:IsPart v o)(h:Q o s):wpAny (model prog w) A (Builtin.Slice.slicePartIndex v) Q E s:=by
 cases p with
 | none=>exact slicePart_none h
 | int i t=>exact slicePart_int h
theorem sliceApplied_gen {sl:Addr}{vl vu:Value}{lo hi:Option Int}{n:Nat}{Q:Int×Int×Nat->Shared->Prop}(hs:s.heap.IsSliceOf sl vl vu .none)(pl:IsPart vl lo)(pu:IsPart vu hi)
 (h:Q (((sIx n 0 lo:Nat):Int),1,sIx n n hi - sIx n 0 lo) s):wpAny (model prog w) A (Builtin.Slice.sliceApplied (.ref sl) (pure (n:Int))) Q E s:=by
 obtain⟨os,hos,hcs,hds⟩:=id hs
 unfold Builtin.Slice.sliceApplied Builtin.Slice.sliceFields
 refine gxM (gxM (wpAny_field hos hds (x:=vl) rfl (gxM (wpAny_field hos hds (x:=vu) rfl (gxM (wpAny_field hos hds (x:=.none) rfl (wpAny_pure ?_)))))))
 refine gxM (slicePart_none ?_)
 show wpAny _ _ (if((1:Int)==0)=true then _ else _) _ _ s
 rw[if_neg (by decide)]
 refine gxM (slicePart_ pl (gxM (slicePart_ pu (gxM (wpAny_pure ?_)))))
 show wpAny _ _ (match Builtin.Slice.sliceAdjust lo hi 1 (n:Int)with | (lo,hi)=>pure (lo,(1:Int),Builtin.Slice.slicePlaces lo hi 1)) _ _ s
 rw[adjust_gen lo hi n]
 show wpAny _ _ (pure (((sIx n 0 lo:Nat):Int),(1:Int),Builtin.Slice.slicePlaces ((sIx n 0 lo:Nat):Int) ((sIx n n hi:Nat):Int) 1)) _ _ s
 rw[places_gen]
 exact wpAny_pure h
theorem pick_gen (xs:Array Value)(i k:Nat):((List.range k).filterMap fun(m:Nat)=>xs[((i:Int)+(m:Int)*1).toNat]?).toArray=((xs.toList.drop i).take k).toArray:=by
 have e:(fun(m:Nat)=>xs[((i:Int)+(m:Int)*1).toNat]?)=fun m=>xs[i+m]?:=by
  funext m
  have:((i:Int)+(m:Int)*1).toNat=i+m:=by omega
  rw[this]
 rw[e]
 have:=pick_run xs i k
 rw[List.filterMap_map]at this
 have e2:((fun x=>xs[x]?) ∘ fun x=>i+x)=fun m=>xs[i+m]?:=rfl
 rw[e2]at this
 rw[this]
theorem getItem_tuple_cut {t sl:Addr}{items:Array Value}{vl vu:Value}{lo hi:Option Int}{Q:Value->Shared->Prop}(ht:IsTup s.heap t items)(hs:s.heap.IsSliceOf sl vl vu .none)(pl:IsPart vl lo)(pu:IsPart vu hi)
 (hw:¬ (sIx items.size 0 lo=0/\sIx items.size items.size hi=items.size))
 (h:Q (.ref s.heap.objs.size) { s with heap:=s.heap.push { cls:=.type "tuple",data:=.seq ((items.toList.drop (sIx items.size 0 lo)).take (sIx items.size items.size hi - sIx items.size 0 lo)).toArray}})
 (hsz:items.size<=sizeLine):wpAny (model prog w) A (getItem (.ref t) (.ref sl)) Q E s:=by
 have htake:sizeOk (.seq ((items.toList.drop (sIx items.size 0 lo)).take (sIx items.size items.size hi - sIx items.size 0 lo)).toArray):=by
  show((items.toList.drop (sIx items.size 0 lo)).take (sIx items.size items.size hi - sIx items.size 0 lo)).toArray.size<=sizeLine
  rw[List.size_toArray,List.length_take,List.length_drop,Array.length_toList]
  omega
 have hj:sIx items.size items.size hi<=items.size:=sIx_le _ _ (Nat.le_refl _) hi
 obtain⟨os,hos,hcs,hds⟩:=id hs
 have hTs:s.TypeIs (.ref sl) "slice":=⟨os,hos,hcs⟩
 unfold getItem
 try with_reducible refine wpAny_holding ?_
 first | refine gxM (wpAny_pure ?_) | skip
 refine gxM (wpAny_sequenceKey ht.typeIs (by decide) ?_)
 refine gxM (wpAny_callSpecial?_slot (name:=Str.ofString "__getitem__") ht.typeIs PyProof.Rows.slot_tuple_getitem
  (wpAny_call_entry PyProof.Rows.slot_tuple_getitem ht.typeIs entry_tuple_getitem ?_ (args_tuple_getitem _ _)))
 show wpAny _ _ (Builtin.Tuple.tupleItemsOf (.ref t) >>= _) _ _ s
 refine gxM (tupleItemsOf_ ht ?_)
 refine gxM (wpAny_typeOf hTs ?_)
 rw[if_pos (by decide)]
 refine gxM (sliceApplied_gen hs pl pu ?_)
 have hno:¬ ((((sIx items.size 0 lo:Nat):Int)==0&&(1:Int)==1&&(sIx items.size items.size hi - sIx items.size 0 lo)==items.size)=true):=by
  intro q
  rw[Bool.and_eq_true,Bool.and_eq_true]at q
  have q1:((sIx items.size 0 lo:Nat):Int)=0:=eq_of_beq q.1.1
  have q2:sIx items.size items.size hi - sIx items.size 0 lo=items.size:=eq_of_beq q.2
  exact hw ⟨by omega,by omega⟩
 show wpAny _ _ (if(((sIx items.size 0 lo:Nat):Int)==0&&(1:Int)==1&&(sIx items.size items.size hi - sIx items.size 0 lo)==items.size)=true then _ else _) _ _ s
 rw[if_neg hno,pick_gen]
 first
  | exact gxM (m:=Builtin.Tuple.tupleExact _) (wpAny_newObj_type (wpAny_pure ⟨_,rfl,wpAny_pure h⟩) htake)
  | exact gxM (m:=Builtin.Tuple.tupleExact _) (wpAny_newObj_type (gxM (wpAny_pure (wpAny_pure ⟨_,rfl,wpAny_pure h⟩))) htake)
  | exact gxM (gxM (m:=Builtin.Tuple.tupleExact _) (wpAny_newObj_type (wpAny_pure (wpAny_pure ⟨_,rfl,wpAny_pure h⟩)) htake))
  | exact gxM (gxM (m:=Builtin.Tuple.tupleExact _) (wpAny_newObj_type (wpAny_pure ⟨_,rfl,wpAny_pure h⟩) htake))
end
end HT
namespace L2
open PySem PySem.Spec PyProof.Rows
abbrev TO:=St->Hp->(Option Int->Hp->Prop)->Prop
def PO (X:Cx)(e:Option Expr)(t:TO):Prop :=
 ∀(pins:List (Addr×Obj)) (s:Shared) (σ:St) (H:Hp) (Q:Option Int->Hp->Prop),Inv X pins σ H s->t σ H Q ->
  wpAny (model X.prog X.w) X.A (evalPart e X.env) (fun u s'=>∃ o H',Inv X pins σ H' s'/\IsPart u o/\Q o H') X.xe s
def tNoPart:TO:=fun _ H Q=>Q none H
section
variable {X:Cx}{e:Expr}{te:TE}{lo hi:Option Expr}{tl th:TO}{pos p2:Pos}
theorem po_none:PO X none tNoPart:=by
 intro pins s σ H Q I h
 rw[evalPart_none]
 exact wpAny_pure ⟨none,H,I,.none,h⟩
def SlR (X:Cx)(r:V->Option Int->Option Int->Hp->VK->Prop):Prop :=
 ∀(pins:List (Addr×Obj)) (s:Shared) (σ:St) (H:Hp) (x:V) (v vl vu:Value) (lo hi:Option Int) (sl:Addr) (Q:VK),Inv X pins σ H s->RelV x v->s.heap.IsSliceOf sl vl vu .none->IsPart vl lo->IsPart vu hi->r x lo hi H Q ->
  ∃ T id,typeLookup (.type T) "__getitem__"=pure (some (.builtin id))/\s.TypeIs v T/\wpAny (model X.prog X.w) X.A (getItem v (.ref sl)) (EP X pins σ Q) X.xe s
def tSl (r:V->Option Int->Option Int->Hp->VK->Prop)(te:TE)(tl th:TO):TE:=fun σ H Q=>te σ H fun x H1=>tl σ H1 fun l H2=>th σ H2 fun u H3=>r x l u H3 Q
theorem pe_slice {r:V->Option Int->Option Int->Hp->VK->Prop}(hr:SlR X r)(he:PE X e te)(hl:PO X lo tl)(hu:PO X hi th):PE X (.Subscript e (.Slice lo hi none p2) pos) (tSl r te tl th):=by
 intro pins s σ H Q I h
 refine Subscript_ (thn (he pins s σ H _ I h) fun v s1 hq2=>?_)
 obtain⟨x,H1,I1,r1,q1⟩:=hq2
 refine wpAny_Slice (thn (hl pins s1 σ H1 _ I1 q1) fun vl s2 hq3=>?_)
 obtain⟨l,H2,I2,pl,q2⟩:=hq3
 refine thn (hu pins s2 σ H2 _ I2 q2) fun vu s3 hq4=>?_
 obtain⟨u,H3,I3,pu,q3⟩:=hq4
 rw[evalPart_none]
 refine wpAny_pure ?_
 have I4:Inv X pins σ H3 { s3 with heap:=s3.heap.push { cls:=.type "slice",data:=.fields #[vl,vu,.none]}}:=I3.kept (t':=s3.toks) fun b ob q=>gxL _ q
 obtain⟨T,id,hT,ht,hg⟩:=hr pins { s3 with heap:=s3.heap.push { cls:=.type "slice",data:=.fields #[vl,vu,.none]}} σ H3 x v vl vu l u s3.heap.objs.size Q I4 r1 (Heap.IsSliceOf.new ..) pl pu q3
 show wpAny (model X.prog X.w) X.A (subscriptTail e (.Slice lo hi none p2) v (.ref s3.heap.objs.size)) (EP X pins σ Q) X.xe { s3 with heap:=s3.heap.push { cls:=.type "slice",data:=.fields #[vl,vu,.none]}}
 exact tail_any (ops:=[.ref s3.heap.objs.size,v]) ht hT hg (by with_unfolding_all rfl)
def cutV (xs:List V)(lo hi:Option Int):List V:=(xs.drop (HT.sIx xs.length 0 lo)).take (HT.sIx xs.length xs.length hi - HT.sIx xs.length 0 lo)
theorem cutV_length (xs:List V)(lo hi:Option Int):(cutV xs lo hi).length<=xs.length:=by
 unfold cutV
 rw[List.length_take,List.length_drop]
 omega
def rSlT (K:PySem.W.Frag):V->Option Int->Option Int->Hp->VK->Prop:=fun x lo hi H Q=>∃ a xs,x=.ref a/\SqT K H a xs /\
 ¬ (HT.sIx xs.length 0 lo=0/\HT.sIx xs.length xs.length hi=xs.length)/\∀ p,H p=none->Q (.ref p) (upd H p (.tup (cutV xs lo hi)))
theorem sl_tup:SlR X (rSlT X.K):=by
 intro pins s σ H x v vl vu lo hi sl Q I rx hs pl pu h
 obtain⟨a,xs,rfl,hx,hw,q⟩:=h
 cases rx
 obtain⟨its,r,ht,hz⟩:=I.tuple hx
 have hlen:its.toArray.size=xs.length:=by rw[List.size_toArray];exact r.length.symm
 refine⟨"tuple",_,PyProof.Rows.slot_tuple_getitem.lookup,ht.typeIs,?_⟩
 refine HT.getItem_tuple_cut ht hs pl pu (by rw[hlen];exact hw) ?_ (by rw[hlen];exact hz)
 rw[hlen]
 refine⟨.ref s.heap.objs.size,_,I.laid (t':=s.toks) (o:=.tup (cutV xs lo hi)) (fun b ob q=>gxL _ q) (Nat.le_refl _) ?_,rfl,q _ (I.hok.fresh (Nat.le_refl _))⟩
 exact⟨Nat.le_trans (cutV_length xs lo hi) hz,_,(r.drop (HT.sIx xs.length 0 lo)).take (HT.sIx xs.length xs.length hi - HT.sIx xs.length 0 lo),IsTup.new _ _⟩
end
def ixN (n:Nat)(i:Int):Option Nat:=if 0<=i then(if i<n then some i.toNat else none)else if -(n:Int)<=i then some (i+n).toNat else none
def atI {α:Type}(xs:List α)(i:Int):Option α:=(ixN xs.length i).bind fun j=>xs[j]?
theorem ixN_seq {n:Nat}{i:Int}{j:Nat}(h:ixN n i=some j):seqIndex? i n=some j/\j<n /\ -(n:Int)<=i/\i<n:=by
 unfold ixN at h
 by_cases h0:0<=i
 ·rw[if_pos h0]at h
  by_cases h1:i<n
  ·rw[if_pos h1]at h
   have e:i.toNat=j:=Option.some.inj h
   exact⟨by rw[seqIndex_of h0 h1,e],by omega,by omega,h1⟩
  ·rw[if_neg h1]at h;cases h
 ·rw[if_neg h0]at h
  by_cases h1:-(n:Int)<=i
  ·rw[if_pos h1]at h
   have e:(i+n).toNat=j:=Option.some.inj h
   exact⟨by rw[seqIndex_neg (by omega) h1,e],by omega,h1,by omega⟩
  ·rw[if_neg h1]at h;cases h
theorem atI_get {α:Type}{xs:List α}{i:Int}{v:α}(h:atI xs i=some v):∃ j,seqIndex? i xs.length=some j/\xs[j]?=some v/\j<xs.length /\ -(xs.length:Int)<=i/\i<xs.length:=by
 unfold atI at h
 cases e:ixN xs.length i with
 | none=>rw[e]at h;cases h
 | some j =>
  rw[e]at h
  obtain⟨h1,h2,h3,h4⟩:=ixN_seq e
  exact⟨j,h1,h,h2,h3,h4⟩
theorem atI_nat {α:Type}{xs:List α}{j:Nat}{v:α}(h:xs[j]?=some v):atI xs (j:Int)=some v:=by
 have hj:j<xs.length:=(gxB h).1
 have e:ixN xs.length (j:Int)=some j:=by
  unfold ixN
  rw[if_pos (by omega),if_pos (by omega)];simp
 unfold atI;rw[e];exact h
def PlainIx (b:Expr):Prop:=∀ o i,subscripted b false o i=operate [o,i] (getItem o i)
def IxR (X:Cx)(r:R2):Prop :=
 ∀(value slice:Expr) (pins:List (Addr×Obj)) (s:Shared) (σ:St) (H:Hp) (x y:V) (v u:Value) (Q:VK),Inv X pins σ H s->RelV x v->RelV y u->r x y H Q ->
  subscripted slice false v u=operate [v,u] (getItem v u)->wpAny (model X.prog X.w) X.A (subscriptTail value slice v u) (EP X pins σ Q) X.xe s
def MtR (X:Cx)(id:String)(r:V->List V->Hp->VK->Prop):Prop :=
 ∀(pins:List (Addr×Obj)) (s:Shared) (σ:St) (H:Hp) (x:V) (xs:List V) (v:Value) (us:List Value) (Q:VK),Inv X pins σ H s->RelV x v->Vals xs us->r x xs H Q ->
  wpAny (model X.prog X.w) X.A (call (.builtin id) (v::us)) (EP X pins σ Q) X.xe s
section
variable {X:Cx}{a b:Expr}{ta tb:TE}{pos:Pos}
theorem IxR.or {r r':R2}(h:IxR X r)(h':IxR X r'):IxR X (fun x y H Q=>r x y H Q\/r' x y H Q):=by
 intro value slice pins s σ H x y v u Q I rx ry q hs
 rcases q with q | q
 ·exact h value slice pins s σ H x y v u Q I rx ry q hs
 ·exact h' value slice pins s σ H x y v u Q I rx ry q hs
theorem pe_ix {r:R2}(hr:IxR X r)(ha:PE X a ta)(hb:PE X b tb)(hs:PlainIx b):PE X (.Subscript a b pos) (tOp r ta tb):=by
 intro pins s σ H Q I h
 exact Subscript_ (binT ha hb I h fun v u s2 x y H2 I2 rx ry q=>hr a b pins s2 σ H2 x y v u Q I2 rx ry q (hs _ _))
def rIxL (K:PySem.W.Frag):R2:=fun x y H Q=>∃ p xs i v,x=.ref p/\y=.int i/\SqL K H p xs/\atI xs i=some v/\Q v H
def rIxT (K:PySem.W.Frag):R2:=fun x y H Q=>∃ p xs i v,x=.ref p/\y=.int i/\SqT K H p xs/\atI xs i=some v/\Q v H
def rIxS:R2:=fun x y H Q=>∃ z i c,x=.str z/\y=.int i/\z.length<=sizeLine/\atI z.cps.toList i=some c/\Q (.str ⟨#[c]⟩) H
theorem ix_list:IxR X (rIxL X.K):=by
 intro value slice pins s σ H x y v u Q I rx ry h hs
 obtain⟨p,xs,i,z,rfl,rfl,hq,he,q⟩:=h
 cases rx
 obtain⟨t,rfl⟩:=ry
 obtain⟨its,r,pl,hz⟩:=I.list hq
 obtain⟨j,h1,h2,h3,h4,h5⟩:=atI_get he
 obtain⟨w,ew,rw'⟩:=r.get h2
 have hl:=r.length
 have hn:=line63
 have fin:EP X pins σ Q w s:=⟨z,H,I,rw',q⟩
 by_cases h0:0<=i
 ·have hj:i.toNat=j:=by
   rw[seqIndex_of h0 h5]at h1
   exact Option.some.inj h1
  exact item_listR pl.isList h0 (by omega) (by rw[hj];simpa using ew) fin hs
 ·have hj:(i+(its.toArray.size:Int)).toNat=j:=by
   rw[seqIndex_neg (by omega) h4]at h1
   rw[List.size_toArray,<- hl]
   exact Option.some.inj h1
  exact subscriptTail_builtinR (x:=w) pl.isList.typeIs slot_list_getitem.lookup
   (wpAny_getItem_list_neg (Q:=fun r s'=>r=w/\EP X pins σ Q r s') pl.isList (by omega) (by rw[List.size_toArray]<;> omega) (by omega) (by rw[hj];simpa using ew) ⟨rfl,fin⟩) hs
theorem ix_tup:IxR X (rIxT X.K):=by
 intro value slice pins s σ H x y v u Q I rx ry h hs
 obtain⟨p,xs,i,z,rfl,rfl,hq,he,q⟩:=h
 cases rx
 obtain⟨t,rfl⟩:=ry
 obtain⟨its,r,pl,hz⟩:=I.tuple hq
 obtain⟨j,h1,h2,h3,h4,h5⟩:=atI_get he
 obtain⟨w,ew,rw'⟩:=r.get h2
 have hl:=r.length
 have hn:=line63
 have fin:EP X pins σ Q w s:=⟨z,H,I,rw',q⟩
 exact subscriptTail_builtinR (x:=w) pl.typeIs slot_tuple_getitem.lookup
  (getItem_tuple (j:=j) (Q:=fun r s'=>r=w/\EP X pins σ Q r s') pl (by omega) (by omega) (by rw[List.size_toArray,<- hl];exact h1) (by simpa using ew) ⟨rfl,fin⟩) hs
theorem ix_str:IxR X rIxS:=by
 intro value slice pins s σ H x y v u Q I rx ry h hs
 obtain⟨z,i,c,rfl,rfl,hz,he,q⟩:=h
 obtain⟨t,rfl⟩:=rx
 obtain⟨t',rfl⟩:=ry
 obtain⟨j,h1,h2,h3,h4,h5⟩:=atI_get he
 have hl:z.cps.toList.length=z.length:=by simp[Str.length]
 rw[hl]at h1 h4 h5
 have hn:=line63
 exact tail_any (typeIs_str s z t) slot_str_getitem.lookup (getItem_str (c:=c) (by
  have e1:decide (i < -(2 ^ 63:Int))=false:=decide_eq_false (by omega)
  have e2:decide (i≥2 ^ 63)=false:=decide_eq_false (by omega)
  rw[e1,e2,Bool.or_false]) (by rw[h1];simpa using h2) ⟨.str ⟨#[c]⟩,H,I.tok _,⟨_,rfl⟩,q⟩) hs
def rIx (K:PySem.W.Frag):R2:=fun x y H Q=>rIxL K x y H Q\/rIxT K x y H Q\/rIxS x y H Q
theorem ix_seq:IxR X (rIx X.K):=ix_list.or (ix_tup.or ix_str)
theorem mapSeq_set (its:List Value)(n j:Nat)(u:Value):Obj.mapSeq (·.setIfInBounds j u) { cls:=.type "list",data:=.seq its.toArray n}={ cls:=.type "list",data:=.seq (its.set j u).toArray n}:=by
 simp[Obj.mapSeq]
theorem Inv.lst {pins:List (Addr×Obj)}{σ:St}{H:Hp}{s:Shared}{p:Addr}{xs:List V}(I:Inv X pins σ H s)(h:H p=some (.lst xs)) :
 ∃(its:List Value) (n:Nat),Vals xs its/\s.heap.get? p=some { cls:=.type "list",data:=.seq its.toArray n}/\xs.length<=sizeLine:=by
 obtain⟨z,its,n,r,e⟩:=I.hok p _ h
 exact⟨its,n,r,e,z⟩
theorem Inv.lstUpd {pins:List (Addr×Obj)}{σ:St}{H:Hp}{s:Shared}{p:Addr}{xs ys:List V}{its its':List Value}{n n':Nat}{f:Obj->Obj}(I:Inv X pins σ H s)(h:H p=some (.lst xs))
 (ho:s.heap.get? p=some { cls:=.type "list",data:=.seq its.toArray n}) (hf:f { cls:=.type "list",data:=.seq its.toArray n}={ cls:=.type "list",data:=.seq its'.toArray n'}) (r:Vals ys its') (hz:ys.length<=sizeLine) (t:Nat) :
 Inv X pins σ (upd H p (.lst ys)) { s with heap:=s.heap.update p f,toks:=t}:=by
 have e:(s.heap.update p f).get? p=some { cls:=.type "list",data:=.seq its'.toArray n'}:=by
  rw[Heap.get?_update_self f ho (by rw[hf]<;> rfl),hf]
 refine I.write (x:=p) (e:=p) (by rw[h];trivial) (.inl rfl) (fun b u hb q=>(Heap.get?_update_other _ _ (Ne.symm hb)).trans q) ⟨_,e⟩ ?_
 exact⟨hz,its',n',r,e⟩
def rSetL:V->V->V->Hp->(Hp->Prop)->Prop:=fun o i v H Q=>∃ p xs k j,o=.ref p/\i=.int k/\H p=some (.lst xs)/\ixN xs.length k=some j/\Q (upd H p (.lst (xs.set j v)))
theorem set_list:PSet X rSetL:=by
 intro pins s σ H o i v ov iv u Q I ro ri rv h
 obtain⟨p,xs,k,j,rfl,rfl,hp,hj,q⟩:=h
 cases ro
 obtain⟨t,rfl⟩:=ri
 obtain⟨its,n,r,ho,hz⟩:=I.lst hp
 obtain⟨h1,h2,h3,h4⟩:=ixN_seq hj
 have hl:=r.length
 have hn:=line63
 have I':Inv X pins σ (upd H p (.lst (xs.set j v))) { s with heap:=s.heap.update p (Obj.mapSeq (·.setIfInBounds j u))} :=
  I.lstUpd hp ho (mapSeq_set its n j u) (r.set rv j) (by rw[List.length_set];exact hz) s.toks
 by_cases h0:0<=k
 ·have hk:k.toNat=j:=by
   rw[seqIndex_of h0 h4]at h1
   exact Option.some.inj h1
  exact PySem.W.ki_setAt ho h0 (by omega) (by rw[List.size_toArray,<- hl];exact h4) (by rw[hk];exact⟨_,I',q⟩)
 ·have hk:(k+(its.toArray.size:Int)).toNat=j:=by
   rw[seqIndex_neg (by omega) h3]at h1
   rw[List.size_toArray,<- hl]
   exact Option.some.inj h1
  exact PySem.W.ki_setBack ho (by omega) (by rw[List.size_toArray,<- hl];exact h3) (by omega) (by rw[hk];exact⟨_,I',q⟩)
theorem slice_bounds (lo hi:Option Int)(n:Nat):(sliceBounds lo hi none n).1=((HT.sIx n 0 lo:Nat):Int)/\(sliceBounds lo hi none n).2.1=((HT.sIx n n hi:Nat):Int)/\(sliceBounds lo hi none n).2.2=1:=by
 refine⟨?_,?_,rfl⟩
 ·cases lo with
  | none=>simp[sliceBounds,HT.sIx]
  | some i =>
   simp only[sliceBounds,HT.sIx,Option.getD_none,show(1:Int)>0 by decide,if_true]
   by_cases h:i<0
   ·simp only[h,if_true]<;> omega
   ·simp only[h,if_false]<;> omega
 ·cases hi with
  | none=>simp[sliceBounds,HT.sIx]
  | some i =>
   simp only[sliceBounds,HT.sIx,Option.getD_none,show(1:Int)>0 by decide,if_true]
   by_cases h:i<0
   ·simp only[h,if_true]<;> omega
   ·simp only[h,if_false]<;> omega
theorem slicePick_cut (its:List Value)(lo hi:Option Int):slicePick its.toArray lo hi none=((its.drop (HT.sIx its.length 0 lo)).take (HT.sIx its.length its.length hi - HT.sIx its.length 0 lo)).toArray:=by
 obtain⟨h1,h2,h3⟩:=slice_bounds lo hi its.toArray.size
 unfold slicePick
 rw[h1,h2,h3]
 simp only[sliceRange_one,pick_run,List.size_toArray]<;> rfl
def rSlL (K:PySem.W.Frag):V->Option Int->Option Int->Hp->VK->Prop:=fun x lo hi H Q=>∃ a xs,x=.ref a/\SqL K H a xs/\∀ p,H p=none->Q (.ref p) (upd H p (.lst (cutV xs lo hi)))
theorem sl_list:SlR X (rSlL X.K):=by
 intro pins s σ H x v vl vu lo hi sl Q I rx hs pl pu h
 obtain⟨a,xs,rfl,hx,q⟩:=h
 cases rx
 obtain⟨its,r,ht,hz⟩:=I.list hx
 have hlen:=r.length
 refine⟨"list",_,slot_list_getitem.lookup,ht.isList.typeIs,?_⟩
 refine wpAny_getItem_list_slice ht.isList hs pl pu .none (by simp) ?_ (by rw[List.size_toArray]<;> omega)
 rw[slicePick_cut,<- hlen]
 refine⟨.ref s.heap.objs.size,_,I.laid (t':=s.toks) (o:=.lst (cutV xs lo hi)) (fun b ob q=>gxL _ q) (Nat.le_refl _) ?_,rfl,q _ (I.hok.fresh (Nat.le_refl _))⟩
 exact⟨Nat.le_trans (cutV_length xs lo hi) hz,_,0,(r.drop (HT.sIx xs.length 0 lo)).take (HT.sIx xs.length xs.length hi - HT.sIx xs.length 0 lo),Heap.get?_push_size _ rfl⟩
def flatV:V->Bool
 | .non=>true
 | .bl _=>true
 | .int _=>true
 | .str _=>true
 | _=>false
def eqV:V->V->Bool
 | .non,.non=>true
 | .bl a,.bl b=>a==b
 | .bl a,.int b=>(if a then 1 else 0)==b
 | .int a,.bl b=>a==(if b then 1 else 0)
 | .int a,.int b=>a==b
 | .str a,.str b=>a==b
 | _,_=>false
theorem eqAt_V {A:Around}{s:Shared}{y x:V}{u v:Value}(ry:RelV y u)(rx:RelV x v)(fy:flatV y=true)(fx:flatV x=true):SeqAt.EqAt A s u v (eqV y x):=by
 cases y with
 | non =>
  cases ry
  cases x with
  | non=>cases rx;exact SeqAt.EqAt.same _
  | bl b=>cases rx;exact SeqAt.EqAt.none_bool b
  | int b=>obtain⟨t,rfl⟩:=rx;exact SeqAt.EqAt.none_int b t
  | str b=>obtain⟨t,rfl⟩:=rx;exact SeqAt.EqAt.none_str b t
  | _=>exact absurd (show false=true from fx) Bool.false_ne_true
 | bl a =>
  cases ry
  cases x with
  | non=>cases rx;exact SeqAt.EqAt.bool_none a
  | bl b=>cases rx;exact SeqAt.EqAt.bool_bool a b
  | int b=>obtain⟨t,rfl⟩:=rx;exact SeqAt.EqAt.bool_int a b t
  | str b=>obtain⟨t,rfl⟩:=rx;exact SeqAt.EqAt.bool_str a b t
  | _=>exact absurd (show false=true from fx) Bool.false_ne_true
 | int a =>
  obtain⟨t',rfl⟩:=ry
  cases x with
  | non=>cases rx;exact SeqAt.EqAt.int_none a t'
  | bl b=>cases rx;exact SeqAt.EqAt.int_bool a t' b
  | int b=>obtain⟨t,rfl⟩:=rx;exact SeqAt.EqAt.int_int a t' b t
  | str b=>obtain⟨t,rfl⟩:=rx;exact SeqAt.EqAt.int_str a t' b t
  | _=>exact absurd (show false=true from fx) Bool.false_ne_true
 | str a =>
  obtain⟨t',rfl⟩:=ry
  cases x with
  | non=>cases rx;exact SeqAt.EqAt.str_none a t'
  | bl b=>cases rx;exact SeqAt.EqAt.str_bool a t' b
  | int b=>obtain⟨t,rfl⟩:=rx;exact SeqAt.EqAt.str_int a t' b t
  | str b=>obtain⟨t,rfl⟩:=rx;exact SeqAt.EqAt.str_str a t' b t
  | _=>exact absurd (show false=true from fx) Bool.false_ne_true
 | _=>exact absurd (show false=true from fy) Bool.false_ne_true
def eqU (x:V)(u:Value):Bool:=match u with
 | .none=>eqV .non x
 | .bool b=>eqV (.bl b) x
 | .int i _=>eqV (.int i) x
 | .str z _=>eqV (.str z) x
 | _=>false
theorem eqU_of {x y:V}{u:Value}(r:RelV y u)(f:flatV y=true):eqU x u=eqV y x:=by
 cases y with
 | non=>cases r;rfl
 | bl b=>cases r;rfl
 | int i=>obtain⟨t,rfl⟩:=r;rfl
 | str z=>obtain⟨t,rfl⟩:=r;rfl
 | _=>exact absurd (show false=true from f) Bool.false_ne_true
theorem any_eqU {x:V}:∀ {xs:List V} {us:List Value},Vals xs us->xs.all flatV=true->us.any (eqU x)=xs.any fun y=>eqV y x
 | _,_,.nil,_=>rfl
 | y::xs,u::us,.cons r t,f=>by
  rw[List.all_cons,Bool.and_eq_true]at f
  rw[List.any_cons,List.any_cons,eqU_of r f.1,any_eqU t f.2]
theorem mem_eqAt {A:Around}{s:Shared}{x:V}{v:Value}(rx:RelV x v)(fx:flatV x=true):∀ {xs:List V} {us:List Value},Vals xs us->xs.all flatV=true->∀ u∈us,SeqAt.EqAt A s u v (eqU x u)
 | _,_,.nil,_=>fun u hu=>by cases hu
 | y::xs,u::us,.cons r t,f=>fun u' hu=>by
  rw[List.all_cons,Bool.and_eq_true]at f
  rcases List.mem_cons.mp hu with rfl | hu
  ·rw[eqU_of r f.1];exact eqAt_V r rx f.1 fx
  ·exact mem_eqAt rx fx t f.2 u' hu
def inV (x:V)(xs:List V):Bool:=xs.any fun y=>eqV y x
def rIn (K:PySem.W.Frag)(neg:Bool):R2:=fun x y H Q=>∃ p xs,y=.ref p/\(SqL K H p xs\/SqT K H p xs)/\flatV x=true/\xs.all flatV=true/\Q (.bl (if neg then !inV x xs else inV x xs)) H
theorem op_in_seq:OpR X (compareOp .In) (rIn X.K false):=by
 intro pins s σ H x y v u Q I rx ry h
 obtain⟨p,xs,rfl,hq,fx,fs,q⟩:=h
 cases ry
 rcases hq with hq | hq
 ·obtain⟨its,r,pl,hz⟩:=I.list hq
  refine SeqAt.in_listAt (eqU x) pl.isList (fun w hw=>mem_eqAt rx fx r fs w (by simpa using hw)) ⟨.bl _,H,I,rfl,?_⟩
  rw[show its.toArray.any (eqU x)=its.any (eqU x) by simp,any_eqU r fs]
  exact q
 ·obtain⟨its,r,pl,hz⟩:=I.tuple hq
  refine SeqAt.in_tupleAt (eqU x) pl (fun w hw=>mem_eqAt rx fx r fs w (by simpa using hw)) ⟨.bl _,H,I,rfl,?_⟩
  rw[show its.toArray.any (eqU x)=its.any (eqU x) by simp,any_eqU r fs]
  exact q
theorem call_len_seq:CallR X (.builtin "len") (fun xs H Q=>∃ p ys,xs=[.ref p]/\(SqL X.K H p ys\/SqT X.K H p ys)/\Q (.int ys.length) H):=by
 intro pins s σ H xs us Q I r h
 obtain⟨p,ys,rfl,hq,q⟩:=h
 obtain⟨u,rfl,rx⟩:=vals1 r
 cases rx
 have hn:=line63
 rcases hq with hq | hq
 ·obtain⟨its,r',pl,hz⟩:=I.list hq
  have hlen:=r'.length
  exact Calls.call_len_list pl.isList (by simp only[List.size_toArray]<;> omega) ⟨.int ys.length,H,I.tok _,⟨s.toks+1,by rw[List.size_toArray,hlen]⟩,q⟩
 ·obtain⟨its,r',pl,hz⟩:=I.tuple hq
  have hlen:=r'.length
  exact len_tuple pl (by simp only[List.size_toArray]<;> omega) ⟨.int ys.length,H,I.tok _,⟨s.toks+1,by rw[List.size_toArray,hlen]⟩,q⟩
theorem call_len_str:CallR X (.builtin "len") (fun xs H Q=>∃ z,xs=[.str z]/\z.length<=sizeLine/\Q (.int z.length) H):=by
 intro pins s σ H xs us Q I r h
 obtain⟨z,rfl,hz,q⟩:=h
 obtain⟨u,rfl,t,rfl⟩:=vals1 r
 have hn:=line63
 exact len_str (by omega) ⟨.int z.length,H,I.tok _,⟨_,rfl⟩,q⟩
theorem CallR.or {f:Value}{r r':List V->Hp->VK->Prop}(h:CallR X f r)(h':CallR X f r'):CallR X f (fun xs H Q=>r xs H Q\/r' xs H Q):=by
 intro pins s σ H xs us Q I rs q
 rcases q with q | q
 ·exact h pins s σ H xs us Q I rs q
 ·exact h' pins s σ H xs us Q I rs q
theorem call_list_of:CallR X (.type "list") (fun xs H Q=>∃ p ys,xs=[.ref p]/\(SqL X.K H p ys\/SqT X.K H p ys)/\∀ l,H l=none->Q (.ref l) (upd H l (.lst ys))):=by
 intro pins s σ H xs us Q I r h
 obtain⟨p,ys,rfl,hq,q⟩:=h
 obtain⟨u,rfl,rx⟩:=vals1 r
 cases rx
 have fin:∀(its:List Value),Vals ys its->ys.length<=sizeLine->∀(h':Heap) (c':Nat),(∀ b o',s.heap.get? b=some o'->h'.get? b=some o') ->
  h'.get? s.heap.objs.size=some { cls:=.type "list",dict:=none,data:=.seq its.toArray c',slots:=#[]}->EP X pins σ Q (.ref s.heap.objs.size) { s with heap:=h'}:=fun its r' hz h' c' kp e =>
  ⟨.ref s.heap.objs.size,_,I.laid (t':=s.toks) kp (Nat.le_refl _) (show ObjOk X.prog X.w _ h' _ (.lst ys)from⟨hz,its,c',r',e⟩),rfl,q _ (I.hok.fresh (Nat.le_refl _))⟩
 rcases hq with hq | hq
 ·obtain⟨its,r',pl,hz⟩:=I.list hq
  have hlen:=r'.length
  obtain⟨o,ho,hc,n,hd⟩:=pl.isList
  exact call_list_seq p (.inl rfl) ho hc hd (fun h' c' kp e=>fin its r' hz h' c' kp e) (by simp only[List.size_toArray]<;> omega)
 ·obtain⟨its,r',pl,hz⟩:=I.tuple hq
  have hlen:=r'.length
  obtain⟨o,ho,hc,n,hd⟩:=pl
  exact call_list_seq p (.inr rfl) ho hc hd (fun h' c' kp e=>fin its r' hz h' c' kp e) (by simp only[List.size_toArray]<;> omega)
def tyV (K:PySem.W.Frag)(T:String)(x:V)(H:Hp):Prop:=match x with
 | .str _=>T = "str"
 | .int _=>T = "int"
 | .ref p=>(T = "list"/\∃ xs,SqL K H p xs)\/(T = "tuple"/\∃ o,K.lookup p=some o/\o.cls=.type "tuple"/\o.dict=none) \/
  (T = "dict"/\((∃ kvs,H p=some (.dK kvs))\/∃ kvs,H p=some (.dT kvs)))\/(T = "set"/\∃ S n,H p=some (.set S n))
 | _=>False
theorem tyV_is {pins:List (Addr×Obj)}{σ:St}{H:Hp}{s:Shared}{T:String}{x:V}{v:Value}(I:Inv X pins σ H s)(r:RelV x v)(ty:tyV X.K T x H) :
 s.TypeIs v T/\∀ a,v=.ref a->∃ ob,s.heap.get? a=some ob/\ob.dict=none:=by
 cases x with
 | str z =>
  obtain⟨t,rfl⟩:=r
  cases(show T = "str" from ty)
  exact⟨typeIs_str s z t,fun _ e=>nomatch e⟩
 | int i =>
  obtain⟨t,rfl⟩:=r
  cases(show T = "int" from ty)
  exact⟨typeIs_int s i t,fun _ e=>nomatch e⟩
 | ref p =>
  cases r
  rcases ty with⟨rfl,xs,hq⟩ | ⟨rfl,o,hk,hc,hd⟩ | ⟨rfl,hk⟩ | ⟨rfl,S,n,hk⟩
  ·obtain⟨its,_,pl,_⟩:=I.list hq
   refine⟨pl.isList.typeIs,fun a e=>?_⟩
   cases e
   obtain⟨o,n,e,c,hd,_⟩:=pl
   exact⟨o,e,hd⟩
  ·refine⟨⟨o,I.kIn p o hk,hc⟩,fun a e=>?_⟩
   cases e
   exact⟨o,I.kIn _ o hk,hd⟩
  ·have z:∃ o,s.heap.get? p=some o/\o.ExactDict:=by
    rcases hk with⟨kvs,hk⟩ | ⟨kvs,hk⟩
    ·obtain⟨_,_,_,_,o,_,_,e,ex,_⟩:=I.hok p _ hk
     exact⟨o,e,ex⟩
    ·obtain⟨_,_,_,_,o,_,_,e,ex,_⟩:=I.hok p _ hk
     exact⟨o,e,ex⟩
   obtain⟨o,e,ex⟩:=z
   refine⟨⟨o,e,ex.1⟩,fun a e2=>?_⟩
   cases e2
   exact⟨o,e,ex.2.1⟩
  ·obtain⟨o,_,_,_,e,ex,_⟩:=I.hok p _ hk
   refine⟨⟨o,e,ex.1⟩,fun a e2=>?_⟩
   cases e2
   exact⟨o,e,ex.2.1⟩
 | _=>exact False.elim ty
def tBM0 (K:PySem.W.Frag)(T:String)(r:V->List V->Hp->VK->Prop)(to:TE):TE:=fun σ H Q=>to σ H fun x H1=>tyV K T x H1/\r x [] H1 Q
def tBM (K:PySem.W.Frag)(T:String)(r:V->List V->Hp->VK->Prop)(to:TE)(t:TA):TE:=fun σ H Q=>to σ H fun x H1=>tyV K T x H1/\t σ H1 fun xs H2=>r x xs H2 Q
variable {o e:Expr}{es:List Expr}{to:TE}{t:TA}{name:Str}{apos cpos:Pos}{T id:String}{r:V->List V->Hp->VK->Prop}
theorem pe_bm0 (pa:PlainAttrs T)(slot:Slot T name id)(hty:typeOf (.builtin id)=pure (.type "method_descriptor"))(hm:MtR X id r)(ho:PE X o to)
 (hbase:attributeBase o name X.env (eval o X.env)=eval o X.env:=by rfl) (hline:(apos.endLine==cpos.line)=true:=by rfl):PE X (.Call (.Attribute o name apos) [] [] cpos) (tBM0 X.K T r to):=by
 intro pins s σ H Q I h
 refine wpAny_Call_method0_late hbase hline (thn (ho pins s σ H _ I h) fun v s1 hq5=>?_)
 obtain⟨x,H1,I1,r1,ty,q1⟩:=hq5
 obtain⟨h1,h2⟩:=tyV_is I1 r1 ty
 exact⟨T,id,pa,slot,hty,h1,h2,Calls.callWith_builtin rfl (PySem.evalArgs_none (hm pins s1 σ H1 x [] v [] Q I1 r1 .nil q1))⟩
theorem pe_bm (pa:PlainAttrs T)(slot:Slot T name id)(hty:typeOf (.builtin id)=pure (.type "method_descriptor"))(hm:MtR X id r)(ho:PE X o to)(ha:PA X (e::es) t)
 (hbase:attributeBase o name X.env (eval o X.env)=eval o X.env:=by rfl)
 (hfew:((backTo cpos (starEach (e::es) X.env)).all (fun x=>!x.1)&&(backToKw cpos (keywordEach [] X.env)).all (fun x=>x.1.isSome)
   && decide ((e::es).length+([]:List Keyword).length+(if([]:List Keyword).isEmpty then 0 else 1)<30))=true:=by rfl)
 (hline:(apos.endLine==cpos.line)=true:=by rfl) (hs:starEach (e::es) X.env=(false,eval e X.env)::starEach es X.env:=by rfl) (hplain:(backTo cpos (starEach es X.env)).any (·.1)=false:=by rfl) :
 PE X (.Call (.Attribute o name apos) (e::es) [] cpos) (tBM X.K T r to t):=by
 intro pins s σ H Q I h
 refine wpAny_Call_method_late hbase hfew hline rfl (thn (ho pins s σ H _ I h) fun v s1 hq6=>?_)
 obtain⟨x,H1,I1,r1,ty,q1⟩:=hq6
 obtain⟨h1,h2⟩:=tyV_is I1 r1 ty
 refine⟨T,id,pa,slot,hty,h1,h2,?_⟩
 have hA:=ha cpos pins s1 σ H1 _ I1 q1
 rw[hs]at hA ⊢
 refine Calls.callWith_builtin (by show(false||(backTo cpos (starEach es X.env)).any (·.1))=false;rw[hplain]<;> rfl) (Calls.evalArgs_plain ?_)
 exact thn hA fun us s2 hq0=>by obtain⟨vs,H2,I2,r2,q2⟩:=hq0;exact hm pins s2 σ H2 x vs v us Q I2 r1 r2 q2
end
def MtM (X:Cx)(id:String)(r:V->List V->Hp->VK->Prop):Prop :=
 ∀(pins:List (Addr×Obj)) (s:Shared) (σ:St) (H:Hp) (x:V) (xs:List V) (v:Value) (us:List Value) (Q:VK),Inv X pins σ H s->RelV x v->Vals xs us->r x xs H Q ->
  wpAny (model X.prog X.w) X.A (call (.builtin id) (v::us)) (EP X pins σ Q) X.xe s
theorem Vals.one {x:V}{us:List Value}(h:Vals [x] us):∃ u,us=[u]/\RelV x u:=by
 cases h with
 | cons r t=>cases t;exact⟨_,rfl,r⟩
theorem Vals.two {x y:V}{us:List Value}(h:Vals [x,y] us):∃ u v,us=[u,v]/\RelV x u/\RelV y v:=by
 cases h with
 | cons r t=>obtain⟨v,rfl,q⟩:=Vals.one t;exact⟨_,v,rfl,r,q⟩
theorem Vals.zero:∀ {us:List Value},Vals [] us->us=[]
 | _,.nil=>rfl
theorem Vals.dropLast {xs:List V}{us:List Value}(h:Vals xs us):Vals xs.dropLast us.dropLast:=by
 induction h with
 | nil=>exact .nil
 | cons r t ih =>
  cases t with
  | nil=>exact .nil
  | cons q t'=>exact .cons r ih
theorem erase_last {α:Type}(l:List α):l.eraseIdx (l.length - 1)=l.dropLast:=by
 induction l with
 | nil=>rfl
 | cons a r ih =>
  cases r with
  | nil=>rfl
  | cons b r =>
   have e:(a::b::r).length - 1=((b::r).length - 1)+1:=by
    have h1:(a::b::r).length=r.length+2:=rfl
    have h2:(b::r).length=r.length+1:=rfl
    omega
   rw[e,List.eraseIdx_cons_succ,ih]
   all_goals rfl
section
variable {X:Cx}{pins:List (Addr×Obj)}{σ:St}{H:Hp}{s:Shared}{l b:Addr}{xs ys zs:List V}
theorem Inv.lset {its its':List Value}{n:Nat}{f:Array Value->Array Value}{t':Nat}(I:Inv X pins σ H s)(hH:H l=some (.lst xs))
 (e:s.heap.get? l=some { cls:=.type "list",data:=.seq its.toArray n}) (hf:f its.toArray=its'.toArray) (hv:Vals ys its') (hz:ys.length<=sizeLine) :
 Inv X pins σ (upd H l (.lst ys)) { s with heap:=s.heap.update l (Obj.mapSeq f),toks:=t'}:=by
 have q:=PySem.IsL.update e f
 rw[hf]at q
 refine I.write (x:=l) (e:=l) (by rw[hH];exact trivial) (.inl rfl) (fun b' u hb hu=>(Heap.get?_update_other s.heap (Obj.mapSeq f) (Ne.symm hb)).trans hu) ⟨_,q⟩ ?_
 exact⟨hz,its',_,hv,q⟩
theorem Inv.lnew {its:List Value}{t':Nat}(I:Inv X pins σ H s)(hv:Vals ys its)(hz:ys.length<=sizeLine) :
 Inv X pins σ (upd H s.heap.objs.size (.lst ys)) { s with heap:=s.heap.push { cls:=.type "list",data:=.seq its.toArray},toks:=t'} :=
 I.laid (fun _ _ q=>gxL _ q) (Nat.le_refl _) ⟨hz,its,0,hv,Heap.get?_push_size _ rfl⟩
theorem Inv.fresh (I:Inv X pins σ H s):H s.heap.objs.size=none:=I.hok.fresh (Nat.le_refl _)
theorem Inv.lstM (I:Inv X pins σ H s)(hH:H l=some (.lst xs)):xs.length<=sizeLine/\∃(its:List Value) (n:Nat),Vals xs its/\xs.length=its.length/\s.heap.get? l=some { cls:=.type "list",data:=.seq its.toArray n}:=by
 obtain⟨z,its,n,r,e⟩:=I.hok l _ hH
 exact⟨z,its,n,r,r.length,e⟩
theorem notLongL {n:Nat}(h:n<=sizeLine):Builtin.List.listTooLong n=false:=by
 unfold Builtin.List.listTooLong
 exact decide_eq_false (by omega)
end
section
variable {X:Cx}
def rAppend:V->List V->Hp->VK->Prop:=fun x vs H Q=>∃ l xs y,x=.ref l/\vs=[y]/\H l=some (.lst xs)/\xs.length<sizeLine/\Q .non (upd H l (.lst (xs++[y])))
theorem mt_append:MtM X "list.append" rAppend:=by
 intro pins s σ H x vs v us Q I rx rv h
 obtain⟨l,xs,y,rfl,rfl,hH,hz,q⟩:=h
 cases rx
 obtain⟨u,rfl,ru⟩:=rv.one
 obtain⟨z,its,n,r,hl,e⟩:=I.lstM hH
 refine call_meets F.slot_list_append ⟨_,e,rfl⟩ F.entry_list_append (F.args_list_append_2 _ _) (PySem.list_append l its.toArray n u (by rw[List.size_toArray];omega)) ⟨e,?_⟩
 refine⟨.non,_,I.lset (its':=its++[u]) hH e (by simp) (r.append (.cons ru .nil)) ?_,rfl,q⟩
 rw[gxE,List.length_singleton]
 omega
def rExtend:V->List V->Hp->VK->Prop:=fun x vs H Q=>∃ l b xs zs,x=.ref l/\vs=[.ref b]/\H l=some (.lst xs)/\H b=some (.lst zs)/\xs.length+zs.length<=sizeLine/\Q .non (upd H l (.lst (xs++zs)))
theorem mt_extend:MtM X "list.extend" rExtend:=by
 intro pins s σ H x vs v us Q I rx rv h
 obtain⟨l,b,xs,zs,rfl,rfl,hH,hB,hz,q⟩:=h
 cases rx
 obtain⟨u,rfl,ru⟩:=rv.one
 cases ru
 obtain⟨z,its,n,r,hl,e⟩:=I.lstM hH
 obtain⟨z2,its2,n2,r2,hl2,e2⟩:=I.lstM hB
 have hsz:its.toArray.size+its2.toArray.size<=sizeLine:=by rw[List.size_toArray,List.size_toArray];omega
 have hlong:¬ (!its.toArray.isEmpty&&Builtin.List.listTooLong (its.toArray.size+its2.toArray.size))=true:=by
  rw[notLongL hsz,Bool.and_false]
  exact Bool.false_ne_true
 refine call_meets F.slot_list_extend ⟨_,e,rfl⟩ F.entry_list_extend (F.args_list_extend_2 _ _)
  (AutoSeq1.list_extend_list_list_0 l its.toArray n b its2.toArray n2 hlong (by rw[List.size_toArray];omega) (by omega)) ⟨e,e2,?_⟩
 refine⟨.non,_,I.lset (its':=its++its2) hH e (by simp) (r.append r2) ?_,rfl,q⟩
 rw[gxE]
 omega
def rPop:V->List V->Hp->VK->Prop:=fun x vs H Q=>∃ l xs y,x=.ref l/\vs=[]/\H l=some (.lst xs)/\xs[xs.length - 1]?=some y/\Q y (upd H l (.lst xs.dropLast))
theorem mt_pop:MtM X "list.pop" rPop:=by
 intro pins s σ H x vs v us Q I rx rv h
 obtain⟨l,xs,y,rfl,rfl,hH,hy,q⟩:=h
 cases rx
 have hus:=rv.zero
 subst hus
 obtain⟨z,its,n,r,hl,e⟩:=I.lstM hH
 obtain⟨u,hu,ru⟩:=r.get hy
 have hy':its.toArray[its.toArray.size - 1]?=some u:=by
  show its.toArray[its.length - 1]?=some u
  rw[<- Array.getElem?_toList,<- hl]
  exact hu
 refine call_meets F.slot_list_pop ⟨_,e,rfl⟩ F.entry_list_pop (F.args_list_pop_1 _) (MeetsSeq.list_pop_last l its.toArray n u hy' (by rw[List.size_toArray];omega)) ⟨e,?_⟩
 refine⟨y,_,I.lset (its':=its.dropLast) hH e ?_ r.dropLast ?_,ru,q⟩
 ·show its.toArray.eraseIdxIfInBounds (its.toArray.size - 1)=its.dropLast.toArray
  rw[List.size_toArray,List.eraseIdxIfInBounds_toArray,erase_last]
 ·rw[List.length_dropLast]
  omega
def rCat:R2:=fun x y H Q=>∃ l b xs zs,x=.ref l/\y=.ref b/\H l=some (.lst xs)/\H b=some (.lst zs)/\xs.length+zs.length<=sizeLine/\∀ p,H p=none->Q (.ref p) (upd H p (.lst (xs++zs)))
theorem op_cat:OpR X (binaryOp .Add) rCat:=by
 intro pins s σ H x y v u Q I rx ry h
 obtain⟨l,b,xs,zs,rfl,rfl,hH,hB,hz,q⟩:=h
 cases rx
 cases ry
 obtain⟨z,its,n,r,hl,e⟩:=I.lstM hH
 obtain⟨z2,its2,n2,r2,hl2,e2⟩:=I.lstM hB
 refine PySem.P.add_list e e2 ?_ (by rw[List.size_toArray,List.size_toArray];omega)
 have ea:its.toArray++its2.toArray=(its++its2).toArray:=by simp
 rw[ea]
 exact⟨.ref _,_,I.lnew (t':=s.toks) (r.append r2) (by rw[gxE];omega),rfl,q _ I.fresh⟩
end
section
variable {prog:Program}{w:World}{A:Around}{E:Value->Shared->Prop}{s:Shared}
theorem splice_eq (its its2:List Value)(a c:Nat):its.toArray.extract 0 a++its2.toArray++its.toArray.extract c its.toArray.size=(its.take a++its2++its.drop c).toArray:=by
 apply Array.toList_inj.mp
 first
  | (simp
     exact List.take_of_length_le (by simp))
  | simp[List.take_of_length_le]
  | simp
end
end L2
namespace Att
open PySem PySem.W PySem.Calls PyProof.Rows
theorem ints_of_wellAll {P:Params}{h:Heap}:∀(ns:List Int) (vs:List Value),WellAll P h vs (ns.map WData.int)->IntsAre vs ns:=by
 intro ns
 induction ns with
 | nil =>
  intro vs w
  rw[List.map_nil]at w
  cases w
  exact .nil
 | cons n ns ih =>
  intro vs w
  rw[List.map_cons]at w
  cases w with
  | cons a b =>
   cases a
   exact .cons _ _ (ih _ b)
theorem script_of {l:OpenLaw}{n:Nat}(hn:l.most=some n){P:Params}{h:Heap}{args:List WData}{vals:List Value}
 (hpre:l.row.toRowW.claim.pre args=true) (hwl:WellAll P h vals args) :
 ∃ a vs ns,vals=[Value.ref a]/\args=[WData.list (ns.map WData.int)]/\h.get? a=some { cls:=.type "list",data:=.seq vs.toArray}/\IntsAre vs ns/\ns.length<=n:=by
 have hsh:WShape.hasAll [] args [.list .int]=true:=(pre_splitW hpre).1
 have hc:l.pre.holds [] { args:=args}=true:=(pre_splitW hpre).2
 obtain⟨d,r,rfl,h1,h2⟩:=hasAllW_cons hsh
 obtain rfl:=hasAllW_nil h2
 obtain⟨xs,rfl,h3⟩:=hasW_list h1
 obtain⟨ns,rfl⟩:=items_int h3
 have hlen:ns.length<=n:=by
  unfold OpenLaw.pre at hc
  have h4:(WTm.not (.lt (.lit (.int (n:Int))) (.len (.arg 0)))).holds [] { args:=[.list (ns.map .int)]}=true:=by
   have h4:=(holds_andW hc).1
   rw[hn]at h4
   exact h4
  have h5:=condW_of h4 (w_not (w_lt w_lit (w_len_list (w_arg rfl))))
  rw[gxC]at h5
  refine Nat.le_of_not_lt fun q=>?_
  have q':(n:Int)<((ns.length:Nat):Int):=by omega
  first
   | (rw[decide_eq_true q']at h5;exact absurd h5 (by decide))
   | (simp at h5;omega)
 cases hwl with
 | cons w1 w2 =>
  cases w2
  cases w1 with
  | list ho hall=>exact⟨_,_,ns,rfl,rfl,ho,ints_of_wellAll ns _ hall,hlen⟩
theorem post_true (l:OpenLaw)(args:List WData):l.row.toRowW.claim.post args (.bool true) args=true :=
 postW_of (r:=l.row.toRowW) (X:=(true==true))
  (show WShape.has [] (.bool true) .bool=true by first | rfl | decide | simp[WShape.has,WShape.arms,WShape.armsAll])
  (show(WTm.eq .res (.lit (.bool true))).value [] { args:=args,res:=some (.bool true),after:=args}=some (.bool (true==true))from w_eq_bool (w_res rfl) w_lit) rfl
theorem attach_call {l:OpenLaw}{n:Nat}{q:Program}{loose:List Str}{XP:(Str->Option Value)->Heap->Prop}{YP:World->Heap->Prop}{d:DefRec}
 (hn:l.most=some n) (hdf:d.params.defaults=[])
 (call:∀(w:World) (s₀ s₁:Shared) (mg mb:Str->Option Value) (fa:Addr) (o:Obj) (pm cd doc:Value) (a:Addr) (vs:List Value) (ns:List Int),
   Ground q loose [] XP w s₀ mg mb s₁.heap->YP w s₁.heap ->
   s₁.heap.get? fa=some o->o.data=.func (docDef d.name d.params d.body d.scope pm cd doc)->s₁.heap.CodeRec cd d.name->mg d.name=some (.ref fa) ->
   s₁.heap.get? a=some { cls:=.type "list",data:=.seq vs.toArray}->IntsAre vs ns->ns.length<=n->s₁.gens=#[] ->
   codeAny (model l.prog w) callerA (.call (.ref fa) ⟨[.ref a],[]⟩) (fun r s'=>r=.ok (.ret (.bool true))/\OldK s₁.heap s'.heap/\s'.os=s₁.os/\AllBare s'.gens) s₁) :
 WalkO q loose XP YP l.row.toRowW d [] (fun f vs=>PySem.call f vs):=by
 intro w s₀ s₁ mg mb G Y fa o pm cd doc dV kV ho hd hcd hD hmg hg args vals as hpre hlay hrd hwl hlo
 obtain rfl:dV=.none:=Dflts.none hD hdf
 obtain rfl:kV=.none:=Dflts.noKw hD
 obtain⟨a,vs,ns,rfl,rfl,hobj,hints,hlen⟩:=script_of hn hpre hwl
 refine enter_call (codeAny_mono (call w s₀ s₁ mg mb fa o pm cd doc a vs ns G Y ho (fd_plain hd) hcd hmg hobj hints hlen hg) fun r s' hq=>?_)
 obtain⟨rfl,h2,h3,h4⟩:=hq
 exact⟨.inl ⟨.bool true,.bool true,[],rfl,fun _=>rfl,.bool true,post_true l _,fun _=>⟨List.Pairwise.nil,fun _ hm=>(nomatch hm)⟩⟩,h2,h3,h4⟩
end Att
namespace L2
open PySem PySem.Spec PyProof.Rows
theorem vals_ints {vs:List Value}{ns:List Int}(h:IntsAre vs ns):Vals (ns.map V.int) vs:=by
 induction h with
 | nil=>exact .nil
 | cons n t h ih=>exact .cons ⟨t,rfl⟩ ih
def Only (H:Hp):Prop:=∀ b,H b=none\/∃ o xs,H b=some (.frz o (.lst xs))
theorem law_call {P:Program}{w:World}{K:PySem.W.Frag}{mg mb:Str->Option Value}{CX:CXT}{k:Nat}{fa a:Addr}{fd:FuncData}{x:Str}{sp:Sp}{s₁:Shared}{vs:List Value}{ns:List Int}
 (KX:K.In s₁.heap) (hns:s₁.heap.Ns mainGlobals mg) (hb:s₁.heap.Ns builtinsNs mb) (hbb:∀ x:Str,x ≠ "__name__"->mb x=bootBuiltins x) (hlim:s₁.heap.NoLimit) (hg:s₁.gens=#[])
 (ha:s₁.heap.get? a=some { cls:=.type "list",data:=.seq vs.toArray}) (hi:IntsAre vs ns) (hl:ns.length<=sizeLine) (hr:Room k callerA)
 (F:∀ base:Heap,K.In base->base.Ns mainGlobals mg->FnOk P w K mg base CX k fa fd [x] sp) (hbind:∀(s:Shared) (u:Value),BindsTo s fd ⟨[u],[]⟩ [(x,u)])
 (hsp:∀ H:Hp,Only H->SqL K H a (ns.map V.int)->sp [.ref a] H (fun v _=>v=.bl true) fun _ _ _=>False)
 (hCX:∀ H e s',CX [] H s₁ (fun _ _ _=>False) e s'->False) :
 codeAny (model P w) callerA (.call (.ref fa) ⟨[.ref a],[]⟩) (fun r s'=>r=.ok (.ret (.bool true))/\OldK s₁.heap s'.heap/\s'.os=s₁.os/\AllBare s'.gens) s₁:=by
 have rv:=vals_ints hi
 have lenV:=hi.length
 have core:∀ H:Hp,Only H->SqL K H a (ns.map V.int)->HOk P w H s₁.heap->(∀ b,H b≠none->b=a)->(H a≠none->K.lookup a=none) ->
  codeAny (model P w) callerA (.call (.ref fa) ⟨[.ref a],[]⟩) (fun r s'=>r=.ok (.ret (.bool true))/\OldK s₁.heap s'.heap/\s'.os=s₁.os/\AllBare s'.gens) s₁:=by
  intro H hO hS hok hA hK
  have base_of:∀ {b:Addr} {o:Obj},s₁.heap.get? b=some o->H b=none->(hidT s₁.heap H).get? b=some o:=fun e n=>hidT_get e n
  have noA:∀ {b:Addr} {o:Obj} {es:Array DictEntry} {ep:Nat},s₁.heap.get? b=some o->o.data=.dict es ep->H b=none:=fun {b o es ep} e d=>by
   cases q:H b with
   | none=>rfl
   | some u =>
    have e':b=a:=hA b (by rw[q];simp)
    subst e'
    rw[ha]at e;cases e
    have d':Data.seq vs.toArray _=Data.dict es ep:=d
    cases d'
  have nsK:∀ {b:Addr} {m:Str->Option Value},s₁.heap.Ns b m->(hidT s₁.heap H).Ns b m:=fun {b m} hq1=>by obtain⟨o,es,ep,e,d,r⟩:=hq1;exact⟨o,es,ep,base_of e (noA e d),d,r⟩
  have hKb:K.In (hidT s₁.heap H):=fun b o e=>base_of (KX b o e) (by
   cases q:H b with
   | none=>rfl
   | some u =>
    have e':b=a:=hA b (by rw[q];simp)
    subst e'
    rw[hK (by rw[q];simp)]at e;cases e)
  have hM:Mod K mg (hidT s₁.heap H):=⟨hKb,nsK hns,⟨mb,nsK hb,hbb⟩,let ⟨mc,h1,h2⟩:=hlim;⟨mc,nsK h1,h2⟩⟩
  have e0:Env0 P w K mg (hidT s₁.heap H) callerA [] s₁ H:=⟨rfl,hM,fun b o e=>of_hidT e,Nat.le_of_eq (hidT_size _ _),trivial,fun b hb=>absurd (show b∈([]:List Addr)from hb) (by simp),hok,.of_eq hg⟩
  refine codeAny_mono ((F _ hKb (nsK hns)).run callerA [] s₁ H ⟨[.ref a],[]⟩ [.ref a] [.ref a] _ _ hr e0 (hbind s₁ (.ref a)) (.cons rfl .nil) (hsp H hO hS)) fun r s' h=>?_
  cases r with
  | error e=>exact(hCX H e s' h).elim
  | ok fl =>
   cases fl with
   | next=>exact False.elim h
   | brk=>exact False.elim h
   | cont=>exact False.elim h
   | ret u =>
    obtain⟨v,H',os,bare,un,hok',r',q⟩:=h
    have q':v=.bl true:=q
    subst q'
    obtain rfl:u=Value.bool true:=r'
    refine⟨rfl,OldK.of_keep fun b o e=>?_,os,bare⟩
    cases q:H b with
    | none=>exact un.keep b o e q (by intro z;exact absurd (show b∈([]:List Addr)from z) (by simp)) (by simp)
    | some u =>
     rcases hO b with z | ⟨ob,xs,z⟩
     ·rw[q]at z;cases z
     ·have z2:=un.frzs b ob _ z
      obtain⟨e1,_⟩:=hok b _ z
      obtain⟨e2,_⟩:=hok' b _ z2
      rw[e]at e1;cases e1
      exact e2
 cases hk:K.lookup a with
 | some o =>
  have e:=KX a o hk
  rw[ha]at e
  cases e
  refine core (fun _=>none) (fun _=>.inl rfl) (.inr ⟨_,vs.toArray,_,hk,rfl,rfl,rfl,by rw[List.size_toArray,lenV];exact hl,by simpa using rv⟩) (fun b u z=>by have z':(none:Option HO)=some u:=z;cases z') (fun b z=>absurd rfl z) fun z=>absurd rfl z
 | none =>
  refine core (fun b=>if b=a then some (.frz { cls:=.type "list",data:=.seq vs.toArray} (.lst (ns.map V.int)))else none) (fun b=>?_) (.inl (.inr ⟨{ cls:=.type "list",data:=.seq vs.toArray},if_pos rfl⟩)) (fun b u z=>?_) (fun b z=>?_) fun _=>hk
  ·by_cases hb:b=a
   ·exact .inr ⟨_,_,if_pos hb⟩
   ·exact .inl (if_neg hb)
  ·by_cases hb:b=a
   ·have z':=(if_pos hb).symm.trans z
    cases z'
    subst hb
    exact⟨ha,by rw[gxC];exact hl,vs,_,rv,ha⟩
   ·have z':=(if_neg hb).symm.trans z
    cases z'
  ·by_cases hb:b=a
   ·exact hb
   ·exact absurd (if_neg hb) z
theorem walk_of {l:PySem.W.OpenLaw}{n k:Nat}{q:Program}{loose:List Str}{XP:(Str->Option Value)->Heap->Prop}{YP:World->Heap->Prop}{d:DefRec}{K:Params->PySem.W.Frag}{CX:World->CXT}{sp:World->Sp}{x:Str}
 (hn:l.most=some n) (hn2:n<=sizeLine) (hdf:d.params.defaults=[]) (hr:Room k callerA)
 (hY:∀(w:World) (h:Heap),YP w h->(K w.params).In h)
 (F:∀(w:World) (mg:Str->Option Value) (fa:Addr) (h:Heap),(K w.params).In h->h.Ns mainGlobals mg->mg d.name=some (.ref fa) ->
   ∃ fd:FuncData,(∀(s:Shared) (u:Value),BindsTo s fd ⟨[u],[]⟩ [(x,u)]) /\
    ∀ base:Heap,(K w.params).In base->base.Ns mainGlobals mg->FnOk l.prog w (K w.params) mg base (CX w) k fa fd [x] (sp w))
 (hsp:∀(w:World) (H:Hp) (a:Addr) (ns:List Int),ns.length<=n->Only H->SqL (K w.params) H a (ns.map V.int)->sp w [.ref a] H (fun v _=>v=.bl true) fun _ _ _=>False)
 (hCX:∀(w:World) (H:Hp) (s:Shared) (e:Value) (s':Shared),CX w [] H s (fun _ _ _=>False) e s'->False) :
 PySem.W.WalkO q loose XP YP l.row.toRowW d [] (fun f vs=>PySem.call f vs):=by
 refine Att.attach_call hn hdf fun w s₀ s₁ mg mb fa o pm cd doc a vs ns G Y ho hd hcd hmg hobj hints hlen hg=>?_
 have KX:=hY w _ Y
 obtain⟨fd,hb,hF⟩:=F w mg fa _ KX G.T.g hmg
 exact law_call KX G.T.g G.T.b G.T.builtins G.T.nolimit hg hobj hints (Nat.le_trans hlen hn2) hr hF hb (fun H hO hS=>hsp w H a ns hlen hO hS) fun H e s'=>hCX w H s₁ e s'
def defArgs (s:Stmt):Arguments:=match s with
 | .FunctionDef _ a _ _ _ _ _ _ _ _=>a
 | _=>{ posonlyargs:=[],args:=[],vararg:=none,kwonlyargs:=[],kw_defaults:=[],kwarg:=none,defaults:=[]}
def defBody (s:Stmt):List Stmt:=match s with
 | .FunctionDef _ _ b _ _ _ _ _ _ _=>b
 | _=>[]
def defScope (s:Stmt):Scope:=match s with
 | .FunctionDef _ _ _ _ _ _ sc _ _ _=>sc
 | _=>{ kind:=.function,names:=[],isGenerator:=false,isCoroutine:=false}
abbrev CX0:CXT:=fun _ _ _ _ _ _=>False
abbrev E0:XK:=fun _ _ _=>False
theorem pass0 {X:Cx}:Passes CX0 X E0:=fun _ _ _ _ _ _ _ h=>h.elim
structure Fun (K:PySem.W.Frag)(x qual:Str)(st:Stmt)(f:Addr)(fd:FuncData):Prop where
 ex:∃(oc:Value) (od:Option Addr) (kV doc pm:Value) (an:Option Addr) (cdv ct:Value) (osl:Array (Option Value)),
  fd=PySem.W.fnOf x qual (defArgs st) (defBody st) (defScope st) .none kV doc pm an cdv ct/\K.lookup f=some ⟨oc,od,.func fd,osl⟩/\PySem.W.codeIn K cdv qual=true
 kp:PySem.W.keepIn K (.ref f)=true
section
variable {P:Program}{w:World}{K:PySem.W.Frag}{mg:Str->Option Value}{base:Heap}
theorem Fun.ok {x qual:Str}{st:Stmt}{f:Addr}{fd:FuncData}{N ps:List Str}{k:Nat}{sp:Sp}(F:Fun K x qual st f fd)(S:FnScope N ps (defScope st))(len:∀ vs H Q E,sp vs H Q E->vs.length=ps.length)
 (hbody:∀(cdv:Value) (A:Around) (outer:List Env) (s:Shared) (H:Hp) (vs:List V) (Q:VK) (E:XK),Room k (A.deeper (envOfC qual (defScope st) s.heap.objs.size f cdv))->sp vs H Q E ->
   ∃ t,PSs (cxOf CX0 P w K mg base N qual (defScope st) f cdv A outer s H E).nox (defBody st) t/\t { nx:=fun _ H'=>Q .non H',rt:=Q} (start N vs) H):FnOk P w K mg base CX0 (k+1) f fd ps sp:=by
 obtain⟨oc,od,kV,doc,pm,an,cdv,ct,osl,rfl,lk,hcd⟩:=F.ex
 refine fn_of lk hcd S len fun A outer s H vs Q E hr hsp=>?_
 obtain⟨t,h,q⟩:=hbody cdv A outer s H vs Q E hr hsp
 exact⟨t,h.nox,q⟩
theorem Fun.binds {x qual:Str}{st:Stmt}{f:Addr}{fd:FuncData}{ps:List Str}(F:Fun K x qual st f fd)
 (h:∀(kV doc pm:Value) (an:Option Addr) (cdv ct:Value) (us:List Value),us.length=ps.length->bindArgs (PySem.W.fnOf x qual (defArgs st) (defBody st) (defScope st) .none kV doc pm an cdv ct) ⟨us,[]⟩=pure (ps.zip us)):Binds K fd ps []:=by
 obtain⟨oc,od,kV,doc,pm,an,cdv,ct,osl,rfl,lk,hcd⟩:=F.ex
 exact .all (h kV doc pm an cdv ct)
theorem fun_mk {x qual:Str}{st:Stmt}{f:Addr}{oc:Value}{od an:Option Addr}{osl:Array (Option Value)}{kV doc pm cdv ct:Value}(l:K.lookup f=some ⟨oc,od,.func (PySem.W.fnOf x qual (defArgs st) (defBody st) (defScope st) .none kV doc pm an cdv ct),osl⟩)
 (c:PySem.W.codeIn K cdv qual=true) (k:PySem.W.keepIn K (.ref f)=true):Fun K x qual st f (PySem.W.fnOf x qual (defArgs st) (defBody st) (defScope st) .none kV doc pm an cdv ct):=⟨⟨oc,od,kV,doc,pm,an,cdv,ct,osl,rfl,l,c⟩,k⟩
end
theorem hu_of {A:Around}{k:Nat}(hr:Room k A):A.units+1<cLine:=Nat.lt_of_le_of_lt (Nat.add_le_add_left (by decide:1<=64) _) hr.units
section
variable {X:Cx}
theorem pv (i:Nat){x:Str}{pos:Pos}(hN:X.N[i]?=some x:=by rfl)(hv:Vis X.env.scope x:=by first | exact Or.inl rfl | exact Or.inr (Or.inl rfl) | exact Or.inr (Or.inr rfl))(hd:(x==("__debug__" : Str))=false:=by decide)
 (hcd:(x==("__classdict__" : Str))=false:=by decide):PE X (.Name x pos) (tVar i):=pe_var hN hv hd hcd
end
def Same (H H':Hp):Prop:=∀ b o,H b=some o->H' b=some o
theorem Same.refl (H:Hp):Same H H:=fun _ _ h=>h
theorem Same.trans {H H1 H2:Hp}(a:Same H H1)(b:Same H1 H2):Same H H2:=fun c o h=>b c o (a c o h)
theorem Same.free {H H':Hp}(e:Same H H'){l:Addr}(h:H' l=Option.none):H l=Option.none:=by
 cases q:H l with
 | none=>rfl
 | some o =>
  rw[e l o q]at h
  cases h
end L2
namespace L2
open PySem PySem.W PyProof.Rows
noncomputable abbrev twRun:=Fast.tw14082659384304107361
noncomputable abbrev twTab:=Fast.tw14364793385576792824
noncomputable abbrev twSeen:=Fast.tw4187177175401517315
noncomputable abbrev S00 (w:World)(os:OsState):Shared:=⟨boot_heap w.params,#[],boot_drawn,boot_toks,os⟩
theorem boot_size (P:Params):((boot_heap P).isNs mainGlobals,(boot_heap P).objs.size,(boot_heap P).nsMap mainGlobals "__annotations__")=(true,11,some (.ref 6)):=by kernel_rfl
theorem left_of {p q:Program}{loose:List Str}{Xt:Shared->Bool}{α:Type}{Yf:Shared->α}{Ya:World->α}{N M:Nat}
 (e:opening p=plainProg p.main.scope.names) (hN:Nat.ble 600 N=true) (f:∀ s,fenceModules? p s=some s) (le:Nat.ble M N=true)
 (h:∀(w:World) (os:OsState),(twRun twTab p w 11 (some (.ref 6)) M (S00 w os) (topStub p)).map (fun s =>
   (staticsOk (importedModules p.main.body) (boot_heap w.params) s.heap&&namesBound p s.heap&&gensDone s&&laidKept (boot_heap w.params) s.heap,twSeen q loose (importedModules p.main.body) Xt true s,Yf s))=some (true,openGood q loose,Ya w)) :
 LeftO p q loose Xt Yf Ya N:=fun w=>by
 obtain⟨⟨h0,gs,d,k,os⟩,e1,e2⟩:=Option.map_eq_some_iff.mp (boot_open e hN f w)
 obtain⟨rfl,rfl,rfl,rfl⟩:h0=boot_heap w.params/\gs=#[]/\d=boot_drawn/\k=boot_toks:=by simpa using e2
 have b:=boot_size w.params
 simp only[Prod.mk.injEq]at b
 obtain⟨s1,r,e3⟩:=Option.map_eq_some_iff.mp (h w os)
 simp only[Prod.mk.injEq]at e3
 have r':topRun treeTable p w 11 (some (.ref 6)) M (S00 w os) (topStub p)=some s1:=by
  rw[show topRun=twRun from Fast.te14082659384304107361,show treeTable=twTab from Fast.te14364793385576792824];exact r
 have r2:=topRun_mono (N - M) _ _ _ _ r'
 rw[show M+(N - M)=N by have:=Nat.le_of_ble_eq_true le;omega]at r2
 have t:topFrom treeTable p w N ⟨boot_heap w.params,#[],boot_drawn,boot_toks,os⟩=some s1:=by
  unfold topFrom
  dsimp only
  rw[b.1,b.2.1,b.2.2,r2]
  show(match staticsOk (importedModules p.main.body) (boot_heap w.params) s1.heap&&namesBound p s1.heap&&gensDone s1&&laidKept (boot_heap w.params) s1.heap with | true=>_ | false=>_)=_
  rw[e3.1]
 unfold openEnds
 rw[e1]
 show(topFrom treeTable p w N _).map _=_
 rw[t]
 refine congrArg some (Prod.ext ?_ e3.2.2)
 rw[<- e3.2.1]
 exact congrFun (congrFun (congrFun (congrFun (congrFun (congrFun Fast.te4187177175401517315 q) loose) (importedModules p.main.body)) Xt) true) s1
def enP (P:Params)(x:Str)(t:Nat)(v:Value):DictEntry:=⟨PyData.keyHash P x,.str x t,v⟩
def mainO (P:Params)(nm:Str)(t:Nat)(es:List (Str×Nat×Value)):Obj:=⟨.type "dict",none,.dict ((([("__name__",165,.str nm t),("__doc__",166,.none),("__package__",167,.none),("__loader__",168,.builtin "__main__.__loader__#opaque"),("__spec__",169,.none),("__annotations__",170,.ref 6),("__builtins__",171,.ref 4),("__file__",173,.str "/claim/cut.py" 172),("__cached__",174,.none)]:List (Str×Nat×Value))++es).map fun e=>enP P e.1 e.2.1 e.2.2).toArray (es.length+9),#[]⟩
abbrev sS (x:String):Str:=Str.ofString x
abbrev me (x:String)(t:Nat)(v:Value):Str×Nat×Value:=(Str.ofString x,t,v)
abbrev ko (a:Addr)(o:Obj):Addr×Obj:=(a,o)
abbrev sr (a:Addr):Option (Option Value):=some (some (.ref a))
abbrev sn:Option (Option Value):=some none
def fnQ (x q:Str)(s:Stmt)(pm:Value)(c:Addr):Obj:=⟨.type "function",none,.func (fnOf x q (defArgs s) (defBody s) (defScope s) .none .none .none pm none (.ref c) .none),#[]⟩
def coQ (x q:Str)(t l a r1 r2:Nat)(v1 v2:Value)(r3 t2:Nat):Obj:=⟨.type "code",none,.fields #[.str x t,.str q (t+1),.str "/claim/cut.py" (t+2),.int l 0,.int a 0,.int 0 0,.int 0 0,.int 3 0,.ref r1,.bool true,.int 181 0,.ref r2,.none,v1,v2,.ref r3,.int t2 0,.int l 0,.str "/claim/cut.py" (t2+1)],#[]⟩
theorem fun_of {K:Frag}{x q:Str}{s:Stmt}{f c:Addr}{pm:Value}(l:K.lookup f=some (fnQ x q s pm c):=by kernel_rfl)(c':codeIn K (.ref c) q=true:=by kernel_rfl)(k:keepIn K (.ref f)=true:=by kernel_rfl):Fun K x q s f (fnOf x q (defArgs s) (defBody s) (defScope s) .none .none .none pm none (.ref c) .none):=fun_mk l c' k
theorem bn1 {α:Type}{P:List α->Prop}(h:∀ a,P [a])(us:List α)(e:us.length=1):P us:=by
 obtain⟨a,rfl⟩:=List.length_eq_one_iff.mp e
 exact h a
theorem bnS {α:Type}{P:List α->Prop}{n:Nat}(h:∀ a us,us.length=n->P (a::us))(us:List α)(e:us.length=n+1):P us:=by
 cases us with
 | nil=>cases e
 | cons a us=>exact h a us (Nat.succ.inj e)
def clsBody (s:Stmt):List Stmt:=match s with
 | .ClassDef _ _ _ b _ _ _ _ _ _ _=>b
 | _=>[]
def defPos (s:Stmt):Pos:=match s with
 | .FunctionDef _ _ _ _ _ _ _ _ _ p=>p
 | _=>⟨0,0,0,0⟩
end L2
namespace L2
open PySem PySem.Spec PyProof.Rows
def closOf (cells:List (Str×Addr)):List (Str×NameKind)->List (Str×Addr)->List (Str×Addr)
 | [],acc=>acc
 | (n,k)::r,acc=>if k==.free then closOf cells r ((n,(cells.lookup n).getD 0)::acc)else closOf cells r acc
theorem closOf_run {env:Env}(f:Str×NameKind->List (Str×Addr)->Sem (ForInStep (List (Str×Addr))))
 (hf:∀ n k cs,f (n,k) cs=if k==.free then(do let a <- cellOf env n;pure (.yield ((n,a)::cs)))else pure (.yield cs)) :
 ∀(names:List (Str×NameKind)) (acc:List (Str×Addr)),(∀ y∈names,y.2=.free->∃ c,env.cells.lookup y.1=some c) ->
  forIn names acc f=pure (closOf env.cells names acc)
 | [],acc,_=>by rw[List.forIn_nil];rfl
 | (n,k)::r,acc,h=>by
  rw[List.forIn_cons,hf]
  unfold closOf
  have hr:∀ y∈r,y.2=.free->∃ c,env.cells.lookup y.1=some c:=fun y hy=>h y (gxI _ hy)
  by_cases hk:(k==NameKind.free)=true
  ·rw[if_pos hk,if_pos hk]
   obtain⟨c,hc⟩:=h (n,k) List.mem_cons_self (by simpa using hk)
   have hc':env.cells.lookup n=some c:=hc
   have e:cellOf env n=pure c:=by unfold cellOf;rw[hc']
   rw[e,hc',pure_bind,pure_bind]
   exact closOf_run f hf r _ hr
  ·rw[if_neg hk,if_neg hk,pure_bind]
   exact closOf_run f hf r _ hr
theorem closureFor_eq {scope:Scope}{env:Env}(h:∀ y∈scope.names,y.2=.free->∃ c,env.cells.lookup y.1=some c):closureFor scope env=pure (closOf env.cells scope.names []):=by
 simp only[closureFor]
 rw[closOf_run (env:=env) _ (fun n k cs=>by
  by_cases hk:(k==NameKind.free)=true
  ·simp only[hk,if_true]
  ·simp only[Bool.not_eq_true]at hk;simp only[hk,Bool.false_eq_true,if_false]) scope.names [] h]
 rfl
theorem closOf_mem {cells:List (Str×Addr)}:∀ {names:List (Str×NameKind)} {acc:List (Str×Addr)},(∀ y∈names,y.2=.free->∃ c,cells.lookup y.1=some c) ->
 ∀ n c,(n,c)∈closOf cells names acc->(n,c)∈acc\/cells.lookup n=some c
 | [],acc,_,n,c,h=>.inl h
 | (m,k)::r,acc,hf,n,c,h=>by
  unfold closOf at h
  have hr:∀ y∈r,y.2=.free->∃ c,cells.lookup y.1=some c:=fun y hy=>hf y (gxI _ hy)
  split at h
  ·rename_i hk
   rcases closOf_mem hr n c h with h | h
   ·rcases List.mem_cons.mp h with e | h
    ·cases e
     obtain⟨c,hc⟩:=hf (m,k) List.mem_cons_self (by simpa using hk)
     have hc':cells.lookup m=some c:=hc
     exact .inr (by rw[hc'];rfl)
    ·exact .inl h
   ·exact .inr h
  ·exact closOf_mem hr n c h
theorem closOf_acc {cells:List (Str×Addr)}:∀(names:List (Str×NameKind)) (acc:List (Str×Addr)) (n:Str),(acc.lookup n).isSome=true->((closOf cells names acc).lookup n).isSome=true
 | [],acc,n,h=>h
 | (m,k)::r,acc,n,h=>by
  unfold closOf
  split
  ·refine closOf_acc r _ n ?_
   rw[List.lookup_cons]
   cases n==m
   ·exact h
   ·rfl
  ·exact closOf_acc r _ n h
theorem closOf_has {cells:List (Str×Addr)}:∀(names:List (Str×NameKind)) (acc:List (Str×Addr)) (n:Str),(n,NameKind.free)∈names->((closOf cells names acc).lookup n).isSome=true
 | (m,k)::r,acc,n,h=>by
  unfold closOf
  rcases List.mem_cons.mp h with e | h
  ·cases e
   refine closOf_acc r _ m ?_
   simp
  ·split
   ·exact closOf_has r _ n h
   ·exact closOf_has r _ n h
theorem cellsFrom_app:∀(names:List (Str×NameKind)) (n:Nat) (a b:List (Str×Addr)),cellsFrom n names (a++b)=cellsFrom n names a++b
 | [],_,_,_=>rfl
 | (m,k)::r,n,a,b=>by
  unfold cellsFrom
  split
  ·exact cellsFrom_app r (n+1) ((m,n)::a) b
  ·exact cellsFrom_app r n a b
theorem newEnv_comp {M:Model}{A:Around}{E:Value->Shared->Prop}{s:Shared}{scope:Scope}{cl:List (Str×Addr)}{env:Env}{Q:Env->Shared->Prop}
 (h:Q (newEnv scope s.heap.objs.size env.globals (cellsFrom (s.heap.objs.size+1) scope.names cl) env.qual none .none (some env) builtinsNs) { s with heap:=pushCells (s.heap.push { cls:=.type "dict",data:=.dict #[]}) scope.names}) :
 wpAny M A (newFunctionEnv scope env.globals cl [] env.qual none .none (some env)) Q E s:=by
 simp only[newFunctionEnv,Option.isSome_some,if_true]
 refine gxM (wpAny_alloc ?_)
 refine gxM (wpAny_layCells _ (fun name kind cells=>by cases hkc:kind==NameKind.cell <;> simp[hkc]) _ _ _ _ ?_)
 rw[show({ s with heap:=s.heap.push { cls:=.type "dict",data:=.dict #[]}}:Shared).heap.objs.size=s.heap.objs.size+1 from Heap.size_push ..]
 rw[List.forIn_nil]
 exact gxM (wpAny_pure (wpAny_pure h))
def startC (js:List (Option Nat))(σ:St):St:=js.map fun o=>o.bind fun j=>(σ[j]?).join
def compChk (XN:List Str)(xsc:Scope)(N:List Str)(js:List (Option Nat))(sc:Scope):Bool :=
 (sc.kind==.function)&&(sc.names.all fun y=>(y.2 != .local)||(sc.names.lookup y.1==some .local)) &&
 (sc.names.all fun y=>(y.2 != .free)||(xsc.names.lookup y.1==some .cell)||(xsc.names.lookup y.1==some .free)) &&
 (js.length==N.length)&&decide N.Nodup &&
 ((N.zip js).all fun p=>match p.2 with
   | none=>true
   | some j=>XN[j]?==some p.1&&sc.names.contains (p.1,NameKind.free)&&sc.names.lookup p.1==some .free&&!(sc.names.contains (p.1,NameKind.cell)))
structure CompOk (X:Cx)(N:List Str)(js:List (Option Nat))(sc:Scope):Prop where
 kind:sc.kind=.function
 loc:∀ y∈sc.names,y.2=.local->sc.names.lookup y.1=some .local
 free:∀ y∈sc.names,y.2=.free->X.env.kindOf y.1=some .cell\/X.env.kindOf y.1=some .free
 len:js.length=N.length
 nd:N.Nodup
 slot:∀(i:Nat) (x:Str) (j:Nat),N[i]?=some x->js[i]?=some (some j)->X.N[j]?=some x/\(x,NameKind.free)∈sc.names/\sc.names.lookup x=some .free/\(x,NameKind.cell)∉sc.names
theorem compOk {X:Cx}{XN:List Str}{xsc:Scope}{N:List Str}{js:List (Option Nat)}{sc:Scope}(h:compChk XN xsc N js sc=true)(hN:X.N=XN:=by rfl)(hs:X.env.scope=xsc:=by rfl):CompOk X N js sc:=by
 subst hN;subst hs
 unfold compChk at h
 simp only[Bool.and_eq_true,List.all_eq_true,Bool.or_eq_true,bne_iff_ne,beq_iff_eq,decide_eq_true_eq]at h
 obtain⟨⟨⟨⟨⟨h1,h2⟩,h3⟩,h4⟩,h5⟩,h6⟩:=h
 refine⟨h1,fun y hy e=>(h2 y hy).resolve_left fun z=>z e,fun y hy e=>?_,h4,h5,fun i x j e1 e2=>?_⟩
 ·rcases h3 y hy with(z | z) | z
  ·exact absurd e z
  ·exact .inl z
  ·exact .inr z
 ·have hm:(x,some j)∈N.zip js:=List.mem_iff_getElem?.mpr ⟨i,by rw[List.getElem?_zip_eq_some];exact⟨e1,e2⟩⟩
  have q:=h6 _ hm
  simp only[Bool.and_eq_true,beq_iff_eq,List.contains_iff_mem,Bool.not_eq_true',List.contains_eq_mem,decide_eq_true_eq,decide_eq_false_iff_not]at q
  exact⟨q.1.1.1,q.1.1.2,q.1.2,q.2⟩
theorem cellsFrom_mem:∀(names:List (Str×NameKind)) (n:Nat) (acc:List (Str×Addr)) (x:Str) (c:Addr),(x,c)∈cellsFrom n names acc->(x,NameKind.cell)∈names\/(x,c)∈acc
 | [],_,_,_,_,h=>.inr h
 | (m,k)::r,n,acc,x,c,h=>by
  unfold cellsFrom at h
  split at h
  ·rename_i hk
   rcases cellsFrom_mem r _ _ x c h with h | h
   ·exact .inl (gxI _ h)
   ·rcases List.mem_cons.mp h with e | h
    ·cases e
     have hk':k=NameKind.cell:=by simpa using hk
     exact .inl (by rw[hk'];exact List.mem_cons_self)
    ·exact .inr h
  ·rcases cellsFrom_mem r _ _ x c h with h | h
   ·exact .inl (gxI _ h)
   ·exact .inr h
theorem lookup_mapk {α β:Type}(g:Str->α->β):∀(l:List (Str×α)) (x:Str),(l.map fun p=>(p.1,g p.1 p.2)).lookup x=(l.lookup x).map (g x)
 | [],_=>rfl
 | (n,k)::r,x=>by
  rw[List.map_cons,List.lookup_cons,List.lookup_cons]
  cases hb:x==n with
  | true=>rw[beq_iff_eq.mp hb];rfl
  | false=>exact lookup_mapk g r x
def relK (env:Env)(x:Str)(k:NameKind):NameKind:=if(k==.free&&env.scope.kind==.function&&env.kindOf x==some .cell)then .cell else k
theorem lookup_relabel {sc:Scope}{env:Env}{x:Str}:(relabel sc env).names.lookup x=(sc.names.lookup x).map (relK env x):=by
 rw[<- lookup_mapk]
 unfold relabel
 congr 1
 refine List.map_congr_left fun p _=>?_
 obtain⟨n,k⟩:=p
 show(if _ then _ else _)=(n,relK env n k)
 unfold relK
 split <;> rfl
theorem relK_vis {env:Env}{x:Str}{k:NameKind}(h:relK env x k=.cell\/relK env x k=.free):k=.cell\/k=.free:=by
 unfold relK at h
 split at h
 ·rename_i q
  simp only[Bool.and_eq_true,beq_iff_eq]at q
  exact .inr q.1.1
 ·exact h
theorem relK_free {env:Env}{x:Str}:relK env x .free=.cell\/relK env x .free=.free:=by
 unfold relK
 split
 ·exact .inl rfl
 ·exact .inr rfl
def envC (sc:Scope)(C:Addr)(env:Env):Env where
 scope:=relabel sc env
 locals:=C
 globals:=env.globals
 cells:=cellsFrom (C+1) sc.names (closOf env.cells sc.names [])
 qual:=env.qual
 func:=none
 code:=env.code
 frame:=env.frame
 builtins:=env.builtins
def cxC (X:Cx)(N:List Str)(sc:Scope)(fp:List Addr)(s:Shared)(H:Hp):Cx where
 prog:=X.prog
 w:=X.w
 K:=X.K
 mg:=X.mg
 base:=X.base
 A:=X.A
 N:=N
 s₀:=s
 H₀:=H
 env:=envC sc (s.heap.objs.size+1) X.env
 outer:=X.stack
 stack:=X.stack
 ex:=fp
 fn:=fun x=>sc.names.lookup x==some .cell
 calm:=X.calm
 pn:=[]
 xe:=fun _ _=>False
def heapC (sc:Scope)(h:Heap):Heap:=pushCells ((h.push { cls:=.type "list",dict:=none,data:=.seq ([]:List Value).toArray}).push { cls:=.type "dict",data:=.dict #[]}) sc.names
theorem heapC_keeps {sc:Scope}{h:Heap}:∀ b o,h.get? b=some o->(heapC sc h).get? b=some o:=fun b o e=>pushCells_keeps _ _ b o (gxL _ (gxL _ e))
theorem heapC_acc {sc:Scope}{h:Heap}:(heapC sc h).get? h.objs.size=some { cls:=.type "list",dict:=none,data:=.seq ([]:List Value).toArray} :=
 pushCells_keeps _ _ _ _ (gxL _ (Heap.get?_push_size _ rfl))
theorem getStart {js:List (Option Nat)}{σ:St}{i:Nat}{v:V}(h:(startC js σ)[i]?=some (some v)):∃ j,js[i]?=some (some j)/\σ[j]?=some (some v):=by
 unfold startC at h
 rw[gxH]at h
 cases e:js[i]? with
 | none=>rw[e]at h;cases h
 | some o =>
  rw[e]at h
  cases o with
  | none=>cases h
  | some j =>
   refine⟨j,rfl,?_⟩
   have h':(σ[j]?).join=some v:=Option.some.inj h
   cases q:σ[j]? with
   | none=>rw[q]at h';cases h'
   | some z=>rw[q]at h';have:z=some v:=h';rw[this]
section
variable {X:Cx}{pins:List (Addr×Obj)}{σ:St}{H:Hp}{s:Shared}{N:List Str}{js:List (Option Nat)}{sc:Scope}{fp:List Addr}
theorem inv_comp (I:Inv X pins σ H s)(hc:CompOk X N js sc)(hf:∀ b∈fp,FpOk X pins H b)(ho:∀ b∈fp,∃ o,s.heap.get? b=some o)(tk:Nat) :
 Inv (cxC X N sc fp s H) [] (startC js σ) H { s with heap:=heapC sc s.heap,toks:=tk}:=by
 have hC:(s.heap.push { cls:=.type "list",dict:=none,data:=.seq ([]:List Value).toArray}).objs.size=s.heap.objs.size+1:=Heap.size_push ..
 have freeX:∀ y∈sc.names,y.2=.free->∃ c,X.env.cells.lookup y.1=some c:=fun y hy e=>I.ok.has y.1 (hc.free y hy e)
 have ok:=cellsFrom_ok sc.names ((s.heap.push { cls:=.type "list",dict:=none,data:=.seq ([]:List Value).toArray}).push { cls:=.type "dict",data:=.dict #[]}) (s.heap.objs.size+1+1) [] ⟨fun _ _ hm=>(nomatch hm),List.Pairwise.nil⟩
  (by rw[Heap.size_push,hC];exact Nat.le_refl _)
 rw[Heap.size_push,hC]at ok
 have eC:(envC sc (s.heap.objs.size+1) X.env).cells=cellsFrom (s.heap.objs.size+1+1) sc.names []++closOf X.env.cells sc.names []:=cellsFrom_app sc.names _ [] _
 have lk:∀ x c,(envC sc (s.heap.objs.size+1) X.env).cells.lookup x=some c->(x,c)∈cellsFrom (s.heap.objs.size+1+1) sc.names []\/X.env.cells.lookup x=some c:=fun x c e=>by
  rw[eC]at e
  rcases List.mem_append.mp (mem_of_lookup e)with h | h
  ·exact .inl h
  ·rcases closOf_mem freeX x c h with h | h
   ·cases h
   ·exact .inr h
 have big:∀(x:Str) (c:Nat),(x,c)∈cellsFrom (s.heap.objs.size+1+1) sc.names []->s.heap.objs.size+1+1<=c:=fun x c h=>(ok.empty x c h).2
 have small:∀(x:Str) (c:Nat),X.env.cells.lookup x=some c->c<s.heap.objs.size:=fun x c h=>let ⟨_,q⟩:=I.cell x c h;q.lt
 have has:∀ x,((envC sc (s.heap.objs.size+1) X.env).kindOf x=some .cell\/(envC sc (s.heap.objs.size+1) X.env).kindOf x=some .free)->∃ c,(envC sc (s.heap.objs.size+1) X.env).cells.lookup x=some c:=fun x h=>by
  have h':(relabel sc X.env).names.lookup x=some .cell\/(relabel sc X.env).names.lookup x=some .free:=h
  rw[lookup_relabel]at h'
  rw[eC,List.lookup_append]
  cases q:sc.names.lookup x with
  | none=>rw[q]at h';rcases h' with h' | h' <;> cases h'
  | some k =>
   rw[q]at h'
   have hk:=relK_vis (env:=X.env) (x:=x) (k:=k) (h'.elim (fun z=>.inl (Option.some.inj z)) fun z=>.inr (Option.some.inj z))
   rcases hk with rfl | rfl
   ·obtain⟨c,hc'⟩:=cell_has (n:=s.heap.objs.size+1+1) q
    exact⟨c,by rw[hc'];rfl⟩
   ·have z:=closOf_has (cells:=X.env.cells) sc.names [] x (mem_of_lookup q)
    obtain⟨c,hc'⟩:=Option.isSome_iff_exists.mp z
    cases q2:(cellsFrom (s.heap.objs.size+1+1) sc.names []).lookup x with
    | none=>exact⟨c,by rw[hc'];rfl⟩
    | some d=>exact⟨d,rfl⟩
 have okY:(cxC X N sc fp s H).Ok:=by
  refine⟨I.ok.mod,hc.kind,I.ok.glob,I.ok.blt,Nat.le_succ _,fun x y c h1 h2=>?_,has,fun x c hx h=>?_,I.ok.hd,I.ok.frames,.inl rfl,fun b hb=>⟨?_,fun x c h=>?_⟩,I.bs,Nat.le_trans I.ok.bsz I.sz,fun b o e hb=>?_,fun b hb hs=>?_,I.stack,I.stkFree⟩
  ·rcases lk x c h1 with g1 | g1 <;> rcases lk y c h2 with g2 | g2
   ·exact name_of_addr ok.apart g1 g2
   ·exact absurd (Nat.lt_of_lt_of_le (small _ _ g2) (Nat.le_trans (Nat.le_add_right _ 2) (big _ _ g1))) (Nat.lt_irrefl _)
   ·exact absurd (Nat.lt_of_lt_of_le (small _ _ g1) (Nat.le_trans (Nat.le_add_right _ 2) (big _ _ g2))) (Nat.lt_irrefl _)
   ·exact I.ok.inj x y c g1 g2
  ·have hx':sc.names.lookup x=some .cell:=by simpa [cxC]using hx
   have h':(envC sc (s.heap.objs.size+1) X.env).cells.lookup x=some c:=h
   rw[eC,List.lookup_append]at h'
   obtain⟨c2,hc'⟩:=cell_has (n:=s.heap.objs.size+1+1) hx'
   rw[hc']at h'
   have e:c2=c:=Option.some.inj h'
   subst e
   exact Nat.le_trans (Nat.le_add_right _ 2) (big _ _ (mem_of_lookup hc'))
  ·obtain⟨o,e⟩:=ho b hb
   exact Nat.ne_of_lt (Nat.lt_succ_of_lt (gxN e))
  ·obtain⟨o,e⟩:=ho b hb
   have l:=gxN e
   rcases lk x c h with g | g
   ·exact Nat.ne_of_gt (Nat.lt_of_lt_of_le l (Nat.le_trans (Nat.le_add_right _ 2) (big _ _ g)))
   ·exact(hf b hb).2.2.2.2.1 x c g
  ·rcases(hf b hb).2.2.2.1 with z | z
   ·exact I.ok.noex b o e z
   ·exact absurd (Nat.lt_of_lt_of_le (gxN e) (Nat.le_trans I.ok.bsz z)) (Nat.lt_irrefl _)
  ·rcases List.mem_cons.mp (I.stkSub b hs)with z | z
   ·exact(hf b hb).2.1 z
   ·exact(hf b hb).2.2.1 z
 have keepH:∀ b u,s.heap.get? b=some u->(heapC sc s.heap).get? b=some u:=heapC_keeps
 have nsC:(heapC sc s.heap).Ns (s.heap.objs.size+1) fun _=>none:=by
  have q:=(Heap.Ns.new (s.heap.push { cls:=.type "list",dict:=none,data:=.seq ([]:List Value).toArray}) (.type "dict")).keeps (pushCells_keeps sc.names _)
  rw[hC]at q
  exact q
 refine⟨okY,rfl,I.bare,Un.kept keepH,⟨_,nsC,fun i x v e1 e2 e3=>?_⟩,fun x c h=>?_,I.hok.fresh (Nat.le_succ _),fun x c h=>?_,fun p hp=>absurd (show p∈([]:List (Addr×Obj))from hp) (by simp),I.hok.kept keepH,?_⟩
 ·obtain⟨j,hj,hv⟩:=getStart e2
  obtain⟨g1,g2,g3,g4⟩:=hc.slot i x j e1 hj
  have kx:=hc.free _ g2 rfl
  obtain⟨m,hn,hl⟩:=I.loc
  obtain⟨u,r,l⟩:=hl j x v g1 hv (.inr kx)
  refine⟨u,r,?_⟩
  rcases l with⟨z,_⟩ | ⟨_,c,hcc,hcell⟩
  ·have z':X.env.kindOf x=some .local:=z
   rcases kx with k | k <;> (have k':X.env.kindOf x=_:=k;rw[z']at k';cases k')
  ·have kY:(envC sc (s.heap.objs.size+1) X.env).kindOf x=some .cell\/(envC sc (s.heap.objs.size+1) X.env).kindOf x=some .free:=by
    show(relabel sc X.env).names.lookup x=some .cell\/(relabel sc X.env).names.lookup x=some .free
    rw[lookup_relabel,g3]
    rcases relK_free (env:=X.env) (x:=x)with q | q
    ·exact .inl (show some (relK X.env x .free)=_ by rw[q])
    ·exact .inr (show some (relK X.env x .free)=_ by rw[q])
   obtain⟨c',h'⟩:=has x kY
   refine .inr ⟨kY,c',h',?_⟩
   rcases lk x c' h' with g | g
   ·rcases cellsFrom_mem _ _ _ _ _ g with z | z
    ·exact absurd z g4
    ·cases z
   ·rw[hcc]at g;cases g
    exact hcell.keeps keepH
 ·rcases lk x c h with g | g
  ·exact⟨_,(ok.empty x c g).1⟩
  ·obtain⟨v,q⟩:=I.cell x c g
   exact⟨v,q.keeps keepH⟩
 ·rcases lk x c h with g | g
  ·exact I.hok.fresh (Nat.le_trans (Nat.le_add_right _ 2) (big _ _ g))
  ·exact I.freeC x c g
 ·show(startC js σ).length=N.length
  unfold startC
  rw[gxC];exact hc.len
end
section
variable {X:Cx}{pins:List (Addr×Obj)}{σ:St}{H:Hp}{s:Shared}
theorem Inv.adopt {D:Addr}{ys:List V}{its:List Value}{n:Nat}(I:Inv X pins σ H s)(hn:H D=none)(hL:D≠X.env.locals)(h1:X.s₀.heap.objs.size<=D)(h2:∀ x c,X.env.cells.lookup x=some c->c≠D)(h3:∀ p∈X.pn++pins,p.1≠D)
 (e:s.heap.get? D=some { cls:=.type "list",data:=.seq its.toArray n}) (r:Vals ys its) (hz:ys.length<=sizeLine):Inv X pins σ (upd H D (.lst ys)) s:=by
 have ne:∀ b,b∉[D]->b≠D:=fun b h z=>h (by simp[z])
 refine I.step (g':=s.gens) (d':=s.drawn) (t':=s.toks) (h':=s.heap) (ch:=[D]) (fun b hb=>?_) (fun b o _ _ _ q _=>q) (fun b o _ _ _ q _=>⟨o.slots,q⟩) (fun b o hb q z=>by rw[upd_ne (ne b hb)];exact z) (fun b o _ q=>⟨o,q⟩)
  (fun b xs q=>by rw[upd_ne (ne_of_none q hn)];exact q) (fun b o u q=>by rw[upd_ne (ne_of_none q hn)];exact q) (fun b ps q=>⟨#[],by rw[upd_ne (ne_of_none q hn),q];simp⟩) (fun m q=>q) (fun b u q=>?_) I.bare
 ·have z:b=D:=by simpa using hb
  subst z
  exact⟨.inr h1,hL,h2,h3⟩
 ·by_cases hb:b=D
  ·subst hb;rw[upd_same]at q;cases q
   exact⟨hz,its,n,r,e⟩
  ·rw[upd_ne hb]at q
   exact(I.hok b u q).stay (fun c v _ z=>z) (fun c z=>by rw[upd_ne (ne_of_none z hn)];exact z) fun c xs z=>by rw[upd_ne (ne_of_none z hn)];exact z
def PTs (X:Cx)(ifs:List Expr)(t:TT):Prop :=
 ∀(pins:List (Addr×Obj)) (s:Shared) (σ:St) (H:Hp) (Q:Bool->Hp->Prop),Inv X pins σ H s->t σ H Q ->
  wpAny (model X.prog X.w) X.A (forIn ifs true fun c r=>if r=true then do let ok <- isTrue c X.env (eval c X.env);pure (ForInStep.yield ok)else pure (ForInStep.yield r)) (TP X pins σ Q) X.xe s
def tYes:TT:=fun _ H Q=>Q true H
theorem pts_nil:PTs X [] tYes:=fun _ _ _ H _ I h=>wpAny_tests_nil ⟨H,I,h⟩
theorem pts_one {c:Expr}{t:TT}(h:PT X c t):PTs X [c] t:=fun pins s σ H Q I q=>wpAny_tests_one (h pins s σ H Q I q)
def Ext (σ σ':St):Prop:=σ.length=σ'.length/\∀(i:Nat) v,σ[i]?=some (some v)->σ'[i]?=some (some v)
theorem Ext.own2 {v u:Option V}{r:St}:Ext (none::none::r) (v::u::r):=⟨rfl,fun i z h=>by
 match i,h with
 | 0,h=>simp at h
 | 1,h=>simp at h
 | i+2,h=>simpa using h⟩
def wComp (js:List (Option Nat))(g:TG)(tt:TT)(te:TE)(J:It)(σ:St)(H1:Hp)(fin:List V->Hp->Prop):Prop :=
 ∃ W:Nat->Nat->List V->Hp->Prop,(∃ m,W 0 m [] H1)/\∀ i m ys H,W i m ys H ->
  (J.stop i H/\fin ys H)\/(J.go i H/\∀ x H',J.yld i H x H'->g x (startC js σ) H' fun σ2 H2=>Ext (startC js σ) σ2/\tt σ2 H2 fun b H3 =>
    if b=true then te σ2 H3 fun y H4=>ys.length<sizeLine/\∃ m',m'<m/\W (i+1) m' (ys++[y]) H4 else ∃ m',m'<m/\W (i+1) m' ys H3)
theorem compLoop_any {prog:Program}{w:World}{A:Around}{R:Result->Shared->Prop}{s:Shared}{elt target iter:Expr}{ifs:List Expr}{scope:Scope}{pos:Pos}{it acc:Value}{env:Env}(I:Nat->Shared->Prop)
 (turn:∀ n s,I n s->wpAny (model prog w) A (pyNext it) (fun r s₁=>match r with
   | none=>R (.ok .next) s₁
   | some v=>wpAny (model prog w) A (letOwnedTupleGo target it v) (fun _ s₁'=>wpAny (model prog w) A (assign target env v) (fun _ s₂ =>
    wpAny (model prog w) A (forIn ifs true fun c r=>if r=true then do let ok <- isTrue c env (eval c env);pure (ForInStep.yield ok)else pure (ForInStep.yield r)) (fun ok s₃ =>
     if ok=true then wpAny (model prog w) A (eval elt env) (fun x s₄ =>
      wpAny (model prog w) A (call (.builtin "list.append") [acc,x]) (fun _ s₅=>∃ m,m<n/\I m s₅) (fun _ _=>False) s₄) (fun _ _=>False) s₃
     else ∃ m,m<n/\I m s₃) (fun _ _=>False) s₂) (fun _ _=>False) s₁') (fun _ _=>False) s₁) (fun _ _=>False) s)
 (n:Nat) (h:I n s) :
 codeAny (model prog w) A (.compLoop (.ListComp elt [⟨target,iter,ifs,0⟩] scope pos) 0 it acc env) R s:=by
 refine codeAny_loop rfl I (fun n s hI=>?_) n h
 show wpAny _ A ((compTurn (.ListComp elt [⟨target,iter,ifs,0⟩] scope pos) 0 it acc env).onRaise (fun x=>do noteFrame x env;theTreesLotGoes x)) _ _ s
 refine wpAny_noted ?_
 rw[compTurn_list]
 refine gxM (wpAny_standAt (gxM (wpAny_mono (turn n s hI) (fun r s₁ h₁=>?_) fun _ _ h'=>h'.elim)))
 cases r with
 | none=>exact wpAny_pure h₁
 | some v =>
  refine gxM (wpAny_mono h₁ (fun _ s₁' h₁'=>?_) fun _ _ h'=>h'.elim)
  refine gxM (wpAny_mono h₁' (fun _ s₂ h₂=>gxM (wpAny_mono h₂ (fun ok s₃ h₃=>?_) fun _ _ h'=>h'.elim)) fun _ _ h'=>h'.elim)
  cases ok with
  | false=>exact wpAny_pure ⟨rfl,h₃⟩
  | true =>
   exact gxM (gxM (wpAny_mono h₃ (fun x s₄ h₄=>gxM (wpAny_mono h₄ (fun _ s₅ h₅=>wpAny_pure (wpAny_pure ⟨rfl,h₅⟩)) fun _ _ h'=>h'.elim)) fun _ _ h'=>h'.elim))
variable {N:List Str}{js:List (Option Nat)}{sc:Scope}{fp:List Addr}{tg elt iter:Expr}{ifs:List Expr}{g:TG}{tt:TT}{te:TE}
def lobj (its:List Value)(n:Nat):Obj:={ cls:=.type "list",data:=.seq its.toArray n}
theorem comp_block {J:It}{it:Addr}{tn:Nat->Heap->Prop}{pos:Pos}{R:Result->Shared->Prop}{fin:List V->Hp->Prop}{tk:Nat}(I:Inv X pins σ H s)(hc:CompOk X N js sc){CM:Cx->Prop}(calm:CM (cxC X N sc fp s H))
 (T:Turn X.prog X.w X.K tg J fp it tn CM) (st:tn 0 s.heap) (hf:∀ b∈fp,FpOk X pins H b)
 (hg:PG (cxC X N sc fp s H) tg g) (ht:PTs (cxC X N sc fp s H) ifs tt) (he:PE (cxC X N sc fp s H) elt te) (q:wComp js g tt te J σ H fin)
 (hR:∀ s' H' ys m,Inv X pins σ (upd H' s.heap.objs.size (.lst ys)) s'->H' s.heap.objs.size=none->fin ys H'->s'.heap.Ns (s.heap.objs.size+1) m->H' (s.heap.objs.size+1)=none->R (.ok .next) s') :
 codeAny (model X.prog X.w) X.A (.compStart (.ListComp elt [⟨tg,iter,ifs,0⟩] sc pos) 0 (.ref it) (.ref s.heap.objs.size) (envC sc (s.heap.objs.size+1) X.env)) R { s with heap:=heapC sc s.heap,toks:=tk}:=by
 have hob:∀ b∈fp,∃ o,s.heap.get? b=some o:=fun b hb=>let ⟨o,e,_⟩:=T.obj 0 s.heap st b hb;⟨o,e⟩
 have I0:=inv_comp I hc hf hob tk
 have okY:=I0.ok
 obtain⟨W,⟨m0,w0⟩,turn⟩:=q
 have small:∀ b∈fp,b≠s.heap.objs.size:=fun b hb=>let ⟨o,e⟩:=hob b hb;Nat.ne_of_lt (gxN e)
 have stat:∀ {its:List Value} {k:Nat} {H':Hp},(∀ b∈fp,H' b=none)->∀ b∈fp,FpOk (cxC X N sc fp s H) [(s.heap.objs.size,lobj its k)] H' b:=fun {its k H'} hn b hb =>
  ⟨hn b hb,(okY.exf b hb).1,okY.exfs b hb,.inl hb,(okY.exf b hb).2,fun p hp=>by
   have e:p=(s.heap.objs.size,lobj its k):=by simpa [cxC]using hp
   rw[e];exact(small b hb).symm⟩
 have st0:tn 0 (heapC sc s.heap):=T.keep 0 _ _ st fun b _ o e=>heapC_keeps b o e
 have I1:Inv (cxC X N sc fp s H) [(s.heap.objs.size,lobj [] 0)] (startC js σ) H { s with heap:=heapC sc s.heap,toks:=tk}:=I0.pins_of fun p hp=>by
  have e:p=(s.heap.objs.size,lobj [] 0):=by simpa using hp
  subst e
  refine⟨heapC_acc,I.hok.fresh (Nat.le_refl _),Nat.ne_of_lt (Nat.lt_succ_self _),fun z=>?_,fun v z=>by cases z⟩
  obtain⟨_,o,ho,_⟩:=okY.funs.mem z
  exact Nat.lt_irrefl _ (gxN ho)
 have loop:codeAny (model X.prog X.w) X.A (.compLoop (.ListComp elt [⟨tg,iter,ifs,0⟩] sc pos) 0 (.ref it) (.ref s.heap.objs.size) (envC sc (s.heap.objs.size+1) X.env)) R { s with heap:=heapC sc s.heap,toks:=tk}:=by
  refine compLoop_any (fun n s'=>∃ i ys its k H',Inv (cxC X N sc fp s H) [(s.heap.objs.size,lobj its k)] (startC js σ) H' s'/\tn i s'.heap/\(∀ b∈fp,H' b=none)/\Vals ys its/\ys.length<=sizeLine/\W i n ys H') ?_ m0
   ⟨0,[],[],0,H,I1,st0,fun b hb=>(hf b hb).1,.nil,Nat.zero_le _,w0⟩
  rintro n s3 ⟨i,ys,its,k,H3,I3,st3,fr3,rv,hz,w3⟩
  have len:=rv.length
  rcases turn i n ys H3 w3 with⟨stop,qf⟩ | ⟨go,step⟩
  ·refine thn (T.done (cxC X N sc fp s H) rfl rfl rfl calm i _ s3 _ H3 _ I3 (stat fr3) st3 stop) fun r s4 hq2=>?_
   obtain⟨hr,I4⟩:=hq2
   subst hr
   show R (.ok .next) s4
   have hD:=I4.pin (s.heap.objs.size,lobj its k) (List.mem_append_right _ List.mem_cons_self)
   obtain⟨m,hns,_⟩:=I4.loc
   have IX:Inv X pins σ H3 s4:=I.call' (ch:=fp) I4.os I4.base I4.hok I4.bare fun b hb=>by
    obtain⟨f0,f1,f2,f3,f4,f5⟩:=hf b hb
    exact⟨f3,f1,f4,f5⟩
   have neD:∀(b:Addr) (o:Obj),s.heap.get? b=some o->b≠s.heap.objs.size:=fun b o e=>Nat.ne_of_lt (gxN e)
   refine hR s4 H3 ys m (IX.adopt hD.2.1 (Nat.ne_of_gt I.lt) I.sz (fun x c e=>?_) (fun p hp=>neD _ _ (I.pin p hp).1) hD.1 rv hz) hD.2.1 qf hns I4.free
   obtain⟨v,q⟩:=I.cell x c e
   exact Nat.ne_of_lt q.lt
  ·refine thn (T.item (cxC X N sc fp s H) rfl rfl rfl calm i _ s3 _ H3 _ I3 (stat fr3) st3 go) fun r s4 hq3=>?_
   obtain⟨u,hr,h4⟩:=hq3
   subst hr
   refine thn h4 fun _ s5 hq4=>?_
   obtain⟨x,H5,I5,r5,y5,st5,fr5⟩:=hq4
   have I5':=I5.pinned (stat fr5) (T.obj _ _ st5)
   refine thn (hg _ s5 _ H5 x u _ I5' r5 (step x H5 y5)) fun _ s6 ⟨σ6,H6,I6,⟨ext6,q6⟩⟩=>?_
   refine thn (ht _ s6 σ6 H6 _ I6 q6) fun b s7 hq5=>?_
   obtain⟨H7,I7,q7⟩:=hq5
   have back:∀ {s':Shared} {H':Hp},Inv (cxC X N sc fp s H) ([(s.heap.objs.size,lobj its k)]++pinsAt fp s5.heap) σ6 H' s'->tn (i+1) s'.heap/\(∀ b∈fp,H' b=none)/\Inv (cxC X N sc fp s H) [(s.heap.objs.size,lobj its k)] (startC js σ) H' s':=fun {s' H'} I'=>by
    refine⟨T.keep _ _ _ st5 fun b hb o e=>(I'.pin (b,o) (List.mem_append_right _ (List.mem_append_right _ (mem_pinsAt hb e)))).1,fun b hb=>?_,(I'.weak ext6.1 ext6.2).unpinned⟩
    obtain⟨o,e,d⟩:=T.obj _ _ st5 b hb
    exact(I'.pin (b,o) (List.mem_append_right _ (List.mem_append_right _ (mem_pinsAt hb e)))).2.1
   cases b with
   | false =>
    rw[if_neg Bool.false_ne_true]at q7 ⊢
    obtain⟨m',hm,w7⟩:=q7
    obtain⟨t7,f7,I7'⟩:=back I7
    exact⟨m',hm,i+1,ys,its,k,H7,I7',t7,f7,rv,hz,w7⟩
   | true =>
    rw[if_pos rfl]at q7 ⊢
    refine thn (he _ s7 σ6 H7 _ I7 q7) fun y s8 hq6=>?_
    obtain⟨yv,H8,I8,ry,hlt,m',hm,w8⟩:=hq6
    obtain⟨t8,f8,I8'⟩:=back I8
    have hD:=I8'.pin (s.heap.objs.size,lobj its k) (List.mem_append_right _ List.mem_cons_self)
    have eD:s8.heap.get? s.heap.objs.size=some { cls:=.type "list",data:=.seq its.toArray k}:=hD.1
    refine call_meets F.slot_list_append ⟨_,eD,rfl⟩ F.entry_list_append (F.args_list_append_2 _ _) (PySem.list_append s.heap.objs.size its.toArray k y (by rw[List.size_toArray];omega)) ⟨eD,?_⟩
    have q:=PySem.IsL.update eD (·.push y)
    have epush:its.toArray.push y=(its++[y]).toArray:=by simp
    have keep:∀(b:Addr) (o:Obj),b≠s.heap.objs.size->s8.heap.get? b=some o->(s8.heap.update s.heap.objs.size (Obj.mapSeq (·.push y))).get? b=some o:=fun b o hb e=>(Heap.get?_update_other s8.heap (Obj.mapSeq (·.push y)) (Ne.symm hb)).trans e
    have cellD:∀ x c,(cxC X N sc fp s H).env.cells.lookup x=some c->c≠s.heap.objs.size:=fun x c e z=>by
     obtain⟨v,o,ho,hd⟩:=I8'.cell x c e
     rw[z,eD]at ho;cases ho
     cases hd
    have I9:Inv (cxC X N sc fp s H) [] (startC js σ) H8 { s8 with heap:=s8.heap.update s.heap.objs.size (Obj.mapSeq (·.push y))} :=
     (I8'.pins_of (pins':=[]) fun p hp=>absurd hp (by simp)).turned (t':=s8.toks) keep hD.2.1 hD.2.2.1 (.inr (Nat.le_refl _)) cellD (fun p hp=>absurd (show p∈([]:List (Addr×Obj))from hp) (by simp))
    rw[epush]at q
    obtain⟨k',q'⟩:∃ k',(s8.heap.update s.heap.objs.size (Obj.mapSeq (·.push y))).get? s.heap.objs.size=some (lobj (its++[y]) k'):=⟨_,q⟩
    refine⟨m',hm,i+1,ys++[yv],its++[y],k',H8,I9.pins_of fun p hp=>?_,T.keep _ _ _ t8 fun b hb o e=>keep b o (small b hb) e,f8,rv.append (.cons ry .nil),by rw[gxE,List.length_singleton];omega,w8⟩
    have e:p=(s.heap.objs.size,lobj (its++[y]) k'):=by simpa using hp
    subst e
    exact⟨q',hD.2.1,hD.2.2.1,hD.2.2.2.1,fun v z=>by cases z⟩
 exact codeAny_compStart_list loop (T.self _ 0 _ _ _ st0 loop)
def tComp (wi:TI)(js:List (Option Nat))(g:TG)(tt:TT)(te:TE):TE:=fun σ H Q=>wi σ H fun J H1=>wComp js g tt te J σ H1 fun ys H'=>∀ D,H' D=none->Q (.ref D) (upd H' D (.lst ys))
theorem pe_comp {wi:TI}{pos:Pos}(hc:CompOk X N js sc)(calm:X.calm=true)(hi:PI X tg iter wi)(hg:∀ fp s H,PG (cxC X N sc fp s H) tg g)(ht:∀ fp s H,PTs (cxC X N sc fp s H) ifs tt)(he:∀ fp s H,PE (cxC X N sc fp s H) elt te)
 (hs:∀ x,foldedSetIterable iter X.env x=pure x:=by intro _;rfl):PE X (.ListComp elt [⟨tg,iter,ifs,0⟩] sc pos) (tComp wi js g tt te):=by
 intro pins s σ H Q I h
 rw[eval_ListComp]
 refine wpAny_comprehension_free (use:=none) rfl hs (closureFor_eq fun y hy e=>I.ok.has y.1 (hc.free y hy e)) hc.kind hc.loc (thn (hi pins s σ H _ I h) fun v s1 h1=>thn h1 fun itv s2 h2=>?_)
 obtain⟨it,fp,tn,J,H2,e,I2,T,st2,f2,q⟩:=h2
 subst e
 refine wpAny_newObj_type (newEnv_comp ?_)
 have hC:(s2.heap.push { cls:=.type "list",dict:=none,data:=.seq ([]:List Value).toArray}).objs.size=s2.heap.objs.size+1:=Heap.size_push ..
 simp only[hC]
 refine comp_block (tk:=s2.toks) I2 hc calm T st2 f2 (hg fp s2 H2) (ht fp s2 H2) (he fp s2 H2) q fun s' H' ys m IX nD qf nC hn=>?_
 refine⟨m,nC,fun h' sb=>?_⟩
 have neC:∀(b:Addr) (o:Obj),s2.heap.get? b=some o->b≠s2.heap.objs.size+1:=fun b o e=>Nat.ne_of_lt (Nat.lt_succ_of_lt (gxN e))
 have IY:Inv X pins σ (upd H' s2.heap.objs.size (.lst ys)) { s' with heap:=h'}:=IX.turned (t':=s'.toks) (it:=s2.heap.objs.size+1) (fun b o hb e=>(sb.2 b hb).trans e) (by rw[upd_ne (Nat.ne_of_gt (Nat.lt_succ_self _))];exact hn)
  (Nat.ne_of_gt (Nat.lt_succ_of_lt I2.lt)) (.inr (Nat.le_succ_of_le I2.sz)) (fun x c e=>let ⟨v,z⟩:=I2.cell x c e;Nat.ne_of_lt (Nat.lt_succ_of_lt z.lt)) (fun p hp=>neC _ _ (I2.pin p hp).1)
 exact⟨.ref _,_,IY,rfl,qf _ nD⟩
theorem ps_setComp {wi:TI}{pos pos' spos:Pos}{i:Nat}{x:Str}(hc:CompOk X N js sc)(calm:X.calm=true)(hN:X.N.Nodup)(hx':X.N[i]?=some x)(hx:Loc X.env.scope x)(hi:PI X tg iter wi)(hg:∀ fp s H,PG (cxC X N sc fp s H) tg g)
 (ht:∀ fp s H,PTs (cxC X N sc fp s H) ifs tt) (he:∀ fp s H,PE (cxC X N sc fp s H) elt te) (hsw:swapsWith (.ListComp elt [⟨tg,iter,ifs,0⟩] sc pos) (some (.Name x pos')) spos.line X.env=pure true:=by rfl)
 (hs:∀ x,foldedSetIterable iter X.env x=pure x:=by intro _;rfl) (hf:X.fn x=true\/X.env.scope.names.lookup x=some .local:=by first | exact .inl rfl | exact .inr rfl | assumption) :
 PS X (.Assign [.Name x pos'] (.ListComp elt [⟨tg,iter,ifs,0⟩] sc pos) spos) (tAsg (tComp wi js g tt te) (gName i)):=by
 intro pins s σ H D I h
 rw[exec_Assign_Name_used _ _ _ _ hsw]
 refine gxM (wpAny_standAt (gxM ?_))
 show wpAny _ X.A (do let _ <- comprehension (.ListComp elt [⟨tg,iter,ifs,0⟩] sc pos) sc X.env _ (newList []) false (eval iter X.env) (some (assign (.Name x pos') X.env))) _ _ s
 refine gxM (wpAny_mono (wpAny_comprehension_free (use:=some (assign (.Name x pos') X.env)) (Q:=fun _ s'=>SP X pins D .next s') rfl hs (closureFor_eq fun y hy e=>I.ok.has y.1 (hc.free y hy e)) hc.kind hc.loc
  (thn (hi pins s σ H _ I h) fun v s1 h1=>thn h1 fun itv s2 h2=>?_)) (fun _ s' hq=>wpAny_pure (wpAny_pure hq)) fun _ _ e=>e)
 obtain⟨it,fp,tn,J,H2,e,I2,T,st2,f2,q⟩:=h2
 subst e
 refine wpAny_newObj_type (newEnv_comp ?_)
 have hC:(s2.heap.push { cls:=.type "list",dict:=none,data:=.seq ([]:List Value).toArray}).objs.size=s2.heap.objs.size+1:=Heap.size_push ..
 simp only[hC]
 refine comp_block (tk:=s2.toks) I2 hc calm T st2 f2 (hg fp s2 H2) (ht fp s2 H2) (he fp s2 H2) q fun s' H' ys m IX nD qf nC hn=>?_
 have neC:∀(b:Addr) (o:Obj),s2.heap.get? b=some o->b≠s2.heap.objs.size+1:=fun b o e=>Nat.ne_of_lt (Nat.lt_succ_of_lt (gxN e))
 have hnC:upd H' s2.heap.objs.size (.lst ys) (s2.heap.objs.size+1)=none:=by rw[upd_ne (Nat.ne_of_gt (Nat.lt_succ_self _))];exact hn
 show wpAny _ X.A (assign (.Name x pos') X.env (.ref s2.heap.objs.size)) _ _ s'
 refine wpAny_assign_Name (store_ok2 (v:=.ref s2.heap.objs.size) IX hN hx' hx rfl (fun s'' IZ ch=>?_) hf)
 obtain⟨a,sba,ha⟩:=ch
 have hac:s2.heap.objs.size+1≠a:=by
  rcases ha with z | z
  ·rw[z];exact Nat.ne_of_gt (Nat.lt_succ_of_lt I2.lt)
  ·obtain⟨v,z⟩:=I2.cell x a z
   exact Nat.ne_of_gt (Nat.lt_succ_of_lt z.lt)
 refine⟨m,nC.sameBut sba hac,fun h' sb=>?_⟩
 have IY:Inv X pins (σ.set i (some (.ref s2.heap.objs.size))) (upd H' s2.heap.objs.size (.lst ys)) { s'' with heap:=h'}:=IZ.turned (t':=s''.toks) (it:=s2.heap.objs.size+1) (fun b o hb e=>(sb.2 b hb).trans e) hnC
  (Nat.ne_of_gt (Nat.lt_succ_of_lt I2.lt)) (.inr (Nat.le_succ_of_le I2.sz)) (fun x c e=>let ⟨v,z⟩:=I2.cell x c e;Nat.ne_of_lt (Nat.lt_succ_of_lt z.lt)) (fun p hp=>neC _ _ (I2.pin p hp).1)
 exact⟨_,_,IY,qf _ nD⟩
end
open Builtin Builtin.Str
def cutL {α:Type}(xs:List α)(lo hi:Option Int):List α:=(xs.drop (HT.sIx xs.length 0 lo)).take (HT.sIx xs.length xs.length hi - HT.sIx xs.length 0 lo)
theorem clip_lo (n:Nat)(lo:Option Int):(match lo with | none=>(0:Int) | some i=>max 0 (min (if i<0 then i+(n:Int)else i) (n:Int)))=((HT.sIx n 0 lo:Nat):Int):=by
 cases lo with
 | none=>rfl
 | some i=>unfold HT.sIx;dsimp only;split <;> omega
theorem clip_hi (n:Nat)(hi:Option Int):(match hi with | none=>(n:Int) | some i=>max 0 (min (if i<0 then i+(n:Int)else i) (n:Int)))=((HT.sIx n n hi:Nat):Int):=by
 cases hi with
 | none=>rfl
 | some i=>unfold HT.sIx;dsimp only;split <;> omega
theorem sliceIx_eq (lo hi:Option Int)(n:Nat):strSliceIndices lo hi 1 n=sliceRange ((HT.sIx n 0 lo:Nat):Int) ((HT.sIx n n hi:Nat):Int) 1:=by
 rw[<- clip_lo,<- clip_hi]
 unfold strSliceIndices
 cases lo <;> cases hi <;> rfl
theorem sliced_eq (x:Str)(lo hi:Option Int):(strSliceIndices lo hi 1 x.length).filterMap (x.cps[·]?)=cutL x.cps.toList lo hi:=by
 have hl:x.cps.toList.length=x.length:=by simp[Str.length]
 unfold cutL
 rw[hl]
 have ha:=HT.sIx_le x.length 0 (Nat.zero_le _) lo
 have hb:=HT.sIx_le x.length x.length (Nat.le_refl _) hi
 by_cases hab:HT.sIx x.length 0 lo<=HT.sIx x.length x.length hi
 ·rw[<- StrLaws.sliced_plain x hab hb,sliceIx_eq,sliceIx_eq]
  congr 2
  ·rw[HT.sIx_nat,Nat.min_eq_left ha]
  ·rw[HT.sIx_nat,Nat.min_eq_left hb]
 ·rw[sliceIx_eq]
  have e:HT.sIx x.length x.length hi - HT.sIx x.length 0 lo=0:=by omega
  rw[e,List.take_zero]
  unfold sliceRange
  have h1:¬ (((HT.sIx x.length 0 lo:Nat):Int)<((HT.sIx x.length x.length hi:Nat):Int)):=by omega
  simp[h1]
theorem cutL_len {α:Type}(xs:List α)(lo hi:Option Int):(cutL xs lo hi).length<=xs.length:=by
 unfold cutL
 rw[List.length_take,List.length_drop]
 omega
section
variable {X:Cx}
def rSlS:V->Option Int->Option Int->Hp->VK->Prop:=fun x lo hi H Q=>∃ z:Str,x=.str z/\z.length<=sizeLine/\Q (.str ⟨(cutL z.cps.toList lo hi).toArray⟩) H
theorem sl_str:SlR X rSlS:=by
 intro pins s σ H x v vl vu lo hi sl Q I rx hs pl pu h
 obtain⟨z,rfl,hz,q⟩:=h
 obtain⟨t,rfl⟩:=rx
 refine⟨"str",_,F.slot_str_getitem.lookup,typeIs_str _ _ _,?_⟩
 obtain⟨l,el⟩:∃ l:Option (Int×Tok),vl=partValue l/\l.map (·.1)=lo:=by
  cases pl with
  | none=>exact⟨none,rfl,rfl⟩
  | int i t=>exact⟨some (i,t),rfl,rfl⟩
 obtain⟨u,eu⟩:∃ u:Option (Int×Tok),vu=partValue u/\u.map (·.1)=hi:=by
  cases pu with
  | none=>exact⟨none,rfl,rfl⟩
  | int i t=>exact⟨some (i,t),rfl,rfl⟩
 obtain⟨rfl,el⟩:=el
 obtain⟨rfl,eu⟩:=eu
 refine wpAny_getItem_str_slice (l:=l) (u:=u) (st:=none) hs rfl ?_
 unfold sliceMade
 have e:slicePicked z l u none=strSliceIndices lo hi 1 z.length:=by unfold slicePicked;rw[el,eu];rfl
 rw[e,sliced_eq]
 by_cases hc:(((none:Option (Int×Tok)).map (·.1)).getD 1==1&&(strSliceIndices lo hi 1 z.length).length==z.length)=true
 ·rw[if_pos hc]
  refine⟨.str z,H,I,⟨_,rfl⟩,?_⟩
  have hc':(strSliceIndices lo hi 1 z.length).length=z.length:=by simpa using hc
  have hl:z.cps.toList.length=z.length:=by simp[Str.length]
  have h3:cutL z.cps.toList lo hi=z.cps.toList:=by
   rw[sliceIx_eq]at hc'
   unfold sliceRange at hc'
   have ha:=HT.sIx_le z.length 0 (Nat.zero_le _) lo
   have hb:=HT.sIx_le z.length z.length (Nat.le_refl _) hi
   rw[gxC,gxJ]at hc'
   unfold cutL
   rw[hl]
   by_cases hlt:((HT.sIx z.length 0 lo:Nat):Int)<((HT.sIx z.length z.length hi:Nat):Int)
   ·simp[hlt]at hc'
    have a0:HT.sIx z.length 0 lo=0:=by omega
    have b0:HT.sIx z.length z.length hi=z.length:=by omega
    rw[a0,b0,List.drop_zero,Nat.sub_zero,<- hl,List.take_length]
   ·simp[hlt]at hc'
    have z0:z.cps.toList=[]:=List.length_eq_zero_iff.mp (by omega)
    rw[z0];simp
  have e2:(⟨(cutL z.cps.toList lo hi).toArray⟩:Str)=z:=by rw[h3]
  rw[e2]at q
  exact q
 ·rw[if_neg hc]
  refine⟨?_,.str _,H,I.tok _,⟨_,rfl⟩,q⟩
  have hl:z.cps.toList.length=z.length:=by simp[Str.length]
  have:=cutL_len z.cps.toList lo hi
  show(cutL z.cps.toList lo hi).toArray.size<=sizeLine
  rw[List.size_toArray]
  omega
theorem vals_strs:∀ {ys:List Str} {us:List Value},Vals (ys.map V.str) us->StrsAre us ys
 | [],_,h=>by cases h;exact .nil
 | y::r,_,h=>by
  cases h with
  | cons a b=>obtain⟨t,rfl⟩:=a;exact .cons _ _ (vals_strs b)
theorem glued_empty:∀(ys:List Str) (acc:Array Nat),ys.foldl (fun acc p=>acc++(#[]:Array Nat)++p.cps) acc=acc++(ys.map (·.cps.toList)).flatten.toArray
 | [],acc=>by simp
 | y::r,acc=>by
  rw[List.foldl_cons,glued_empty r,List.map_cons,List.flatten_cons]
  apply Array.toList_inj.mp
  simp
theorem join_empty (z:Str)(hz:z.cps=#[])(ys:List Str):Txt.join z ys=⟨(ys.map (·.cps.toList)).flatten.toArray⟩:=by
 unfold Txt.join glued
 rw[hz]
 congr 1
 cases ys with
 | nil=>rfl
 | cons y r =>
  show List.foldl _ y.cps r=_
  rw[glued_empty,List.map_cons,List.flatten_cons]
  apply Array.toList_inj.mp
  simp
def rJoin (K:PySem.W.Frag):V->List V->Hp->VK->Prop:=fun x vs H Q=>∃(z:Str) (l:Addr) (ys:List Str),x=.str z/\z.cps=#[]/\vs=[.ref l]/\SqL K H l (ys.map V.str)/\(ys.map (·.length)).sum<=16777216/\Q (.str ⟨(ys.map (·.cps.toList)).flatten.toArray⟩) H
theorem mt_join:MtR X "str.join" (rJoin X.K):=by
 intro pins s σ H x vs v us Q I rx rv h
 obtain⟨z,l,ys,rfl,hz,rfl,hl,hs,q⟩:=h
 obtain⟨t,rfl⟩:=rx
 obtain⟨u,rfl,ru⟩:=rv.one
 cases ru
 obtain⟨its,r,p,_⟩:=I.list hl
 have zl:z.length=0:=by unfold Str.length;rw[hz];rfl
 refine join_list p.isList (ys:=ys) (by simpa using vals_strs r) (by rw[zl];omega) fun t' k=>?_
 rw[join_empty z hz]
 exact⟨.str _,H,I.tok _,⟨_,rfl⟩,q⟩
theorem rep_one (c:Nat):∀(n:Nat) (acc:Array Nat),(List.replicate n #[c]).foldl (·++·) acc=acc++(List.replicate n c).toArray
 | 0,acc=>by simp
 | n+1,acc=>by
  rw[List.replicate_succ,List.foldl_cons,rep_one c n,List.replicate_succ]
  apply Array.toList_inj.mp
  simp
theorem mul_one (c:Nat)(n:Int):Txt.mul ⟨#[c]⟩ n=⟨(List.replicate n.toNat c).toArray⟩:=by
 unfold Txt.mul
 by_cases h1:n<1
 ·rw[if_pos h1]
  have e:n.toNat=0:=by omega
  rw[e];rfl
 ·rw[if_neg h1]
  by_cases h2:(n==1||(⟨#[c]⟩:Str).length==0)=true
  ·rw[if_pos h2]
   have e:n=1:=by simpa [Str.length]using h2
   rw[e];rfl
  ·rw[if_neg h2]
   congr 1
   have:=rep_one c n.toNat #[]
   rw[this]
   apply Array.toList_inj.mp
   simp
theorem op_mul_str:OpR X (binaryOp .Mult) (fun x y H Q=>∃(c:Nat) (n:Int),x=.str ⟨#[c]⟩/\y=.int n /\ -1000000<=n/\n<=1000000/\Q (.str ⟨(List.replicate n.toNat c).toArray⟩) H):=by
 intro pins s σ H x y v u Q I rx ry h
 obtain⟨c,n,rfl,rfl,h1,h2,q⟩:=h
 obtain⟨t,rfl⟩:=rx
 obtain⟨t',rfl⟩:=ry
 refine SB.mul ⟨?_,fun hn _=>?_,fun hn _=>?_⟩ fun t' k=>?_
 ·rw[decide_eq_false (by omega),decide_eq_false (by omega)];rfl
 ·have e:((⟨#[c]⟩:Str).length:Int)=1:=rfl
  rw[e]
  have:(1:Int)<=(2 ^ 63 - 1) / n:=(Int.le_ediv_iff_mul_le (by omega)).mpr (by omega)
  omega
 ·have e:(⟨#[c]⟩:Str).length=1:=rfl
  rw[e]
  unfold tooLong sizeLine
  rw[decide_eq_false (by omega)]
 ·rw[mul_one]
  exact⟨.str _,H,I.tok _,⟨_,rfl⟩,q⟩
theorem cnt_count (c:Nat):∀ l:List Nat,countIn (.str ⟨#[c]⟩) (l.map fun n=>PyData.str ⟨#[n]⟩)=((l.count c:Nat):Int)
 | []=>rfl
 | n::r=>by
  have h:=cnt_cons c n r
  unfold cnt at h
  rw[h,cnt_count c r,List.count_cons]
  by_cases e:n=c
  ·rw[if_pos e,if_pos (by simpa using e)];omega
  ·rw[if_neg e,if_neg (by simpa using e)];omega
def rCount:V->List V->Hp->VK->Prop:=fun x vs H Q=>∃(z:Str) (c:Nat),x=.str z/\vs=[.str ⟨#[c]⟩]/\Q (.int ((z.cps.toList.count c:Nat):Int)) H
theorem mt_count:MtR X "str.count" rCount:=by
 intro pins s σ H x vs v us Q I rx rv h
 obtain⟨z,c,rfl,rfl,q⟩:=h
 obtain⟨t,rfl⟩:=rx
 obtain⟨u,rfl,ru⟩:=rv.one
 obtain⟨t',rfl⟩:=ru
 refine SC.count ?_
 rw[count_is,cnt_count]
 exact⟨.int _,H,I.tok _,⟨_,rfl⟩,q⟩
def Its (l:List Nat):It:=⟨fun i _=>i<l.length,fun i H x H'=>H'=H/\∃ c,l[i]?=some c/\x=.str ⟨#[c]⟩,fun i _=>i=l.length⟩
theorem turn_str {P:Program}{w:World}{K:PySem.W.Frag}{tg:Expr}{it:Addr}{z:Str}{n:String}{St:Nat->Heap->Prop}
 (W:∀ A':Around,A'.handled=none->Walks P w A' it [it] [it] z.cps.size (SignAt z) St) (hn:["enumerate", "zip", "dict_itemiterator", "dict_reverseitemiterator", "odict_iterator", "itertools.zip_longest", "itertools.pairwise"].contains n=false)
 (ob:∀ i h,St i h->∃ o vs,h.get? it=some o/\o.cls=.type n/\o.data=.fields vs) (slf:∀(A:Around) (i:Nat) (s:Shared) (Q:Value->Shared->Prop) (E:Value->Shared->Prop),St i s.heap->Q (.ref it) s->wpAny (model P w) A (pyIter (.ref it)) Q E s):Turn P w K tg (Its z.cps.toList) [it] it St where
 mem:=by simp
 obj:=fun i h st b hb=>by
  have e:b=it:=by simpa using hb
  subst e
  obtain⟨o,vs,e,c,d⟩:=ob i h st
  exact⟨o,e,fun v z=>by rw[d]at z;cases z⟩
 keep:=fun i h h' st k=>(W { handled:=none,depth:=0,units:=0,frames:=none} rfl).frame i h h' st k
 item:=by
  intro X hP hw hK hc i pins s σ H E I hf st hg
  subst hP hw hK
  obtain⟨f0,f1,f2,f3,f4,f5⟩:=hf it (by simp)
  have hg':i<z.cps.toList.length:=hg
  refine(W X.A (I.ok.hd hc)).item i s _ _ (by simpa using hg') st fun v h' tk hv st' kk=>?_
  obtain⟨c,u,hcc,rfl⟩:=hv
  have I1:Inv X pins σ H { s with heap:=h',toks:=tk}:=I.turned (fun b o hb e=>kk b o (by simpa using hb) e) f0 f1 f3 f4 f5
  obtain⟨o,vs,e,c',d⟩:=ob _ _ st'
  refine⟨_,rfl,go_of (s:={ s with heap:=h',toks:=tk}) (n:=n) e c' d hn ⟨.str ⟨#[c]⟩,H,I1,⟨u,rfl⟩,⟨rfl,c,by simpa using hcc,rfl⟩,st',fun b hb=>(hf b hb).1⟩⟩
 done:=by
  intro X hP hw hK hc i pins s σ H E I hf st hg
  subst hP hw hK
  obtain⟨f0,f1,f2,f3,f4,f5⟩:=hf it (by simp)
  have e:i=z.cps.size:=by have:i=z.cps.toList.length:=hg;simpa using this
  subst e
  exact(W X.A (I.ok.hd hc)).done s _ _ st fun h' tk eb=>⟨rfl,I.turned (t':=tk) (fun b o hb e=>eb b o (by simpa using hb) e) f0 f1 f3 f4 f5⟩
 self:=slf
def iStr (tl:TE):TI:=fun σ H R=>tl σ H fun x H1=>∃ z:Str,x=.str z/\R (Its z.cps.toList) H1
theorem pi_str {tg l:Expr}{tl:TE}(hl:PE X l tl):PI X tg l (iStr tl):=by
 intro pins s σ H R I h
 refine thn (hl pins s σ H _ I h) fun v s1 hq0=>?_
 obtain⟨x,H1,I1,r1,z,e,q⟩:=hq0
 subst e
 obtain⟨t,rfl⟩:=r1
 have fp:∀ b∈[s1.heap.objs.size],FpOk X pins H1 b:=fun b hb=>by
  have e:b=s1.heap.objs.size:=by simpa using hb
  subst e
  exact I1.fpOk (Nat.le_refl _) (I1.hok.fresh (Nat.le_refl _))
 have kp:∀(o:Obj),Inv X pins σ H1 { s1 with heap:=s1.heap.push o}:=fun o=>I1.kept (t':=s1.toks) fun b o' e=>gxL _ e
 cases ha:z.cps.all (·<128)
 ·refine wpAny_pyIter_wide ha ⟨s1.heap.objs.size,[s1.heap.objs.size],fun i h=>h.IsStrIter s1.heap.objs.size "str_iterator" z t i,_,H1,rfl,kp _,turn_str (n := "str_iterator") (fun A' hA=>Walks.strWide hA _ z t) (by decide) (fun i h st=>let ⟨o,a,b,c⟩:=st;⟨o,_,a,b,c⟩) (fun _ _ _ _ _ st h=>wpAny_pyIter_striter_wide st h),⟨_,Heap.get?_push_size _ rfl,rfl,rfl⟩,fp,q⟩
 ·refine wpAny_pyIter_ascii ha ⟨s1.heap.objs.size,[s1.heap.objs.size],fun i h=>h.IsStrIter s1.heap.objs.size "str_ascii_iterator" z t i,_,H1,rfl,kp _,turn_str (n := "str_ascii_iterator") (fun A' hA=>Walks.strAscii hA _ z t) (by decide) (fun i h st=>let ⟨o,a,b,c⟩:=st;⟨o,_,a,b,c⟩) (fun _ _ _ _ _ st h=>wpAny_pyIter_striter_ascii st h),⟨_,Heap.get?_push_size _ rfl,rfl,rfl⟩,fp,q⟩
theorem call_isi:CallR X (.builtin "isinstance") (fun vs H Q=>∃ x T t b,vs=[x,.ty T]/\TyOf X.K H x t/\PySem.W.kitOne X.K t (.type T)=some b/\Q (.bl b) H):=by
 intro pins s σ H vs us Q I rv h
 obtain⟨x,T,t,b,rfl,ty,e,q⟩:=h
 obtain⟨u,w',rfl,r1,r2⟩:=vals2 rv
 cases r2
 exact isinst_ok I r1 ty e fun tk=>⟨.bl b,H,I.tok tk,rfl,q⟩
end
end L2
namespace L2
open PySem PySem.Spec PyProof.Rows
open Builtin Builtin.Str
section
variable {X:Cx}
theorem OpR.imp {f:Value->Value->Sem Value}{r r':R2}(h:OpR X f r)(hi:∀ x y H Q,r' x y H Q->r x y H Q):OpR X f r':=fun pins s σ H x y v u Q I r1 r2 q=>h pins s σ H x y v u Q I r1 r2 (hi x y H Q q)
theorem PE.imp {e:Expr}{t t':TE}(h:PE X e t)(hi:∀ σ H Q,t' σ H Q->t σ H Q):PE X e t':=fun pins s σ H Q I q=>h pins s σ H Q I (hi σ H Q q)
theorem PT.imp {e:Expr}{t t':TT}(h:PT X e t)(hi:∀ σ H Q,t' σ H Q->t σ H Q):PT X e t':=fun pins s σ H Q I q=>h pins s σ H Q I (hi σ H Q q)
theorem PG.imp {e:Expr}{t t':TG}(h:PG X e t)(hi:∀ v σ H Q,t' v σ H Q->t v σ H Q):PG X e t':=fun pins s σ H v u Q I r q=>h pins s σ H v u Q I r (hi v σ H Q q)
theorem PGs.imp {e:List Expr}{t t':TGs}(h:PGs X e t)(hi:∀ v σ H Q,t' v σ H Q->t v σ H Q):PGs X e t':=fun pins s σ H v u Q I r q=>h pins s σ H v u Q I r (hi v σ H Q q)
theorem PS.imp {e:Stmt}{t t':TS}(h:PS X e t)(hi:∀ D σ H,t' D σ H->t D σ H):PS X e t':=fun pins s σ H D I q=>h pins s σ H D I (hi D σ H q)
theorem CallR.imp {f:Value}{r r':List V->Hp->VK->Prop}(h:CallR X f r)(hi:∀ vs H Q,r' vs H Q->r vs H Q):CallR X f r':=fun pins s σ H vs us Q I rv q=>h pins s σ H vs us Q I rv (hi vs H Q q)
theorem MtR.imp {id:String}{r r':V->List V->Hp->VK->Prop}(h:MtR X id r)(hi:∀ x vs H Q,r' x vs H Q->r x vs H Q):MtR X id r':=fun pins s σ H x vs v us Q I r1 rv q=>h pins s σ H x vs v us Q I r1 rv (hi x vs H Q q)
def cVar (i:Nat):TE:=fun σ H Q=>match σ[i]? with | some (some v)=>Q v H | _=>False
theorem pvC (i:Nat){x:Str}{pos:Pos}(hN:X.N[i]?=some x:=by rfl)(hv:Vis X.env.scope x:=by first | exact Or.inl rfl | exact Or.inr (Or.inl rfl) | exact Or.inr (Or.inr rfl))(hd:(x==("__debug__" : Str))=false:=by decide)
 (hcd:(x==("__classdict__" : Str))=false:=by decide):PE X (.Name x pos) (cVar i):=(pe_var (i:=i) hN hv hd hcd).imp fun σ H Q q=>by
 unfold cVar at q
 split at q
 ·rename_i v e;exact⟨v,e,q⟩
 ·exact q.elim
def rAddC:R2:=fun x y H Q=>match x,y with
 | .int i,.int j=>Q (.int (i+j)) H
 | .str i,.str j=>i.length+j.length<=sizeLine/\Q (.str (i++j)) H
 | .ref l,.ref b=>∃ xs zs,H l=some (.lst xs)/\H b=some (.lst zs)/\xs.length+zs.length<=sizeLine/\∀ p,H p=none->Q (.ref p) (upd H p (.lst (xs++zs)))
 | _,_=>False
theorem addC:OpR X (binaryOp .Add) rAddC:=(op_add.or (op_add_str.or op_cat)).imp fun x y H Q q=>by
 unfold rAddC at q
 split at q
 ·exact .inl ⟨_,_,rfl,rfl,q⟩
 ·exact .inr (.inl ⟨_,_,rfl,rfl,q.1,q.2⟩)
 ·obtain⟨xs,zs,a,b,c,d⟩:=q;exact .inr (.inr ⟨_,_,xs,zs,rfl,rfl,a,b,c,d⟩)
 ·exact q.elim
def rI2 (C:Int->Int->Prop)(g:Int->Int->V):R2:=fun x y H Q=>match x,y with
 | .int i,.int j=>C i j/\Q (g i j) H
 | _,_=>False
def rI2' (g:Int->Int->V):R2:=fun x y H Q=>match x,y with
 | .int i,.int j=>Q (g i j) H
 | _,_=>False
theorem OpR.i2 {f:Value->Value->Sem Value}{C:Int->Int->Prop}{g:Int->Int->V}(h:OpR X f (rI C g)):OpR X f (rI2 C g):=h.imp fun x y H Q q=>by
 unfold rI2 at q
 split at q
 ·exact⟨_,_,rfl,rfl,q.1,q.2⟩
 ·exact q.elim
theorem OpR.i2' {f:Value->Value->Sem Value}{g:Int->Int->V}(h:OpR X f (rI0 g)):OpR X f (rI2' g):=h.imp fun x y H Q q=>by
 unfold rI2' at q
 split at q
 ·exact⟨_,_,rfl,rfl,q⟩
 ·exact q.elim
theorem subC:OpR X (binaryOp .Sub) (rI2' fun i j=>.int (i - j)):=op_sub.i2'
def rMulC:R2:=fun x y H Q=>match x,y with
 | .int i,.int j=>CMul i j/\Q (.int (i*j)) H
 | .str z,.int n=>∃ c:Nat,z=⟨#[c]⟩ /\ -1000000<=n/\n<=1000000/\Q (.str ⟨(List.replicate n.toNat c).toArray⟩) H
 | _,_=>False
theorem mulC:OpR X (binaryOp .Mult) rMulC:=(op_mul.or op_mul_str).imp fun x y H Q q=>by
 unfold rMulC at q
 split at q
 ·exact .inl ⟨_,_,rfl,rfl,q.1,q.2⟩
 ·obtain⟨c,rfl,a,b,d⟩:=q;exact .inr ⟨c,_,rfl,rfl,a,b,d⟩
 ·exact q.elim
theorem divC:OpR X (binaryOp .FloorDiv) (rI2 CDiv fun i j=>.int (i / j)):=op_fdiv.i2
theorem modC:OpR X (binaryOp .Mod) (rI2 (fun _ j=>0<j) fun i j=>.int (i%j)):=op_mod.i2
theorem powC:OpR X (binaryOp .Pow) (rI2 CPow fun i j=>.int (i ^ j.toNat)):=op_pow.i2
theorem ltC:OpR X (compareOp .Lt) (rI2' fun i j=>.bl (decide (i<j))):=op_lt.i2'
theorem gtC:OpR X (compareOp .Gt) (rI2' fun i j=>.bl (decide (j<i))):=op_gt.i2'
theorem geC:OpR X (compareOp .GtE) (rI2' fun i j=>.bl (decide (j<=i))):=op_ge.i2'
def rEqC (neg:Bool):R2:=fun x y H Q=>match x,y with
 | .int i,.int j=>Q (.bl (neg != decide (i=j))) H
 | .str i,.str j=>Q (.bl (neg != decide (i=j))) H
 | .bl i,.bl j=>Q (.bl (neg != decide (i=j))) H
 | _,_=>False
theorem dec_congr {p q:Prop}[Decidable p][Decidable q](h:p↔q):decide p=decide q:=by
 by_cases hp:p
 ·rw[decide_eq_true hp,decide_eq_true (h.mp hp)]
 ·rw[decide_eq_false hp,decide_eq_false fun z=>hp (h.mpr z)]
theorem dI {i j:Int}:decide (V.int i=V.int j)=decide (i=j):=dec_congr (by simp)
theorem dS {i j:Str}:decide (V.str i=V.str j)=decide (i=j):=dec_congr (by simp)
theorem dB {i j:Bool}:decide (V.bl i=V.bl j)=decide (i=j):=dec_congr (by simp)
theorem eqC:OpR X (compareOp .Eq) (rEqC false):=op_eq.imp fun x y H Q q=>by
 unfold rEqC at q
 split at q
 ·exact⟨rfl,by rw[dI];simpa using q⟩
 ·exact⟨rfl,by rw[dS];simpa using q⟩
 ·exact⟨rfl,by rw[dB];simpa using q⟩
 ·exact q.elim
theorem neC:OpR X (compareOp .NotEq) (rEqC true):=op_ne.imp fun x y H Q q=>by
 unfold rEqC at q
 split at q
 ·exact⟨rfl,by rw[dI];simpa using q⟩
 ·exact⟨rfl,by rw[dS];simpa using q⟩
 ·exact⟨rfl,by rw[dB];simpa using q⟩
 ·exact q.elim
def cT (t:TE):TT:=fun σ H Q=>t σ H fun x H1=>match x with | .bl c=>Q c H1 | _=>False
end
def bK (Q:Bool->Hp->Prop):VK:=fun x H1=>match x with | .bl c=>Q c H1 | _=>False
section
variable {X:Cx}{a b e:Expr}{t ta tb:TE}{pos:Pos}
def cB (t:TE):TT:=fun σ H Q=>t σ H (bK Q)
theorem pt_cmpC {op:CmpOp}{r:R2}(ho:OpR X (compareOp op) r)(ha:PE X a ta)(hb:PE X b tb)(hm:behindInMarks op b=false):PT X (.Compare a [op] [b] pos) (cB (tOp r ta tb)):=by
 intro pins s σ H Q I h
 have hE:=pe_cmpR (pos:=pos) ho ha hb hm
 refine wpAny_isTrue_Compare1 ?_ hm
 refine binT ha hb I h fun v u s2 x y H2 I2 rx ry q=>?_
 refine thn (ho _ s2 σ H2 x y v u _ I2 rx ry q) fun c s3 hq1=>?_
 obtain⟨z,H3,I3,r3,q3⟩:=hq1
 cases z with
 | bl d=>cases r3;exact wpAny_truthy_bool ⟨H3,I3,q3⟩
 | _=>exact(show False from q3).elim
theorem pt_valC (h:PE X e t)(he:∀ whole,isTrue e X.env whole=(do let v <- whole;standAt e.pos;holding [v] (truthy v)):=by intro _;rfl):PT X e (cB t):=by
 intro pins s σ H Q I hw
 refine isTrue_plain (thn (h pins s σ H _ I hw) fun v s1 hq2=>?_) (he _)
 obtain⟨x,H1,I1,r1,q1⟩:=hq2
 cases x with
 | bl d=>cases r1;exact wpAny_truthy_bool ⟨H1,I1,q1⟩
 | _=>exact(show False from q1).elim
def cAnd (ta tb:TE):TE:=fun σ H Q=>ta σ H fun x H1=>match x with | .bl c=>if c=true then tb σ H1 Q else Q (.bl false) H1 | _=>False
theorem pe_andC {rest:List Expr}(ha:PE X a ta)(hb:PE X (.BoolOp .And (b::rest) pos) tb):PE X (.BoolOp .And (a::b::rest) pos) (cAnd ta tb):=by
 intro pins s σ H Q I h
 refine BoolOp_and (thn (ha pins s σ H _ I h) fun v s1 hq3=>?_)
 obtain⟨x,H1,I1,r1,q1⟩:=hq3
 cases x with
 | bl c =>
  cases r1
  refine wpAny_truthy_bool ?_
  cases c with
  | true=>exact hb pins s1 σ H1 Q I1 q1
  | false=>exact⟨.bl false,H1,I1,rfl,q1⟩
 | _=>exact(show False from q1).elim
def opt {α:Type}(o:Option α)(k:α->Prop):Prop:=match o with | some v=>k v | none=>False
theorem opt_ex {α:Type}{o:Option α}{k:α->Prop}(h:opt o k):∃ v,o=some v/\k v:=by
 cases o with
 | none=>exact h.elim
 | some v=>exact⟨v,rfl,h⟩
def rIxC:R2:=fun x y H Q=>match x,y with
 | .ref p,.int i=>∃ xs,(H p=some (.lst xs)\/H p=some (.tup xs))/\opt (atI xs i) fun v=>Q v H
 | .str z,.int i=>z.length<=sizeLine/\opt (atI z.cps.toList i) fun c=>Q (.str ⟨#[c]⟩) H
 | _,_=>False
theorem IxR.imp {r r':R2}(h:IxR X r)(hi:∀ x y H Q,r' x y H Q->r x y H Q):IxR X r':=fun value slice pins s σ H x y v u Q I r1 r2 q=>h value slice pins s σ H x y v u Q I r1 r2 (hi x y H Q q)
theorem ixC:IxR X rIxC:=ix_seq.imp fun x y H Q q=>by
 unfold rIxC at q
 split at q
 ·obtain⟨xs,h,q⟩:=q
  obtain⟨v,e,q⟩:=opt_ex q
  rcases h with h | h
  ·exact .inl ⟨_,xs,_,v,rfl,rfl,SqL.of h,e,q⟩
  ·exact .inr (.inl ⟨_,xs,_,v,rfl,rfl,SqT.of h,e,q⟩)
 ·obtain⟨hz,q⟩:=q
  obtain⟨v,e,q⟩:=opt_ex q
  exact .inr (.inr ⟨_,_,v,rfl,rfl,hz,e,q⟩)
 ·exact q.elim
def rSlC:V->Option Int->Option Int->Hp->VK->Prop:=fun x lo hi H Q=>match x with
 | .ref p=>∃ xs,H p=some (.lst xs)/\∀ l,H l=none->Q (.ref l) (upd H l (.lst (cutV xs lo hi)))
 | .str z=>z.length<=sizeLine/\Q (.str ⟨(cutL z.cps.toList lo hi).toArray⟩) H
 | _=>False
theorem slC:SlR X rSlC:=by
 intro pins s σ H x v vl vu lo hi sl Q I rx hs pl pu h
 unfold rSlC at h
 split at h
 ·obtain⟨xs,h1,h2⟩:=h
  exact sl_list pins s σ H _ v vl vu lo hi sl Q I rx hs pl pu ⟨_,xs,rfl,SqL.of h1,h2⟩
 ·exact sl_str pins s σ H _ v vl vu lo hi sl Q I rx hs pl pu ⟨_,rfl,h.1,h.2⟩
 ·exact h.elim
def cNo:TO:=fun _ H Q=>Q none H
def cPart (t:TE):TO:=fun σ H Q=>t σ H fun x H1=>match x with | .int i=>Q (some i) H1 | _=>False
theorem po_noC:PO X none cNo:=po_none
theorem po_someC {te:TE}(h:PE X e te):PO X (some e) (cPart te):=by
 intro pins s σ H Q I hw
 rw[evalPart_some]
 refine thn (h pins s σ H _ I hw) fun u s1 hq4=>?_
 obtain⟨x,H1,I1,r1,q1⟩:=hq4
 cases x with
 | int i=>obtain⟨t,rfl⟩:=r1;exact⟨some i,H1,I1,.int i t,q1⟩
 | _=>exact(show False from q1).elim
def rLenC:List V->Hp->VK->Prop:=fun vs H Q=>match vs with
 | [.ref p]=>∃ xs,(H p=some (.lst xs)\/H p=some (.tup xs))/\Q (.int xs.length) H
 | [.str z]=>z.length<=sizeLine/\Q (.int z.length) H
 | _=>False
theorem lenC:CallR X (.builtin "len") rLenC:=(call_len_seq.or call_len_str).imp fun vs H Q q=>by
 unfold rLenC at q
 split at q
 ·obtain⟨xs,h,q⟩:=q
  rcases h with h | h
  ·exact .inl ⟨_,xs,rfl,.inl (SqL.of h),q⟩
  ·exact .inl ⟨_,xs,rfl,.inr (SqT.of h),q⟩
 ·exact .inr ⟨_,rfl,q.1,q.2⟩
 ·exact q.elim
def rSetC:TSet:=fun o i v H Q=>match o,i with
 | .ref p,.int k=>∃ xs,H p=some (.lst xs)/\opt (ixN xs.length k) fun j=>Q (upd H p (.lst (xs.set j v)))
 | _,_=>False
theorem setC:PSet X rSetC:=by
 intro pins s σ H o i v ov iv u Q I ro ri rv h
 unfold rSetC at h
 split at h
 ·obtain⟨xs,hx,q⟩:=h
  obtain⟨j,e,q⟩:=opt_ex q
  exact set_list pins s σ H _ _ v ov iv u Q I ro ri rv ⟨_,xs,_,j,rfl,rfl,hx,e,q⟩
 ·exact h.elim
def rGetC:V->V->Hp->VK->Prop:=fun o i H Q=>match o,i with
 | .ref p,.int k=>∃ xs,H p=some (.lst xs)/\0<=k/\opt (xs[k.toNat]?) fun v=>Q v H
 | _,_=>False
theorem getC:PGet X rGetC:=by
 intro pins s σ H o i ov iv Q I ro ri h
 unfold rGetC at h
 split at h
 ·obtain⟨xs,hx,h0,q⟩:=h
  obtain⟨v,e,q⟩:=opt_ex q
  cases ro
  obtain⟨t,rfl⟩:=ri
  obtain⟨z,its,n,r,hl,ho⟩:=I.lstM hx
  obtain⟨w,ew,rw'⟩:=r.get e
  have hlt:=(gxB e).1
  have hn:=line63
  exact wpAny_getItem_list (x:=w) (⟨_,ho,rfl,n,rfl⟩:s.heap.IsList _ its.toArray) h0 (by omega) (by simpa using ew) ⟨v,H,I,rw',q⟩
 ·exact h.elim
def ipC (f:Int->Int->Int):TIp:=fun x y H Q=>match x,y with | .int i,.int j=>Q (.int (f i j)) H | _,_=>False
theorem ip_addC:PIp X .Add (ipC fun i j=>i+j):=by
 intro pins s σ H x y v u Q I r1 r2 h
 unfold ipC at h
 split at h
 ·exact ip_add pins s σ H _ _ v u Q I r1 r2 ⟨_,_,rfl,rfl,h⟩
 ·exact h.elim
def cTup (n:Nat)(t:TGs):TG:=fun v σ H Q=>match v with | .ref a=>∃ xs,H a=some (.tup xs)/\xs.length=n/\t xs σ H Q | _=>False
def cCons (t:TG)(u:TGs):TGs:=fun vs σ H Q=>match vs with | v::r=>t v σ H fun σ' H'=>u r σ' H' Q | []=>False
def cNil:TGs:=fun vs σ H Q=>match vs with | []=>Q σ H | _=>False
theorem pg_tupC {es:List Expr}{k:Nat}{t:TGs}{n:Nat}(hc:X.calm=true)(h:PGs X es t)(hn:(assignEach es X.env).length=n:=by rfl)(hst:(assignEach es X.env).findIdx? (·.1)=none:=by rfl):PG X (.Tuple es k pos) (cTup n t) :=
 (pg_tup (pos:=pos) (k:=k) hc h hn hst).imp fun v σ H Q q=>by
  unfold cTup at q
  split at q
  ·obtain⟨xs,a,b,c⟩:=q;exact⟨_,xs,rfl,SqT.of a,b,c⟩
  ·exact q.elim
theorem pgs_consC {es:List Expr}{t:TG}{u:TGs}(h1:PG X e t)(h2:PGs X es u)(hs:(assignEach (e::es) X.env).map (·.2)=assign e X.env::(assignEach es X.env).map (·.2):=by rfl):PGs X (e::es) (cCons t u) :=
 (pgs_cons h1 h2 hs).imp fun v σ H Q q=>by
  unfold cCons at q
  split at q
  ·exact⟨_,_,rfl,q⟩
  ·exact q.elim
theorem pgs_nilC:PGs X [] cNil:=pgs_nil.imp fun v σ H Q q=>by
 unfold cNil at q
 split at q
 ·exact⟨rfl,q⟩
 ·exact q.elim
def rJoinC:V->List V->Hp->VK->Prop:=fun x vs H Q=>match x,vs with
 | .str z,[.ref l]=>z.cps=#[]/\∃ ys:List Str,H l=some (.lst (ys.map V.str))/\(ys.map (·.length)).sum<=16777216/\Q (.str ⟨(ys.map (·.cps.toList)).flatten.toArray⟩) H
 | _,_=>False
theorem joinC:MtR X "str.join" rJoinC:=mt_join.imp fun x vs H Q q=>by
 unfold rJoinC at q
 split at q
 ·obtain⟨a,ys,b,c,d⟩:=q;exact⟨_,_,ys,rfl,a,rfl,SqL.of b,c,d⟩
 ·exact q.elim
def rCountC:V->List V->Hp->VK->Prop:=fun x vs H Q=>match x,vs with
 | .str z,[.str y]=>∃ c:Nat,y=⟨#[c]⟩/\Q (.int ((z.cps.toList.count c:Nat):Int)) H
 | _,_=>False
theorem countC:MtR X "str.count" rCountC:=mt_count.imp fun x vs H Q q=>by
 unfold rCountC at q
 split at q
 ·obtain⟨c,rfl,q⟩:=q;exact⟨_,c,rfl,rfl,q⟩
 ·exact q.elim
def rIsiC (K:PySem.W.Frag):List V->Hp->VK->Prop:=fun vs H Q=>match vs with
 | [x,.ty T]=>∃ t b,TyOf K H x t/\PySem.W.kitOne K t (.type T)=some b/\Q (.bl b) H
 | _=>False
theorem isiC:CallR X (.builtin "isinstance") (rIsiC X.K):=call_isi.imp fun vs H Q q=>by
 unfold rIsiC at q
 split at q
 ·obtain⟨t,b,h1,h2,h3⟩:=q;exact⟨_,_,t,b,rfl,h1,h2,h3⟩
 ·exact q.elim
def rListC (K:PySem.W.Frag):List V->Hp->VK->Prop:=fun vs H Q=>match vs with
 | [.ref p]=>∃ ys,SqL K H p ys/\∀ l,H l=none->Q (.ref l) (upd H l (.lst ys))
 | _=>False
theorem listC:CallR X (.type "list") (rListC X.K):=call_list_of.imp fun vs H Q q=>by
 unfold rListC at q
 split at q
 ·obtain⟨ys,h1,h2⟩:=q;exact⟨_,ys,rfl,.inl h1,h2⟩
 ·exact q.elim
def rMaxC:List V->Hp->VK->Prop:=fun vs H Q=>∃ i j,vs=[.int i,.int j]/\Q (.int (max i j)) H
theorem maxC (hc:X.calm=true):CallR X (.builtin "max") rMaxC:=(call_max2 hc).imp fun vs H Q q=>by
 obtain⟨i,j,rfl,q⟩:=q
 refine⟨_,_,rfl,?_⟩
 have e:(if j>i then j else i)=max i j:=by split <;> omega
 rw[e];exact q
end
theorem iteD {c A B:Prop}[Decidable c](h1:c->A)(h2:¬ c->B):if decide c=true then A else B:=by
 by_cases h:c
 ·rw[if_pos (decide_eq_true h)];exact h1 h
 ·rw[if_neg (by simp[h])];exact h2 h
theorem iteDn {c A B:Prop}[Decidable c](h1:¬ c->A)(h2:c->B):if(true != decide c)=true then A else B:=by
 by_cases h:c
 ·rw[if_neg (by simp[h])];exact h2 h
 ·rw[if_pos (by simp[h])];exact h1 h
theorem iteDf {c A B:Prop}[Decidable c](h1:c->A)(h2:¬ c->B):if(false != decide c)=true then A else B:=by
 by_cases h:c
 ·rw[if_pos (by simp[h])];exact h1 h
 ·rw[if_neg (by simp[h])];exact h2 h
def CNx (n i:Nat)(Pv:Nat->List V->Hp->Prop)(ys:List V):VK:=fun y H4=>ys.length<sizeLine/\∃ m',m'<n - i/\(m'=n - (i+1)/\i+1<=n/\Pv (i+1) (ys++[y]) H4)
theorem cnx {n i:Nat}{Pv:Nat->List V->Hp->Prop}{ys:List V}{y:V}{H:Hp}(hi:i<n)(hl:ys.length<sizeLine)(p:Pv (i+1) (ys++[y]) H):CNx n i Pv ys y H:=⟨hl,n - (i+1),by omega,rfl,hi,p⟩
def CSk (n i:Nat)(Pv:Nat->List V->Hp->Prop)(ys:List V)(H3:Hp):Prop:=∃ m',m'<n - i/\(m'=n - (i+1)/\i+1<=n/\Pv (i+1) ys H3)
end L2
namespace L2
open PySem PySem.Spec PyProof.Rows
structure Cal (P:Program)(w:World)(K:PySem.W.Frag)(mg:Str->Option Value)(base:Heap)(x:Str)(k:Nat)(ps:List Str)(sp:Sp):Prop where
 ex:∃ f fd,FnOk P w K mg base CX0 k f fd ps sp/\mg x=some (.ref f)/\PySem.W.keepIn K (.ref f)=true/\Binds K fd ps []
theorem pe_callC {X:Cx}{x:Str}{p pos:Pos}{e:Expr}{es:List Expr}{t:TA}{k:Nat}{ps:List Str}{sp:Sp}(C:Cal X.prog X.w X.K X.mg X.base x k ps sp)(hr:Room k X.A)(hg:Gl X x)(ha:PA X (e::es) t)
 (hdb:(x==("__debug__" : Str))=false:=by decide) (he:starEach (e::es) X.env=(false,eval e X.env)::starEach es X.env:=by rfl) (hpl:(backTo pos (starEach es X.env)).any (·.1)=false:=by rfl) :
 PE X (.Call (.Name x p) (e::es) [] pos) (tCall sp [] E0 t):=by
 obtain⟨f,fd,F,hm,hk,hb⟩:=C.ex
 exact pe_call F hr hg hm hk hb .nil pass0 ha hdb he hpl
def tCut (t u:TS):TS:=fun D σ H=>∃ M:St->Hp->Prop,t { D with nx:=M} σ H/\∀ σ' H',M σ' H'->u D σ' H'
theorem pss_cut {X:Cx}{st:Stmt}{rest:List Stmt}{t u:TS}(h1:PS X st t)(h2:PSs X rest u):PSs X (st::rest) (tCut t u):=by
 intro pins s σ H D I h
 obtain⟨M,a,b⟩:=h
 refine wpAny_execs_cons (thn (h1 pins s σ H { D with nx:=M} I a) fun f s1 q=>?_)
 cases f with
 | next =>
  obtain⟨σ',H',I',q⟩:=q
  exact h2 pins s1 σ' H' D I' (b σ' H' q)
 | ret v=>exact q
 | brk=>exact q
 | cont=>exact q
def SB (b:Addr)(H H':Hp):Prop:=∀ c o,c≠b->H c=some o->H' c=some o
theorem SB.trans {b:Addr}{H H1 H2:Hp}(h:SB b H H1)(h':SB b H1 H2):SB b H H2:=fun c o n e=>h' c o n (h c o n e)
theorem opt_of {α:Type}{o:Option α}{k:α->Prop}{v:α}(e:o=some v)(h:k v):opt o k:=by rw[e];exact h
def OB (b:Addr)(H H':Hp):Prop:=∀ c,c≠b->H' c=H c
theorem OB.refl {b:Addr}{H:Hp}:OB b H H:=fun _ _=>rfl
theorem OB.upd {b:Addr}{H H':Hp}{o:HO}(h:OB b H H'):OB b H (L2.upd H' b o):=fun c n=>by rw[upd_ne n];exact h c n
theorem pM:(0:Int)<2147483647:=by decide
theorem pN:(0:Int)<1000000007:=by decide
def OX (l:List Nat):Prop:=∀ c∈l,c=111\/c=120
theorem OX.of {l:List Nat}(h:l.all (fun c=>c==111||c==120)=true):OX l:=fun c hc=>by
 have:=List.all_eq_true.mp h c hc
 simpa using this
theorem OX.app {a b:List Nat}(ha:OX a)(hb:OX b):OX (a++b):=fun c h=>(List.mem_append.mp h).elim (ha c) (hb c)
theorem OX.rep {c n:Nat}(h:c=111\/c=120):OX (List.replicate n c):=fun d hd=>by rw[(List.mem_replicate.mp hd).2];exact h
theorem atI_in {l:List Nat}{v:Int}(h0:0<=v)(h1:v<l.length):∃ c,atI l v=some c/\c∈l:=by
 have hlt:v.toNat<l.length:=by omega
 refine⟨l[v.toNat],?_,List.getElem_mem _⟩
 have q:=atI_nat (xs:=l) (j:=v.toNat) (v:=l[v.toNat]) (gxA hlt)
 rwa [Int.toNat_of_nonneg h0]at q
theorem app_str (a b:List Nat):((⟨a.toArray⟩:Str)++(⟨b.toArray⟩:Str))=⟨(a++b).toArray⟩:=by
 show(⟨a.toArray++b.toArray⟩:Str)=_
 congr 1
 simp
theorem lenS (a:List Nat):(⟨a.toArray⟩:Str).length=a.length:=by simp[Str.length]
theorem flat_signs:∀ l:List Nat,((l.map fun c=>(⟨#[c]⟩:Str)).map (·.cps.toList)).flatten=l
 | []=>rfl
 | c::r=>by rw[List.map_cons,List.map_cons,List.flatten_cons,flat_signs r];rfl
theorem sum_signs:∀ l:List Nat,((l.map fun c=>(⟨#[c]⟩:Str)).map (·.length)).sum=l.length
 | []=>rfl
 | c::r=>by
  rw[List.map_cons,List.map_cons,List.sum_cons,sum_signs r]
  show 1+r.length=r.length+1
  omega
def spLaw (K:PySem.W.Frag):Sp:=fun vs H Q _=>∃(a:Addr) (ns:List Int),vs=[.ref a]/\SqL K H a (ns.map V.int)/\ns.length<=63/\∀ H',Q (.bl true) H'
theorem fne (b:Bool):(false != b)=b:=by cases b <;> rfl
theorem tne (b:Bool):(true != b)=!b:=by cases b <;> rfl
theorem kit_same (K:PySem.W.Frag)(T:String):PySem.W.kitOne K (.type T) (.type T)=some true:=by unfold PySem.W.kitOne;simp
def ItOf (c:Bool)(h:Heap)(it a:Addr)(k:Nat):Prop:=if c=true then h.IsTupleIter it a k else h.IsListIter it a k
def SqOf (c:Bool)(h:Heap)(a:Addr)(its:Array Value):Prop:=if c=true then h.IsTuple a its else h.IsList a its
theorem ItOf.extBut {c:Bool}{h h':Heap}{it a b:Addr}{k:Nat}(x:ItOf c h it a k)(hs:Heap.ExtBut b h h')(hab:it≠b):ItOf c h' it a k:=by
 cases c with
 | true=>exact Heap.IsTupleIter.extBut x hs hab
 | false=>exact Heap.IsListIter.extBut x hs hab
theorem SqOf.extBut {c:Bool}{h h':Heap}{a b:Addr}{its:Array Value}(x:SqOf c h a its)(hs:Heap.ExtBut b h h')(hab:a≠b):SqOf c h' a its:=by
 cases c with
 | true=>exact Heap.IsTuple.extBut x hs hab
 | false=>exact Heap.IsList.extBut x hs hab
theorem SqOf.lt {c:Bool}{h:Heap}{a:Addr}{its:Array Value}(x:SqOf c h a its):a≠h.objs.size:=by
 cases c with
 | true=>obtain⟨o,e,_⟩:=x;exact Nat.ne_of_lt (gxN e)
 | false=>obtain⟨o,e,_⟩:=x;exact Nat.ne_of_lt (gxN e)
theorem ItOf.ex {c:Bool}{h:Heap}{it a:Addr}{k:Nat}(x:ItOf c h it a k):∃ o,h.get? it=some o:=by
 cases c with
 | true=>obtain⟨o,e,_⟩:=x;exact⟨o,e⟩
 | false=>obtain⟨o,e,_⟩:=x;exact⟨o,e⟩
theorem ItOf.data {c:Bool}{h:Heap}{it a:Addr}{k:Nat}(x:ItOf c h it a k):∃ o,h.get? it=some o/\∀ v,o.data≠.cell v:=by
 cases c with
 | true=>obtain⟨o,e,_,d⟩:=x;exact⟨o,e,fun v z=>by rw[d]at z;cases z⟩
 | false=>obtain⟨o,e,_,d⟩:=x;exact⟨o,e,fun v z=>by rw[d]at z;cases z⟩
theorem ItOf.at {c:Bool}{h h':Heap}{it a:Addr}{k:Nat}(x:ItOf c h it a k)(e:∀ o,h.get? it=some o->h'.get? it=some o):ItOf c h' it a k:=by
 cases c with
 | true=>obtain⟨o,q,r⟩:=x;exact⟨o,e o q,r⟩
 | false=>obtain⟨o,q,r⟩:=x;exact⟨o,e o q,r⟩
section
variable {prog:Program}{w:World}{A:Around}{E:Value->Shared->Prop}{s:Shared}
theorem nextT_item {it t:Addr}{i:Nat}{items}{x:Value}{Q:Value->Shared->Prop}(hit:s.heap.IsTupleIter it t i)(ht:s.heap.IsTuple t items)(hx:items[i]?=some x)
 (hQ:∀ h',h'.IsTupleIter it t (i+1)->Heap.SameBut it s.heap h'->Q x { s with heap:=h'}):wpAny (model prog w) A (Builtin.SmallTypes.nextOf (.ref it)) Q E s:=by
 obtain⟨o,ho,hc,hd⟩:=id hit
 obtain⟨ol,hol,_,nl,hdl⟩:=ht
 unfold Builtin.SmallTypes.nextOf
 refine gxM (wpAny_callSpecial?_slot (name:=Str.ofString "__next__") hit.typeIs F.slot_tuple_iterator_next (wpAny_call_entry F.slot_tuple_iterator_next hit.typeIs F.entry_tuple_iterator_next ?_ (F.args_tuple_iterator_next_1 _)))
 show wpAny _ _ (field (.ref it) 0 >>= _) _ _ s
 refine gxM (wpAny_field ho hd (x:=.ref t) rfl ?_)
 show wpAny _ _ (if(Value.ref t==Value.none)=true then _ else _) _ _ s
 rw[if_neg (show ¬ ((Value.ref t==Value.none)=true)from Bool.false_ne_true)]
 show wpAny _ _ (field (.ref it) 1 >>= _) _ _ s
 refine gxM (wpAny_field ho hd (x:=.int i 0) rfl ?_)
 show wpAny _ _ (seqItems? (.ref t) >>= _) _ _ s
 refine gxM (wpAny_seqItems hol hdl ?_)
 simp only[gxK,hx]
 refine gxM (wpAny_setField ho hd (by simp) (wpAny_pure ⟨x,rfl,wpAny_pure (hQ _ ?_ (Heap.SameBut.update ..))⟩))
 exact⟨_,Heap.get?_update_self _ ho (Obj.isFreed_of_fields (Obj.data_mapFields hd _)),(Obj.cls_mapFields ..).trans hc,by rw[Obj.data_mapFields hd];simp[rawInt]⟩
theorem nextT_end {it t:Addr}{i:Nat}{items}{Q:Value->Shared->Prop}(hh:A.handled=none)(hit:s.heap.IsTupleIter it t i)(ht:s.heap.IsTuple t items)(hx:items[i]?=none)
 (hE:∀ h' e,Heap.ExtBut it s.heap h'->(∃ o,h'.get? e=some o/\o.cls=.type "StopIteration")->E (.ref e) { s with heap:=h'}):wpAny (model prog w) A (Builtin.SmallTypes.nextOf (.ref it)) Q E s:=by
 obtain⟨o,ho,hc,hd⟩:=id hit
 obtain⟨ol,hol,_,nl,hdl⟩:=ht
 unfold Builtin.SmallTypes.nextOf
 refine gxM (wpAny_callSpecial?_slot (name:=Str.ofString "__next__") hit.typeIs F.slot_tuple_iterator_next (wpAny_call_entry F.slot_tuple_iterator_next hit.typeIs F.entry_tuple_iterator_next ?_ (F.args_tuple_iterator_next_1 _)))
 show wpAny _ _ (field (.ref it) 0 >>= _) _ _ s
 refine gxM (wpAny_field ho hd (x:=.ref t) rfl ?_)
 show wpAny _ _ (if(Value.ref t==Value.none)=true then _ else _) _ _ s
 rw[if_neg (show ¬ ((Value.ref t==Value.none)=true)from Bool.false_ne_true)]
 show wpAny _ _ (field (.ref it) 1 >>= _) _ _ s
 refine gxM (wpAny_field ho hd (x:=.int i 0) rfl ?_)
 show wpAny _ _ (seqItems? (.ref t) >>= _) _ _ s
 refine gxM (wpAny_seqItems hol hdl ?_)
 simp only[gxK,hx]
 refine gxM (wpAny_rule (gxM (wpAny_setField ho hd (by simp) ?_)))
 show wpAny _ _ (newExc (.type "StopIteration") [] >>= _) _ _ _
 refine gxM ?_
 simp only[newExc,newTuple]
 refine gxM (wpAny_newObj_type ?_ (by size_fits))
 refine gxM (m:=firstArgMember _ _) (wpAny_of_eq (a:=Value.none) (by first | rfl | (simp only[firstArgMember];rfl)) ?_)
 refine wpAny_newObj_type ?_ (by size_fits)
 simp only[raiseNew]
 refine gxM (wpAny_handled ?_)
 first | rw[show A.in1.handled=none from hh] | rw[hh]
 refine gxM (wpAny_pure (wpAny_throw ?_))
 exact hE _ _ (((Heap.SameBut.update ..).extBut.push _).push _) ⟨_,Heap.get?_push_size _ rfl,rfl⟩
theorem nextG_item {c:Bool}{it l:Addr}{i:Nat}{items:Array Value}{x:Value}{Q:Value->Shared->Prop}(hit:ItOf c s.heap it l i)(hl:SqOf c s.heap l items)(hx:items[i]?=some x)
 (hQ:∀ h',ItOf c h' it l (i+1)->Heap.SameBut it s.heap h'->Q x { s with heap:=h'}):wpAny (model prog w) A (Builtin.SmallTypes.nextOf (.ref it)) Q E s:=by
 cases c with
 | true=>exact nextT_item hit hl hx hQ
 | false=>exact wpAny_nextOf_list_item hit hl hx hQ
theorem nextG_end {c:Bool}{it l:Addr}{i:Nat}{items:Array Value}{Q:Value->Shared->Prop}(hh:A.handled=none)(hit:ItOf c s.heap it l i)(hl:SqOf c s.heap l items)(hx:items[i]?=none)
 (hE:∀ h' e,Heap.ExtBut it s.heap h'->(∃ o,h'.get? e=some o/\o.cls=.type "StopIteration")->E (.ref e) { s with heap:=h'}):wpAny (model prog w) A (Builtin.SmallTypes.nextOf (.ref it)) Q E s:=by
 cases c with
 | true=>exact nextT_end hh hit hl hx hE
 | false=>exact wpAny_nextOf_list_end hh hit hl hx hE
structure ZS (c:Bool)(z TI TO i1 i2 l1 l2:Addr)(f a b:Value)(k1 k2:Nat)(xs ys:Array Value)(h:Heap):Prop where
 z:IsZip h z TI TO f
 ti:IsPair h TI (.ref i1) (.ref i2)
 to:IsPair h TO a b
 n1:ItOf c h i1 l1 k1
 n2:ItOf c h i2 l2 k2
 q1:SqOf c h l1 xs
 q2:SqOf c h l2 ys
def ZK (z TO i1 i2:Addr)(h h':Heap):Prop:=∀ d o,d≠z->d≠TO->d≠i1->d≠i2->h.get? d=some o->h'.get? d=some o
theorem ZK.trans {z TO i1 i2:Addr}{h h1 h2:Heap}(a:ZK z TO i1 i2 h h1)(b:ZK z TO i1 i2 h1 h2):ZK z TO i1 i2 h h2:=fun d o q1 q2 q3 q4 e=>b d o q1 q2 q3 q4 (a d o q1 q2 q3 q4 e)
section
variable {c:Bool}{z TI TO i1 i2 l1 l2:Addr}{f f' a b x y:Value}{k1 k2:Nat}{xs ys:Array Value}{h h':Heap}
theorem ZS.mz (S:ZS c z TI TO i1 i2 l1 l2 f a b k1 k2 xs ys h)(D:ZipApart z TI TO i1 i2 l1 l2)(e:IsZip h' z TI TO f')(k:Heap.ExtBut z h h'):ZS c z TI TO i1 i2 l1 l2 f' a b k1 k2 xs ys h' :=
 ⟨e,k _ _ D.TIz S.ti,k _ _ D.TOz S.to,S.n1.extBut k D.i1z,S.n2.extBut k D.i2z,S.q1.extBut k D.l1z,S.q2.extBut k D.l2z⟩
theorem ZS.m1 {j:Nat}(S:ZS c z TI TO i1 i2 l1 l2 f a b k1 k2 xs ys h)(D:ZipApart z TI TO i1 i2 l1 l2)(e:ItOf c h' i1 l1 j)(k:Heap.ExtBut i1 h h'):ZS c z TI TO i1 i2 l1 l2 f a b j k2 xs ys h' :=
 ⟨k _ _ D.i1z.symm S.z,k _ _ D.TIi1 S.ti,k _ _ D.TOi1 S.to,e,S.n2.extBut k D.i12.symm,S.q1.extBut k D.l1i1,S.q2.extBut k D.l2i1⟩
theorem ZS.m2 {j:Nat}(S:ZS c z TI TO i1 i2 l1 l2 f a b k1 k2 xs ys h)(D:ZipApart z TI TO i1 i2 l1 l2)(e:ItOf c h' i2 l2 j)(k:Heap.ExtBut i2 h h'):ZS c z TI TO i1 i2 l1 l2 f a b k1 j xs ys h' :=
 ⟨k _ _ D.i2z.symm S.z,k _ _ D.TIi2 S.ti,k _ _ D.TOi2 S.to,S.n1.extBut k D.i12,e,S.q1.extBut k D.l1i2,S.q2.extBut k D.l2i2⟩
theorem ZS.mo (S:ZS c z TI TO i1 i2 l1 l2 f a b k1 k2 xs ys h)(D:ZipApart z TI TO i1 i2 l1 l2)(e:IsPair h' TO x y)(k:Heap.ExtBut TO h h'):ZS c z TI TO i1 i2 l1 l2 f x y k1 k2 xs ys h' :=
 ⟨k _ _ D.TOz.symm S.z,k _ _ D.TITO S.ti,e,S.n1.extBut k D.TOi1.symm,S.n2.extBut k D.TOi2.symm,S.q1.extBut k D.l1TO,S.q2.extBut k D.l2TO⟩
theorem ZS.push (S:ZS c z TI TO i1 i2 l1 l2 f a b k1 k2 xs ys h)(o:Obj):ZS c z TI TO i1 i2 l1 l2 f a b k1 k2 xs ys (h.push o) :=
 ⟨gxL _ S.z,gxL _ S.ti,gxL _ S.to,S.n1.at fun _ e=>gxL _ e,S.n2.at fun _ e=>gxL _ e,
  S.q1.extBut (b:=h.objs.size) (fun _ _ _ e=>gxL _ e) (S.q1.lt),S.q2.extBut (b:=h.objs.size) (fun _ _ _ e=>gxL _ e) (S.q2.lt)⟩
theorem zk_z (k:Heap.ExtBut z h h'):ZK z TO i1 i2 h h':=fun d o q _ _ _ e=>k d o q e
theorem zk_o (k:Heap.ExtBut TO h h'):ZK z TO i1 i2 h h':=fun d o _ q _ _ e=>k d o q e
theorem zk_1 (k:Heap.ExtBut i1 h h'):ZK z TO i1 i2 h h':=fun d o _ _ q _ e=>k d o q e
theorem zk_2 (k:Heap.ExtBut i2 h h'):ZK z TO i1 i2 h h':=fun d o _ _ _ q e=>k d o q e
end
section
variable {c:Bool}{z TI TO i1 i2 l1 l2:Addr}{k1 k2:Nat}{xs ys:Array Value}{x y a b:Value}
theorem zip_turn {Q:Value->Shared->Prop}(D:ZipApart z TI TO i1 i2 l1 l2)(S:ZS c z TI TO i1 i2 l1 l2 .none a b k1 k2 xs ys s.heap)(hx:xs[k1]?=some x)(hy:ys[k2]?=some y)
 (hQ:∀ h',ZS c z TI TO i1 i2 l1 l2 (rawInt s.heap.objs.size) x y (k1+1) (k2+1) xs ys h'->IsPair h' s.heap.objs.size x y->ZK z TO i1 i2 s.heap h'->Q (.ref s.heap.objs.size) { s with heap:=h'}) :
 wpAny (model prog w) A (Builtin.«zip.__next__» ⟨[.ref z],[]⟩) (fun fin s'=>∃ v,fin=.done (.ret v)/\Q v s') E s:=by
 refine gxM (wpAny_pure (gxM (wpAny_field S.z rfl (x:=.bool false) rfl (gxM (wpAny_field S.z rfl (x:=.ref TI) rfl (gxM (wpAny_seqItems S.ti rfl ?_)))))))
 refine gxM (m:=Builtin.SmallTypes.ownedTupleIsFree (.ref z)) (gxM (wpAny_field S.z rfl (x:=.none) rfl (wpAny_pure ?_)))
 refine gxM (wpAny_rule (gxM (wpAny_field S.z rfl (x:=.ref TO) rfl (gxM (wpAny_setField_rec S.z (by simp) fun g1 e1 t1=>?_)))))
 have S1:=S.mz D (f':=.ellipsis) e1 t1.extBut
 refine gxM ?_
 rw[show(#[Value.ref i1,Value.ref i2]:Array Value).toList.zipIdx=[(.ref i1,0),(.ref i2,1)]from rfl,List.forIn_cons]
 refine gxM (gxM (wpAny_onRaise (gxM (nextG_item S1.n1 S1.q1 hx fun g2 e2 t2=>wpAny_pure ?_))))
 have S2:=S1.m1 D e2 t2.extBut
 refine gxM (wpAny_seqItems S2.to rfl (gxM (wpAny_updateSeq_pair S2.to fun g3 e3 t3=>gxM (wpAny_letGo (wpAny_pure ?_)))))
 have S3:=S2.mo D (x:=x) (y:=b) e3 t3.extBut
 dsimp only
 rw[List.forIn_cons]
 refine gxM (gxM (wpAny_onRaise (gxM (nextG_item S3.n2 S3.q2 hy fun g4 e4 t4=>wpAny_pure ?_))))
 have S4:=S3.m2 D e4 t4.extBut
 refine gxM (wpAny_seqItems S4.to rfl (gxM (wpAny_updateSeq_pair S4.to fun g5 e5 t5=>gxM (wpAny_letGo (wpAny_pure ?_)))))
 have S5:=S4.mo D (x:=x) (y:=y) e5 t5.extBut
 dsimp only
 rw[List.forIn_nil]
 have sz:g5.objs.size=s.heap.objs.size:=t5.1.trans (t4.1.trans (t3.1.trans (t2.1.trans t1.1)))
 refine wpAny_pure (gxM (wpAny_seqItems S5.to rfl (gxM (wpAny_newTuple ?_))))
 have S6:=S5.push { cls:=.type "tuple",data:=.seq #[x,y]}
 refine gxM (m:=Builtin.SmallTypes.ownedTupleHandOut (.ref z) (.ref g5.objs.size)) (gxM (wpAny_setField_rec S6.z (by simp) fun g7 e7 t7=>?_))
 have S7:=S6.mz D (f':=rawInt g5.objs.size) e7 t7.extBut
 refine wpAny_setField_rec S7.z (by simp) fun g8 e8 t8=>?_
 have S8:=S7.mz D (f':=rawInt g5.objs.size) e8 t8.extBut
 have zlt:g5.objs.size≠z:=Nat.ne_of_gt (gxN S5.z)
 have hT:IsPair g8 g5.objs.size x y:=t8.extBut _ _ zlt (t7.extBut _ _ zlt (Heap.get?_push_size _ rfl))
 have kk:ZK z TO i1 i2 s.heap g8:=((((((zk_z t1.extBut).trans (zk_1 t2.extBut)).trans (zk_o t3.extBut)).trans (zk_2 t4.extBut)).trans (zk_o t5.extBut)).trans (fun d o _ _ _ _ e=>gxL _ e)).trans ((zk_z t7.extBut).trans (zk_z t8.extBut))
 rw[sz]at S8 hT
 refine wpAny_pure ⟨_,rfl,?_⟩
 show Q (.ref g5.objs.size) _
 rw[sz]
 exact hQ g8 S8 hT kk
theorem zip_over {Q:Fin->Shared->Prop}(hh:A.handled=none)(D:ZipApart z TI TO i1 i2 l1 l2)(S:ZS c z TI TO i1 i2 l1 l2 .none a b k1 k2 xs ys s.heap)(hx:xs[k1]?=none)
 (hE:∀ h' e,ZK z TO i1 i2 s.heap h'->(∃ o,h'.get? e=some o/\o.cls=.type "StopIteration")->E (.ref e) { s with heap:=h'}) :
 wpAny (model prog w) A (Builtin.«zip.__next__» ⟨[.ref z],[]⟩) Q E s:=by
 refine gxM (wpAny_pure (gxM (wpAny_field S.z rfl (x:=.bool false) rfl (gxM (wpAny_field S.z rfl (x:=.ref TI) rfl (gxM (wpAny_seqItems S.ti rfl ?_)))))))
 refine gxM (m:=Builtin.SmallTypes.ownedTupleIsFree (.ref z)) (gxM (wpAny_field S.z rfl (x:=.none) rfl (wpAny_pure ?_)))
 refine gxM (wpAny_rule (gxM (wpAny_field S.z rfl (x:=.ref TO) rfl (gxM (wpAny_setField_rec S.z (by simp) fun g1 e1 t1=>?_)))))
 have S1:=S.mz D (f':=.ellipsis) e1 t1.extBut
 refine gxM ?_
 rw[show(#[Value.ref i1,Value.ref i2]:Array Value).toList.zipIdx=[(.ref i1,0),(.ref i2,1)]from rfl,List.forIn_cons]
 refine gxM (gxM (wpAny_onRaise (gxM (nextG_end hh S1.n1 S1.q1 hx fun g2 e t2 he=>?_))))
 obtain⟨oe,hoe,hce⟩:=he
 have hz2:IsZip g2 z TI TO .ellipsis:=t2 _ _ D.i1z.symm S1.z
 have hez:e≠z:=fun q=>by subst q;rw[hz2]at hoe;cases hoe;simp at hce
 exact wpAny_setField_rec hz2 (by simp) fun g3 _ t3=>hE g3 e (((zk_z t1.extBut).trans (zk_1 t2)).trans (zk_z t3.extBut)) ⟨oe,t3.extBut _ _ hez hoe,hce⟩
theorem zip_item {Q:Option Value->Shared->Prop}(D:ZipApart z TI TO i1 i2 l1 l2)(S:ZS c z TI TO i1 i2 l1 l2 .none a b k1 k2 xs ys s.heap)(hx:xs[k1]?=some x)(hy:ys[k2]?=some y)
 (hQ:∀ h',ZS c z TI TO i1 i2 l1 l2 (rawInt s.heap.objs.size) x y (k1+1) (k2+1) xs ys h'->IsPair h' s.heap.objs.size x y->ZK z TO i1 i2 s.heap h'->Q (some (.ref s.heap.objs.size)) { s with heap:=h'}) :
 wpAny (model prog w) A (pyNext (.ref z)) Q E s:=by
 have ty:s.TypeIs (.ref z) "zip":=⟨_,S.z,rfl⟩
 unfold pyNext
 exact gxM (wpAny_attempt (wpAny_callSpecial?_slot (name:=Str.ofString "__next__") ty F.slot_zip_next (wpAny_call_entry F.slot_zip_next ty F.entry_zip_next (zip_turn D S hx hy fun h' a1 a2 a3=>wpAny_pure (hQ h' a1 a2 a3)) (F.args_zip_next_1 _))))
theorem zip_end {Q:Option Value->Shared->Prop}(hh:A.handled=none)(D:ZipApart z TI TO i1 i2 l1 l2)(S:ZS c z TI TO i1 i2 l1 l2 .none a b k1 k2 xs ys s.heap)(hx:xs[k1]?=none)
 (hQ:∀ h',ZK z TO i1 i2 s.heap h'->Q none { s with heap:=h'}):wpAny (model prog w) A (pyNext (.ref z)) Q E s:=by
 have ty:s.TypeIs (.ref z) "zip":=⟨_,S.z,rfl⟩
 unfold pyNext
 refine gxM (wpAny_attempt (wpAny_callSpecial?_slot (name:=Str.ofString "__next__") ty F.slot_zip_next (wpAny_call_entry F.slot_zip_next ty F.entry_zip_next (zip_over hh D S hx fun h' e hk he=>?_) (F.args_zip_next_1 _))))
 obtain⟨o,ho,hc⟩:=he
 exact gxM (wpAny_isInstance (T := "StopIteration") (b:=true) ⟨o,ho,hc⟩ isSubtype_stop (wpAny_pure (hQ _ hk)))
end
end
def SqC (c:Bool)(H:Hp)(a:Addr)(xs:List V):Prop:=if c=true then H a=some (.tup xs)else H a=some (.lst xs)
theorem SqC.inj {c:Bool}{H:Hp}{a:Addr}{xs ys:List V}(h:SqC c H a xs)(h':SqC c H a ys):xs=ys:=by
 cases c with
 | true=>have h1:H a=some (.tup xs):=h;have h2:H a=some (.tup ys):=h';rw[h1]at h2;cases h2;rfl
 | false=>have h1:H a=some (.lst xs):=h;have h2:H a=some (.lst ys):=h';rw[h1]at h2;cases h2;rfl
theorem SqC.ex {c:Bool}{H:Hp}{a:Addr}{xs:List V}(h:SqC c H a xs):∃ o,H a=some o:=by
 cases c with
 | true=>exact⟨_,h⟩
 | false=>exact⟨_,h⟩
theorem SqC.val {X:Cx}{pins:List (Addr×Obj)}{σ:St}{H:Hp}{s:Shared}{c:Bool}{a:Addr}{xs:List V}(I:Inv X pins σ H s)(h:SqC c H a xs):∃ its:List Value,Vals xs its/\SqOf c s.heap a its.toArray:=by
 cases c with
 | true =>
  obtain⟨_,its,r,p⟩:=(show ObjOk X.prog X.w H s.heap a (.tup xs)from I.hok a _ h)
  exact⟨its,r,p⟩
 | false =>
  obtain⟨_,its,n,r,_,e⟩:=I.lstM h
  exact⟨its,r,⟨_,e,rfl,n,rfl⟩⟩
def Itz (c:Bool)(a1 a2:Addr):It :=
 ⟨fun i H=>∃ xs ys x y,SqC c H a1 xs/\SqC c H a2 ys/\xs[i]?=some x/\ys[i]?=some y,
  fun i H v H'=>∃ T x y,v=.ref T/\H T=none/\H'=upd H T (.tup [x,y])/\(∀ xs,SqC c H a1 xs->xs[i]?=some x)/\(∀ ys,SqC c H a2 ys->ys[i]?=some y),
  fun i H=>∃ xs ys,SqC c H a1 xs/\SqC c H a2 ys/\xs.length<=i⟩
section
variable {X:Cx}{pins:List (Addr×Obj)}{σ:St}{H:Hp}{s:Shared}
theorem Inv.turnT {ch:List Addr}{h'':Heap}{x y:V}{u v:Value}(I:Inv X pins σ H s)(fr:∀ b∈ch,FpOk X pins H b)(kp':∀ b o,b∉ch->s.heap.get? b=some o->h''.get? b=some o)(hT':IsPair h'' s.heap.objs.size u v)(ru:RelV x u)(rv:RelV y v) :
 Inv X pins σ (upd H s.heap.objs.size (.tup [x,y])) { s with heap:=h''}:=by
 have hn:H s.heap.objs.size=none:=I.hok.fresh (Nat.le_refl _)
 refine I.step (g':=s.gens) (d':=s.drawn) (t':=s.toks) (h':=h'') (ch:=ch) (fun b hb=>?_) (fun b o _ _ hb e _=>kp' b o hb e) (fun b o _ _ hb e _=>⟨o.slots,kp' b o hb e⟩)
  (fun b o hb e n=>by rw[upd_ne (Nat.ne_of_lt (gxN e))];exact n) (fun b o hb e=>⟨o,kp' b o hb e⟩)
  (fun b zs e=>by rw[upd_ne (ne_of_none e hn)];exact e) (fun b o u e=>by rw[upd_ne (ne_of_none e hn)];exact e) (fun b ps e=>⟨#[],by rw[upd_ne (ne_of_none e hn),e];simp⟩) (fun m hm=>?_) (fun b o e=>?_) I.bare
 ·obtain⟨f0,f1,f2,f3,f4,f5⟩:=fr b hb
  exact⟨f3,f1,f4,f5⟩
 ·obtain⟨o,es,ep,ho,rr⟩:=hm
  exact⟨o,es,ep,kp' _ o (fun q=>(fr _ q).2.1 rfl) ho,rr⟩
 ·by_cases hb:b=s.heap.objs.size
  ·subst hb;rw[upd_same]at e;cases e
   exact⟨by show 2<=sizeLine;decide,[u,v],.cons ru (.cons rv .nil),⟨_,hT',rfl,0,rfl⟩⟩
  ·rw[upd_ne hb]at e
   refine(I.hok b o e).stay (fun d v' hd q=>kp' d v' (fun hm=>?_) q) (fun d q=>by rw[upd_ne (ne_of_none q hn)];exact q) fun d zs q=>by rw[upd_ne (ne_of_none q hn)];exact q
   have nn:=(fr d hm).1
   rcases hd with rfl | hd
   ·rw[nn]at e;cases e
   ·rw[nn]at hd;cases hd
theorem Inv.turnK {ch:List Addr}{h'':Heap}(I:Inv X pins σ H s)(fr:∀ b∈ch,FpOk X pins H b)(kp':∀ b o,b∉ch->s.heap.get? b=some o->h''.get? b=some o):Inv X pins σ H { s with heap:=h''}:=by
 refine I.step (g':=s.gens) (d':=s.drawn) (t':=s.toks) (h':=h'') (ch:=ch) (fun b hb=>?_) (fun b o _ _ hb e _=>kp' b o hb e) (fun b o _ _ hb e _=>⟨o.slots,kp' b o hb e⟩)
  (fun b o hb e n=>n) (fun b o hb e=>⟨o,kp' b o hb e⟩) (fun b zs e=>e) (fun b o u e=>e) (fun b ps e=>⟨#[],by rw[e];simp⟩) (fun m hm=>?_) (fun b o e=>?_) I.bare
 ·obtain⟨f0,f1,f2,f3,f4,f5⟩:=fr b hb
  exact⟨f3,f1,f4,f5⟩
 ·obtain⟨o,es,ep,ho,rr⟩:=hm
  exact⟨o,es,ep,kp' _ o (fun q=>(fr _ q).2.1 rfl) ho,rr⟩
 ·refine(I.hok b o e).stay (fun d v' hd q=>kp' d v' (fun hm=>?_) q) (fun d q=>q) fun d zs q=>q
  have nn:=(fr d hm).1
  rcases hd with rfl | hd
  ·rw[nn]at e;cases e
  ·rw[nn]at hd;cases hd
end
theorem turn_zip {P:Program}{w:World}{K:PySem.W.Frag}{elts:List Expr}{kk:Nat}{tpos:Pos}{c:Bool}{z TI TO i1 i2 l1 l2:Addr}(D:ZipApart z TI TO i1 i2 l1 l2) :
 Turn P w K (.Tuple elts kk tpos) (Itz c l1 l2) [z,TI,TO,i1,i2] z (fun i h=>IsZip h z TI TO .none/\IsPair h TI (.ref i1) (.ref i2)/\(∃ a b,IsPair h TO a b)/\ItOf c h i1 l1 i/\ItOf c h i2 l2 i) where
 mem:=by simp
 obj:=fun i h st b hb=>by
  obtain⟨hz,hTI,⟨a,b',hTO⟩,h1,h2⟩:=st
  simp only[List.mem_cons,List.not_mem_nil,or_false]at hb
  rcases hb with rfl | rfl | rfl | rfl | rfl
  ·exact⟨_,hz,fun v q=>by cases q⟩
  ·exact⟨_,hTI,fun v q=>by cases q⟩
  ·exact⟨_,hTO,fun v q=>by cases q⟩
  ·exact h1.data
  ·exact h2.data
 keep:=fun i h h' st k=>by
  obtain⟨hz,hTI,⟨a,b',hTO⟩,h1,h2⟩:=st
  exact⟨k z (by simp) _ hz,k TI (by simp) _ hTI,⟨a,b',k TO (by simp) _ hTO⟩,h1.at fun o e=>k i1 (by simp) o e,h2.at fun o e=>k i2 (by simp) o e⟩
 item:=by
  intro X hP hw hK hc i pins s σ H E I hf st hg
  subst hP hw hK
  obtain⟨hz,hTI,⟨a,b',hTO⟩,h1,h2⟩:=st
  obtain⟨xs,ys,x,y,q1,q2,ex,ey⟩:=hg
  obtain⟨us,r1,p1⟩:=q1.val I
  obtain⟨ws,r2,p2⟩:=q2.val I
  obtain⟨u,eu,ru⟩:=r1.get ex
  obtain⟨v,ev,rv⟩:=r2.get ey
  refine zip_item D ⟨hz,hTI,hTO,h1,h2,p1,p2⟩ (by simpa using eu) (by simpa using ev) fun h' S' hT hk=>?_
  refine⟨_,rfl,wpAny_letOwnedTupleGo_zip S'.z fun h'' e'' t''=>?_⟩
  have S'':=S'.mz D (f':=.none) e'' t''.extBut
  have Tz:s.heap.objs.size≠z:=Nat.ne_of_gt (gxN hz)
  have hT':IsPair h'' s.heap.objs.size u v:=t''.extBut _ _ Tz hT
  have kp:ZK z TO i1 i2 s.heap h'':=hk.trans (zk_z t''.extBut)
  have hn:H s.heap.objs.size=none:=I.hok.fresh (Nat.le_refl _)
  have fr:∀ b∈[z,TO,i1,i2],FpOk X pins H b:=fun b hb=>hf b (by
   simp only[List.mem_cons,List.not_mem_nil,or_false]at hb ⊢
   rcases hb with q | q | q | q <;> simp[q])
  have kp':∀ b o,b∉[z,TO,i1,i2]->s.heap.get? b=some o->h''.get? b=some o:=fun b o hb e=>kp b o (fun q=>hb (by simp[q])) (fun q=>hb (by simp[q])) (fun q=>hb (by simp[q])) (fun q=>hb (by simp[q])) e
  have I1:Inv X pins σ (upd H s.heap.objs.size (.tup [x,y])) { s with heap:=h''}:=I.turnT fr kp' hT' ru rv
  refine⟨.ref s.heap.objs.size,_,I1,rfl,⟨_,x,y,rfl,hn,rfl,fun zs q=>by rw[q.inj q1];exact ex,fun zs q=>by rw[q.inj q2];exact ey⟩,⟨S''.z,S''.ti,⟨_,_,S''.to⟩,S''.n1,S''.n2⟩,fun b hb=>?_⟩
  obtain⟨o,e,_⟩:∃ o,s.heap.get? b=some o/\True:=by
   simp only[List.mem_cons,List.not_mem_nil,or_false]at hb
   rcases hb with rfl | rfl | rfl | rfl | rfl
   ·exact⟨_,hz,trivial⟩
   ·exact⟨_,hTI,trivial⟩
   ·exact⟨_,hTO,trivial⟩
   ·obtain⟨o,e⟩:=h1.ex;exact⟨o,e,trivial⟩
   ·obtain⟨o,e⟩:=h2.ex;exact⟨o,e,trivial⟩
  rw[upd_ne (Nat.ne_of_lt (gxN e))]
  exact(hf b hb).1
 done:=by
  intro X hP hw hK hc i pins s σ H E I hf st hg
  subst hP hw hK
  obtain⟨hz,hTI,⟨a,b',hTO⟩,h1,h2⟩:=st
  obtain⟨xs,ys,q1,q2,hx⟩:=hg
  obtain⟨us,r1,p1⟩:=q1.val I
  obtain⟨ws,r2,p2⟩:=q2.val I
  have hl:=r1.length
  refine zip_end (I.ok.hd hc) D ⟨hz,hTI,hTO,h1,h2,p1,p2⟩ (by simp;omega) fun h' hk=>⟨rfl,?_⟩
  have fr:∀ b∈[z,TO,i1,i2],FpOk X pins H b:=fun b hb=>hf b (by
   simp only[List.mem_cons,List.not_mem_nil,or_false]at hb ⊢
   rcases hb with q | q | q | q <;> simp[q])
  have kp':∀ b o,b∉[z,TO,i1,i2]->s.heap.get? b=some o->h'.get? b=some o:=fun b o hb e=>hk b o (fun q=>hb (by simp[q])) (fun q=>hb (by simp[q])) (fun q=>hb (by simp[q])) (fun q=>hb (by simp[q])) e
  exact I.turnK fr kp'
 self:=fun _ _ _ _ _ st h=>wpAny_pyIter_zip st.1 h
def tIt (a:Addr):Obj:={ cls:=.type "tuple_iterator",data:=.fields #[.ref a,.int 0 0]}
def zH (l1 l2:Addr)(h:Heap):Heap :=
 ((((h.push (tIt l1)).push (tIt l2)).push { cls:=.type "tuple",data:=.seq #[.ref h.objs.size,.ref (h.push (tIt l1)).objs.size]}).push { cls:=.type "tuple",data:=.seq #[.none,.none]}).push
  { cls:=.type "zip",data:=.fields #[.none,.bool false,.bool false,.ref ((h.push (tIt l1)).push (tIt l2)).objs.size,.ref (((h.push (tIt l1)).push (tIt l2)).push { cls:=.type "tuple",data:=.seq #[.ref h.objs.size,.ref (h.push (tIt l1)).objs.size]}).objs.size]}
theorem zip_newT (l1 l2:Addr)(xs ys:Array Value):Meets (Builtin.«zip.__new__» ⟨[.type "zip",.ref l1,.ref l2],[]⟩) (fun _ R s=>s.heap.IsTuple l1 xs/\s.heap.IsTuple l2 ys /\
 R (.ok (.ret (.ref (s.heap.objs.size+4)))) { s with heap:=zH l1 l2 s.heap}) :=
 .of_wp fun prog w A R s h=>by
  obtain⟨hp,g,d,tk,os⟩:=s;obtain⟨hl1,hl2,h⟩:=h
  have hsub:=sub_zip
  have t1:Heap.IsTuple (Shared.heap ⟨hp,g,d,tk,os⟩) l1 xs:=hl1
  have t2:Heap.IsTuple (Shared.heap ⟨hp.push { cls:=.type "tuple_iterator",data:=.fields #[.ref l1,.int 0 0]},g,d,tk,os⟩) l2 ys:=Heap.IsTuple.push hl2 _
  wp_walk using wpAny_pyIter_tuple t1,wpAny_pyIter_tuple t2
  refine⟨_,rfl,?_⟩
  have e:hp.objs.size+4=((((hp.push (tIt l1)).push (tIt l2)).push { cls:=.type "tuple",data:=.seq #[.ref hp.objs.size,.ref (hp.push (tIt l1)).objs.size]}).push { cls:=.type "tuple",data:=.seq #[.none,.none]}).objs.size:=by
   simp only[Heap.size_push]
  have h':R (.ok (.ret (.ref (hp.objs.size+4)))) _:=h
  rw[e]at h'
  exact h'
theorem zip_made {prog:Program}{w:World}{A:Around}{E:Value->Shared->Prop}{s:Shared}{c:Bool}{l1 l2:Addr}{xs ys:Array Value}{Q:Value->Shared->Prop}(p1:SqOf c s.heap l1 xs)(p2:SqOf c s.heap l2 ys)
 (h:∀ h',IsZip h' (s.heap.objs.size+4) (s.heap.objs.size+2) (s.heap.objs.size+3) .none->IsPair h' (s.heap.objs.size+2) (.ref s.heap.objs.size) (.ref (s.heap.objs.size+1))->IsPair h' (s.heap.objs.size+3) .none .none ->
   ItOf c h' s.heap.objs.size l1 0->ItOf c h' (s.heap.objs.size+1) l2 0->(∀ b o,s.heap.get? b=some o->h'.get? b=some o)->Q (.ref (s.heap.objs.size+4)) { s with heap:=h'}) :
 wpAny (model prog w) A (call (.type "zip") [.ref l1,.ref l2]) Q E s:=by
 cases c with
 | false=>exact call_zip_2 p1 p2 fun h' a1 a2 a3 a4 a5 _ a7=>h h' a1 a2 a3 a4 a5 a7
 | true =>
  refine callType_new F.called_zip (by decide) (F.typeCall_zip_2 _ _) (F.newCall_zip_2 _ _) (fun obj=>F.args_object_init_3 obj _ _) F.entry_zip_new (zip_newT l1 l2 xs ys) ⟨p1,p2,?_⟩
  have z1:(s.heap.push (tIt l1)).objs.size=s.heap.objs.size+1:=Heap.size_push ..
  have z2:((s.heap.push (tIt l1)).push (tIt l2)).objs.size=s.heap.objs.size+2:=by rw[Heap.size_push,z1]
  have z3:(((s.heap.push (tIt l1)).push (tIt l2)).push { cls:=.type "tuple",data:=.seq #[.ref s.heap.objs.size,.ref (s.heap.push (tIt l1)).objs.size]}).objs.size=s.heap.objs.size+3:=by rw[Heap.size_push,z2]
  have z4:((((s.heap.push (tIt l1)).push (tIt l2)).push { cls:=.type "tuple",data:=.seq #[.ref s.heap.objs.size,.ref (s.heap.push (tIt l1)).objs.size]}).push { cls:=.type "tuple",data:=.seq #[.none,.none]}).objs.size=s.heap.objs.size+4:=by rw[Heap.size_push,z3]
  have g0:(zH l1 l2 s.heap).get? s.heap.objs.size=some (tIt l1):=gxL _ (gxL _ (gxL _ (gxL _ (Heap.get?_push_size _ rfl))))
  have g1:(zH l1 l2 s.heap).get? (s.heap.push (tIt l1)).objs.size=some (tIt l2):=gxL _ (gxL _ (gxL _ (Heap.get?_push_size _ rfl)))
  have g2:(zH l1 l2 s.heap).get? ((s.heap.push (tIt l1)).push (tIt l2)).objs.size=some _:=gxL _ (gxL _ (Heap.get?_push_size _ rfl))
  have g3:(zH l1 l2 s.heap).get? (((s.heap.push (tIt l1)).push (tIt l2)).push { cls:=.type "tuple",data:=.seq #[.ref s.heap.objs.size,.ref (s.heap.push (tIt l1)).objs.size]}).objs.size=some _:=gxL _ (Heap.get?_push_size _ rfl)
  have g4:(zH l1 l2 s.heap).get? ((((s.heap.push (tIt l1)).push (tIt l2)).push { cls:=.type "tuple",data:=.seq #[.ref s.heap.objs.size,.ref (s.heap.push (tIt l1)).objs.size]}).push { cls:=.type "tuple",data:=.seq #[.none,.none]}).objs.size=some _:=Heap.get?_push_size _ rfl
  rw[z1]at g1
  rw[z2,z1]at g2
  rw[z3]at g3
  rw[z4,z2,z3]at g4
  exact⟨⟨_,g4,rfl⟩,h _ g4 g2 g3 ⟨_,g0,rfl,rfl⟩ ⟨_,g1,rfl,rfl⟩ fun b o e=>gxL _ (gxL _ (gxL _ (gxL _ (gxL _ e))))⟩
section
variable {X:Cx}
def iZip (ta:TA):TI:=fun σ H R=>ta σ H fun vs H1=>match vs with
 | [.ref a,.ref b]=>∃(c:Bool) (xs ys:List V),SqC c H1 a xs/\SqC c H1 b ys/\R (Itz c a b) H1
 | _=>False
theorem pi_zip {elts:List Expr}{kk:Nat}{tpos:Pos}{a b:Expr}{ta:TA}{p pos:Pos}(hg:Gl X "zip")(hm:X.mg "zip"=none)(ha:PA X [a,b] ta)(hs:starEach [a,b] X.env=[(false,eval a X.env),(false,eval b X.env)]:=by rfl)(hs2:starEach [b] X.env=[(false,eval b X.env)]:=by rfl) :
 PI X (.Tuple elts kk tpos) (.Call (.Name "zip" p) [a,b] [] pos) (iZip ta):=by
 intro pins s σ H R I h
 refine Call_ (ld_blt I hg hm boot_zip (PyProof.Rows.callWith_type1 (thn (ha pos pins s σ H _ I h) fun us s1 hq5=>?_) (by rw[hs,hs2]) (by rw[hs2];rfl)))
 obtain⟨vs,H1,I1,r1,q1⟩:=hq5
 try dsimp only at q1
 split at q1
 ·rename_i l1 l2
  obtain⟨c,xs,ys,q1,q2,q⟩:=q1
  obtain⟨u1,u2,rfl,e1,e2⟩:=r1.two
  cases e1;cases e2
  obtain⟨us,r1,p1⟩:=q1.val I1
  obtain⟨ws,r2,p2⟩:=q2.val I1
  have lt:∀ {l:Addr} {o:HO},H1 l=some o->l<s1.heap.objs.size:=fun e=>I1.hok.lt e
  obtain⟨o1,w1⟩:=q1.ex
  obtain⟨o2,w2⟩:=q2.ex
  refine zip_made p1 p2 fun h' hz hTI hTO n1 n2 kp=>wpAny_pyIter_zip hz ?_
  have I2:Inv X pins σ H1 { s1 with heap:=h'}:=I1.kept (t':=s1.toks) kp
  refine⟨s1.heap.objs.size+4,_,_,_,H1,rfl,I2,turn_zip (c:=c) (zipApart_new (lt w1) (lt w2)),⟨hz,hTI,⟨_,_,hTO⟩,n1,n2⟩,fun b hb=>?_,q⟩
  have hb':s1.heap.objs.size<=b:=by
   simp only[List.mem_cons,List.not_mem_nil,or_false]at hb
   rcases hb with e | e | e | e | e <;> subst e
   ·exact Nat.le_add_right ..
   ·exact Nat.le_add_right ..
   ·exact Nat.le_add_right ..
   ·exact Nat.le_refl _
   ·exact Nat.le_add_right ..
  exact I1.fpOk hb' (I1.hok.fresh hb')
 ·exact q1.elim
def rAllC (g:List Bool->Bool):List V->Hp->VK->Prop:=fun vs H Q=>match vs with
 | [.ref p]=>∃ bs:List Bool,H p=some (.lst (bs.map V.bl))/\Q (.bl (g bs)) H
 | _=>False
theorem range_all (bs:List Bool):(List.range bs.length).all (fun i=>bs.getD i true)=bs.all id:=by
 rw[Bool.eq_iff_iff,List.all_eq_true,List.all_eq_true]
 constructor
 ·intro h b hb
  obtain⟨i,hi,e⟩:=List.getElem_of_mem hb
  have:=h i (by simpa using hi)
  rw[List.getD_eq_getElem?_getD,gxA hi,e]at this
  exact this
 ·intro h i hi
  have hi':i<bs.length:=by simpa using hi
  rw[List.getD_eq_getElem?_getD,gxA hi']
  exact h _ (List.getElem_mem _)
theorem allC (hc:X.calm=true):CallR X (.builtin "all") (rAllC fun bs=>bs.all id):=by
 intro pins s σ H vs us Q I rv h
 unfold rAllC at h
 split at h
 ·rename_i p
  obtain⟨bs,hp,q⟩:=h
  obtain⟨u,rfl,ru⟩:=rv.one
  cases ru
  obtain⟨z,its,n,r,hl,e⟩:=I.lstM hp
  have isl:s.heap.IsList p its.toArray:=⟨_,e,rfl,n,rfl⟩
  have lt:p≠s.heap.objs.size:=Nat.ne_of_lt (gxN e)
  refine call_all_walk (wpAny_pyIter_list isl ⟨_,_,_,_,_,_,fun i=>bs.getD i true,rfl,Walks.list (A:=X.A.in1) (I.ok.hd hc) s.heap.objs.size p lt its.toArray,⟨⟨_,Heap.get?_push_size _ rfl,rfl,rfl⟩,isl.push _⟩,?_,fun h' tk kp=>?_⟩)
  ·intro i v s' Q' E' hv hq
   have hv':its[i]?=some v:=by simpa using hv
   have hb:∃ b,bs[i]?=some b/\v=.bool b:=by
    cases eb:(bs.map V.bl)[i]? with
    | none=>have:=r.none_of eb;rw[hv']at this;cases this
    | some y =>
     obtain⟨u,hu,ry⟩:=r.get eb
     rw[hv']at hu;cases hu
     rw[gxH]at eb
     cases e2:bs[i]? with
     | none=>rw[e2]at eb;cases eb
     | some b=>rw[e2]at eb;cases eb;exact⟨b,rfl,ry⟩
   obtain⟨b,eb,rfl⟩:=hb
   have e3:bs.getD i true=b:=by rw[List.getD_eq_getElem?_getD,eb];rfl
   have hq':Q' (bs.getD i true) s':=hq
   rw[e3]at hq'
   exact wpAny_truthy_bool hq'
  ·have I2:Inv X pins σ H { s with heap:=h',toks:=tk}:=I.kept fun b o e'=>kp b o (by simpa using Nat.ne_of_lt (gxN e')) (gxL _ e')
   have len:its.toArray.size=bs.length:=by rw[List.size_toArray,<- hl,gxC]
   rw[len,range_all]
   exact⟨.bl _,H,I2,rfl,q⟩
 ·exact h.elim
def rEqN:R2:=fun x y H Q=>match x,y with
 | .non,.non=>Q (.bl true) H
 | .int i,.int j=>Q (.bl (decide (i=j))) H
 | .str i,.str j=>Q (.bl (decide (i=j))) H
 | .bl i,.bl j=>Q (.bl (decide (i=j))) H
 | _,_=>False
theorem eqN:OpR X (compareOp .Eq) rEqN:=op_eq.imp fun x y H Q q=>by
 unfold rEqN at q
 split at q
 ·exact⟨rfl,by simpa using q⟩
 ·exact⟨rfl,by rw[dI];exact q⟩
 ·exact⟨rfl,by rw[dS];exact q⟩
 ·exact⟨rfl,by rw[dB];exact q⟩
 ·exact q.elim
end
section
variable {js:List (Option Nat)}{g:TG}{tt:TT}{te:TE}{σ:St}{H:Hp}{fin:List V->Hp->Prop}
theorem compZip {c:Bool}{a1 a2:Addr}{xs zs:List V}(hn:xs.length=zs.length)(Pv:Nat->List V->Hp->Prop)(h0:Pv 0 [] H)(hl:∀ i ys H,Pv i ys H->SqC c H a1 xs/\SqC c H a2 zs)
 (hs:∀ i x y ys H T,i<xs.length->xs[i]?=some x->zs[i]?=some y->Pv i ys H->H T=none->g (.ref T) (startC js σ) (upd H T (.tup [x,y])) fun σ2 H2=>Ext (startC js σ) σ2/\tt σ2 H2 fun b H3=>if b=true then te σ2 H3 (CNx xs.length i Pv ys)else CSk xs.length i Pv ys H3)
 (hd:∀ ys H,Pv xs.length ys H->fin ys H):wComp js g tt te (Itz c a1 a2) σ H fin:=by
 refine⟨fun i m ys H=>m=xs.length - i/\i<=xs.length/\Pv i ys H,⟨xs.length,by simp,Nat.zero_le _,h0⟩,?_⟩
 rintro i m ys H ⟨rfl,hi,p⟩
 obtain⟨q1,q2⟩:=hl i ys H p
 by_cases hlt:i<xs.length
 ·refine .inr ⟨⟨xs,zs,xs[i],zs[i]'(by omega),q1,q2,by simp[hlt],by simp[show i<zs.length by omega]⟩,fun v H' yl=>?_⟩
  obtain⟨T,x,y,rfl,hT,rfl,h1,h2⟩:=yl
  exact hs i x y ys H T hlt (h1 xs q1) (h2 zs q2) p hT
 ·have e:i=xs.length:=by omega
  subst e
  exact .inl ⟨⟨xs,zs,q1,q2,Nat.le_refl _⟩,hd ys H p⟩
end
inductive DV where
 | non | bl (b:Bool) | int (i:Int) | str (z:Str) | lst (ds:List DV) | tup (ds:List DV)
mutual
def dep:DV->Nat
 | .lst ds=>depL ds+1
 | .tup ds=>depL ds+1
 | _=>0
def depL:List DV->Nat
 | []=>0
 | d::ds=>max (dep d) (depL ds)
end
mutual
def wid:DV->Nat
 | .lst ds=>max ds.length (widL ds)
 | .tup ds=>max ds.length (widL ds)
 | _=>0
def widL:List DV->Nat
 | []=>0
 | d::ds=>max (wid d) (widL ds)
end
mutual
def Is (H:Hp):DV->V->Prop
 | .non,v=>v=.non
 | .bl b,v=>v=.bl b
 | .int i,v=>v=.int i
 | .str z,v=>v=.str z
 | .lst ds,v=>∃ p vs,v=.ref p/\H p=some (.lst vs)/\IsAll H ds vs
 | .tup ds,v=>∃ p vs,v=.ref p/\H p=some (.tup vs)/\IsAll H ds vs
def IsAll (H:Hp):List DV->List V->Prop
 | [],vs=>vs=[]
 | d::ds,vs=>∃ v r,vs=v::r/\Is H d v/\IsAll H ds r
end
mutual
theorem Is.mono {H H':Hp}(s:Same H H'):∀(d:DV) (v:V),Is H d v->Is H' d v
 | .non,_,h=>h
 | .bl _,_,h=>h
 | .int _,_,h=>h
 | .str _,_,h=>h
 | .lst ds,_,h=>by
  obtain⟨p,vs,e,hp,q⟩:=h
  exact⟨p,vs,e,s _ _ hp,IsAll.mono s ds vs q⟩
 | .tup ds,_,h=>by
  obtain⟨p,vs,e,hp,q⟩:=h
  exact⟨p,vs,e,s _ _ hp,IsAll.mono s ds vs q⟩
theorem IsAll.mono {H H':Hp}(s:Same H H'):∀(ds:List DV) (vs:List V),IsAll H ds vs->IsAll H' ds vs
 | [],_,h=>h
 | d::ds,_,h=>by
  obtain⟨v,r,e,h1,h2⟩:=h
  exact⟨v,r,e,Is.mono s d v h1,IsAll.mono s ds r h2⟩
end
theorem IsAll.len {H:Hp}:∀ {ds:List DV} {vs:List V},IsAll H ds vs->vs.length=ds.length
 | [],_,h=>by rw[show _=[]from h];rfl
 | d::ds,_,h=>by obtain⟨v,r,rfl,_,h2⟩:=h;rw[List.length_cons,List.length_cons,IsAll.len h2]
theorem IsAll.get {H:Hp}:∀ {ds:List DV} {vs:List V} {i:Nat} {v:V},IsAll H ds vs->vs[i]?=some v->∃ d,ds[i]?=some d/\Is H d v
 | [],_,i,v,h,e=>by rw[show _=[]from h]at e;simp at e
 | d::ds,_,0,v,h,e=>by
  obtain⟨v',r,rfl,h1,h2⟩:=h
  simp at e;subst e;exact⟨d,rfl,h1⟩
 | d::ds,_,i+1,v,h,e=>by
  obtain⟨v',r,rfl,h1,h2⟩:=h
  obtain⟨d',e1,e2⟩:=IsAll.get (i:=i) h2 (by simpa using e)
  exact⟨d',by simpa using e1,e2⟩
theorem depL_get:∀ {ds:List DV} {i:Nat} {d:DV},ds[i]?=some d->dep d<=depL ds
 | d::ds,0,d',h=>by simp at h;subst h;unfold depL;omega
 | d::ds,i+1,d',h=>by have:=depL_get (ds:=ds) (i:=i) (by simpa using h);unfold depL;omega
theorem widL_get:∀ {ds:List DV} {i:Nat} {d:DV},ds[i]?=some d->wid d<=widL ds
 | d::ds,0,d',h=>by simp at h;subst h;unfold widL;omega
 | d::ds,i+1,d',h=>by have:=widL_get (ds:=ds) (i:=i) (by simpa using h);unfold widL;omega
def spSame (n:Nat):Sp:=fun vs H Q _=>match vs with
 | [x,y]=>∃ d,dep d<=n/\wid d<sizeLine/\Is H d x/\Is H d y/\∀ H',Same H H'->Q (.bl true) H'
 | _=>False
def spNo:Sp:=fun _ _ _ _=>False
def spS:Nat->Sp
 | 0=>spNo
 | n+1=>spSame n
theorem Same.upd {H:Hp}{p:Addr}{o:HO}(h:H p=none):Same H (L2.upd H p o):=fun b u e=>by rw[upd_ne (ne_of_none e h)];exact e
theorem cutL_to {α:Type}{l:List α}{n:Int}(h:0<=n):cutL l none (some n)=l.take n.toNat:=by
 obtain⟨m,rfl⟩:∃ m:Nat,n=(m:Int):=⟨n.toNat,by omega⟩
 unfold cutL
 rw[HT.sIx_nat,HT.sIx_none,List.drop_zero,Nat.sub_zero,gxK]
 by_cases hm:m<=l.length
 ·rw[Nat.min_eq_left hm]
 ·rw[Nat.min_eq_right (by omega),List.take_length,List.take_of_length_le (by omega)]
theorem cutL_from {α:Type}{l:List α}{n:Int}(h:0<=n):cutL l (some n) none=l.drop n.toNat:=by
 obtain⟨m,rfl⟩:∃ m:Nat,n=(m:Int):=⟨n.toNat,by omega⟩
 unfold cutL
 rw[HT.sIx_nat,HT.sIx_none,gxK]
 by_cases hm:m<=l.length
 ·rw[Nat.min_eq_left hm,List.take_of_length_le (by rw[List.length_drop];omega)]
 ·rw[Nat.min_eq_right (by omega),List.drop_of_length_le (Nat.le_refl _),List.drop_of_length_le (by omega),List.take_nil]
end L2
namespace L2
open PySem PySem.Spec PyProof.Rows
section
variable {X:Cx}
def rAppendC:V->List V->Hp->VK->Prop:=fun x vs H Q=>∃ l y xs,x=.ref l/\vs=[y]/\H l=some (.lst xs)/\xs.length<sizeLine/\Q .non (upd H l (.lst (xs++[y])))
theorem appendC:MtR X "list.append" rAppendC:=MtR.imp mt_append fun x vs H Q q=>by
 obtain⟨l,y,xs,rfl,rfl,a,b,c⟩:=q
 exact⟨_,xs,_,rfl,rfl,a,b,c⟩
end
def PairsAt (H:Hp):List V->List (Nat×Nat)->Prop:=Paired fun v r=>∃ p,v=.ref p/\H p=some (.tup [.int r.1,.int r.2])
def TupS (H H':Hp):Prop:=∀ p xs,H p=some (.tup xs)->H' p=some (.tup xs)
theorem TupS.trans {H H1 H2:Hp}(a:TupS H H1)(b:TupS H1 H2):TupS H H2:=fun p xs h=>b p xs (a p xs h)
theorem PairsAt.mono {H H':Hp}(t:TupS H H'):∀ {vs:List V} {rs:List (Nat×Nat)},PairsAt H vs rs->PairsAt H' vs rs
 | _,_,.nil=>.nil
 | _,_,.cons ⟨p,e,h⟩ r=>.cons ⟨p,e,t _ _ h⟩ (PairsAt.mono t r)
def dvp (r:Nat×Nat):DV:=.tup [.int r.1,.int r.2]
theorem PairsAt.all {H:Hp}:∀ {vs:List V} {rs:List (Nat×Nat)},PairsAt H vs rs->IsAll H (rs.map dvp) vs
 | _,_,.nil=>rfl
 | _,_,.cons ⟨p,e,h⟩ r=>⟨_,_,rfl,⟨p,_,e,h,_,_,rfl,rfl,_,_,rfl,rfl,rfl⟩,PairsAt.all r⟩
def rr (l:List Nat):Nat->Nat×List (Nat×Nat)
 | 0=>(0,[])
 | i+1=>if l[i]?=some 120 then(i+1,if(rr l i).1<i then(rr l i).2++[((rr l i).1,i)]else(rr l i).2)else rr l i
inductive D where
 | non | bl (b:Bool) | int (i:Int) | str (z:Str) | lst (ds:List D) | tup (ds:List D) | dic (ks:List Key) (ds:List D) | mr (k:Nat) | obj (C:Addr) (ns:List Str) (ds:List D) | fdc (ks:List Key) (ds:List D) | fn (a:Addr)
inductive MO where
 | box | lst (ds:List D) | dic (ks:List Key) (ds:List D) | fdic (o:Obj) (kvs:List (Key×V)) (ds:List D) | ins (C:Addr) (ns:List Str) (ds:List D) | dtu (ks:List (List Key)) (ds:List D) | gx (φ:List Addr) (H:Hp) | exc (c:Value)
abbrev MS:=List MO
def lvM (μ:MS)(k:Nat):Option (List D):=match μ[k]? with | some (.lst ds)=>some ds | _=>none
theorem lvM_eq {μ:MS}{k:Nat}{ds:List D}(h:lvM μ k=some ds):μ[k]?=some (.lst ds):=by
 unfold lvM at h
 split at h
 ·cases h;assumption
 ·cases h
theorem lvM_of {μ:MS}{k:Nat}{ds:List D}(h:μ[k]?=some (.lst ds)):lvM μ k=some ds:=by unfold lvM;rw[h]
theorem lvM_new {μ:MS}{ds:List D}:lvM (μ++[.lst ds]) μ.length=some ds:=lvM_of (by rw[gxG (Nat.le_refl _),Nat.sub_self];rfl)
abbrev DE:=List (Option D)
mutual
def DIs (φ:List Addr)(H:Hp):D->V->Prop
 | .non,v=>v=.non
 | .bl b,v=>v=.bl b
 | .int i,v=>v=.int i
 | .str z,v=>v=.str z
 | .lst ds,v=>∃ p vs,v=.ref p/\p∉φ/\H p=some (.lst vs)/\DAll φ H ds vs
 | .tup ds,v=>∃ p vs,v=.ref p/\p∉φ/\H p=some (.tup vs)/\DAll φ H ds vs
 | .dic ks ds,v=>∃ p kvs vs,v=.ref p/\p∉φ/\H p=some (.dK kvs)/\kvs.map (·.1)=ks/\vs=kvs.map (·.2)/\DAll φ H ds vs
 | .mr k,v=>∃ p,φ[k]?=some p/\v=.ref p
 | .obj C ns ds,v=>∃ p dx fs vs,v=.ref p/\p∉φ/\H p=some (.ins C dx fs)/\fs.map (·.1)=ns/\vs=fs.map (·.2)/\DAll φ H ds vs
 | .fdc ks ds,v=>∃ p o kvs vs,v=.ref p/\p∉φ/\H p=some (.frz o (.dK kvs))/\kvs.map (·.1)=ks/\vs=kvs.map (·.2)/\DAll φ H ds vs
 | .fn a,v=>v=.ref a
def DAll (φ:List Addr)(H:Hp):List D->List V->Prop
 | [],vs=>vs=[]
 | d::ds,vs=>∃ v r,vs=v::r/\DIs φ H d v/\DAll φ H ds r
end
structure Fr (φ:List Addr)(H:Hp)(φ':List Addr)(H':Hp):Prop where
 ext:∃ ψ,φ'=φ++ψ/\∀ c∈ψ,H c=none
 keep:∀ c o,c∉φ->H c=some o->H' c=some o
 dom:∀ c,H' c=none->H c=none
theorem Fr.refl (φ:List Addr)(H:Hp):Fr φ H φ H:=⟨⟨[],by simp,fun _ h=>nomatch h⟩,fun _ _ _ h=>h,fun _ h=>h⟩
theorem Fr.trans {φ φ1 φ2:List Addr}{H H1 H2:Hp}(a:Fr φ H φ1 H1)(b:Fr φ1 H1 φ2 H2):Fr φ H φ2 H2:=by
 obtain⟨⟨ψ,rfl,hψ⟩,k1,d1⟩:=a
 obtain⟨⟨χ,rfl,hχ⟩,k2,d2⟩:=b
 refine⟨⟨ψ++χ,by simp,fun c hc=>?_⟩,fun c o hc e=>k2 c o (fun h=>?_) (k1 c o hc e),fun c h=>d1 c (d2 c h)⟩
 ·rcases List.mem_append.mp hc with h | h
  ·exact hψ c h
  ·exact d1 c (hχ c h)
 ·rcases List.mem_append.mp h with h | h
  ·exact hc h
  ·rw[hψ c h]at e;cases e
theorem Fr.same {φ:List Addr}{H H':Hp}(h:Same H H'):Fr φ H φ H':=⟨⟨[],by simp,fun _ h=>nomatch h⟩,fun c o _ e=>h c o e,fun c e=>h.free e⟩
theorem Fr.new {φ:List Addr}{H:Hp}{p:Addr}{o:HO}(h:H p=none):Fr φ H φ (upd H p o):=.same (Same.upd h)
theorem Fr.put {φ:List Addr}{H:Hp}{p:Addr}{o:HO}(h:p∈φ):Fr φ H φ (upd H p o) :=
 ⟨⟨[],by simp,fun _ h=>nomatch h⟩,fun c u hc e=>by rw[upd_ne (show c≠p from fun z=>hc (by rw[z];exact h))];exact e,fun c e=>by
  unfold upd at e
  split at e
  ·cases e
  ·exact e⟩
theorem Fr.snoc {φ:List Addr}{H:Hp}{p:Addr}(h:H p=none):Fr φ H (φ++[p]) H:=⟨⟨[p],rfl,fun c hc=>by rw[List.mem_singleton.mp hc];exact h⟩,fun _ _ _ e=>e,fun _ e=>e⟩
theorem Fr.notin {φ φ':List Addr}{H H':Hp}(f:Fr φ H φ' H'){p:Addr}{o:HO}(h:p∉φ)(e:H p=some o):p∉φ':=by
 obtain⟨⟨ψ,rfl,hψ⟩,_,_⟩:=f
 intro hc
 rcases List.mem_append.mp hc with q | q
 ·exact h q
 ·rw[hψ p q]at e;cases e
theorem Fr.get {φ φ':List Addr}{H H':Hp}(f:Fr φ H φ' H'){k:Nat}{p:Addr}(h:φ[k]?=some p):φ'[k]?=some p:=by
 obtain⟨⟨ψ,rfl,hψ⟩,_,_⟩:=f
 rw[gxF (gxB h).1];exact h
mutual
theorem DIs.mono {φ φ':List Addr}{H H':Hp}(f:Fr φ H φ' H'):∀ {d:D} {v:V},DIs φ H d v->DIs φ' H' d v
 | .non,_,h=>h
 | .bl _,_,h=>h
 | .int _,_,h=>h
 | .str _,_,h=>h
 | .lst _,_,h=>by obtain⟨p,vs,e,n,hp,q⟩:=h;exact⟨p,vs,e,f.notin n hp,f.keep _ _ n hp,DAll.mono f q⟩
 | .tup _,_,h=>by obtain⟨p,vs,e,n,hp,q⟩:=h;exact⟨p,vs,e,f.notin n hp,f.keep _ _ n hp,DAll.mono f q⟩
 | .dic _ _,_,h=>by obtain⟨p,kvs,vs,e,n,hp,q1,q2,q⟩:=h;exact⟨p,kvs,vs,e,f.notin n hp,f.keep _ _ n hp,q1,q2,DAll.mono f q⟩
 | .mr _,_,h=>by obtain⟨p,e,q⟩:=h;exact⟨p,f.get e,q⟩
 | .obj _ _ _,_,h=>by obtain⟨p,dx,fs,vs,e,n,hp,q1,q2,q⟩:=h;exact⟨p,dx,fs,vs,e,f.notin n hp,f.keep _ _ n hp,q1,q2,DAll.mono f q⟩
 | .fdc _ _,_,h=>by obtain⟨p,dx,fs,vs,e,n,hp,q1,q2,q⟩:=h;exact⟨p,dx,fs,vs,e,f.notin n hp,f.keep _ _ n hp,q1,q2,DAll.mono f q⟩
 | .fn _,_,h=>h
theorem DAll.mono {φ φ':List Addr}{H H':Hp}(f:Fr φ H φ' H'):∀ {ds:List D} {vs:List V},DAll φ H ds vs->DAll φ' H' ds vs
 | [],_,h=>h
 | _::_,_,h=>by obtain⟨v,r,e,h1,h2⟩:=h;exact⟨v,r,e,DIs.mono f h1,DAll.mono f h2⟩
end
theorem DAll.len {φ:List Addr}{H:Hp}:∀ {ds:List D} {vs:List V},DAll φ H ds vs->vs.length=ds.length
 | [],_,h=>by rw[show _=[]from h];rfl
 | d::ds,_,h=>by obtain⟨v,r,rfl,_,h2⟩:=h;rw[List.length_cons,List.length_cons,DAll.len h2]
theorem DAll.get {φ:List Addr}{H:Hp}:∀ {ds:List D} {vs:List V} {i:Nat} {d:D},DAll φ H ds vs->ds[i]?=some d->∃ v,vs[i]?=some v/\DIs φ H d v
 | [],_,i,d,h,e=>by simp at e
 | d::ds,_,0,d',h,e=>by obtain⟨v',r,rfl,h1,h2⟩:=h;simp at e;subst e;exact⟨v',rfl,h1⟩
 | d::ds,_,i+1,d',h,e=>by
  obtain⟨v',r,rfl,h1,h2⟩:=h
  obtain⟨v,e1,e2⟩:=DAll.get (i:=i) h2 (by simpa using e)
  exact⟨v,by simpa using e1,e2⟩
theorem DAll.getV {φ:List Addr}{H:Hp}{ds:List D}{vs:List V}{i:Nat}{v:V}(h:DAll φ H ds vs)(e:vs[i]?=some v):∃ d,ds[i]?=some d/\DIs φ H d v:=by
 have hl:=h.len
 have hi:=(gxB e).1
 obtain⟨u,e1,e2⟩:=h.get (d:=ds[i]'(by omega)) (gxA (by omega))
 rw[e]at e1;cases e1
 exact⟨_,gxA (by omega),e2⟩
theorem DAll.app {φ:List Addr}{H:Hp}:∀ {ds es:List D} {vs us:List V},DAll φ H ds vs->DAll φ H es us->DAll φ H (ds++es) (vs++us)
 | [],_,_,_,h,g=>by rw[show _=[]from h];exact g
 | d::ds,es,_,us,h,g=>by obtain⟨v,r,rfl,h1,h2⟩:=h;exact⟨v,r++us,rfl,h1,h2.app g⟩
theorem DAll.take {φ:List Addr}{H:Hp}:∀ {ds:List D} {vs:List V} (n:Nat),DAll φ H ds vs->DAll φ H (ds.take n) (vs.take n)
 | _,_,0,_=>rfl
 | [],_,n+1,h=>by rw[show _=[]from h];rfl
 | d::ds,_,n+1,h=>by obtain⟨v,r,rfl,h1,h2⟩:=h;exact⟨v,r.take n,rfl,h1,h2.take n⟩
theorem DAll.drop {φ:List Addr}{H:Hp}:∀ {ds:List D} {vs:List V} (n:Nat),DAll φ H ds vs->DAll φ H (ds.drop n) (vs.drop n)
 | _,_,0,h=>h
 | [],_,n+1,h=>by rw[show _=[]from h];rfl
 | d::ds,_,n+1,h=>by obtain⟨v,r,rfl,h1,h2⟩:=h;exact h2.drop n
theorem DAll.set {φ:List Addr}{H:Hp}{d:D}{v:V}(hd:DIs φ H d v):∀ {ds:List D} {vs:List V} (n:Nat),DAll φ H ds vs->DAll φ H (ds.set n d) (vs.set n v)
 | [],_,n,h=>by rw[show _=[]from h];cases n <;> rfl
 | e::ds,_,0,h=>by obtain⟨w,r,rfl,h1,h2⟩:=h;exact⟨v,r,rfl,hd,h2⟩
 | e::ds,_,n+1,h=>by obtain⟨w,r,rfl,h1,h2⟩:=h;exact⟨w,r.set n v,rfl,h1,h2.set hd n⟩
theorem DAll.bls {φ:List Addr}{H:Hp}:∀ {ns:List Bool} {vs:List V},DAll φ H (ns.map D.bl) vs->vs=ns.map V.bl
 | [],_,h=>h
 | n::ns,_,h=>by obtain⟨v,r,rfl,h1,h2⟩:=h;rw[show v=.bl n from h1,DAll.bls h2];rfl
theorem DAll.strs {φ:List Addr}{H:Hp}:∀ {ns:List Str} {vs:List V},DAll φ H (ns.map D.str) vs->vs=ns.map V.str
 | [],_,h=>h
 | n::ns,_,h=>by obtain⟨v,r,rfl,h1,h2⟩:=h;rw[show v=.str n from h1,DAll.strs h2];rfl
def BxF (φ:List Addr)(H:Hp)(b:Addr):Prop:=∃(q:Addr) (ns:List Int) (i r z:Int),H b=some (.lst [.ref q,.int i,.int r,.int z])/\H q=some (.lst (ns.map V.int))/\q∉φ/\0<=i/\0<=z/\z<2147483647
def ExcIs (p:Addr)(c:Value)(h:Heap):Prop:=∃ oe vs,h.get? p=some oe/\oe.cls=c/\oe.dict=none/\oe.data=.fields vs/\vs[2]?=some .none
def MoIs (φ:List Addr)(H:Hp):MO->Addr->Prop
 | .box,p=>BxF φ H p
 | .lst ds,p=>∃ vs,H p=some (.lst vs)/\DAll φ H ds vs
 | .dic ks ds,p=>∃ kvs vs,H p=some (.dK kvs)/\kvs.map (·.1)=ks/\vs=kvs.map (·.2)/\DAll φ H ds vs
 | .fdic o kvs ds,p=>H p=some (.frz o (.dK kvs))/\DAll φ H ds (kvs.map (·.2))
 | .ins C ns ds,p=>∃ dx fs,H p=some (.ins C dx fs)/\fs.map (·.1)=ns/\DAll φ H ds (fs.map (·.2))
 | .dtu ks ds,p=>∃ kvs,H p=some (.dT kvs)/\kvs.map (·.1)=ks/\DAll φ H ds (kvs.map (·.2))
 | .gx φ0 H0,p=>Fr φ0 H0 φ H/\H p=H0 p/\(∃ o,H p=some o)/\∀ zs,H p≠some (.tup zs)
 | .exc c,p=>H p=some (.ext (ExcIs p c))
structure MSis (φ:List Addr)(H:Hp)(μ:MS):Prop where
 nd:φ.Nodup
 len:φ.length=μ.length
 at_:∀(k:Nat) (m:MO),μ[k]?=some m->∃ p,φ[k]?=some p/\MoIs φ H m p
theorem MoIs.mono {φ φ':List Addr}{H H':Hp}(f:Fr φ H φ' H'){m:MO}{p:Addr}(s:∀ o,H p=some o->H' p=some o)(h:MoIs φ H m p):MoIs φ' H' m p:=by
 cases m with
 | box=>obtain⟨q,ns,i,r,z,h1,h2,h3,h4⟩:=h;exact⟨q,ns,i,r,z,s _ h1,f.keep _ _ h3 h2,f.notin h3 h2,h4⟩
 | lst ds=>obtain⟨vs,h1,h2⟩:=h;exact⟨vs,s _ h1,h2.mono f⟩
 | dic ks ds=>obtain⟨kvs,vs,h1,h2,h3,h4⟩:=h;exact⟨kvs,vs,s _ h1,h2,h3,h4.mono f⟩
 | fdic o kvs ds=>exact⟨s _ h.1,h.2.mono f⟩
 | ins C ns ds=>obtain⟨dx,fs,h1,h2,h3⟩:=h;exact⟨dx,fs,s _ h1,h2,h3.mono f⟩
 | dtu ks ds=>obtain⟨kvs,h1,h2,h3⟩:=h;exact⟨kvs,s _ h1,h2,h3.mono f⟩
 | gx φ0 H0=>obtain⟨h1,h2,⟨o,h3⟩,h4⟩:=h;exact⟨h1.trans f,(s _ h3).trans (h3.symm.trans h2),⟨o,s _ h3⟩,fun zs e=>h4 zs (h3.trans ((s _ h3).symm.trans e))⟩
 | exc c=>exact s _ h
theorem MoIs.ex {φ:List Addr}{H:Hp}{m:MO}{p:Addr}(h:MoIs φ H m p):∃ o,H p=some o:=by
 cases m with
 | box=>obtain⟨q,ns,i,r,z,h1,_⟩:=h;exact⟨_,h1⟩
 | lst ds=>obtain⟨vs,h1,_⟩:=h;exact⟨_,h1⟩
 | dic ks ds=>obtain⟨kvs,vs,h1,_⟩:=h;exact⟨_,h1⟩
 | fdic o kvs ds=>exact⟨_,h.1⟩
 | ins C ns ds=>obtain⟨dx,fs,h1,_⟩:=h;exact⟨_,h1⟩
 | dtu ks ds=>obtain⟨kvs,h1,_⟩:=h;exact⟨_,h1⟩
 | gx φ0 H0=>exact h.2.2.1
 | exc c=>exact⟨_,h⟩
theorem MSis.same {φ:List Addr}{H H':Hp}{μ:MS}(h:MSis φ H μ)(s:Same H H'):MSis φ H' μ :=
 ⟨h.nd,h.len,fun k m e=>let ⟨p,e1,e2⟩:=h.at_ k m e;⟨p,e1,e2.mono (.same s) fun o q=>s _ _ q⟩⟩
theorem MSis.mem {φ:List Addr}{H:Hp}{μ:MS}(h:MSis φ H μ){p:Addr}(hp:p∈φ):∃ o,H p=some o:=by
 obtain⟨k,hk,e⟩:=List.getElem_of_mem hp
 obtain⟨q,e1,e2⟩:=h.at_ k (μ[k]'(by have:=h.len;omega)) (gxA _)
 rw[gxA hk,e]at e1
 cases e1
 exact e2.ex
theorem MSis.fresh {φ:List Addr}{H:Hp}{μ:MS}(h:MSis φ H μ){p:Addr}(hp:H p=none):p∉φ:=fun q=>by
 obtain⟨o,e⟩:=h.mem q
 rw[hp]at e;cases e
theorem MSis.snoc {φ:List Addr}{H:Hp}{μ:MS}{m:MO}{p:Addr}{o:HO}(h:MSis φ H μ)(hp:H p=none)(hm:MoIs (φ++[p]) (upd H p o) m p):MSis (φ++[p]) (upd H p o) (μ++[m])/\Fr φ H (φ++[p]) (upd H p o):=by
 have f1:Fr φ H (φ++[p]) H:=.snoc hp
 have f:Fr φ H (φ++[p]) (upd H p o):=⟨f1.ext,fun c u hc e=>Same.upd hp _ _ e,fun c e=>(Same.upd hp).free e⟩
 refine⟨⟨?_,by rw[gxE,gxE,h.len];rfl,fun k n e=>?_⟩,f⟩
 ·rw[List.nodup_append]
  exact⟨h.nd,by simp,fun a ha b hb=>by rw[List.mem_singleton.mp hb];intro z;exact h.fresh hp (by rw[<- z];exact ha)⟩
 ·by_cases hk:k<μ.length
  ·rw[gxF hk]at e
   obtain⟨q,e1,e2⟩:=h.at_ k n e
   exact⟨q,f.get e1,e2.mono f fun u eu=>Same.upd hp _ _ eu⟩
  ·have hk':k=μ.length:=by
    have:=(gxB e).1
    rw[gxE,List.length_singleton]at this
    omega
   subst hk'
   rw[gxG (Nat.le_refl _),Nat.sub_self]at e
   cases e
   exact⟨p,by rw[gxG (by rw[h.len];exact Nat.le_refl _),h.len,Nat.sub_self];rfl,hm⟩
theorem MSis.put {φ:List Addr}{H:Hp}{μ:MS}{m:MO}{p:Addr}{o:HO}{k:Nat}(h:MSis φ H μ)(hk:φ[k]?=some p)(hm:MoIs φ (upd H p o) m p):MSis φ (upd H p o) (μ.set k m):=by
 have hp:p∈φ:=gxD hk
 have f:Fr φ H φ (upd H p o):=.put hp
 refine⟨h.nd,by rw[List.length_set];exact h.len,fun j n e=>?_⟩
 by_cases hj:k=j
 ·subst hj
  have hl:k<μ.length:=by have:=(gxB hk).1;have:=h.len;omega
  rw[List.getElem?_set_self hl]at e
  cases e
  exact⟨p,hk,hm⟩
 ·rw[List.getElem?_set_ne hj]at e
  obtain⟨q,e1,e2⟩:=h.at_ j n e
  refine⟨q,e1,e2.mono f fun u eu=>?_⟩
  rw[upd_ne]
  ·exact eu
  ·intro z
   subst z
   have a1:=gxB hk
   have a2:=gxB e1
   obtain⟨i1,r1⟩:=a1
   obtain⟨i2,r2⟩:=a2
   rcases Nat.lt_or_gt_of_ne hj with z | z
   ·exact List.pairwise_iff_getElem.mp h.nd k j i1 i2 z (r1.trans r2.symm)
   ·exact List.pairwise_iff_getElem.mp h.nd j k i2 i1 z (r2.trans r1.symm)
def DEnv (φ:List Addr)(H:Hp)(ρ:DE)(σ:St):Prop:=ρ.length=σ.length/\∀(i:Nat) (d:D),ρ[i]?=some (some d)->∃ v,σ[i]?=some (some v)/\DIs φ H d v
theorem DEnv.mono {φ φ':List Addr}{H H':Hp}{ρ:DE}{σ:St}(f:Fr φ H φ' H')(h:DEnv φ H ρ σ):DEnv φ' H' ρ σ:=⟨h.1,fun i d e=>let ⟨v,a,b⟩:=h.2 i d e;⟨v,a,b.mono f⟩⟩
theorem DEnv.set {φ:List Addr}{H:Hp}{ρ:DE}{σ:St}{d:D}{v:V}(h:DEnv φ H ρ σ)(hd:DIs φ H d v)(i:Nat):DEnv φ H (ρ.set i (some d)) (σ.set i (some v)):=by
 refine⟨by rw[List.length_set,List.length_set];exact h.1,fun j e hj=>?_⟩
 by_cases hij:i=j
 ·subst hij
  have hl:i<ρ.length:=by have:=(gxB hj).1;rwa [List.length_set]at this
  rw[List.getElem?_set_self hl]at hj
  cases hj
  exact⟨v,List.getElem?_set_self (by rw[<- h.1];exact hl),hd⟩
 ·rw[List.getElem?_set_ne hij]at hj
  obtain⟨u,a,b⟩:=h.2 j e hj
  exact⟨u,by rw[List.getElem?_set_ne hij];exact a,b⟩
def lv (μ:MS):D->Option (List D)
 | .lst ds=>some ds
 | .mr k=>lvM μ k
 | _=>none
def lc:D->List D->MS->Prop
 | .mr k,ds=>fun μ=>lvM μ k=some ds
 | _,_=>fun _=>True
theorem lv_is {φ:List Addr}{H:Hp}{μ:MS}{d:D}{v:V}{ds:List D}(M:MSis φ H μ)(i:DIs φ H d v)(h:lv μ d=some ds):∃ p vs,v=.ref p/\H p=some (.lst vs)/\DAll φ H ds vs:=by
 cases d with
 | lst es=>cases h;obtain⟨p,vs,rfl,_,hp,ha⟩:=i;exact⟨p,vs,rfl,hp,ha⟩
 | mr k =>
  obtain⟨p,hp,rfl⟩:=i
  have e:=lvM_eq (show lvM μ k=some ds from h)
  obtain⟨q,e1,vs,hv,ha⟩:=M.at_ k _ e
  rw[hp]at e1;cases e1
  exact⟨p,vs,rfl,hv,ha⟩
 | _=>cases h
theorem lv_stay {φ φ':List Addr}{H H':Hp}{μ μ':MS}{d:D}{p:Addr}{ds:List D}(M:MSis φ H μ)(i:DIs φ H d (.ref p))(h:lv μ d=some ds)(f:Fr φ H φ' H')(M':MSis φ' H' μ')(c:lc d ds μ'):∃ vs,H' p=some (.lst vs)/\DAll φ' H' ds vs:=by
 cases d with
 | lst es=>cases h;obtain⟨p',vs,e,n,hp,ha⟩:=i;cases e;exact⟨vs,f.keep _ _ n hp,ha.mono f⟩
 | mr k =>
  obtain⟨p',hp,e⟩:=i
  cases e
  obtain⟨q,e1,vs,hv,ha⟩:=M'.at_ k _ (lvM_eq c)
  rw[f.get hp]at e1;cases e1
  exact⟨vs,hv,ha⟩
 | _=>cases h
abbrev DK:=D->MS->Prop
abbrev De:=DE->MS->DK->Prop
abbrev DA:=DE->MS->(List D->MS->Prop)->Prop
abbrev Dt:=DE->MS->(Bool->MS->Prop)->Prop
def Lif (φ:List Addr)(H:Hp)(K:DK)(Q:VK):Prop:=∀ d μ' φ' v H',K d μ'->Fr φ H φ' H'->MSis φ' H' μ'->DIs φ' H' d v->Q v H'
theorem Lif.mono {φ φ1:List Addr}{H H1:Hp}{K:DK}{Q:VK}(h:Lif φ H K Q)(f:Fr φ H φ1 H1):Lif φ1 H1 K Q:=fun d μ' φ' v H' k g m i=>h d μ' φ' v H' k (f.trans g) m i
def tD (w:De):TE:=fun σ H Q=>∃ φ ρ μ K,DEnv φ H ρ σ/\MSis φ H μ/\w ρ μ K/\Lif φ H K Q
def tDA (w:DA):TA:=fun σ H Q=>∃ φ ρ μ K,DEnv φ H ρ σ/\MSis φ H μ/\w ρ μ K/\∀ ds μ' φ' vs H',K ds μ'->Fr φ H φ' H'->MSis φ' H' μ'->DAll φ' H' ds vs->Q vs H'
def tDT (w:Dt):TT:=fun σ H Q=>∃ φ ρ μ K,DEnv φ H ρ σ/\MSis φ H μ/\w ρ μ K/\∀ b μ' φ' H',K b μ'->Fr φ H φ' H'->MSis φ' H' μ'->Q b H'
section
variable {X:Cx}{a b e:Expr}{pos:Pos}
abbrev PD (X:Cx)(e:Expr)(w:De):Prop:=PE X e (tD w)
def dVar (i:Nat):De:=fun ρ μ K=>match ρ[i]? with | some (some d)=>K d μ | _=>False
def dC (d:D):De:=fun _ μ K=>K d μ
theorem dv (i:Nat){x:Str}{pos:Pos}(hN:X.N[i]?=some x:=by rfl)(hv:Vis X.env.scope x:=by first | exact Or.inl rfl | exact Or.inr (Or.inl rfl) | exact Or.inr (Or.inr rfl))(hd:(x==("__debug__" : Str))=false:=by decide)
 (hcd:(x==("__classdict__" : Str))=false:=by decide):PD X (.Name x pos) (dVar i):=(pe_var (i:=i) hN hv hd hcd).imp fun σ H Q q=>by
 obtain⟨φ,ρ,μ,K,E,M,w,L⟩:=q
 unfold dVar at w
 split at w
 ·rename_i d hd
  obtain⟨v,e,r⟩:=E.2 i d hd
  exact⟨v,e,L d μ φ v H w (.refl _ _) M r⟩
 ·exact w.elim
theorem d_int {i j pos}:PD X (.Constant (.int i) j pos) (dC (.int i)):=pe_int.imp fun σ H Q hq6=>by obtain⟨φ,ρ,μ,K,E,M,w,L⟩:=hq6;exact L _ _ φ _ H w (.refl _ _) M rfl
theorem d_bl {b j pos}:PD X (.Constant (.bool b) j pos) (dC (.bl b)):=pe_bl.imp fun σ H Q hq0=>by obtain⟨φ,ρ,μ,K,E,M,w,L⟩:=hq0;exact L _ _ φ _ H w (.refl _ _) M rfl
theorem d_non {j pos}:PD X (.Constant .none j pos) (dC .non):=pe_non.imp fun σ H Q hq1=>by obtain⟨φ,ρ,μ,K,E,M,w,L⟩:=hq1;exact L _ _ φ _ H w (.refl _ _) M rfl
theorem d_str {x j pos}:PD X (.Constant (.str x) j pos) (dC (.str x)):=pe_str.imp fun σ H Q hq2=>by obtain⟨φ,ρ,μ,K,E,M,w,L⟩:=hq2;exact L _ _ φ _ H w (.refl _ _) M rfl
abbrev DOp:=D->D->MS->DK->Prop
def dOp (ro:DOp)(wa wb:De):De:=fun ρ μ K=>wa ρ μ fun x μ1=>wb ρ μ1 fun y μ2=>ro x y μ2 K
def SoOp (r:R2)(ro:DOp):Prop:=∀ φ H x y dx dy μ K Q,MSis φ H μ->DIs φ H dx x->DIs φ H dy y->ro dx dy μ K->Lif φ H K Q->r x y H Q
theorem tD_op {r:R2}{ro:DOp}{wa wb:De}(so:SoOp r ro){σ:St}{H:Hp}{Q:VK}(h:tD (dOp ro wa wb) σ H Q):tOp r (tD wa) (tD wb) σ H Q:=by
 obtain⟨φ,ρ,μ,K,E,M,w,L⟩:=h
 refine⟨φ,ρ,μ,_,E,M,w,fun d1 μ1 φ1 v1 H1 k1 f1 M1 i1=>?_⟩
 refine⟨φ1,ρ,μ1,_,E.mono f1,M1,k1,fun d2 μ2 φ2 v2 H2 k2 f2 M2 i2=>?_⟩
 exact so φ2 H2 v1 v2 d1 d2 μ2 K Q M2 (i1.mono f2) i2 k2 (L.mono (f1.trans f2))
theorem d_op {op:Operator}{r:R2}{ro:DOp}{wa wb:De}(h:OpR X (binaryOp op) r)(so:SoOp r ro)(ha:PD X a wa)(hb:PD X b wb):PD X (.BinOp a op b pos) (dOp ro wa wb):=(pe_op h ha hb).imp fun σ H Q q=>tD_op so q
theorem d_cmp {op:CmpOp}{r:R2}{ro:DOp}{wa wb:De}(h:OpR X (compareOp op) r)(so:SoOp r ro)(ha:PD X a wa)(hb:PD X b wb)(hm:behindInMarks op b=false):PD X (.Compare a [op] [b] pos) (dOp ro wa wb):=(pe_cmpR h ha hb hm).imp fun σ H Q q=>tD_op so q
theorem d_ix {r:R2}{ro:DOp}{wa wb:De}(h:IxR X r)(so:SoOp r ro)(ha:PD X a wa)(hb:PD X b wb)(hs:PlainIx b):PD X (.Subscript a b pos) (dOp ro wa wb):=(pe_ix h ha hb hs).imp fun σ H Q q=>tD_op so q
def dTst (w:De):Dt:=fun ρ μ K=>w ρ μ fun d μ'=>match d with | .bl b=>K b μ' | _=>False
theorem tD_bool {w:De}{σ:St}{H:Hp}{Q:Bool->Hp->Prop}(h:tDT (dTst w) σ H Q):cB (tD w) σ H Q:=by
 obtain⟨φ,ρ,μ,K,E,M,k,L⟩:=h
 refine⟨φ,ρ,μ,_,E,M,k,fun d μ' φ' v H' k' f M' i=>?_⟩
 cases d with
 | bl b=>cases(show v=_ from i);exact L b μ' φ' H' k' f M'
 | _=>exact k'.elim
theorem d_testV {w:De}(h:PD X e w)(he:∀ whole,isTrue e X.env whole=(do let v <- whole;standAt e.pos;holding [v] (truthy v)):=by intro _;rfl):PT X e (tDT (dTst w)):=(pt_valC h he).imp fun σ H Q q=>tD_bool q
theorem d_testC {op:CmpOp}{r:R2}{ro:DOp}{wa wb:De}(h:OpR X (compareOp op) r)(so:SoOp r ro)(ha:PD X a wa)(hb:PD X b wb)(hm:behindInMarks op b=false):PT X (.Compare a [op] [b] pos) (tDT (dTst (dOp ro wa wb))) :=
 (pt_cmpC h ha hb hm).imp fun σ H Q q=>by
  obtain⟨φ,ρ,μ,K,E,M,k,L⟩:=q
  refine tD_op so ⟨φ,ρ,μ,_,E,M,k,fun d μ' φ' v H' k' f M' i=>?_⟩
  cases d with
  | bl b=>cases(show v=_ from i);exact L b μ' φ' H' k' f M'
  | _=>exact k'.elim
def dIsN (neg:Bool)(w:De):De:=fun ρ μ K=>w ρ μ fun d μ'=>match d with | .non=>K (.bl (!neg)) μ' | _=>K (.bl neg) μ'
theorem isN_of {φ:List Addr}{H:Hp}{d:D}{v:V}(i:DIs φ H d v):decide (v=V.non)=(match d with | .non=>true | _=>false):=by
 cases d with
 | non=>cases(show v=_ from i);rfl
 | bl _=>cases(show v=_ from i);rfl
 | int _=>cases(show v=_ from i);rfl
 | str _=>cases(show v=_ from i);rfl
 | lst _=>obtain⟨p,vs,rfl,_⟩:=i;rfl
 | tup _=>obtain⟨p,vs,rfl,_⟩:=i;rfl
 | dic _ _=>obtain⟨p,kvs,vs,rfl,_⟩:=i;rfl
 | mr _=>obtain⟨p,_,rfl⟩:=i;rfl
 | obj _ _ _=>obtain⟨p,dx,fs,vs,rfl,_⟩:=i;rfl
 | fdc _ _=>obtain⟨p,dx,fs,vs,rfl,_⟩:=i;rfl
 | fn _=>cases(show v=_ from i);rfl
theorem tD_notN {w:De}{σ:St}{H:Hp}{Q:VK}(h:tD (dIsN true w) σ H Q):tNotN (tD w) σ H Q:=by
 obtain⟨φ,ρ,μ,K,E,M,k,L⟩:=h
 refine⟨φ,ρ,μ,_,E,M,k,fun d μ' φ' v H' k' f M' i=>?_⟩
 show Q (.bl _) H'
 rw[isN_of i]
 cases d <;> exact L _ μ' φ' _ H' k' f M' rfl
end
end L2
namespace L2
open PySem PySem.Spec PyProof.Rows
section
variable {X:Cx}{a b e:Expr}{es:List Expr}{pos:Pos}
theorem PA.imp {es:List Expr}{t t':TA}(h:PA X es t)(hi:∀ σ H Q,t' σ H Q->t σ H Q):PA X es t':=fun pos pins s σ H Q I q=>h pos pins s σ H Q I (hi σ H Q q)
theorem PSs.imp {st:List Stmt}{t t':TS}(h:PSs X st t)(hi:∀ D σ H,t' D σ H->t D σ H):PSs X st t':=fun pins s σ H D I q=>h pins s σ H D I (hi D σ H q)
def dNil:DA:=fun _ μ K=>K [] μ
def dCons (wa:De)(wr:DA):DA:=fun ρ μ K=>wa ρ μ fun x μ1=>wr ρ μ1 fun xs μ2=>K (x::xs) μ2
abbrev PDA (X:Cx)(es:List Expr)(w:DA):Prop:=PA X es (tDA w)
theorem da_nil:PDA X [] dNil:=pa_nil.imp fun σ H Q hq3=>by obtain⟨φ,ρ,μ,K,E,M,w,L⟩:=hq3;exact L [] μ φ [] H w (.refl _ _) M rfl
theorem da_cons {wa:De}{wr:DA}(ha:PD X e wa)(hr:PDA X es wr)(hs:starEach (e::es) X.env=(false,eval e X.env)::starEach es X.env:=by rfl):PDA X (e::es) (dCons wa wr):=(pa_cons ha hr hs).imp fun σ H Q q=>by
 obtain⟨φ,ρ,μ,K,E,M,w,L⟩:=q
 refine⟨φ,ρ,μ,_,E,M,w,fun d1 μ1 φ1 v1 H1 k1 f1 M1 i1=>?_⟩
 refine⟨φ1,ρ,μ1,_,E.mono f1,M1,k1,fun ds μ2 φ2 vs H2 k2 f2 M2 i2=>?_⟩
 exact L _ μ2 φ2 _ H2 k2 (f1.trans f2) M2 ⟨v1,vs,rfl,i1.mono f2,i2⟩
theorem al_lst {φ:List Addr}{H:Hp}{μ:MS}{K:DK}{Q:VK}{ds:List D}{vs:List V}{p:Addr}(L:Lif φ H K Q)(M:MSis φ H μ)(h:DAll φ H ds vs)(k:K (.lst ds) μ)(hp:H p=none):Q (.ref p) (upd H p (.lst vs)) :=
 L _ μ φ _ _ k (.new hp) (M.same (Same.upd hp)) ⟨p,vs,rfl,M.fresh hp,upd_same,h.mono (.new hp)⟩
theorem al_tup {φ:List Addr}{H:Hp}{μ:MS}{K:DK}{Q:VK}{ds:List D}{vs:List V}{p:Addr}(L:Lif φ H K Q)(M:MSis φ H μ)(h:DAll φ H ds vs)(k:K (.tup ds) μ)(hp:H p=none):Q (.ref p) (upd H p (.tup vs)) :=
 L _ μ φ _ _ k (.new hp) (M.same (Same.upd hp)) ⟨p,vs,rfl,M.fresh hp,upd_same,h.mono (.new hp)⟩
theorem al_mr {φ:List Addr}{H:Hp}{μ:MS}{K:DK}{Q:VK}{ds:List D}{vs:List V}{p:Addr}(L:Lif φ H K Q)(M:MSis φ H μ)(h:DAll φ H ds vs)(k:K (.mr μ.length) (μ++[.lst ds]))(hp:H p=none):Q (.ref p) (upd H p (.lst vs)):=by
 have f:Fr φ H (φ++[p]) (upd H p (.lst vs)):=⟨(Fr.snoc (φ:=φ) hp).ext,fun c u _ e=>Same.upd hp _ _ e,fun c e=>(Same.upd hp).free e⟩
 obtain⟨M',_⟩:=M.snoc (m:=.lst ds) (o:=.lst vs) hp ⟨vs,upd_same,h.mono f⟩
 exact L _ _ _ _ _ k f M' ⟨p,by rw[gxG (by rw[M.len];exact Nat.le_refl _),M.len,Nat.sub_self];rfl,rfl⟩
def nL (m:Bool)(ds:List D)(μ:MS)(K:DK):Prop:=match m with | false=>K (.lst ds) μ | true=>K (.mr μ.length) (μ++[.lst ds])
theorem al_n {m:Bool}{φ:List Addr}{H:Hp}{μ:MS}{K:DK}{Q:VK}{ds:List D}{vs:List V}{p:Addr}(L:Lif φ H K Q)(M:MSis φ H μ)(h:DAll φ H ds vs)(k:nL m ds μ K)(hp:H p=none):Q (.ref p) (upd H p (.lst vs)):=by
 cases m with
 | false=>exact al_lst L M h k hp
 | true=>exact al_mr L M h k hp
def dLst (m:Bool)(w:DA):De:=fun ρ μ K=>w ρ μ fun ds μ1=>ds.length<=sizeLine/\nL m ds μ1 K
def dTup (w:DA):De:=fun ρ μ K=>w ρ μ fun ds μ1=>ds.length<=sizeLine/\K (.tup ds) μ1
theorem d_lst {w:DA}(m:Bool)(h:PDA X es w):PD X (.List es pos) (dLst m w):=(pe_lst h).imp fun σ H Q ⟨φ,ρ,μ,K,E,M,w,L⟩ =>
 ⟨φ,ρ,μ,_,E,M,w,fun ds μ1 φ1 vs H1 k1 f1 M1 i1=>⟨by rw[i1.len];exact k1.1,fun p hp=>al_n (L.mono f1) M1 i1 k1.2 hp⟩⟩
theorem d_tup {w:DA}{x1}(h:PDA X es w):PD X (.Tuple es x1 pos) (dTup w):=(pe_tup h).imp fun σ H Q ⟨φ,ρ,μ,K,E,M,w,L⟩ =>
 ⟨φ,ρ,μ,_,E,M,w,fun ds μ1 φ1 vs H1 k1 f1 M1 i1=>⟨by rw[i1.len];exact k1.1,fun p hp=>al_tup (L.mono f1) M1 i1 k1.2 hp⟩⟩
abbrev DSp:=List D->MS->DK->Prop
def spD (f:DSp):Sp:=fun vs H Q _=>∃ φ ds μ K,DAll φ H ds vs/\MSis φ H μ/\f ds μ K/\Lif φ H K Q
def dCall (f:DSp)(w:DA):De:=fun ρ μ K=>w ρ μ fun ds μ1=>f ds μ1 K
theorem d_call {f:DSp}{w:DA}{x:Str}{p:Pos}{k:Nat}{ps:List Str}(C:Cal X.prog X.w X.K X.mg X.base x k ps (spD f))(hr:Room k X.A)(hg:Gl X x)(ha:PDA X (e::es) w)
 (hdb:(x==("__debug__" : Str))=false:=by decide) (he:starEach (e::es) X.env=(false,eval e X.env)::starEach es X.env:=by rfl) (hpl:(backTo pos (starEach es X.env)).any (·.1)=false:=by rfl) :
 PD X (.Call (.Name x p) (e::es) [] pos) (dCall f w):=(pe_callC C hr hg ha hdb he hpl).imp fun σ H Q ⟨φ,ρ,μ,K,E,M,w,L⟩ =>
 ⟨φ,ρ,μ,_,E,M,w,fun ds μ1 φ1 vs H1 k1 f1 M1 i1=>by show spD f (vs++[]) H1 Q E0;rw[List.append_nil];exact⟨φ1,ds,μ1,K,i1,M1,k1,L.mono f1⟩⟩
def SoCall (r:List V->Hp->VK->Prop)(f:DSp):Prop:=∀ φ H vs ds μ K Q,MSis φ H μ->DAll φ H ds vs->f ds μ K->Lif φ H K Q->r vs H Q
theorem tD_cb {r:List V->Hp->VK->Prop}{f:DSp}{w:DA}(so:SoCall r f){σ:St}{H:Hp}{Q:VK}(h:tD (dCall f w) σ H Q):tCB r (tDA w) σ H Q:=by
 obtain⟨φ,ρ,μ,K,E,M,w,L⟩:=h
 exact⟨φ,ρ,μ,_,E,M,w,fun ds μ1 φ1 vs H1 k1 f1 M1 i1=>so φ1 H1 vs ds μ1 K Q M1 i1 k1 (L.mono f1)⟩
theorem d_blt {r:List V->Hp->VK->Prop}{f:DSp}{w:DA}{id:String}{x:Str}{p:Pos}(hc:CallR X (.builtin id) r)(so:SoCall r f)(hg:Gl X x)(hm:X.mg x=none)(hv:bootBuiltins x=some (.builtin id))(ha:PDA X (e::es) w)(hn:x ≠ "__name__":=by decide)(hdb:(x==("__debug__" : Str))=false:=by decide)
 (he:starEach (e::es) X.env=(false,eval e X.env)::starEach es X.env:=by rfl) (hpl:(backTo pos (starEach es X.env)).any (·.1)=false:=by rfl):PD X (.Call (.Name x p) (e::es) [] pos) (dCall f w) :=
 (pe_callB hc hg hm hv ha hn hdb he hpl).imp fun σ H Q q=>tD_cb so q
theorem d_ty {r:List V->Hp->VK->Prop}{f:DSp}{w:DA}{T:String}{x:Str}{p:Pos}(hc:CallR X (.type T) r)(so:SoCall r f)(hg:Gl X x)(hm:X.mg x=none)(hv:bootBuiltins x=some (.type T))(ha:PDA X (e::es) w)(hn:x ≠ "__name__":=by decide)(hdb:(x==("__debug__" : Str))=false:=by decide)
 (he:starEach (e::es) X.env=(false,eval e X.env)::starEach es X.env:=by rfl) (hpl:(backTo pos (starEach es X.env)).any (·.1)=false:=by rfl):PD X (.Call (.Name x p) (e::es) [] pos) (dCall f w) :=
 (pe_callTy hc hg hm hv ha hn hdb he hpl).imp fun σ H Q q=>tD_cb so q
abbrev DMt:=D->List D->MS->DK->Prop
def SoMt (K:PySem.W.Frag)(T:String)(r:V->List V->Hp->VK->Prop)(f:DMt):Prop:=∀ φ H x vs d ds μ K' Q,MSis φ H μ->DIs φ H d x->DAll φ H ds vs->f d ds μ K'->Lif φ H K' Q->r x vs H Q
def TyD (T:String)(μ:MS):D->Prop
 | .str _=>T = "str"
 | .lst _=>T = "list"
 | .dic _ _=>T = "dict"
 | .mr k=>match μ[k]? with | some (.lst _)=>T = "list" | some (.dic _ _)=>T = "dict" | _=>False
 | _=>False
theorem TyD.is {Kf:PySem.W.Frag}{T:String}{φ:List Addr}{H:Hp}{μ:MS}{d:D}{v:V}(M:MSis φ H μ)(i:DIs φ H d v)(h:TyD T μ d):tyV Kf T v H:=by
 cases d with
 | str z=>cases(show v=_ from i);exact h
 | lst ds=>obtain⟨p,vs,rfl,_,hp,_⟩:=i;exact .inl ⟨h,vs,SqL.of hp⟩
 | dic ks ds=>obtain⟨p,kvs,vs,rfl,_,hp,_⟩:=i;exact .inr (.inr (.inl ⟨h,.inl ⟨kvs,hp⟩⟩))
 | mr k =>
  obtain⟨p,hp,rfl⟩:=i
  unfold TyD at h
  dsimp only at h
  cases e:μ[k]? with
  | none=>rw[e]at h;exact h.elim
  | some m =>
   obtain⟨q,e1,e2⟩:=M.at_ k m e
   rw[hp]at e1;cases e1
   rw[e]at h
   cases m with
   | box=>exact h.elim
   | lst ds=>obtain⟨vs,hv,_⟩:=e2;exact .inl ⟨h,vs,SqL.of hv⟩
   | dic ks ds=>obtain⟨kvs,vs,hv,_⟩:=e2;exact .inr (.inr (.inl ⟨h,.inl ⟨kvs,hv⟩⟩))
   | _=>exact h.elim
 | _=>exact(show False from h).elim
def dMt (T:String)(f:DMt)(wo:De)(w:DA):De:=fun ρ μ K=>wo ρ μ fun x μ1=>TyD T μ1 x/\w ρ μ1 fun ds μ2=>f x ds μ2 K
theorem d_mt {o:Expr}{name:Str}{apos cpos:Pos}{T id:String}{r:V->List V->Hp->VK->Prop}{f:DMt}{wo:De}{w:DA}(pa:PlainAttrs T)(slot:Slot T name id)(hty:typeOf (.builtin id)=pure (.type "method_descriptor"))(hm:MtR X id r)(so:SoMt X.K T r f)(ho:PD X o wo)(ha:PDA X (e::es) w)
 (hbase:attributeBase o name X.env (eval o X.env)=eval o X.env:=by rfl)
 (hfew:((backTo cpos (starEach (e::es) X.env)).all (fun x=>!x.1)&&(backToKw cpos (keywordEach [] X.env)).all (fun x=>x.1.isSome)
   && decide ((e::es).length+([]:List Keyword).length+(if([]:List Keyword).isEmpty then 0 else 1)<30))=true:=by rfl)
 (hline:(apos.endLine==cpos.line)=true:=by rfl) (hs:starEach (e::es) X.env=(false,eval e X.env)::starEach es X.env:=by rfl) (hplain:(backTo cpos (starEach es X.env)).any (·.1)=false:=by rfl) :
 PD X (.Call (.Attribute o name apos) (e::es) [] cpos) (dMt T f wo w):=(pe_bm pa slot hty hm ho ha hbase hfew hline hs hplain).imp fun σ H Q q=>by
 obtain⟨φ,ρ,μ,K,E,M,w,L⟩:=q
 refine⟨φ,ρ,μ,_,E,M,w,fun d1 μ1 φ1 v1 H1 k1 f1 M1 i1=>⟨TyD.is M1 i1 k1.1,?_⟩⟩
 exact⟨φ1,ρ,μ1,_,E.mono f1,M1,k1.2,fun ds μ2 φ2 vs H2 k2 f2 M2 i2=>so φ2 H2 v1 vs d1 ds μ2 K Q M2 (i1.mono f2) i2 k2 (L.mono (f1.trans f2))⟩
theorem d_mt0 {o:Expr}{name:Str}{apos cpos:Pos}{T id:String}{r:V->List V->Hp->VK->Prop}{f:DMt}{wo:De}(pa:PlainAttrs T)(slot:Slot T name id)(hty:typeOf (.builtin id)=pure (.type "method_descriptor"))(hm:MtR X id r)(so:SoMt X.K T r f)(ho:PD X o wo)
 (hbase:attributeBase o name X.env (eval o X.env)=eval o X.env:=by rfl) (hline:(apos.endLine==cpos.line)=true:=by rfl):PD X (.Call (.Attribute o name apos) [] [] cpos) (dMt T f wo dNil):=(pe_bm0 pa slot hty hm ho hbase hline).imp fun σ H Q q=>by
 obtain⟨φ,ρ,μ,K,E,M,w,L⟩:=q
 exact⟨φ,ρ,μ,_,E,M,w,fun d1 μ1 φ1 v1 H1 k1 f1 M1 i1=>⟨TyD.is M1 i1 k1.1,so φ1 H1 v1 [] d1 [] μ1 K Q M1 i1 rfl k1.2 (L.mono f1)⟩⟩
def dAnd (wa wb:De):De:=fun ρ μ K=>wa ρ μ fun x μ1=>match x with | .bl c=>if c=true then wb ρ μ1 K else K (.bl false) μ1 | _=>False
theorem d_and {rest:List Expr}{wa wb:De}(ha:PD X a wa)(hb:PD X (.BoolOp .And (b::rest) pos) wb):PD X (.BoolOp .And (a::b::rest) pos) (dAnd wa wb):=(pe_andC ha hb).imp fun σ H Q q=>by
 obtain⟨φ,ρ,μ,K,E,M,w,L⟩:=q
 refine⟨φ,ρ,μ,_,E,M,w,fun d1 μ1 φ1 v1 H1 k1 f1 M1 i1=>?_⟩
 cases d1 with
 | bl c =>
  cases(show v1=_ from i1)
  cases c with
  | true=>exact⟨φ1,ρ,μ1,_,E.mono f1,M1,k1,L.mono f1⟩
  | false=>exact L _ μ1 φ1 _ H1 k1 f1 M1 rfl
 | _=>exact k1.elim
theorem d_one {op}{w:De}(h:PD X a w):PD X (.BoolOp op [a] pos) w:=pe_one h
def dNeg (wa:De):De:=fun ρ μ K=>wa ρ μ fun x μ1=>match x with | .int i=>K (.int (-i)) μ1 | _=>False
theorem d_neg {wa:De}(ha:PD X a wa):PD X (.UnaryOp .USub a pos) (dNeg wa):=(pe_un un_neg ha).imp fun σ H Q q=>by
 obtain⟨φ,ρ,μ,K,E,M,w,L⟩:=q
 refine⟨φ,ρ,μ,_,E,M,w,fun d1 μ1 φ1 v1 H1 k1 f1 M1 i1=>?_⟩
 cases d1 with
 | int c=>cases(show v1=_ from i1);exact⟨c,rfl,L _ μ1 φ1 _ H1 k1 f1 M1 rfl⟩
 | _=>exact k1.elim
def dtAnd (t u:Dt):Dt:=fun ρ μ K=>t ρ μ fun c μ1=>if c=true then u ρ μ1 K else K false μ1
def dtOr (t u:Dt):Dt:=fun ρ μ K=>t ρ μ fun c μ1=>if c=true then K true μ1 else u ρ μ1 K
def dtNot (t:Dt):Dt:=fun ρ μ K=>t ρ μ fun c μ1=>K (!c) μ1
abbrev PDT (X:Cx)(e:Expr)(w:Dt):Prop:=PT X e (tDT w)
theorem tDT_and {t u:Dt}{σ:St}{H:Hp}{Q:Bool->Hp->Prop}(h:tDT (dtAnd t u) σ H Q):tAnd (tDT t) (tDT u) σ H Q:=by
 obtain⟨φ,ρ,μ,K,E,M,w,L⟩:=h
 refine⟨φ,ρ,μ,_,E,M,w,fun b μ1 φ1 H1 k1 f1 M1=>?_⟩
 cases b with
 | true=>exact⟨φ1,ρ,μ1,_,E.mono f1,M1,k1,fun b μ2 φ2 H2 k2 f2 M2=>L b μ2 φ2 H2 k2 (f1.trans f2) M2⟩
 | false=>exact L _ μ1 φ1 H1 k1 f1 M1
theorem tDT_or {t u:Dt}{σ:St}{H:Hp}{Q:Bool->Hp->Prop}(h:tDT (dtOr t u) σ H Q):tOr (tDT t) (tDT u) σ H Q:=by
 obtain⟨φ,ρ,μ,K,E,M,w,L⟩:=h
 refine⟨φ,ρ,μ,_,E,M,w,fun b μ1 φ1 H1 k1 f1 M1=>?_⟩
 cases b with
 | false=>exact⟨φ1,ρ,μ1,_,E.mono f1,M1,k1,fun b μ2 φ2 H2 k2 f2 M2=>L b μ2 φ2 H2 k2 (f1.trans f2) M2⟩
 | true=>exact L _ μ1 φ1 H1 k1 f1 M1
abbrev PDW (X:Cx)(e:Expr)(w:Dt):Prop:=PW X e (tDT w)
theorem PW.imp {e:Expr}{t t':TT}(h:PW X e t)(hi:∀ σ H Q,t' σ H Q->t σ H Q):PW X e t':=fun wh pins s σ H Q I q=>h wh pins s σ H Q I (hi σ H Q q)
theorem t_and1 {t:Dt}(h:PDT X a t):PDW X (.BoolOp .And [a] pos) t:=pw_and1 h
theorem t_or1 {t:Dt}(h:PDT X a t):PDW X (.BoolOp .Or [a] pos) t:=pw_or1 h
theorem t_and {rest:List Expr}{t u:Dt}(ha:PDT X a t)(hb:PDW X (.BoolOp .And (b::rest) pos) u):PDW X (.BoolOp .And (a::b::rest) pos) (dtAnd t u):=(pw_and ha hb).imp fun σ H Q q=>tDT_and q
theorem t_or {rest:List Expr}{t u:Dt}(ha:PDT X a t)(hb:PDW X (.BoolOp .Or (b::rest) pos) u):PDW X (.BoolOp .Or (a::b::rest) pos) (dtOr t u):=(pw_or ha hb).imp fun σ H Q q=>tDT_or q
theorem t_not {t:Dt}(h:PDT X a t):PDT X (.UnaryOp .Not a pos) (dtNot t):=(pt_not h).imp fun σ H Q q=>by
 obtain⟨φ,ρ,μ,K,E,M,w,L⟩:=q
 exact⟨φ,ρ,μ,_,E,M,w,fun b μ1 φ1 H1 k1 f1 M1=>L _ μ1 φ1 H1 k1 f1 M1⟩
def dIf (t:Dt)(wa wb:De):De:=fun ρ μ K=>t ρ μ fun c μ1=>if c=true then wa ρ μ1 K else wb ρ μ1 K
theorem d_if {c:Expr}{t:Dt}{wa wb:De}(hc:PDT X c t)(ha:PD X a wa)(hb:PD X b wb):PD X (.IfExp c a b pos) (dIf t wa wb):=(pe_ifExp hc ha hb).imp fun σ H Q q=>by
 obtain⟨φ,ρ,μ,K,E,M,w,L⟩:=q
 refine⟨φ,ρ,μ,_,E,M,w,fun b μ1 φ1 H1 k1 f1 M1=>?_⟩
 cases b with
 | true=>exact⟨φ1,ρ,μ1,_,E.mono f1,M1,k1,L.mono f1⟩
 | false=>exact⟨φ1,ρ,μ1,_,E.mono f1,M1,k1,L.mono f1⟩
theorem d_notN {j pos'}{w:De}(h:PD X a w):PD X (.Compare a [.IsNot] [.Constant .none j pos'] pos) (dIsN true w):=(pe_cmp (pc_notN h)).imp fun σ H Q q=>tD_notN q
theorem tB_of {w:De}{t:TE}{σ:St}{H:Hp}{Q:Bool->Hp->Prop}(hi:∀ Q,tD w σ H Q->t σ H Q)(h:tDT (dTst w) σ H Q):tB t σ H Q:=by
 obtain⟨φ,ρ,μ,K,E,M,k,L⟩:=h
 refine hi _ ⟨φ,ρ,μ,_,E,M,k,fun d μ' φ' v H' k' f M' i=>?_⟩
 cases d with
 | bl b=>cases(show v=_ from i);exact⟨b,rfl,L b μ' φ' H' k' f M'⟩
 | _=>exact k'.elim
theorem t_notN {j pos'}{w:De}(h:PD X a w):PDT X (.Compare a [.IsNot] [.Constant .none j pos'] pos) (dTst (dIsN true w)):=(pt_cmp (pc_notN h)).imp fun σ H Q q=>tB_of (fun Q q=>tD_notN q) q
end
structure DN where
 nx:DE->MS->Prop
 rt:DK
 bk:DE->MS->Prop:=fun _ _=>False
 ct:DE->MS->Prop:=fun _ _=>False
abbrev Ds:=DN->DE->MS->Prop
def LiS (φ:List Addr)(H:Hp)(k:DE->MS->Prop)(q:St->Hp->Prop):Prop:=∀ ρ' μ' φ' σ' H',k ρ' μ'->Fr φ H φ' H'->DEnv φ' H' ρ' σ'->MSis φ' H' μ'->q σ' H'
theorem LiS.mono {φ φ1:List Addr}{H H1:Hp}{k:DE->MS->Prop}{q:St->Hp->Prop}(h:LiS φ H k q)(f:Fr φ H φ1 H1):LiS φ1 H1 k q:=fun ρ' μ' φ' σ' H' a b c d=>h ρ' μ' φ' σ' H' a (f.trans b) c d
structure LiN (φ:List Addr)(H:Hp)(N:DN)(E:Ends):Prop where
 nx:LiS φ H N.nx E.nx
 rt:Lif φ H N.rt E.rt
 bk:LiS φ H N.bk E.bk
 ct:LiS φ H N.ct E.ct
theorem LiN.mono {φ φ1:List Addr}{H H1:Hp}{N:DN}{E:Ends}(h:LiN φ H N E)(f:Fr φ H φ1 H1):LiN φ1 H1 N E:=⟨h.nx.mono f,h.rt.mono f,h.bk.mono f,h.ct.mono f⟩
def tDS (w:Ds):TS:=fun E σ H=>∃ φ ρ μ N,DEnv φ H ρ σ/\MSis φ H μ/\w N ρ μ/\LiN φ H N E
abbrev PDS (X:Cx)(st:Stmt)(w:Ds):Prop:=PS X st (tDS w)
abbrev PDB (X:Cx)(st:List Stmt)(w:Ds):Prop:=PSs X st (tDS w)
section
variable {X:Cx}{a b e:Expr}{es:List Expr}{pos:Pos}{st:Stmt}{rest:List Stmt}
def dNx:Ds:=fun N ρ μ=>N.nx ρ μ
def dSeq (t u:Ds):Ds:=fun N ρ μ=>t { N with nx:=fun ρ' μ'=>u N ρ' μ'} ρ μ
def dCut (t u:Ds):Ds:=fun N ρ μ=>∃ M:DE->MS->Prop,t { N with nx:=M} ρ μ/\∀ ρ' μ',M ρ' μ'->u N ρ' μ'
theorem b_nil:PDB X [] dNx:=pss_nil.imp fun E σ H hq4=>by obtain⟨φ,ρ,μ,N,A,M,w,L⟩:=hq4;exact L.nx ρ μ φ σ H w (.refl _ _) A M
theorem b_cons {t u:Ds}(h1:PDS X st t)(h2:PDB X rest u):PDB X (st::rest) (dSeq t u):=(pss_cons h1 h2).imp fun E σ H ⟨φ,ρ,μ,N,A,M,w,L⟩ =>
 ⟨φ,ρ,μ,_,A,M,w,⟨fun ρ' μ' φ' σ' H' k f A' M'=>⟨φ',ρ',μ',N,A',M',k,L.mono f⟩,L.rt,L.bk,L.ct⟩⟩
theorem b_cut {t u:Ds}(h1:PDS X st t)(h2:PDB X rest u):PDB X (st::rest) (dCut t u):=(pss_cons h1 h2).imp fun E σ H ⟨φ,ρ,μ,N,A,M,⟨P,w1,w2⟩,L⟩ =>
 ⟨φ,ρ,μ,_,A,M,w1,⟨fun ρ' μ' φ' σ' H' k f A' M'=>⟨φ',ρ',μ',N,A',M',w2 ρ' μ' k,L.mono f⟩,L.rt,L.bk,L.ct⟩⟩
theorem b_one {t:Ds}(h:PDS X st t):PDB X [st] t:=pss_one h
def dExpr (w:De):Ds:=fun N ρ μ=>w ρ μ fun _ μ'=>N.nx ρ μ'
theorem s_expr {w:De}(h:PD X e w)(hs:swapsWith e none pos.line X.env=pure false:=by rfl):PDS X (.Expr e pos) (dExpr w):=(ps_expr h hs).imp fun E σ H hq5=>by obtain⟨φ,ρ,μ,N,A,M,w,L⟩:=hq5;exact⟨φ,ρ,μ,_,A,M,w,fun d μ1 φ1 v1 H1 k1 f1 M1 i1=>L.nx ρ μ1 φ1 σ H1 k1 f1 (A.mono f1) M1⟩
def dRet (w:De):Ds:=fun N ρ μ=>w ρ μ N.rt
theorem s_ret {w:De}(h:PD X e w):PDS X (.Return (some e) pos) (dRet w):=(ps_ret h).imp fun E σ H hq6=>by obtain⟨φ,ρ,μ,N,A,M,w,L⟩:=hq6;exact⟨φ,ρ,μ,_,A,M,w,L.rt⟩
def dIfS (c:Dt)(t u:Ds):Ds:=fun N ρ μ=>c ρ μ fun b μ1=>if b=true then t N ρ μ1 else u N ρ μ1
theorem s_if {c:Expr}{body orelse:List Stmt}{t:Dt}{u v:Ds}(hc:PDT X c t)(h1:PDB X body u)(h2:PDB X orelse v):PDS X (.If c body orelse pos) (dIfS t u v):=(ps_if hc h1 h2).imp fun E σ H ⟨φ,ρ,μ,N,A,M,w,L⟩ =>
 ⟨φ,ρ,μ,_,A,M,w,fun b μ1 φ1 H1 k1 f1 M1=>by
  cases b with
  | true=>exact⟨φ1,ρ,μ1,N,A.mono f1,M1,k1,L.mono f1⟩
  | false=>exact⟨φ1,ρ,μ1,N,A.mono f1,M1,k1,L.mono f1⟩⟩
def dSet (i:Nat)(w:De):Ds:=fun N ρ μ=>w ρ μ fun d μ'=>N.nx (ρ.set i (some d)) μ'
theorem s_set {i:Nat}{x:Str}{w:De}{pos':Pos}(hN:X.N.Nodup)(hi:X.N[i]?=some x)(hx:Loc X.env.scope x)(he:PD X e w)(hf:X.fn x=true\/X.env.scope.names.lookup x=some .local:=by first | exact .inl rfl | exact .inr rfl | assumption)
 (hsw:swapsWith e (some (.Name x pos')) pos.line X.env=pure false:=by rfl):PDS X (.Assign [.Name x pos'] e pos) (dSet i w):=(ps_set (pos:=pos) (pos':=pos') hN hi hx he hsw hf).imp fun E σ H ⟨φ,ρ,μ,N,A,M,w,L⟩ =>
 ⟨φ,ρ,μ,_,A,M,w,fun d μ1 φ1 v1 H1 k1 f1 M1 i1=>L.nx _ μ1 φ1 _ H1 k1 f1 ((A.mono f1).set i1 i) M1⟩
abbrev DG:=D->DE->MS->(DE->MS->Prop)->Prop
abbrev DGs:=List D->DE->MS->(DE->MS->Prop)->Prop
def SoG (g:TG)(w:DG)(S:List Nat):Prop:=∀ φ H ρ σ μ d v K,DEnv φ H ρ σ->MSis φ H μ->DIs φ H d v->w d ρ μ K->g v σ H fun σ2 H2=>H2=H/\σ2.length=σ.length/\(∀ i,i∉S->σ2[i]?=σ[i]?)/\∃ ρ2,DEnv φ H ρ2 σ2/\K ρ2 μ
def SoGs (g:TGs)(w:DGs)(S:List Nat):Prop:=∀ φ H ρ σ μ ds vs K,DEnv φ H ρ σ->MSis φ H μ->DAll φ H ds vs->w ds ρ μ K->g vs σ H fun σ2 H2=>H2=H/\σ2.length=σ.length/\(∀ i,i∉S->σ2[i]?=σ[i]?)/\∃ ρ2,DEnv φ H ρ2 σ2/\K ρ2 μ
def MonoG (g:TG):Prop:=∀ v σ H Q Q',(∀ σ' H',Q σ' H'->Q' σ' H')->g v σ H Q->g v σ H Q'
def MonoGs (g:TGs):Prop:=∀ v σ H Q Q',(∀ σ' H',Q σ' H'->Q' σ' H')->g v σ H Q->g v σ H Q'
def dgName (i:Nat):DG:=fun d ρ μ K=>K (ρ.set i (some d)) μ
def dgTup (n:Nat)(t:DGs):DG:=fun d ρ μ K=>match d with | .tup ds=>ds.length=n/\t ds ρ μ K | _=>False
def dgCons (t:DG)(u:DGs):DGs:=fun ds ρ μ K=>match ds with | d::r=>t d ρ μ fun ρ' μ'=>u r ρ' μ' K | []=>False
def dgNil:DGs:=fun ds ρ μ K=>match ds with | []=>K ρ μ | _=>False
theorem so_name (i:Nat):SoG (gName i) (dgName i) [i]:=fun φ H ρ σ μ d v K E M h w=>⟨rfl,List.length_set,fun j hj=>List.getElem?_set_ne (fun z=>hj (by simp[z])),_,E.set h i,w⟩
theorem mo_name (i:Nat):MonoG (gName i):=fun v σ H Q Q' h q=>h _ _ q
theorem so_nil:SoGs cNil dgNil []:=fun φ H ρ σ μ ds vs K E M h w=>by
 cases ds with
 | nil=>cases(show vs=[]from h);exact⟨rfl,rfl,fun _ _=>rfl,ρ,E,w⟩
 | cons d r=>exact w.elim
theorem mo_nil:MonoGs cNil:=fun v σ H Q Q' h q=>by
 cases v with
 | nil=>exact h _ _ q
 | cons x r=>exact q
theorem mo_cons {g:TG}{u:TGs}(h1:MonoG g)(h2:MonoGs u):MonoGs (cCons g u):=fun v σ H Q Q' h q=>by
 cases v with
 | nil=>exact q
 | cons x r=>exact h1 _ _ _ _ _ (fun σ' H' q'=>h2 _ _ _ _ _ h q') q
theorem mo_tup {n:Nat}{u:TGs}(h2:MonoGs u):MonoG (cTup n u):=fun v σ H Q Q' h q=>by
 cases v with
 | ref a=>obtain⟨xs,e,l,q⟩:=q;exact⟨xs,e,l,h2 _ _ _ _ _ h q⟩
 | _=>exact q
theorem so_cons {g:TG}{u:TGs}{w:DG}{y:DGs}{S T:List Nat}(h1:SoG g w S)(m1:MonoG g)(h2:SoGs u y T)(m2:MonoGs u):SoGs (cCons g u) (dgCons w y) (S++T):=fun φ H ρ σ μ ds vs K E M h k=>by
 cases ds with
 | nil=>exact k.elim
 | cons d r =>
  obtain⟨v,vr,rfl,hd,hr⟩:=h
  refine m1 _ _ _ _ _ (fun σ1 H1 hq0=>?_) (h1 φ H ρ σ μ d v _ E M hd k)
  obtain⟨e1,l1,n1,ρ1,E1,k1⟩:=hq0
  subst e1
  refine m2 _ _ _ _ _ (fun σ2 H2 hq1=>?_) (h2 φ H1 ρ1 σ1 μ r vr K E1 M hr k1)
  obtain⟨e2,l2,n2,ρ2,E2,k2⟩:=hq1
  refine⟨e2,l2.trans l1,fun i hi=>?_,ρ2,E2,k2⟩
  rw[n2 i (fun z=>hi (List.mem_append_right _ z)),n1 i (fun z=>hi (List.mem_append_left _ z))]
theorem so_tup {n:Nat}{u:TGs}{y:DGs}{S:List Nat}(h2:SoGs u y S):SoG (cTup n u) (dgTup n y) S:=fun φ H ρ σ μ d v K E M h k=>by
 cases d with
 | tup ds =>
  obtain⟨p,vs,rfl,hn,hp,ha⟩:=h
  exact⟨vs,hp,by rw[ha.len];exact k.1,h2 φ H ρ σ μ ds vs K E M ha k.2⟩
 | _=>exact k.elim
structure Tg (X:Cx)(tg:Expr)(g:TG)(w:DG)(S:List Nat):Prop where
 pg:PG X tg g
 so:SoG g w S
 mo:MonoG g
def dAsg (w:De)(g:DG):Ds:=fun N ρ μ=>w ρ μ fun d μ1=>g d ρ μ1 N.nx
theorem s_asg {tg:Expr}{w:De}{g:TG}{y:DG}{S:List Nat}(he:PD X e w)(hg:Tg X tg g y S)(hs:swapsWithSole [tg] e pos.line X.env=pure false:=by rfl)(hw:swappedStores [tg] e X.env=pure none:=by rfl)
 (h1:(assignEach [tg] X.env).map (·.2)=[assign tg X.env]:=by rfl):PDS X (.Assign [tg] e pos) (dAsg w y):=(ps_asg he hg.pg hs hw h1).imp fun E σ H ⟨φ,ρ,μ,N,A,M,w,L⟩ =>
 ⟨φ,ρ,μ,_,A,M,w,fun d μ1 φ1 v1 H1 k1 f1 M1 i1=>hg.mo _ _ _ _ _ (fun σ2 H2 ⟨e2,_,_,ρ2,E2,k2⟩=>by subst e2;exact L.nx ρ2 μ1 φ1 σ2 _ k2 f1 E2 M1) (hg.so φ1 H1 ρ σ μ1 d v1 _ (A.mono f1) M1 i1 k1)⟩
def SoSet (t:TSet)(w:D->D->D->MS->(MS->Prop)->Prop):Prop:=∀ φ H o i v dO di d μ K Q,MSis φ H μ->DIs φ H dO o->DIs φ H di i->DIs φ H d v->w dO di d μ K->(∀ μ' H',K μ'->Fr φ H φ H'->MSis φ H' μ'->Q H')->t o i v H Q
def dsetL:D->D->D->MS->(MS->Prop)->Prop:=fun o i d μ K=>match o,i with
 | .mr k,.int j=>opt (lvM μ k) fun ds=>opt (ixN ds.length j) fun n=>K (μ.set k (.lst (ds.set n d)))
 | _,_=>False
theorem so_set:SoSet rSetC dsetL:=fun φ H o i v dO di d μ K Q M hO hi hd w q=>by
 unfold dsetL at w
 split at w
 ·rename_i k j
  obtain⟨ds,em,w⟩:=opt_ex w
  have em:=lvM_eq em
  obtain⟨p,hp,rfl⟩:=hO
  cases(show i=_ from hi)
  obtain⟨p',e1,vs,hv,ha⟩:=M.at_ k _ em
  rw[hp]at e1;cases e1
  obtain⟨n,en,w⟩:=opt_ex w
  refine⟨vs,hv,opt_of (v:=n) (by rw[ha.len];exact en) ?_⟩
  have f:Fr φ H φ (upd H p (.lst (vs.set n v))):=.put (gxD hp)
  exact q _ _ w f (M.put hp ⟨_,upd_same,(ha.set hd n).mono f⟩)
 ·exact w.elim
def dAsgS (w wo wi:De):Ds:=fun N ρ μ=>w ρ μ fun d μ1=>wo ρ μ1 fun o μ2=>wi ρ μ2 fun i μ3=>dsetL o i d μ3 fun μ4=>N.nx ρ μ4
theorem s_asgS {o i:Expr}{w wo wi:De}{pos':Pos}(he:PD X e w)(ho:PD X o wo)(hi:PD X i wi)
 (ha:∀ v,assign (.Subscript o i pos') X.env v=(do
   let ov <- holding [v] (eval o X.env)
   let iv <- holding [v,ov] (eval i X.env)
   standAt pos'
   holding [v,ov,iv] (setItem ov iv v)
   release [v,ov,iv] []):=by intro _;rfl) (hs:swapsWithSole [.Subscript o i pos'] e pos.line X.env=pure false:=by rfl) (hw:swappedStores [.Subscript o i pos'] e X.env=pure none:=by rfl)
 (h1:(assignEach [.Subscript o i pos'] X.env).map (·.2)=[assign (.Subscript o i pos') X.env]:=by rfl):PDS X (.Assign [.Subscript o i pos'] e pos) (dAsgS w wo wi):=(ps_asg he (pg_sub ho hi setC ha) hs hw h1).imp fun E σ H hq=>by
 obtain⟨φ,ρ,μ,N,A,M,w,L⟩:=hq
 refine⟨φ,ρ,μ,_,A,M,w,fun d μ1 φ1 v1 H1 k1 f1 M1 i1=>?_⟩
 refine⟨φ1,ρ,μ1,_,A.mono f1,M1,k1,fun d2 μ2 φ2 v2 H2 k2 f2 M2 i2=>?_⟩
 refine⟨φ2,ρ,μ2,_,A.mono (f1.trans f2),M2,k2,fun d3 μ3 φ3 v3 H3 k3 f3 M3 i3=>?_⟩
 exact so_set φ3 H3 _ _ _ d2 d3 d μ3 _ _ M3 (i2.mono f3) i3 (i1.mono (f2.trans f3)) k3 fun μ' H' k4 f4 M4=>L.nx ρ μ' φ3 σ H' k4 ((f1.trans (f2.trans f3)).trans f4) (A.mono ((f1.trans (f2.trans f3)).trans f4)) M4
def SoIp (t:TIp)(ro:DOp):Prop:=∀ φ H x y dx dy μ K Q,MSis φ H μ->DIs φ H dx x->DIs φ H dy y->ro dx dy μ K->Lif φ H K Q->t x y H Q
def dAug (i:Nat)(w:De)(ro:DOp):Ds:=fun N ρ μ=>match ρ[i]? with | some (some x)=>w ρ μ fun y μ1=>ro x y μ1 fun z μ2=>N.nx (ρ.set i (some z)) μ2 | _=>False
theorem s_aug {i:Nat}{x:Str}{w:De}{op:Operator}{ti:TIp}{ro:DOp}{pos':Pos}(hN:X.N.Nodup)(hi:X.N[i]?=some x)(hx:Loc X.env.scope x)(he:PD X e w)(ho:PIp X op ti)(so:SoIp ti ro)(hf:X.fn x=true\/X.env.scope.names.lookup x=some .local:=by first | exact .inl rfl | exact .inr rfl | assumption) :
 PDS X (.AugAssign (.Name x pos') op e pos) (dAug i w ro):=(ps_aug (pos:=pos) (pos':=pos') hN hi hx he ho hf).imp fun E σ H hq=>by
 obtain⟨φ,ρ,μ,N,A,M,w,L⟩:=hq
 unfold dAug at w
 split at w
 ·rename_i d hd
  obtain⟨v,hv,hdv⟩:=A.2 i d hd
  refine⟨v,hv,φ,ρ,μ,_,A,M,w,fun d1 μ1 φ1 v1 H1 k1 f1 M1 i1=>?_⟩
  exact so φ1 H1 _ _ d d1 μ1 _ _ M1 (hdv.mono f1) i1 k1 fun d2 μ2 φ2 v2 H2 k2 f2 M2 i2=>L.nx _ μ2 φ2 _ H2 k2 (f1.trans f2) ((A.mono (f1.trans f2)).set i2 i) M2
 ·exact w.elim
def dWhile (c:Dt)(b:Ds):Ds:=fun N ρ μ=>∃ W:Nat->DE->MS->Prop,(∃ m,W m ρ μ)/\∀ m ρ μ,W m ρ μ ->
 c ρ μ fun t μ1=>if t=true then b { N with nx:=fun ρ' μ'=>∃ m',m'<m/\W m' ρ' μ',ct:=fun ρ' μ'=>∃ m',m'<m/\W m' ρ' μ',bk:=N.nx} ρ μ1 else N.nx ρ μ1
theorem s_while {c:Expr}{body:List Stmt}{t:Dt}{u:Ds}(hp:PassesOwn (model X.prog X.w) X.A X.env X.xe)(hc:PDT X c t)(hb:PDB X body u):PDS X (.While c body [] pos) (dWhile t u):=(ps_while hp hc hb).imp fun E σ H ⟨φ,ρ,μ,N,A,M,⟨W,⟨m0,w0⟩,turn⟩,L⟩=>by
 refine⟨fun m σ' H'=>∃ φ' ρ' μ',Fr φ H φ' H'/\DEnv φ' H' ρ' σ'/\MSis φ' H' μ'/\W m ρ' μ',⟨m0,φ,ρ,μ,.refl _ _,A,M,w0⟩,?_⟩
 rintro m σ' H' ⟨φ',ρ',μ',f',A',M',w'⟩
 refine⟨φ',ρ',μ',_,A',M',turn m ρ' μ' w',fun b μ1 φ1 H1 k1 f1 M1=>?_⟩
 cases b with
 | true =>
  refine⟨fun σ2 H2=>∃ m',m'<m/\∃ φ2 ρ2 μ2,Fr φ H φ2 H2/\DEnv φ2 H2 ρ2 σ2/\MSis φ2 H2 μ2/\W m' ρ2 μ2,fun σ2 H2 q=>q,φ1,ρ',μ1,_,A'.mono f1,M1,k1,?_⟩
  have nx:LiS φ1 H1 (fun ρ' μ'=>∃ m',m'<m/\W m' ρ' μ') fun σ2 H2=>∃ m',m'<m/\∃ φ2 ρ2 μ2,Fr φ H φ2 H2/\DEnv φ2 H2 ρ2 σ2/\MSis φ2 H2 μ2/\W m' ρ2 μ2:=fun ρ2 μ2 φ2 σ2 H2 ⟨m',hm,w2⟩ f2 A2 M2=>⟨m',hm,φ2,ρ2,μ2,(f'.trans f1).trans f2,A2,M2,w2⟩
  exact⟨nx,L.rt.mono (f'.trans f1),L.nx.mono (f'.trans f1),nx⟩
 | false=>exact L.nx ρ' μ1 φ1 σ' H1 k1 (f'.trans f1) (A'.mono f1) M1
def Wk (J:It)(φ:List Addr)(H:Hp)(ds:List D)(c:MS->Prop):Prop:=∀ φ' H' μ',Fr φ H φ' H'->MSis φ' H' μ'->c μ'->∀ i,
 (∀ d,ds[i]?=some d->J.go i H'/\∀ x H'',J.yld i H' x H''->Fr φ' H' φ' H''/\MSis φ' H'' μ'/\DIs φ' H'' d x)/\(i=ds.length->J.stop i H')
abbrev DI:=DE->MS->(List D->(MS->Prop)->MS->Prop)->Prop
def tDI (w:DI):TI:=fun σ H R=>∃ φ ρ μ K,DEnv φ H ρ σ/\MSis φ H μ/\w ρ μ K/\∀ ds c μ' φ' J H',K ds c μ'->Fr φ H φ' H'->MSis φ' H' μ'->Wk J φ' H' ds c->R J H'
abbrev PDI (X:Cx)(tg iter:Expr)(w:DI):Prop:=PI X tg iter (tDI w)
theorem PI.imp {tg iter:Expr}{t t':TI}(h:PI X tg iter t)(hi:∀ σ H Q,t' σ H Q->t σ H Q):PI X tg iter t':=fun pins s σ H Q I q=>h pins s σ H Q I (hi σ H Q q)
def forW (g:DG)(b:Ds)(N:DN)(c:MS->Prop):List D->DE->MS->Prop
 | [],ρ,μ=>c μ/\N.nx ρ μ
 | d::ds,ρ,μ=>c μ/\g d ρ μ fun ρ2 μ2=>b { N with nx:=fun ρ' μ'=>forW g b N c ds ρ' μ',ct:=fun ρ' μ'=>forW g b N c ds ρ' μ',bk:=N.nx} ρ2 μ2
def dFor (wi:DI)(g:DG)(b:Ds):Ds:=fun N ρ μ=>wi ρ μ fun ds c μ1=>forW g b N c ds ρ μ1
theorem s_for {tg iter:Expr}{body:List Stmt}{wi:DI}{g:TG}{y:DG}{S:List Nat}{u:Ds}(hp:PassesOwn (model X.prog X.w) X.A X.env X.xe)(hc:X.calm=true)(hi:PDI X tg iter wi)(hg:Tg X tg g y S)(hb:PDB X body u)
 (hs:∀ x,foldedSetIterable iter X.env x=pure x:=by intro _;rfl):PDS X (.For tg iter body [] pos) (dFor wi y u):=(ps_for hp hc hi hg.pg hb hs).imp fun E σ H hq=>by
 obtain⟨φ,ρ,μ,N,A,M,w,L⟩:=hq
 refine⟨φ,ρ,μ,_,A,M,w,fun ds c μ1 φ1 J H1 k1 f1 M1 wk=>?_⟩
 refine⟨fun i m σ' H'=>m=ds.length - i/\i<=ds.length/\∃ φ' ρ' μ',Fr φ1 H1 φ' H'/\DEnv φ' H' ρ' σ'/\MSis φ' H' μ'/\forW y u N c (ds.drop i) ρ' μ',⟨ds.length,rfl,Nat.zero_le _,φ1,ρ,μ1,.refl _ _,A.mono f1,M1,k1⟩,?_⟩
 rintro i m σ' H' ⟨rfl,hi,φ',ρ',μ',f',A',M',w'⟩
 by_cases hlt:i<ds.length
 ·rw[List.drop_eq_getElem_cons hlt]at w'
  obtain⟨c',w'⟩:=w'
  obtain⟨go,yld⟩:=(wk φ' H' μ' f' M' c' i).1 ds[i] (gxA hlt)
  refine .inr ⟨go,fun σ2 H2=>∃ φ2 ρ2 μ2,Fr φ1 H1 φ2 H2/\DEnv φ2 H2 ρ2 σ2/\MSis φ2 H2 μ2/\forW y u N c (ds.drop (i+1)) ρ2 μ2,fun σ2 H2 q=>⟨ds.length - (i+1),by omega,rfl,hlt,q⟩,fun x H2 hy=>?_⟩
  obtain⟨f2,M2,i2⟩:=yld x H2 hy
  refine hg.mo _ _ _ _ _ (fun σ3 H3 hq6=>?_) (hg.so φ' H2 ρ' σ' μ' _ x _ (A'.mono f2) M2 i2 w')
  obtain⟨e3,_,_,ρ3,E3,k3⟩:=hq6
  subst e3
  refine⟨φ',ρ3,μ',_,E3,M2,k3,?_⟩
  have nx:LiS φ' H3 (fun ρ' μ'=>forW y u N c (ds.drop (i+1)) ρ' μ') fun σ2 H2=>∃ φ2 ρ2 μ2,Fr φ1 H1 φ2 H2/\DEnv φ2 H2 ρ2 σ2/\MSis φ2 H2 μ2/\forW y u N c (ds.drop (i+1)) ρ2 μ2:=fun ρ2 μ2 φ2 σ2 H2 w2 g2 A2 N2=>⟨φ2,ρ2,μ2,(f'.trans f2).trans g2,A2,N2,w2⟩
  have ff:=f1.trans (f'.trans f2)
  exact⟨nx,L.rt.mono ff,L.nx.mono ff,nx⟩
 ·have e:i=ds.length:=by omega
  subst e
  rw[List.drop_length]at w'
  exact .inl ⟨(wk φ' H' μ' f' M' w'.1 _).2 rfl,L.nx ρ' μ' φ' σ' H' w'.2 (f1.trans f') A' M'⟩
end
def startD (js:List (Option Nat))(ρ:DE):DE:=js.map fun o=>o.bind fun j=>(ρ[j]?).join
theorem DEnv.startC {φ:List Addr}{H:Hp}{ρ:DE}{σ:St}(h:DEnv φ H ρ σ)(js:List (Option Nat)):DEnv φ H (startD js ρ) (startC js σ):=by
 refine⟨by unfold startD L2.startC;rw[gxC,gxC],fun i d e=>?_⟩
 unfold startD at e
 rw[gxH]at e
 unfold L2.startC
 rw[gxH]
 cases q:js[i]? with
 | none=>rw[q]at e;cases e
 | some o =>
  rw[q]at e
  cases o with
  | none=>cases e
  | some j =>
   have e':(ρ[j]?).join=some d:=Option.some.inj e
   have e2:ρ[j]?=some (some d):=by
    cases z:ρ[j]? with
    | none=>rw[z]at e';cases e'
    | some y=>rw[z]at e';have:y=some d:=e';rw[this]
   obtain⟨v,hv,hd⟩:=h.2 j d e2
   refine⟨v,?_,hd⟩
   show some ((σ[j]?).join)=_
   rw[hv];rfl
def dItem (ρ:DE)(y:DG)(t:Dt)(w:De)(d:D)(μ:MS)(K:Option D->MS->Prop):Prop:=y d ρ μ fun ρ2 μ2=>t ρ2 μ2 fun b μ3=>if b=true then w ρ2 μ3 (fun z μ4=>K (some z) μ4)else K none μ3
def compW (it:D->MS->(Option D->MS->Prop)->Prop)(c:MS->Prop):List D->MS->(List D->MS->Prop)->Prop
 | [],μ,K=>c μ/\K [] μ
 | d::ds,μ,K=>c μ/\it d μ fun o μ1=>compW it c ds μ1 fun ys μ2=>K (o.toList++ys) μ2
def ownJs (S:List Nat)(js:List (Option Nat)):Bool:=S.all fun i=>js[i]?==some none
theorem ext_of {js:List (Option Nat)}{σ σ2:St}{S:List Nat}(ho:ownJs S js=true)(hl:σ2.length=(startC js σ).length)(hn:∀ i,i∉S->σ2[i]?=(startC js σ)[i]?):Ext (startC js σ) σ2:=by
 refine⟨hl.symm,fun i v e=>?_⟩
 by_cases hi:i∈S
 ·have q:=List.all_eq_true.mp ho i hi
  have q':js[i]?=some none:=by simpa using q
  obtain⟨j,e1,_⟩:=getStart e
  rw[q']at e1;cases e1
 ·rw[hn i hi];exact e
def dComp (m:Bool)(wi:DI)(js:List (Option Nat))(y:DG)(t:Dt)(w:De):De:=fun ρ μ K=>wi ρ μ fun ds c μ1=>ds.length<=sizeLine/\compW (dItem (startD js ρ) y t w) c ds μ1 fun ys μ2=>nL m ys μ2 K
theorem tD_comp {m:Bool}{wi:DI}{js:List (Option Nat)}{g:TG}{y:DG}{S:List Nat}{t:Dt}{w:De}(so:SoG g y S)(mo:MonoG g)(ho:ownJs S js=true){σ:St}{H:Hp}{Q:VK}(h:tD (dComp m wi js y t w) σ H Q):tComp (tDI wi) js g (tDT t) (tD w) σ H Q:=by
 obtain⟨φ,ρ,μ,K,A,M,k,L⟩:=h
 refine⟨φ,ρ,μ,_,A,M,k,fun ds c μ1 φ1 J H1 k1 f1 M1 wk=>?_⟩
 obtain⟨hz,k1⟩:=k1
 refine⟨fun i n ys H'=>n=ds.length - i/\i<=ds.length/\ys.length<=i/\∃ φ' zs μ',Fr φ1 H1 φ' H'/\DAll φ' H' zs ys/\MSis φ' H' μ'/\compW (dItem (startD js ρ) y t w) c (ds.drop i) μ' fun r μ2=>nL m (zs++r) μ2 K,
  ⟨ds.length,rfl,Nat.zero_le _,Nat.zero_le _,φ1,[],μ1,.refl _ _,rfl,M1,k1⟩,?_⟩
 rintro i n ys H' ⟨rfl,hi,hy,φ',zs,μ',f',Z',M',w'⟩
 by_cases hlt:i<ds.length
 ·rw[List.drop_eq_getElem_cons hlt]at w'
  obtain⟨c',w'⟩:=w'
  obtain⟨go,yld⟩:=(wk φ' H' μ' f' M' c' i).1 ds[i] (gxA hlt)
  refine .inr ⟨go,fun x H2 hy2=>?_⟩
  obtain⟨f2,M2,i2⟩:=yld x H2 hy2
  have E2:DEnv φ' H2 (startD js ρ) (startC js σ):=((A.mono (f1.trans (f'.trans f2))).startC js)
  refine mo _ _ _ _ _ (fun σ3 H3 hq0=>?_) (so φ' H2 _ _ μ' _ x _ E2 M2 i2 w')
  obtain⟨e3,l3,n3,ρ3,E3,k3⟩:=hq0
  refine⟨ext_of ho l3 n3,?_⟩
  subst e3
  refine⟨φ',ρ3,μ',_,E3,M2,k3,fun b μ4 φ4 H4 k4 f4 M4=>?_⟩
  have ff:=f'.trans (f2.trans f4)
  cases b with
  | true =>
   refine⟨φ4,ρ3,μ4,_,E3.mono f4,M4,k4,fun d5 μ5 φ5 v5 H5 k5 f5 M5 i5=>⟨by omega,ds.length - (i+1),by omega,rfl,hlt,by rw[gxE,List.length_singleton];omega,φ5,zs++[d5],μ5,ff.trans f5,(Z'.mono (f2.trans (f4.trans f5))).app ⟨v5,[],rfl,i5,rfl⟩,M5,?_⟩⟩
   have e:(fun r μ2=>nL m (zs++[d5]++r) μ2 K)=fun r μ2=>nL m (zs++((some d5).toList++r)) μ2 K:=by funext r μ2;rw[List.append_assoc];rfl
   rw[e]
   exact k5
  | false =>
   exact⟨ds.length - (i+1),by omega,rfl,hlt,by omega,φ4,zs,μ4,ff,Z'.mono (f2.trans f4),M4,k4⟩
 ·have e:i=ds.length:=by omega
  subst e
  rw[List.drop_length]at w'
  refine .inl ⟨(wk φ' H' μ' f' M' w'.1 _).2 rfl,fun p hp=>?_⟩
  have q:nL m (zs++[]) μ' K:=w'.2
  rw[List.append_nil]at q
  exact al_n (L.mono (f1.trans f')) M' Z' q hp
section
variable {X:Cx}{a b e:Expr}{es:List Expr}{pos:Pos}
variable {N:List Str}{js:List (Option Nat)}{sc:Scope}{tg elt iter:Expr}{ifs:List Expr}{g:TG}{y:DG}{S:List Nat}{t:Dt}{w:De}
abbrev PDTs (X:Cx)(ifs:List Expr)(t:Dt):Prop:=PTs X ifs (tDT t)
theorem PTs.imp {ifs:List Expr}{t t':TT}(h:PTs X ifs t)(hi:∀ σ H Q,t' σ H Q->t σ H Q):PTs X ifs t':=fun pins s σ H Q I q=>h pins s σ H Q I (hi σ H Q q)
def dYes:Dt:=fun _ μ K=>K true μ
theorem ts_nil:PDTs X [] dYes:=pts_nil.imp fun σ H Q hq1=>by obtain⟨φ,ρ,μ,K,A,M,k,L⟩:=hq1;exact L true μ φ H k (.refl _ _) M
theorem ts_one {c:Expr}(h:PDT X c t):PDTs X [c] t:=pts_one h
theorem d_comp (m:Bool){wi:DI}(hc:CompOk X N js sc)(calm:X.calm=true)(so:SoG g y S)(mo:MonoG g)(ho:ownJs S js=true)(hi:PDI X tg iter wi)(hg:∀ fp s H,PG (cxC X N sc fp s H) tg g)(ht:∀ fp s H,PDTs (cxC X N sc fp s H) ifs t)(he:∀ fp s H,PD (cxC X N sc fp s H) elt w)
 (hs:∀ x,foldedSetIterable iter X.env x=pure x:=by intro _;rfl):PD X (.ListComp elt [⟨tg,iter,ifs,0⟩] sc pos) (dComp m wi js y t w):=(pe_comp hc calm hi hg ht he hs).imp fun σ H Q q=>tD_comp so mo ho q
theorem s_setComp (m:Bool){wi:DI}{pos' spos:Pos}{i:Nat}{x:Str}(hc:CompOk X N js sc)(calm:X.calm=true)(so:SoG g y S)(mo:MonoG g)(ho:ownJs S js=true)(hN:X.N.Nodup)(hx':X.N[i]?=some x)(hx:Loc X.env.scope x)(hi:PDI X tg iter wi)(hg:∀ fp s H,PG (cxC X N sc fp s H) tg g)
 (ht:∀ fp s H,PDTs (cxC X N sc fp s H) ifs t) (he:∀ fp s H,PD (cxC X N sc fp s H) elt w) (hsw:swapsWith (.ListComp elt [⟨tg,iter,ifs,0⟩] sc pos) (some (.Name x pos')) spos.line X.env=pure true:=by rfl)
 (hs:∀ x,foldedSetIterable iter X.env x=pure x:=by intro _;rfl) (hf:X.fn x=true\/X.env.scope.names.lookup x=some .local:=by first | exact .inl rfl | exact .inr rfl | assumption) :
 PDS X (.Assign [.Name x pos'] (.ListComp elt [⟨tg,iter,ifs,0⟩] sc pos) spos) (dSet i (dComp m wi js y t w)):=(ps_setComp hc calm hN hx' hx hi hg ht he hsw hs hf).imp fun E σ H ⟨φ,ρ,μ,N,A,M,w,L⟩ =>
 tD_comp so mo ho ⟨φ,ρ,μ,_,A,M,w,fun d μ1 φ1 v1 H1 k1 f1 M1 i1=>L.nx _ μ1 φ1 _ H1 k1 f1 ((A.mono f1).set i1 i) M1⟩
def dItL (w:De):DI:=fun ρ μ K=>w ρ μ fun d μ1=>opt (lv μ1 d) fun ds=>K ds (lc d ds) μ1
theorem wk_list {Kf:PySem.W.Frag}{p:Addr}{φ:List Addr}{H:Hp}{ds:List D}{c:MS->Prop}(h:∀ φ' H' μ',Fr φ H φ' H'->MSis φ' H' μ'->c μ'->∃ vs,H' p=some (.lst vs)/\DAll φ' H' ds vs):Wk (Itl Kf p) φ H ds c:=fun φ' H' μ' f M c' i=>by
 obtain⟨vs,hp,ha⟩:=h φ' H' μ' f M c'
 refine⟨fun d hd=>?_,fun hi=>⟨vs,SqL.of hp,by rw[ha.len,hi];exact Nat.le_refl _⟩⟩
 obtain⟨v,hv,hi⟩:=ha.get hd
 refine⟨⟨vs,v,SqL.of hp,hv⟩,fun x H'' hy=>?_⟩
 obtain⟨rfl,hy⟩:=hy
 have e:=hy vs (SqL.of hp)
 rw[hv]at e;cases e
 exact⟨.refl _ _,M,hi⟩
theorem i_list {w:De}(h:PD X a w):PDI X tg a (dItL w):=(pi_list h).imp fun σ H Q hq=>by
 obtain⟨φ,ρ,μ,K,A,M,k,L⟩:=hq
 refine⟨φ,ρ,μ,_,A,M,k,fun d μ1 φ1 v1 H1 k1 f1 M1 i1=>?_⟩
 obtain⟨ds,el,k1⟩:=opt_ex k1
 obtain⟨p,vs,rfl,hp,ha⟩:=lv_is M1 i1 el
 exact⟨p,rfl,⟨vs,SqL.of hp⟩,L ds _ μ1 φ1 _ H1 k1 f1 M1 (wk_list fun φ' H' μ' f M c=>lv_stay M1 i1 el f M c)⟩
def dItT (w:De):DI:=fun ρ μ K=>w ρ μ fun d μ1=>match d with
 | .tup ds=>K ds (fun _=>True) μ1
 | _=>False
theorem i_tup {w:De}(h:PD X a w):PDI X tg a (dItT w):=(pi_tup h).imp fun σ H Q hq=>by
 obtain⟨φ,ρ,μ,K,A,M,k,L⟩:=hq
 refine⟨φ,ρ,μ,_,A,M,k,fun d μ1 φ1 v1 H1 k1 f1 M1 i1=>?_⟩
 split at k1
 ·rename_i ds
  obtain⟨p,vs,rfl,hn,hp,ha⟩:=i1
  refine⟨p,rfl,⟨vs,SqT.of hp⟩,L ds _ μ1 φ1 _ H1 k1 f1 M1 fun φ' H' μ' f M c' i=>?_⟩
  have hp':=f.keep _ _ hn hp
  have ha':=ha.mono f
  refine⟨fun d hd=>?_,fun hi=>⟨vs,SqT.of hp',by rw[ha'.len,hi];exact Nat.le_refl _⟩⟩
  obtain⟨v,hv,hi⟩:=ha'.get hd
  refine⟨⟨vs,v,SqT.of hp',hv⟩,fun x H'' hy=>?_⟩
  obtain⟨rfl,hy⟩:=hy
  have e:=hy vs (SqT.of hp')
  rw[hv]at e;cases e
  exact⟨.refl _ _,M,hi⟩
 ·exact k1.elim
def rngD (lo:Int)(n:Nat):List D:=(List.range n).map fun i=>D.int (lo+(i:Nat))
theorem wk_range {lo:Int}{n:Nat}{φ:List Addr}{H:Hp}:Wk (Itr lo n) φ H (rngD lo n) fun _=>True:=fun φ' H' μ' f M _ i=>by
 have hl:(rngD lo n).length=n:=by unfold rngD;rw[gxC,gxJ]
 refine⟨fun d hd=>?_,fun hi=>by rw[hl]at hi;exact Nat.le_of_eq hi.symm⟩
 have hi:i<n:=by have:=(gxB hd).1;omega
 refine⟨hi,fun x H'' hy=>?_⟩
 obtain⟨rfl,rfl⟩:=hy
 refine⟨.refl _ _,M,?_⟩
 unfold rngD at hd
 rw[gxH,List.getElem?_range hi]at hd
 cases hd
 rfl
def dItR1 (w:DA):DI:=fun ρ μ K=>w ρ μ fun ds μ1=>match ds with
 | [.int j] => -(2 ^ 62)<=j/\j<2 ^ 62/\K (rngD 0 j.toNat) (fun _=>True) μ1
 | _=>False
def dItR2 (w:DA):DI:=fun ρ μ K=>w ρ μ fun ds μ1=>match ds with
 | [.int i,.int j]=>(-(2 ^ 62)<=i/\i<2 ^ 62 /\ -(2 ^ 62)<=j/\j<2 ^ 62)/\K (rngD i (j - i).toNat) (fun _=>True) μ1
 | _=>False
theorem i_range1 {w:DA}{p:Pos}(hg:Gl X "range")(hm:X.mg "range"=none)(ha:PDA X [a] w)(hs:starEach [a] X.env=[(false,eval a X.env)]:=by rfl):PDI X tg (.Call (.Name "range" p) [a] [] pos) (dItR1 w):=(pi_range1 hg hm ha hs).imp fun σ H Q hq=>by
 obtain⟨φ,ρ,μ,K,A,M,k,L⟩:=hq
 refine⟨φ,ρ,μ,_,A,M,k,fun ds μ1 φ1 vs H1 k1 f1 M1 i1=>?_⟩
 split at k1
 ·obtain⟨v,r,rfl,h1,h2⟩:=i1
  cases(show v=_ from h1);cases(show r=[]from h2)
  exact⟨_,rfl,k1.1,k1.2.1,L _ _ μ1 φ1 _ H1 k1.2.2 f1 M1 wk_range⟩
 ·exact k1.elim
theorem i_range2 {w:DA}{p:Pos}(hg:Gl X "range")(hm:X.mg "range"=none)(ha:PDA X [a,b] w)(hs:starEach [a,b] X.env=[(false,eval a X.env),(false,eval b X.env)]:=by rfl)(hs2:starEach [b] X.env=[(false,eval b X.env)]:=by rfl):PDI X tg (.Call (.Name "range" p) [a,b] [] pos) (dItR2 w):=(pi_range2 hg hm ha hs hs2).imp fun σ H Q hq=>by
 obtain⟨φ,ρ,μ,K,A,M,k,L⟩:=hq
 refine⟨φ,ρ,μ,_,A,M,k,fun ds μ1 φ1 vs H1 k1 f1 M1 i1=>?_⟩
 split at k1
 ·obtain⟨v,r,rfl,h1,u,r',rfl,h2,h3⟩:=i1
  cases(show v=_ from h1);cases(show u=_ from h2);cases(show r'=[]from h3)
  exact⟨_,_,rfl,k1.1,L _ _ μ1 φ1 _ H1 k1.2 f1 M1 wk_range⟩
 ·exact k1.elim
def dItS (w:De):DI:=fun ρ μ K=>w ρ μ fun d μ1=>match d with
 | .str z=>K (z.cps.toList.map fun c=>D.str ⟨#[c]⟩) (fun _=>True) μ1
 | _=>False
theorem i_str {w:De}(h:PD X a w):PDI X tg a (dItS w):=(pi_str h).imp fun σ H Q hq=>by
 obtain⟨φ,ρ,μ,K,A,M,k,L⟩:=hq
 refine⟨φ,ρ,μ,_,A,M,k,fun d μ1 φ1 v1 H1 k1 f1 M1 i1=>?_⟩
 split at k1
 ·rename_i z
  cases(show v1=_ from i1)
  refine⟨z,rfl,L _ _ μ1 φ1 _ H1 k1 f1 M1 fun φ' H' μ' f M _ i=>⟨fun d hd=>?_,fun hi=>by rw[gxC]at hi;exact hi⟩⟩
  have hi:i<z.cps.toList.length:=by have:=(gxB hd).1;rwa [gxC]at this
  refine⟨hi,fun x H'' hy=>?_⟩
  obtain⟨rfl,c,hc,rfl⟩:=hy
  rw[gxH,hc]at hd
  cases hd
  exact⟨.refl _ _,M,rfl⟩
 ·exact k1.elim
end
mutual
def mrB (n:Nat):D->Prop
 | .lst ds=>mrL n ds
 | .tup ds=>mrL n ds
 | .dic _ ds=>mrL n ds
 | .mr k=>k<n
 | .obj _ _ ds=>mrL n ds
 | .fdc _ ds=>mrL n ds
 | _=>True
def mrL (n:Nat):List D->Prop
 | []=>True
 | d::ds=>mrB n d/\mrL n ds
end
def moB (n:Nat):MO->Prop
 | .box=>True
 | .lst ds=>mrL n ds
 | .dic _ ds=>mrL n ds
 | .fdic _ _ ds=>mrL n ds
 | .ins _ _ ds=>mrL n ds
 | .dtu _ ds=>mrL n ds
 | .gx φ0 _=>φ0.length<=n
 | .exc _=>True
theorem Fr.takeN {φ0 φ:List Addr}{H0 H:Hp}{n:Nat}(f:Fr φ0 H0 φ H)(h:φ0.length<=n):Fr φ0 H0 (φ.take n) H:=by
 obtain⟨⟨ψ,rfl,hψ⟩,k,d⟩:=f
 exact⟨⟨ψ.take (n - φ0.length),by rw[List.take_append,List.take_of_length_le h],fun c hc=>hψ c (List.mem_of_mem_take hc)⟩,k,d⟩
theorem Fr.late {φ0 φ:List Addr}{H0 H:Hp}{j:Nat}{p:Addr}(f:Fr φ0 H0 φ H)(h:φ0.length<=j)(hp:φ[j]?=some p):H0 p=none:=by
 obtain⟨⟨ψ,rfl,hψ⟩,k,d⟩:=f
 rw[gxG h]at hp
 exact hψ p (gxD hp)
theorem Fr.takeP {φ0 φ:List Addr}{H0 H:Hp}{n:Nat}{p:Addr}(f:Fr φ0 H0 φ H)(h:φ0.length<=n)(hp:H0 p=none):Fr φ0 H0 (φ.take n++[p]) H:=by
 obtain⟨⟨ψ,e,hψ⟩,k,d⟩:=f.takeN h
 exact⟨⟨ψ++[p],by rw[e,List.append_assoc],fun c hc=>by rcases List.mem_append.mp hc with z | z;exact hψ c z;rw[List.mem_singleton.mp z];exact hp⟩,k,d⟩
mutual
theorem DIs.cutT {n:Nat}{φ:List Addr}{H:Hp}:∀ {d:D} {v:V},mrB n d->DIs φ H d v->DIs (φ.take n) H d v
 | .non,_,_,h=>h
 | .bl _,_,_,h=>h
 | .int _,_,_,h=>h
 | .str _,_,_,h=>h
 | .lst _,_,m,h=>by obtain⟨p,vs,e,nn,hp,q⟩:=h;exact⟨p,vs,e,fun z=>nn (List.mem_of_mem_take z),hp,DAll.cutT m q⟩
 | .tup _,_,m,h=>by obtain⟨p,vs,e,nn,hp,q⟩:=h;exact⟨p,vs,e,fun z=>nn (List.mem_of_mem_take z),hp,DAll.cutT m q⟩
 | .dic _ _,_,m,h=>by obtain⟨p,kvs,vs,e,nn,hp,q1,q2,q⟩:=h;exact⟨p,kvs,vs,e,fun z=>nn (List.mem_of_mem_take z),hp,q1,q2,DAll.cutT m q⟩
 | .mr k,_,m,h=>by obtain⟨p,e,q⟩:=h;exact⟨p,by rw[List.getElem?_take_of_lt m];exact e,q⟩
 | .obj _ _ _,_,m,h=>by obtain⟨p,dx,fs,vs,e,nn,hp,q1,q2,q⟩:=h;exact⟨p,dx,fs,vs,e,fun z=>nn (List.mem_of_mem_take z),hp,q1,q2,DAll.cutT m q⟩
 | .fdc _ _,_,m,h=>by obtain⟨p,dx,fs,vs,e,nn,hp,q1,q2,q⟩:=h;exact⟨p,dx,fs,vs,e,fun z=>nn (List.mem_of_mem_take z),hp,q1,q2,DAll.cutT m q⟩
 | .fn _,_,_,h=>h
theorem DAll.cutT {n:Nat}{φ:List Addr}{H:Hp}:∀ {ds:List D} {vs:List V},mrL n ds->DAll φ H ds vs->DAll (φ.take n) H ds vs
 | [],_,_,h=>h
 | _::_,_,m,h=>by obtain⟨v,r,e,h1,h2⟩:=h;exact⟨v,r,e,DIs.cutT m.1 h1,DAll.cutT m.2 h2⟩
end
theorem MSis.cutT {n:Nat}{φ:List Addr}{H:Hp}{μ:MS}(h:MSis φ H μ)(hm:∀(k:Nat) (m:MO),k<n->μ[k]?=some m->moB n m):MSis (φ.take n) H (μ.take n):=by
 refine⟨h.nd.sublist (List.take_sublist _ _),by rw[List.length_take,List.length_take,h.len],fun k m e=>?_⟩
 have hk:k<n:=by have:=(gxB e).1;rw[List.length_take]at this;omega
 rw[List.getElem?_take_of_lt hk]at e
 obtain⟨p,e1,e2⟩:=h.at_ k m e
 refine⟨p,by rw[List.getElem?_take_of_lt hk];exact e1,?_⟩
 have hb:=hm k m hk e
 cases m with
 | box=>obtain⟨q,ns,i,r,z,h1,h2,h3,h4⟩:=e2;exact⟨q,ns,i,r,z,h1,h2,fun z=>h3 (List.mem_of_mem_take z),h4⟩
 | lst ds=>obtain⟨vs,h1,h2⟩:=e2;exact⟨vs,h1,h2.cutT hb⟩
 | dic ks ds=>obtain⟨kvs,vs,h1,h2,h3,h4⟩:=e2;exact⟨kvs,vs,h1,h2,h3,h4.cutT hb⟩
 | fdic o kvs ds=>exact⟨e2.1,e2.2.cutT hb⟩
 | ins C ns ds=>obtain⟨dx,fs,h1,h2,h3⟩:=e2;exact⟨dx,fs,h1,h2,h3.cutT hb⟩
 | dtu ks ds=>obtain⟨kvs,h1,h2,h3⟩:=e2;exact⟨kvs,h1,h2,h3.cutT hb⟩
 | gx φ0 H0=>exact⟨e2.1.takeN hb,e2.2⟩
 | exc c=>exact e2
mutual
theorem DIs.bound {φ:List Addr}{H:Hp}:∀ {d:D} {v:V},DIs φ H d v->mrB φ.length d
 | .non,_,_=>True.intro
 | .bl _,_,_=>True.intro
 | .int _,_,_=>True.intro
 | .str _,_,_=>True.intro
 | .lst _,_,h=>by obtain⟨p,vs,e,nn,hp,q⟩:=h;exact DAll.bound q
 | .tup _,_,h=>by obtain⟨p,vs,e,nn,hp,q⟩:=h;exact DAll.bound q
 | .dic _ _,_,h=>by obtain⟨p,kvs,vs,e,nn,hp,q1,q2,q⟩:=h;exact DAll.bound q
 | .mr k,_,h=>by obtain⟨p,e,q⟩:=h;exact(gxB e).1
 | .obj _ _ _,_,h=>by obtain⟨p,dx,fs,vs,e,nn,hp,q1,q2,q⟩:=h;exact DAll.bound q
 | .fdc _ _,_,h=>by obtain⟨p,dx,fs,vs,e,nn,hp,q1,q2,q⟩:=h;exact DAll.bound q
 | .fn _,_,_=>True.intro
theorem DAll.bound {φ:List Addr}{H:Hp}:∀ {ds:List D} {vs:List V},DAll φ H ds vs->mrL φ.length ds
 | [],_,_=>True.intro
 | _::_,_,h=>by obtain⟨v,r,e,h1,h2⟩:=h;exact⟨DIs.bound h1,DAll.bound h2⟩
end
theorem MSis.bound {φ:List Addr}{H:Hp}{μ:MS}(h:MSis φ H μ):∀(k:Nat) (m:MO),μ[k]?=some m->moB μ.length m:=fun k m e=>by
 obtain⟨p,e1,e2⟩:=h.at_ k m e
 rw[<- h.len]
 cases m with
 | box=>exact True.intro
 | lst ds=>obtain⟨vs,h1,h2⟩:=e2;exact h2.bound
 | dic ks ds=>obtain⟨kvs,vs,h1,h2,h3,h4⟩:=e2;exact h4.bound
 | fdic o kvs ds=>exact e2.2.bound
 | ins C ns ds=>obtain⟨dx,fs,h1,h2,h3⟩:=e2;exact h3.bound
 | dtu ks ds=>obtain⟨kvs,h1,h2,h3⟩:=e2;exact h3.bound
 | gx φ0 H0=>obtain⟨⟨ψ,e,_⟩,_⟩:=e2.1;show φ0.length<=φ.length;rw[e,gxE];omega
 | exc c=>exact True.intro
theorem notin_addP {n:Nat}{φ':List Addr}{p q:Addr}(hp:p∈φ')(h:q∉φ'):q∉φ'.take n++[p]:=fun z=>by
 rcases List.mem_append.mp z with z | z
 ·exact h (List.mem_of_mem_take z)
 ·exact h (by rw[List.mem_singleton.mp z];exact hp)
mutual
theorem DIs.addP {n:Nat}{φ':List Addr}{H:Hp}{p:Addr}(hp:p∈φ'):∀ {d:D} {v:V},mrB n d->DIs φ' H d v->DIs (φ'.take n++[p]) H d v
 | .non,_,_,h=>h
 | .bl _,_,_,h=>h
 | .int _,_,_,h=>h
 | .str _,_,_,h=>h
 | .lst _,_,m,h=>by obtain⟨q,vs,e,nn,hq,z⟩:=h;exact⟨q,vs,e,notin_addP hp nn,hq,DAll.addP' hp m z⟩
 | .tup _,_,m,h=>by obtain⟨q,vs,e,nn,hq,z⟩:=h;exact⟨q,vs,e,notin_addP hp nn,hq,DAll.addP' hp m z⟩
 | .dic _ _,_,m,h=>by obtain⟨q,kvs,vs,e,nn,hq,q1,q2,z⟩:=h;exact⟨q,kvs,vs,e,notin_addP hp nn,hq,q1,q2,DAll.addP' hp m z⟩
 | .mr k,_,m,h=>by
  obtain⟨q,e,z⟩:=h
  have hk:k<(φ'.take n).length:=by rw[List.length_take];have:=(gxB e).1;have m':k<n:=m;omega
  exact⟨q,by rw[gxF hk,List.getElem?_take_of_lt m];exact e,z⟩
 | .obj _ _ _,_,m,h=>by obtain⟨q,dx,fs,vs,e,nn,hq,q1,q2,z⟩:=h;exact⟨q,dx,fs,vs,e,notin_addP hp nn,hq,q1,q2,DAll.addP' hp m z⟩
 | .fdc _ _,_,m,h=>by obtain⟨q,dx,fs,vs,e,nn,hq,q1,q2,z⟩:=h;exact⟨q,dx,fs,vs,e,notin_addP hp nn,hq,q1,q2,DAll.addP' hp m z⟩
 | .fn _,_,_,h=>h
theorem DAll.addP' {n:Nat}{φ':List Addr}{H:Hp}{p:Addr}(hp:p∈φ'):∀ {ds:List D} {vs:List V},mrL n ds->DAll φ' H ds vs->DAll (φ'.take n++[p]) H ds vs
 | [],_,_,h=>h
 | _::_,_,m,h=>by obtain⟨v,r,e,h1,h2⟩:=h;exact⟨v,r,e,DIs.addP hp m.1 h1,DAll.addP' hp m.2 h2⟩
end
def All2 (R:D->D->Prop)(ds es:List D):Prop:=ds.length=es.length/\∀(i:Nat) (a b:D),ds[i]?=some a->es[i]?=some b->R a b
def FrzR (n:Nat)(μ:MS):Nat->D->D->Prop
 | 0,d,d'=>d'=d/\mrB n d
 | k+1,d,d'=>(d'=d/\mrB n d)\/(∃ j ds es,d=.mr j/\n<=j/\μ[j]?=some (.lst ds)/\d'=.lst es/\All2 (FrzR n μ k) ds es)\/(∃ ds es,d=.lst ds/\d'=.lst es/\All2 (FrzR n μ k) ds es)\/(∃ ds es,d=.tup ds/\d'=.tup es/\All2 (FrzR n μ k) ds es)\/(∃ j ks ds es,d=.mr j/\n<=j/\μ[j]?=some (.dic ks ds)/\d'=.dic ks es/\All2 (FrzR n μ k) ds es)
theorem DAll.ofGet {φ:List Addr}{H:Hp}:∀ {ds:List D} {vs:List V},ds.length=vs.length->(∀(i:Nat) (d:D) (v:V),ds[i]?=some d->vs[i]?=some v->DIs φ H d v)->DAll φ H ds vs
 | [],vs,hl,_=>by cases vs with
  | nil=>rfl
  | cons v r=>simp at hl
 | d::ds,vs,hl,h=>by cases vs with
  | nil=>simp at hl
  | cons v r=>exact⟨v,r,rfl,h 0 d v rfl rfl,DAll.ofGet (by simpa using hl) fun i a b e1 e2=>h (i+1) a b (by simpa using e1) (by simpa using e2)⟩
theorem FrzR.is {n:Nat}{φ:List Addr}{H:Hp}{μ:MS}(M:MSis φ H μ)(nin:∀ {j:Nat} {p:Addr},n<=j->φ[j]?=some p->p∉φ.take n):∀ {k:Nat} {d d':D} {v:V},FrzR n μ k d d'->DIs φ H d v->DIs (φ.take n) H d' v:=by
 intro k
 induction k with
 | zero=>intro d d' v h i;obtain⟨rfl,hb⟩:=h;exact i.cutT hb
 | succ k ih =>
  have all:∀ {ds es:List D} {vs:List V},All2 (FrzR n μ k) ds es->DAll φ H ds vs->DAll (φ.take n) H es vs:=fun {ds es vs} ha hd =>
   DAll.ofGet (by rw[hd.len,ha.1]) fun i b v e1 e2=>by
    obtain⟨a,e3,hv⟩:=hd.getV e2
    exact ih (ha.2 i a b e3 e1) hv
  intro d d' v h i
  rcases h with⟨rfl,hb⟩ | ⟨j,ds,es,rfl,hj,e,rfl,ha⟩ | ⟨ds,es,rfl,rfl,ha⟩ | ⟨ds,es,rfl,rfl,ha⟩ | ⟨j,ks,ds,es,rfl,hj,e,rfl,ha⟩
  ·exact i.cutT hb
  ·obtain⟨p,hp,rfl⟩:=i
   obtain⟨p',e1,vs,hv,hd⟩:=M.at_ j _ e
   rw[hp]at e1;cases e1
   exact⟨p,vs,rfl,nin hj hp,hv,all ha hd⟩
  ·obtain⟨p,vs,rfl,hn,hp,hd⟩:=i
   exact⟨p,vs,rfl,fun z=>hn (List.mem_of_mem_take z),hp,all ha hd⟩
  ·obtain⟨p,vs,rfl,hn,hp,hd⟩:=i
   exact⟨p,vs,rfl,fun z=>hn (List.mem_of_mem_take z),hp,all ha hd⟩
  ·obtain⟨p,hp,rfl⟩:=i
   obtain⟨p',e1,kvs,vs,hv,h1,h2,hd⟩:=M.at_ j _ e
   rw[hp]at e1;cases e1
   exact⟨p,kvs,vs,rfl,nin hj hp,hv,h1,h2,all ha hd⟩
def FrzQ (n:Nat)(μ:MS):Nat->D->D->Prop
 | 0,d,d'=>d'=d/\mrB n d
 | k+1,d,d'=>(d'=d/\mrB n d)\/(∃ j ds es,d=.mr j/\n<=j/\μ[j]?=some (.lst ds)/\d'=.lst es/\All2 (FrzQ n μ k) ds es)\/(∃ ds es,d=.lst ds/\d'=.lst es/\All2 (FrzQ n μ k) ds es)\/(∃ ds es,d=.tup ds/\d'=.tup es/\All2 (FrzQ n μ k) ds es)\/(∃ j o kvs ds es,d=.mr j/\n<=j/\μ[j]?=some (.fdic o kvs ds)/\d'=.fdc (kvs.map (·.1)) es/\All2 (FrzQ n μ k) ds es)\/(∃ j C ns ds es,d=.mr j/\n<=j/\μ[j]?=some (.ins C ns ds)/\d'=.obj C ns es/\All2 (FrzQ n μ k) ds es)
theorem FrzQ.is {n:Nat}{φ:List Addr}{H:Hp}{μ:MS}(M:MSis φ H μ)(nin:∀ {j:Nat} {p:Addr},n<=j->φ[j]?=some p->p∉φ.take n):∀ {k:Nat} {d d':D} {v:V},FrzQ n μ k d d'->DIs φ H d v->DIs (φ.take n) H d' v:=by
 intro k
 induction k with
 | zero=>intro d d' v h i;obtain⟨rfl,hb⟩:=h;exact i.cutT hb
 | succ k ih =>
  have all:∀ {ds es:List D} {vs:List V},All2 (FrzQ n μ k) ds es->DAll φ H ds vs->DAll (φ.take n) H es vs:=fun {ds es vs} ha hd =>
   DAll.ofGet (by rw[hd.len,ha.1]) fun i b v e1 e2=>by
    obtain⟨a,e3,hv⟩:=hd.getV e2
    exact ih (ha.2 i a b e3 e1) hv
  intro d d' v h i
  rcases h with⟨rfl,hb⟩ | ⟨j,ds,es,rfl,hj,e,rfl,ha⟩ | ⟨ds,es,rfl,rfl,ha⟩ | ⟨ds,es,rfl,rfl,ha⟩ | ⟨j,o,kvs,ds,es,rfl,hj,e,rfl,ha⟩ | ⟨j,C,ns,ds,es,rfl,hj,e,rfl,ha⟩
  ·exact i.cutT hb
  ·obtain⟨p,hp,rfl⟩:=i
   obtain⟨p',e1,vs,hv,hd⟩:=M.at_ j _ e
   rw[hp]at e1;cases e1
   exact⟨p,vs,rfl,nin hj hp,hv,all ha hd⟩
  ·obtain⟨p,vs,rfl,hn,hp,hd⟩:=i
   exact⟨p,vs,rfl,fun z=>hn (List.mem_of_mem_take z),hp,all ha hd⟩
  ·obtain⟨p,vs,rfl,hn,hp,hd⟩:=i
   exact⟨p,vs,rfl,fun z=>hn (List.mem_of_mem_take z),hp,all ha hd⟩
  ·obtain⟨p,hp,rfl⟩:=i
   obtain⟨p',e1,hv,hd⟩:=M.at_ j _ e
   rw[hp]at e1;cases e1
   exact⟨p,o,kvs,_,rfl,nin hj hp,hv,rfl,rfl,all ha hd⟩
  ·obtain⟨p,hp,rfl⟩:=i
   obtain⟨p',e1,dx,fs,hv,h1,hd⟩:=M.at_ j _ e
   rw[hp]at e1;cases e1
   exact⟨p,dx,fs,_,rfl,nin hj hp,hv,h1,rfl,all ha hd⟩
inductive Fz (n:Nat)(K:DK):DK where
 | keep {d μ} (k:K d μ):Fz n K d μ
 | drop {d μ} (hd:mrB n d) (hm:∀(j:Nat) (m:MO),j<n->μ[j]?=some m->moB n m) (k:K d (μ.take n)):Fz n K d μ
 | lst {j ds μ} (hj:n<=j) (e:μ[j]?=some (.lst ds)) (hd:mrL n ds) (hm:∀(j:Nat) (m:MO),j<n->μ[j]?=some m->moB n m) (k:K (.lst ds) (μ.take n)):Fz n K (.mr j) μ
 | one {j ds μ} (hj:n<=j) (e:μ[j]?=some (.lst ds)) (hd:mrL n ds) (hm:∀(j:Nat) (m:MO),j<n->μ[j]?=some m->moB n m) (k:K (.mr n) (μ.take n++[.lst ds])):Fz n K (.mr j) μ
 | deep {f d d' μ} (e:FrzR n μ f d d') (hm:∀(j:Nat) (m:MO),j<n->μ[j]?=some m->moB n m) (k:K d' (μ.take n)):Fz n K d μ
 | dic {j ks ds μ} (hj:n<=j) (e:μ[j]?=some (.dic ks ds)) (hd:mrL n ds) (hm:∀(j:Nat) (m:MO),j<n->μ[j]?=some m->moB n m) (k:K (.dic ks ds) (μ.take n)):Fz n K (.mr j) μ
 | obj {j C ns ds μ} (hj:n<=j) (e:μ[j]?=some (.ins C ns ds)) (hd:mrL n ds) (hm:∀(j:Nat) (m:MO),j<n->μ[j]?=some m->moB n m) (k:K (.obj C ns ds) (μ.take n)):Fz n K (.mr j) μ
 | fdc {j o kvs ds μ} (hj:n<=j) (e:μ[j]?=some (.fdic o kvs ds)) (hd:mrL n ds) (hm:∀(j:Nat) (m:MO),j<n->μ[j]?=some m->moB n m) (k:K (.fdc (kvs.map (·.1)) ds) (μ.take n)):Fz n K (.mr j) μ
 | deepQ {f d d' μ} (e:FrzQ n μ f d d') (hm:∀(j:Nat) (m:MO),j<n->μ[j]?=some m->moB n m) (k:K d' (μ.take n)):Fz n K d μ
theorem Lif.fz {φ:List Addr}{H:Hp}{μ:MS}{K:DK}{Q:VK}(M:MSis φ H μ)(L:Lif φ H K Q):Lif φ H (Fz μ.length K) Q:=fun d μ' φ' v H' k f M' i=>by
 have eφ:φ'.take μ.length=φ:=by
  obtain⟨⟨ψ,rfl,_⟩,_,_⟩:=f
  rw[<- M.len,List.take_left]
 have f0:Fr φ H (φ'.take μ.length) H':=by
  rw[eφ]
  exact⟨⟨[],by simp,fun _ h=>nomatch h⟩,f.keep,f.dom⟩
 have nin:∀ {j:Nat} {p:Addr},μ.length<=j->φ'[j]?=some p->p∉φ'.take μ.length:=fun {j p} hj e hp=>by
  obtain⟨i,hi,ei⟩:=List.getElem_of_mem hp
  rw[List.length_take]at hi
  rw[List.getElem_take]at ei
  obtain⟨hj',ej⟩:=gxB e
  exact List.pairwise_iff_getElem.mp M'.nd i j (by omega) hj' (by omega) (ei.trans ej.symm)
 cases k with
 | keep k=>exact L d μ' φ' v H' k f M' i
 | drop hd hm k=>exact L d _ _ v H' k f0 (M'.cutT hm) (i.cutT hd)
 | @lst j ds _ hj e hd hm k =>
  obtain⟨p,hp,rfl⟩:=i
  obtain⟨p',e1,vs,hv,ha⟩:=M'.at_ j _ e
  rw[hp]at e1;cases e1
  exact L _ _ _ _ H' k f0 (M'.cutT hm) ⟨p,vs,rfl,nin hj hp,hv,ha.cutT hd⟩
 | @one j ds _ hj e hd hm k =>
  obtain⟨p,hp,rfl⟩:=i
  obtain⟨p',e1,vs,hv,ha⟩:=M'.at_ j _ e
  rw[hp]at e1;cases e1
  have M0:=M'.cutT hm
  have hpn:p∉φ:=by have:=nin hj hp;rwa [eφ]at this
  have hH:H p=none:=by
   obtain⟨⟨ψ,rfl,hψ⟩,_,_⟩:=f
   refine hψ p ?_
   have q:=gxD hp
   rcases List.mem_append.mp q with q | q
   ·exact absurd q hpn
   ·exact q
  have M1:MSis (φ'.take μ.length) H' (μ'.take μ.length):=M0
  rw[eφ]at M1
  have f1:Fr φ H (φ++[p]) H':=⟨⟨[p],rfl,fun c hc=>by rw[List.mem_singleton.mp hc];exact hH⟩,f.keep,f.dom⟩
  have len:(μ'.take μ.length).length=μ.length:=by rw[<- M1.len,M.len]
  have pin:p∈φ':=gxD hp
  have hdv:DAll (φ++[p]) H' ds vs:=by
   have q:=DAll.addP' pin hd ha
   rwa [eφ]at q
  have M2:MSis (φ++[p]) H' (μ'.take μ.length++[.lst ds]):=by
   refine⟨?_,by rw[gxE,gxE,M1.len];rfl,fun k m ek=>?_⟩
   ·rw[List.nodup_append]
    exact⟨M.nd,by simp,fun a ha b hb=>by rw[List.mem_singleton.mp hb];intro z;exact hpn (by rw[<- z];exact ha)⟩
   ·by_cases hk:k<μ.length
    ·rw[gxF (by rw[len];exact hk)]at ek
     rw[List.getElem?_take_of_lt hk]at ek
     obtain⟨q,e1,e2⟩:=M'.at_ k m ek
     have e1':φ[k]?=some q:=by rw[<- eφ,List.getElem?_take_of_lt hk];exact e1
     refine⟨q,by rw[gxF (by rw[M.len];exact hk)];exact e1',?_⟩
     have hb:=hm k m hk ek
     cases m with
     | box =>
      obtain⟨b,ns,i,r,z,h1,h2,h3,h4⟩:=e2
      exact⟨b,ns,i,r,z,h1,h2,by have:=notin_addP (n:=μ.length) pin h3;rwa [eφ]at this,h4⟩
     | lst es=>obtain⟨us,h1,h2⟩:=e2;exact⟨us,h1,by have:=DAll.addP' pin hb h2;rwa [eφ]at this⟩
     | dic ks es=>obtain⟨kvs,us,h1,h2,h3,h4⟩:=e2;exact⟨kvs,us,h1,h2,h3,by have:=DAll.addP' pin hb h4;rwa [eφ]at this⟩
     | fdic o kvs es=>exact⟨e2.1,by have:=DAll.addP' pin hb e2.2;rwa [eφ]at this⟩
     | ins C ns es=>obtain⟨dx,fs,h1,h2,h3⟩:=e2;exact⟨dx,fs,h1,h2,by have:=DAll.addP' pin hb h3;rwa [eφ]at this⟩
     | dtu ks es=>obtain⟨kvs,h1,h2,h3⟩:=e2;exact⟨kvs,h1,h2,by have:=DAll.addP' pin hb h3;rwa [eφ]at this⟩
     | gx φ0 H0=>exact⟨by have:=e2.1.takeP (n:=μ.length) hb (p:=p) (e2.1.late (Nat.le_trans hb hj) hp);rwa [eφ]at this,e2.2⟩
     | exc c=>exact e2
    ·have hk':k=μ.length:=by
      have:=(gxB ek).1
      rw[gxE,List.length_singleton,len]at this
      omega
     subst hk'
     rw[gxG (by rw[len];exact Nat.le_refl _),len,Nat.sub_self]at ek
     cases ek
     exact⟨p,by rw[gxG (by rw[M.len];exact Nat.le_refl _),M.len,Nat.sub_self];rfl,vs,hv,hdv⟩
  exact L _ _ _ _ H' k f1 M2 ⟨p,by rw[gxG (by rw[M.len];exact Nat.le_refl _),M.len,Nat.sub_self];rfl,rfl⟩
 | @deep f' d d' _ e hm k=>exact L _ _ _ _ H' k f0 (M'.cutT hm) (e.is M' nin i)
 | @dic j ks ds _ hj e hd hm k =>
  obtain⟨p,hp,rfl⟩:=i
  obtain⟨p',e1,kvs,vs,hv,h1,h2,ha⟩:=M'.at_ j _ e
  rw[hp]at e1;cases e1
  exact L _ _ _ _ H' k f0 (M'.cutT hm) ⟨p,kvs,vs,rfl,nin hj hp,hv,h1,h2,ha.cutT hd⟩
 | @obj j C ns ds _ hj e hd hm k =>
  obtain⟨p,hp,rfl⟩:=i
  obtain⟨p',e1,dx,fs,h1,h2,h3⟩:=M'.at_ j _ e
  rw[hp]at e1;cases e1
  exact L _ _ _ _ H' k f0 (M'.cutT hm) ⟨p,dx,fs,_,rfl,nin hj hp,h1,h2,rfl,h3.cutT hd⟩
 | @fdc j o kvs ds _ hj e hd hm k =>
  obtain⟨p,hp,rfl⟩:=i
  obtain⟨p',e1,h1,h3⟩:=M'.at_ j _ e
  rw[hp]at e1;cases e1
  exact L _ _ _ _ H' k f0 (M'.cutT hm) ⟨p,o,kvs,_,rfl,nin hj hp,h1,rfl,rfl,h3.cutT hd⟩
 | @deepQ f' d d' _ e hm k=>exact L _ _ _ _ H' k f0 (M'.cutT hm) (e.is M' nin i)
def retN (n:Nat)(K:DK):DN:={ nx:=fun _ μ'=>Fz n K .non μ',rt:=fun d μ'=>Fz n K d μ'}
def startE (N:List Str)(ds:List D):DE:=ds.map some++List.replicate (N.length - ds.length) none
theorem DEnv.start {φ:List Addr}{H:Hp}{N:List Str}{ds:List D}{vs:List V}(h:DAll φ H ds vs):DEnv φ H (startE N ds) (start N vs):=by
 have hl:=h.len
 unfold startE L2.start
 refine⟨by simp[hl],fun i d e=>?_⟩
 by_cases hi:i<ds.length
 ·rw[gxF (by rw[gxC];exact hi),gxH]at e
  have e':ds[i]?=some d:=by
   cases q:ds[i]? with
   | none=>rw[q]at e;cases e
   | some z=>rw[q]at e;cases e;rfl
  obtain⟨v,hv,hd⟩:=h.get e'
  exact⟨v,by rw[gxF (by rw[gxC];omega),gxH,hv];rfl,hd⟩
 ·rw[gxG (by rw[gxC];omega)]at e
  have:=gxD e
  have:=List.eq_of_mem_replicate this
  cases this
section
variable {P:Program}{w:World}{K:PySem.W.Frag}{mg:Str->Option Value}{base:Heap}
theorem Fun.okD {x qual:Str}{st:Stmt}{f:Addr}{fd:FuncData}{N ps:List Str}{k:Nat}{fs:DSp}(F:Fun K x qual st f fd)(S:FnScope N ps (defScope st))(len:∀ ds μ Kd,fs ds μ Kd->ds.length=ps.length)
 (hbody:∀(cdv:Value) (A:Around) (outer:List Env) (s:Shared) (H:Hp) (E:XK),Room k (A.deeper (envOfC qual (defScope st) s.heap.objs.size f cdv)) ->
   ∃ W,PDB (cxOf CX0 P w K mg base N qual (defScope st) f cdv A outer s H E).nox (defBody st) W/\∀ ds μ Kd,(∀(j:Nat) (m:MO),μ[j]?=some m->moB μ.length m)->mrL μ.length ds->fs ds μ Kd->W (retN μ.length Kd) (startE N ds) μ):FnOk P w K mg base CX0 (k+1) f fd ps (spD fs):=by
 refine F.ok S (fun vs H Q E h=>?_) (fun cdv A outer s H vs Q E hr h=>?_)
 ·obtain⟨φ,ds,μ,Kd,ha,M,hf,L⟩:=h
  rw[ha.len];exact len ds μ Kd hf
 ·obtain⟨φ,ds,μ,Kd,ha,M,hf,L⟩:=h
  obtain⟨W,hW,q⟩:=hbody cdv A outer s H E hr
  refine⟨_,hW,φ,startE N ds,μ,retN μ.length Kd,.start ha,M,q ds μ Kd M.bound (by rw[<- M.len];exact ha.bound) hf,⟨fun ρ' μ' φ' σ' H' k' f' A' M'=>?_,L.fz M,fun _ _ _ _ _ k' _ _ _=>k'.elim,fun _ _ _ _ _ k' _ _ _=>k'.elim⟩⟩
  exact L.fz M .non μ' φ' .non H' k' f' M' rfl
end
end L2
namespace L2
open PySem PySem.Spec PyProof.Rows
theorem Lif.val {φ:List Addr}{H:Hp}{μ:MS}{K:DK}{Q:VK}{d:D}{v:V}(L:Lif φ H K Q)(M:MSis φ H μ)(k:K d μ)(i:DIs φ H d v):Q v H:=L d μ φ v H k (.refl _ _) M i
def dAdd (m:Bool):DOp:=fun x y μ K=>match x,y with
 | .int i,.int j=>K (.int (i+j)) μ
 | .str i,.str j=>i.length+j.length<=sizeLine/\K (.str (i++j)) μ
 | x,y=>opt (lv μ x) fun xs=>opt (lv μ y) fun ys=>xs.length+ys.length<=sizeLine/\nL m (xs++ys) μ K
theorem so_add {m:Bool}:SoOp rAddC (dAdd m):=fun φ H x y dx dy μ K Q M hx hy k L=>by
 unfold dAdd at k
 split at k
 ·cases(show x=_ from hx);cases(show y=_ from hy);exact L.val M k rfl
 ·cases(show x=_ from hx);cases(show y=_ from hy);exact⟨k.1,L.val M k.2 rfl⟩
 ·obtain⟨xs,ex,k⟩:=opt_ex k
  obtain⟨ys,ey,k⟩:=opt_ex k
  obtain⟨p,vx,rfl,hp,ax⟩:=lv_is M hx ex
  obtain⟨q,vy,rfl,hq,ay⟩:=lv_is M hy ey
  exact⟨vx,vy,hp,hq,by rw[ax.len,ay.len];exact k.1,fun l hl=>al_n L M (ax.app ay) k.2 hl⟩
def dI2 (C:Int->Int->Prop)(g:Int->Int->D):DOp:=fun x y μ K=>match x,y with
 | .int i,.int j=>C i j/\K (g i j) μ
 | _,_=>False
def dI2' (g:Int->Int->D):DOp:=fun x y μ K=>match x,y with
 | .int i,.int j=>K (g i j) μ
 | _,_=>False
theorem so_i2 {C:Int->Int->Prop}{g:Int->Int->Int}:SoOp (rI2 C fun i j=>.int (g i j)) (dI2 C fun i j=>.int (g i j)):=fun φ H x y dx dy μ K Q M hx hy k L=>by
 unfold dI2 at k
 split at k
 ·cases(show x=_ from hx);cases(show y=_ from hy);exact⟨k.1,L.val M k.2 rfl⟩
 ·exact k.elim
theorem so_i2' {g:Int->Int->Int}:SoOp (rI2' fun i j=>.int (g i j)) (dI2' fun i j=>.int (g i j)):=fun φ H x y dx dy μ K Q M hx hy k L=>by
 unfold dI2' at k
 split at k
 ·cases(show x=_ from hx);cases(show y=_ from hy);exact L.val M k rfl
 ·exact k.elim
theorem so_b2' {g:Int->Int->Bool}:SoOp (rI2' fun i j=>.bl (g i j)) (dI2' fun i j=>.bl (g i j)):=fun φ H x y dx dy μ K Q M hx hy k L=>by
 unfold dI2' at k
 split at k
 ·cases(show x=_ from hx);cases(show y=_ from hy);exact L.val M k rfl
 ·exact k.elim
def dMul:DOp:=fun x y μ K=>match x,y with
 | .int i,.int j=>CMul i j/\K (.int (i*j)) μ
 | .str z,.int n=>∃ c:Nat,z=⟨#[c]⟩ /\ -1000000<=n/\n<=1000000/\K (.str ⟨(List.replicate n.toNat c).toArray⟩) μ
 | _,_=>False
theorem so_mul:SoOp rMulC dMul:=fun φ H x y dx dy μ K Q M hx hy k L=>by
 unfold dMul at k
 split at k
 ·cases(show x=_ from hx);cases(show y=_ from hy);exact⟨k.1,L.val M k.2 rfl⟩
 ·cases(show x=_ from hx);cases(show y=_ from hy)
  obtain⟨c,rfl,h1,h2,k⟩:=k
  exact⟨c,rfl,h1,h2,L.val M k rfl⟩
 ·exact k.elim
def dEqS (neg:Bool):DOp:=fun x y μ K=>match x,y with
 | .int i,.int j=>K (.bl (neg != decide (i=j))) μ
 | .str i,.str j=>K (.bl (neg != decide (i=j))) μ
 | .bl i,.bl j=>K (.bl (neg != decide (i=j))) μ
 | _,_=>False
theorem so_eqS {neg:Bool}:SoOp (rEqC neg) (dEqS neg):=fun φ H x y dx dy μ K Q M hx hy k L=>by
 unfold dEqS at k
 split at k
 ·cases(show x=_ from hx);cases(show y=_ from hy);exact L.val M k rfl
 ·cases(show x=_ from hx);cases(show y=_ from hy);exact L.val M k rfl
 ·cases(show x=_ from hx);cases(show y=_ from hy);exact L.val M k rfl
 ·exact k.elim
def dIx:DOp:=fun x y μ K=>match x,y with
 | .str z,.int i=>z.length<=sizeLine/\opt (atI z.cps.toList i) fun c=>K (.str ⟨#[c]⟩) μ
 | .tup ds,.int i=>opt (atI ds i) fun d=>K d μ
 | x,.int i=>opt (lv μ x) fun ds=>opt (atI ds i) fun d=>K d μ
 | _,_=>False
theorem DAll.atI {φ:List Addr}{H:Hp}{ds:List D}{vs:List V}{i:Int}{d:D}(h:DAll φ H ds vs)(e:atI ds i=some d):∃ v,atI vs i=some v/\DIs φ H d v:=by
 unfold L2.atI at e ⊢
 rw[h.len]
 cases q:ixN ds.length i with
 | none=>rw[q]at e;cases e
 | some j=>rw[q]at e;exact h.get e
theorem so_ix:SoOp rIxC dIx:=fun φ H x y dx dy μ K Q M hx hy k L=>by
 unfold dIx at k
 split at k
 ·cases(show x=_ from hx);cases(show y=_ from hy)
  obtain⟨c,e,k'⟩:=opt_ex k.2
  exact⟨k.1,opt_of e (L.val M k' rfl)⟩
 ·cases(show y=_ from hy)
  obtain⟨d,e,k⟩:=opt_ex k
  obtain⟨p,vs,rfl,_,hp,ha⟩:=hx
  obtain⟨v,ev,iv⟩:=ha.atI e
  exact⟨vs,.inr hp,opt_of ev (L.val M k iv)⟩
 ·cases(show y=_ from hy)
  obtain⟨ds,el,k⟩:=opt_ex k
  obtain⟨d,e,k⟩:=opt_ex k
  obtain⟨p,vs,rfl,hp,ha⟩:=lv_is M hx el
  obtain⟨v,ev,iv⟩:=ha.atI e
  exact⟨vs,.inl hp,opt_of ev (L.val M k iv)⟩
 ·exact k.elim
abbrev DO:=DE->MS->(Option Int->MS->Prop)->Prop
def tDO (w:DO):TO:=fun σ H Q=>∃ φ ρ μ K,DEnv φ H ρ σ/\MSis φ H μ/\w ρ μ K/\∀ o μ' φ' H',K o μ'->Fr φ H φ' H'->MSis φ' H' μ'->Q o H'
def dNo:DO:=fun _ μ K=>K none μ
def dPart (w:De):DO:=fun ρ μ K=>w ρ μ fun d μ1=>match d with | .int i=>K (some i) μ1 | _=>False
def cutD (ds:List D)(lo hi:Option Int):List D:=(ds.drop (HT.sIx ds.length 0 lo)).take (HT.sIx ds.length ds.length hi - HT.sIx ds.length 0 lo)
def dSlc (m:Bool)(w:De)(l h:DO):De:=fun ρ μ K=>w ρ μ fun x μ1=>l ρ μ1 fun lo μ2=>h ρ μ2 fun hi μ3=>match x with
 | .str z=>z.length<=sizeLine/\K (.str ⟨(cutL z.cps.toList lo hi).toArray⟩) μ3
 | x=>opt (lv μ3 x) fun ds=>nL m (cutD ds lo hi) μ3 K
section
variable {X:Cx}{a b e:Expr}{es:List Expr}{pos:Pos}
theorem PO.imp {e:Option Expr}{t t':TO}(h:PO X e t)(hi:∀ σ H Q,t' σ H Q->t σ H Q):PO X e t':=fun pins s σ H Q I q=>h pins s σ H Q I (hi σ H Q q)
theorem o_no:PO X none (tDO dNo):=po_noC.imp fun σ H Q hq0=>by obtain⟨φ,ρ,μ,K,A,M,k,L⟩:=hq0;exact L none μ φ H k (.refl _ _) M
theorem o_some {w:De}(h:PD X e w):PO X (some e) (tDO (dPart w)):=(po_someC h).imp fun σ H Q ⟨φ,ρ,μ,K,A,M,k,L⟩ =>
 ⟨φ,ρ,μ,_,A,M,k,fun d μ1 φ1 v1 H1 k1 f1 M1 i1=>by
  cases d with
  | int i=>cases(show v1=_ from i1);exact L _ μ1 φ1 H1 k1 f1 M1
  | _=>exact k1.elim⟩
theorem DAll.cut {φ:List Addr}{H:Hp}{ds:List D}{vs:List V}(h:DAll φ H ds vs)(lo hi:Option Int):DAll φ H (cutD ds lo hi) (cutV vs lo hi):=by
 unfold cutD cutV
 rw[h.len]
 exact(h.drop _).take _
theorem d_slice (m:Bool){lo hi:Option Expr}{w:De}{l h:DO}{p:Pos}(ha:PD X a w)(hl:PO X lo (tDO l))(hh:PO X hi (tDO h)):PD X (.Subscript a (.Slice lo hi none p) pos) (dSlc m w l h):=(pe_slice slC ha hl hh).imp fun σ H Q hq=>by
 obtain⟨φ,ρ,μ,K,A,M,k,L⟩:=hq
 refine⟨φ,ρ,μ,_,A,M,k,fun d μ1 φ1 v1 H1 k1 f1 M1 i1=>?_⟩
 refine⟨φ1,ρ,μ1,_,A.mono f1,M1,k1,fun lo μ2 φ2 H2 k2 f2 M2=>?_⟩
 refine⟨φ2,ρ,μ2,_,A.mono (f1.trans f2),M2,k2,fun hi μ3 φ3 H3 k3 f3 M3=>?_⟩
 have i3:=i1.mono (f2.trans f3)
 have L3:=L.mono (f1.trans (f2.trans f3))
 split at k3
 ·cases(show v1=_ from i3);exact⟨k3.1,L3.val M3 k3.2 rfl⟩
 ·obtain⟨ds,el,k⟩:=opt_ex k3
  obtain⟨p,vs,rfl,hp,ha⟩:=lv_is M3 i3 el
  exact⟨vs,hp,fun l hl=>al_n L3 M3 (ha.cut lo hi) k hl⟩
end
def fLen:DSp:=fun ds μ K=>match ds with
 | [.str z]=>z.length<=sizeLine/\K (.int z.length) μ
 | [.tup xs]=>K (.int xs.length) μ
 | [x]=>opt (lv μ x) fun xs=>K (.int xs.length) μ
 | _=>False
theorem so_len:SoCall rLenC fLen:=fun φ H vs ds μ K Q M h k L=>by
 unfold fLen at k
 split at k
 ·obtain⟨v,r,rfl,h1,h2⟩:=h;cases(show r=[]from h2);cases(show v=_ from h1);exact⟨k.1,L.val M k.2 rfl⟩
 ·obtain⟨v,r,rfl,h1,h2⟩:=h;cases(show r=[]from h2)
  obtain⟨p,vs,rfl,_,hp,ha⟩:=h1
  exact⟨vs,.inr hp,by rw[ha.len];exact L.val M k rfl⟩
 ·obtain⟨v,r,rfl,h1,h2⟩:=h;cases(show r=[]from h2)
  obtain⟨xs,el,k⟩:=opt_ex k
  obtain⟨p,vs,rfl,hp,ha⟩:=lv_is M h1 el
  exact⟨vs,.inl hp,by rw[ha.len];exact L.val M k rfl⟩
 ·exact k.elim
def fMax:DSp:=fun ds μ K=>match ds with | [.int i,.int j]=>K (.int (max i j)) μ | _=>False
theorem so_max:SoCall rMaxC fMax:=fun φ H vs ds μ K Q M h k L=>by
 unfold fMax at k
 split at k
 ·obtain⟨v,r,rfl,h1,u,r',rfl,h2,h3⟩:=h;cases(show r'=[]from h3);cases(show v=_ from h1);cases(show u=_ from h2);exact⟨_,_,rfl,L.val M k rfl⟩
 ·exact k.elim
def fMaxL:DSp:=fun ds μ K=>match ds with
 | [x]=>∃ ns:List Int,lv μ x=some (ns.map D.int)/\ns≠[]/\∀ m,m∈ns->(∀ y∈ns,y<=m)->K (.int m) μ
 | _=>False
def fAll (g:List Bool->Bool):DSp:=fun ds μ K=>match ds with
 | [x]=>∃ bs:List Bool,lv μ x=some (bs.map D.bl)/\K (.bl (g bs)) μ
 | _=>False
theorem so_all {g:List Bool->Bool}:SoCall (rAllC g) (fAll g):=fun φ H vs ds μ K Q M h k L=>by
 unfold fAll at k
 split at k
 ·obtain⟨v,r,rfl,h1,h2⟩:=h;cases(show r=[]from h2)
  obtain⟨bs,el,k⟩:=k
  obtain⟨p,vs,rfl,hp,ha⟩:=lv_is M h1 el
  exact⟨bs,by rw[hp,ha.bls],L.val M k rfl⟩
 ·exact k.elim
def fList (m:Bool):DSp:=fun ds μ K=>match ds with
 | [x]=>opt (lv μ x) fun xs=>nL m xs μ K
 | _=>False
theorem so_list {Kf:PySem.W.Frag}{m:Bool}:SoCall (rListC Kf) (fList m):=fun φ H vs ds μ K Q M h k L=>by
 unfold fList at k
 split at k
 ·obtain⟨v,r,rfl,h1,h2⟩:=h;cases(show r=[]from h2)
  obtain⟨xs,el,k⟩:=opt_ex k
  obtain⟨p,vs,rfl,hp,ha⟩:=lv_is M h1 el
  exact⟨vs,SqL.of hp,fun l hl=>al_n L M ha k hl⟩
 ·exact k.elim
def fJoin:DMt:=fun d ds μ K=>match d,ds with
 | .str z,[x]=>z.cps=#[]/\∃ ys:List Str,lv μ x=some (ys.map D.str)/\(ys.map (·.length)).sum<=16777216/\K (.str ⟨(ys.map (·.cps.toList)).flatten.toArray⟩) μ
 | _,_=>False
theorem so_join {Kf:PySem.W.Frag}:SoMt Kf "str" rJoinC fJoin:=fun φ H x vs d ds μ K Q M hx h k L=>by
 unfold fJoin at k
 split at k
 ·cases(show x=_ from hx)
  obtain⟨v,r,rfl,h1,h2⟩:=h;cases(show r=[]from h2)
  obtain⟨hz,ys,el,hs,k⟩:=k
  obtain⟨p,vs,rfl,hp,ha⟩:=lv_is M h1 el
  exact⟨hz,ys,by rw[hp,ha.strs],hs,L.val M k rfl⟩
 ·exact k.elim
def fCount:DMt:=fun d ds μ K=>match d,ds with
 | .str z,[.str y]=>∃ c:Nat,y=⟨#[c]⟩/\K (.int ((z.cps.toList.count c:Nat):Int)) μ
 | _,_=>False
theorem so_count {Kf:PySem.W.Frag}:SoMt Kf "str" rCountC fCount:=fun φ H x vs d ds μ K Q M hx h k L=>by
 unfold fCount at k
 split at k
 ·cases(show x=_ from hx)
  obtain⟨v,r,rfl,h1,h2⟩:=h;cases(show r=[]from h2);cases(show v=_ from h1)
  obtain⟨c,rfl,k⟩:=k
  exact⟨c,rfl,L.val M k rfl⟩
 ·exact k.elim
theorem mr_at {φ:List Addr}{H:Hp}{μ:MS}{k:Nat}{x:V}{ds:List D}(M:MSis φ H μ)(hx:DIs φ H (.mr k) x)(e:μ[k]?=some (.lst ds)):∃ p vs,x=.ref p/\φ[k]?=some p/\H p=some (.lst vs)/\DAll φ H ds vs:=by
 obtain⟨p,hp,rfl⟩:=hx
 obtain⟨q,e1,vs,hv,ha⟩:=M.at_ k _ e
 rw[hp]at e1;cases e1
 exact⟨p,vs,rfl,hp,hv,ha⟩
theorem mr_put {φ:List Addr}{H:Hp}{μ:MS}{K:DK}{Q:VK}{k:Nat}{p:Addr}{ds:List D}{vs:List V}{d:D}{v:V}(L:Lif φ H K Q)(M:MSis φ H μ)(hp:φ[k]?=some p)(ha:DAll φ H ds vs)(hd:DIs φ H d v)(kk:K d (μ.set k (.lst ds))):Q v (upd H p (.lst vs)):=by
 have f:Fr φ H φ (upd H p (.lst vs)):=.put (gxD hp)
 exact L d _ φ v _ kk f (M.put hp ⟨_,upd_same,ha.mono f⟩) (hd.mono f)
def fAppend:DMt:=fun d ds μ K=>match d,ds with
 | .mr k,[y]=>opt (lvM μ k) fun xs=>xs.length<sizeLine/\K .non (μ.set k (.lst (xs++[y])))
 | _,_=>False
theorem so_append {Kf:PySem.W.Frag}:SoMt Kf "list" rAppendC fAppend:=fun φ H x vs d ds μ K Q M hx h k L=>by
 unfold fAppend at k
 split at k
 ·obtain⟨xs,em,k⟩:=opt_ex k
  ·obtain⟨p,us,rfl,hp,hv,ha⟩:=mr_at M hx (lvM_eq em)
   obtain⟨v,r,rfl,h1,h2⟩:=h;cases(show r=[]from h2)
   exact⟨_,_,us,rfl,rfl,hv,by rw[ha.len];exact k.1,mr_put (d:=.non) (v:=.non) L M hp (ha.app (show DAll φ H [_] [v]from⟨v,[],rfl,h1,rfl⟩)) rfl k.2⟩
 ·exact k.elim
section
variable {X:Cx}
def rPopC:V->List V->Hp->VK->Prop:=fun x vs H Q=>match x,vs with
 | .ref l,[]=>∃ xs y,H l=some (.lst xs)/\xs[xs.length - 1]?=some y/\Q y (upd H l (.lst xs.dropLast))
 | _,_=>False
theorem popL:MtR X "list.pop" rPopC:=MtR.imp mt_pop fun x vs H Q q=>by
 unfold rPopC at q
 split at q
 ·obtain⟨xs,y,a,b,c⟩:=q;exact⟨_,xs,y,rfl,rfl,a,b,c⟩
 ·exact q.elim
end
theorem DAll.dropLast {φ:List Addr}{H:Hp}{ds:List D}{vs:List V}(h:DAll φ H ds vs):DAll φ H ds.dropLast vs.dropLast:=by
 rw[List.dropLast_eq_take,List.dropLast_eq_take,h.len]
 exact h.take _
def fPop:DMt:=fun d ds μ K=>match d,ds with
 | .mr k,[]=>opt (lvM μ k) fun xs=>opt (xs[xs.length - 1]?) fun y=>K y (μ.set k (.lst xs.dropLast))
 | _,_=>False
theorem so_pop {Kf:PySem.W.Frag}:SoMt Kf "list" rPopC fPop:=fun φ H x vs d ds μ K Q M hx h k L=>by
 unfold fPop at k
 split at k
 ·obtain⟨xs,em,k⟩:=opt_ex k
  ·obtain⟨p,us,rfl,hp,hv,ha⟩:=mr_at M hx (lvM_eq em)
   cases(show vs=[]from h)
   obtain⟨y,ey,k⟩:=opt_ex k
   obtain⟨v,ev,iv⟩:=ha.get ey
   exact⟨us,v,hv,by rw[ha.len];exact ev,mr_put (d:=y) L M hp ha.dropLast iv k⟩
 ·exact k.elim
theorem so_ipI {f:Int->Int->Int}:SoIp (ipC f) (dI2' fun i j=>.int (f i j)):=fun φ H x y dx dy μ K Q M hx hy k L=>by
 unfold dI2' at k
 split at k
 ·cases(show x=_ from hx);cases(show y=_ from hy);exact L.val M k rfl
 ·exact k.elim
mutual
def deq:D->D->Bool
 | .non,.non=>true
 | .bl a,.bl b=>a==b
 | .bl a,.int b=>(if a then 1 else 0)==b
 | .int a,.bl b=>a==(if b then 1 else 0)
 | .int a,.int b=>a==b
 | .str a,.str b=>a==b
 | .lst xs,.lst ys=>deqL xs ys
 | .tup xs,.tup ys=>deqL xs ys
 | _,_=>false
def deqL:List D->List D->Bool
 | [],[]=>true
 | x::xs,y::ys=>deq x y&&deqL xs ys
 | _,_=>false
end
end L2
namespace L2
open PySem PySem.Spec PyProof.Rows
def fltD:D->Bool
 | .non=>true
 | .bl _=>true
 | .int _=>true
 | .str _=>true
 | _=>false
section
variable {X:Cx}
def rInC (neg:Bool):R2:=fun x y H Q=>match x,y with
 | .str z,.str t=>∃ c:Nat,z=⟨#[c]⟩/\Q (.bl (neg != decide (c∈t.cps.toList))) H
 | x,.ref p=>∃ xs,(H p=some (.lst xs)\/H p=some (.tup xs))/\flatV x=true/\xs.all flatV=true/\Q (.bl (neg != inV x xs)) H
 | _,_=>False
theorem inC:OpR X (compareOp .In) (rInC false):=(op_in_str.or op_in_seq).imp fun x y H Q q=>by
 unfold rInC at q
 split at q
 ·obtain⟨c,rfl,q⟩:=q
  exact .inl ⟨_,_,rfl,rfl,by rw[StrLaws.found_one];rw[fne]at q;exact q⟩
 ·obtain⟨xs,h,h1,h2,q⟩:=q
  rw[fne]at q
  rcases h with h | h
  ·exact .inr ⟨_,xs,rfl,.inl (SqL.of h),h1,h2,q⟩
  ·exact .inr ⟨_,xs,rfl,.inr (SqT.of h),h1,h2,q⟩
 ·exact q.elim
end
theorem flt_is {φ:List Addr}{H:Hp}{d:D}{v:V}(i:DIs φ H d v)(h:fltD d=true):flatV v=true:=by
 cases d <;> first | exact(Bool.noConfusion (show false=true from h)) | (cases(show v=_ from i);rfl)
theorem flt_eq {φ:List Addr}{H:Hp}{d e:D}{v u:V}(i:DIs φ H d v)(j:DIs φ H e u)(h:fltD d=true)(h':fltD e=true):eqV v u=deq d e:=by
 cases d <;> first
  | exact(Bool.noConfusion (show false=true from h))
  | (cases(show v=_ from i)
     cases e <;> first
      | exact(Bool.noConfusion (show false=true from h'))
      | (cases(show u=_ from j);unfold eqV deq;rfl))
theorem flt_all {φ:List Addr}{H:Hp}{x:D}{v:V}(i:DIs φ H x v)(hx:fltD x=true):∀ {ds:List D} {vs:List V},DAll φ H ds vs->ds.all fltD=true->vs.all flatV=true/\inV v vs=ds.any fun d=>deq d x
 | [],_,h,_=>by cases(show _=[]from h);exact⟨rfl,rfl⟩
 | d::ds,_,h,f=>by
  obtain⟨u,r,rfl,h1,h2⟩:=h
  rw[List.all_cons,Bool.and_eq_true]at f
  obtain⟨a,b⟩:=flt_all i hx h2 f.2
  unfold inV at b ⊢
  rw[List.all_cons,List.any_cons,List.any_cons,a,b,flt_is h1 f.1,flt_eq h1 i f.1 hx]
  exact⟨rfl,rfl⟩
theorem range_any (bs:List Bool):(List.range bs.length).any (fun i=>bs.getD i false)=bs.any id:=by
 rw[Bool.eq_iff_iff,List.any_eq_true,List.any_eq_true]
 constructor
 ·rintro⟨i,hi,e⟩
  have hi':i<bs.length:=by simpa using hi
  rw[List.getD_eq_getElem?_getD,gxA hi']at e
  exact⟨_,List.getElem_mem hi',e⟩
 ·rintro⟨b,hb,e⟩
  obtain⟨i,hi,e2⟩:=List.getElem_of_mem hb
  refine⟨i,by simpa using hi,?_⟩
  rw[List.getD_eq_getElem?_getD,gxA hi,e2]
  exact e
theorem anyC {X:Cx}(hc:X.calm=true):CallR X (.builtin "any") (rAllC fun bs=>bs.any id):=by
 intro pins s σ H vs us Q I rv h
 unfold rAllC at h
 split at h
 ·rename_i p
  obtain⟨bs,hp,q⟩:=h
  obtain⟨u,rfl,ru⟩:=rv.one
  cases ru
  obtain⟨z,its,n,r,hl,e⟩:=I.lstM hp
  have isl:s.heap.IsList p its.toArray:=⟨_,e,rfl,n,rfl⟩
  have lt:p≠s.heap.objs.size:=Nat.ne_of_lt (gxN e)
  refine call_any_walk (wpAny_pyIter_list isl ⟨_,_,_,_,_,_,fun i=>bs.getD i false,rfl,Walks.list (A:=X.A.in1) (I.ok.hd hc) s.heap.objs.size p lt its.toArray,⟨⟨_,Heap.get?_push_size _ rfl,rfl,rfl⟩,isl.push _⟩,?_,fun h' tk kp=>?_⟩)
  ·intro i v s' Q' E' hv hq
   have hv':its[i]?=some v:=by simpa using hv
   have hb:∃ b,bs[i]?=some b/\v=.bool b:=by
    cases eb:(bs.map V.bl)[i]? with
    | none=>have:=r.none_of eb;rw[hv']at this;cases this
    | some y =>
     obtain⟨u,hu,ry⟩:=r.get eb
     rw[hv']at hu;cases hu
     rw[gxH]at eb
     cases e2:bs[i]? with
     | none=>rw[e2]at eb;cases eb
     | some b=>rw[e2]at eb;cases eb;exact⟨b,rfl,ry⟩
   obtain⟨b,eb,rfl⟩:=hb
   have e3:bs.getD i false=b:=by rw[List.getD_eq_getElem?_getD,eb];rfl
   have hq':Q' (bs.getD i false) s':=hq
   rw[e3]at hq'
   exact wpAny_truthy_bool hq'
  ·have I2:Inv X pins σ H { s with heap:=h',toks:=tk}:=I.kept fun b o e'=>kp b o (by simpa using Nat.ne_of_lt (gxN e')) (gxL _ e')
   have len:its.toArray.size=bs.length:=by rw[List.size_toArray,<- hl,gxC]
   rw[len,range_any]
   exact⟨.bl _,H,I2,rfl,q⟩
 ·exact h.elim
def BxQ (H:Hp)(b q:Addr):Prop:=∃(ns:List Int) (i r z:Int),H b=some (.lst [.ref q,.int i,.int r,.int z])/\H q=some (.lst (ns.map V.int))/\q≠b/\0<=i/\0<=z/\z<2147483647
def spTakeQ:Sp:=fun vs H Q _=>match vs with
 | [.ref b,.int n]=>∃ q,BxQ H b q/\0<n/\n<1073741824/\∀ v H',0<=v->v<n->BxQ H' b q->OB b H H'->Q (.int v) H'
 | _=>False
theorem spTakeQ_inv {vs:List V}{H:Hp}{Q:VK}{E:XK}(h:spTakeQ vs H Q E):∃ b n q,vs=[.ref b,.int n]/\BxQ H b q/\0<n/\n<1073741824/\∀ v H',0<=v->v<n->BxQ H' b q->OB b H H'->Q (.int v) H':=by
 unfold spTakeQ at h
 split at h
 ·obtain⟨q,h⟩:=h;exact⟨_,_,q,rfl,h⟩
 ·exact h.elim
def fTake:DSp:=fun ds μ K=>match ds with
 | [.mr k,.int n]=>μ[k]?=some .box/\0<n/\n<1073741824/\∀ v,0<=v->v<n->K (.int v) μ
 | _=>False
theorem take_imp {vs:List V}{H:Hp}{Q:VK}{E:XK}(h:spD fTake vs H Q E):spTakeQ vs H Q E:=by
 obtain⟨φ,ds,μ,K,ha,M,k,L⟩:=h
 unfold fTake at k
 split at k
 ·rename_i kk n
  obtain⟨v,r,rfl,h1,u,r',rfl,h2,h3⟩:=ha
  cases(show r'=[]from h3);cases(show u=_ from h2)
  obtain⟨b,hb,rfl⟩:=h1
  obtain⟨em,hn,hn2,k⟩:=k
  obtain⟨b',e1,q,ns,i,r,z,g1,g2,g3,g4,g5,g6⟩:=M.at_ kk _ em
  rw[hb]at e1;cases e1
  have bin:b∈φ:=gxD hb
  have qb:q≠b:=fun e=>g3 (by rw[e];exact bin)
  refine⟨q,⟨ns,i,r,z,g1,g2,qb,g4,g5,g6⟩,hn,hn2,fun v H' v0 v1 B' ob=>?_⟩
  obtain⟨ns',i',r',z',b1,b2,b3,b4,b5,b6⟩:=B'
  have f:Fr φ H φ H':=⟨⟨[],by simp,fun _ h=>nomatch h⟩,fun c o hc e=>(ob c (fun e'=>hc (by rw[e'];exact bin))).trans e,fun c e=>by
   by_cases hc:c=b
   ·rw[hc,b1]at e;cases e
   ·rw[<- ob c hc];exact e⟩
  refine L _ μ φ _ H' (k v v0 v1) f ⟨M.nd,M.len,fun j m ej=>?_⟩ rfl
  by_cases hj:j=kk
  ·subst hj
   rw[em]at ej;cases ej
   exact⟨b,hb,q,ns',i',r',z',b1,b2,g3,b4,b5,b6⟩
  ·obtain⟨p,e1,e2⟩:=M.at_ j m ej
   refine⟨p,e1,e2.mono f fun o eo=>?_⟩
   have pb:p≠b:=fun e=>by
    subst e
    obtain⟨i1,r1⟩:=gxB hb
    obtain⟨i2,r2⟩:=gxB e1
    rcases Nat.lt_or_gt_of_ne hj with z | z
    ·exact List.pairwise_iff_getElem.mp M.nd j kk i2 i1 z (r2.trans r1.symm)
    ·exact List.pairwise_iff_getElem.mp M.nd kk j i1 i2 z (r1.trans r2.symm)
   rw[ob p pb];exact eo
 ·exact k.elim
def spBoxQ (K:PySem.W.Frag):Sp:=fun vs H Q _=>match vs with
 | [.ref a]=>∃ ns:List Int,SqL K H a (ns.map V.int)/\∀ b q H',BxQ H' b q->H b=none->H q=none->Same H H'->Q (.ref b) H'
 | _=>False
theorem box_start {H:Hp}{b q:Addr}(h:BxQ H b q):MSis [b] H [.box]:=by
 obtain⟨ns,i,r,z,h1,h2,h3,h4,h5,h6⟩:=h
 refine⟨by simp,rfl,fun k m e=>?_⟩
 cases k with
 | zero=>cases e;exact⟨b,rfl,q,ns,i,r,z,h1,h2,by simpa using h3,h4,h5,h6⟩
 | succ k=>simp at e
mutual
def smD:Nat->D->Prop
 | n+1,.lst ds=>ds.length<=100000/\smL n ds
 | n+1,.tup ds=>ds.length<=100000/\smL n ds
 | 0,.lst _=>False
 | 0,.tup _=>False
 | _,.dic _ _=>False
 | _,.mr _=>False
 | _,.obj _ _ _=>False
 | _,.fdc _ _=>False
 | _,.fn _=>False
 | _,_=>True
def smL:Nat->List D->Prop
 | _,[]=>True
 | n,d::ds=>smD n d/\smL n ds
end
theorem smL_all {n:Nat}:∀ {ds:List D},(∀ d∈ds,smD n d)->smL n ds
 | [],_=>by unfold smL;trivial
 | d::ds,h=>by unfold smL;exact⟨h d List.mem_cons_self,smL_all fun x hx=>h x (gxI _ hx)⟩
theorem sm_lst {n:Nat}{ds:List D}(hl:ds.length<=100000)(h:∀ d∈ds,smD n d):smD (n+1) (.lst ds):=by unfold smD;exact⟨hl,smL_all h⟩
theorem sm_tup {n:Nat}{ds:List D}(hl:ds.length<=100000)(h:∀ d∈ds,smD n d):smD (n+1) (.tup ds):=by unfold smD;exact⟨hl,smL_all h⟩
theorem sm_int {n:Nat}{i:Int}:smD n (.int i):=by cases n <;> (unfold smD;trivial)
theorem sm_str {n:Nat}{i:Str}:smD n (.str i):=by cases n <;> (unfold smD;trivial)
mutual
def toDV:D->DV
 | .non=>.non
 | .bl b=>.bl b
 | .int i=>.int i
 | .str z=>.str z
 | .lst ds=>.lst (toDVs ds)
 | .tup ds=>.tup (toDVs ds)
 | _=>.non
def toDVs:List D->List DV
 | []=>[]
 | d::ds=>toDV d::toDVs ds
end
theorem toDVs_len:∀ ds:List D,(toDVs ds).length=ds.length
 | []=>rfl
 | d::ds=>by unfold toDVs;rw[List.length_cons,List.length_cons,toDVs_len ds]
mutual
theorem sm_dv {φ:List Addr}{H:Hp}:∀ {n:Nat} {d:D},smD n d->(∀ v,DIs φ H d v->Is H (toDV d) v)/\dep (toDV d)<=n/\wid (toDV d)<=100000:=fun {n d} h=>by
 cases d with
 | lst ds =>
  cases n with
  | zero=>exact absurd h (by unfold smD;exact id)
  | succ n =>
   unfold smD at h
   obtain⟨a,b,c⟩:=sm_dvs (φ:=φ) (H:=H) h.2
   refine⟨fun v hv=>?_,?_,?_⟩
   ·obtain⟨p,vs,rfl,_,hp,q⟩:=hv
    unfold toDV
    exact⟨p,vs,rfl,hp,a vs q⟩
   ·unfold toDV dep;omega
   ·have:=toDVs_len ds
    unfold toDV wid;omega
 | tup ds =>
  cases n with
  | zero=>exact absurd h (by unfold smD;exact id)
  | succ n =>
   unfold smD at h
   obtain⟨a,b,c⟩:=sm_dvs (φ:=φ) (H:=H) h.2
   refine⟨fun v hv=>?_,?_,?_⟩
   ·obtain⟨p,vs,rfl,_,hp,q⟩:=hv
    unfold toDV
    exact⟨p,vs,rfl,hp,a vs q⟩
   ·unfold toDV dep;omega
   ·have:=toDVs_len ds
    unfold toDV wid;omega
 | non=>exact⟨fun v hv=>hv,Nat.zero_le _,Nat.zero_le _⟩
 | bl b=>exact⟨fun v hv=>hv,Nat.zero_le _,Nat.zero_le _⟩
 | int b=>exact⟨fun v hv=>hv,Nat.zero_le _,Nat.zero_le _⟩
 | str b=>exact⟨fun v hv=>hv,Nat.zero_le _,Nat.zero_le _⟩
 | dic _ _=>exact absurd h (by cases n <;> (unfold smD;exact id))
 | mr _=>exact absurd h (by cases n <;> (unfold smD;exact id))
 | obj _ _ _=>exact absurd h (by cases n <;> (unfold smD;exact id))
 | fdc _ _=>exact absurd h (by cases n <;> (unfold smD;exact id))
 | fn _=>exact absurd h (by cases n <;> (unfold smD;exact id))
theorem sm_dvs {φ:List Addr}{H:Hp}:∀ {n:Nat} {ds:List D},smL n ds->(∀ vs,DAll φ H ds vs->IsAll H (toDVs ds) vs)/\depL (toDVs ds)<=n/\widL (toDVs ds)<=100000:=fun {n ds} h=>by
 cases ds with
 | nil=>exact⟨fun vs hv=>hv,Nat.zero_le _,Nat.zero_le _⟩
 | cons d ds =>
  unfold smL at h
  obtain⟨a,b,c⟩:=sm_dv (φ:=φ) (H:=H) h.1
  obtain⟨a',b',c'⟩:=sm_dvs (φ:=φ) (H:=H) h.2
  refine⟨fun vs hv=>?_,?_,?_⟩
  ·obtain⟨v,r,rfl,h1,h2⟩:=hv
   unfold toDVs
   exact⟨v,r,rfl,a v h1,a' r h2⟩
  ·unfold toDVs depL;omega
  ·unfold toDVs widL;omega
end
def frzD (μ:MS):D->Option D
 | .mr k=>(lvM μ k).map .lst
 | x=>some x
theorem frzD_is {φ:List Addr}{H:Hp}{μ:MS}{x d:D}{v:V}{n:Nat}(M:MSis φ H μ)(e:frzD μ x=some d)(hs:smD n d)(h:DIs φ H x v):Is H (toDV d) v:=by
 cases x with
 | mr k =>
  obtain⟨p,hp,rfl⟩:=h
  have e':(lvM μ k).map D.lst=some d:=e
  cases q:lvM μ k with
  | none=>rw[q]at e';cases e'
  | some ds =>
   rw[q]at e';cases e'
   obtain⟨p',e1,vs,hv,ha⟩:=M.at_ k _ (lvM_eq q)
   rw[hp]at e1;cases e1
   cases n with
   | zero=>exact absurd hs (by unfold smD;exact id)
   | succ n =>
    unfold smD at hs
    unfold toDV
    exact⟨p,vs,rfl,hv,(sm_dvs (φ:=φ) (H:=H) hs.2).1 vs ha⟩
 | non=>cases e;exact(sm_dv (φ:=φ) (H:=H) hs).1 v h
 | bl b=>cases e;exact(sm_dv (φ:=φ) (H:=H) hs).1 v h
 | int b=>cases e;exact(sm_dv (φ:=φ) (H:=H) hs).1 v h
 | str b=>cases e;exact(sm_dv (φ:=φ) (H:=H) hs).1 v h
 | lst b=>cases e;exact(sm_dv (φ:=φ) (H:=H) hs).1 v h
 | tup b=>cases e;exact(sm_dv (φ:=φ) (H:=H) hs).1 v h
 | obj _ _ _=>cases e;exact(sm_dv (φ:=φ) (H:=H) hs).1 v h
 | fdc _ _=>cases e;exact(sm_dv (φ:=φ) (H:=H) hs).1 v h
 | fn _=>cases e;exact(sm_dv (φ:=φ) (H:=H) hs).1 v h
 | dic _ _=>cases e;exact absurd hs (by cases n <;> (unfold smD;exact id))
def fSame:DSp:=fun ds μ K=>match ds with
 | [x,y]=>∃ d,frzD μ x=some d/\frzD μ y=some d/\smD 5 d/\K (.bl true) μ
 | _=>False
theorem same_imp {vs:List V}{H:Hp}{Q:VK}{E:XK}(h:spD fSame vs H Q E):spSame 5 vs H Q E:=by
 obtain⟨φ,ds,μ,K,ha,M,k,L⟩:=h
 unfold fSame at k
 split at k
 ·obtain⟨v,r,rfl,h1,u,r',rfl,h2,h3⟩:=ha
  cases(show r'=[]from h3)
  obtain⟨d,e1,e2,hs,k⟩:=k
  obtain⟨a,b,c⟩:=sm_dv (φ:=φ) (H:=H) hs
  exact⟨toDV d,b,Nat.lt_of_le_of_lt c (by decide),frzD_is M e1 hs h1,frzD_is M e2 hs h2,fun H' S=>L _ μ φ _ H' k (.same S) (M.same S) rfl⟩
 ·exact k.elim
theorem forW_inv {g:DG}{b:Ds}{N:DN}{c:MS->Prop}(Pv:List D->DE->MS->Prop):∀ {ds:List D} {ρ:DE} {μ:MS},Pv ds ρ μ->(∀ d ds' ρ μ,Pv (d::ds') ρ μ->c μ/\∀(nx:DE->MS->Prop),(∀ ρ' μ',Pv ds' ρ' μ'->nx ρ' μ')->g d ρ μ fun ρ2 μ2=>b { N with nx:=nx,ct:=nx,bk:=N.nx} ρ2 μ2)->(∀ ρ μ,Pv [] ρ μ->c μ/\N.nx ρ μ)->forW g b N c ds ρ μ
 | [],ρ,μ,h,hs,hd=>hd ρ μ h
 | d::ds,ρ,μ,h,hs,hd=>by
  obtain⟨c',st⟩:=hs d ds ρ μ h
  exact⟨c',st _ fun ρ' μ' h'=>forW_inv Pv h' hs hd⟩
end L2
namespace L2
open PySem PySem.Spec PyProof.Rows
structure Bi2 (mg:Str->Option Value):Prop where
 len:mg "len"=none
 range:mg "range"=none
 list:mg "list"=none
 isinstance:mg "isinstance"=none
 max:mg "max"=none
 min:mg "min"=none
 bool:mg "bool"=none
 tuple:mg "tuple"=none
 str:mg "str"=none
 int:mg "int"=none
 all:mg "all"=none
 any:mg "any"=none
 zip:mg "zip"=none
 enumerate:mg "enumerate"=none
 reversed:mg "reversed"=none
 dict:mg "dict"=none
 sorted:mg "sorted"=none
abbrev txt (l:List Nat):Str:=⟨l.toArray⟩
def fBars:DSp:=fun ds μ K=>match ds with
 | [.mr k,.int n]=>μ[k]?=some .box/\1<=n/\n<=1000/\∀ l:List Nat,l.length=n.toNat->OX l->K (.str (txt l)) μ
 | _=>False
def fSize:DSp:=fun ds μ K=>match ds with
 | [.mr k,.int n]=>μ[k]?=some .box/\∀ m,(m=n\/m=40)->K (.int m) μ
 | _=>False
abbrev Tk:=List Nat×Int
def tkD (t:Tk):D:=.tup [.str (txt t.1),.int t.2]
theorem sz {n:Nat}(h:n<=100000):n<=sizeLine:=Nat.le_trans h (by decide)
def cutN (l:List Nat)(a b:Int):List Nat:=cutL l (some a) (some b)
def bad (ts:List Tk)(p:Int×Int):Bool:=ts.all fun t=>decide (120∈cutN t.1 p.1 p.2)
theorem compW_any {α:Type}(g:α->D)(P:α->Prop){it:D->MS->(Option D->MS->Prop)->Prop}{c:MS->Prop}{μ:MS}(hc:c μ):∀ {ds:List D} {K:List D->MS->Prop},(∀ d∈ds,∀(K':Option D->MS->Prop),(∀ a,P a->K' (some (g a)) μ)->it d μ K')->(∀ as:List α,as.length=ds.length->(∀ a∈as,P a)->K (as.map g) μ)->compW it c ds μ K
 | [],K,_,k=>⟨hc,k [] rfl fun _ h=>nomatch h⟩
 | d::ds,K,h,k=>⟨hc,h d List.mem_cons_self _ fun a ha=>compW_any g P hc (fun x hx=>h x (gxI _ hx)) fun as hl hp=>k (a::as) (by rw[List.length_cons,List.length_cons,hl]) fun x hx=>by
  rcases List.mem_cons.mp hx with e | e
  ·rw[e];exact ha
  ·exact hp x e⟩
theorem rngD_eq (lo:Int)(n:Nat):rngD lo n=((List.range n).map fun i=>lo+(i:Nat)).map D.int:=by unfold rngD;rw[List.map_map];rfl
theorem rngD_len (lo:Int)(n:Nat):(rngD lo n).length=n:=by unfold rngD;rw[gxC,gxJ]
theorem atI_map {α β:Type}{g:α->β}{xs:List α}{i:Nat}{a:α}(h:xs[i]?=some a):atI (xs.map g) (i:Int)=some (g a):=atI_nat (by rw[gxH,h];rfl)
theorem txt_len (l:List Nat):(txt l).length=l.length:=lenS l
theorem cutL_le {α:Type}(l:List α)(lo hi:Option Int):(cutL l lo hi).length<=l.length:=cutL_len l lo hi
theorem set_end {μ:MS}{x y:MO}:(μ++[x]).set μ.length y=μ++[y]:=by
 rw[List.set_append_right _ _ (Nat.le_refl _),Nat.sub_self];rfl
theorem law_env {m:Nat}{b:Addr}{H:Hp}{x:Option V}:DEnv [b] H (none::some (.mr 0)::List.replicate m none) (x::some (.ref b)::List.replicate m none):=by
 refine⟨by simp,fun i d e=>?_⟩
 cases i with
 | zero=>cases e
 | succ i =>
  cases i with
  | zero=>cases e;exact⟨_,rfl,b,rfl,rfl⟩
  | succ i =>
   have:=List.eq_of_mem_replicate (gxD (show(List.replicate m (none:Option D))[i]?=some (some d)from e))
   cases this
def lawN:DN:={ nx:=fun _ _=>False,rt:=fun d _=>d=.bl true}
theorem law_go {m:Nat}{b q a:Addr}{H:Hp}{Q:VK}{W:Ds}(B:BxQ H b q)(w:W lawN (none::some (.mr 0)::List.replicate m none) [.box])(k:∀ H',Q (.bl true) H'):tDS W { nx:=fun _ H'=>Q .non H',rt:=Q} (some (.ref a)::some (.ref b)::List.replicate m none) H :=
 ⟨[b],_,[.box],lawN,law_env,box_start B,w,⟨fun _ _ _ _ _ z=>z.elim,fun d μ' φ' v H' kd _ _ i=>by cases(show d=.bl true from kd);cases(show v=_ from i);exact k H',fun _ _ _ _ _ z=>z.elim,fun _ _ _ _ _ z=>z.elim⟩⟩
section
variable {κ:Type}[DecidableEq κ]
def valV (kvs:List (κ×V))(k:κ):Option V:=(kvs.find? fun kv=>decide (kv.1=k)).map (·.2)
def putK (kvs:List (κ×V))(k:κ)(v:V):List (κ×V) :=
 if(kvs.any fun kv=>decide (kv.1=k))=true then kvs.map (fun kv=>if kv.1=k then(kv.1,v)else kv)else kvs++[(k,v)]
def dropK (kvs:List (κ×V))(k:κ):List (κ×V):=kvs.filter fun kv=>decide (kv.1≠k)
theorem valV_pos {p:κ×V}{r:List (κ×V)}{k:κ}(e:p.1=k):valV (p::r) k=some p.2:=by simp[valV,List.find?_cons,e]
theorem valV_neg {p:κ×V}{r:List (κ×V)}{k:κ}(e:¬ p.1=k):valV (p::r) k=valV r k:=by simp[valV,List.find?_cons,e]
theorem valV_any (k:κ):∀ kvs:List (κ×V),(kvs.any fun kv=>decide (kv.1=k))=(valV kvs k).isSome
 | []=>rfl
 | p::r=>by
  rw[List.any_cons]
  by_cases e:p.1=k
  ·simp only[valV_pos e,decide_eq_true e,Bool.true_or,Option.isSome_some]
  ·rw[valV_neg e,decide_eq_false e,Bool.false_or];exact valV_any k r
theorem length_putK (kvs:List (κ×V))(k:κ)(v:V):(putK kvs k v).length<=kvs.length+1:=by
 unfold putK
 split
 ·rw[gxC];omega
 ·rw[gxE,List.length_cons,List.length_nil];omega
theorem RelO.isSome_eq {o:Option V}{u:Option Value}(r:RelO o u):o.isSome=u.isSome:=by
 cases o with
 | none=>cases u with
  | none=>rfl
  | some _=>exact(show False from r).elim
 | some _=>cases u with
  | none=>exact(show False from r).elim
  | some _=>rfl
theorem KV.val {kvs:List (κ×V)}{vs:List (κ×Value)}(r:KV kvs vs)(k:κ):RelO (valV kvs k) (valueAt vs k):=by
 unfold KV at r
 induction r with
 | nil=>exact True.intro
 | @cons p q ps qs h t ih =>
  obtain⟨h1,h2⟩:=h
  by_cases e:p.1=k
  ·have e':q.1=k:=h1.symm.trans e
   have b:valueAt (q::qs) k=some q.2:=by simp[valueAt,List.find?_cons,e']
   rw[valV_pos e,b];exact h2
  ·have e':¬ q.1=k:=fun z=>e (h1.trans z)
   have b:valueAt (q::qs) k=valueAt qs k:=by simp[valueAt,List.find?_cons,e']
   rw[valV_neg e,b];exact ih
theorem KV.any {kvs:List (κ×V)}{vs:List (κ×Value)}(r:KV kvs vs)(k:κ):(kvs.any fun kv=>decide (kv.1=k))=vs.any fun kv=>decide (kv.1=k):=by
 unfold KV at r
 induction r with
 | nil=>rfl
 | cons h t ih=>rw[List.any_cons,List.any_cons,ih,h.1]
theorem KV.repl {kvs:List (κ×V)}{vs:List (κ×Value)}(r:KV kvs vs)(k:κ){y:V}{u:Value}(ry:RelV y u) :
 KV (kvs.map fun kv=>if kv.1=k then(kv.1,y)else kv) (vs.map fun kv=>if kv.1=k then(kv.1,u)else kv):=by
 unfold KV at r ⊢
 induction r with
 | nil=>exact .nil
 | @cons p q ps qs h t ih =>
  rw[List.map_cons,List.map_cons]
  refine .cons ?_ ih
  obtain⟨h1,h2⟩:=h
  by_cases e:p.1=k
  ·rw[if_pos e,if_pos (h1.symm.trans e)];exact⟨h1,ry⟩
  ·rw[if_neg e,if_neg (fun z=>e (h1.trans z))];exact⟨h1,h2⟩
theorem KV.put {kvs:List (κ×V)}{vs:List (κ×Value)}(r:KV kvs vs)(k:κ){y:V}{u:Value}(ry:RelV y u):KV (putK kvs k y) (stored vs k u):=by
 unfold putK stored
 rw[r.any k]
 by_cases e:(vs.any fun kv=>decide (kv.1=k))=true
 ·rw[if_pos e,if_pos e];exact r.repl k ry
 ·rw[if_neg e,if_neg e];exact Paired.snoc r ⟨rfl,ry⟩
theorem KV.drop {kvs:List (κ×V)}{vs:List (κ×Value)}(r:KV kvs vs)(k:κ):KV (dropK kvs k) (without vs k):=by
 unfold KV at r ⊢
 unfold dropK without
 induction r with
 | nil=>exact .nil
 | @cons p q ps qs h t ih =>
  obtain⟨h1,h2⟩:=h
  rw[List.filter_cons,List.filter_cons]
  by_cases e:p.1=k
  ·have a:¬ decide (p.1≠k)=true:=by simp[e]
   have b:¬ decide (q.1≠k)=true:=by simp[h1.symm.trans e]
   rw[if_neg a,if_neg b];exact ih
  ·have e':¬ q.1=k:=fun z=>e (h1.trans z)
   have a:decide (p.1≠k)=true:=by simp[e]
   have b:decide (q.1≠k)=true:=by simp[e']
   rw[if_pos a,if_pos b];exact .cons ⟨h1,h2⟩ ih
theorem KV.length {kvs:List (κ×V)}{vs:List (κ×Value)}(r:KV kvs vs):kvs.length=vs.length:=Paired.length r
theorem dropK_le (kvs:List (κ×V))(k:κ):(dropK kvs k).length<=kvs.length:=List.length_filter_le _ _
end
theorem kV_is {P:Program}{w:World}{k:Key}{u:Value}(r:RelV (kV k) u):(mixKind P w).is k u=true:=by
 cases k with
 | inl i=>obtain⟨t,e⟩:=(show ∃ t,u=Value.int i t from r);subst e;exact mixKind_int P w i t
 | inr x=>obtain⟨t,e⟩:=(show ∃ t,u=Value.str x t from r);subst e;exact mixKind_str P w x t
theorem items_are {P:Program}{w:World}:∀ {ks:List Key} {us:List Value},Vals (ks.map kV) us->ItemsAre (mixKind P w) ks us
 | [],_,r=>by rw[List.map_nil]at r;cases r;exact .nil
 | k::ks,_,r=>by
  rw[List.map_cons]at r
  cases r with
  | cons h t=>exact .cons (kV_is h) (items_are t)
abbrev KT (H:Hp):List (List Key×V)->List (List Key×Addr×Value)->Prop:=Paired fun p q=>p.1=q.1/\H q.2.1=some (.tup (p.1.map kV))/\RelV p.2 q.2.2
theorem KT.val {H:Hp}{kvs:List (List Key×V)}{xs:List (List Key×Addr×Value)}(r:KT H kvs xs)(k:List Key):RelO (valV kvs k) ((atKey xs k).map (·.2)):=by
 induction r with
 | nil=>exact True.intro
 | @cons p q ps qs h t ih =>
  obtain⟨h1,_,h2⟩:=h
  by_cases e:p.1=k
  ·have e':q.1=k:=h1.symm.trans e
   have b:atKey (q::qs) k=some q.2:=by simp[atKey,List.find?_cons,e']
   rw[valV_pos e,b];exact h2
  ·have e':¬ q.1=k:=fun z=>e (h1.trans z)
   have b:atKey (q::qs) k=atKey qs k:=by simp[atKey,List.find?_cons,e']
   rw[valV_neg e,b];exact ih
theorem KT.repl {H:Hp}{kvs:List (List Key×V)}{xs:List (List Key×Addr×Value)}(r:KT H kvs xs)(k:List Key){y:V}{u:Value}(ry:RelV y u) :
 KT H (kvs.map fun kv=>if kv.1=k then(kv.1,y)else kv) (xs.map (putAt k u)):=by
 induction r with
 | nil=>exact .nil
 | @cons p q ps qs h t ih =>
  rw[List.map_cons,List.map_cons]
  refine .cons ?_ ih
  obtain⟨h1,h2,h3⟩:=h
  unfold putAt
  by_cases e:p.1=k
  ·rw[if_pos e,if_pos (h1.symm.trans e)];exact⟨h1,h2,ry⟩
  ·rw[if_neg e,if_neg (fun z=>e (h1.trans z))];exact⟨h1,h2,h3⟩
theorem KT.put {H:Hp}{kvs:List (List Key×V)}{xs:List (List Key×Addr×Value)}(r:KT H kvs xs)(k:List Key){b:Addr}{y:V}{u:Value}(hb:H b=some (.tup (k.map kV)))(ry:RelV y u) :
 KT H (putK kvs k y) (storedH xs k b u):=by
 have e:(kvs.any fun kv=>decide (kv.1=k))=(atKey xs k).isSome:=by
  rw[valV_any,(r.val k).isSome_eq,Option.isSome_map]
 unfold putK storedH
 rw[e]
 by_cases q:(atKey xs k).isSome=true
 ·rw[if_pos q,if_pos q];exact r.repl k ry
 ·rw[if_neg q,if_neg q];exact Paired.snoc r ⟨rfl,hb,ry⟩
theorem KT.keeps {H H':Hp}{kvs:List (List Key×V)}{xs:List (List Key×Addr×Value)}(r:KT H kvs xs)(ht:∀ b ys,H b=some (.tup ys)->H' b=some (.tup ys)):KT H' kvs xs :=
 Paired.mapP r fun _ _ z=>⟨z.1,ht _ _ z.2.1,z.2.2⟩
section
variable {P:Program}{w:World}{H:Hp}{h:Heap}{a:Addr}
theorem rd_of {u:HO}(ok:HOk P w H h)(e:Rd H a u):ObjOk P w H h a u:=e.ok ok
theorem dk_rd {kvs:List (Key×V)}(ok:HOk P w H h)(e:Rd H a (.dK kvs)):kvs.length<=sizeLine/\(a==sysModules)=false/\∃ vs,KV kvs vs/\h.DictOf (mixKind P w) a vs :=
 show ObjOk P w H h a (.dK kvs)from rd_of ok e
theorem dk_of {kvs:List (Key×V)}(ok:HOk P w H h)(e:H a=some (.dK kvs)):kvs.length<=sizeLine/\(a==sysModules)=false/\∃ vs,KV kvs vs/\h.DictOf (mixKind P w) a vs:=dk_rd ok (.inl e)
theorem key_of {ks:List Key}(ok:HOk P w H h)(e:H a=some (.tup (ks.map kV))):(tupleKind (mixKind P w)).is h ks a:=by
 obtain⟨_,its,r,o,h1,h2,n,h3⟩:=(show ObjOk P w H h a (.tup (ks.map kV))from ok a _ e)
 exact⟨o,its.toArray,n,h1,h2,h3,by simpa using items_are r⟩
theorem dt_rd {kvs:List (List Key×V)}(ok:HOk P w H h)(e:Rd H a (.dT kvs)):kvs.length<=sizeLine/\(a==sysModules)=false /\
 ∃ xs,KT H kvs xs/\h.DictOfH (tupleKind (mixKind P w)) a xs:=by
 obtain⟨z,y,xs,r,o,es,ep,h1,h2,h3,h4,h5⟩:=(show ObjOk P w H h a (.dT kvs)from rd_of ok e)
 refine⟨z,y,xs,r,o,es,ep,h1,h2,h3,h4,fun x hx=>?_,h5⟩
 have all:∀ {l:List (List Key×V)} {m:List (List Key×Addr×Value)},KT H l m->∀ x∈m,(tupleKind (mixKind P w)).is h x.1 x.2.1:=by
  intro l m q
  induction q with
  | nil=>intro x hx;exact nomatch hx
  | @cons p q ps qs hq t ih =>
   intro x hx
   rcases List.mem_cons.mp hx with e | hx
   ·subst e
    exact key_of ok (by rw[<- hq.1];exact hq.2.1)
   ·exact ih x hx
 exact all r x hx
theorem dt_of {kvs:List (List Key×V)}(ok:HOk P w H h)(e:H a=some (.dT kvs)):kvs.length<=sizeLine/\(a==sysModules)=false /\
 ∃ xs,KT H kvs xs/\h.DictOfH (tupleKind (mixKind P w)) a xs:=dt_rd ok (.inl e)
end
def DGet (H:Hp)(a:Addr)(y:V)(r:Option V):Prop :=
 (∃ kvs k,Rd H a (.dK kvs)/\y=kV k/\r=valV kvs k)\/∃ kvs k b,Rd H a (.dT kvs)/\y=.ref b/\H b=some (.tup (k.map kV))/\r=valV kvs k
def DPut (H:Hp)(a:Addr)(y v:V)(H':Hp):Prop :=
 (∃ kvs k,H a=some (.dK kvs)/\y=kV k/\kvs.length<sizeLine/\H'=upd H a (.dK (putK kvs k v))) \/
 ∃ kvs k b,H a=some (.dT kvs)/\y=.ref b/\H b=some (.tup (k.map kV))/\kvs.length<sizeLine/\H'=upd H a (.dT (putK kvs k v))
theorem DPut.k {H:Hp}{a:Addr}{kvs:List (Key×V)}{k:Key}{v:V}(e:H a=some (.dK kvs))(hl:kvs.length<sizeLine):DPut H a (kV k) v (upd H a (.dK (putK kvs k v))):=.inl ⟨kvs,k,e,rfl,hl,rfl⟩
section
variable {X:Cx}{pins:List (Addr×Obj)}{σ:St}{H:Hp}{s:Shared}{a:Addr}{y v:V}{u r:Value}{o:Option V}{A:Around}{E:Value->Shared->Prop}
theorem Inv.big (I:Inv X pins σ H s):sysModules<s.heap.objs.size:=by
 have h:mainGlobals<s.heap.objs.size:=(I.mod.glob.keeps I.bk).lt
 exact Nat.lt_trans (by decide) h
theorem d_getItem {Q:Value->Shared->Prop}(hu:A.units+1<cLine)(I:Inv X pins σ H s)(g:DGet H a y (some v))(ry:RelV y u)(h:∀ w' s',Inv X pins σ H s'->RelV v w'->Q w' s') :
 wpAny (model X.prog X.w) A (getItem (.ref a) u) Q E s:=by
 rcases g with⟨kvs,k,e,ey,l⟩ | ⟨kvs,k,b,e,ey,eb,l⟩
 ·subst ey
  obtain⟨z,hd,vs,rel,dd⟩:=dk_rd I.hok e
  obtain⟨w',hw,rw'⟩:=RelO.some_of (v:=v) (o:=valueAt vs k) (by rw[l];exact rel.val k)
  exact wpAny_getItem_of (kV_is ry) dd.mapOf hw (h w' _ (I.tok _) rw')
 ·subst ey
  cases(show u=Value.ref b from ry)
  obtain⟨z,hd,xs,rel,dd⟩:=dt_rd I.hok e
  obtain⟨w',hw,rw'⟩:=RelO.some_of (v:=v) (o:=(atKey xs k).map (·.2)) (by rw[l];exact rel.val k)
  obtain⟨p,hp,hp2⟩:=Option.map_eq_some_iff.mp hw
  refine wpAny_getItem_heap (tupleKind_room_in1 hu) (key_of I.hok eb) dd hp ?_
  rw[hp2]
  exact h w' _ (I.tok _) rw'
theorem d_in {Q:Value->Shared->Prop}(hu:A.units+1<cLine)(I:Inv X pins σ H s)(g:DGet H a y o)(ry:RelV y u)(h:∀ s',Inv X pins σ H s'->Q (.bool o.isSome) s') :
 wpAny (model X.prog X.w) A (compareOp .In u (.ref a)) Q E s:=by
 rcases g with⟨kvs,k,e,ey,l⟩ | ⟨kvs,k,b,e,ey,eb,l⟩
 ·subst ey
  obtain⟨z,hd,vs,rel,dd⟩:=dk_rd I.hok e
  refine wpAny_in_of (kV_is ry) hd dd.mapOf ?_
  rw[<- (rel.val k).isSome_eq,<- l]
  exact h _ (I.tok _)
 ·subst ey
  cases(show u=Value.ref b from ry)
  obtain⟨z,hd,xs,rel,dd⟩:=dt_rd I.hok e
  refine wpAny_in_heap (tupleKind_room_in1 hu) (key_of I.hok eb) hd dd ?_
  have q:=(rel.val k).isSome_eq
  rw[Option.isSome_map]at q
  rw[<- q,<- l]
  exact h _ (I.tok _)
theorem d_notIn {Q:Value->Shared->Prop}(hu:A.units+1<cLine)(I:Inv X pins σ H s)(g:DGet H a y o)(ry:RelV y u)(h:∀ s',Inv X pins σ H s'->Q (.bool (!o.isSome)) s') :
 wpAny (model X.prog X.w) A (compareOp .NotIn u (.ref a)) Q E s:=by
 rcases g with⟨kvs,k,e,ey,l⟩ | ⟨kvs,k,b,e,ey,eb,l⟩
 ·subst ey
  obtain⟨z,hd,vs,rel,dd⟩:=dk_rd I.hok e
  refine wpAny_notIn_of (kV_is ry) hd dd.mapOf ?_
  rw[<- (rel.val k).isSome_eq,<- l]
  exact h _ (I.tok _)
 ·subst ey
  cases(show u=Value.ref b from ry)
  obtain⟨z,hd,xs,rel,dd⟩:=dt_rd I.hok e
  refine wpAny_notIn_heap (tupleKind_room_in1 hu) (key_of I.hok eb) hd dd ?_
  have q:=(rel.val k).isSome_eq
  rw[Option.isSome_map]at q
  rw[<- q,<- l]
  exact h _ (I.tok _)
theorem d_write {h':Heap}{t':Nat}{ob:HO}(I:Inv X pins σ H s)(mu:Mut (H a))(hs:Heap.SameBut a s.heap h')(he:∃ q,h'.get? a=some q)(new:ObjOk X.prog X.w (upd H a ob) h' a ob) :
 Inv X pins σ (upd H a ob) { s with heap:=h',toks:=t'} :=
 I.write (x:=a) (e:=a) mu (.inl rfl) (fun b q hb z=>(hs.2 b hb).trans z) he new
theorem dk_new {P:Program}{w:World}{H':Hp}{h':Heap}{kvs:List (Key×V)}{vs:List (Key×Value)}(z:kvs.length<=sizeLine)(hd:(a==sysModules)=false)(rel:KV kvs vs)(dd:h'.DictOf (mixKind P w) a vs) :
 ObjOk P w H' h' a (.dK kvs):=⟨z,hd,vs,rel,dd⟩
theorem d_setItem {H':Hp}{Q:Unit->Shared->Prop}(hu:A.units+1<cLine)(I:Inv X pins σ H s)(g:DPut H a y v H')(ry:RelV y u)(rv:RelV v r)(h:∀ s',Inv X pins σ H' s'->Q () s') :
 wpAny (model X.prog X.w) A (setItem (.ref a) u r) Q E s:=by
 rcases g with⟨kvs,k,e,ey,l,eH⟩ | ⟨kvs,k,b,e,ey,eb,l,eH⟩
 ·subst ey eH
  obtain⟨z,hd,vs,rel,dd⟩:=dk_of I.hok e
  have hz:vs.length<=sizeLine:=by rw[<- rel.length];exact z
  have hl:(putK kvs k v).length<=sizeLine:=by have:=length_putK kvs k v;omega
  refine wpAny_setItem_pairs (hsz:=hz) (kV_is ry) dd fun h' dd' hs=>h _ ?_
  have he:∃ q,h'.get? a=some q:=let ⟨q,_,_,hq,_⟩:=dd';⟨q,hq⟩
  exact d_write I (by rw[e];exact True.intro) hs he (dk_new hl hd (rel.put k rv) dd')
 ·subst ey eH
  cases(show u=Value.ref b from ry)
  obtain⟨z,hd,xs,rel,dd⟩:=dt_of I.hok e
  have hz:xs.length<=sizeLine:=by rw[<- Paired.length rel];exact z
  have hl:(putK kvs k v).length<=sizeLine:=by have:=length_putK kvs k v;omega
  refine wpAny_setItem_heap (hsz:=hz) (tupleKind_room_in1 hu) (key_of I.hok eb) dd fun h' dd' hs=>h _ ?_
  obtain⟨q,es,ep,hq,h2,h3,h4,_,h5⟩:=dd'
  refine d_write I (by rw[e];exact True.intro) hs ⟨q,hq⟩ ⟨hl,hd,_,(rel.put k eb rv).keeps fun c ys ec=>?_,q,es,ep,hq,h2,h3,h4,h5⟩
  rw[upd_ne (ne_of ec e (fun z=>nomatch z))]
  exact ec
end
section
variable {X:Cx}{pins:List (Addr×Obj)}{σ:St}{H:Hp}{s:Shared}{a:Addr}{kvs:List (Key×V)}{k:Key}{u:Value}{A:Around}{E:Value->Shared->Prop}
theorem d_delItem {Q:Unit->Shared->Prop}(I:Inv X pins σ H s)(e:H a=some (.dK kvs))(ry:RelV (kV k) u)(l:(valV kvs k).isSome=true)(h:∀ s',Inv X pins σ (upd H a (.dK (dropK kvs k))) s'->Q () s') :
 wpAny (model X.prog X.w) A (delItem (.ref a) u) Q E s:=by
 obtain⟨z,hd,vs,rel,dd⟩:=dk_of I.hok e
 refine wpAny_delItem_slot dd.typeIs (by decide) PySem.F.slot_dict_delitem
  (call_meetsIn PySem.F.slot_dict_delitem dd.typeIs PySem.F.entry_dict_delitem (PySem.F.args_dict_delitem_2 _ _) (meets_dict_delitem_pairs (mixKind X.prog X.w) a (kV_is ry)) ⟨vs,dd,by rw[<- rel.length];exact z,by rw[<- (rel.val k).isSome_eq];exact l,fun h' dd' hs=>h _ ?_⟩)
 have he:∃ q,h'.get? a=some q:=let ⟨q,_,_,hq,_⟩:=dd';⟨q,hq⟩
 exact d_write I (by rw[e];exact True.intro) hs he (dk_new (Nat.le_trans (dropK_le kvs k) z) hd (rel.drop k) dd')
theorem d_pop {v:V}{more:List Value}{Q:Value->Shared->Prop}(I:Inv X pins σ H s)(e:H a=some (.dK kvs))(ry:RelV (kV k) u)(l:valV kvs k=some v)(hm:more=[]\/∃ x,more=[x])
 (h:∀ w' s',Inv X pins σ (upd H a (.dK (dropK kvs k))) s'->RelV v w'->Q w' s'):wpAny (model X.prog X.w) A (call (.builtin "dict.pop") (.ref a::u::more)) Q E s:=by
 obtain⟨z,hd,vs,rel,dd⟩:=dk_of I.hok e
 obtain⟨w',hw,rw'⟩:=RelO.some_of (v:=v) (o:=valueAt vs k) (by rw[<- l];exact rel.val k)
 have hp:(keyPart u).isSome=true:=by
  cases k with
  | inl i=>obtain⟨t,q⟩:=(show ∃ t,u=Value.int i t from ry);subst q;rfl
  | inr x=>obtain⟨t,q⟩:=(show ∃ t,u=Value.str x t from ry);subst q;rfl
 have ha:argsOk "dict.pop" ⟨.ref a::u::more,[]⟩:=by
  rcases hm with q | ⟨x,q⟩
  ·subst q;exact PySem.F.args_dict_pop_2 _ _
  ·subst q;exact PySem.F.args_dict_pop_3 _ _ _
 refine call_meetsIn PySem.F.slot_dict_pop dd.typeIs PySem.F.entry_dict_pop ha (meets_dict_pop_there (mixKind X.prog X.w) a (kV_is ry) more hm hp)
  ⟨vs,w',dd,by rw[<- rel.length];exact z,hw,fun h' dd' hs=>h w' _ ?_ rw'⟩
 have he:∃ q,h'.get? a=some q:=let ⟨q,_,_,hq,_⟩:=dd';⟨q,hq⟩
 exact d_write I (by rw[e];exact True.intro) hs he (dk_new (Nat.le_trans (dropK_le kvs k) z) hd (rel.drop k) dd')
theorem d_len {Q:Value->Shared->Prop}(I:Inv X pins σ H s)(e:Rd H a (.dK kvs))(h:∀ t s',Inv X pins σ H s'->Q (.int kvs.length t) s'):wpAny (model X.prog X.w) A (call (.builtin "len") [.ref a]) Q E s:=by
 obtain⟨z,hd,vs,rel,dd⟩:=dk_rd I.hok e
 refine call_len_dict hd dd (by rw[<- rel.length];rw[sizeLine_eq]at z;omega) ?_
 rw[<- rel.length]
 exact h _ _ (I.tok _)
end
def NoSl (i:Expr):Prop:=∀ ov iv,subscripted i false ov iv=operate [ov,iv] (getItem ov iv)
theorem subD_of {prog:Program}{w:World}{A:Around}{E:Value->Shared->Prop}{s:Shared}{env:Env}{value slice:Expr}{pos:Pos}{T id:String}{Q:Value->Shared->Prop}
 (hl:typeLookup (.type T) "__getitem__"=pure (some (.builtin id))) (hs:NoSl slice)
 (h:wpAny (model prog w) A (eval value env) (fun o s₁=>wpAny (model prog w) A (eval slice env) (fun i s₂=>s₂.TypeIs o T/\wpAny (model prog w) A (getItem o i) Q E s₂) E s₁) E s) :
 wpAny (model prog w) A (eval (.Subscript value slice pos) env) Q E s:=by
 refine Subscript_ (wpAny_mono h (fun o s₁ h₁=>wpAny_mono h₁ (fun i s₂ h₂=>?_) fun _ _ x=>x) fun _ _ x=>x)
 obtain⟨hT,h₂⟩:=h₂
 unfold subscriptTail
 refine gxM ?_
 rw[getitemInPython_of_ne hT.not_modules]
 refine gxM (wpAny_specialOf hT hl ?_)
 have fin:wpAny (model prog w) A (subscripted slice false o i) (fun r s₃=>wpAny (model prog w) A (letTemporaryGo value o r >>= fun _=>pure r) Q E s₃) E s₂:=by
  rw[hs o i]
  exact wpAny_operating (wpAny_mono h₂ (fun r s₃ h₃=>gxM (wpAny_letTemporaryGo (wpAny_pure h₃))) fun _ _ x=>x)
 first
  | exact wpAny_pure (gxM fin)
  | exact gxM (wpAny_pure (gxM fin))
  | exact gxM fin
theorem dict_typeIs {X:Cx}{pins:List (Addr×Obj)}{σ:St}{H:Hp}{s:Shared}{a:Addr}{y:V}{o:Option V}(I:Inv X pins σ H s)(g:DGet H a y o):s.TypeIs (.ref a) "dict":=by
 rcases g with⟨kvs,k,e,_,_⟩ | ⟨kvs,k,b,e,_,_,_⟩
 ·obtain⟨_,_,vs,_,dd⟩:=dk_rd I.hok e
  exact dd.typeIs
 ·obtain⟨_,_,xs,_,dd⟩:=dt_rd I.hok e
  exact dd.typeIs
def tDGet (td ty:TE):TE:=fun σ H Q=>td σ H fun x H1=>ty σ H1 fun y H2=>∃ a v,x=.ref a/\DGet H2 a y (some v)/\Q v H2
def tDIn (ty td:TE):TE:=fun σ H Q=>ty σ H fun y H1=>td σ H1 fun x H2=>∃ a o,x=.ref a/\DGet H2 a y o/\Q (.bl o.isSome) H2
def tDNotIn (ty td:TE):TE:=fun σ H Q=>ty σ H fun y H1=>td σ H1 fun x H2=>∃ a o,x=.ref a/\DGet H2 a y o/\Q (.bl (!o.isSome)) H2
def sDPut (td ty tv:TE):TS:=fun D σ H=>tv σ H fun v H1=>td σ H1 fun x H2=>ty σ H2 fun y H3=>∃ a H4,x=.ref a/\DPut H3 a y v H4/\D.nx σ H4
section
variable {X:Cx}{o i e value:Expr}{pos pos' tpos:Pos}{td ty tv:TE}
theorem pe_dget (hu:X.A.units+1<cLine)(ho:PE X o td)(hi:PE X i ty)(hs:NoSl i):PE X (.Subscript o i pos) (tDGet td ty):=by
 intro pins s σ H Q I h
 refine subD_of PySem.F.slot_dict_getitem.lookup hs (thn (ho pins s σ H _ I h) fun u s1 hq2=>?_)
 obtain⟨x,H1,I1,rx,q1⟩:=hq2
 refine thn (hi pins s1 σ H1 _ I1 q1) fun iv s2 hq3=>?_
 obtain⟨y,H2,I2,ry,a,v,ex,g,q2⟩:=hq3
 subst ex
 obtain rfl:u=Value.ref a:=rx
 exact⟨dict_typeIs I2 g,d_getItem hu I2 g ry fun w' s3 I3 rw'=>⟨v,H2,I3,rw',q2⟩⟩
theorem pc_din (hu:X.A.units+1<cLine)(hi:PE X i ty)(ho:PE X o td):PC X .In i o (tDIn ty td):=by
 intro pins s σ H Q I h
 refine thn (hi pins s σ H _ I h) fun iv s1 hq4=>?_
 obtain⟨y,H1,I1,ry,q1⟩:=hq4
 refine thn (ho pins s1 σ H1 _ I1 q1) fun u s2 hq5=>?_
 obtain⟨x,H2,I2,rx,a,ov,ex,g,q2⟩:=hq5
 subst ex
 obtain rfl:u=Value.ref a:=rx
 exact d_in hu I2 g ry fun s3 I3=>⟨.bl ov.isSome,H2,I3,rfl,q2⟩
theorem pc_dnotin (hu:X.A.units+1<cLine)(hi:PE X i ty)(ho:PE X o td):PC X .NotIn i o (tDNotIn ty td):=by
 intro pins s σ H Q I h
 refine thn (hi pins s σ H _ I h) fun iv s1 hq6=>?_
 obtain⟨y,H1,I1,ry,q1⟩:=hq6
 refine thn (ho pins s1 σ H1 _ I1 q1) fun u s2 hq0=>?_
 obtain⟨x,H2,I2,rx,a,ov,ex,g,q2⟩:=hq0
 subst ex
 obtain rfl:u=Value.ref a:=rx
 exact d_notIn hu I2 g ry fun s3 I3=>⟨.bl (!ov.isSome),H2,I3,rfl,q2⟩
theorem ps_dput (hu:X.A.units+1<cLine)(ho:PE X o td)(hi:PE X i ty)(hv:PE X value tv)(hs:swapsWith value (some (.Subscript o i pos')) pos.line X.env=pure false) :
 PS X (.Assign [.Subscript o i pos'] value pos) (sDPut td ty tv):=by
 intro pins s σ H D I h
 refine wpAny_Assign_Subscript (thn (hv pins s σ H _ I h) fun r s1 hq1=>?_) hs
 obtain⟨v,H1,I1,rv,q1⟩:=hq1
 refine thn (ho pins s1 σ H1 _ I1 q1) fun u s2 hq2=>?_
 obtain⟨x,H2,I2,rx,q2⟩:=hq2
 refine thn (hi pins s2 σ H2 _ I2 q2) fun iv s3 hq3=>?_
 obtain⟨y,H3,I3,ry,a,H4,ex,g,q3⟩:=hq3
 subst ex
 obtain rfl:u=Value.ref a:=rx
 exact d_setItem hu I3 g ry rv fun s4 I4=>⟨σ,H4,I4,q3⟩
end
theorem dk_empty {P:Program}{w:World}{H:Hp}(h:Heap)(hb:sysModules<h.objs.size):ObjOk P w H (h.push { cls:=.type "dict",data:=.dict #[]}) h.objs.size (.dK []) :=
 ⟨Nat.zero_le _,beq_eq_false_iff_ne.mpr (Ne.symm (Nat.ne_of_lt hb)),[],.nil,Heap.DictOf.new h⟩
def tDNewK:TE:=fun _ H Q=>∀ p,H p=none->Q (.ref p) (upd H p (.dK []))
section
variable {X:Cx}{pos:Pos}
theorem pe_dnewK:PE X (.Dict [] [] pos) tDNewK:=fun pins s σ H Q I h =>
 wpAny_Dict_empty ⟨.ref s.heap.objs.size,_,I.laid (a:=s.heap.objs.size) (o:=.dK []) (t':=s.toks) (fun _ _ q=>gxL _ q) (Nat.le_refl _) (dk_empty s.heap I.big),rfl,h _ (I.hok.fresh (Nat.le_refl _))⟩
end
structure M1 (X:Cx)(o:Expr)(m:Str)(apos:Pos)(e:Expr)(cpos:Pos):Prop where
 base:attributeBase o m X.env (eval o X.env)=eval o X.env
 few:((backTo cpos (starEach [e] X.env)).all (fun x=>!x.1)&&(backToKw cpos (keywordEach [] X.env)).all (fun x=>x.1.isSome)
  && decide (([e]:List Expr).length+([]:List Keyword).length+(if([]:List Keyword).isEmpty then 0 else 1)<30))=true
 line:(apos.endLine==cpos.line)=true
 trees:backTo cpos (starEach [e] X.env)=[(false,eval e X.env)]
structure M2 (X:Cx)(o:Expr)(m:Str)(apos:Pos)(e f:Expr)(cpos:Pos):Prop where
 base:attributeBase o m X.env (eval o X.env)=eval o X.env
 few:((backTo cpos (starEach [e,f] X.env)).all (fun x=>!x.1)&&(backToKw cpos (keywordEach [] X.env)).all (fun x=>x.1.isSome)
  && decide (([e,f]:List Expr).length+([]:List Keyword).length+(if([]:List Keyword).isEmpty then 0 else 1)<30))=true
 line:(apos.endLine==cpos.line)=true
 trees:backTo cpos (starEach [e,f] X.env)=[(false,eval e X.env),(false,eval f X.env)]
def IsD (H:Hp)(a:Addr):Prop:=(∃ kvs,Rd H a (.dK kvs))\/∃ kvs,Rd H a (.dT kvs)
theorem isD_at {X:Cx}{pins:List (Addr×Obj)}{σ:St}{H:Hp}{s:Shared}{a:Addr}(I:Inv X pins σ H s)(d:IsD H a) :
 s.TypeIs (.ref a) "dict"/\(∀ b,Value.ref a=.ref b->∃ ob,s.heap.get? b=some ob/\ob.dict=none)/\(a==sysModules)=false:=by
 rcases d with⟨kvs,e⟩ | ⟨kvs,e⟩
 ·obtain⟨_,hd,vs,_,dd⟩:=dk_rd I.hok e
  refine⟨dd.typeIs,fun b q=>?_,hd⟩
  cases q
  obtain⟨ob,_,_,h1,h2,_⟩:=dd
  exact⟨ob,h1,h2.2.1⟩
 ·obtain⟨_,hd,xs,_,dd⟩:=dt_rd I.hok e
  refine⟨dd.typeIs,fun b q=>?_,hd⟩
  cases q
  obtain⟨ob,_,_,h1,h2,_⟩:=dd
  exact⟨ob,h1,h2.2.1⟩
def tDPop1 (td ty:TE):TE:=fun σ H Q=>td σ H fun x H1=>∃ a,x=.ref a/\IsD H1 a/\ty σ H1 fun y H2=>∃ kvs k v,H2 a=some (.dK kvs)/\y=kV k/\valV kvs k=some v/\Q v (upd H2 a (.dK (dropK kvs k)))
section
variable {X:Cx}{o e f:Expr}{apos cpos:Pos}{td ty tx:TE}
theorem pe_dpop1 (ho:PE X o td)(he:PE X e ty)(m:M1 X o "pop" apos e cpos):PE X (.Call (.Attribute o "pop" apos) [e] [] cpos) (tDPop1 td ty):=by
 intro pins s σ H Q I h
 refine wpAny_Call_method m.base m.few m.line PySem.F.plainAttrs_dict PySem.F.slot_dict_pop PySem.F.type_dict_pop (thn (ho pins s σ H _ I h) fun u s1 hq4=>?_)
 obtain⟨x,H1,I1,rx,a,ex,d,q1⟩:=hq4
 subst ex
 obtain rfl:u=Value.ref a:=rx
 obtain⟨t1,t2,_⟩:=isD_at I1 d
 refine⟨t1,t2,?_⟩
 rw[m.trees]
 refine Calls.callWith_builtin rfl (Calls.evalArgs_plain (Calls.spliced_cons (thn (he pins s1 σ H1 _ I1 q1) fun iv s2 hq5=>?_)))
 obtain⟨y,H2,I2,ry,kvs,k,v,ea,ey,l,q2⟩:=hq5
 refine Calls.spliced_nil ?_
 subst ey
 exact d_pop I2 ea ry l (.inl rfl) fun w' s3 I3 rw'=>⟨v,_,I3,rw',q2⟩
end
section
variable {X:Cx}{pins:List (Addr×Obj)}{σ:St}{H:Hp}{s:Shared}{a:Addr}{kvs:List (Key×V)}{A:Around}{E:Value->Shared->Prop}
theorem d_copyOf {Q:Value->Shared->Prop}(I:Inv X pins σ H s)(e:Rd H a (.dK kvs))(h:∀ p s',H p=none->Inv X pins σ (upd H p (.dK kvs)) s'->Q (.ref p) s'):wpAny (model X.prog X.w) A (call (.type "dict") [.ref a]) Q E s:=by
 obtain⟨z,hd,vs,rel,dd⟩:=dk_rd I.hok e
 refine kt_call_dict hd dd (by rw[<- rel.length];exact z) fun h' dd' hs=>?_
 refine h _ _ (I.hok.fresh (Nat.le_refl _)) (I.laid (a:=s.heap.objs.size) (o:=.dK kvs) (t':=s.toks) (fun b q hq=>?_) (Nat.le_refl _) (dk_new z (beq_eq_false_iff_ne.mpr (Ne.symm (Nat.ne_of_lt I.big))) rel dd'))
 exact(hs.2 b (Nat.ne_of_lt (gxN hq))).trans (gxL _ hq)
end
def cxE (X:Cx)(N:List Str)(sc:Scope)(fp:List Addr)(s:Shared)(H:Hp):Cx where
 prog:=X.prog
 w:=X.w
 K:=X.K
 mg:=X.mg
 base:=X.base
 A:=X.A
 N:=N
 s₀:=s
 H₀:=H
 env:=envC sc s.heap.objs.size X.env
 outer:=X.stack
 stack:=X.stack
 ex:=fp
 fn:=fun x=>sc.names.lookup x==some .cell
 calm:=X.calm
 pn:=[]
 xe:=fun _ _=>False
def heapE (sc:Scope)(h:Heap):Heap:=pushCells (h.push { cls:=.type "dict",data:=.dict #[]}) sc.names
theorem heapE_keeps {sc:Scope}{h:Heap}:∀ b o,h.get? b=some o->(heapE sc h).get? b=some o:=fun b o e=>pushCells_keeps _ _ b o (gxL _ e)
section
variable {X:Cx}{pins:List (Addr×Obj)}{σ:St}{H:Hp}{s:Shared}{N:List Str}{js:List (Option Nat)}{sc:Scope}{fp:List Addr}
theorem inv_compE (I:Inv X pins σ H s)(hc:CompOk X N js sc)(hf:∀ b∈fp,FpOk X pins H b)(ho:∀ b∈fp,∃ o,s.heap.get? b=some o)(tk:Nat) :
 Inv (cxE X N sc fp s H) [] (startC js σ) H { s with heap:=heapE sc s.heap,toks:=tk}:=by
 have freeX:∀ y∈sc.names,y.2=.free->∃ c,X.env.cells.lookup y.1=some c:=fun y hy e=>I.ok.has y.1 (hc.free y hy e)
 have ok:=cellsFrom_ok sc.names (s.heap.push { cls:=.type "dict",data:=.dict #[]}) (s.heap.objs.size+1) [] ⟨fun _ _ hm=>(nomatch hm),List.Pairwise.nil⟩
  (by rw[Heap.size_push];exact Nat.le_refl _)
 rw[Heap.size_push]at ok
 have eC:(envC sc s.heap.objs.size X.env).cells=cellsFrom (s.heap.objs.size+1) sc.names []++closOf X.env.cells sc.names []:=cellsFrom_app sc.names _ [] _
 have lk:∀ x c,(envC sc s.heap.objs.size X.env).cells.lookup x=some c->(x,c)∈cellsFrom (s.heap.objs.size+1) sc.names []\/X.env.cells.lookup x=some c:=fun x c e=>by
  rw[eC]at e
  rcases List.mem_append.mp (mem_of_lookup e)with h | h
  ·exact .inl h
  ·rcases closOf_mem freeX x c h with h | h
   ·cases h
   ·exact .inr h
 have big:∀(x:Str) (c:Nat),(x,c)∈cellsFrom (s.heap.objs.size+1) sc.names []->s.heap.objs.size+1<=c:=fun x c h=>(ok.empty x c h).2
 have small:∀(x:Str) (c:Nat),X.env.cells.lookup x=some c->c<s.heap.objs.size:=fun x c h=>let ⟨_,q⟩:=I.cell x c h;q.lt
 have has:∀ x,((envC sc s.heap.objs.size X.env).kindOf x=some .cell\/(envC sc s.heap.objs.size X.env).kindOf x=some .free)->∃ c,(envC sc s.heap.objs.size X.env).cells.lookup x=some c:=fun x h=>by
  have h':(relabel sc X.env).names.lookup x=some .cell\/(relabel sc X.env).names.lookup x=some .free:=h
  rw[lookup_relabel]at h'
  rw[eC,List.lookup_append]
  cases q:sc.names.lookup x with
  | none=>rw[q]at h';rcases h' with h' | h' <;> cases h'
  | some k =>
   rw[q]at h'
   have hk:=relK_vis (env:=X.env) (x:=x) (k:=k) (h'.elim (fun z=>.inl (Option.some.inj z)) fun z=>.inr (Option.some.inj z))
   rcases hk with rfl | rfl
   ·obtain⟨c,hc'⟩:=cell_has (n:=s.heap.objs.size+1) q
    exact⟨c,by rw[hc'];rfl⟩
   ·have z:=closOf_has (cells:=X.env.cells) sc.names [] x (mem_of_lookup q)
    obtain⟨c,hc'⟩:=Option.isSome_iff_exists.mp z
    cases q2:(cellsFrom (s.heap.objs.size+1) sc.names []).lookup x with
    | none=>exact⟨c,by rw[hc'];rfl⟩
    | some d=>exact⟨d,rfl⟩
 have okY:(cxE X N sc fp s H).Ok:=by
  refine⟨I.ok.mod,hc.kind,I.ok.glob,I.ok.blt,Nat.le_refl _,fun x y c h1 h2=>?_,has,fun x c hx h=>?_,I.ok.hd,I.ok.frames,.inl rfl,fun b hb=>⟨?_,fun x c h=>?_⟩,I.bs,Nat.le_trans I.ok.bsz I.sz,fun b o e hb=>?_,fun b hb hs=>?_,I.stack,I.stkFree⟩
  ·rcases lk x c h1 with g1 | g1 <;> rcases lk y c h2 with g2 | g2
   ·exact name_of_addr ok.apart g1 g2
   ·exact absurd (Nat.lt_of_lt_of_le (small _ _ g2) (Nat.le_trans (Nat.le_add_right _ 1) (big _ _ g1))) (Nat.lt_irrefl _)
   ·exact absurd (Nat.lt_of_lt_of_le (small _ _ g1) (Nat.le_trans (Nat.le_add_right _ 1) (big _ _ g2))) (Nat.lt_irrefl _)
   ·exact I.ok.inj x y c g1 g2
  ·have hx':sc.names.lookup x=some .cell:=by simpa [cxE]using hx
   have h':(envC sc s.heap.objs.size X.env).cells.lookup x=some c:=h
   rw[eC,List.lookup_append]at h'
   obtain⟨c2,hc'⟩:=cell_has (n:=s.heap.objs.size+1) hx'
   rw[hc']at h'
   have e:c2=c:=Option.some.inj h'
   subst e
   exact Nat.le_trans (Nat.le_add_right _ 1) (big _ _ (mem_of_lookup hc'))
  ·obtain⟨o,e⟩:=ho b hb
   exact Nat.ne_of_lt (gxN e)
  ·obtain⟨o,e⟩:=ho b hb
   have l:=gxN e
   rcases lk x c h with g | g
   ·exact Nat.ne_of_gt (Nat.lt_of_lt_of_le l (Nat.le_trans (Nat.le_add_right _ 1) (big _ _ g)))
   ·exact(hf b hb).2.2.2.2.1 x c g
  ·rcases(hf b hb).2.2.2.1 with z | z
   ·exact I.ok.noex b o e z
   ·exact absurd (Nat.lt_of_lt_of_le (gxN e) (Nat.le_trans I.ok.bsz z)) (Nat.lt_irrefl _)
  ·rcases List.mem_cons.mp (I.stkSub b hs)with z | z
   ·exact(hf b hb).2.1 z
   ·exact(hf b hb).2.2.1 z
 have keepH:∀ b u,s.heap.get? b=some u->(heapE sc s.heap).get? b=some u:=heapE_keeps
 have nsC:(heapE sc s.heap).Ns s.heap.objs.size fun _=>none:=by
  have q:=(Heap.Ns.new s.heap (.type "dict")).keeps (pushCells_keeps sc.names _)
  exact q
 refine⟨okY,rfl,I.bare,Un.kept keepH,⟨_,nsC,fun i x v e1 e2 e3=>?_⟩,fun x c h=>?_,I.hok.fresh (Nat.le_refl _),fun x c h=>?_,fun p hp=>absurd (show p∈([]:List (Addr×Obj))from hp) (by simp),I.hok.kept keepH,?_⟩
 ·obtain⟨j,hj,hv⟩:=getStart e2
  obtain⟨g1,g2,g3,g4⟩:=hc.slot i x j e1 hj
  have kx:=hc.free _ g2 rfl
  obtain⟨m,hn,hl⟩:=I.loc
  obtain⟨u,r,l⟩:=hl j x v g1 hv (.inr kx)
  refine⟨u,r,?_⟩
  rcases l with⟨z,_⟩ | ⟨_,c,hcc,hcell⟩
  ·have z':X.env.kindOf x=some .local:=z
   rcases kx with k | k <;> (have k':X.env.kindOf x=_:=k;rw[z']at k';cases k')
  ·have kY:(envC sc s.heap.objs.size X.env).kindOf x=some .cell\/(envC sc s.heap.objs.size X.env).kindOf x=some .free:=by
    show(relabel sc X.env).names.lookup x=some .cell\/(relabel sc X.env).names.lookup x=some .free
    rw[lookup_relabel,g3]
    rcases relK_free (env:=X.env) (x:=x)with q | q
    ·exact .inl (show some (relK X.env x .free)=_ by rw[q])
    ·exact .inr (show some (relK X.env x .free)=_ by rw[q])
   obtain⟨c',h'⟩:=has x kY
   refine .inr ⟨kY,c',h',?_⟩
   rcases lk x c' h' with g | g
   ·rcases cellsFrom_mem _ _ _ _ _ g with z | z
    ·exact absurd z g4
    ·cases z
   ·rw[hcc]at g;cases g
    exact hcell.keeps keepH
 ·rcases lk x c h with g | g
  ·exact⟨_,(ok.empty x c g).1⟩
  ·obtain⟨v,q⟩:=I.cell x c g
   exact⟨v,q.keeps keepH⟩
 ·rcases lk x c h with g | g
  ·exact I.hok.fresh (Nat.le_trans (Nat.le_add_right _ 1) (big _ _ g))
  ·exact I.freeC x c g
 ·show(startC js σ).length=N.length
  unfold startC
  rw[gxC];exact hc.len
end
theorem compLoopD_any {prog:Program}{w:World}{A:Around}{R:Result->Shared->Prop}{s:Shared}{kx vx target iter:Expr}{ifs:List Expr}{scope:Scope}{pos:Pos}{it:Value}{D:Addr}{env:Env}(I:Nat->Shared->Prop)
 (turn:∀ n s,I n s->wpAny (model prog w) A (pyNext it) (fun r s₁=>match r with
   | none=>R (.ok .next) s₁
   | some v=>wpAny (model prog w) A (letOwnedTupleGo target it v) (fun _ s₁'=>wpAny (model prog w) A (assign target env v) (fun _ s₂ =>
    wpAny (model prog w) A (forIn ifs true fun c r=>if r=true then do let ok <- isTrue c env (eval c env);pure (ForInStep.yield ok)else pure (ForInStep.yield r)) (fun ok s₃ =>
     if ok=true then wpAny (model prog w) A (eval kx env) (fun kv s₄=>wpAny (model prog w) A (eval vx env) (fun vv s₅ =>
      wpAny (model prog w) A (dictSet D kv vv) (fun _ s₆=>∃ m,m<n/\I m s₆) (fun _ _=>False) s₅) (fun _ _=>False) s₄) (fun _ _=>False) s₃
     else ∃ m,m<n/\I m s₃) (fun _ _=>False) s₂) (fun _ _=>False) s₁') (fun _ _=>False) s₁) (fun _ _=>False) s)
 (n:Nat) (h:I n s) :
 codeAny (model prog w) A (.compLoop (.DictComp kx vx [⟨target,iter,ifs,0⟩] scope pos) 0 it (.ref D) env) R s:=by
 refine codeAny_loop rfl I (fun n s hI=>?_) n h
 show wpAny _ A ((compTurn (.DictComp kx vx [⟨target,iter,ifs,0⟩] scope pos) 0 it (.ref D) env).onRaise (fun x=>do noteFrame x env;theTreesLotGoes x)) _ _ s
 refine wpAny_noted ?_
 rw[compTurn_dict]
 refine gxM (wpAny_standAt (gxM (wpAny_mono (turn n s hI) (fun r s₁ h₁=>?_) fun _ _ h'=>h'.elim)))
 cases r with
 | none=>exact wpAny_pure h₁
 | some v =>
  refine gxM (wpAny_mono h₁ (fun _ s₁' h₁'=>?_) fun _ _ h'=>h'.elim)
  refine gxM (wpAny_mono h₁' (fun _ s₂ h₂=>gxM (wpAny_mono h₂ (fun ok s₃ h₃=>?_) fun _ _ h'=>h'.elim)) fun _ _ h'=>h'.elim)
  cases ok with
  | false=>exact wpAny_pure ⟨rfl,h₃⟩
  | true =>
   exact gxM (gxM (wpAny_mono h₃ (fun x s₄ h₄=>gxM (wpAny_holding (wpAny_mono h₄ (fun y s₅ h₅=>gxM (wpAny_standAt (wpAny_holding (wpAny_mono h₅ (fun _ s₆ h₆=>wpAny_pure ⟨rfl,h₆⟩) fun _ _ h'=>h'.elim)))) fun _ _ h'=>h'.elim))) fun _ _ h'=>h'.elim))
def wCompD (js:List (Option Nat))(g:TG)(tt:TT)(tk tv:TE)(J:It)(σ:St)(D:Addr)(H1:Hp)(fin:List (Key×V)->Hp->Prop):Prop :=
 ∃ W:Nat->Nat->List (Key×V)->Hp->Prop,(∃ m,W 0 m [] H1)/\∀ i m kvs H,W i m kvs H ->
  (J.stop i H/\fin kvs H)\/(J.go i H/\∀ x H',J.yld i H x H'->g x (startC js σ) H' fun σ2 H2=>Ext (startC js σ) σ2/\tt σ2 H2 fun b H3 =>
    if b=true then tk σ2 H3 fun k H4=>tv σ2 H4 fun v H5=>∃(kk:Key) (kvs':List (Key×V)),k=kV kk/\H5 D=some (.dK kvs')/\kvs'.length<sizeLine/\∃ m',m'<m/\W (i+1) m' (putK kvs' kk v) (upd H5 D (.dK (putK kvs' kk v)))else ∃ m',m'<m/\W (i+1) m' kvs H3)
section
variable {X:Cx}{pins:List (Addr×Obj)}{σ:St}{H:Hp}{s:Shared}
theorem dict_set {A:Around}{E:Value->Shared->Prop}{a:Addr}{kvs:List (Key×V)}{k:Key}{u r:Value}{v:V}{Q:Unit->Shared->Prop}(I:Inv X pins σ H s)(e:H a=some (.dK kvs))(l:kvs.length<sizeLine)(ry:RelV (kV k) u)(rv:RelV v r)
 (h:∀ s',Inv X pins σ (upd H a (.dK (putK kvs k v))) s'->Q () s'):wpAny (model X.prog X.w) A (dictSet a u r) Q E s:=by
 obtain⟨z,hd,vs,rel,dd⟩:=dk_of I.hok e
 have hz:vs.length<=sizeLine:=by rw[<- rel.length];exact z
 have hl:(putK kvs k v).length<=sizeLine:=by have:=length_putK kvs k v;omega
 refine wpAny_dictSet_pairs (hsz:=hz) (kV_is ry) dd fun h' dd' hs=>h _ ?_
 have he:∃ q,h'.get? a=some q:=let ⟨q,_,_,hq,_⟩:=dd';⟨q,hq⟩
 exact d_write I (by rw[e];exact True.intro) hs he (dk_new hl hd (rel.put k rv) dd')
variable {N:List Str}{js:List (Option Nat)}{sc:Scope}{fp:List Addr}{tg kx vx iter:Expr}{ifs:List Expr}{g:TG}{tt:TT}{tk tv:TE}
theorem compD_block {J:It}{it D:Addr}{tn:Nat->Heap->Prop}{pos:Pos}{R:Result->Shared->Prop}{fin:List (Key×V)->Hp->Prop}{tok:Nat}(I:Inv X pins σ H s)(hc:CompOk X N js sc)(calm:X.calm=true)
 (T:Turn X.prog X.w X.K tg J fp it tn) (st:tn 0 s.heap) (hf:∀ b∈fp,FpOk X pins H b)
 (hg:PG (cxE X N sc fp s H) tg g) (ht:PTs (cxE X N sc fp s H) ifs tt) (hk:PE (cxE X N sc fp s H) kx tk) (hv:PE (cxE X N sc fp s H) vx tv) (q:wCompD js g tt tk tv J σ D H fin)
 (hR:∀ s' H' kvs m,Inv X pins σ H' s'->fin kvs H'->s'.heap.Ns s.heap.objs.size m->H' s.heap.objs.size=none->R (.ok .next) s') :
 codeAny (model X.prog X.w) X.A (.compStart (.DictComp kx vx [⟨tg,iter,ifs,0⟩] sc pos) 0 (.ref it) (.ref D) (envC sc s.heap.objs.size X.env)) R { s with heap:=heapE sc s.heap,toks:=tok}:=by
 have hob:∀ b∈fp,∃ o,s.heap.get? b=some o:=fun b hb=>let ⟨o,e,_⟩:=T.obj 0 s.heap st b hb;⟨o,e⟩
 have I0:=inv_compE I hc hf hob tok
 have okY:=I0.ok
 obtain⟨W,⟨m0,w0⟩,turn⟩:=q
 have stat:∀ {H':Hp},(∀ b∈fp,H' b=none)->∀ b∈fp,FpOk (cxE X N sc fp s H) [] H' b:=fun {H'} hn b hb =>
  ⟨hn b hb,(okY.exf b hb).1,okY.exfs b hb,.inl hb,(okY.exf b hb).2,fun p hp=>absurd (show p∈([]:List (Addr×Obj))from hp) (by simp)⟩
 have st0:tn 0 (heapE sc s.heap):=T.keep 0 _ _ st fun b _ o e=>heapE_keeps b o e
 have loop:codeAny (model X.prog X.w) X.A (.compLoop (.DictComp kx vx [⟨tg,iter,ifs,0⟩] sc pos) 0 (.ref it) (.ref D) (envC sc s.heap.objs.size X.env)) R { s with heap:=heapE sc s.heap,toks:=tok}:=by
  refine compLoopD_any (fun n s'=>∃ i kvs H',Inv (cxE X N sc fp s H) [] (startC js σ) H' s'/\tn i s'.heap/\(∀ b∈fp,H' b=none)/\W i n kvs H') ?_ m0
   ⟨0,[],H,I0,st0,fun b hb=>(hf b hb).1,w0⟩
  rintro n s3 ⟨i,kvs,H3,I3,st3,fr3,w3⟩
  rcases turn i n kvs H3 w3 with⟨stop,qf⟩ | ⟨go,step⟩
  ·refine thn (T.done (cxE X N sc fp s H) rfl rfl rfl calm i _ s3 _ H3 _ I3 (stat fr3) st3 stop) fun r s4 hq6=>?_
   obtain⟨hr,I4⟩:=hq6
   subst hr
   show R (.ok .next) s4
   obtain⟨m,hns,_⟩:=I4.loc
   have IX:Inv X pins σ H3 s4:=I.call' (ch:=fp) I4.os I4.base I4.hok I4.bare fun b hb=>by
    obtain⟨f0,f1,f2,f3,f4,f5⟩:=hf b hb
    exact⟨f3,f1,f4,f5⟩
   exact hR s4 H3 kvs m IX qf hns I4.free
  ·refine thn (T.item (cxE X N sc fp s H) rfl rfl rfl calm i _ s3 _ H3 _ I3 (stat fr3) st3 go) fun r s4 hq0=>?_
   obtain⟨u,hr,h4⟩:=hq0
   subst hr
   refine thn h4 fun _ s5 hq1=>?_
   obtain⟨x,H5,I5,r5,y5,st5,fr5⟩:=hq1
   have I5':=I5.pinned (stat fr5) (T.obj _ _ st5)
   refine thn (hg _ s5 _ H5 x u _ I5' r5 (step x H5 y5)) fun _ s6 ⟨σ6,H6,I6,⟨ext6,q6⟩⟩=>?_
   refine thn (ht _ s6 σ6 H6 _ I6 q6) fun b s7 hq2=>?_
   obtain⟨H7,I7,q7⟩:=hq2
   have back:∀ {s':Shared} {H':Hp},Inv (cxE X N sc fp s H) ([]++pinsAt fp s5.heap) σ6 H' s'->tn (i+1) s'.heap/\(∀ b∈fp,H' b=none)/\Inv (cxE X N sc fp s H) [] (startC js σ) H' s':=fun {s' H'} I'=>by
    refine⟨T.keep _ _ _ st5 fun b hb o e=>(I'.pin (b,o) (List.mem_append_right _ (List.mem_append_right _ (mem_pinsAt hb e)))).1,fun b hb=>?_,(I'.weak ext6.1 ext6.2).unpinned⟩
    obtain⟨o,e,d⟩:=T.obj _ _ st5 b hb
    exact(I'.pin (b,o) (List.mem_append_right _ (List.mem_append_right _ (mem_pinsAt hb e)))).2.1
   cases b with
   | false =>
    obtain⟨m',hm,w7⟩:=q7
    obtain⟨t7,f7,I7'⟩:=back I7
    exact⟨m',hm,i+1,kvs,H7,I7',t7,f7,w7⟩
   | true =>
    refine thn (hk _ s7 σ6 H7 _ I7 q7) fun y s8 hq3=>?_
    obtain⟨yk,H8,I8,ry,q8⟩:=hq3
    refine thn (hv _ s8 σ6 H8 _ I8 q8) fun z s9 hq4=>?_
    obtain⟨zv,H9,I9,rz,kk,kvs',ek,eD,hl,m',hm,w9⟩:=hq4
    subst ek
    refine dict_set (X:=cxE X N sc fp s H) I9 eD hl ry rz fun s10 I10=>?_
    obtain⟨t8,f8,I8'⟩:=back I10
    exact⟨m',hm,i+1,_,_,I8',t8,f8,w9⟩
 exact codeAny_compStart_dict loop (T.self _ 0 _ _ _ st0 loop)
def tCompD (wi:TI)(js:List (Option Nat))(g:TG)(tt:TT)(tk tv:TE):TE:=fun σ H Q=>wi σ H fun J H1=>∀ D,H1 D=none->wCompD js g tt tk tv J σ D (upd H1 D (.dK [])) fun _ H'=>Q (.ref D) H'
end
def keyD:D->Option Key
 | .int i=>some (.inl i)
 | .str z=>some (.inr z)
 | _=>none
theorem keyD_is {φ:List Addr}{H:Hp}{d:D}{v:V}{k:Key}(e:keyD d=some k)(i:DIs φ H d v):v=kV k:=by
 cases d with
 | int n=>cases e;exact i
 | str z=>cases e;exact i
 | _=>cases e
def dput (kvs:List (Key×D))(k:Key)(d:D):List (Key×D):=if(kvs.any fun kv=>decide (kv.1=k))=true then kvs.map (fun kv=>if kv.1=k then(kv.1,d)else kv)else kvs++[(k,d)]
def dval (kvs:List (Key×D))(k:Key):Option D:=(kvs.find? fun kv=>decide (kv.1=k)).map (·.2)
theorem dput_len (kvs:List (Key×D))(k:Key)(d:D):(dput kvs k d).length<=kvs.length+1:=by
 unfold dput
 split
 ·rw[gxC];omega
 ·rw[gxE,List.length_singleton];omega
def dItemD (ρ:DE)(y:DG)(t:Dt)(wk wv:De)(d:D)(μ:MS)(K:Option (Key×D)->MS->Prop):Prop:=y d ρ μ fun ρ2 μ2=>t ρ2 μ2 fun b μ3=>if b=true then wk ρ2 μ3 fun kd μ4=>opt (keyD kd) fun k=>wv ρ2 μ4 fun v μ5=>K (some (k,v)) μ5 else K none μ3
theorem Fr.noext {φ φ':List Addr}{H H':Hp}(f:Fr φ H φ' H')(hl:φ'.length=φ.length):φ'=φ:=by
 obtain⟨⟨ψ,rfl,_⟩,_,_⟩:=f
 rw[gxE]at hl
 have:ψ=[]:=List.length_eq_zero_iff.mp (by omega)
 rw[this,List.append_nil]
section
variable {X:Cx}{a b e:Expr}{es:List Expr}{pos:Pos}
variable {N:List Str}{js:List (Option Nat)}{sc:Scope}{tg kx vx iter:Expr}{ifs:List Expr}{g:TG}{y:DG}{S:List Nat}{t:Dt}{wk wv:De}
theorem dval_get {φ:List Addr}{H:Hp}{ks:List Key}:∀ {ds:List D} {kvs:List (Key×V)} {k:Key} {d:D},kvs.map (·.1)=ks->DAll φ H ds (kvs.map (·.2))->dval (ks.zip ds) k=some d->∃ v,valV kvs k=some v/\DIs φ H d v:=by
 intro ds kvs
 induction kvs generalizing ks ds with
 | nil=>intro k d h1 h2 h3;cases h1;cases h3
 | cons p kvs ih =>
  intro k d h1 h2 h3
  cases ks with
  | nil=>cases h1
  | cons k0 ks =>
   cases ds with
   | nil=>cases(show _=_ from h2)
   | cons d0 ds =>
    obtain⟨v,r,e,h4,h5⟩:=h2
    simp only[List.map_cons,List.cons.injEq]at h1 e
    obtain⟨rfl,rfl⟩:=e
    obtain⟨rfl,h1⟩:=h1
    rw[List.zip_cons_cons]at h3
    unfold dval at h3
    rw[List.find?_cons]at h3
    by_cases hk:p.1=k
    ·simp only[hk,decide_true]at h3
     cases h3
     exact⟨p.2,valV_pos hk,h4⟩
    ·simp only[hk,decide_false]at h3
     obtain⟨v,a,b⟩:=ih h1 h5 (k:=k) (d:=d) h3
     exact⟨v,by rw[valV_neg hk];exact a,b⟩
end
def clN (l:List Nat)(e:Nat):Nat:=e+((l.drop e).takeWhile (·==111)).length
def farF (es:List Int)(l:List Nat)(e:Int):Int:=(es.filter fun x=>decide (x<=(clN l e.toNat:Int))).foldl max e
structure RowOk (es row:List Int):Prop where
 len:row.length=es.length
 mem:∀ x∈row,x∈es
def inSc (x sc:Scope):Scope:={ sc with names:=sc.names.map fun(n,k)=>if k==NameKind.free&&x.kind==.function&&x.names.lookup n==some .cell then(n,NameKind.cell)else(n,k)}
theorem compOkN {X0:Cx}{N0:List Str}{xsc sc0:Scope}{N:List Str}{js:List (Option Nat)}{sc:Scope}{fp:List Addr}{s:Shared}{H:Hp}(hs:X0.env.scope=xsc)(h:compChk N0 (inSc xsc sc0) N js sc=true):CompOk (cxC X0 N0 sc0 fp s H) N js sc:=by
 subst hs
 exact compOk h rfl rfl
theorem zip_parts {α β:Type}:∀ l:List (α×β),(l.map (·.1)).zip (l.map (·.2))=l
 | []=>rfl
 | p::l=>by rw[List.map_cons,List.map_cons,List.zip_cons_cons,zip_parts l]
section
variable {X:Cx}{N:List Str}{sc:Scope}{js:List (Option Nat)}{tg iter kx vx:Expr}{ifs:List Expr}{g:TG}{tt:TT}{tk tv:TE}
theorem pe_compD {wi:TI}{pos:Pos}(hc:CompOk X N js sc)(calm:X.calm=true)(hi:PI X tg iter wi)(hg:∀ fp s H,PG (cxE X N sc fp s H) tg g)
 (ht:∀ fp s H,PTs (cxE X N sc fp s H) ifs tt) (hk:∀ fp s H,PE (cxE X N sc fp s H) kx tk) (hv:∀ fp s H,PE (cxE X N sc fp s H) vx tv)
 (hs:∀ x,foldedSetIterable iter X.env x=pure x:=by intro _;rfl):PE X (.DictComp kx vx [⟨tg,iter,ifs,0⟩] sc pos) (tCompD wi js g tt tk tv):=by
 intro pins s σ H Q I h
 rw[show eval (.DictComp kx vx [⟨tg,iter,ifs,0⟩] sc pos) X.env=comprehension (.DictComp kx vx [⟨tg,iter,ifs,0⟩] sc pos) sc X.env (firstIterPos [⟨tg,iter,ifs,0⟩] pos) newDict (firstAsync [⟨tg,iter,ifs,0⟩]) (firstIter [⟨tg,iter,ifs,0⟩] X.env)from rfl]
 refine wpAny_comprehension_free (use:=none) rfl hs (closureFor_eq fun y hy e=>I.ok.has y.1 (hc.free y hy e)) hc.kind hc.loc (thn (hi pins s σ H _ I h) fun v s1 h1=>thn h1 fun itv s2 h2=>?_)
 obtain⟨it,fp,tn,J,H2,e,I2,T,st2,f2,q⟩:=h2
 subst e
 refine wpAny_newObj_type (newEnv_comp ?_)
 have hD:H2 s2.heap.objs.size=none:=I2.hok.fresh (Nat.le_refl _)
 have I3:Inv X pins σ (upd H2 s2.heap.objs.size (.dK [])) { s2 with heap:=s2.heap.push { cls:=.type "dict",data:=.dict #[]}}:=I2.laid (t':=s2.toks) (fun _ _ q=>gxL _ q) (Nat.le_refl _) (dk_empty s2.heap I2.big)
 have hC:(s2.heap.push { cls:=.type "dict",data:=.dict #[]}).objs.size=s2.heap.objs.size+1:=Heap.size_push ..
 have st3:tn 0 (s2.heap.push { cls:=.type "dict",data:=.dict #[]}):=T.keep 0 _ _ st2 fun b _ o e=>gxL _ e
 have hob:∀ b∈fp,b≠s2.heap.objs.size:=fun b hb=>let ⟨o,e,_⟩:=T.obj 0 s2.heap st2 b hb;Nat.ne_of_lt (gxN e)
 have f3:∀ b∈fp,FpOk X pins (upd H2 s2.heap.objs.size (.dK [])) b:=fun b hb=>⟨by rw[upd_ne (hob b hb)];exact(f2 b hb).1,(f2 b hb).2⟩
 refine compD_block (s:={ s2 with heap:=s2.heap.push { cls:=.type "dict",data:=.dict #[]}}) (tok:=s2.toks) I3 hc calm T st3 f3 (hg fp _ _) (ht fp _ _) (hk fp _ _) (hv fp _ _) (q s2.heap.objs.size hD) fun s' H' kvs m IX qf nC hn=>?_
 have hlt:s2.heap.objs.size<(s2.heap.push { cls:=.type "dict",data:=.dict #[]}).objs.size:=by rw[hC];exact Nat.lt_succ_self _
 have neC:∀(b:Addr) (o:Obj),s2.heap.get? b=some o->b≠(s2.heap.push { cls:=.type "dict",data:=.dict #[]}).objs.size:=fun b o e=>Nat.ne_of_lt (Nat.lt_trans (gxN e) hlt)
 refine⟨m,nC,fun h' sb=>?_⟩
 have IY:Inv X pins σ H' { s' with heap:=h'}:=IX.turned (t':=s'.toks) (it:=(s2.heap.push { cls:=.type "dict",data:=.dict #[]}).objs.size) (fun b o hb e=>(sb.2 b hb).trans e) hn
  (Nat.ne_of_gt (Nat.lt_trans I2.lt hlt)) (.inr (Nat.le_of_lt (Nat.lt_of_le_of_lt I2.sz hlt))) (fun x c e=>let ⟨v,z⟩:=I2.cell x c e;Nat.ne_of_lt (Nat.lt_trans z.lt hlt)) (fun p hp=>neC _ _ (I2.pin p hp).1)
 exact⟨.ref _,_,IY,rfl,qf⟩
variable {y:DG}{S:List Nat}{t:Dt}{wk wv:De}
end
theorem rngD_cons (lo:Int)(n:Nat):rngD lo (n+1)=.int lo::rngD (lo+1) n:=by
 unfold rngD
 rw[List.range_succ_eq_map,List.map_cons,List.map_map]
 congr 1
 ·simp
 ·refine List.map_congr_left fun i _=>?_
  show D.int (lo+((i+1:Nat):Int))=_
  congr 1
  omega
theorem old_app {μ g:MS}(hm:∀(j:Nat) (m:MO),μ[j]?=some m->moB μ.length m):∀(j:Nat) (m:MO),j<μ.length->(μ++g)[j]?=some m->moB μ.length m:=fun j m hj e=>by
 rw[gxF hj]at e;exact hm j m e
theorem lvM_ty {μ:MS}{k:Nat}{ds:List D}(h:lvM μ k=some ds):TyD "list" μ (.mr k):=by show(match μ[k]? with | some (.lst _) => "list" = "list" | some (.dic _ _) => "list" = "dict" | _=>False);rw[lvM_eq h]
theorem atI_lastOf {α:Type}(xs:List α)(x:α):atI (xs++[x]) (-1)=some x:=by
 unfold atI ixN
 rw[if_neg (by decide),if_pos (by rw[gxE,List.length_singleton];omega)]
 show(xs++[x])[((-1:Int)+((xs++[x]).length:Nat)).toNat]?=some x
 rw[gxE,List.length_singleton,show((-1:Int)+((xs.length+1:Nat):Int)).toNat=xs.length by omega,gxG (Nat.le_refl _),Nat.sub_self]
 rfl
theorem cutD_to {α:Type}(g:α->D)(ts:List α)(k:Nat):cutD (ts.map g) none (some (k:Int))=(ts.take k).map g:=by
 unfold cutD
 rw[HT.sIx_none,HT.sIx_nat,gxC,List.drop_zero,Nat.sub_zero,<- List.map_take]
 congr 1
 rcases Nat.le_total k ts.length with h | h
 ·rw[Nat.min_eq_left h]
 ·rw[Nat.min_eq_right h,List.take_of_length_le (Nat.le_refl _),List.take_of_length_le h]
end L2
namespace L2
theorem nLf {ds:List D}{μ:MS}{K:DK}(h:K (.lst ds) μ):nL false ds μ K:=h
end L2
namespace L2
open PySem PySem.Spec PyProof.Rows
def Rises (row:List Int):Prop:=∀(i j:Nat) (a b:Int),i<=j->row[i]?=some a->row[j]?=some b->a<=b
structure RowGood (es:List Int)(ts:List Tk)(a:Int)(row:List Int):Prop where
 ok:RowOk es row
 up:Rises row
 ge:∀(i:Nat) (x e:Int),row[i]?=some x->es[i]?=some e->e<=x
 far:∀(i:Nat) (x e:Int),row[i]?=some x->es[i]?=some e->∀ t∈ts,t.2<=a->farF es t.1 e<=x
structure GoodTo (es:List Int)(ts:List Tk)(a:Int)(row:List Int)(k:Nat):Prop where
 mem:∀(i:Nat) (x:Int),i<k->row[i]?=some x->x∈es
 up:∀(i j:Nat) (x y:Int),i<=j->j<k->row[i]?=some x->row[j]?=some y->x<=y
 ge:∀(i:Nat) (x e:Int),i<k->row[i]?=some x->es[i]?=some e->e<=x
 far:∀(i:Nat) (x e:Int),i<k->row[i]?=some x->es[i]?=some e->∀ t∈ts,t.2<=a->farF es t.1 e<=x
theorem GoodTo.all {es:List Int}{ts:List Tk}{a:Int}{row:List Int}(g:GoodTo es ts a row row.length)(hl:row.length=es.length):RowGood es ts a row:=by
 have lt:∀ {i:Nat} {x:Int},row[i]?=some x->i<row.length:=fun e=>(gxB e).1
 exact⟨⟨hl,fun x hx=>by obtain⟨i,hi,e⟩:=List.getElem_of_mem hx;exact g.mem i x hi (by rw[gxA hi,e])⟩,fun i j x y hij e1 e2=>g.up i j x y hij (lt e2) e1 e2,fun i x e e1 e2=>g.ge i x e (lt e1) e1 e2,fun i x e e1 e2=>g.far i x e (lt e1) e1 e2⟩
theorem compW_gen {α:Type}{it:D->MS->(Option D->MS->Prop)->Prop}{c:MS->Prop}{μ:MS}(hc:c μ)(g:α->D)(f:α->Option D):∀ {xs:List α} {K:List D->MS->Prop},(∀ x∈xs,∀(K':Option D->MS->Prop),K' (f x) μ->it (g x) μ K')->K (xs.filterMap f) μ->compW it c (xs.map g) μ K
 | [],K,_,k=>⟨hc,k⟩
 | x::xs,K,h,k=>⟨hc,h x List.mem_cons_self _ (compW_gen hc g f (fun y hy=>h y (gxI _ hy)) (by
  cases e:f x with
  | none=>rw[List.filterMap_cons_none e]at k;exact k
  | some y=>rw[List.filterMap_cons_some e]at k;exact k))⟩
theorem compW_all {α:Type}{it:D->MS->(Option D->MS->Prop)->Prop}{c:MS->Prop}{μ:MS}(hc:c μ)(g f:α->D){xs:List α}{K:List D->MS->Prop}(h:∀ x∈xs,∀(K':Option D->MS->Prop),K' (some (f x)) μ->it (g x) μ K')(k:K (xs.map f) μ):compW it c (xs.map g) μ K:=by
 refine compW_gen hc g (fun x=>some (f x)) h ?_
 rw[List.filterMap_eq_map']
 exact k
theorem atI_maps {α:Type}{g:α->D}{xs:List α}{k:Nat}{x:α}(h:xs[k]?=some x):atI (xs.map g) (k:Int)=some (g x):=atI_map h
end L2
namespace L2
end L2
namespace L2
open PySem PySem.Spec PyProof.Rows
theorem Room.le {j k:Nat}{A:Around}(r:Room k A)(h:j<=k:=by first | decide | exact Nat.le_refl _ | omega):Room j A:=r.mono h
theorem lo {sc:Scope}{x:Str}(h:Loc sc x:=by first | exact Or.inl rfl | exact Or.inr rfl):Loc sc x:=h
theorem mr_all {n:Nat}:∀ {ds:List D},(∀ d∈ds,mrB n d)->mrL n ds
 | [],_=>by unfold mrL;trivial
 | d::ds,h=>by unfold mrL;exact⟨h d List.mem_cons_self,mr_all fun x hx=>h x (gxI _ hx)⟩
end L2
namespace L2
end L2
namespace L2
open PySem PySem.Spec PyProof.Rows
def joinT (a b:Tk)(p:Int):Tk:=(a.1.take p.toNat++b.1.drop p.toNat,max a.2 b.2+1)
def fJoined:DSp:=fun ds μ K=>match ds with
 | [.tup [.str z,.int a],.tup [.str y,.int b],.int p]=>∃ x u:Tk,z=txt x.1/\a=x.2/\y=txt u.1/\b=u.2/\0<=p/\x.1.length<=1000/\u.1.length<=1000/\K (tkD (joinT x u p)) μ
 | _=>False
section
variable {X:Cx}{e:Expr}{pos:Pos}
def dDNew:De:=fun _ μ K=>K (.mr μ.length) (μ++[.dic [] []])
theorem d_dnew:PD X (.Dict [] [] pos) dDNew:=pe_dnewK.imp fun σ H Q ⟨φ,ρ,μ,K,A,M,k,L⟩=>fun p hp=>by
 obtain⟨M',f⟩:=M.snoc (o:=.dK []) (m:=.dic [] []) hp ⟨[],[],upd_same,rfl,rfl,rfl⟩
 exact L _ _ _ _ _ k f M' ⟨p,by rw[gxG (by rw[M.len];exact Nat.le_refl _),M.len,Nat.sub_self];rfl,rfl⟩
end
def Itd (a:Addr)(o:Obj)(kvs:List (Key×V)):It:=⟨fun i H=>i<kvs.length/\H a=some (.frz o (.dK kvs)),fun i H x H'=>H'=H/\∃ p,kvs[i]?=some p/\x=kV p.1,fun i H=>kvs.length<=i/\H a=some (.frz o (.dK kvs))⟩
theorem kV_of {k:Key}{u:Value}(h:keyIs k u=true):RelV (kV k) u:=by
 rcases keyIs_shape h with⟨i,t,rfl,rfl⟩ | ⟨x,t,rfl,rfl⟩
 ·exact⟨t,rfl⟩
 ·exact⟨t,rfl⟩
theorem pair_at {κ:Type}{kvs:List (κ×V)}{vs:List (κ×Value)}(h:KV kvs vs):∀ {i:Nat} {p:κ×V},kvs[i]?=some p->∃ v,vs[i]?=some (p.1,v):=by
 unfold KV at h
 induction h with
 | nil=>intro i p e;simp at e
 | @cons a b as bs r _ ih =>
  intro i p e
  cases i with
  | zero =>
   simp at e
   subst e
   refine⟨b.2,?_⟩
   rw[r.1];rfl
  | succ i=>exact ih (by simpa using e)
theorem turn_dict {P:Program}{w:World}{K:PySem.W.Frag}{tg:Expr}(a it:Addr){o:Obj}{kvs:List (Key×V)}{vs:List (Key×Value)}{ep:Nat}(kv:KV kvs vs)(hd:∀ h:Heap,h.get? a=some o->h.DictAt (mixKind P w) a vs ep) :
 Turn P w K tg (Itd a o kvs) [it] it (fun i h=>h.IsKeyIter it a i vs.length ep) where
 mem:=by simp
 obj:=fun i h st b hb=>by
  have e:b=it:=by simpa using hb
  subst e
  obtain⟨o,e,c,d⟩:=st
  exact⟨o,e,fun v z=>by rw[d]at z;cases z⟩
 keep:=fun i h h' st k=>st.at fun o e=>k it (by simp) o e
 item:=by
  intro X hP hw hK hc i pins s σ H E I hf st hg
  subst hP hw hK
  obtain⟨hi,hq⟩:=hg
  obtain⟨p,hp⟩:∃ p,kvs[i]?=some p:=⟨_,gxA hi⟩
  obtain⟨v,hv⟩:=pair_at kv hp
  have ho:s.heap.get? a=some o:=(show ObjOk X.prog X.w H s.heap a (.frz o (.dK kvs))from I.hok a _ hq).1
  obtain⟨f0,f1,f2,f3,f4,f5⟩:=hf it (by simp)
  refine wpAny_pyNext_dict_item st (hd _ ho) hv fun key h' hkey st' sb=>?_
  have I1:Inv X pins σ H { s with heap:=h'}:=I.turned (t':=s.toks) (fun b o hb e=>(sb.2 b hb).trans e) f0 f1 f3 f4 f5
  obtain⟨oi,e,c,d⟩:=id st'
  exact⟨key,rfl,go_of (s:={ s with heap:=h'}) e c d (by decide) ⟨kV p.1,H,I1,kV_of hkey,⟨rfl,p,hp,rfl⟩,st',fun b hb=>(hf b hb).1⟩⟩
 done:=by
  intro X hP hw hK hc i pins s σ H E I hf st hg
  subst hP hw hK
  obtain⟨hi,hq⟩:=hg
  have ho:s.heap.get? a=some o:=(show ObjOk X.prog X.w H s.heap a (.frz o (.dK kvs))from I.hok a _ hq).1
  obtain⟨f0,f1,f2,f3,f4,f5⟩:=hf it (by simp)
  have hl:=KV.length kv
  exact wpAny_pyNext_dict_end (I.ok.hd hc) st (hd _ ho) (List.getElem?_eq_none_iff.mpr (by omega)) fun h' eb=>⟨rfl,I.turned (t':=s.toks) (fun b o hb e=>eb b o hb e) f0 f1 f3 f4 f5⟩
 self:=fun _ _ _ _ _ st h=>wpAny_pyIter_keyiter st h
theorem freeze {X:Cx}{pins:List (Addr×Obj)}{σ:St}{H:Hp}{s:Shared}{a:Addr}{kvs:List (Key×V)}(I:Inv X pins σ H s)(e:Rd H a (.dK kvs)):∃ o vs ep,KV kvs vs/\(∀ h:Heap,h.get? a=some o->h.DictAt (mixKind X.prog X.w) a vs ep)/\s.heap.DictAt (mixKind X.prog X.w) a vs ep/\(a==sysModules)=false/\Inv X pins σ (upd H a (.frz o (.dK kvs))) s:=by
 obtain⟨z,hd,vs,rel,dd⟩:=dk_rd I.hok e
 obtain⟨ep,da⟩:=dd.dictAt
 obtain⟨o,es,ho,r⟩:=id da
 refine⟨o,vs,ep,rel,fun h e=>⟨o,es,e,r⟩,da,hd,?_⟩
 rcases e with e | ⟨o',e⟩
 ·exact d_write (t':=s.toks) I (by rw[e];exact True.intro) ⟨rfl,fun b _=>rfl⟩ ⟨o,ho⟩ ⟨ho,dk_new z hd rel dd⟩
 ·have ho':s.heap.get? a=some o':=(show ObjOk X.prog X.w H s.heap a (.frz o' (.dK kvs))from I.hok a _ e).1
  rw[ho]at ho'
  cases ho'
  have:upd H a (.frz o (.dK kvs))=H:=by
   funext b
   unfold upd
   split
   ·rename_i q;rw[q,e]
   ·rfl
  rw[this];exact I
section
variable {X:Cx}{tg:Expr}
def iDict (tl:TE):TI:=fun σ H R=>tl σ H fun v H1=>∃ a kvs,v=.ref a/\((H1 a=some (.dK kvs)/\∀ o,R (Itd a o kvs) (upd H1 a (.frz o (.dK kvs))))\/∃ o,H1 a=some (.frz o (.dK kvs))/\R (Itd a o kvs) H1)
theorem pi_dict {l:Expr}{tl:TE}(hl:PE X l tl):PI X tg l (iDict tl):=by
 intro pins s σ H R I h
 refine thn (hl pins s σ H _ I h) fun v s1 hq=>?_
 obtain⟨x,H1,I1,r1,q1⟩:=hq
 obtain⟨a,kvs,e,q⟩:=q1
 subst e
 cases r1
 obtain⟨o,vs,ep,kv,hd,da,hs,I2,q⟩:∃ o vs ep,KV kvs vs/\(∀ h:Heap,h.get? a=some o->h.DictAt (mixKind X.prog X.w) a vs ep)/\s1.heap.DictAt (mixKind X.prog X.w) a vs ep/\(a==sysModules)=false/\Inv X pins σ (upd H1 a (.frz o (.dK kvs))) s1/\R (Itd a o kvs) (upd H1 a (.frz o (.dK kvs))):=by
  rcases q with⟨e,q⟩ | ⟨o,e,q⟩
  ·obtain⟨o,vs,ep,kv,hd,da,hs,I2⟩:=freeze I1 (.inl e)
   exact⟨o,vs,ep,kv,hd,da,hs,I2,q o⟩
  ·obtain⟨o',vs,ep,kv,hd,da,hs,I2⟩:=freeze I1 (.inr ⟨o,e⟩)
   have ho:s1.heap.get? a=some o:=(show ObjOk X.prog X.w H1 s1.heap a (.frz o (.dK kvs))from I1.hok a _ e).1
   have ho':s1.heap.get? a=some o':=(show ObjOk X.prog X.w _ s1.heap a (.frz o' (.dK kvs))from I2.hok a _ upd_same).1
   rw[ho]at ho'
   cases ho'
   have:upd H1 a (.frz o (.dK kvs))=H1:=by
    funext b
    unfold upd
    split
    ·rename_i q;rw[q,e]
    ·rfl
   exact⟨o,vs,ep,kv,hd,da,hs,I2,by rw[this];exact q⟩
 refine wpAny_pyIter_dict hs da ?_
 refine⟨s1.heap.objs.size,[s1.heap.objs.size],_,_,_,rfl,I2.kept (t':=s1.toks) fun b o e=>gxL _ e,turn_dict a _ kv hd,⟨_,Heap.get?_push_size _ rfl,rfl,rfl⟩,fun b hb=>?_,q⟩
 have e:b=s1.heap.objs.size:=by simpa using hb
 subst e
 exact I2.fpOk (Nat.le_refl _) (I2.hok.fresh (Nat.le_refl _))
end
def keyV:Key->D
 | .inl i=>.int i
 | .inr z=>.str z
theorem keyV_is {φ:List Addr}{H:Hp}(k:Key):DIs φ H (keyV k) (kV k):=by cases k <;> rfl
def dicM (μ:MS)(k:Nat):Option (List Key×List D):=match μ[k]? with | some (.dic ks ds)=>some (ks,ds) | some (.fdic _ kvs ds)=>some (kvs.map (·.1),ds) | _=>none
theorem dicM_is {φ:List Addr}{H:Hp}{μ:MS}{k:Nat}{ks:List Key}{ds:List D}{v:V}(M:MSis φ H μ)(i:DIs φ H (.mr k) v)(h:dicM μ k=some (ks,ds)):∃ p kvs,φ[k]?=some p/\v=.ref p/\Rd H p (.dK kvs)/\kvs.map (·.1)=ks/\DAll φ H ds (kvs.map (·.2)):=by
 obtain⟨p,hp,rfl⟩:=i
 unfold dicM at h
 split at h
 ·rename_i e;cases h
  obtain⟨q,e1,kvs,vs,h1,h2,h3,h4⟩:=M.at_ k _ e
  rw[hp]at e1;cases e1
  subst h3
  exact⟨p,kvs,hp,rfl,.inl h1,h2,h4⟩
 ·rename_i e;cases h
  obtain⟨q,e1,h1,h4⟩:=M.at_ k _ e
  rw[hp]at e1;cases e1
  exact⟨p,_,hp,rfl,.inr ⟨_,h1⟩,rfl,h4⟩
 ·cases h
theorem dval_rel {φ:List Addr}{H:Hp}{ks:List Key}:∀ {ds:List D} {kvs:List (Key×V)} (k:Key),kvs.map (·.1)=ks->DAll φ H ds (kvs.map (·.2))->(dval (ks.zip ds) k=none/\valV kvs k=none)\/∃ d v,dval (ks.zip ds) k=some d/\valV kvs k=some v/\DIs φ H d v:=by
 intro ds kvs
 induction kvs generalizing ks ds with
 | nil=>intro k h1 h2;cases h1;exact .inl ⟨rfl,rfl⟩
 | cons p kvs ih =>
  intro k h1 h2
  cases ks with
  | nil=>cases h1
  | cons k0 ks =>
   cases ds with
   | nil=>cases(show _=_ from h2)
   | cons d0 ds =>
    obtain⟨v,r,e,h4,h5⟩:=h2
    simp only[List.map_cons,List.cons.injEq]at h1 e
    obtain⟨rfl,rfl⟩:=e
    obtain⟨rfl,h1⟩:=h1
    rw[List.zip_cons_cons]
    unfold dval
    rw[List.find?_cons]
    by_cases hk:p.1=k
    ·simp only[hk,decide_true]
     exact .inr ⟨_,_,rfl,valV_pos hk,h4⟩
    ·simp only[hk,decide_false]
     rw[valV_neg hk]
     exact ih k h1 h5
theorem dput_rel {φ:List Addr}{H:Hp}{k:Key}{d:D}{v:V}(hd:DIs φ H d v){kd:List (Key×D)}{kv:List (Key×V)}(e:kv.map (·.1)=kd.map (·.1))(ha:DAll φ H (kd.map (·.2)) (kv.map (·.2))):(putK kv k v).map (·.1)=(dput kd k d).map (·.1)/\DAll φ H ((dput kd k d).map (·.2)) ((putK kv k v).map (·.2)):=by
 have ea:(kv.any fun p=>decide (p.1=k))=kd.any fun p=>decide (p.1=k):=by
  have:(kv.map (·.1)).any (fun x=>decide (x=k))=(kd.map (·.1)).any fun x=>decide (x=k):=by rw[e]
  rw[List.any_map,List.any_map]at this
  exact this
 unfold putK dput
 rw[ea]
 by_cases q:(kd.any fun p=>decide (p.1=k))=true
 ·rw[if_pos q,if_pos q]
  clear q ea
  induction kd generalizing kv with
  | nil =>
   cases kv with
   | nil=>exact⟨rfl,rfl⟩
   | cons _ _=>cases e
  | cons p kd ih =>
   cases kv with
   | nil=>cases e
   | cons p' kv =>
    simp only[List.map_cons,List.cons.injEq]at e
    obtain⟨v0,r,e2,h4,h5⟩:=ha
    simp only[List.map_cons,List.cons.injEq]at e2
    obtain⟨rfl,rfl⟩:=e2
    obtain⟨i1,i2⟩:=ih e.2 h5
    by_cases hk:p.1=k
    ·have hk':p'.1=k:=by rw[e.1,hk]
     simp only[List.map_cons,if_pos hk,if_pos hk']
     exact⟨by rw[i1,e.1],_,_,rfl,hd,i2⟩
    ·have hk':¬ p'.1=k:=by rw[e.1];exact hk
     simp only[List.map_cons,if_neg hk,if_neg hk']
     exact⟨by rw[i1,e.1],_,_,rfl,h4,i2⟩
 ·rw[if_neg q,if_neg q,List.map_append,List.map_append,List.map_append,List.map_append]
  exact⟨by rw[e];rfl,ha.app ⟨v,[],rfl,hd,rfl⟩⟩
section
variable {X:Cx}{a b e:Expr}{pos:Pos}
def ixM (μ:MS)(j:Nat)(y:D):Option (Option D):=(dicM μ j).bind fun q=>(keyD y).map fun k=>dval (q.1.zip q.2) k
theorem ixM_ex {μ:MS}{j:Nat}{y:D}{o:Option D}(h:ixM μ j y=some o):∃ ks ds k,dicM μ j=some (ks,ds)/\keyD y=some k/\dval (ks.zip ds) k=o:=by
 unfold ixM at h
 cases e:dicM μ j with
 | none=>rw[e]at h;cases h
 | some q =>
  rw[e]at h
  cases e2:keyD y with
  | none=>rw[e2]at h;cases h
  | some k=>rw[e2]at h;cases h;exact⟨q.1,q.2,k,rfl,rfl,rfl⟩
def dIxKM:DOp:=fun x y μ K=>match x with
 | .mr j=>∃ d,ixM μ j y=some (some d)/\K d μ
 | _=>False
def dAsgKM (w wo wi:De):Ds:=fun N ρ μ=>w ρ μ fun d μ1=>wo ρ μ1 fun o μ2=>wi ρ μ2 fun i μ3=>match o with
 | .mr j=>∃ kd kd':List (Key×D),μ3[j]?=some (.dic (kd.map (·.1)) (kd.map (·.2)))/\kd.length<sizeLine/\(keyD i).map (fun k=>dput kd k d)=some kd'/\N.nx ρ (μ3.set j (.dic (kd'.map (·.1)) (kd'.map (·.2))))
 | _=>False
theorem s_asgKM {o i:Expr}{w wo wi:De}{pos':Pos}(hu:X.A.units+1<cLine)(he:PD X e w)(ho:PD X o wo)(hi:PD X i wi)(hs:swapsWith e (some (.Subscript o i pos')) pos.line X.env=pure false:=by rfl) :
 PDS X (.Assign [.Subscript o i pos'] e pos) (dAsgKM w wo wi):=(ps_dput hu ho hi he hs).imp fun E σ H hq=>by
 obtain⟨φ,ρ,μ,N,A,M,w,L⟩:=hq
 refine⟨φ,ρ,μ,_,A,M,w,fun d μ1 φ1 v1 H1 k1 f1 M1 i1=>?_⟩
 refine⟨φ1,ρ,μ1,_,A.mono f1,M1,k1,fun d2 μ2 φ2 v2 H2 k2 f2 M2 i2=>?_⟩
 refine⟨φ2,ρ,μ2,_,A.mono (f1.trans f2),M2,k2,fun d3 μ3 φ3 v3 H3 k3 f3 M3 i3=>?_⟩
 cases d2 with
 | mr j =>
  obtain⟨kd,kd',em,hl,ek',k3⟩:=k3
  obtain⟨k,ek,rfl⟩:=Option.map_eq_some_iff.mp ek'
  obtain⟨p,hp,rfl⟩:=i2.mono f3
  obtain⟨p',e1,kvs,vs,hv,h1,h2,ha⟩:=M3.at_ j _ em
  rw[hp]at e1;cases e1
  subst h2
  cases keyD_is ek i3
  have f4:Fr φ3 H3 φ3 (upd H3 p (.dK (putK kvs k v1))):=.put (gxD hp)
  obtain⟨g1,g2⟩:=dput_rel (k:=k) ((i1.mono (f2.trans f3)).mono f4) h1 (ha.mono f4)
  refine⟨p,_,rfl,DPut.k hv (by have:=congrArg List.length h1;rw[gxC,gxC]at this;omega),?_⟩
  have M4:=M3.put (k:=j) (p:=p) (o:=.dK (putK kvs k v1)) (m:=.dic ((dput kd k d).map (·.1)) ((dput kd k d).map (·.2))) hp ⟨putK kvs k v1,_,upd_same,g1,rfl,g2⟩
  exact L.nx ρ _ φ3 σ _ k3 ((f1.trans (f2.trans f3)).trans f4) (A.mono ((f1.trans (f2.trans f3)).trans f4)) M4
 | _=>exact k3.elim
def rDictC:List V->Hp->VK->Prop:=fun vs H Q=>match vs with
 | [.ref a]=>∃ kvs,Rd H a (.dK kvs)/\∀ p,H p=none->Q (.ref p) (upd H p (.dK kvs))
 | _=>False
theorem dictC:CallR X (.type "dict") rDictC:=by
 intro pins s σ H xs us Q I r h
 unfold rDictC at h
 split at h
 ·rename_i a
  obtain⟨kvs,rd,q⟩:=h
  cases r with
  | cons r1 r2 =>
   cases r2
   cases r1
   exact d_copyOf I rd fun p s' hp I'=>⟨.ref p,_,I',rfl,q p hp⟩
 ·exact h.elim
end
def jnT (l1 l2:List Nat)(p:Int):List Nat:=l1.take p.toNat++l2.drop p.toNat
end L2
namespace L2
open PySem PySem.Spec PyProof.Rows PySem.SeqAt
end L2
namespace L2
open PySem PySem.Spec PyProof.Rows
theorem cutD_from {α:Type}(g:α->D)(ts:List α)(k:Nat):cutD (ts.map g) (some (k:Int)) none=(ts.drop k).map g:=by
 unfold cutD
 rw[HT.sIx_nat,HT.sIx_none,gxC,<- List.map_drop,<- List.map_take]
 by_cases q:k<=ts.length
 ·rw[Nat.min_eq_left q,List.take_of_length_le (by rw[List.length_drop];omega)]
 ·rw[List.drop_of_length_le (by omega),List.drop_of_length_le (by omega),List.take_nil]
def insM (C:Addr)(μ:MS)(k:Nat):Option (List Str×List D):=match μ[k]? with | some (.ins C' ns ds)=>if C'=C then some (ns,ds)else none | _=>none
theorem insM_eq {C:Addr}{μ:MS}{k:Nat}{q:List Str×List D}(h:insM C μ k=some q):μ[k]?=some (.ins C q.1 q.2):=by
 unfold insM at h
 split at h
 ·rename_i C' ns ds e
  by_cases z:C'=C
  ·rw[if_pos z]at h;cases h;rw[e,z]
  ·rw[if_neg z]at h;cases h
 ·cases h
theorem insM_of {C:Addr}{μ:MS}{k:Nat}{ns:List Str}{ds:List D}(h:μ[k]?=some (.ins C ns ds)):insM C μ k=some (ns,ds):=by unfold insM;rw[h];exact if_pos rfl
def lookN (f:Str):List Str->List D->Option D
 | n::ns,d::ds=>if n=f then some d else lookN f ns ds
 | _,_=>none
def putN (f:Str)(d:D):List Str->List D->List Str×List D
 | n::ns,e::ds=>if n=f then(n::ns,d::ds)else(n::(putN f d ns ds).1,e::(putN f d ns ds).2)
 | _,_=>([f],[d])
theorem lookN_is {φ:List Addr}{H:Hp}{f:Str}{d:D}:∀ {fs:List (Str×V)} {ds:List D},DAll φ H ds (fs.map (·.2))->lookN f (fs.map (·.1)) ds=some d->∃ v,fs.lookup f=some v/\DIs φ H d v
 | [],ds,h,e=>by cases ds <;> cases e
 | (n,x)::fs,ds,h,e=>by
  cases ds with
  | nil=>cases e
  | cons d0 ds =>
   obtain⟨v,r,e1,h1,h2⟩:=h
   simp only[List.map_cons,List.cons.injEq]at e1
   obtain⟨rfl,rfl⟩:=e1
   simp only[List.map_cons,lookN]at e
   rw[List.lookup_cons]
   by_cases q:n=f
   ·rw[if_pos q]at e;cases e
    subst q
    exact⟨x,by simp,h1⟩
   ·rw[if_neg q]at e
    have:(f==n)=false:=beq_eq_false_iff_ne.mpr fun z=>q z.symm
    simp only[this]
    exact lookN_is h2 e
theorem lookN_no {φ:List Addr}{H:Hp}{f:Str}:∀ {fs:List (Str×V)} {ds:List D},DAll φ H ds (fs.map (·.2))->lookN f (fs.map (·.1)) ds=none->fs.lookup f=none
 | [],ds,h,e=>rfl
 | (n,x)::fs,ds,h,e=>by
  cases ds with
  | nil=>cases(show _=_ from h)
  | cons d0 ds =>
   obtain⟨v,r,e1,h1,h2⟩:=h
   simp only[List.map_cons,List.cons.injEq]at e1
   obtain⟨rfl,rfl⟩:=e1
   simp only[List.map_cons,lookN]at e
   rw[List.lookup_cons]
   by_cases q:n=f
   ·rw[if_pos q]at e;cases e
   ·rw[if_neg q]at e
    have:(f==n)=false:=beq_eq_false_iff_ne.mpr fun z=>q z.symm
    simp only[this]
    exact lookN_no h2 e
theorem putN_is {φ:List Addr}{H:Hp}{f:Str}{d:D}{v:V}(hd:DIs φ H d v):∀ {fs:List (Str×V)} {ds:List D},DAll φ H ds (fs.map (·.2))->(putF f v fs).map (·.1)=(putN f d (fs.map (·.1)) ds).1/\DAll φ H (putN f d (fs.map (·.1)) ds).2 ((putF f v fs).map (·.2))
 | [],ds,h=>by cases ds <;> exact⟨rfl,v,[],rfl,hd,rfl⟩
 | (n,x)::fs,ds,h=>by
  cases ds with
  | nil=>cases(show _=_ from h)
  | cons d0 ds =>
   obtain⟨v',r,e1,h1,h2⟩:=h
   simp only[List.map_cons,List.cons.injEq]at e1
   obtain⟨rfl,rfl⟩:=e1
   simp only[putF,List.map_cons,putN]
   by_cases q:n=f
   ·rw[if_pos q,if_pos q]
    exact⟨rfl,_,_,rfl,hd,h2⟩
   ·rw[if_neg q,if_neg q]
    obtain⟨i1,i2⟩:=putN_is hd h2
    exact⟨by simp only[List.map_cons,i1],_,_,rfl,h1,i2⟩
section
variable {X:Cx}{a b e o:Expr}{es:List Expr}{pos:Pos}{C:Addr}
def dFld (C:Addr)(f:Str)(w:De):De:=fun ρ μ K=>w ρ μ fun x μ1=>match x with
 | .mr k=>∃ d,(insM C μ1 k).bind (fun q=>lookN f q.1 q.2)=some d/\K d μ1
 | .obj C' ns ds=>C'=C/\∃ d,lookN f ns ds=some d/\K d μ1
 | _=>False
theorem d_fld {f:Str}{w:De}(c:Cls X.K C)(n:NoAttr X.K C f)(h:PD X e w)(hb:attributeBase e f X.env (eval e X.env)=eval e X.env:=by rfl):PD X (.Attribute e f pos) (dFld C f w):=(pe_fld h hb).imp fun σ H Q hq=>by
 obtain⟨φ,ρ,μ,K,A,M,k,L⟩:=hq
 refine⟨φ,ρ,μ,_,A,M,k,fun d1 μ1 φ1 v1 H1 k1 f1 M1 i1=>?_⟩
 cases d1 with
 | mr j =>
  obtain⟨d,e1,k1⟩:=k1
  obtain⟨q,e2,e3⟩:=Option.bind_eq_some_iff.mp e1
  obtain⟨p,hp,rfl⟩:=i1
  obtain⟨p',e4,dx,fs,h1,h2,h3⟩:=M1.at_ j _ (insM_eq e2)
  rw[hp]at e4;cases e4
  rw[<- h2]at e3
  obtain⟨v,l,iv⟩:=lookN_is h3 e3
  exact⟨p,C,dx,fs,v,rfl,h1,c,n,l,L _ μ1 φ1 v H1 k1 f1 M1 iv⟩
 | obj C' ns ds =>
  obtain⟨rfl,d,e3,k1⟩:=k1
  obtain⟨p,dx,fs,vs,rfl,_,h1,h2,rfl,h3⟩:=i1
  rw[<- h2]at e3
  obtain⟨v,l,iv⟩:=lookN_is h3 e3
  exact⟨p,_,dx,fs,v,rfl,h1,c,n,l,L _ μ1 φ1 v H1 k1 f1 M1 iv⟩
 | _=>exact k1.elim
def dSFld (C:Addr)(f:Str)(w wo:De):Ds:=fun N ρ μ=>w ρ μ fun d μ1=>wo ρ μ1 fun x μ2=>match x with
 | .mr k=>∃ q q':List Str×List D,insM C μ2 k=some q/\putN f d q.1 q.2=q'/\q.1.length<1000/\N.nx ρ (μ2.set k (.ins C q'.1 q'.2))
 | _=>False
theorem s_fld {f:Str}{w wo:De}{pos':Pos}(c:Cls X.K C)(n:NoAttr X.K C f)(he:PD X e w)(ho:PD X o wo)(hs:swapsWith e (some (.Attribute o f pos')) pos.line X.env=pure false:=by rfl):PDS X (.Assign [.Attribute o f pos'] e pos) (dSFld C f w wo) :=
 (ps_fld ho he hs).imp fun E σ H hq=>by
 obtain⟨φ,ρ,μ,N,A,M,k,L⟩:=hq
 refine⟨φ,ρ,μ,_,A,M,k,fun d μ1 φ1 v1 H1 k1 f1 M1 i1=>?_⟩
 refine⟨φ1,ρ,μ1,_,A.mono f1,M1,k1,fun d2 μ2 φ2 v2 H2 k2 f2 M2 i2=>?_⟩
 cases d2 with
 | mr j =>
  obtain⟨q,_,e2,rfl,hl,k2⟩:=k2
  obtain⟨p,hp,rfl⟩:=i2
  obtain⟨p',e4,dx,fs,h1,h2,h3⟩:=M2.at_ j _ (insM_eq e2)
  rw[hp]at e4;cases e4
  have f4:Fr φ2 H2 φ2 (upd H2 p (.ins C dx (putF f v1 fs))):=.put (gxD hp)
  obtain⟨g1,g2⟩:=putN_is (f:=f) ((i1.mono f2).mono f4) (h3.mono f4)
  rw[h2]at g1 g2
  refine⟨p,C,dx,fs,rfl,h1,c,n,by rw[<- h2,gxC]at hl;exact hl,?_⟩
  exact L.nx ρ _ φ2 σ _ k2 ((f1.trans f2).trans f4) (A.mono ((f1.trans f2).trans f4)) (M2.put hp ⟨dx,_,upd_same,g1,g2⟩)
 | _=>exact k2.elim
structure CalM (P:Program)(w:World)(K:PySem.W.Frag)(mg:Str->Option Value)(base:Heap)(C:Addr)(m:Str)(k:Nat)(ps:List Str)(sp:Sp):Prop where
 ex:∃ f fd,FnOk P w K mg base CX0 k f fd ps sp/\Meth K C m f/\Binds K fd ps []
def recvD (C:Addr)(m:Str)(μ:MS):D->Prop
 | .mr k=>(insM C μ k).map (fun q=>lookN m q.1 q.2)=some none
 | .obj C' ns es=>C'=C/\lookN m ns es=none
 | _=>False
theorem recvD_is {m:Str}{φ:List Addr}{H:Hp}{μ:MS}{d:D}{v:V}(M:MSis φ H μ)(i:DIs φ H d v)(h:recvD C m μ d):∃ p dx fs,v=.ref p/\H p=some (.ins C dx fs)/\fs.lookup m=none:=by
 cases d with
 | mr j =>
  obtain⟨q,e2,e3⟩:=Option.map_eq_some_iff.mp (show(insM C μ j).map (fun q=>lookN m q.1 q.2)=some none from h)
  obtain⟨p,hp,rfl⟩:=i
  obtain⟨p',e4,dx,fs,h1,h2,h3⟩:=M.at_ j _ (insM_eq e2)
  rw[hp]at e4;cases e4
  rw[<- h2]at e3
  exact⟨p,dx,fs,rfl,h1,lookN_no h3 e3⟩
 | obj C' ns es =>
  obtain⟨rfl,e3⟩:=(show C'=C/\lookN m ns es=none from h)
  obtain⟨p,dx,fs,vs0,rfl,_,h1,h2,rfl,h3⟩:=i
  rw[<- h2]at e3
  exact⟨p,dx,fs,rfl,h1,lookN_no h3 e3⟩
 | _=>exact(show False from h).elim
def dMeth (C:Addr)(m:Str)(f:DSp)(wo:De)(w:DA):De:=fun ρ μ K=>wo ρ μ fun x μ1=>recvD C m μ1 x/\w ρ μ1 fun ds μ2=>f (x::ds) μ2 K
theorem tD_meth {m:Str}{f:DSp}{wo:De}{w:DA}{σ:St}{H:Hp}{Q:VK}(h:tD (dMeth C m f wo w) σ H Q):tMeth C m (spD f) [] E0 (tD wo) (tDA w) σ H Q:=by
 obtain⟨φ,ρ,μ,K,A,M,k,L⟩:=h
 refine⟨φ,ρ,μ,_,A,M,k,fun d1 μ1 φ1 v1 H1 k1 f1 M1 i1=>?_⟩
 obtain⟨p,dx,fs,rfl,h1,h2⟩:=recvD_is M1 i1 k1.1
 refine⟨p,dx,fs,rfl,h1,h2,φ1,ρ,μ1,_,A.mono f1,M1,k1.2,fun ds μ2 φ2 vs H2 k2 f2 M2 i2=>?_⟩
 show spD f (.ref p::(vs++[])) H2 Q E0
 rw[List.append_nil]
 exact⟨φ2,d1::ds,μ2,K,⟨_,vs,rfl,DIs.mono f2 i1,i2⟩,M2,k2,L.mono (f1.trans f2)⟩
theorem d_meth {m:Str}{f:DSp}{wo:De}{w:DA}{apos:Pos}{pl:Sem Bool}{k:Nat}{ps:List Str}(CM:CalM X.prog X.w X.K X.mg X.base C m k ps (spD f))(c:Cls X.K C)(hr:Room k X.A)(ho:PD X o wo)(ha:PDA X (e::es) w)
 (hst:starEach (e::es) X.env=(false,eval e X.env)::starEach es X.env:=by rfl) (hpl:(backTo pos (starEach es X.env)).any (·.1)=false:=by rfl)
 (ht:eval (.Call (.Attribute o m apos) (e::es) [] pos) X.env=(do
   let ov <- eval o X.env
   standAt apos.atName
   let (f,first) <- holding [ov] (getMethod ov m pl)
   callWith pos f first (backTo pos (starEach (e::es) X.env)) (backToKw pos (keywordEach [] X.env))):=by rfl) :
 PD X (.Call (.Attribute o m apos) (e::es) [] pos) (dMeth C m f wo w):=by
 obtain⟨f',fd,F,hm,hb⟩:=CM.ex
 exact(pe_meth ho c hm F hr hb .nil pass0 ha hst hpl ht).imp fun σ H Q hq=>tD_meth hq
theorem d_meth0 {m:Str}{f:DSp}{wo:De}{apos:Pos}{pl:Sem Bool}{k:Nat}{ps:List Str}(CM:CalM X.prog X.w X.K X.mg X.base C m k ps (spD f))(c:Cls X.K C)(hr:Room k X.A)(ho:PD X o wo)
 (ht:eval (.Call (.Attribute o m apos) [] [] pos) X.env=(do
   let ov <- eval o X.env
   standAt apos.atName
   let (f,first) <- holding [ov] (getMethod ov m pl)
   callWith pos f first (backTo pos (starEach [] X.env)) (backToKw pos (keywordEach [] X.env))):=by rfl) :
 PD X (.Call (.Attribute o m apos) [] [] pos) (dMeth C m f wo dNil):=by
 obtain⟨f',fd,F,hm,hb⟩:=CM.ex
 refine(pe_meth0 ho c hm F hr hb .nil pass0 ht).imp fun σ H Q hq=>?_
 obtain⟨φ,ρ,μ,K,A,M,k,L⟩:=hq
 refine⟨φ,ρ,μ,_,A,M,k,fun d1 μ1 φ1 v1 H1 k1 f1 M1 i1=>?_⟩
 obtain⟨p,dx,fs,rfl,h1,h2⟩:=recvD_is M1 i1 k1.1
 exact⟨p,dx,fs,rfl,h1,h2,φ1,[d1],μ1,K,⟨_,[],rfl,i1,rfl⟩,M1,k1.2,L.mono f1⟩
structure CalI (P:Program)(w:World)(K:PySem.W.Frag)(mg:Str->Option Value)(base:Heap)(x:Str)(C:Addr)(k:Nat)(ps:List Str)(sp:Sp):Prop where
 ex:∃ f fd,FnOk P w K mg base CX0 k f fd ps sp/\Mk K C f/\mg x=some (.ref C)/\Binds K fd ps []
def dMake (C:Addr)(f:DSp)(w:DA):De:=fun ρ μ K=>w ρ μ fun ds μ1=>f (.mr μ1.length::ds) (μ1++[.ins C [] []]) fun d μ2=>d=.non/\K (.mr μ1.length) μ2
theorem tD_make {f:DSp}{w:DA}{σ:St}{H:Hp}{Q:VK}(h:tD (dMake C f w) σ H Q):tMake C (spD f) [] E0 (tDA w) σ H Q:=by
 obtain⟨φ,ρ,μ,K,A,M,k,L⟩:=h
 refine⟨φ,ρ,μ,_,A,M,k,fun ds μ1 φ1 vs H1 k1 f1 M1 i1 x dx hx hdx ne=>?_⟩
 have S1:Same H1 (upd H1 dx (.own x)):=Same.upd hdx
 have hx':upd H1 dx (.own x) x=none:=by rw[upd_ne (Ne.symm ne)];exact hx
 have fa:Fr φ1 H1 φ1 (upd H1 dx (.own x)):=.same S1
 obtain⟨M2,f2⟩:=(M1.same S1).snoc (m:=.ins C [] []) (o:=.ins C dx []) hx' ⟨dx,[],upd_same,rfl,rfl⟩
 have f3:=fa.trans f2
 have hin:DIs (φ1++[x]) (upd (upd H1 dx (.own x)) x (.ins C dx [])) (.mr μ1.length) (.ref x):=⟨x,by rw[gxG (by rw[M1.len];exact Nat.le_refl _),M1.len,Nat.sub_self];rfl,rfl⟩
 show spD f (.ref x::(vs++[])) _ _ E0
 rw[List.append_nil]
 refine⟨φ1++[x],.mr μ1.length::ds,μ1++[.ins C [] []],_,⟨_,vs,rfl,hin,i1.mono f3⟩,M2,k1,fun d μ3 φ3 v H3 k3 f4 M3 i3=>?_⟩
 obtain⟨rfl,k3⟩:=k3
 exact⟨i3,L _ μ3 φ3 _ H3 k3 ((f1.trans f3).trans f4) M3 (hin.mono f4)⟩
theorem d_make {x:Str}{f:DSp}{w:DA}{p:Pos}{k:Nat}{ps:List Str}(CI:CalI X.prog X.w X.K X.mg X.base x C k ps (spD f))(hr:Room (k+1) X.A)(hg:Gl X x)(ha:PDA X (e::es) w)
 (hdb:(x==("__debug__" : Str))=false:=by decide) (he:starEach (e::es) X.env=(false,eval e X.env)::starEach es X.env:=by rfl) (hpl:(backTo pos (starEach es X.env)).any (·.1)=false:=by rfl) :
 PD X (.Call (.Name x p) (e::es) [] pos) (dMake C f w):=by
 obtain⟨f',fd,F,M,hm,hb⟩:=CI.ex
 exact(pe_make M F hr hg hm hb .nil pass0 ha hdb he hpl).imp fun σ H Q hq=>tD_make hq
theorem cal_of {P:Program}{w:World}{K:PySem.W.Frag}{mg:Str->Option Value}{base h:Heap}{x q:Str}{st:Stmt}{f:Addr}{fd:FuncData}{k:Nat}{ps:List Str}{sp:Sp}(G:K.In h)(N:h.Ns mainGlobals mg)(F:Fun K x q st f fd)(ok:FnOk P w K mg base CX0 k f fd ps sp)(hb:Binds K fd ps [])
 (a:PySem.W.nsIn K mainGlobals x=some (some (.ref f)):=by kernel_rfl):Cal P w K mg base x k ps sp:=⟨f,fd,ok,PySem.W.mg_of G N a,F.kp,hb⟩
theorem calm_of {P:Program}{w:World}{K:PySem.W.Frag}{mg:Str->Option Value}{base:Heap}{C:Addr}{x q:Str}{st:Stmt}{f:Addr}{fd:FuncData}{k:Nat}{ps:List Str}{sp:Sp}(F:Fun K x q st f fd)(ok:FnOk P w K mg base CX0 k f fd ps sp)(hb:Binds K fd ps [])
 (a:PySem.W.findIn K (.ref C) x=some (some (.ref f)):=by kernel_rfl) (i:PySem.W.isFn K (.ref f)=true:=by kernel_rfl):CalM P w K mg base C x k ps sp:=⟨f,fd,ok,⟨a,i,F.kp⟩,hb⟩
theorem cali_of {P:Program}{w:World}{K:PySem.W.Frag}{mg:Str->Option Value}{base h:Heap}{C:Addr}{y q:Str}{st:Stmt}{f:Addr}{fd:FuncData}{k:Nat}{ps:List Str}{sp:Sp}(G:K.In h)(N:h.Ns mainGlobals mg)(F:Fun K "__init__" q st f fd)(ok:FnOk P w K mg base CX0 k f fd ps sp)(hb:Binds K fd ps [])
 (n:PySem.W.nsIn K mainGlobals y=some (some (.ref C)):=by kernel_rfl) (a:PySem.W.findIn K (.ref C) "__init__"=some (some (.ref f)):=by kernel_rfl) (i:PySem.W.isFn K (.ref f)=true:=by kernel_rfl) (m:PySem.W.makesIn K C=true:=by kernel_rfl) (p:PySem.W.keepIn K (.ref C)=true:=by kernel_rfl):CalI P w K mg base y C k ps sp:=⟨f,fd,ok,⟨m,a,i,p⟩,PySem.W.mg_of G N n,hb⟩
end
def bmN:List Str:=["places", "rows", "tables", "whole", "counts"]
abbrev At (g:Heap)(b:Addr):Prop:=∃ u,g.get? b=some u
structure Kp (g:Heap)(l:List Env)(h h':Heap):Prop where
 other:∀ b o,h.get? b=some o->At g b->b∉frs l->h'.get? b=some o
 slot:∀ b o,h.get? b=some o->At g b->b∈frs l->∃ sl,h'.get? b=some { o with slots:=sl}
theorem Kp.trans {g:Heap}{l:List Env}{h1 h2 h3:Heap}(a:Kp g l h1 h2)(b:Kp g l h2 h3):Kp g l h1 h3 :=
 ⟨fun c o q lt hc=>b.other c o (a.other c o q lt hc) lt hc,fun c o q lt hc=>by
  obtain⟨sl,e⟩:=a.slot c o q lt hc
  obtain⟨sl',e'⟩:=b.slot c _ e lt hc
  exact⟨sl',e'⟩⟩
theorem Kp.any {g:Heap}{l:List Env}{h h':Heap}(a:Kp g l h h'){b:Addr}{o:Obj}(q:h.get? b=some o)(lt:At g b):∃ sl,h'.get? b=some { o with slots:=sl}:=by
 by_cases hb:b∈frs l
 ·exact a.slot b o q lt hb
 ·exact⟨o.slots,a.other b o q lt hb⟩
theorem Kp.of {g:Heap}{l:List Env}{h h':Heap}(k:∀ b o,h.get? b=some o->At g b->h'.get? b=some o):Kp g l h h':=⟨fun b o q lt _=>k b o q lt,fun b o q lt _=>⟨o.slots,k b o q lt⟩⟩
abbrev Gk (g h:Heap):Prop:=∀ b,At g b->At h b
theorem Kp.gk {g:Heap}{l:List Env}{h h':Heap}(a:Kp g l h h')(k:Gk g h):Gk g h':=fun b hb=>by
 obtain⟨o,e⟩:=k b hb
 obtain⟨sl,e'⟩:=a.any e hb
 exact⟨_,e'⟩
theorem Gk.fresh {g h:Heap}(k:Gk g h):g.get? h.objs.size=none:=by
 cases q:g.get? h.objs.size with
 | none=>rfl
 | some o=>obtain⟨o',e⟩:=k _ ⟨o,q⟩;exact absurd (gxN e) (Nat.lt_irrefl _)
theorem at_ne {g:Heap}{b c:Addr}(h:At g b)(hc:g.get? c=none):c≠b:=fun z=>by obtain⟨u,e⟩:=h;rw[<- z,hc]at e;cases e
def ExAt (g:Heap)(e:Addr)(cls fl:Value)(h:Heap):Prop:=∃(oe:Obj) (vs:Array Value) (T:Addr) (oT:Obj) (ts:Array Value),(h.get? e=some oe/\(oe.cls=cls/\oe.dict=none)/\oe.data=.fields vs/\vs[1]?=some (.ref T)/\vs[2]?=some .none)/\(g.get? T=none/\T≠e/\h.get? T=some oT/\oT.data=.fields ts/\ts[3]?=some fl)/\g.get? e=none
section
variable {M:Model}{A:Around}{E:Value->Shared->Prop}{s:Shared}
theorem entry_new {base:Heap}{env:Env}{outer:List Env}{L e:Addr}{oe:Obj}{vs:Array Value}{head:Value}{hadNext:Bool}{g:Heap}{Q:Unit->Shared->Prop}
 (hfr:A.frames=some (env::outer)) (hl:s.heap.FunFrames base (env::outer)) (hf:env.frame=some L) (he:s.heap.get? e=some oe) (hdi:oe.dict=none) (hd:oe.data=.fields vs) (h1:1<vs.size) (h2:vs[2]?=some .none) (hn:g.get? e=none) (hs:Gk g s.heap)
 (h:∀ h',ExAt g e oe.cls (rawInt L) h'->Kp g (env::outer) s.heap h'->Q () { s with heap:=h'}) :
 wpAny M A (do let a <- frameOf env;let pl <- entryPlaceOf L hadNext;let b <- EntryCells.newEntry head a .none (rawInt L) .none pl;setField (.ref e) 1 b) Q E s:=by
 have hene:e∉(env::outer).filterMap (·.frame):=fun hm=>by
  obtain⟨_,o,ho,hnf⟩:=hl.mem hm
  rw[he]at ho;injection ho with ho;subst ho;exact hnf vs hd
 refine gxM (wpAny_frameOf_fun hfr hl hf fun m x=>?_)
 refine gxM (wpAny_entryPlaceOf fun pl hpl=>?_)
 unfold EntryCells.newEntry newFields
 refine gxM (wpAny_newObj_type ?_ (hpl.sizeOk5 _ _ _ _ _))
 obtain⟨rec,hrec⟩:∃ rec:Obj,rec={ cls:=.type "traceback",dict:=none,data:=.fields ([head,.ref L,.none,rawInt L,.none]++(if pl.isEmpty then List.replicate 6 Value.none else pl)).toArray}:=⟨_,rfl⟩
 rw[<- hrec]
 have e1:m.get? e=some oe:=(x.2.1 e hene).trans he
 have e2:=gxL rec e1
 have hT:(m.push rec).get? m.objs.size=some rec:=Heap.get?_push_size m (by rw[hrec];rfl)
 have hTe:m.objs.size≠e:=Nat.ne_of_gt (gxN e1)
 have hd3:=Obj.data_mapFields hd (·.setIfInBounds 1 (Value.ref m.objs.size))
 have e3:=Heap.get?_update_self (Obj.mapFields (·.setIfInBounds 1 (Value.ref m.objs.size))) e2 (Obj.isFreed_of_fields hd3)
 refine wpAny_setField e2 hd h1 (h _ ⟨_,_,m.objs.size,rec,_,⟨e3,⟨Obj.cls_mapFields _ _,by show(Obj.mapFields _ oe).dict=none;unfold Obj.mapFields;split <;> exact hdi⟩,hd3,by simp[h1],by rw[Array.getElem?_setIfInBounds_ne (by decide)];exact h2⟩,⟨by rw[x.1];exact hs.fresh,hTe,?_,by rw[hrec],?_⟩,hn⟩ ⟨fun b o q lt hb=>?_,fun b o q lt hb=>?_⟩)
 ·rw[Heap.get?_update_other _ _ (Ne.symm hTe)];exact hT
 ·first | (simp;done) | (rcases hpl with rfl | ⟨_,_,_,_,_,_,_,rfl⟩<;> simp)
 ·rw[Heap.get?_update_other _ _ (at_ne lt hn)]
  exact gxL _ ((x.2.1 b hb).trans q)
 ·obtain⟨sl,q'⟩:=x.2.2 b o q
  exact⟨sl,by rw[Heap.get?_update_other _ _ (at_ne lt hn)];exact gxL _ q'⟩
theorem note_first {base:Heap}{env:Env}{outer:List Env}{L e:Addr}{oe:Obj}{vs:Array Value}{g:Heap}{Q:Unit->Shared->Prop}
 (hfr:A.frames=some (env::outer)) (hl:s.heap.FunFrames base (env::outer)) (hf:env.frame=some L) (he:s.heap.get? e=some oe) (hdi:oe.dict=none) (hd:oe.data=.fields vs) (h1:vs[1]?=some .none) (h2:vs[2]?=some .none) (hn:g.get? e=none) (hs:Gk g s.heap)
 (h:∀ h',ExAt g e oe.cls (rawInt L) h'->Kp g (env::outer) s.heap h'->Q () { s with heap:=h'}):wpAny M A (noteFrame (.ref e) env) Q E s:=by
 unfold noteFrame
 simp only[hf]
 refine gxM (wpAny_field he hd h1 ?_)
 rw[if_neg (by decide)]
 exact entry_new hfr hl hf he hdi hd (Array.getElem?_eq_some_iff.mp h1).1 h2 hn hs h
theorem note_next {base:Heap}{env:Env}{outer:List Env}{L e:Addr}{cls:Value}{g:Heap}{Q:Unit->Shared->Prop}
 (hfr:A.frames=some (env::outer)) (hl:s.heap.FunFrames base (env::outer)) (hf:env.frame=some L) (hs:Gk g s.heap) (x:ExAt g e cls .none s.heap)
 (h:∀ h',ExAt g e cls (rawInt L) h'->Kp g (env::outer) s.heap h'->Q () { s with heap:=h'}):wpAny M A (noteFrame (.ref e) env) Q E s:=by
 obtain⟨oe,vs,T,oT,ts,⟨he,hc,hd,h1,h2⟩,⟨hn,hTe,hT,hdT,h3⟩,hne⟩:=x
 unfold noteFrame
 simp only[hf]
 refine gxM (wpAny_field he hd h1 ?_)
 rw[if_pos (show(Value.ref T != Value.none)=true from by simp)]
 refine gxM (wpAny_field hT hdT h3 ?_)
 rw[if_neg (show ¬ ((Value.none==rawInt L)=true)from by simp[rawInt])]
 refine gxM (wpAny_setField hT hdT (Array.getElem?_eq_some_iff.mp h3).1 ?_)
 have other:∀ b,b≠T->(s.heap.update T (Obj.mapFields (·.setIfInBounds 3 Value.none))).get? b=s.heap.get? b:=fun b hb=>Heap.get?_update_other _ _ (Ne.symm hb)
 have ff:(s.heap.update T (Obj.mapFields (·.setIfInBounds 3 Value.none))).FunFrames base (env::outer):=hl.of_keeps fun b o q nf=>⟨o,(other b fun z=>by rw[z,hT]at q;cases q;exact nf _ hdT).trans q,rfl⟩
 have k0:Kp g (env::outer) s.heap (s.heap.update T (Obj.mapFields (·.setIfInBounds 3 Value.none))):=Kp.of fun b o q lt=>(other b (Ne.symm (at_ne lt hn))).trans q
 exact entry_new (g:=g) hfr ff hf ((other e (Ne.symm hTe)).trans he) hc.2 hd (Array.getElem?_eq_some_iff.mp h1).1 h2 hne (k0.gk hs) fun h' a k=>h h' (hc.1▸a) (k0.trans k)
theorem flight_none {l:List Env}{e:Addr}{cls fl:Value}{g:Heap}{Q:Unit->Shared->Prop}(x:ExAt g e cls fl s.heap)
 (h:∀ h',ExAt g e cls .none h'->Kp g l s.heap h'->(∀ b o,s.heap.get? b=some o->(∀ vs,o.data≠.fields vs)->h'.get? b=some o)->Q () { s with heap:=h'}):wpAny M A (setFlight (.ref e) none) Q E s:=by
 obtain⟨oe,vs,T,oT,ts,⟨he,hc,hd,h1,h2⟩,⟨hn,hTe,hT,hdT,h3⟩,hne⟩:=x
 unfold setFlight
 refine gxM (wpAny_field he hd h1 ?_)
 rw[if_pos (show(Value.ref T != Value.none)=true from by simp)]
 have h3s:=(Array.getElem?_eq_some_iff.mp h3).1
 have hd3:=Obj.data_mapFields hdT (·.setIfInBounds 3 ((none:Option Addr).elim Value.none fun f=>rawInt f))
 have other:∀ b,b≠T->(s.heap.update T (Obj.mapFields (·.setIfInBounds 3 ((none:Option Addr).elim Value.none fun f=>rawInt f)))).get? b=s.heap.get? b:=fun b hb=>Heap.get?_update_other _ _ (Ne.symm hb)
 refine wpAny_setField hT hdT h3s (h _ ⟨oe,vs,T,_,_,⟨(other e (Ne.symm hTe)).trans he,hc,hd,h1,h2⟩,⟨hn,hTe,Heap.get?_update_self _ hT (Obj.isFreed_of_fields hd3),hd3,by simp[h3s]⟩,hne⟩ (Kp.of fun b o q lt=>(other b (Ne.symm (at_ne lt hn))).trans q) fun b o q nf=>(other b fun z=>by rw[z,hT]at q;cases q;exact nf _ hdT).trans q)
end
def CX1 (P:Program)(w:World):CXT:=fun outer H s E ev s'=>∃(e:Addr) (cls:Value) (H':Hp) (g:Heap),ev=.ref e/\s'.os=s.os/\AllBare s'.gens/\Un (frs outer) [] H H' s.heap s'.heap/\HOk P w H' s'.heap/\(Gk s.heap g/\(∀ b,H' b≠none->At g b)/\Gk g s'.heap)/\ExAt g e cls .none s'.heap/\E cls none H'
theorem at_of {P:Program}{w:World}{H:Hp}{h:Heap}{a:Addr}{o:HO}(x:HOk P w H h)(e:H a=some o):At h a:=by
 have x:=x a o e
 cases o with
 | lst xs=>obtain⟨_,_,_,_,e⟩:=x;exact⟨_,e⟩
 | tup xs=>obtain⟨_,_,_,_,e,_⟩:=x;exact⟨_,e⟩
 | dK kvs=>obtain⟨_,_,_,_,o,_,_,e,_⟩:=x;exact⟨_,e⟩
 | dT kvs=>obtain⟨_,_,_,_,o,_,_,e,_⟩:=x;exact⟨_,e⟩
 | set S n=>obtain⟨o,_,_,_,e,_⟩:=x;exact⟨_,e⟩
 | ins C dx fs=>obtain⟨_,_,_,e,_⟩:=x;exact⟨_,e⟩
 | own y=>obtain⟨_,e⟩:=x;exact⟨_,e⟩
 | xd fs=>obtain⟨_,⟨_,_,_,e,_⟩,_⟩:=x;exact⟨_,e⟩
 | rng lo hi=>obtain⟨_,_,_,e⟩:=x;exact⟨_,e⟩
 | frz ob u=>obtain⟨e,_⟩:=x;exact⟨_,e⟩
 | tbl ps=>exact⟨_,(show h.get? a=some _ from x)⟩
 | met f y=>exact⟨_,(show h.get? a=some _ from x)⟩
 | ext φ=>obtain⟨_,⟨_,e⟩,_⟩:=x;exact⟨_,e⟩
theorem hok_kp {P:Program}{w:World}{g h h':Heap}{l:List Env}{H:Hp}(x:HOk P w H h)(hb:∀ b,H b≠none->At g b/\b∉frs l)(k:Kp g l h h'):HOk P w H h':=fun a o e =>
 (x a o e).stay (fun b u hb' q=>by
   have hn:H b≠none:=by rcases hb' with rfl | z <;> intro y <;> simp_all
   exact k.other b u q (hb b hn).1 (hb b hn).2) (fun _ q=>q) fun _ _ q=>q
section
variable {X:Cx}{pins:List (Addr×Obj)}{σ:St}{H H':Hp}{s:Shared}{g h1 h2:Heap}
theorem Inv.exit (I:Inv X pins σ H s)(hx:X.ex=[])(u:Un (frs X.stack) [] H H' s.heap h1)(hg:Gk s.heap g)(k:Kp g X.stack h1 h2):Un X.fs [] X.H₀ H' X.s₀.heap h2:=by
 have nx:∀ b,b∉X.ex:=fun b z=>by rw[hx]at z;cases z
 have nn:∀ b:Addr,b∉([]:List Addr):=fun b z=>by cases z
 have atg:∀ b o,X.s₀.heap.get? b=some o->At g b:=fun b o e=>by
  obtain⟨o',e'⟩:=I.base.there b o e (nx b)
  exact hg b ⟨o',e'⟩
 refine⟨fun b o e n hb _=>?_,fun b o e n hb _=>?_,fun b o e n _=>?_,fun b o e _=>?_,fun b xs e=>u.tups b xs (I.base.tups b xs e),fun b o xs e=>u.frzs b o xs (I.base.frzs b o xs e),fun b ps e=>?_⟩
 ·have e1:=I.base.keep b o e n hb (nx b)
  have n1:=I.base.free b o e n (nx b)
  have hs:b∉frs X.stack:=fun z=>by
   rcases List.mem_cons.mp (I.stkSub b z)with y | y
   ·exact absurd y (Nat.ne_of_lt (Nat.lt_of_lt_of_le (gxN e) I.ok.above))
   ·exact hb y
  exact k.other b o (u.keep b o e1 n1 hs (nn b)) (atg b o e) hs
 ·obtain⟨sl,e1⟩:=I.base.slot b o e n hb (nx b)
  have n1:=I.base.free b o e n (nx b)
  obtain⟨sl2,e2⟩:=u.any e1 n1 (nn b)
  obtain⟨sl3,e3⟩:=k.any e2 (atg b o e)
  exact⟨sl3,e3⟩
 ·obtain⟨o',e1⟩:=I.base.there b o e (nx b)
  exact u.free b o' e1 (I.base.free b o e n (nx b)) (nn b)
 ·obtain⟨o',e1⟩:=I.base.there b o e (nx b)
  obtain⟨o2,e2⟩:=u.there b o' e1 (nn b)
  obtain⟨sl,e3⟩:=k.any e2 (atg b o e)
  exact⟨_,e3⟩
 ·obtain⟨m1,e1⟩:=I.base.tbls b ps e
  obtain⟨m2,e2⟩:=u.tbls b _ e1
  exact⟨m1++m2,by rw[e2,Array.append_assoc]⟩
end
section
variable {P:Program}{w:World}{K:PySem.W.Frag}{mg:Str->Option Value}{base:Heap}{N:List Str}{qual:Str}{scope:Scope}{f:Addr}{cd:Value}{A:Around}{outer:List Env}{s₀ s:Shared}{H₀ H:Hp}{E:XK}{pins:List (Addr×Obj)}{σ:St}
theorem flies:Passes (CX1 P w) (cxOf (CX1 P w) P w K mg base N qual scope f cd A outer s₀ H₀ E) E:=fun pins σ H s ev s' I c=>by
 obtain⟨e,cls,H',g,rfl,os,bare,un,hok,⟨g1,g2,g3⟩,ex,hE⟩:=c
 have I2:=I.call' (s':=s') (ch:=[]) os un hok bare (fun b z=>absurd z (by simp))
 have hfr:(cxOf (CX1 P w) P w K mg base N qual scope f cd A outer s₀ H₀ E).A.frames=some (envOfC qual scope s₀.heap.objs.size f cd::outer):=I.ok.frames
 show wpAny _ _ (leaving _ (.ref e)) _ _ s'
 unfold leaving
 refine gxM (note_next hfr I2.stack rfl g3 ex fun h1 x1 k1=>?_)
 refine flight_none (l:=envOfC qual scope s₀.heap.objs.size f cd::outer) x1 fun h2 x2 k2 _=>?_
 have k:=k1.trans k2
 exact⟨e,cls,H',g,rfl,os.trans I.os,bare,I.exit rfl un g1 k,hok_kp hok (fun b hb=>⟨g2 b hb,fun z=>hb (I2.stkFree b z)⟩) k,⟨fun b hb=>by
  obtain⟨o,e0⟩:=hb
  obtain⟨o',e1⟩:=I.base.there b o e0 (by simp[cxOf])
  exact g1 b ⟨o',e1⟩,g2,k.gk g3⟩,x2,hE⟩
theorem raises {h':Heap}{e:Addr}{cls:Value}{vs:List Value}(I:Inv (cxOf (CX1 P w) P w K mg base N qual scope f cd A outer s₀ H₀ E) pins σ H s)(x:Heap.MadeExcOf s.heap h' e cls vs)(hE:E cls none H):(cxOf (CX1 P w) P w K mg base N qual scope f cd A outer s₀ H₀ E).xe (.ref e) { s with heap:=h'}:=by
 have hfr:(cxOf (CX1 P w) P w K mg base N qual scope f cd A outer s₀ H₀ E).A.frames=some (envOfC qual scope s₀.heap.objs.size f cd::outer):=I.ok.frames
 obtain⟨t,he,htn,ht⟩:=x.there
 have ff:h'.FunFrames base (envOfC qual scope s₀.heap.objs.size f cd::outer):=(show s.heap.FunFrames base _ from I.stack).of_keeps fun b o q _=>⟨o,x.keeps b o q,rfl⟩
 have gk:Gk s.heap h':=fun b hq6=>by obtain⟨o,q⟩:=hq6;exact⟨o,x.keeps b o q⟩
 show wpAny _ _ (leaving _ (.ref e)) _ _ _
 unfold leaving
 refine gxM (note_first (s:={ s with heap:=h'}) (g:=s.heap) hfr ff rfl he rfl rfl rfl rfl x.new gk fun h1 x1 k1=>?_)
 refine flight_none (l:=envOfC qual scope s₀.heap.objs.size f cd::outer) x1 fun h2 x2 k2 _=>?_
 have k:=k1.trans k2
 have un:Un (frs (envOfC qual scope s₀.heap.objs.size f cd::outer)) [] H H s.heap h':=Un.kept x.keeps
 have hok:HOk P w H h':=(show HOk P w H s.heap from I.hok).kept x.keeps
 refine⟨e,cls,H,s.heap,rfl,I.os,I.bare,I.exit rfl un (fun b hb=>hb) k,hok_kp hok (fun b hb=>⟨?_,fun z=>hb (I.stkFree b z)⟩) k,⟨fun b hb=>?_,fun b hb=>?_,k.gk gk⟩,x2,hE⟩
 ·cases q:H b with
  | none=>exact absurd q hb
  | some o=>exact at_of (show HOk P w H s.heap from I.hok) q
 ·obtain⟨o,e0⟩:=hb
  obtain⟨o',e1⟩:=I.base.there b o e0 (by simp[cxOf])
  exact⟨o',e1⟩
 ·cases q:H b with
  | none=>exact absurd q hb
  | some o=>exact at_of (show HOk P w H s.heap from I.hok) q
end
abbrev DX:=Value->MS->Prop
def LifX (φ:List Addr)(H:Hp)(Kx:DX)(E:XK):Prop:=∀ c μ' φ' H',Kx c μ'->Fr φ H φ' H'->MSis φ' H' μ'->E c none H'
theorem LifX.mono {φ φ1:List Addr}{H H1:Hp}{Kx:DX}{E:XK}(h:LifX φ H Kx E)(f:Fr φ H φ1 H1):LifX φ1 H1 Kx E:=fun c μ' φ' H' k g M=>h c μ' φ' H' k (f.trans g) M
abbrev DSpX:=List D->MS->DK->DX->Prop
def spX (f:DSpX):Sp:=fun vs H Q E=>∃ φ ds μ K Kx,DAll φ H ds vs/\MSis φ H μ/\f ds μ K Kx/\Lif φ H K Q/\LifX φ H Kx E
structure CalX (P:Program)(w:World)(K:PySem.W.Frag)(mg:Str->Option Value)(base:Heap)(x:Str)(k:Nat)(ps:List Str)(sp:Sp):Prop where
 ex:∃ f fd,FnOk P w K mg base (CX1 P w) k f fd ps sp/\mg x=some (.ref f)/\PySem.W.keepIn K (.ref f)=true/\Binds K fd ps []
structure Rz (X:Cx)(φ0:List Addr)(H0:Hp)(Kx:DX):Prop where
 ex:∃ E:XK,LifX φ0 H0 Kx E/\Passes (CX1 X.prog X.w) X E
structure Rm (X:Cx)(φ0:List Addr)(H0:Hp)(Kx:DX):Prop where
 ex:∃ E:XK,LifX φ0 H0 Kx E/\Passes (CX1 X.prog X.w) X E/\∀(pins:List (Addr×Obj)) (σ:St) (H:Hp) (s:Shared) (h':Heap) (e:Addr) (cls:Value) (vs:List Value),Inv X pins σ H s->Heap.MadeExcOf s.heap h' e cls vs->E cls none H->X.xe (.ref e) { s with heap:=h'}
theorem Rm.z {X:Cx}{φ0:List Addr}{H0:Hp}{Kx:DX}(h:Rm X φ0 H0 Kx):Rz X φ0 H0 Kx:=let ⟨E,a,b,_⟩:=h.ex;⟨E,a,b⟩
theorem MSis.hist {φ φ0:List Addr}{H H0:Hp}{μ:MS}(M:MSis φ H μ)(e:μ[0]?=some (.gx φ0 H0)):Fr φ0 H0 φ H:=let ⟨_,_,h⟩:=M.at_ 0 _ e;h.1
theorem MoIs.nt {φ:List Addr}{H:Hp}{m:MO}{p:Addr}(h:MoIs φ H m p)(zs:List V):H p≠some (.tup zs):=fun e=>by
 cases m with
 | box=>obtain⟨q,ns,i,r,z,h1,_⟩:=h;rw[e]at h1;cases h1
 | lst ds=>obtain⟨vs,h1,_⟩:=h;rw[e]at h1;cases h1
 | dic ks ds=>obtain⟨kvs,vs,h1,_⟩:=h;rw[e]at h1;cases h1
 | fdic o kvs ds=>have h1:=h.1;rw[e]at h1;cases h1
 | ins C ns ds=>obtain⟨dx,fs,h1,_⟩:=h;rw[e]at h1;cases h1
 | dtu ks ds=>obtain⟨kvs,h1,_⟩:=h;rw[e]at h1;cases h1
 | gx φ0 H0=>exact h.2.2.2 zs e
 | exc c=>rw[show _=_ from h]at e;cases e
theorem MSis.ghost {φ:List Addr}{H:Hp}{μ:MS}{m:MO}(M:MSis φ H μ)(e:μ[0]?=some m):MSis φ H (μ.set 0 (.gx φ H)):=by
 have h0:0<μ.length:=(gxB e).1
 refine⟨M.nd,by rw[List.length_set];exact M.len,fun k n en=>?_⟩
 by_cases hk:k=0
 ·subst hk
  rw[List.getElem?_set_self h0]at en
  cases en
  obtain⟨p,e1,e2⟩:=M.at_ 0 m e
  exact⟨p,e1,.refl _ _,rfl,e2.ex,e2.nt⟩
 ·rw[List.getElem?_set_ne (Ne.symm hk)]at en
  exact M.at_ k n en
theorem MSis.back {φ φ':List Addr}{H H':Hp}{μ μ':MS}{m:MO}(M:MSis φ H μ)(e:μ[0]?=some m)(M':MSis φ' H' μ')(e':μ'[0]?=some (.gx φ H)):MSis φ' H' (μ'.set 0 m):=by
 have h0:0<μ'.length:=(gxB e').1
 refine⟨M'.nd,by rw[List.length_set];exact M'.len,fun k n en=>?_⟩
 by_cases hk:k=0
 ·subst hk
  rw[List.getElem?_set_self h0]at en
  cases en
  obtain⟨p',e1,f,hp,_⟩:=M'.at_ 0 _ e'
  obtain⟨p,e2,im⟩:=M.at_ 0 m e
  have:=f.get e2
  rw[e1]at this
  cases this
  exact⟨p',e1,im.mono f fun o q=>hp.trans q⟩
 ·rw[List.getElem?_set_ne (Ne.symm hk)]at en
  exact M'.at_ k n en
def gK (φ0:List Addr)(H0:Hp)(m:MO)(K:DK):DK:=fun d μ'=>μ'[0]?=some (.gx φ0 H0)/\K d (μ'.set 0 m)
def gX (φ0:List Addr)(H0:Hp)(m:MO)(K:DX):DX:=fun c μ'=>μ'[0]?=some (.gx φ0 H0)/\K c (μ'.set 0 m)
theorem Lif.ghost {φ:List Addr}{H:Hp}{μ:MS}{m:MO}{K:DK}{Q:VK}(L:Lif φ H K Q)(M:MSis φ H μ)(e:μ[0]?=some m):Lif φ H (gK φ H m K) Q:=fun d μ' φ' v H' ⟨e',k⟩ f M' i=>L d _ φ' v H' k f (M.back e M' e') i
theorem LifX.ghost {φ:List Addr}{H:Hp}{μ:MS}{m:MO}{K:DX}{Q:XK}(L:LifX φ H K Q)(M:MSis φ H μ)(e:μ[0]?=some m):LifX φ H (gX φ H m K) Q:=fun c μ' φ' H' ⟨e',k⟩ f M'=>L c _ φ' H' k f (M.back e M' e')
section
variable {X:Cx}{e:Expr}{es:List Expr}{pos:Pos}{φ0:List Addr}{H0:Hp}{Kx:DX}
def dCallX (φ0:List Addr)(H0:Hp)(Kx:DX)(f:DSpX)(w:DA):De:=fun ρ μ K=>w ρ μ fun ds μ1=>μ1[0]?=some (.gx φ0 H0)/\f ds μ1 K Kx
theorem d_callX {f:DSpX}{w:DA}{x:Str}{p:Pos}{k:Nat}{ps:List Str}(Z:Rz X φ0 H0 Kx)(C:CalX X.prog X.w X.K X.mg X.base x k ps (spX f))(hr:Room k X.A)(hg:Gl X x)(ha:PDA X (e::es) w)
 (hdb:(x==("__debug__" : Str))=false:=by decide) (he:starEach (e::es) X.env=(false,eval e X.env)::starEach es X.env:=by rfl) (hpl:(backTo pos (starEach es X.env)).any (·.1)=false:=by rfl) :
 PD X (.Call (.Name x p) (e::es) [] pos) (dCallX φ0 H0 Kx f w):=by
 obtain⟨E,LX,hp⟩:=Z.ex
 obtain⟨f',fd,F,hm,hk,hb⟩:=C.ex
 exact(pe_call F hr hg hm hk hb .nil hp ha hdb he hpl).imp fun σ H Q ⟨φ,ρ,μ,K,Ee,M,w,L⟩ =>
  ⟨φ,ρ,μ,_,Ee,M,w,fun ds μ1 φ1 vs H1 k1 f1 M1 i1=>by show spX f (vs++[]) H1 Q E;rw[List.append_nil];exact⟨φ1,ds,μ1,K,Kx,i1,M1,k1.2,L.mono f1,LX.mono (M1.hist k1.1)⟩⟩
def dRaise (φ0:List Addr)(H0:Hp)(Kx:DX)(C:Addr)(w:DA):Ds:=fun _ ρ μ=>w ρ μ fun ds μ1=>ds.length<=sizeLine/\μ1[0]?=some (.gx φ0 H0)/\Kx (.ref C) μ1
theorem s_raise {w:DA}{x:Str}{C:Addr}{bm bmN:List Value}{B Bn newId nid initId inN:String}{np cpos:Pos}(Z:Rm X φ0 H0 Kx)(hc:X.calm=true)(O:OwnCls x C bm newId X.mg X.base)(Fn:ExcBaseFacts Bn newId inN bmN)(hBn:bm.contains (.type Bn)=true)
 (FB:ExcBaseFacts B nid initId bm) (hg:Gl X x) (ha:PDA X (e::es) w) (hd:(x==("__debug__" : Str))=false:=by decide)
 (he:starEach (e::es) X.env=(false,eval e X.env)::starEach es X.env:=by rfl) (hpl:(backTo cpos (starEach es X.env)).any (·.1)=false:=by rfl) :
 PDS X (.Raise (some (.Call (.Name x np) (e::es) [] cpos)) none pos) (dRaise φ0 H0 Kx C w):=fun pins s σ H D I hq=>by
 obtain⟨φ,ρ,μ,N,A,M,k,L⟩:=hq
 obtain⟨E,LX,hp,mk⟩:=Z.ex
 obtain⟨tl,Na,nm,q,bs,hdct,sn,sub,ab,col,dd,k0,k1,k2,k3,k5,mN,hC,hN,hni,T⟩:=O.obj
 refine wpAny_Raise_call_subU (C:=C) (nm:=nm) (q:=q) (N:=Na) (bs:=bs) (bm:=tl) (hdct:=hdct) (sn:=sn) (sub:=sub) (ab:=ab) (col:=col) (dd:=dd) (k0:=k0) (k1:=k1) (k2:=k2) (k3:=k3) (k5:=k5)
  Fn hBn FB (mN:=mN) (T.hasType FB.hasBase) (I.ok.hd hc) (by rw[he];show(false||(backTo cpos (starEach es X.env)).any (·.1))=false;rw[hpl];rfl) hni (ld_glob I hg O.bound ⟨rfl,?_⟩ hd)
 have h:=ha cpos pins s σ H (fun vs H1=>vs.length<=sizeLine/\E (.ref C) none H1) I ⟨φ,ρ,μ,_,A,M,k,fun ds μ1 φ1 vs H1 k1 f1 M1 i1=>⟨by rw[i1.len];exact k1.1,LX (.ref C) μ1 φ1 H1 k1.2.2 (M1.hist k1.2.1) M1⟩⟩
 rw[he]at h ⊢
 refine Calls.evalArgs_plain (wpAny_mono h (fun us s2 hq0=>by obtain⟨vs,H1,I1,r1,q1⟩:=hq0;exact⟨rfl,by rw[<- r1.length];exact q1.1,I1.bk _ _ hC,hN.keeps I1.bk,T.keeps I1.bk,fun h' e' mx=>mk pins σ H1 s2 h' e' _ _ I1 mx q1.2⟩) fun _ _ y=>y)
end
def FX (n:Nat)(K:DX):DX:=fun c μ'=>K c μ'\/((∀(j:Nat) (m:MO),j<n->μ'[j]?=some m->moB n m)/\K c (μ'.take n))
theorem LifX.fx {φ:List Addr}{H:Hp}{μ:MS}{K:DX}{E:XK}(M:MSis φ H μ)(L:LifX φ H K E):LifX φ H (FX μ.length K) E:=fun c μ' φ' H' k f M'=>by
 rcases k with k | ⟨hm,k⟩
 ·exact L c μ' φ' H' k f M'
 ·have eφ:φ'.take μ.length=φ:=by
   obtain⟨⟨ψ,rfl,_⟩,_,_⟩:=f
   rw[<- M.len,List.take_left]
  have f0:Fr φ H (φ'.take μ.length) H':=by
   rw[eφ]
   exact⟨⟨[],by simp,fun _ h=>nomatch h⟩,f.keep,f.dom⟩
  exact L c _ _ H' k f0 (M'.cutT hm)
section
variable {P:Program}{w:World}{K:PySem.W.Frag}{mg:Str->Option Value}{base:Heap}
theorem Fun.okX {x qual:Str}{st:Stmt}{f:Addr}{fd:FuncData}{N ps:List Str}{k:Nat}{fs:DSpX}(F:Fun K x qual st f fd)(S:FnScope N ps (defScope st))(len:∀ ds μ Kd Kx,fs ds μ Kd Kx->ds.length=ps.length/\∃ m,μ[0]?=some m)
 (hbody:∀(cdv:Value) (A:Around) (outer:List Env) (s:Shared) (H:Hp) (E:XK),Room k (A.deeper (envOfC qual (defScope st) s.heap.objs.size f cdv))->∀(φ0:List Addr) (Kb:DX),Rm (cxOf (CX1 P w) P w K mg base N qual (defScope st) f cdv A outer s H E) φ0 H Kb ->
   ∃ W,PDB (cxOf (CX1 P w) P w K mg base N qual (defScope st) f cdv A outer s H E) (defBody st) W/\∀ ds μ m Kd Kx,(∀(j:Nat) (m':MO),(μ.set 0 (.gx φ0 H))[j]?=some m'->moB (μ.set 0 (.gx φ0 H)).length m')->mrL (μ.set 0 (.gx φ0 H)).length ds->μ[0]?=some m->fs ds μ Kd Kx->Kb=FX (μ.set 0 (.gx φ0 H)).length (gX φ0 H m Kx) ->
    W (retN (μ.set 0 (.gx φ0 H)).length (gK φ0 H m Kd)) (startE N ds) (μ.set 0 (.gx φ0 H))):FnOk P w K mg base (CX1 P w) (k+1) f fd ps (spX fs):=by
 obtain⟨oc,od,kV,doc,pm,an,cdv,ct,osl,rfl,lk,hcd⟩:=F.ex
 refine fn_of lk hcd S (fun vs H Q E h=>?_) fun A outer s H vs Q E hr hsp=>?_
 ·obtain⟨φ,ds,μ,Kd,Kx,ha,M,hf,L,LX⟩:=h
  rw[ha.len];exact(len ds μ Kd Kx hf).1
 ·obtain⟨φ,ds,μ,Kd,Kx,ha,M,hf,L,LX⟩:=hsp
  obtain⟨_,m,em⟩:=len ds μ Kd Kx hf
  have Mg:=M.ghost em
  have Lg:=(L.ghost M em).fz Mg
  obtain⟨W,hW,q⟩:=hbody cdv A outer s H E hr φ (FX (μ.set 0 (.gx φ H)).length (gX φ H m Kx)) ⟨E,(LX.ghost M em).fx Mg,flies,fun pins σ H' s' h' e cls vs I x hE=>raises I x hE⟩
  refine⟨_,hW,φ,startE N ds,μ.set 0 (.gx φ H),retN (μ.set 0 (.gx φ H)).length (gK φ H m Kd),.start ha,Mg,q ds μ m Kd Kx Mg.bound (by rw[<- Mg.len];exact ha.bound) em hf rfl,⟨fun ρ' μ' φ' σ' H' k' f' A' M'=>?_,Lg,fun _ _ _ _ _ k' _ _ _=>k'.elim,fun _ _ _ _ _ k' _ _ _=>k'.elim⟩⟩
  exact Lg .non μ' φ' .non H' k' f' M' rfl
end
abbrev hC (φ0:List Addr)(H0:Hp)(k:Nat):MS->Prop:=fun μ=>μ[0]?=some (.gx φ0 H0)/\∃ c,μ[k]?=some (.exc c)
abbrev veB:List Value:=[.type "ValueError",.type "Exception",.type "BaseException",.type "object"]
theorem cls_of {K:PySem.W.Frag}{C:Addr}{bmB:List Value}{newId:String}(q:PySem.W.excIn K C bmB newId=true):∃(bm:List Value) (ns:Addr) (nm qn:Str) (bs:List Value) (hd:Bool) (sn:List Str) (sub:List Value) (ab:Bool) (col:Option Bool) (dd:Option Addr) (k0 k1 k2 k3 k5:Option Value),
 K.lookup C=some (excClassObj nm qn C ns bs bm hd sn sub ab col dd k0 k1 k2 k3 k5 newId)/\PySem.W.nsOkIn K ns=true/\PySem.W.nsIn K ns "__init__"=some none/\PySem.W.tailIn K bmB bm=true:=by
 unfold PySem.W.excIn at q
 split at q
 ·rename_i dd cd sl ho
  split at q
  ·rename_i C' bm k0 k1 k2 k3 n k5 hm hs
   simp only[Bool.and_eq_true,beq_iff_eq,Bool.not_eq_true']at q
   obtain⟨⟨⟨⟨⟨rfl,rfl⟩,hdel⟩,ht⟩,hok⟩,hni⟩:=q
   obtain⟨nm,bs,mro,ns,qn,hd,sn,sub,ab,col,del⟩:=cd
   dsimp only at hm hdel hok hni
   subst hm hdel
   have hsl:sl=#[k0,k1,k2,k3,some (.builtin n),k5]:=by
    obtain⟨l⟩:=sl
    simp only at hs
    rw[hs]
   subst hsl
   exact⟨bm,ns,nm,qn,bs,hd,sn,sub,ab,col,dd,k0,k1,k2,k3,k5,ho,hok,hni,ht⟩
  ·cases q
 ·cases q
theorem own_of {K:PySem.W.Frag}{h:Heap}{mg:Str->Option Value}{x:Str}{C:Addr}(X:K.In h)(G:h.Ns mainGlobals mg)(e:PySem.W.nsIn K mainGlobals x=some (some (.ref C)))(q:PySem.W.excIn K C veB "ValueError.__new__"=true):OwnCls x C veB "ValueError.__new__" mg h:=by
 obtain⟨bm,ns,nm,qn,bs,hd,sn,sub,ab,col,dd,k0,k1,k2,k3,k5,h1,h2,h3,h4⟩:=cls_of q
 exact⟨PySem.W.mg_of X G e,bm,ns,nm,qn,bs,hd,sn,sub,ab,col,dd,k0,k1,k2,k3,k5,_,X _ _ h1,.of_isNs (PySem.W.isNs_of_in X h2),PySem.W.nsMap_none_of_in X h2 h3,PySem.W.tail_of_in X h4⟩
theorem calx_of {P:Program}{w:World}{K:PySem.W.Frag}{mg:Str->Option Value}{base h:Heap}{x q:Str}{st:Stmt}{f:Addr}{fd:FuncData}{k:Nat}{ps:List Str}{sp:Sp}(G:K.In h)(N:h.Ns mainGlobals mg)(F:Fun K x q st f fd)(ok:FnOk P w K mg base (CX1 P w) k f fd ps sp)(hb:Binds K fd ps [])
 (a:PySem.W.nsIn K mainGlobals x=some (some (.ref f)):=by kernel_rfl):CalX P w K mg base x k ps sp:=⟨f,fd,ok,PySem.W.mg_of G N a,F.kp,hb⟩
theorem gx_at {μ:MS}{m n:MO}(em:μ[0]?=some m):(μ.set 0 n)[0]?=some n:=List.getElem?_set_self (gxB em).1
theorem gx_back {μ:MS}{m n:MO}(em:μ[0]?=some m):(μ.set 0 n).set 0 m=μ:=by
 cases μ with
 | nil=>cases em
 | cons a r=>cases em;rfl
theorem gX_of {μ:MS}{m:MO}{n:Nat}{φ0:List Addr}{H:Hp}{c:Value}{Kb Kx:DX}(hK:Kb=FX n (gX φ0 H m Kx))(em:μ[0]?=some m)(k:Kx c μ):(μ.set 0 (.gx φ0 H))[0]?=some (.gx φ0 H)/\Kb c (μ.set 0 (.gx φ0 H)):=⟨gx_at em,by rw[hK];exact .inl ⟨gx_at em,by rw[gx_back em];exact k⟩⟩
theorem gK_of {μ:MS}{m:MO}{φ0:List Addr}{H:Hp}{d:D}{K:DK}(em:μ[0]?=some m)(k:K d μ):gK φ0 H m K d (μ.set 0 (.gx φ0 H)):=⟨gx_at em,by rw[gx_back em];exact k⟩
def runOk (n e a b:Int):Prop:=e<a/\a<b/\b<=n
instance (n e a b:Int):Decidable (runOk n e a b):=by unfold runOk;infer_instance
section
variable {X:Cx}{a b e o:Expr}{es:List Expr}{pos:Pos}
def dFz (w:De):De:=fun ρ μ K=>w ρ μ (Fz μ.length K)
theorem d_fz {w:De}(h:PD X e w):PD X e (dFz w):=h.imp fun σ H Q hq=>by
 obtain⟨φ,ρ,μ,K,A,M,k,L⟩:=hq
 exact⟨φ,ρ,μ,_,A,M,k,L.fz M⟩
def tFrz (t:TE):TE:=fun σ H Q=>t σ H fun v H1=>∃ a kvs,v=.ref a/\H1 a=some (.dK kvs)/\∀ o,Q v (upd H1 a (.frz o (.dK kvs)))
theorem pe_frz {t:TE}(h:PE X e t):PE X e (tFrz t):=fun pins s σ H Q I q =>
 thn (h pins s σ H _ I q) fun v s1 hq=>by
  obtain⟨x,H1,I1,r1,a,kvs,ex,e1,q1⟩:=hq
  subst ex
  obtain⟨o,vs,ep,kv,hd,da,hs,I2⟩:=freeze I1 (.inl e1)
  exact⟨_,_,I2,r1,q1 o⟩
def dFrz (w:De):De:=fun ρ μ K=>w ρ μ fun x μ1=>match x with
 | .mr j=>∃ ks ds,μ1[j]?=some (.dic ks ds)/\∀(o:Obj) (kvs:List (Key×V)),kvs.map (·.1)=ks->K (.mr j) (μ1.set j (.fdic o kvs ds))
 | _=>False
theorem d_frz {w:De}(h:PD X e w):PD X e (dFrz w):=(pe_frz h).imp fun σ H Q hq=>by
 obtain⟨φ,ρ,μ,K,A,M,k,L⟩:=hq
 refine⟨φ,ρ,μ,_,A,M,k,fun d μ1 φ1 v1 H1 k1 f1 M1 i1=>?_⟩
 cases d with
 | mr k =>
  have i1':=i1
  obtain⟨p,hp,rfl⟩:=i1
  obtain⟨ks,ds,em,k1⟩:=k1
  obtain⟨p',e1,kvs,vs,h1,h2,h3,h4⟩:=M1.at_ k _ em
  rw[hp]at e1;cases e1
  subst h3
  refine⟨p,kvs,rfl,h1,fun o=>?_⟩
  have f2:Fr φ1 H1 φ1 (upd H1 p (.frz o (.dK kvs))):=.put (gxD hp)
  have M2:=M1.put (k:=k) (p:=p) (o:=.frz o (.dK kvs)) (m:=.fdic o kvs ds) hp ⟨upd_same,h4.mono f2⟩
  exact L _ _ φ1 _ _ (k1 o kvs h2) (f1.trans f2) M2 (i1'.mono f2)
 | _=>exact k1.elim
def dNewF:De:=fun _ μ K=>K (.fdc [] []) μ
theorem d_dnewF:PD X (.Dict [] [] pos) dNewF:=(d_fz (d_frz d_dnew)).imp fun σ H Q hq=>by
 obtain⟨φ,ρ,μ,K,A,M,k,L⟩:=hq
 refine⟨φ,ρ,μ,K,A,M,⟨[],[],by rw[gxG (Nat.le_refl _),Nat.sub_self];rfl,fun o kvs hk=>?_⟩,L⟩
 have e0:(μ++[MO.dic [] []]).set μ.length (.fdic o kvs [])=μ++[.fdic o kvs []]:=set_end
 rw[e0]
 refine Fz.fdc (Nat.le_refl _) (by rw[gxG (Nat.le_refl _),Nat.sub_self];rfl) (show mrL _ []from True.intro) (old_app M.bound) ?_
 rw[List.take_left,hk]
 exact k
theorem fdc_is {φ:List Addr}{H:Hp}{ks:List Key}{ds:List D}{v:V}(i:DIs φ H (.fdc ks ds) v):∃ p o kvs,v=.ref p/\H p=some (.frz o (.dK kvs))/\kvs.map (·.1)=ks/\DAll φ H ds (kvs.map (·.2)):=by
 obtain⟨p,o,kvs,vs,rfl,_,h1,h2,rfl,h3⟩:=i
 exact⟨p,o,kvs,rfl,h1,h2,h3⟩
def ixF (ks:List Key)(ds:List D)(y:D):Option (Option D):=(keyD y).map fun k=>dval (ks.zip ds) k
def dIxF:DOp:=fun x y μ K=>match x with
 | .fdc ks ds=>∃ d,ixF ks ds y=some (some d)/\K d μ
 | .mr j=>∃ d,ixM μ j y=some (some d)/\K d μ
 | _=>False
theorem d_ixF {wa wb:De}(hu:X.A.units+1<cLine)(ha:PD X a wa)(hb:PD X b wb)(hs:NoSl b):PD X (.Subscript a b pos) (dOp dIxF wa wb):=(pe_dget hu ha hb hs).imp fun σ H Q hq=>by
 obtain⟨φ,ρ,μ,K,A,M,k,L⟩:=hq
 refine⟨φ,ρ,μ,_,A,M,k,fun d1 μ1 φ1 v1 H1 k1 f1 M1 i1=>?_⟩
 refine⟨φ1,ρ,μ1,_,A.mono f1,M1,k1,fun d2 μ2 φ2 v2 H2 k2 f2 M2 i2=>?_⟩
 cases d1 with
 | fdc ks ds =>
  obtain⟨d,ex,k2⟩:=k2
  obtain⟨k,ek,ed⟩:=Option.map_eq_some_iff.mp ex
  obtain⟨p,o,kvs,rfl,rd,e1,ha⟩:=fdc_is (i1.mono f2)
  cases keyD_is ek i2
  obtain⟨v,ev,iv⟩:=dval_get e1 ha ed
  exact⟨p,v,rfl,.inl ⟨kvs,k,.inr ⟨o,rd⟩,rfl,ev.symm⟩,(L.mono (f1.trans f2)).val M2 k2 iv⟩
 | mr j =>
  obtain⟨d,ex,k2⟩:=k2
  obtain⟨ks,ds,k,em,ek,ed⟩:=ixM_ex ex
  obtain⟨p,kvs,hp,rfl,rd,e1,ha⟩:=dicM_is M2 (i1.mono f2) em
  cases keyD_is ek i2
  obtain⟨v,ev,iv⟩:=dval_get e1 ha ed
  exact⟨p,v,rfl,.inl ⟨kvs,k,rd,rfl,ev.symm⟩,(L.mono (f1.trans f2)).val M2 k2 iv⟩
 | _=>exact k2.elim
def dInF (neg:Bool):DOp:=fun x y μ K=>match y with
 | .fdc ks ds=>∃ o,ixF ks ds x=some o/\K (.bl (neg != o.isSome)) μ
 | .mr j=>∃ o,ixM μ j x=some o/\K (.bl (neg != o.isSome)) μ
 | _=>False
theorem inF_ex {neg:Bool}{φ:List Addr}{H:Hp}{μ:MS}{x y:D}{vx vy:V}{K:DK}{Q:VK}(M:MSis φ H μ)(ix:DIs φ H x vx)(iy:DIs φ H y vy)(k:dInF neg x y μ K)(L:Lif φ H K Q):∃ p o,vy=.ref p/\DGet H p vx o/\Q (.bl (neg != o.isSome)) H:=by
 cases y with
 | fdc ks ds =>
  obtain⟨oo,ex,k2⟩:=k
  obtain⟨k,ek,rfl⟩:=Option.map_eq_some_iff.mp ex
  obtain⟨p,o,kvs,rfl,rd,e1,ha⟩:=fdc_is iy
  cases keyD_is ek ix
  refine⟨p,valV kvs k,rfl,.inl ⟨kvs,k,.inr ⟨o,rd⟩,rfl,rfl⟩,?_⟩
  have es:(valV kvs k).isSome=(dval (ks.zip ds) k).isSome:=by
   rcases dval_rel k e1 ha with⟨g1,g2⟩ | ⟨d,v,g1,g2,_⟩<;> (rw[g1,g2];rfl)
  rw[es]
  exact L.val M k2 rfl
 | mr j =>
  obtain⟨oo,ex,k2⟩:=k
  obtain⟨ks,ds,k,em,ek,rfl⟩:=ixM_ex ex
  obtain⟨p,kvs,hp,rfl,rd,e1,ha⟩:=dicM_is M iy em
  cases keyD_is ek ix
  refine⟨p,valV kvs k,rfl,.inl ⟨kvs,k,rd,rfl,rfl⟩,?_⟩
  have es:(valV kvs k).isSome=(dval (ks.zip ds) k).isSome:=by
   rcases dval_rel k e1 ha with⟨g1,g2⟩ | ⟨d,v,g1,g2,_⟩<;> (rw[g1,g2];rfl)
  rw[es]
  exact L.val M k2 rfl
 | _=>exact(show False from k).elim
theorem tD_inF {wa wb:De}{σ:St}{H:Hp}{Q:VK}(h:tD (dOp (dInF false) wa wb) σ H Q):tDIn (tD wa) (tD wb) σ H Q:=by
 obtain⟨φ,ρ,μ,K,A,M,k,L⟩:=h
 refine⟨φ,ρ,μ,_,A,M,k,fun d1 μ1 φ1 v1 H1 k1 f1 M1 i1=>?_⟩
 refine⟨φ1,ρ,μ1,_,A.mono f1,M1,k1,fun d2 μ2 φ2 v2 H2 k2 f2 M2 i2=>?_⟩
 obtain⟨p,o,e,g,q⟩:=inF_ex M2 (i1.mono f2) i2 k2 (L.mono (f1.trans f2))
 rw[fne]at q
 exact⟨p,o,e,g,q⟩
theorem tD_notinF {wa wb:De}{σ:St}{H:Hp}{Q:VK}(h:tD (dOp (dInF true) wa wb) σ H Q):tDNotIn (tD wa) (tD wb) σ H Q:=by
 obtain⟨φ,ρ,μ,K,A,M,k,L⟩:=h
 refine⟨φ,ρ,μ,_,A,M,k,fun d1 μ1 φ1 v1 H1 k1 f1 M1 i1=>?_⟩
 refine⟨φ1,ρ,μ1,_,A.mono f1,M1,k1,fun d2 μ2 φ2 v2 H2 k2 f2 M2 i2=>?_⟩
 obtain⟨p,o,e,g,q⟩:=inF_ex M2 (i1.mono f2) i2 k2 (L.mono (f1.trans f2))
 rw[tne]at q
 exact⟨p,o,e,g,q⟩
theorem t_inF {wa wb:De}(hu:X.A.units+1<cLine)(ha:PD X a wa)(hb:PD X b wb)(hmk:behindInMarks .In b=false):PDT X (.Compare a [.In] [b] pos) (dTst (dOp (dInF false) wa wb)):=(pt_cmp (pc_din hu ha hb) hmk).imp fun σ H Q hq=>tB_of (fun Q q=>tD_inF q) hq
theorem t_notinF {wa wb:De}(hu:X.A.units+1<cLine)(ha:PD X a wa)(hb:PD X b wb)(hmk:behindInMarks .NotIn b=false):PDT X (.Compare a [.NotIn] [b] pos) (dTst (dOp (dInF true) wa wb)):=(pt_cmp (pc_dnotin hu ha hb) hmk).imp fun σ H Q hq=>tB_of (fun Q q=>tD_notinF q) hq
def dcv (μ:MS):D->Option (List Key×List D)
 | .fdc ks ds=>some (ks,ds)
 | .mr j=>dicM μ j
 | _=>none
theorem dcv_is {φ:List Addr}{H:Hp}{μ:MS}{d:D}{v:V}{q:List Key×List D}(M:MSis φ H μ)(i:DIs φ H d v)(h:dcv μ d=some q):∃ p kvs,v=.ref p/\Rd H p (.dK kvs)/\kvs.map (·.1)=q.1/\DAll φ H q.2 (kvs.map (·.2)):=by
 cases d with
 | fdc ks ds =>
  cases h
  obtain⟨p,o,kvs,rfl,rd,e1,ha⟩:=fdc_is i
  exact⟨p,kvs,rfl,.inr ⟨o,rd⟩,e1,ha⟩
 | mr j =>
  obtain⟨p,kvs,hp,rfl,rd,e1,ha⟩:=dicM_is M i (ks:=q.1) (ds:=q.2) h
  exact⟨p,kvs,rfl,rd,e1,ha⟩
 | _=>cases h
def fDictF:DSp:=fun ds μ K=>match ds with
 | [x]=>opt (dcv μ x) fun q=>K (.mr μ.length) (μ++[.dic q.1 q.2])
 | _=>False
theorem so_dictF:SoCall rDictC fDictF:=fun φ H vs ds μ K Q M h k L=>by
 unfold fDictF at k
 split at k
 ·obtain⟨v,r,rfl,h1,h2⟩:=h;cases(show r=[]from h2)
  obtain⟨q,em,k⟩:=opt_ex k
  obtain⟨p,kvs,rfl,rd,e1,ha⟩:=dcv_is M h1 em
  refine⟨kvs,rd,fun p' hp'=>?_⟩
  have f:Fr φ H (φ++[p']) (upd H p' (.dK kvs)):=⟨(Fr.snoc (φ:=φ) hp').ext,fun c u _ e=>Same.upd hp' _ _ e,fun c e=>(Same.upd hp').free e⟩
  obtain⟨M',f'⟩:=M.snoc (o:=.dK kvs) (m:=.dic q.1 q.2) hp' ⟨kvs,_,upd_same,e1,rfl,ha.mono f⟩
  exact L _ _ _ _ _ k f' M' ⟨p',by rw[gxG (by rw[M.len];exact Nat.le_refl _),M.len,Nat.sub_self];rfl,rfl⟩
 ·exact k.elim
def rLenD:List V->Hp->VK->Prop:=fun vs H Q=>match vs with
 | [.ref a]=>∃ kvs,Rd H a (.dK kvs)/\Q (.int kvs.length) H
 | _=>False
theorem lenD:CallR X (.builtin "len") rLenD:=by
 intro pins s σ H xs us Q I r h
 unfold rLenD at h
 split at h
 ·obtain⟨kvs,rd,q⟩:=h
  obtain⟨u,rfl,ru⟩:=r.one
  cases ru
  exact d_len I rd fun t s' I'=>⟨.int _,H,I',⟨t,rfl⟩,q⟩
 ·exact h.elim
def fLenD:DSp:=fun ds μ K=>match ds with
 | [x]=>opt (dcv μ x) fun q=>K (.int q.1.length) μ
 | _=>False
theorem so_lenD:SoCall rLenD fLenD:=fun φ H vs ds μ K Q M h k L=>by
 unfold fLenD at k
 split at k
 ·obtain⟨v,r,rfl,h1,h2⟩:=h;cases(show r=[]from h2)
  obtain⟨q,em,k⟩:=opt_ex k
  obtain⟨p,kvs,rfl,rd,e1,ha⟩:=dcv_is M h1 em
  have el:kvs.length=q.1.length:=by rw[<- e1,gxC]
  exact⟨kvs,rd,by rw[el];exact L.val M k rfl⟩
 ·exact k.elim
def rListD:List V->Hp->VK->Prop:=fun vs H Q=>match vs with
 | [.ref a]=>∃ kvs,Rd H a (.dK kvs)/\∀ p,H p=none->Q (.ref p) (upd H p (.lst (kvs.map fun kv=>kV kv.1)))
 | _=>False
theorem _root_.L2.Vals.ofGet:∀ {xs:List V} {us:List Value},xs.length=us.length->(∀(i:Nat) (x:V) (u:Value),xs[i]?=some x->us[i]?=some u->RelV x u)->Vals xs us
 | [],us,hl,_=>by cases us with
  | nil=>exact .nil
  | cons v r=>simp at hl
 | d::ds,us,hl,h=>by cases us with
  | nil=>simp at hl
  | cons v r=>exact .cons (h 0 d v rfl rfl) (Vals.ofGet (by simpa using hl) fun i a b e1 e2=>h (i+1) a b (by simpa using e1) (by simpa using e2))
theorem items_rel {kvs:List (Key×V)}{vs:List (Key×Value)}{acc:Array Value}(kv:KV kvs vs)(h:ItemsOf (fun i v=>∃ k x,vs[i]?=some (k,x)/\(mixKind X.prog X.w).is k v=true) acc vs.length):Vals (kvs.map fun kv=>kV kv.1) acc.toList:=by
 refine Vals.ofGet (by rw[gxC,kv.length,<- h.1];exact(Array.length_toList (xs:=acc)).symm) fun i x u e1 e2=>?_
 rw[gxH]at e1
 cases q:kvs[i]? with
 | none=>rw[q]at e1;cases e1
 | some p =>
  rw[q]at e1;cases e1
  obtain⟨v,hv⟩:=pair_at kv q
  obtain⟨k,x,e3,e4⟩:=h.2 i u (by rw[<- Array.getElem?_toList];exact e2)
  rw[hv]at e3;cases e3
  exact kV_of e4
theorem listD (calm:X.calm=true):CallR X (.type "list") rListD:=by
 intro pins s σ H xs us Q I r h
 unfold rListD at h
 split at h
 ·rename_i a
  obtain⟨kvs,rd,q⟩:=h
  obtain⟨u,rfl,ru⟩:=r.one
  cases ru
  obtain⟨z,hd,vs,rel,dd⟩:=dk_rd I.hok rd
  obtain⟨ep,da⟩:=dd.dictAt
  refine PySem.W.kdl_call (PySem.W.kdl_dict (knd:=mixKind X.prog X.w) (kvs:=vs) (ep:=ep) hd) (I.ok.hd calm) da (by rw[<- rel.length];exact z) fun h' tk acc' c' kp hl it=>?_
  have I2:Inv X pins σ (upd H s.heap.objs.size (.lst (kvs.map fun kv=>kV kv.1))) { s with heap:=h',toks:=tk}:=I.laid (a:=s.heap.objs.size) (o:=.lst _) (t':=tk) kp (Nat.le_refl _) ⟨by rw[gxC];exact z,acc'.toList,c',items_rel (X:=X) rel it,hl⟩
  exact⟨.ref s.heap.objs.size,_,I2,rfl,q _ (I.hok.fresh (Nat.le_refl _))⟩
 ·exact h.elim
def fListD (m:Bool):DSp:=fun ds μ K=>match ds with
 | [x]=>opt (dcv μ x) fun q=>nL m (q.1.map keyV) μ K
 | _=>False
theorem keyVs_is {φ:List Addr}{H:Hp}:∀(kvs:List (Key×V)),DAll φ H ((kvs.map (·.1)).map keyV) (kvs.map fun kv=>kV kv.1)
 | []=>rfl
 | p::kvs=>⟨_,_,rfl,keyV_is _,keyVs_is kvs⟩
theorem so_listD {m:Bool}:SoCall rListD (fListD m):=fun φ H vs ds μ K Q M h k L=>by
 unfold fListD at k
 split at k
 ·obtain⟨v,r,rfl,h1,h2⟩:=h;cases(show r=[]from h2)
  obtain⟨q,em,k⟩:=opt_ex k
  obtain⟨p,kvs,rfl,rd,e1,ha⟩:=dcv_is M h1 em
  refine⟨kvs,rd,fun p' hp'=>?_⟩
  rw[<- e1]at k
  exact al_n L M (keyVs_is kvs) k hp'
 ·exact k.elim
def dItF (w:De):DI:=fun ρ μ K=>w ρ μ fun d μ1=>match d with
 | .fdc ks ds=>K (ks.map keyV) (fun _=>True) μ1
 | _=>False
theorem i_dictF {tg:Expr}{w:De}(h:PD X a w):PDI X tg a (dItF w):=(pi_dict h).imp fun σ H Q hq=>by
 obtain⟨φ,ρ,μ,K,A,M,k,L⟩:=hq
 refine⟨φ,ρ,μ,_,A,M,k,fun d μ1 φ1 v1 H1 k1 f1 M1 i1=>?_⟩
 cases d with
 | fdc ks ds =>
  have i1':=i1
  obtain⟨p,o,kvs,vs,rfl,hn,h1,rfl,rfl,h3⟩:=i1
  refine⟨p,kvs,rfl,.inr ⟨o,h1,L _ _ _ φ1 _ _ k1 f1 M1 fun φ' H' μ' f' M' c i=>?_⟩⟩
  have h1':=f'.keep _ _ hn h1
  refine⟨fun d hd=>⟨⟨?_,h1'⟩,fun x H'' hy=>?_⟩,fun hi=>⟨by rw[hi,gxC,gxC];exact Nat.le_refl _,h1'⟩⟩
  ·have:=(gxB hd).1
   rw[gxC,gxC]at this
   exact this
  ·obtain⟨rfl,q,hq,rfl⟩:=hy
   rw[gxH,gxH,hq]at hd
   cases hd
   exact⟨.refl _ _,M',keyV_is _⟩
 | _=>exact k1.elim
def Itvf (a:Addr)(o:Obj)(kvs:List (Key×V)):It:=⟨fun i H=>i<kvs.length/\H a=some (.frz o (.dK kvs)),fun i H x H'=>H'=H/\∃ p,kvs[i]?=some p/\x=p.2,fun i H=>kvs.length<=i/\H a=some (.frz o (.dK kvs))⟩
theorem pair_rel {κ:Type}{kvs:List (κ×V)}{vs:List (κ×Value)}(h:KV kvs vs):∀ {i:Nat} {p:κ×V},kvs[i]?=some p->∃ v,vs[i]?=some (p.1,v)/\RelV p.2 v:=by
 unfold KV at h
 induction h with
 | nil=>intro i p e;simp at e
 | @cons a b as bs r _ ih =>
  intro i p e
  cases i with
  | zero =>
   simp at e
   subst e
   refine⟨b.2,?_,r.2⟩
   rw[r.1];rfl
  | succ i=>exact ih (by simpa using e)
theorem turn_valuesF {P:Program}{w:World}{K:PySem.W.Frag}{tg:Expr}(a it:Addr){o:Obj}{kvs:List (Key×V)}{vs:List (Key×Value)}{ep:Nat}(kv:KV kvs vs)(hd:∀ h:Heap,h.get? a=some o->h.DictAt (mixKind P w) a vs ep) :
 Turn P w K tg (Itvf a o kvs) [it] it (fun i h=>h.IsValIter it a i vs.length ep) where
 mem:=by simp
 obj:=fun i h st b hb=>by
  have e:b=it:=by simpa using hb
  subst e
  obtain⟨o,e,c,d⟩:=st
  exact⟨o,e,fun v z=>by rw[d]at z;cases z⟩
 keep:=fun i h h' st k=>by
  obtain⟨o,e,c⟩:=st
  exact⟨o,k it (by simp) o e,c⟩
 item:=by
  intro X hP hw hK hc i pins s σ H E I hf st hg
  subst hP hw hK
  obtain⟨hi,hq⟩:=hg
  obtain⟨p,hp⟩:∃ p,kvs[i]?=some p:=⟨_,gxA hi⟩
  obtain⟨v,hv,rv⟩:=pair_rel kv hp
  have ho:s.heap.get? a=some o:=(show ObjOk X.prog X.w H s.heap a (.frz o (.dK kvs))from I.hok a _ hq).1
  obtain⟨f0,f1,f2,f3,f4,f5⟩:=hf it (by simp)
  refine wpAny_pyNext_values_item st (hd _ ho) hv fun h' st' sb=>?_
  have I1:Inv X pins σ H { s with heap:=h'}:=I.turned (t':=s.toks) (fun b o hb e=>(sb.2 b hb).trans e) f0 f1 f3 f4 f5
  obtain⟨oi,e,c,d⟩:=id st'
  exact⟨v,rfl,go_of (s:={ s with heap:=h'}) e c d (by decide) ⟨p.2,H,I1,rv,⟨rfl,p,hp,rfl⟩,st',fun b hb=>(hf b hb).1⟩⟩
 done:=by
  intro X hP hw hK hc i pins s σ H E I hf st hg
  subst hP hw hK
  obtain⟨hi,hq⟩:=hg
  have ho:s.heap.get? a=some o:=(show ObjOk X.prog X.w H s.heap a (.frz o (.dK kvs))from I.hok a _ hq).1
  obtain⟨f0,f1,f2,f3,f4,f5⟩:=hf it (by simp)
  have hl:=KV.length kv
  exact wpAny_pyNext_values_end (I.ok.hd hc) st (hd _ ho) (List.getElem?_eq_none_iff.mpr (by omega)) fun h' eb=>⟨rfl,I.turned (t':=s.toks) (fun b o hb e=>eb b o hb e) f0 f1 f3 f4 f5⟩
 self:=fun _ _ _ _ _ st h=>wpAny_pyIter_valiter st h
end
section
variable {X:Cx}{a b e o:Expr}{es:List Expr}{pos apos cpos:Pos}{tg:Expr}
theorem dict_at {pins:List (Addr×Obj)}{σ:St}{H:Hp}{s:Shared}{p:Addr}{kvs:List (Key×V)}(I:Inv X pins σ H s)(rd:Rd H p (.dK kvs)):s.TypeIs (.ref p) "dict"/\∀ a,Value.ref p=.ref a->∃ ob,s.heap.get? a=some ob/\ob.dict=none:=by
 obtain⟨_,_,_,_,ob,_,_,e,ex,_⟩:=dk_rd I.hok rd
 exact⟨⟨ob,e,ex.1⟩,fun a e2=>by cases e2;exact⟨ob,e,ex.2.1⟩⟩
theorem pe_values {t:TE}{pins:List (Addr×Obj)}{σ:St}{H:Hp}{s:Shared}{Q:Value->Shared->Prop}(ho:PE X o t)(I:Inv X pins σ H s)
 (h:t σ H fun x H1=>∃ d kvs,x=.ref d/\Rd H1 d (.dK kvs)/\∀ s1,Inv X pins σ H1 s1->∀ v,v<s1.heap.objs.size->(∀ b,H1 b≠none->b≠v)->H1 v=none->s1.heap.IsValuesView v d->Q (.ref v) s1)
 (hbase:attributeBase o "values" X.env (eval o X.env)=eval o X.env:=by rfl) (hline:(apos.endLine==cpos.line)=true:=by rfl):wpAny (model X.prog X.w) X.A (eval (.Call (.Attribute o "values" apos) [] [] cpos) X.env) Q X.xe s:=by
 refine wpAny_Call_method0_late hbase hline (thn (ho pins s σ H _ I h) fun v s1 hq=>?_)
 obtain⟨x,H1,I1,r1,d,kvs,ex,rd,q⟩:=hq
 subst ex
 cases r1
 obtain⟨z,hd,vs,rel,dd⟩:=dk_rd I1.hok rd
 obtain⟨h1,h2⟩:=dict_at I1 rd
 refine⟨"dict", "dict.values",F.plainAttrs_dict,F.slot_dict_values,F.type_dict_values,h1,h2,Calls.callWith_builtin rfl (PySem.evalArgs_none ?_)⟩
 refine call_meetsIn F.slot_dict_values h1 F.entry_dict_values (F.args_dict_values_1 _) (meets_dict_values (mixKind X.prog X.w) d hd) ⟨⟨vs,dd⟩,?_⟩
 exact q _ (I1.kept (t':=s1.toks) fun b o e=>gxL _ e) s1.heap.objs.size (by show _<(s1.heap.objs.push _).size;rw[Array.size_push];exact Nat.lt_succ_self _) (fun b hb e=>hb (by rw[e];exact I1.hok.fresh (Nat.le_refl _))) (I1.hok.fresh (Nat.le_refl _)) ⟨_,Heap.get?_push_size _ rfl,rfl,rfl⟩
def dItVF (w:De):DI:=fun ρ μ K=>w ρ μ fun d μ1=>match d with
 | .fdc ks ds=>ks.length=ds.length->K ds (fun _=>True) μ1
 | _=>False
theorem i_valuesF {w:De}(h:PD X o w)(hbase:attributeBase o "values" X.env (eval o X.env)=eval o X.env:=by rfl)(hline:(apos.endLine==cpos.line)=true:=by rfl):PDI X tg (.Call (.Attribute o "values" apos) [] [] cpos) (dItVF w):=by
 intro pins s σ H R I hq
 obtain⟨φ,ρ,μ,K,A,M,k,L⟩:=hq
 refine pe_values h I ⟨φ,ρ,μ,_,A,M,k,fun d μ1 φ1 v1 H1 k1 f1 M1 i1=>?_⟩ hbase hline
 cases d with
 | fdc ks ds =>
  obtain⟨p,oo,kvs,vs,rfl,hn,h1,rfl,rfl,h3⟩:=i1
  refine⟨p,kvs,rfl,.inr ⟨oo,h1⟩,fun s1 I1 v hv hne hvn view=>?_⟩
  obtain⟨o',vs',ep,kv,hd,da,hs,I2⟩:=freeze I1 (.inr ⟨oo,h1⟩)
  have ho:s1.heap.get? p=some oo:=(show ObjOk X.prog X.w H1 s1.heap p (.frz oo (.dK kvs))from I1.hok p _ h1).1
  have ho':s1.heap.get? p=some o':=(show ObjOk X.prog X.w _ s1.heap p (.frz o' (.dK kvs))from I2.hok p _ upd_same).1
  rw[ho]at ho'
  cases ho'
  refine wpAny_pyIter_values view da ?_
  have hl:ds.length=kvs.length:=by have:=h3.len;rw[gxC]at this;exact this.symm
  refine⟨s1.heap.objs.size,[s1.heap.objs.size],_,_,H1,rfl,I1.kept (t':=s1.toks) fun b o e=>gxL _ e,turn_valuesF p _ kv hd,⟨_,Heap.get?_push_size _ rfl,rfl,rfl⟩,fun b hb=>?_,?_⟩
  ·have e:b=s1.heap.objs.size:=by simpa using hb
   subst e
   exact I1.fpOk (Nat.le_refl _) (I1.hok.fresh (Nat.le_refl _))
  ·refine L _ _ _ φ1 _ _ (k1 (by rw[gxC,hl])) f1 M1 fun φ' H' μ' f' M' c i=>?_
   have h1':=f'.keep _ _ hn h1
   refine⟨fun d hd=>⟨⟨?_,h1'⟩,fun x H'' hy=>?_⟩,fun hi=>⟨by omega,h1'⟩⟩
   ·have:=(gxB hd).1
    omega
   ·obtain⟨rfl,q,hq,rfl⟩:=hy
    obtain⟨v',e1,e2⟩:=(h3.mono f').get hd
    rw[gxH,hq]at e1
    cases e1
    exact⟨.refl _ _,M',e2⟩
 | _=>exact k1.elim
end
theorem entry_item_iter:entryFor table "dict_itemiterator.__iter__"=some Builtin.«dict_keyiterator.__iter__»:=entryFor_alias (id (Eq.refl (fastTable "dict_itemiterator.__iter__"))) rfl (by decide +kernel) (id (Eq.refl (fastTable "dict_keyiterator.__iter__")))
theorem pyIter_item {prog:Program}{w:World}{A:Around}{E:Value->Shared->Prop}{s:Shared}{it d:Addr}{i n ep:Nat}{ok ov:Value}{Q:Value->Shared->Prop}(st:IsItemIter s.heap it d i n ep ok ov)(h:Q (.ref it) s):wpAny (model prog w) A (pyIter (.ref it)) Q E s:=by
 have hT:s.TypeIs (.ref it) "dict_itemiterator":=⟨_,st,rfl⟩
 refine wpAny_pyIter_slot hT F.slot_dict_itemiterator_iter ?_
 refine wpAny_call_entry F.slot_dict_itemiterator_iter hT entry_item_iter ?_ (F.args_dict_itemiterator_iter_1 _)
 unfold Builtin.«dict_keyiterator.__iter__»
 have hn:typeLookup (.type "dict_itemiterator") "__next__"=pure (some (.builtin "dict_itemiterator.__next__")):=F.slot_dict_itemiterator_next.lookup
 exact wpAny_pure ⟨.ref it,rfl,_,_,hT,hn,h⟩
def Iti (a:Addr)(o:Obj)(kvs:List (Key×V)):It:=⟨fun i H=>i<kvs.length/\H a=some (.frz o (.dK kvs)),fun i H x H'=>∃ T p,x=.ref T/\H T=none/\kvs[i]?=some p/\H'=upd H T (.tup [kV p.1,p.2]),fun i H=>kvs.length<=i/\H a=some (.frz o (.dK kvs))⟩
theorem turn_items {P:Program}{w:World}{K:PySem.W.Frag}{elts:List Expr}{kk:Nat}{tpos:Pos}(a it:Addr){o:Obj}{kvs:List (Key×V)}{vs:List (Key×Value)}{ep:Nat}(kv:KV kvs vs)(hd:∀ h:Heap,h.get? a=some o->h.DictAt (mixKind P w) a vs ep) :
 Turn P w K (.Tuple elts kk tpos) (Iti a o kvs) [it] it (fun i h=>∃ ok ov,IsItemIter h it a i vs.length ep ok ov) where
 mem:=by simp
 obj:=fun i h st b hb=>by
  have e:b=it:=by simpa using hb
  subst e
  obtain⟨ok,ov,e⟩:=st
  exact⟨_,e,fun v z=>by cases z⟩
 keep:=fun i h h' st k=>by
  obtain⟨ok,ov,e⟩:=st
  exact⟨ok,ov,k it (by simp) _ e⟩
 item:=by
  intro X hP hw hK hc i pins s σ H E I hf st hg
  subst hP hw hK
  obtain⟨ok,ov,st⟩:=st
  obtain⟨hi,hq⟩:=hg
  obtain⟨p,hp⟩:∃ p,kvs[i]?=some p:=⟨_,gxA hi⟩
  obtain⟨v,hv,rv⟩:=pair_rel kv hp
  have ho:s.heap.get? a=some o:=(show ObjOk X.prog X.w H s.heap a (.frz o (.dK kvs))from I.hok a _ hq).1
  refine wpAny_pyNext_items_item st (hd _ ho) hv fun key h1 hkey out hT hsz kp1=>?_
  refine⟨_,rfl,wpAny_letOwnedTupleGo_items (s:={ s with heap:=h1}) out fun h2 st2 hs2=>?_⟩
  have lte:it<s.heap.objs.size:=gxN st
  have ne1:s.heap.objs.size≠it:=Nat.ne_of_gt lte
  have hT2:IsPair h2 s.heap.objs.size key v:=(hs2.2 _ ne1).trans hT
  have kp:∀ b o,b∉[it]->s.heap.get? b=some o->h2.get? b=some o:=fun b o hb q=>by
   have b1:b≠it:=fun z=>hb (by simp[z])
   exact(hs2.2 b b1).trans (kp1 b o b1 q)
  have hn:H s.heap.objs.size=none:=I.hok.fresh (Nat.le_refl _)
  have I1:=I.turnT (ch:=[it]) (h'':=h2) (x:=kV p.1) (y:=p.2) hf kp hT2 (kV_of hkey) rv
  refine⟨.ref s.heap.objs.size,_,I1,rfl,⟨_,p,rfl,hn,hp,rfl⟩,⟨_,_,st2⟩,fun b hb=>?_⟩
  rw[upd_ne]
  ·exact(hf b hb).1
  ·have e:b=it:=by simpa using hb
   rw[e];exact Nat.ne_of_lt lte
 done:=by
  intro X hP hw hK hc i pins s σ H E I hf st hg
  subst hP hw hK
  obtain⟨ok,ov,st⟩:=st
  obtain⟨hi,hq⟩:=hg
  have ho:s.heap.get? a=some o:=(show ObjOk X.prog X.w H s.heap a (.frz o (.dK kvs))from I.hok a _ hq).1
  obtain⟨f0,f1,f2,f3,f4,f5⟩:=hf it (by simp)
  have hl:=KV.length kv
  exact wpAny_pyNext_items_end (I.ok.hd hc) st (hd _ ho) (List.getElem?_eq_none_iff.mpr (by omega)) fun h' eb=>⟨rfl,I.turned (t':=s.toks) (fun b o hb e=>eb b o hb e) f0 f1 f3 f4 f5⟩
 self:=fun _ _ _ _ _ st h=>let ⟨_,_,e⟩:=st;pyIter_item e h
section
variable {X:Cx}{a b e o:Expr}{es:List Expr}{pos apos cpos:Pos}{tg:Expr}
theorem pe_items {t:TE}{pins:List (Addr×Obj)}{σ:St}{H:Hp}{s:Shared}{Q:Value->Shared->Prop}(ho:PE X o t)(I:Inv X pins σ H s)
 (h:t σ H fun x H1=>∃ d kvs,x=.ref d/\Rd H1 d (.dK kvs)/\∀ s1,Inv X pins σ H1 s1->∀ v,s1.heap.IsItemsView v d->Q (.ref v) s1)
 (hbase:attributeBase o "items" X.env (eval o X.env)=eval o X.env:=by rfl) (hline:(apos.endLine==cpos.line)=true:=by rfl):wpAny (model X.prog X.w) X.A (eval (.Call (.Attribute o "items" apos) [] [] cpos) X.env) Q X.xe s:=by
 refine wpAny_Call_method0_late hbase hline (thn (ho pins s σ H _ I h) fun v s1 hq=>?_)
 obtain⟨x,H1,I1,r1,d,kvs,ex,rd,q⟩:=hq
 subst ex
 cases r1
 obtain⟨z,hd,vs,rel,dd⟩:=dk_rd I1.hok rd
 obtain⟨h1,h2⟩:=dict_at I1 rd
 refine⟨"dict", "dict.items",F.plainAttrs_dict,F.slot_dict_items,F.type_dict_items,h1,h2,Calls.callWith_builtin rfl (PySem.evalArgs_none ?_)⟩
 refine call_meetsIn F.slot_dict_items h1 F.entry_dict_items (F.args_dict_items_1 _) (meets_dict_items (mixKind X.prog X.w) d hd) ⟨⟨vs,dd⟩,?_⟩
 exact q _ (I1.kept (t':=s1.toks) fun b o e=>gxL _ e) s1.heap.objs.size ⟨_,Heap.get?_push_size _ rfl,rfl,rfl⟩
def dItI (w:De):DI:=fun ρ μ K=>w ρ μ fun d μ1=>match d with
 | .fdc ks ds=>ks.length=ds.length->K (List.zipWith (fun k d=>D.tup [keyV k,d]) ks ds) (fun _=>True) μ1
 | _=>False
theorem i_itemsF {elts:List Expr}{kk:Nat}{tpos:Pos}{w:De}(h:PD X o w)(hbase:attributeBase o "items" X.env (eval o X.env)=eval o X.env:=by rfl)(hline:(apos.endLine==cpos.line)=true:=by rfl):PDI X (.Tuple elts kk tpos) (.Call (.Attribute o "items" apos) [] [] cpos) (dItI w):=by
 intro pins s σ H R I hq
 obtain⟨φ,ρ,μ,K,A,M,k,L⟩:=hq
 refine pe_items h I ⟨φ,ρ,μ,_,A,M,k,fun d μ1 φ1 v1 H1 k1 f1 M1 i1=>?_⟩ hbase hline
 cases d with
 | fdc ks ds =>
  obtain⟨p,oo,kvs,vs,rfl,hn,h1,rfl,rfl,h3⟩:=i1
  refine⟨p,kvs,rfl,.inr ⟨oo,h1⟩,fun s1 I1 v view=>?_⟩
  obtain⟨o',vs',ep,kv,hd,da,hs,I2⟩:=freeze I1 (.inr ⟨oo,h1⟩)
  have ho:s1.heap.get? p=some oo:=(show ObjOk X.prog X.w H1 s1.heap p (.frz oo (.dK kvs))from I1.hok p _ h1).1
  have ho':s1.heap.get? p=some o':=(show ObjOk X.prog X.w _ s1.heap p (.frz o' (.dK kvs))from I2.hok p _ upd_same).1
  rw[ho]at ho'
  cases ho'
  refine wpAny_pyIter_items view da ?_
  have hl:ds.length=kvs.length:=by have:=h3.len;rw[gxC]at this;exact this.symm
  refine⟨s1.heap.objs.size,[s1.heap.objs.size],_,_,H1,rfl,I1.kept (t':=s1.toks) fun b o e=>gxL _ e,turn_items p _ kv hd,⟨_,_,Heap.get?_push_size _ rfl⟩,fun b hb=>?_,?_⟩
  ·have e:b=s1.heap.objs.size:=by simpa using hb
   subst e
   exact I1.fpOk (Nat.le_refl _) (I1.hok.fresh (Nat.le_refl _))
  ·refine L _ _ _ φ1 _ _ (k1 (by rw[gxC,hl])) f1 M1 fun φ' H' μ' f' M' c i=>?_
   have h1':=f'.keep _ _ hn h1
   have lz:(List.zipWith (fun k d=>D.tup [keyV k,d]) (kvs.map (·.1)) ds).length=kvs.length:=by rw[List.length_zipWith,gxC,hl,Nat.min_self]
   refine⟨fun d hd=>⟨⟨?_,h1'⟩,fun x H'' hy=>?_⟩,fun hi=>⟨by omega,h1'⟩⟩
   ·have:=(gxB hd).1
    omega
   ·obtain⟨T,q,rfl,hT,hq,rfl⟩:=hy
    rw[List.getElem?_zipWith,gxH,hq]at hd
    cases e1:ds[i]? with
    | none=>rw[e1]at hd;cases hd
    | some dd =>
     rw[e1]at hd
     cases hd
     obtain⟨v',e2,e3⟩:=(h3.mono f').get e1
     rw[gxH,hq]at e2
     cases e2
     have fn:=Fr.new (φ:=φ') (o:=.tup [kV q.1,q.2]) hT
     exact⟨fn,M'.same (Same.upd hT),T,_,rfl,M'.fresh hT,upd_same,_,_,rfl,keyV_is _,_,_,rfl,e3.mono fn,rfl⟩
 | _=>exact k1.elim
end
section
variable {prog:Program}{w:World}{A:Around}{E:Value->Shared->Prop}{s:Shared}
theorem bounds_runE {a c n:Nat}(hac:a<=c)(hc:c=n):sliceBounds (some (a:Int)) none none n=((a:Int),(c:Int),1):=by
 simp only[sliceBounds,Option.getD_none]
 have h1:¬ ((a:Int)<0):=by omega
 simp only[h1,if_false,show(1:Int)>0 by decide,if_true]
 congr 1
 ·omega
 ·congr 1;omega
set_option maxRecDepth 100000 in
theorem setItem_sliceE {l b sl:Addr}{items new:Array Value}{n n2:Nat}{vl vu:Value}{a c:Nat}{Q:Unit->Shared->Prop}
 (e:s.heap.get? l=some { cls:=.type "list",data:=.seq items n}) (e2:s.heap.get? b=some { cls:=.type "list",data:=.seq new n2}) (hne:l≠b)
 (hs:s.heap.IsSliceOf sl vl vu .none) (pl:IsPart vl (some (a:Int))) (pu:IsPart vu none) (hcc:c=items.size) (hac:a<=c) (hc:c<=items.size)
 (hsz:items.size+new.size<=sizeLine) (h:Q () { s with heap:=s.heap.update l (Obj.mapSeq fun xs=>xs.extract 0 a++new++xs.extract c xs.size)}) :
 wpAny (model prog w) A (setItem (.ref l) (.ref sl) (.ref b)) Q E s:=by
 have hl:s.heap.IsList l items:=PySem.IsL.isList e
 have hb:s.heap.IsList b new:=PySem.IsL.isList e2
 obtain⟨os,hos,hcs,hds⟩:=id hs
 have hTs:s.TypeIs (.ref sl) "slice":=⟨os,hos,hcs⟩
 have hstep:¬ ((rawPart none==rawInt 0)=true):=Bool.false_ne_true
 have hsame:Builtin.List.listSameRef (.ref l) (.ref b)=false:=by
  unfold Builtin.List.listSameRef
  exact beq_eq_false_iff_ne.mpr hne
 have hmax:(max (a:Int) (c:Int)).toNat=c:=by omega
 have hz':((fun xs:Array Value=>xs.extract 0 a++new++xs.extract c xs.size) items).size<=sizeLine+1:=by
  simp only[Array.size_append,Array.size_extract]
  omega
 unfold setItem
 try with_reducible refine wpAny_holding ?_
 first | refine gxM (wpAny_pure ?_) | skip
 refine gxM (wpAny_sequenceKey hl.typeIs (by decide) ?_)
 refine gxM (wpAny_callSpecial?_slot (name:=Str.ofString "__setitem__") hl.typeIs slot_list_setitem
  (wpAny_call_entry slot_list_setitem hl.typeIs entry_list_setitem ?_ (args_list_setitem _ _ _)))
 show wpAny _ _ (Builtin.List.listSubscript? (.ref sl) >>= _) _ _ s
 refine gxM ?_
 unfold Builtin.List.listSubscript?
 refine gxM (wpAny_specialOf hTs slice_no_index ?_)
 simp only[Option.isNone_none,if_true]
 refine wpAny_pure ?_
 show wpAny _ _ (typeOf (.ref sl) >>= _) _ _ s
 refine gxM (wpAny_typeOf hTs ?_)
 first
  | rw[if_neg (by decide)]
  | refine PySem.W.KFB.if_not (by decide) ?_
 rw[listSliceParts_eq]
 refine gxM (gxM (wpAny_field hos hds (x:=.none) rfl (gxM (wpAny_listPart .none ?_))))
 rw[if_neg hstep]
 refine gxM (wpAny_field hos hds (x:=vl) rfl (gxM (wpAny_listPart pl ?_)))
 refine gxM (wpAny_field hos hds (x:=vu) rfl (gxM (wpAny_listPart pu (wpAny_pure ?_))))
 first
  | simp only[hsame,Bool.false_eq_true,if_false]
  | refine PySem.W.KFB.if_not hsame ?_
  | (dsimp only
     rw[if_neg (by rw[hsame];exact Bool.false_ne_true)])
 refine gxM (m:=Builtin.List.listAllItems (.ref b) "must assign iterable to extended slice") ?_
 unfold Builtin.List.listAllItems
 refine gxM (wpAny_typeOf hb.typeIs ?_)
 first
  | refine PySem.W.KFB.if_so (by decide) ?_
  | rw[if_pos (by decide)]
  | simp only[beq_self_eq_true,Bool.true_or,if_true]
 unfold Builtin.List.listItems
 refine gxM (wpAny_seqItems e2 rfl (wpAny_pure ?_))
 refine gxM (gxM (wpAny_seqItems e rfl (wpAny_pure ?_)))
 refine gxM (wpAny_of_eq ((sliceIndices_raw (some (a:Int)) none none items.size (by simp)).trans (congrArg (pure:Int×Int×Int->Sem (Int×Int×Int)) (bounds_runE (c:=c) hac hcc))) ?_)
 show wpAny _ _ (if((1:Int)==1)=true then _ else _) _ _ s
 rw[if_pos (by decide)]
 refine gxM (wpAny_rule ?_)
 first
  | simp only[notLongL hsz,Bool.false_eq_true,if_false]
  | refine PySem.W.KFB.if_not (notLongL hsz) ?_
 first | refine gxM (wpAny_pure ?_) | skip
 show wpAny _ _ (updateSeq l (fun xs=>xs.extract 0 ((a:Int)).toNat++new++xs.extract (max (a:Int) (c:Int)).toNat xs.size) >>= _) _ _ s
 rw[hmax,gxK]
 refine gxM (wpAny_updateSeq (hz:=Nat.le_trans (Nat.le_add_right _ _) hsz) (_hz':=hz') e rfl ?_)
 refine gxM (wpAny_letGo ?_)
 first
  | exact gxM (wpAny_pure (wpAny_pure ⟨.none,rfl,wpAny_pure h⟩))
  | exact wpAny_pure ⟨.none,rfl,wpAny_pure h⟩
end
def dcompX (it:D->MS->(Option (Key×D)->MS->Prop)->Prop)(c:MS->Prop)(μ:MS):List D->List (Key×D)->(List (Key×D)->Prop)->Prop
 | [],kvs,K=>c (μ++[.dic (kvs.map (·.1)) (kvs.map (·.2))])/\K kvs
 | d::ds,kvs,K=>c (μ++[.dic (kvs.map (·.1)) (kvs.map (·.2))])/\it d (μ++[.dic (kvs.map (·.1)) (kvs.map (·.2))]) fun o μ'=>μ'=μ++[.dic (kvs.map (·.1)) (kvs.map (·.2))]/\(match o with
  | some (k,y)=>dcompX it c μ ds (dput kvs k y) K
  | none=>dcompX it c μ ds kvs K)
def dCompM (wi:DI)(js:List (Option Nat))(y:DG)(t:Dt)(wk wv:De):De:=fun ρ μ K=>wi ρ μ fun ds c μ1=>ds.length<=sizeLine/\dcompX (dItemD (startD js ρ) y t wk wv) c μ1 ds [] fun kvs=>K (.mr μ1.length) (μ1++[.dic (kvs.map (·.1)) (kvs.map (·.2))])
theorem tD_compM {wi:DI}{js:List (Option Nat)}{g:TG}{y:DG}{S:List Nat}{t:Dt}{wk wv:De}(so:SoG g y S)(mo:MonoG g)(ho:ownJs S js=true){σ:St}{H:Hp}{Q:VK}(h:tD (dCompM wi js y t wk wv) σ H Q):tCompD (tDI wi) js g (tDT t) (tD wk) (tD wv) σ H Q:=by
 obtain⟨φ,ρ,μ,K,A,M,k,L⟩:=h
 refine⟨φ,ρ,μ,_,A,M,k,fun ds c μ1 φ1 J H1 k1 f1 M1 wk' D hD=>?_⟩
 obtain⟨hz,k1⟩:=k1
 have hDf:D∉φ1:=M1.fresh hD
 have fD:Fr φ1 H1 (φ1++[D]) (upd H1 D (.dK [])):=⟨(Fr.snoc (φ:=φ1) hD).ext,fun c u _ e=>Same.upd hD _ _ e,fun c e=>(Same.upd hD).free e⟩
 obtain⟨MD,_⟩:=M1.snoc (m:=.dic [] []) (o:=.dK []) hD ⟨[],[],upd_same,rfl,rfl,rfl⟩
 have hp:(φ1++[D])[μ1.length]?=some D:=by rw[gxG (by rw[M1.len];exact Nat.le_refl _),M1.len,Nat.sub_self];rfl
 refine⟨fun i n kv H'=>n=ds.length - i/\i<=ds.length/\∃ kvs:List (Key×L2.D),kvs.length<=i/\Fr φ1 H1 (φ1++[D]) H'/\MSis (φ1++[D]) H' (μ1++[.dic (kvs.map (·.1)) (kvs.map (·.2))])/\dcompX (dItemD (startD js ρ) y t wk wv) c μ1 (ds.drop i) kvs fun kvs=>K (.mr μ1.length) (μ1++[MO.dic (kvs.map (·.1)) (kvs.map (·.2))]),
  ⟨ds.length,rfl,Nat.zero_le _,[],Nat.zero_le _,fD,MD,k1⟩,?_⟩
 rintro i n kv H' ⟨rfl,hi,kvs,hkl,f',M',w'⟩
 by_cases hlt:i<ds.length
 ·rw[List.drop_eq_getElem_cons hlt]at w'
  obtain⟨c',w'⟩:=w'
  obtain⟨go,yld⟩:=(wk' _ H' _ f' M' c' i).1 ds[i] (gxA hlt)
  refine .inr ⟨go,fun x H2 hy2=>?_⟩
  obtain⟨f2,M2,i2⟩:=yld x H2 hy2
  have E2:DEnv (φ1++[D]) H2 (startD js ρ) (startC js σ):=((A.mono (f1.trans (f'.trans f2))).startC js)
  refine mo _ _ _ _ _ (fun σ3 H3 hq1=>?_) (so _ H2 _ _ _ _ x _ E2 M2 i2 w')
  obtain⟨e3,l3,n3,ρ3,E3,k3⟩:=hq1
  refine⟨ext_of ho l3 n3,?_⟩
  subst e3
  refine⟨_,ρ3,_,_,E3,M2,k3,fun b μ4 φ4 H4 k4 f4 M4=>?_⟩
  cases b with
  | true =>
   refine⟨φ4,ρ3,μ4,_,E3.mono f4,M4,k4,fun d5 μ5 φ5 v5 H5 k5 f5 M5 i5=>?_⟩
   obtain⟨kk,ekk,k5⟩:=opt_ex k5
   refine⟨φ5,ρ3,μ5,_,E3.mono (f4.trans f5),M5,k5,fun d6 μ6 φ6 v6 H6 k6 f6 M6 i6=>?_⟩
   obtain⟨e6,w6⟩:=k6
   subst e6
   have ff:=f2.trans (f4.trans (f5.trans f6))
   have ef:φ6=φ1++[D]:=ff.noext (by rw[M6.len,M'.len])
   subst ef
   obtain⟨p,e1,kv',vs,e2,e3',e4,e5⟩:=M6.at_ μ1.length _ (by rw[gxG (Nat.le_refl _),Nat.sub_self];rfl)
   rw[hp]at e1
   cases e1
   subst e4
   have hl':kv'.length=kvs.length:=by have:=congrArg List.length e3';rwa [gxC,gxC]at this
   have f7:Fr (φ1++[D]) H6 (φ1++[D]) (upd H6 D (.dK (putK kv' kk v6))):=.put (List.mem_append_right _ (List.mem_singleton.mpr rfl))
   obtain⟨g1,g2⟩:=dput_rel (k:=kk) (i6.mono f7) e3' (e5.mono f7)
   refine⟨kk,kv',keyD_is ekk i5,e2,by omega,ds.length - (i+1),by omega,rfl,hlt,dput kvs kk d6,by have:=dput_len kvs kk d6;omega,(f'.trans ff).trans f7,?_,w6⟩
   have q:=M6.put (k:=μ1.length) (p:=D) (o:=.dK (putK kv' kk v6)) (m:=.dic ((dput kvs kk d6).map (·.1)) ((dput kvs kk d6).map (·.2))) hp ⟨putK kv' kk v6,_,upd_same,g1,rfl,g2⟩
   have e:(μ1++[MO.dic (kvs.map (·.1)) (kvs.map (·.2))]).set μ1.length (.dic ((dput kvs kk d6).map (·.1)) ((dput kvs kk d6).map (·.2)))=μ1++[.dic ((dput kvs kk d6).map (·.1)) ((dput kvs kk d6).map (·.2))]:=set_end
   rw[e]at q
   exact q
  | false =>
   obtain⟨e4,w4⟩:=k4
   subst e4
   have ff:=f2.trans f4
   have ef:φ4=φ1++[D]:=ff.noext (by rw[M4.len,M'.len])
   subst ef
   exact⟨ds.length - (i+1),by omega,rfl,hlt,kvs,by omega,f'.trans ff,M4,w4⟩
 ·have e:i=ds.length:=by omega
  subst e
  rw[List.drop_length]at w'
  exact .inl ⟨(wk' _ H' _ f' M' w'.1 _).2 rfl,L _ _ _ _ H' w'.2 (f1.trans f') M' ⟨D,hp,rfl⟩⟩
section
variable {X:Cx}{N:List Str}{sc:Scope}{js:List (Option Nat)}{tg iter kx vx:Expr}{ifs:List Expr}{g:TG}{y:DG}{S:List Nat}{t:Dt}{wk wv:De}
theorem d_compM {wi:DI}{pos:Pos}(hc:CompOk X N js sc)(calm:X.calm=true)(so:SoG g y S)(mo:MonoG g)(ho:ownJs S js=true)(hi:PDI X tg iter wi)(hg:∀ fp s H,PG (cxE X N sc fp s H) tg g)
 (ht:∀ fp s H,PDTs (cxE X N sc fp s H) ifs t) (hk:∀ fp s H,PD (cxE X N sc fp s H) kx wk) (hv:∀ fp s H,PD (cxE X N sc fp s H) vx wv)
 (hs:∀ x,foldedSetIterable iter X.env x=pure x:=by intro _;rfl):PD X (.DictComp kx vx [⟨tg,iter,ifs,0⟩] sc pos) (dCompM wi js y t wk wv):=(pe_compD hc calm hi hg ht hk hv hs).imp fun σ H Q h=>tD_compM so mo ho h
end
section
variable {X:Cx}{a b e o:Expr}{es:List Expr}{pos:Pos}
def sSlE (to tl tv:TE):TS:=fun D σ H=>tv σ H fun v H1=>to σ H1 fun x H2=>tl σ H2 fun i H3=>∃ l b xs ys k,x=.ref l/\v=.ref b/\i=.int k/\H3 l=some (.lst xs)/\H3 b=some (.lst ys)/\l≠b/\0<=k/\k<=xs.length/\xs.length+ys.length<=sizeLine/\D.nx σ (upd H3 l (.lst (xs.take k.toNat++ys)))
theorem ps_slE {to tl tv:TE}{lo value:Expr}{p pos':Pos}(ho:PE X o to)(hl:PE X lo tl)(hv:PE X value tv)(hs:swapsWith value (some (.Subscript o (.Slice (some lo) none none p) pos')) pos.line X.env=pure false:=by rfl) :
 PS X (.Assign [.Subscript o (.Slice (some lo) none none p) pos'] value pos) (sSlE to tl tv):=by
 intro pins s σ H D I h
 refine wpAny_Assign_Subscript (thn (hv pins s σ H _ I h) fun r s1 hq1=>?_) hs
 obtain⟨v,H1,I1,rv,q1⟩:=hq1
 refine thn (ho pins s1 σ H1 _ I1 q1) fun u s2 hq2=>?_
 obtain⟨x,H2,I2,rx,q2⟩:=hq2
 refine wpAny_Slice (thn (hl pins s2 σ H2 _ I2 q2) fun iv s3 hq3=>?_)
 obtain⟨i,H3,I3,ri,l,b,xs,ys,k,ex,ev,ei,hH,hB,hne,h0,hk,hz,q⟩:=hq3
 subst ex ev ei
 cases rx
 cases rv
 obtain⟨t,rfl⟩:=ri
 refine wpAny_pure (wpAny_pure ?_)
 have I4:Inv X pins σ H3 { s3 with heap:=s3.heap.push { cls:=.type "slice",data:=.fields #[.int k t,.none,.none]}}:=I3.kept (t':=s3.toks) fun b o e=>gxL _ e
 obtain⟨z,its,n,r,hl,e⟩:=I4.lstM hH
 obtain⟨z2,its2,n2,r2,hl2,e2⟩:=I4.lstM hB
 obtain⟨a',rfl⟩:=Int.eq_ofNat_of_zero_le h0
 refine setItem_sliceE (a:=a') (c:=its.length) (sl:=s3.heap.objs.size) (vl:=.int a' t) (vu:=.none) e e2 hne ⟨_,Heap.get?_push_size _ rfl,rfl,rfl⟩ (.int _ _) .none (by rw[List.size_toArray]) (by omega) (by rw[List.size_toArray];exact Nat.le_refl _) (by rw[List.size_toArray,List.size_toArray];omega) ?_
 have I5:=I4.lset (its':=its.take a'++its2) (ys:=xs.take a'++ys) (t':=s3.toks) hH e (f:=fun xs=>xs.extract 0 a'++its2.toArray++xs.extract its.length xs.size) (by
  have:=splice_eq its its2 a' its.length
  rw[List.drop_length,List.append_nil]at this
  exact this) (Vals.append (r.take _) r2) (by rw[gxE,List.length_take];omega)
 exact⟨σ,_,I5,by simpa using q⟩
def dSlE (wo wl wv:De):Ds:=fun N ρ μ=>wv ρ μ fun v μ1=>wo ρ μ1 fun x μ2=>wl ρ μ2 fun i μ3=>match x,v,i with
 | .mr j,.lst ys,.int k=>∃ xs,lvM μ3 j=some xs/\0<=k/\k<=xs.length/\xs.length+ys.length<=sizeLine/\N.nx ρ (μ3.set j (.lst (xs.take k.toNat++ys)))
 | _,_,_=>False
theorem s_slE {wo wl wv:De}{lo value:Expr}{p pos':Pos}(ho:PD X o wo)(hl:PD X lo wl)(hv:PD X value wv)(hs:swapsWith value (some (.Subscript o (.Slice (some lo) none none p) pos')) pos.line X.env=pure false:=by rfl) :
 PDS X (.Assign [.Subscript o (.Slice (some lo) none none p) pos'] value pos) (dSlE wo wl wv):=(ps_slE ho hl hv hs).imp fun E σ H hq=>by
 obtain⟨φ,ρ,μ,N,A,M,w,L⟩:=hq
 refine⟨φ,ρ,μ,_,A,M,w,fun d1 μ1 φ1 v1 H1 k1 f1 M1 i1=>?_⟩
 refine⟨φ1,ρ,μ1,_,A.mono f1,M1,k1,fun d2 μ2 φ2 v2 H2 k2 f2 M2 i2=>?_⟩
 refine⟨φ2,ρ,μ2,_,A.mono (f1.trans f2),M2,k2,fun d3 μ3 φ3 v3 H3 k3 f3 M3 i3=>?_⟩
 split at k3
 ·rename_i j ys k
  obtain⟨xs,ex,h0,hk,hz,k3⟩:=k3
  cases(show v3=_ from i3)
  have i1':=i1.mono (f2.trans f3)
  obtain⟨pb,vb,rfl,nb,hb,ab⟩:=i1'
  obtain⟨p,hp,rfl⟩:=i2.mono f3
  obtain⟨p',e1,vs,hv,ha⟩:=M3.at_ j _ (lvM_eq ex)
  rw[hp]at e1;cases e1
  have ne:p≠pb:=fun z=>nb (by rw[<- z];exact gxD hp)
  have f4:Fr φ3 H3 φ3 (upd H3 p (.lst (vs.take k.toNat++vb))):=.put (gxD hp)
  have M4:=M3.put (k:=j) (p:=p) (o:=.lst (vs.take k.toNat++vb)) (m:=.lst (xs.take k.toNat++ys)) hp ⟨_,upd_same,((ha.take _).app ab).mono f4⟩
  exact⟨p,pb,vs,vb,k,rfl,rfl,rfl,hv,hb,ne,h0,by rw[ha.len];exact hk,by rw[ha.len,ab.len];exact hz,L.nx ρ _ φ3 σ _ k3 ((f1.trans (f2.trans f3)).trans f4) (A.mono ((f1.trans (f2.trans f3)).trans f4)) M4⟩
 ·exact k3.elim
def dAugF (C:Addr)(f:Str)(g:Int->Int->Int)(wo w:De):Ds:=fun N ρ μ=>wo ρ μ fun x μ1=>match x with
 | .mr k=>∃ i,(insM C μ1 k).bind (fun q=>lookN f q.1 q.2)=some (.int i)/\w ρ μ1 fun y μ2=>match y with
  | .int j=>∃ q q':List Str×List D,insM C μ2 k=some q/\putN f (.int (g i j)) q.1 q.2=q'/\q.1.length<1000/\N.nx ρ (μ2.set k (.ins C q'.1 q'.2))
  | _=>False
 | _=>False
theorem tD_augF {C:Addr}{f:Str}{g:Int->Int->Int}{wo w:De}{rd:V->V->Hp->VK->Prop}(c:Cls X.K C)(n:NoAttr X.K C f)(hrd:∀ i j H Q,Q (.int (g i j)) H->rd (.int i) (.int j) H Q){E:Ends}{σ:St}{H:Hp}(hq:tDS (dAugF C f g wo w) E σ H):sFldAug X.K (tD wo) (tD w) rd f E σ H:=by
 obtain⟨φ,ρ,μ,N,A,M,k,L⟩:=hq
 refine⟨φ,ρ,μ,_,A,M,k,fun d1 μ1 φ1 v1 H1 k1 f1 M1 i1=>?_⟩
 cases d1 with
 | mr k =>
  obtain⟨i,e1,k1⟩:=k1
  obtain⟨q,e2,e3⟩:=Option.bind_eq_some_iff.mp e1
  obtain⟨p,hp,rfl⟩:=i1
  obtain⟨p',e4,dx,fs,h1,h2,h3⟩:=M1.at_ k _ (insM_eq e2)
  rw[hp]at e4;cases e4
  rw[<- h2]at e3
  obtain⟨v,l,iv⟩:=lookN_is h3 e3
  cases(show v=_ from iv)
  refine⟨p,C,dx,fs,.int i,rfl,h1,c,n,l,?_⟩
  refine⟨φ1,ρ,μ1,_,A.mono f1,M1,k1,fun d2 μ2 φ2 v2 H2 k2 f2 M2 i2=>?_⟩
  cases d2 with
  | int j =>
   cases(show v2=_ from i2)
   obtain⟨q',_,e5,rfl,hl,k2⟩:=k2
   have hp2:=f2.get hp
   obtain⟨p',e4,dx',fs',g1,g2,g3⟩:=M2.at_ k _ (insM_eq e5)
   rw[hp2]at e4;cases e4
   refine hrd _ _ _ _ ⟨dx',fs',g1,by rw[<- g2,gxC]at hl;exact hl,?_⟩
   have f4:Fr φ2 H2 φ2 (upd H2 p (.ins C dx' (putF f (.int (g i j)) fs'))):=.put (gxD hp2)
   obtain⟨y1,y2⟩:=putN_is (f:=f) (d:=.int (g i j)) (v:=.int (g i j)) (show DIs φ2 (upd H2 p (.ins C dx' (putF f (.int (g i j)) fs'))) (.int (g i j)) (.int (g i j))from rfl) (g3.mono f4)
   rw[g2]at y1 y2
   exact L.nx ρ _ φ2 σ _ k2 ((f1.trans f2).trans f4) (A.mono ((f1.trans f2).trans f4)) (M2.put hp2 ⟨dx',_,upd_same,y1,y2⟩)
  | _=>exact k2.elim
 | _=>exact k1.elim
theorem s_augFA {C:Addr}{f:Str}{wo w:De}{tpos:Pos}(c:Cls X.K C)(n:NoAttr X.K C f)(ho:PD X o wo)(hv:PD X e w):PDS X (.AugAssign (.Attribute o f tpos) .Add e pos) (dAugF C f (·+·) wo w):=(ps_fldaug ho hv in_add).imp fun E σ H hq=>tD_augF c n (fun i j H Q q=>⟨i,j,rfl,rfl,q⟩) hq
theorem s_augFS {C:Addr}{f:Str}{wo w:De}{tpos:Pos}(c:Cls X.K C)(n:NoAttr X.K C f)(ho:PD X o wo)(hv:PD X e w):PDS X (.AugAssign (.Attribute o f tpos) .Sub e pos) (dAugF C f (· - ·) wo w):=(ps_fldaug ho hv in_sub).imp fun E σ H hq=>tD_augF c n (fun i j H Q q=>⟨i,j,rfl,rfl,q⟩) hq
end
structure CalMX (P:Program)(w:World)(K:PySem.W.Frag)(mg:Str->Option Value)(base:Heap)(C:Addr)(m:Str)(k:Nat)(ps:List Str)(sp:Sp):Prop where
 ex:∃ f fd,FnOk P w K mg base (CX1 P w) k f fd ps sp/\Meth K C m f/\Binds K fd ps []
structure CalIX (P:Program)(w:World)(K:PySem.W.Frag)(mg:Str->Option Value)(base:Heap)(x:Str)(C:Addr)(k:Nat)(ps:List Str)(sp:Sp):Prop where
 ex:∃ f fd,FnOk P w K mg base (CX1 P w) k f fd ps sp/\Mk K C f/\mg x=some (.ref C)/\Binds K fd ps []
theorem pass1 {X:Cx}:Passes (CX1 X.prog X.w) X (fun _ _ _=>False):=fun pins σ H s e s' I c=>by
 obtain⟨_,_,_,_,_,_,_,_,_,_,_,z⟩:=c
 exact z.elim
section
variable {X:Cx}{a b e o:Expr}{es:List Expr}{pos:Pos}{C:Addr}{φ0:List Addr}{H0:Hp}{Kx:DX}
theorem tD_methX {m:Str}{f:DSpX}{wo:De}{w:DA}{σ:St}{H:Hp}{Q:VK}{E:XK}{ok:MS->Prop}{Kx:DX}(hE:∀ φ μ H,MSis φ H μ->ok μ->LifX φ H Kx E)(h:tD (fun ρ μ K=>wo ρ μ fun x μ1=>recvD C m μ1 x/\w ρ μ1 fun ds μ2=>ok μ2/\f (x::ds) μ2 K Kx) σ H Q):tMeth C m (spX f) [] E (tD wo) (tDA w) σ H Q:=by
 obtain⟨φ,ρ,μ,K,A,M,k,L⟩:=h
 refine⟨φ,ρ,μ,_,A,M,k,fun d1 μ1 φ1 v1 H1 k1 f1 M1 i1=>?_⟩
 obtain⟨p,dx,fs,rfl,h1,h2⟩:=recvD_is M1 i1 k1.1
 refine⟨p,dx,fs,rfl,h1,h2,φ1,ρ,μ1,_,A.mono f1,M1,k1.2,fun ds μ2 φ2 vs H2 k2 f2 M2 i2=>?_⟩
 show spX f (.ref p::(vs++[])) H2 Q E
 rw[List.append_nil]
 exact⟨φ2,d1::ds,μ2,K,Kx,⟨_,vs,rfl,DIs.mono f2 i1,i2⟩,M2,k2.2,L.mono (f1.trans f2),hE φ2 μ2 H2 M2 k2.1⟩
def dMethX (φ0:List Addr)(H0:Hp)(Kx:DX)(C:Addr)(m:Str)(f:DSpX)(wo:De)(w:DA):De:=fun ρ μ K=>wo ρ μ fun x μ1=>recvD C m μ1 x/\w ρ μ1 fun ds μ2=>μ2[0]?=some (.gx φ0 H0)/\f (x::ds) μ2 K Kx
theorem d_methX {m:Str}{f:DSpX}{wo:De}{w:DA}{apos:Pos}{pl:Sem Bool}{k:Nat}{ps:List Str}(Z:Rz X φ0 H0 Kx)(CM:CalMX X.prog X.w X.K X.mg X.base C m k ps (spX f))(c:Cls X.K C)(hr:Room k X.A)(ho:PD X o wo)(ha:PDA X (e::es) w)
 (hst:starEach (e::es) X.env=(false,eval e X.env)::starEach es X.env:=by rfl) (hpl:(backTo pos (starEach es X.env)).any (·.1)=false:=by rfl)
 (ht:eval (.Call (.Attribute o m apos) (e::es) [] pos) X.env=(do
   let ov <- eval o X.env
   standAt apos.atName
   let (f,first) <- holding [ov] (getMethod ov m pl)
   callWith pos f first (backTo pos (starEach (e::es) X.env)) (backToKw pos (keywordEach [] X.env))):=by rfl) :
 PD X (.Call (.Attribute o m apos) (e::es) [] pos) (dMethX φ0 H0 Kx C m f wo w):=by
 obtain⟨E,LX,hp⟩:=Z.ex
 obtain⟨f',fd,F,hm,hb⟩:=CM.ex
 exact(pe_meth ho c hm F hr hb .nil hp ha hst hpl ht).imp fun σ H Q hq=>tD_methX (ok:=fun μ=>μ[0]?=some (MO.gx φ0 H0)) (fun φ μ H M e=>LX.mono (M.hist e)) hq
def dMethXc (C:Addr)(m:Str)(f:DSpX)(wo:De)(w:DA):De:=fun ρ μ K=>wo ρ μ fun x μ1=>recvD C m μ1 x/\w ρ μ1 fun ds μ2=>True/\f (x::ds) μ2 K fun _ _=>False
theorem d_methXc {m:Str}{f:DSpX}{wo:De}{w:DA}{apos:Pos}{pl:Sem Bool}{k:Nat}{ps:List Str}(CM:CalMX X.prog X.w X.K X.mg X.base C m k ps (spX f))(c:Cls X.K C)(hr:Room k X.A)(ho:PD X o wo)(ha:PDA X (e::es) w)
 (hst:starEach (e::es) X.env=(false,eval e X.env)::starEach es X.env:=by rfl) (hpl:(backTo pos (starEach es X.env)).any (·.1)=false:=by rfl)
 (ht:eval (.Call (.Attribute o m apos) (e::es) [] pos) X.env=(do
   let ov <- eval o X.env
   standAt apos.atName
   let (f,first) <- holding [ov] (getMethod ov m pl)
   callWith pos f first (backTo pos (starEach (e::es) X.env)) (backToKw pos (keywordEach [] X.env))):=by rfl) :
 PD X (.Call (.Attribute o m apos) (e::es) [] pos) (dMethXc C m f wo w):=by
 obtain⟨f',fd,F,hm,hb⟩:=CM.ex
 exact(pe_meth ho c hm F hr hb .nil pass1 ha hst hpl ht).imp fun σ H Q hq=>tD_methX (ok:=fun _=>True) (Kx:=fun _ _=>False) (fun φ μ H M e=>fun _ _ _ _ z _ _=>z.elim) hq
theorem tD_meth0X {m:Str}{f:DSpX}{wo:De}{σ:St}{H:Hp}{Q:VK}{E:XK}{ok:MS->Prop}{Kx:DX}(hE:∀ φ μ H,MSis φ H μ->ok μ->LifX φ H Kx E)(h:tD (fun ρ μ K=>wo ρ μ fun x μ1=>recvD C m μ1 x/\ok μ1/\f [x] μ1 K Kx) σ H Q):tMeth C m (spX f) [] E (tD wo) tNil σ H Q:=by
 obtain⟨φ,ρ,μ,K,A,M,k,L⟩:=h
 refine⟨φ,ρ,μ,_,A,M,k,fun d1 μ1 φ1 v1 H1 k1 f1 M1 i1=>?_⟩
 obtain⟨p,dx,fs,rfl,h1,h2⟩:=recvD_is M1 i1 k1.1
 exact⟨p,dx,fs,rfl,h1,h2,φ1,[d1],μ1,K,Kx,⟨_,[],rfl,i1,rfl⟩,M1,k1.2.2,L.mono f1,hE φ1 μ1 H1 M1 k1.2.1⟩
def dMeth0Xc (C:Addr)(m:Str)(f:DSpX)(wo:De):De:=fun ρ μ K=>wo ρ μ fun x μ1=>recvD C m μ1 x/\True/\f [x] μ1 K fun _ _=>False
theorem d_meth0Xc {m:Str}{f:DSpX}{wo:De}{apos:Pos}{pl:Sem Bool}{k:Nat}{ps:List Str}(CM:CalMX X.prog X.w X.K X.mg X.base C m k ps (spX f))(c:Cls X.K C)(hr:Room k X.A)(ho:PD X o wo)
 (ht:eval (.Call (.Attribute o m apos) [] [] pos) X.env=(do
   let ov <- eval o X.env
   standAt apos.atName
   let (f,first) <- holding [ov] (getMethod ov m pl)
   callWith pos f first (backTo pos (starEach [] X.env)) (backToKw pos (keywordEach [] X.env))):=by rfl) :
 PD X (.Call (.Attribute o m apos) [] [] pos) (dMeth0Xc C m f wo):=by
 obtain⟨f',fd,F,hm,hb⟩:=CM.ex
 exact(pe_meth0 ho c hm F hr hb .nil pass1 ht).imp fun σ H Q hq=>tD_meth0X (ok:=fun _=>True) (Kx:=fun _ _=>False) (fun φ μ H M e=>fun _ _ _ _ z _ _=>z.elim) hq
theorem tD_makeX {f:DSpX}{w:DA}{σ:St}{H:Hp}{Q:VK}{E:XK}{ok:MS->Prop}{Kx:DX}(hE:∀ φ μ H,MSis φ H μ->ok μ->LifX φ H Kx E)(h:tD (fun ρ μ K=>w ρ μ fun ds μ1=>ok μ1/\f (.mr μ1.length::ds) (μ1++[.ins C [] []]) (fun d μ2=>d=.non/\K (.mr μ1.length) μ2) Kx) σ H Q):tMake C (spX f) [] E (tDA w) σ H Q:=by
 obtain⟨φ,ρ,μ,K,A,M,k,L⟩:=h
 refine⟨φ,ρ,μ,_,A,M,k,fun ds μ1 φ1 vs H1 k1 f1 M1 i1 x dx hx hdx ne=>?_⟩
 have S1:Same H1 (upd H1 dx (.own x)):=Same.upd hdx
 have hx':upd H1 dx (.own x) x=none:=by rw[upd_ne (Ne.symm ne)];exact hx
 have fa:Fr φ1 H1 φ1 (upd H1 dx (.own x)):=.same S1
 obtain⟨M2,f2⟩:=(M1.same S1).snoc (m:=.ins C [] []) (o:=.ins C dx []) hx' ⟨dx,[],upd_same,rfl,rfl⟩
 have f3:=fa.trans f2
 have hin:DIs (φ1++[x]) (upd (upd H1 dx (.own x)) x (.ins C dx [])) (.mr μ1.length) (.ref x):=⟨x,by rw[gxG (by rw[M1.len];exact Nat.le_refl _),M1.len,Nat.sub_self];rfl,rfl⟩
 show spX f (.ref x::(vs++[])) _ _ E
 rw[List.append_nil]
 refine⟨φ1++[x],.mr μ1.length::ds,μ1++[.ins C [] []],_,Kx,⟨_,vs,rfl,hin,i1.mono f3⟩,M2,k1.2,fun d μ3 φ3 v H3 k3 f4 M3 i3=>?_,(hE φ1 μ1 H1 M1 k1.1).mono f3⟩
 obtain⟨rfl,k3⟩:=k3
 exact⟨i3,L _ μ3 φ3 _ H3 k3 ((f1.trans f3).trans f4) M3 (hin.mono f4)⟩
def dMakeXc (C:Addr)(f:DSpX)(w:DA):De:=fun ρ μ K=>w ρ μ fun ds μ1=>True/\f (.mr μ1.length::ds) (μ1++[.ins C [] []]) (fun d μ2=>d=.non/\K (.mr μ1.length) μ2) fun _ _=>False
theorem d_makeXc {x:Str}{f:DSpX}{w:DA}{p:Pos}{k:Nat}{ps:List Str}(CI:CalIX X.prog X.w X.K X.mg X.base x C k ps (spX f))(hr:Room (k+1) X.A)(hg:Gl X x)(ha:PDA X (e::es) w)
 (hdb:(x==("__debug__" : Str))=false:=by decide) (he:starEach (e::es) X.env=(false,eval e X.env)::starEach es X.env:=by rfl) (hpl:(backTo pos (starEach es X.env)).any (·.1)=false:=by rfl) :
 PD X (.Call (.Name x p) (e::es) [] pos) (dMakeXc C f w):=by
 obtain⟨f',fd,F,M,hm,hb⟩:=CI.ex
 exact(pe_make M F hr hg hm hb .nil pass1 ha hdb he hpl).imp fun σ H Q hq=>tD_makeX (ok:=fun _=>True) (Kx:=fun _ _=>False) (fun φ μ H M e=>fun _ _ _ _ z _ _=>z.elim) hq
end
theorem calmx_of {P:Program}{w:World}{K:PySem.W.Frag}{mg:Str->Option Value}{base:Heap}{C:Addr}{x q:Str}{st:Stmt}{f:Addr}{fd:FuncData}{k:Nat}{ps:List Str}{sp:Sp}(F:Fun K x q st f fd)(ok:FnOk P w K mg base (CX1 P w) k f fd ps sp)(hb:Binds K fd ps [])
 (a:PySem.W.findIn K (.ref C) x=some (some (.ref f)):=by kernel_rfl) (i:PySem.W.isFn K (.ref f)=true:=by kernel_rfl):CalMX P w K mg base C x k ps sp:=⟨f,fd,ok,⟨a,i,F.kp⟩,hb⟩
theorem calix_of {P:Program}{w:World}{K:PySem.W.Frag}{mg:Str->Option Value}{base h:Heap}{C:Addr}{y q:Str}{st:Stmt}{f:Addr}{fd:FuncData}{k:Nat}{ps:List Str}{sp:Sp}(G:K.In h)(N:h.Ns mainGlobals mg)(F:Fun K "__init__" q st f fd)(ok:FnOk P w K mg base (CX1 P w) k f fd ps sp)(hb:Binds K fd ps [])
 (n:PySem.W.nsIn K mainGlobals y=some (some (.ref C)):=by kernel_rfl) (a:PySem.W.findIn K (.ref C) "__init__"=some (some (.ref f)):=by kernel_rfl) (i:PySem.W.isFn K (.ref f)=true:=by kernel_rfl) (m:PySem.W.makesIn K C=true:=by kernel_rfl) (p:PySem.W.keepIn K (.ref C)=true:=by kernel_rfl):CalIX P w K mg base y C k ps sp:=⟨f,fd,ok,⟨m,a,i,p⟩,PySem.W.mg_of G N n,hb⟩
section
variable {X:Cx}{a b c e o:Expr}{es:List Expr}{pos:Pos}
theorem op_le_str:OpR X (compareOp .LtE) (fun x y H Q=>∃ i j,x=.str i/\y=.str j/\Q (.bl (!decide (j.cps.toList<i.cps.toList))) H):=by
 intro pins s σ H x y v u Q I rx ry h
 obtain⟨i,j,rfl,rfl,q⟩:=h
 obtain⟨t,rfl⟩:=rx
 obtain⟨t',rfl⟩:=ry
 exact compareOp_gives (typeIs_str s i t) (typeIs_str s j t') F.slot_str_le F.entry_str_le (F.args_str_le_2 _ _) (gives_str_le i j t t') (by first | rfl | simp[Made.takes] | decide) (fin_bl I q rfl)
def dLeS:DOp:=fun x y μ K=>match x,y with
 | .str a,.str b=>K (.bl (!decide (b.cps.toList<a.cps.toList))) μ
 | _,_=>False
theorem so_leS:SoOp (fun x y H Q=>∃ i j,x=.str i/\y=.str j/\Q (.bl (!decide (j.cps.toList<i.cps.toList))) H) dLeS:=fun φ H x y dx dy μ K Q M hx hy k L=>by
 unfold dLeS at k
 split at k
 ·cases(show x=_ from hx);cases(show y=_ from hy)
  exact⟨_,_,rfl,rfl,L.val M k rfl⟩
 ·exact k.elim
def dChain (ro ro':DOp)(wa wb wc:De):De:=fun ρ μ K=>wa ρ μ fun x μ1=>wb ρ μ1 fun y μ2=>ro x y μ2 fun z μ3=>match z with
 | .bl k=>if k=true then wc ρ μ3 fun w' μ4=>ro' y w' μ4 K else K (.bl false) μ3
 | _=>False
theorem d_chain {op op':CmpOp}{r r':R2}{ro ro':DOp}{wa wb wc:De}(ho:OpR X (compareOp op) r)(ho':OpR X (compareOp op') r')(so:SoOp r ro)(so':SoOp r' ro')(ha:PD X a wa)(hb:PD X b wb)(hc:PD X c wc)
 (hm:lastMarks [op,op'] [b,c]=false:=by with_unfolding_all rfl):PD X (.Compare a [op,op'] [b,c] pos) (dChain ro ro' wa wb wc):=(pe_chain ho ho' ha hb hc hm).imp fun σ H Q hq=>by
 obtain⟨φ,ρ,μ,K,A,M,k,L⟩:=hq
 refine⟨φ,ρ,μ,_,A,M,k,fun d1 μ1 φ1 v1 H1 k1 f1 M1 i1=>?_⟩
 refine⟨φ1,ρ,μ1,_,A.mono f1,M1,k1,fun d2 μ2 φ2 v2 H2 k2 f2 M2 i2=>?_⟩
 refine so φ2 H2 v1 v2 d1 d2 μ2 _ _ M2 (i1.mono f2) i2 k2 fun d3 μ3 φ3 v3 H3 k3 f3 M3 i3=>?_
 cases d3 with
 | bl k =>
  cases(show v3=_ from i3)
  refine⟨k,rfl,?_⟩
  cases k with
  | false=>exact L _ μ3 φ3 _ H3 k3 (f1.trans (f2.trans f3)) M3 rfl
  | true=>exact⟨φ3,ρ,μ3,_,A.mono (f1.trans (f2.trans f3)),M3,k3,fun d4 μ4 φ4 v4 H4 k4 f4 M4 i4=>so' φ4 H4 v2 v4 d2 d4 μ4 K Q M4 (i2.mono (f3.trans f4)) i4 k4 (L.mono (f1.trans (f2.trans (f3.trans f4))))⟩
 | _=>exact k3.elim
def GInt (mg:Str->Option Value)(x:Str)(i:Int):Prop:=∃ t,mg x=some (.int i t)
theorem d_gint {x:Str}{i:Int}(hg:Gl X x)(hm:GInt X.mg x i)(hd:(x==("__debug__" : Str))=false:=by decide):PD X (.Name x pos) (dC (.int i)):=by
 obtain⟨t,hm⟩:=hm
 exact(pe_glob (v:=.int i) hg hm ⟨t,rfl⟩ hd).imp fun σ H Q hq=>by
  obtain⟨φ,ρ,μ,K,A,M,k,L⟩:=hq
  exact L _ _ φ _ H k (.refl _ _) M rfl
structure Tab (P:Program)(w:World)(K:PySem.W.Frag)(mg:Str->Option Value)(x:Str)(ts:List (Str×Addr)):Prop where
 ex:∃ d,mg x=some (.ref d)/\∀ h:Heap,K.In h->h.DictOf (mixKind P w) d (ts.map fun p=>(Sum.inr p.1,Value.ref p.2))
def dTab (ts:List (Str×Addr))(w:De):De:=fun ρ μ K=>w ρ μ fun d μ1=>match d with
 | .str z=>∃ a,(ts.find? fun p=>decide (p.1=z)).map (·.2)=some a/\K (.fn a) μ1
 | _=>False
theorem valueAt_tab {z:Str}{a:Addr}:∀ {ts:List (Str×Addr)},(ts.find? fun p=>decide (p.1=z)).map (·.2)=some a->valueAt (ts.map fun p=>((Sum.inr p.1:Key),Value.ref p.2)) (Sum.inr z)=some (.ref a)
 | [],h=>by cases h
 | p::ts,h=>by
  unfold valueAt
  rw[List.map_cons,List.find?_cons]
  rw[List.find?_cons]at h
  by_cases q:p.1=z
  ·rw[decide_eq_true q]at h
   cases h
   rw[show decide ((Sum.inr p.1:Key)=Sum.inr z)=true from decide_eq_true (by rw[q])]
   rfl
  ·rw[decide_eq_false q]at h
   rw[show decide ((Sum.inr p.1:Key)=Sum.inr z)=false from decide_eq_false fun y=>q (Sum.inr.inj y)]
   exact valueAt_tab (ts:=ts) h
theorem d_tab {ts:List (Str×Addr)}{x:Str}{w:De}{p:Pos}(T:Tab X.prog X.w X.K X.mg x ts)(hg:Gl X x)(hb:PD X b w)(hs:NoSl b)(hd:(x==("__debug__" : Str))=false:=by decide):PD X (.Subscript (.Name x p) b pos) (dTab ts w):=by
 intro pins s σ H Q I hq
 obtain⟨φ,ρ,μ,K,A,M,k,L⟩:=hq
 obtain⟨d,hm,T⟩:=T.ex
 refine subD_of PySem.F.slot_dict_getitem.lookup hs (ld_glob I hg hm ?_ hd)
 refine thn (hb pins s σ H (fun v H1=>∃ z a,v=.str z/\(ts.find? fun p=>decide (p.1=z)).map (·.2)=some a/\Q (.ref a) H1) I ⟨φ,ρ,μ,_,A,M,k,fun d1 μ1 φ1 v1 H1 k1 f1 M1 i1=>?_⟩) fun u s1 hq1=>?_
 ·cases d1 with
  | str z =>
   cases(show v1=_ from i1)
   obtain⟨a,e,k1⟩:=k1
   exact⟨z,a,rfl,e,L _ μ1 φ1 _ H1 k1 f1 M1 rfl⟩
  | _=>exact k1.elim
 ·obtain⟨x,H1,I1,rx,z,a,rfl,e,q⟩:=hq1
  have dd:=T _ I1.kIn
  obtain⟨ob,_,_,eb,ex,_⟩:=id dd
  exact⟨⟨ob,eb,ex.1⟩,wpAny_getItem_of (kV_is (k:=Sum.inr z) rx) dd.mapOf (valueAt_tab e) ⟨.ref a,H1,I1.tok _,rfl,q⟩⟩
theorem tab_of {P:Program}{w:World}{K:PySem.W.Frag}{mg:Str->Option Value}{x:Str}{d:Addr}{n:Nat}{h:Heap}(es:List (Str×Nat×Addr))(X:K.In h)(G:h.Ns mainGlobals mg)(e:PySem.W.nsIn K mainGlobals x=some (some (.ref d)))
 (l:K.lookup d=some ⟨.type "dict",none,.dict ((es.map fun p=>enP w.params p.1 p.2.1 (.ref p.2.2)).toArray) n,#[]⟩) (nd:(es.map (·.1)).Nodup):Tab P w K mg x (es.map fun p=>(p.1,p.2.2)):=by
 refine⟨d,PySem.W.mg_of X G e,fun h' I=>⟨_,_,_,I _ _ l,⟨rfl,rfl,rfl⟩,rfl,?_,?_,?_⟩⟩
 ·intro y hy
  obtain⟨p,_,rfl⟩:=List.mem_map.mp (List.mem_toArray.mp hy)
  exact⟨Sum.inr p.1,keyIs_str p.1 p.2.1,rfl⟩
 ·clear l nd
  induction es with
  | nil=>exact .nil
  | cons p es ih=>exact .cons (keyIs_str p.1 p.2.1) rfl ih
 ·rw[List.map_map,List.map_map]
  show(List.map ((fun z:Str=>(Sum.inr z:Key)) ∘ fun p:Str×Nat×Addr=>p.1) es).Nodup
  rw[<- List.map_map]
  exact nd.map (f:=fun z:Str=>(Sum.inr z:Key)) fun a b h z=>h (Sum.inr.inj z)
structure CalV (P:Program)(w:World)(K:PySem.W.Frag)(mg:Str->Option Value)(base:Heap)(T:List (Addr×DSpX))(k:Nat)(ps:List Str):Prop where
 ex:∀ p∈T,∃ fd,FnOk P w K mg base (CX1 P w) k p.1 fd ps (spX p.2)/\PySem.W.keepIn K (.ref p.1)=true/\Binds K fd ps []
def dCallV (φ0:List Addr)(H0:Hp)(Kx:DX)(T:List (Addr×DSpX))(i:Nat)(w:DA):De:=fun ρ μ K=>match ρ[i]? with
 | some (some (.fn a))=>∃ f,(a,f)∈T/\w ρ μ fun ds μ1=>μ1[0]?=some (.gx φ0 H0)/\f ds μ1 K Kx
 | _=>False
theorem d_callV {φ0:List Addr}{H0:Hp}{Kx:DX}{T:List (Addr×DSpX)}{i:Nat}{w:DA}{x:Str}{p:Pos}{k:Nat}{ps:List Str}(Z:Rz X φ0 H0 Kx)(CV:CalV X.prog X.w X.K X.mg X.base T k ps)(hr:Room k X.A)(hN:X.N[i]?=some x)(hv:Vis X.env.scope x)(ha:PDA X (e::es) w)
 (hdb:(x==("__debug__" : Str))=false:=by decide) (hcd:(x==("__classdict__" : Str))=false:=by decide) (he:starEach (e::es) X.env=(false,eval e X.env)::starEach es X.env:=by rfl) (hpl:(backTo pos (starEach es X.env)).any (·.1)=false:=by rfl) :
 PD X (.Call (.Name x p) (e::es) [] pos) (dCallV φ0 H0 Kx T i w):=by
 intro pins s σ H Q I hq
 obtain⟨φ,ρ,μ,K,A,M,k,L⟩:=hq
 obtain⟨E,LX,hp⟩:=Z.ex
 unfold dCallV at k
 split at k
 ·rename_i a ea
  obtain⟨f,hf,k⟩:=k
  obtain⟨v,ev,iv⟩:=A.2 i _ ea
  cases(show v=_ from iv)
  obtain⟨fd,F,hk,hb⟩:=CV.ex _ hf
  refine wpAny_Call_Name_kw (thn (pe_var hN hv hdb hcd pins s σ H (fun u H1=>u=.ref a/\H1=H) I ⟨_,ev,rfl,rfl⟩) fun u s1 hq1=>?_)
  obtain⟨x1,H1,I1,r1,rfl,rfl⟩:=hq1
  cases r1
  refine PySem.W.callWith_K (h₀:=X.base) I.ok.mod.kin hk (thn (ha pos pins s1 σ H1 (fun vs H2=>spX f vs H2 Q E) I1 ⟨φ,ρ,μ,_,A,M,k,fun ds μ1 φ1 vs H2 k1 f1 M1 i1=>?_⟩) fun us s2 hq2=>?_) he hpl
  ·exact⟨φ1,ds,μ1,K,Kx,i1,M1,k1.2,L.mono f1,LX.mono (M1.hist k1.1)⟩
  ·obtain⟨vs,H2,I2,r2,q2⟩:=hq2
   exact⟨I2.kIn,run_fn (dvs:=[]) F hr hb .nil hp I2 r2 (by rw[List.append_nil];exact q2)⟩
 ·exact k.elim
end
section
variable {X:Cx}{a b c e o:Expr}{es:List Expr}{pos apos cpos:Pos}
def dSlT (w:De)(l h:DO):De:=fun ρ μ K=>w ρ μ fun x μ1=>l ρ μ1 fun lo μ2=>h ρ μ2 fun hi μ3=>match x with
 | .tup ds=>¬ (HT.sIx ds.length 0 lo=0/\HT.sIx ds.length ds.length hi=ds.length)/\K (.tup (cutD ds lo hi)) μ3
 | _=>False
theorem d_sliceT {lo hi:Option Expr}{w:De}{l h:DO}{p:Pos}(ha:PD X a w)(hl:PO X lo (tDO l))(hh:PO X hi (tDO h)):PD X (.Subscript a (.Slice lo hi none p) pos) (dSlT w l h):=(pe_slice sl_tup ha hl hh).imp fun σ H Q hq=>by
 obtain⟨φ,ρ,μ,K,A,M,k,L⟩:=hq
 refine⟨φ,ρ,μ,_,A,M,k,fun d μ1 φ1 v1 H1 k1 f1 M1 i1=>?_⟩
 refine⟨φ1,ρ,μ1,_,A.mono f1,M1,k1,fun lo μ2 φ2 H2 k2 f2 M2=>?_⟩
 refine⟨φ2,ρ,μ2,_,A.mono (f1.trans f2),M2,k2,fun hi μ3 φ3 H3 k3 f3 M3=>?_⟩
 have i3:=i1.mono (f2.trans f3)
 have L3:=L.mono (f1.trans (f2.trans f3))
 split at k3
 ·obtain⟨p,vs,rfl,_,hp,ha⟩:=i3
  exact⟨p,vs,rfl,SqT.of hp,by rw[ha.len];exact k3.1,fun l hl=>al_tup L3 M3 (ha.cut lo hi) k3.2 hl⟩
 ·exact k3.elim
def dInT (neg:Bool):DOp:=fun x y μ K=>match y with
 | .tup ds=>fltD x=true/\ds.all fltD=true/\K (.bl (neg != ds.any fun d=>deq d x)) μ
 | _=>False
theorem so_inT {neg:Bool}:SoOp (rInC neg) (dInT neg):=fun φ H x y dx dy μ K Q M hx hy k L=>by
 unfold dInT at k
 split at k
 ·obtain⟨f1,f2,k⟩:=k
  obtain⟨p,vs,rfl,_,hp,ha⟩:=hy
  obtain⟨a,b⟩:=flt_all hx f1 ha f2
  have fx:=flt_is hx f1
  have key:∃ xs,(H p=some (.lst xs)\/H p=some (.tup xs))/\flatV x=true/\xs.all flatV=true/\Q (.bl (neg != inV x xs)) H:=⟨vs,.inr hp,fx,a,by rw[b];exact L.val M k rfl⟩
  unfold rInC
  cases x <;> exact key
 ·exact k.elim
def dPopK (wd wk:De):De:=fun ρ μ K=>wd ρ μ fun x μ1=>match x with
 | .mr j=>(∃ ks ds,μ1[j]?=some (.dic ks ds))/\wk ρ μ1 fun y μ2=>∃(kd:List (Key×D)) (k:Key) (d:D),μ2[j]?=some (.dic (kd.map (·.1)) (kd.map (·.2)))/\keyD y=some k/\dval kd k=some d/\K d (μ2.set j (.dic ((kd.filter fun p=>decide (p.1≠k)).map (·.1)) ((kd.filter fun p=>decide (p.1≠k)).map (·.2))))
 | _=>False
theorem drop_rel {φ:List Addr}{H:Hp}{k:Key}:∀ {kd:List (Key×D)} {kv:List (Key×V)},kv.map (·.1)=kd.map (·.1)->DAll φ H (kd.map (·.2)) (kv.map (·.2))->(dropK kv k).map (·.1)=(kd.filter fun p=>decide (p.1≠k)).map (·.1)/\DAll φ H ((kd.filter fun p=>decide (p.1≠k)).map (·.2)) ((dropK kv k).map (·.2))
 | [],kv,e,h=>by
  cases kv with
  | nil=>exact⟨rfl,rfl⟩
  | cons _ _=>cases e
 | p::kd,kv,e,h=>by
  cases kv with
  | nil=>cases e
  | cons q kv =>
   simp only[List.map_cons,List.cons.injEq]at e
   obtain⟨v,r,e2,h1,h2⟩:=h
   simp only[List.map_cons,List.cons.injEq]at e2
   obtain⟨rfl,rfl⟩:=e2
   obtain⟨g1,g2⟩:=drop_rel (k:=k) e.2 h2
   unfold dropK at g1 g2 ⊢
   rw[List.filter_cons,List.filter_cons]
   by_cases z:p.1=k
   ·have z2:q.1=k:=by rw[e.1,z]
    rw[if_neg (by simp[z2]),if_neg (by simp[z])]
    exact⟨g1,g2⟩
   ·have z2:¬ q.1=k:=by rw[e.1];exact z
    rw[if_pos (by simp[z2]),if_pos (by simp[z])]
    exact⟨by rw[List.map_cons,List.map_cons,g1,e.1],_,_,rfl,h1,g2⟩
theorem d_popK {wd wk:De}(ho:PD X o wd)(he:PD X e wk)(m:M1 X o "pop" apos e cpos:=by exact⟨rfl,rfl,rfl,rfl⟩):PD X (.Call (.Attribute o "pop" apos) [e] [] cpos) (dPopK wd wk):=(pe_dpop1 ho he m).imp fun σ H Q hq=>by
 obtain⟨φ,ρ,μ,K,A,M,k,L⟩:=hq
 refine⟨φ,ρ,μ,_,A,M,k,fun d1 μ1 φ1 v1 H1 k1 f1 M1 i1=>?_⟩
 cases d1 with
 | mr j =>
  obtain⟨⟨ks,ds,em⟩,k1⟩:=k1
  obtain⟨p,hp,rfl⟩:=i1
  obtain⟨p',e1,kvs,vs,h1,h2,h3,h4⟩:=M1.at_ j _ em
  rw[hp]at e1;cases e1
  refine⟨p,rfl,.inl ⟨kvs,.inl h1⟩,?_⟩
  refine⟨φ1,ρ,μ1,_,A.mono f1,M1,k1,fun d2 μ2 φ2 v2 H2 k2 f2 M2 i2=>?_⟩
  obtain⟨kd,k,d,em2,ek,ed,k2⟩:=k2
  have hp2:=f2.get hp
  obtain⟨p',e1,kvs2,vs2,g1,g2,g3,g4⟩:=M2.at_ j _ em2
  rw[hp2]at e1;cases e1
  subst g3
  cases keyD_is ek i2
  have ed':dval ((kd.map (·.1)).zip (kd.map (·.2))) k=some d:=by rw[zip_parts];exact ed
  obtain⟨v,ev,iv⟩:=dval_get g2 g4 ed'
  refine⟨kvs2,k,v,g1,rfl,ev,?_⟩
  have f3:Fr φ2 H2 φ2 (upd H2 p (.dK (dropK kvs2 k))):=.put (gxD hp2)
  obtain⟨y1,y2⟩:=drop_rel (k:=k) g2 (g4.mono f3)
  exact L _ _ φ2 _ _ k2 ((f1.trans f2).trans f3) (M2.put hp2 ⟨_,_,upd_same,y1,rfl,y2⟩) (iv.mono f3)
 | _=>exact k1.elim
end
inductive Pt where
 | fst (b:List Nat) (a:Int)
 | jn (l r:Str) (p:Int)
structure RS where
 n:Int
 kept:List (Str×Pt)
 shut:List (Int×Unit)
inductive Dd where
 | put (nm b:Str) (a:Int) | join (nm l r:Str) (p:Int) | found (nm:Str) (bar:Int) (sg:Str) | aged (nm:Str) (a:Int) | drop (nm:Str) | free (p:Int) | shut (p:Int)
section
variable {α β:Type}[DecidableEq α]
def aget (l:List (α×β))(k:α):Option β:=(l.find? fun p=>decide (p.1=k)).map (·.2)
def aput (l:List (α×β))(k:α)(v:β):List (α×β):=if(l.any fun p=>decide (p.1=k))=true then l.map (fun p=>if p.1=k then(p.1,v)else p)else l++[(k,v)]
def adrop (l:List (α×β))(k:α):List (α×β):=l.filter fun p=>decide (p.1≠k)
theorem aget_cons {p:α×β}{l:List (α×β)}{k:α}:aget (p::l) k=if p.1=k then some p.2 else aget l k:=by
 unfold aget
 rw[List.find?_cons]
 by_cases h:p.1=k
 ·rw[decide_eq_true h,if_pos h];rfl
 ·rw[decide_eq_false h,if_neg h]
theorem aget_any {l:List (α×β)}{k:α}:(l.any fun p=>decide (p.1=k))=(aget l k).isSome:=by
 induction l with
 | nil=>rfl
 | cons p l ih =>
  rw[List.any_cons,aget_cons,ih]
  by_cases h:p.1=k
  ·rw[decide_eq_true h,if_pos h];rfl
  ·rw[decide_eq_false h,if_neg h];rfl
theorem aget_mem {l:List (α×β)}{k:α}{v:β}(h:aget l k=some v):(k,v)∈l:=by
 induction l with
 | nil=>cases h
 | cons p l ih =>
  rw[aget_cons]at h
  by_cases q:p.1=k
  ·rw[if_pos q]at h;cases h
   rw[<- q];exact List.mem_cons_self
  ·rw[if_neg q]at h;exact gxI _ (ih h)
theorem aget_some {l:List (α×β)}{k:α}:(aget l k).isSome=true↔k∈l.map (·.1):=by
 rw[<- aget_any,List.any_eq_true,List.mem_map]
 constructor
 ·rintro⟨p,hp,e⟩;exact⟨p,hp,of_decide_eq_true e⟩
 ·rintro⟨p,hp,e⟩;exact⟨p,hp,decide_eq_true e⟩
theorem aget_of_mem {l:List (α×β)}{k:α}{v:β}(nd:(l.map (·.1)).Nodup)(h:(k,v)∈l):aget l k=some v:=by
 induction l with
 | nil=>cases h
 | cons p l ih =>
  rw[List.map_cons,List.nodup_cons]at nd
  rw[aget_cons]
  rcases List.mem_cons.mp h with q | q
  ·subst q;rw[if_pos rfl]
  ·rw[if_neg]
   ·exact ih nd.2 q
   ·intro e
    exact nd.1 (by rw[e];exact List.mem_map.mpr ⟨_,q,rfl⟩)
theorem aget_app {l m:List (α×β)}{k:α}:aget (l++m) k=(aget l k).or (aget m k):=by
 induction l with
 | nil=>rfl
 | cons p l ih =>
  rw[List.cons_append,aget_cons,aget_cons,ih]
  by_cases q:p.1=k
  ·rw[if_pos q,if_pos q];rfl
  ·rw[if_neg q,if_neg q]
theorem aput_keys {l:List (α×β)}{k:α}{v:β}:(aput l k v).map (·.1)=if k∈l.map (·.1)then l.map (·.1)else l.map (·.1)++[k]:=by
 unfold aput
 have e:((l.any fun p=>decide (p.1=k))=true)↔k∈l.map (·.1):=by rw[aget_any];exact aget_some
 by_cases h:k∈l.map (·.1)
 ·rw[if_pos (e.mpr h),if_pos h,List.map_map]
  refine List.map_congr_left fun p _=>?_
  simp only[Function.comp]
  split <;> rfl
 ·rw[if_neg (fun z=>h (e.mp z)),if_neg h,List.map_append];rfl
theorem aget_put {l:List (α×β)}{k j:α}{v:β}:aget (aput l k v) j=if j=k then some v else aget l j:=by
 unfold aput
 split
 ·rename_i h
  induction l with
  | nil=>cases h
  | cons p l ih =>
   rw[List.map_cons,aget_cons,aget_cons]
   by_cases q:p.1=k
   ·rw[if_pos q]
    by_cases z:j=k
    ·rw[if_pos z,if_pos (by show p.1=j;rw[q,z])]
    ·rw[if_neg z,if_neg (show ¬ p.1=j from fun y=>z (by rw[<- y,q])),if_neg (fun y=>z (by rw[<- y,q]))]
     clear ih h
     induction l with
     | nil=>rfl
     | cons r l ih =>
      rw[List.map_cons,aget_cons,aget_cons,ih]
      by_cases y:r.1=k
      ·rw[if_pos y,if_neg (show ¬ r.1=j from fun x=>z (by rw[<- x,y])),if_neg (fun x=>z (by rw[<- x,y]))]
      ·rw[if_neg y]
   ·rw[if_neg q]
    have h':(l.any fun p=>decide (p.1=k))=true:=by
     rw[List.any_cons,decide_eq_false q]at h;exact h
    rw[ih h']
    by_cases z:j=k
    ·rw[if_pos z,if_neg (fun y=>q (by rw[y,z])),if_pos z]
    ·rw[if_neg z,if_neg z]
 ·rename_i h
  rw[aget_app]
  have hn:aget l k=none:=by
   cases e:aget l k with
   | none=>rfl
   | some x=>exact absurd (by rw[aget_any,e];rfl) h
  by_cases z:j=k
  ·subst z;rw[if_pos rfl,hn,aget_cons,if_pos rfl];rfl
  ·rw[if_neg z,aget_cons,if_neg (fun y=>z y.symm)]
   cases aget l j <;> rfl
theorem aget_drop {l:List (α×β)}{k j:α}(h:j≠k):aget (adrop l k) j=aget l j:=by
 unfold adrop
 induction l with
 | nil=>rfl
 | cons p l ih =>
  rw[List.filter_cons,aget_cons]
  by_cases q:p.1=k
  ·rw[if_neg (by simp[q]),ih,if_neg (fun y=>h (by rw[<- y,q]))]
  ·rw[if_pos (by simp[q]),aget_cons,ih]
end
def skey (z:Str):Key:=Sum.inr z
def ikey (i:Int):Key:=Sum.inl i
theorem skey_inj:∀ a b,skey a=skey b->a=b:=fun _ _ h=>Sum.inr.inj h
theorem ikey_inj:∀ a b,ikey a=ikey b->a=b:=fun _ _ h=>Sum.inl.inj h
def dcG {α β:Type}(κ:α->Key)(f:β->D)(l:List (α×β)):D:=.fdc (l.map fun p=>κ p.1) (l.map fun p=>f p.2)
theorem zip_map2 {α β γ:Type}(f:α->β)(g:α->γ):∀ l:List α,(l.map f).zip (l.map g)=l.map fun a=>(f a,g a)
 | []=>rfl
 | a::l=>by rw[List.map_cons,List.map_cons,List.zip_cons_cons,zip_map2 f g l];rfl
section
variable {α β:Type}[DecidableEq α]{κ:α->Key}(hi:∀ a b,κ a=κ b->a=b)(f:β->D)
include hi
theorem dval_k (k:α):∀ l:List (α×β),dval (l.map fun p=>(κ p.1,f p.2)) (κ k)=(aget l k).map f
 | []=>rfl
 | p::l=>by
  have ih:=dval_k k l
  rw[aget_cons]
  unfold dval at ih ⊢
  rw[List.map_cons,List.find?_cons]
  by_cases h:p.1=k
  ·rw[show decide ((κ p.1,f p.2).1=κ k)=true from decide_eq_true (by rw[h]),if_pos h];rfl
  ·rw[show decide ((κ p.1,f p.2).1=κ k)=false from decide_eq_false fun z=>h (hi _ _ z),if_neg h];exact ih
theorem dput_k (k:α)(v:β)(l:List (α×β)):dput (l.map fun p=>(κ p.1,f p.2)) (κ k) (f v)=(aput l k v).map fun p=>(κ p.1,f p.2):=by
 have e:((l.map fun p=>(κ p.1,f p.2)).any fun kv=>decide (kv.1=κ k))=l.any fun p=>decide (p.1=k):=by
  rw[List.any_map]
  congr 1
  funext p
  show decide (κ p.1=κ k)=_
  by_cases h:p.1=k
  ·rw[decide_eq_true h,decide_eq_true (by rw[h])]
  ·rw[decide_eq_false h,decide_eq_false (fun z=>h (hi _ _ z))]
 unfold dput aput
 rw[e]
 split
 ·rw[List.map_map,List.map_map]
  refine List.map_congr_left fun p _=>?_
  show(if κ p.1=κ k then(κ p.1,f v)else(κ p.1,f p.2))=_
  simp only[Function.comp]
  by_cases h:p.1=k
  ·rw[if_pos h,if_pos (by rw[h])]
  ·rw[if_neg h,if_neg (fun z=>h (hi _ _ z))]
 ·rw[List.map_append];rfl
theorem dropF_k (k:α)(l:List (α×β)):((l.map fun p=>(κ p.1,f p.2)).filter fun p=>decide (p.1≠κ k))=(adrop l k).map fun p=>(κ p.1,f p.2):=by
 unfold adrop
 rw[List.filter_map]
 congr 1
 refine List.filter_congr fun p _=>?_
 show decide (κ p.1≠κ k)=_
 by_cases h:p.1=k
 ·rw[decide_eq_false (by simp[h]),decide_eq_false (by simp[h])]
 ·rw[decide_eq_true (show κ p.1≠κ k from fun z=>h (hi _ _ z)),decide_eq_true h]
theorem ixF_k {d:D}(k:α)(l:List (α×β))(hd:keyD d=some (κ k)):ixF (l.map fun p=>κ p.1) (l.map fun p=>f p.2) d=some ((aget l k).map f):=by
 unfold ixF
 rw[hd]
 show some (dval _ (κ k))=_
 rw[zip_map2,dval_k hi]
theorem ixM_k {d:D}(k:α)(l:List (α×β))(hd:keyD d=some (κ k)){μ:MS}{j:Nat}(h:dicM μ j=some (l.map (fun p=>κ p.1),l.map fun p=>f p.2)):ixM μ j d=some ((aget l k).map f):=by
 unfold ixM
 rw[h]
 show(keyD d).map _=_
 rw[hd]
 show some (dval _ (κ k))=_
 rw[zip_map2,dval_k hi]
end
def evF {γ:Type}(gf:Str->List Nat->Int->γ)(gj:γ->γ->Int->γ)(z:γ)(kept:List (Str×Pt)):Nat->Str->γ
 | 0,_=>z
 | f+1,nm=>match aget kept nm with
  | some (.fst b a)=>gf nm b a
  | some (.jn l r p)=>gj (evF gf gj z kept f l) (evF gf gj z kept f r) p
  | none=>z
def idxN (kept:List (Str×Pt))(nm:Str):Nat:=(kept.map (·.1)).idxOf nm
structure Kpt (kept:List (Str×Pt)):Prop where
 nd:(kept.map (·.1)).Nodup
 low:∀ nm l r p,aget kept nm=some (.jn l r p)->idxN kept l<idxN kept nm/\idxN kept r<idxN kept nm
theorem idx_in {kept:List (Str×Pt)}{nm:Str}:idxN kept nm<kept.length↔nm∈kept.map (·.1):=by
 unfold idxN
 rw[show kept.length=(kept.map (·.1)).length from(gxC _).symm]
 exact List.idxOf_lt_length_iff
theorem Kpt.there {kept:List (Str×Pt)}(h:Kpt kept){nm l r:Str}{p:Int}(e:aget kept nm=some (.jn l r p)):(∃ x,aget kept l=some x)/\∃ x,aget kept r=some x:=by
 have hn:idxN kept nm<kept.length:=idx_in.mpr (aget_some.mp (by rw[e];rfl))
 obtain⟨h1,h2⟩:=h.low nm l r p e
 exact⟨Option.isSome_iff_exists.mp (aget_some.mpr (idx_in.mp (by omega))),Option.isSome_iff_exists.mp (aget_some.mpr (idx_in.mp (by omega)))⟩
section
variable {γ:Type}{gf:Str->List Nat->Int->γ}{gj:γ->γ->Int->γ}{z:γ}{kept:List (Str×Pt)}
theorem evF_more (h:Kpt kept):∀(f:Nat) (nm:Str),idxN kept nm<f->f<=kept.length->evF gf gj z kept f nm=evF gf gj z kept kept.length nm:=by
 have key:∀(i f g:Nat) (nm:Str),idxN kept nm=i->i<f->i<g->evF gf gj z kept f nm=evF gf gj z kept g nm:=by
  intro i
  induction i using Nat.strongRecOn with
  | ind i ih =>
   intro f g nm hi hf hg
   obtain⟨f,rfl⟩:∃ f',f=f'+1:=⟨f - 1,by omega⟩
   obtain⟨g,rfl⟩:∃ g',g=g'+1:=⟨g - 1,by omega⟩
   unfold evF
   cases e:aget kept nm with
   | none=>rfl
   | some x =>
    cases x with
    | fst b a=>rfl
    | jn l r p =>
     obtain⟨h1,h2⟩:=h.low nm l r p e
     dsimp only
     rw[ih _ (by omega) f g l rfl (by omega) (by omega),ih _ (by omega) f g r rfl (by omega) (by omega)]
 intro f nm h1 h2
 exact key _ f kept.length nm rfl h1 (by omega)
def ev (gf:Str->List Nat->Int->γ)(gj:γ->γ->Int->γ)(z:γ)(kept:List (Str×Pt))(nm:Str):γ:=evF gf gj z kept kept.length nm
theorem ev_fst {nm:Str}{b:List Nat}{a:Int}(e:aget kept nm=some (.fst b a)):ev gf gj z kept nm=gf nm b a:=by
 have hn:idxN kept nm<kept.length:=idx_in.mpr (aget_some.mp (by rw[e];rfl))
 unfold ev
 obtain⟨m,hm⟩:∃ m,kept.length=m+1:=⟨kept.length - 1,by omega⟩
 rw[hm]
 unfold evF
 rw[e]
theorem ev_jn (h:Kpt kept){nm l r:Str}{p:Int}(e:aget kept nm=some (.jn l r p)):ev gf gj z kept nm=gj (ev gf gj z kept l) (ev gf gj z kept r) p:=by
 have hn:idxN kept nm<kept.length:=idx_in.mpr (aget_some.mp (by rw[e];rfl))
 obtain⟨h1,h2⟩:=h.low nm l r p e
 obtain⟨m,hm⟩:∃ m,kept.length=m+1:=⟨kept.length - 1,by omega⟩
 have e1:=evF_more (gf:=gf) (gj:=gj) (z:=z) h m l (by omega) (by omega)
 have e2:=evF_more (gf:=gf) (gj:=gj) (z:=z) h m r (by omega) (by omega)
 have e3:evF gf gj z kept (m+1) nm=gj (evF gf gj z kept m l) (evF gf gj z kept m r) p:=by
  conv=>lhs;unfold evF
  rw[e]
 unfold ev
 rw[<- e1,<- e2,<- e3,<- hm]
theorem ev_ind (h:Kpt kept)(P:Str->Prop)(hf:∀ nm b a,aget kept nm=some (.fst b a)->P nm)(hj:∀ nm l r p,aget kept nm=some (.jn l r p)->P l->P r->P nm):∀ nm x,aget kept nm=some x->P nm:=by
 have key:∀(i:Nat) (nm:Str) (x:Pt),idxN kept nm=i->aget kept nm=some x->P nm:=by
  intro i
  induction i using Nat.strongRecOn with
  | ind i ih =>
   intro nm x hi e
   cases x with
   | fst b a=>exact hf nm b a e
   | jn l r p =>
    obtain⟨h1,h2⟩:=h.low nm l r p e
    obtain⟨⟨y,ey⟩,⟨w,ew⟩⟩:=h.there e
    exact hj nm l r p e (ih _ (by omega) l y rfl ey) (ih _ (by omega) r w rfl ew)
 exact fun nm x e=>key _ nm x rfl e
end
def tkOf (kept:List (Str×Pt))(nm:Str):List Nat×Int:=ev (fun _ b a=>(b,a)) (fun x y p=>(jnT x.1 y.1 p,max x.2 y.2+1)) ([],0) kept nm
def srcOf (kept:List (Str×Pt))(nm:Str):Int->Str×Nat:=ev (fun nm _ _ _=>(nm,0)) (fun x y p bar=>if bar<p then((x bar).1,(x bar).2+1)else((y bar).1,(y bar).2+1)) (fun _=>("",0)) kept nm
def namedB (z:Str):Bool:=decide (1<=z.length)&&decide (z.length<=8)&&z.cps.toList.all fun c=>decide (97<=c)&&decide (c<=122)
def oxB (z:Str):Bool:=z.cps.toList.all fun c=>decide (c=111)||decide (c=120)
def hasN (S:RS)(nm:Str):Bool:=(aget S.kept nm).isSome
def isNeed (nm:Str):Pt->Bool
 | .fst _ _=>false
 | .jn l r _=>decide (l=nm)||decide (r=nm)
def needN (S:RS)(nm:Str):Bool:=S.kept.any fun p=>isNeed nm p.2
def newW (S:RS)(nm:Str):Option Nat:=if namedB nm=false then some 4 else if hasN S nm=true then some 9 else if 20<=S.kept.length then some 10 else none
def placeW (S:RS)(p:Int):Option Nat:=if 1<=p/\p<S.n then none else some 7
def ageW (a:Int):Option Nat:=if 0<=a/\a<=20 then none else some 5
def refW (S:RS):Dd->Option Nat
 | .put nm b a=>(newW S nm).or (if((b.length:Nat):Int)=S.n/\oxB b=true then ageW a else some 0)
 | .join nm l r p=>(newW S nm).or (if hasN S l=false then some 11 else if hasN S r=false then some 11 else(placeW S p).or (if(aget S.shut p).isSome=true then some 12 else none))
 | .found nm bar sg=>if hasN S nm=false then some 11 else if 0<=bar/\bar<S.n then(if sg = "o"\/sg = "x" then none else some 0)else some 6
 | .aged nm a=>match aget S.kept nm with
  | none=>some 11
  | some (.jn _ _ _)=>some 13
  | some (.fst _ _)=>ageW a
 | .drop nm=>if hasN S nm=false then some 11 else if needN S nm=true then some 14 else none
 | .free p=>placeW S p
 | .shut p=>placeW S p
def hearB (b:List Nat)(bar:Int)(sg:Str):List Nat:=b.take bar.toNat++(sg.cps.toList++b.drop (bar.toNat+1))
def hear (kept:List (Str×Pt))(nm:Str)(bar:Int)(sg:Str):List (Str×Pt):=match aget kept nm with
 | some (.fst b a)=>aput kept nm (.fst (hearB b bar sg) a)
 | _=>kept
def doD (S:RS):Dd->RS
 | .put nm b a=>{ S with kept:=aput S.kept nm (.fst b.cps.toList a)}
 | .join nm l r p=>{ S with kept:=aput S.kept nm (.jn l r p)}
 | .found nm bar sg=>{ S with kept:=hear S.kept (srcOf S.kept nm bar).1 bar sg}
 | .aged nm a=>match aget S.kept nm with
  | some (.fst b _)=>{ S with kept:=aput S.kept nm (.fst b a)}
  | _=>S
 | .drop nm=>{ S with kept:=adrop S.kept nm}
 | .free p=>{ S with shut:=adrop S.shut p}
 | .shut p=>{ S with shut:=aput S.shut p ()}
structure RWf (S:RS)(m:Nat):Prop where
 n1:1<=S.n
 n2:S.n<=40
 kp:Kpt S.kept
 few:S.kept.length<=20
 fs:∀ nm b a,aget S.kept nm=some (.fst b a)->(b.length:Int)=S.n/\OX b/\0<=a/\a<=20
 js:∀ nm l r p,aget S.kept nm=some (.jn l r p)->1<=p/\p<S.n
 nms:∀ p∈S.kept,namedB p.1=true
 shl:S.shut.length<=m
 shn:(S.shut.map (·.1)).Nodup
theorem idx_app {l:List (Str×Pt)}{x:Str×Pt}{nm:Str}(h:nm∈l.map (·.1)):idxN (l++[x]) nm=idxN l nm:=by
 unfold idxN
 rw[List.map_append,List.idxOf_append,if_pos h]
theorem idx_new {l:List (Str×Pt)}{x:Str×Pt}(h:x.1∉l.map (·.1)):idxN (l++[x]) x.1=l.length:=by
 unfold idxN
 rw[List.map_append,List.idxOf_append,if_neg h,List.map_cons,List.idxOf_cons,show(x.1==x.1)=true from beq_self_eq_true _,gxC]
 simp
theorem idx_filter {p:Str->Bool}{a b:Str}:∀ {l:List Str},p a=true->p b=true->l.idxOf a<l.idxOf b->(l.filter p).idxOf a<(l.filter p).idxOf b
 | [],_,_,h=>by simp at h
 | x::t,ha,hb,h=>by
  by_cases e1:x=a
  ·subst e1
   have e2:¬ x=b:=fun e2=>by subst e2;exact absurd h (Nat.lt_irrefl _)
   rw[List.filter_cons,if_pos ha,List.idxOf_cons,List.idxOf_cons,show(x==x)=true from beq_self_eq_true _,show(x==b)=false from beq_false_of_ne e2]
   simp
  ·have e2:¬ x=b:=fun e2=>by
    subst e2
    rw[List.idxOf_cons,List.idxOf_cons,show(x==x)=true from beq_self_eq_true _]at h
    simp at h
   rw[List.idxOf_cons,List.idxOf_cons,show(x==a)=false from beq_false_of_ne e1,show(x==b)=false from beq_false_of_ne e2]at h
   have h':t.idxOf a<t.idxOf b:=by simpa using h
   have ih:=idx_filter ha hb h'
   rw[List.filter_cons]
   split
   ·rw[List.idxOf_cons,List.idxOf_cons,show(x==a)=false from beq_false_of_ne e1,show(x==b)=false from beq_false_of_ne e2]
    simpa using ih
   ·exact ih
theorem Kpt.push {l:List (Str×Pt)}(h:Kpt l){nm:Str}{x:Pt}(hn:nm∉l.map (·.1))(hx:∀ a b p,x=.jn a b p->a∈l.map (·.1)/\b∈l.map (·.1)):Kpt (l++[(nm,x)]):=by
 refine⟨?_,fun z a b p e=>?_⟩
 ·rw[List.map_append,List.nodup_append]
  exact⟨h.nd,by simp,fun a ha b hb e=>by rw[List.map_cons,List.map_nil,List.mem_singleton]at hb;have hb:b=nm:=hb;exact hn (by rw[<- hb,<- e];exact ha)⟩
 ·rw[aget_app]at e
  cases q:aget l z with
  | some y =>
   rw[q]at e
   cases e
   obtain⟨h1,h2⟩:=h.low z a b p q
   have hz:=aget_some.mp (show(aget l z).isSome=true by rw[q];rfl)
   obtain⟨⟨y1,e1⟩,⟨y2,e2⟩⟩:=h.there q
   rw[idx_app hz,idx_app (aget_some.mp (by rw[e1];rfl)),idx_app (aget_some.mp (by rw[e2];rfl))]
   exact⟨h1,h2⟩
  | none =>
   rw[q]at e
   have e':aget [(nm,x)] z=some (.jn a b p):=e
   rw[aget_cons]at e'
   split at e'
   ·rename_i y
    have y:nm=z:=y
    subst y
    have e3:x=.jn a b p:=Option.some.inj e'
    obtain⟨h1,h2⟩:=hx a b p e3
    have en:=idx_new (x:=(nm,x)) hn
    rw[show idxN (l++[(nm,x)]) nm=l.length from en,idx_app h1,idx_app h2]
    exact⟨idx_in.mpr h1,idx_in.mpr h2⟩
   ·cases e'
theorem Kpt.same {l l':List (Str×Pt)}(h:Kpt l)(hk:l'.map (·.1)=l.map (·.1))(hx:∀ z a b p,aget l' z=some (.jn a b p)->aget l z=some (.jn a b p)):Kpt l':=by
 refine⟨by rw[hk];exact h.nd,fun z a b p e=>?_⟩
 unfold idxN
 rw[hk]
 exact h.low z a b p (hx z a b p e)
theorem Kpt.drop {l:List (Str×Pt)}(h:Kpt l){nm:Str}(hx:∀ z a b p,aget l z=some (.jn a b p)->a≠nm/\b≠nm):Kpt (adrop l nm):=by
 have hk:(adrop l nm).map (·.1)=(l.map (·.1)).filter fun z=>decide (z≠nm):=by
  unfold adrop
  rw[List.filter_map]
  rfl
 refine⟨by rw[hk];exact h.nd.sublist (List.filter_sublist),fun z a b p e=>?_⟩
 have hz:z≠nm:=fun y=>by
  subst y
  have:=aget_mem e
  unfold adrop at this
  rw[List.mem_filter]at this
  simpa using this.2
 rw[aget_drop hz]at e
 obtain⟨h1,h2⟩:=h.low z a b p e
 obtain⟨n1,n2⟩:=hx z a b p e
 unfold idxN at h1 h2 ⊢
 rw[hk]
 exact⟨idx_filter (decide_eq_true n1) (decide_eq_true hz) h1,idx_filter (decide_eq_true n2) (decide_eq_true hz) h2⟩
theorem aput_new {α β:Type}[DecidableEq α]{l:List (α×β)}{k:α}{v:β}(h:aget l k=none):aput l k v=l++[(k,v)]:=by
 unfold aput
 rw[if_neg]
 rw[aget_any,h]
 exact Bool.false_ne_true
theorem aput_len {α β:Type}[DecidableEq α]{l:List (α×β)}{k:α}{v:β}:(aput l k v).length<=l.length+1:=by
 unfold aput
 split
 ·rw[gxC];omega
 ·rw[gxE,List.length_singleton];exact Nat.le_refl _
theorem aput_old {α β:Type}[DecidableEq α]{l:List (α×β)}{k:α}{v x:β}(h:aget l k=some x):(aput l k v).map (·.1)=l.map (·.1)/\(aput l k v).length=l.length:=by
 have:k∈l.map (·.1):=aget_some.mp (by rw[h];rfl)
 have e:=aput_keys (l:=l) (k:=k) (v:=v)
 rw[if_pos this]at e
 exact⟨e,by have:=congrArg List.length e;rwa [gxC,gxC]at this⟩
theorem hasN_no {S:RS}{nm:Str}(h:hasN S nm=false):aget S.kept nm=none:=by
 unfold hasN at h
 cases e:aget S.kept nm with
 | none=>rfl
 | some x=>rw[e]at h;cases h
theorem hasN_yes {S:RS}{nm:Str}(h:¬ hasN S nm=false):∃ x,aget S.kept nm=some x:=by
 unfold hasN at h
 cases e:aget S.kept nm with
 | none=>rw[e]at h;exact absurd rfl h
 | some x=>exact⟨x,rfl⟩
theorem newW_none {S:RS}{nm:Str}(h:newW S nm=none):namedB nm=true/\aget S.kept nm=none/\S.kept.length<20:=by
 unfold newW at h
 split at h
 ·cases h
 ·rename_i h1
  split at h
  ·cases h
  ·rename_i h2
   split at h
   ·cases h
   ·rename_i h3
    exact⟨by cases e:namedB nm with | true=>rfl | false=>exact absurd e h1,hasN_no (by cases e:hasN S nm with | false=>rfl | true=>exact absurd e h2),by omega⟩
theorem or_none {α:Type}{a b:Option α}(h:a.or b=none):a=none/\b=none:=by
 cases a with
 | none=>exact⟨rfl,h⟩
 | some x=>cases h
theorem placeW_none {S:RS}{p:Int}(h:placeW S p=none):1<=p/\p<S.n:=by
 unfold placeW at h
 split at h
 ·assumption
 ·cases h
theorem ageW_none {a:Int}(h:ageW a=none):0<=a/\a<=20:=by
 unfold ageW at h
 split at h
 ·assumption
 ·cases h
theorem oxB_ox {z:Str}(h:oxB z=true):OX z.cps.toList:=fun c hc=>by
 have:=List.all_eq_true.mp h c hc
 rcases Bool.or_eq_true_iff.mp this with q | q
 ·exact .inl (of_decide_eq_true q)
 ·exact .inr (of_decide_eq_true q)
theorem src_fst {kept:List (Str×Pt)}(h:Kpt kept)(bar:Int):∀ nm x,aget kept nm=some x->∃ b a,aget kept (srcOf kept nm bar).1=some (.fst b a):=by
 refine ev_ind h (fun nm=>∃ b a,aget kept (srcOf kept nm bar).1=some (.fst b a)) (fun nm b a e=>?_) (fun nm l r p e h1 h2=>?_)
 ·unfold srcOf;rw[ev_fst e];exact⟨b,a,e⟩
 ·unfold srcOf
  rw[ev_jn h e]
  show ∃ b a,aget kept (if bar<p then _ else _:Str×Nat).1=_
  split
  ·exact h1
  ·exact h2
theorem hearB_len {b:List Nat}{bar n:Int}{sg:Str}(hb:(b.length:Int)=n)(h0:0<=bar)(h1:bar<n)(hs:sg.cps.toList.length=1):((hearB b bar sg).length:Int)=n:=by
 unfold hearB
 rw[gxE,gxE,List.length_take,List.length_drop,hs]
 omega
theorem hearB_ox {b:List Nat}{bar:Int}{sg:Str}(hb:OX b)(hs:OX sg.cps.toList):OX (hearB b bar sg):=fun c hc=>by
 unfold hearB at hc
 rcases List.mem_append.mp hc with q | q
 ·exact hb c (List.mem_of_mem_take q)
 ·rcases List.mem_append.mp q with q | q
  ·exact hs c q
  ·exact hb c (List.mem_of_mem_drop q)
theorem sgn_ox {sg:Str}(h:sg = "o"\/sg = "x"):OX sg.cps.toList/\sg.cps.toList.length=1:=by
 rcases h with rfl | rfl
 ·exact⟨OX.of (by decide +kernel),rfl⟩
 ·exact⟨OX.of (by decide +kernel),rfl⟩
theorem RWf.again {S:RS}{m:Nat}(h:RWf S m){nm:Str}{b b':List Nat}{a a':Int}(e:aget S.kept nm=some (.fst b a))(hb:(b'.length:Int)=S.n)(ho:OX b')(h0:0<=a')(h1:a'<=20):RWf { S with kept:=aput S.kept nm (.fst b' a')} (m+1):=by
 obtain⟨k1,k2⟩:=aput_old (v:=Pt.fst b' a') e
 refine⟨h.n1,h.n2,h.kp.same k1 fun z a b p q=>?_,by show(aput _ _ _).length<=20;rw[k2];exact h.few,fun z b a q=>?_,fun z l r p q=>?_,fun p hp=>?_,Nat.le_succ_of_le h.shl,h.shn⟩
 ·rw[aget_put]at q;split at q
  ·cases q
  ·exact q
 ·have q:aget (aput S.kept nm (.fst b' a')) z=some (.fst b a):=q
  rw[aget_put]at q;split at q
  ·cases q;exact⟨hb,ho,h0,h1⟩
  ·exact h.fs z b a q
 ·have q:aget (aput S.kept nm (.fst b' a')) z=some (.jn l r p):=q
  rw[aget_put]at q;split at q
  ·cases q
  ·exact h.js z l r p q
 ·have:p.1∈(aput S.kept nm (.fst b' a')).map (·.1):=List.mem_map.mpr ⟨p,hp,rfl⟩
  rw[k1]at this
  obtain⟨q,hq,e2⟩:=List.mem_map.mp this
  rw[<- e2];exact h.nms q hq
theorem RWf.more {S:RS}{m:Nat}(h:RWf S m){nm:Str}{x:Pt}(hn:newW S nm=none)(hx:∀ a b p,x=.jn a b p->(∃ y,aget S.kept a=some y)/\(∃ y,aget S.kept b=some y)/\1<=p/\p<S.n)(hf:∀ b a,x=.fst b a->(b.length:Int)=S.n/\OX b/\0<=a/\a<=20):RWf { S with kept:=aput S.kept nm x} (m+1):=by
 obtain⟨n1,n2,n3⟩:=newW_none hn
 have e:=aput_new (v:=x) n2
 rw[e]
 have nin:nm∉S.kept.map (·.1):=fun z=>by have:=aget_some.mpr z;rw[n2]at this;cases this
 have get:∀ z y,aget (S.kept++[(nm,x)]) z=some y->aget S.kept z=some y\/(z=nm/\y=x):=fun z y q=>by
  rw[<- e,aget_put]at q
  split at q
  ·rename_i w;exact .inr ⟨w,(Option.some.inj q).symm⟩
  ·exact .inl q
 refine⟨h.n1,h.n2,h.kp.push nin fun a b p q=>?_,by show(S.kept++[(nm,x)]).length<=20;rw[gxE,List.length_singleton];omega,fun z b a q=>?_,fun z l r p q=>?_,fun p hp=>?_,Nat.le_succ_of_le h.shl,h.shn⟩
 ·obtain⟨⟨y,e1⟩,⟨w,e2⟩,_⟩:=hx a b p q
  exact⟨aget_some.mp (by rw[e1];rfl),aget_some.mp (by rw[e2];rfl)⟩
 ·rcases get z _ q with q | ⟨_,q⟩
  ·exact h.fs z b a q
  ·exact hf b a q.symm
 ·rcases get z _ q with q | ⟨_,q⟩
  ·exact h.js z l r p q
  ·exact(hx l r p q.symm).2.2
 ·rcases List.mem_append.mp hp with q | q
  ·exact h.nms p q
  ·rw[List.mem_singleton.mp q];exact n1
theorem RWf.do {S:RS}{m:Nat}{d:Dd}(h:RWf S m)(hr:refW S d=none):RWf (doD S d) (m+1):=by
 cases d with
 | put nm b a =>
  obtain⟨h1,h2⟩:=or_none hr
  split at h2
  ·rename_i q
   obtain⟨a0,a1⟩:=ageW_none h2
   exact h.more h1 (fun _ _ _ e=>by cases e) fun b' a' e=>by cases e;exact⟨q.1,oxB_ox q.2,a0,a1⟩
  ·cases h2
 | join nm l r p =>
  obtain⟨h1,h2⟩:=or_none hr
  split at h2
  ·cases h2
  ·rename_i q1
   split at h2
   ·cases h2
   ·rename_i q2
    obtain⟨h3,_⟩:=or_none h2
    obtain⟨p1,p2⟩:=placeW_none h3
    exact h.more h1 (fun a b p' e=>by cases e;exact⟨hasN_yes q1,hasN_yes q2,p1,p2⟩) fun _ _ e=>by cases e
 | found nm bar sg =>
  have hr:(if hasN S nm=false then some 11 else if 0<=bar/\bar<S.n then(if sg = "o"\/sg = "x" then none else some 0)else some 6)=(none:Option Nat):=hr
  split at hr
  ·cases hr
  ·rename_i q1
   split at hr
   ·rename_i q2
    split at hr
    ·rename_i q3
     obtain⟨x,ex⟩:=hasN_yes q1
     obtain⟨b,a,e⟩:=src_fst h.kp bar nm x ex
     obtain⟨f1,f2,f3,f4⟩:=h.fs _ b a e
     obtain⟨o1,o2⟩:=sgn_ox q3
     have:=h.again e (hearB_len f1 q2.1 q2.2 o2) (hearB_ox (bar:=bar) f2 o1) f3 f4
     unfold doD hear
     dsimp only
     rw[e]
     exact this
    ·cases hr
   ·cases hr
 | aged nm a =>
  have hr:(match aget S.kept nm with | none=>some 11 | some (.jn _ _ _)=>some 13 | some (.fst _ _)=>ageW a)=(none:Option Nat):=hr
  show RWf (match aget S.kept nm with | some (.fst b _)=>{ S with kept:=aput S.kept nm (.fst b a)} | _=>S) _
  cases e:aget S.kept nm with
  | none=>rw[e]at hr;cases hr
  | some x =>
   rw[e]at hr
   cases x with
   | jn l r p=>cases hr
   | fst b a0 =>
    obtain⟨a1,a2⟩:=ageW_none hr
    obtain⟨f1,f2,_⟩:=h.fs nm b a0 e
    exact h.again e f1 f2 a1 a2
 | drop nm =>
  have hr:(if hasN S nm=false then some 11 else if needN S nm=true then some 14 else none)=(none:Option Nat):=hr
  split at hr
  ·cases hr
  ·split at hr
   ·cases hr
   ·rename_i q
    have hx:∀ z a b p,aget S.kept z=some (.jn a b p)->a≠nm/\b≠nm:=fun z a b p e=>by
     have nq:¬ isNeed nm (.jn a b p)=true:=fun y=>q (List.any_eq_true.mpr ⟨_,aget_mem e,y⟩)
     exact⟨fun y=>nq (by show(decide (a=nm)||decide (b=nm))=true;rw[decide_eq_true y];rfl),fun y=>nq (by show(decide (a=nm)||decide (b=nm))=true;rw[decide_eq_true y,Bool.or_true])⟩
    have get:∀ z y,aget (adrop S.kept nm) z=some y->aget S.kept z=some y:=fun z y e=>by
     by_cases hz:z=nm
     ·subst hz
      have:=aget_mem e
      unfold adrop at this
      rw[List.mem_filter]at this
      exact absurd this.2 (by simp)
     ·rw[aget_drop hz]at e;exact e
    refine⟨h.n1,h.n2,h.kp.drop hx,Nat.le_trans (List.length_filter_le _ _) h.few,fun z b a e=>h.fs z b a (get z _ e),fun z l r p e=>h.js z l r p (get z _ e),fun p hp=>h.nms p (List.mem_filter.mp hp).1,Nat.le_succ_of_le h.shl,h.shn⟩
 | free p=>exact⟨h.n1,h.n2,h.kp,h.few,h.fs,h.js,h.nms,Nat.le_succ_of_le (Nat.le_trans (List.length_filter_le _ _) h.shl),h.shn.sublist (List.Sublist.map _ List.filter_sublist)⟩
 | shut p=>exact⟨h.n1,h.n2,h.kp,h.few,h.fs,h.js,h.nms,Nat.le_trans aput_len (Nat.succ_le_succ h.shl),by
  show((aput S.shut p ()).map (·.1)).Nodup
  rw[aput_keys]
  split
  ·exact h.shn
  ·rename_i q
   rw[List.nodup_append]
   exact⟨h.shn,by simp,fun a ha b hb e=>q (by rw[<- List.mem_singleton.mp hb,<- e];exact ha)⟩⟩
def ptD:Pt->D
 | .fst _ _=>.non
 | .jn l r p=>.tup [.str l,.str r,.int p]
def fstOf:Str×Pt->Option (Str×Tk)
 | (nm,.fst b a)=>some (nm,(b,a))
 | (_,.jn _ _ _)=>none
def firsts (kept:List (Str×Pt)):List (Str×Tk):=kept.filterMap fstOf
def shD (sh:List (Int×Unit)):D:=dcG ikey (fun _=>.bl true) sh
def sdN:List Str:=["length", "made_of", "firsts", "closed"]
def sdD (cS:Addr)(S:RS):D:=.obj cS sdN [.int S.n,dcG skey ptD S.kept,dcG skey tkD (firsts S.kept),shD S.shut]
def ddD:Dd->D
 | .put nm b a=>.tup [.str "put",.str nm,.str b,.int a]
 | .join nm l r p=>.tup [.str "join",.str nm,.str l,.str r,.int p]
 | .found nm bar sg=>.tup [.str "found",.str nm,.int bar,.str sg]
 | .aged nm a=>.tup [.str "aged",.str nm,.int a]
 | .drop nm=>.tup [.str "drop",.str nm]
 | .free p=>.tup [.str "free",.int p]
 | .shut p=>.tup [.str "shut",.int p]
def ddW:Dd->Nat
 | .put _ _ _=>0 | .join _ _ _ _=>1 | .found _ _ _=>2 | .aged _ _=>3 | .drop _=>4 | .free _=>5 | .shut _=>6
def ddOk:Dd->Prop
 | .put nm b _=>nm.length<=1000/\b.length<=1000
 | .join nm _ _ _=>nm.length<=1000
 | _=>True
def orX (cs:List Addr)(K:DK)(Kx:DX)(o:Option Nat)(d:D)(μ:MS):Prop:=match o with
 | some i=>Kx (.ref (cs.getD i 0)) μ
 | none=>K d μ
def fWith:DSp:=fun ds μ K=>match ds with
 | [.fdc ks es,y,v]=>∃(kd:List (Key×D)) (k:Key),ks=kd.map (·.1)/\es=kd.map (·.2)/\kd.length<=100000/\keyD y=some k/\K (.fdc ((dput kd k v).map (·.1)) ((dput kd k v).map (·.2))) μ
 | _=>False
def fWithout:DSp:=fun ds μ K=>match ds with
 | [.fdc ks es,y]=>∃(kd:List (Key×D)) (k:Key),ks=kd.map (·.1)/\es=kd.map (·.2)/\kd.length<=100000/\(kd.map (·.1)).Nodup/\keyD y=some k/\(∀ p∈kd,(∃ i j,p.1=ikey i/\k=ikey j)\/∃ i j,p.1=skey i/\k=skey j)/\K (.fdc ((kd.filter fun p=>decide (p.1≠k)).map (·.1)) ((kd.filter fun p=>decide (p.1≠k)).map (·.2))) μ
 | _=>False
def fIsBars:DSp:=fun ds μ K=>match ds with
 | [.int n,.str z]=>z.length<=1000/\K (.bl (decide (((z.length:Nat):Int)=n/\oxB z=true))) μ
 | _=>False
def fThere (cS:Addr)(cs:List Addr):DSpX:=fun ds μ K Kx=>match ds with
 | [x,.str nm]=>(∃ m,μ[0]?=some m)/\∃ S,x=sdD cS S/\(match aget S.kept nm with | some _=>K .non μ | none=>Kx (.ref (cs.getD 11 0)) μ)
 | _=>False
theorem fThere_len {cS:Addr}{cs:List Addr}{ds:List D}{μ:MS}{K:DK}{Kx:DX}(h:fThere cS cs ds μ K Kx):ds.length=2/\∃ m,μ[0]?=some m:=by
 unfold fThere at h
 split at h
 ·exact⟨rfl,h.1⟩
 ·exact h.elim
def fPartsS (cS:Addr)(cs:List Addr):DSpX:=fun ds μ K Kx=>match ds with
 | [x,.str nm]=>(∃ m,μ[0]?=some m)/\∃ S,x=sdD cS S/\(match aget S.kept nm with | some y=>K (ptD y) μ | none=>Kx (.ref (cs.getD 11 0)) μ)
 | _=>False
theorem fPartsS_len {cS:Addr}{cs:List Addr}{ds:List D}{μ:MS}{K:DK}{Kx:DX}(h:fPartsS cS cs ds μ K Kx):ds.length=2/\∃ m,μ[0]?=some m:=by
 unfold fPartsS at h
 split at h
 ·exact⟨rfl,h.1⟩
 ·exact h.elim
def srcD (p:Str×Nat):D:=.tup [.str p.1,.int p.2]
def fSourceS (cS:Addr)(cs:List Addr):DSpX:=fun ds μ K Kx=>match ds with
 | [x,.str nm,.int bar]=>(∃ m,μ[0]?=some m)/\∃ S,x=sdD cS S/\Kpt S.kept/\(match aget S.kept nm with | some _=>(if 0<=bar/\bar<S.n then K (srcD (srcOf S.kept nm bar)) μ else Kx (.ref (cs.getD 6 0)) μ) | none=>Kx (.ref (cs.getD 11 0)) μ)
 | _=>False
theorem fSourceS_len {cS:Addr}{cs:List Addr}{ds:List D}{μ:MS}{K:DK}{Kx:DX}(h:fSourceS cS cs ds μ K Kx):ds.length=3/\∃ m,μ[0]?=some m:=by
 unfold fSourceS at h
 split at h
 ·exact⟨rfl,h.1⟩
 ·exact h.elim
def openP (S:RS):List Int:=((List.range (S.n - 1).toNat).map fun i=>1+((i:Nat):Int)).filter fun p=>!(aget S.shut p).isSome
def fStInit (cS:Addr):DSp:=fun ds μ K=>match ds with
 | [.mr k,.int n,a,b,c]=>μ[k]?=some (.ins cS [] [])/\K .non (μ.set k (.ins cS sdN [.int n,a,b,c]))
 | _=>False
def fDeed1 (cS:Addr)(cs:List Addr)(w:Nat):DSpX:=fun ds μ K Kx=>match ds with
 | [x,y]=>(∃ m,μ[0]?=some m)/\∃ S d m,x=sdD cS S/\y=ddD d/\ddW d=w/\RWf S m/\m<=1000/\ddOk d/\orX cs K Kx (refW S d) (sdD cS (doD S d)) μ
 | _=>False
theorem fDeed1_len {cS:Addr}{cs:List Addr}{w:Nat}{ds:List D}{μ:MS}{K:DK}{Kx:DX}(h:fDeed1 cS cs w ds μ K Kx):ds.length=2/\∃ m,μ[0]?=some m:=by
 unfold fDeed1 at h
 split at h
 ·exact⟨rfl,h.1⟩
 ·exact h.elim
def fBehindS (cS:Addr)(cs:List Addr):DSpX:=fun ds μ K Kx=>match ds with
 | [x,y]=>(∃ m,μ[0]?=some m)/\∃ S d m,x=sdD cS S/\y=ddD d/\RWf S m/\m<=1000/\ddOk d/\orX cs K Kx (refW S d) (sdD cS (doD S d)) μ
 | _=>False
theorem fBehindS_len {cS:Addr}{cs:List Addr}{ds:List D}{μ:MS}{K:DK}{Kx:DX}(h:fBehindS cS cs ds μ K Kx):ds.length=2/\∃ m,μ[0]?=some m:=by
 unfold fBehindS at h
 split at h
 ·exact⟨rfl,h.1⟩
 ·exact h.elim
def fNew (cS:Addr)(cs:List Addr):DSpX:=fun ds μ K Kx=>match ds with
 | [x,.str nm]=>(∃ m,μ[0]?=some m)/\nm.length<=1000/\∃ S,x=sdD cS S/\orX cs K Kx (newW S nm) .non μ
 | _=>False
theorem fNew_len {cS:Addr}{cs:List Addr}{ds:List D}{μ:MS}{K:DK}{Kx:DX}(h:fNew cS cs ds μ K Kx):ds.length=2/\∃ m,μ[0]?=some m:=by
 unfold fNew at h
 split at h
 ·exact⟨rfl,h.1⟩
 ·exact h.elim
def fAgeC (cs:List Addr):DSpX:=fun ds μ K Kx=>match ds with
 | [.int a]=>(∃ m,μ[0]?=some m)/\orX cs K Kx (ageW a) .non μ
 | _=>False
theorem fAgeC_len {cs:List Addr}{ds:List D}{μ:MS}{K:DK}{Kx:DX}(h:fAgeC cs ds μ K Kx):ds.length=1/\∃ m,μ[0]?=some m:=by
 unfold fAgeC at h
 split at h
 ·exact⟨rfl,h.1⟩
 ·exact h.elim
def fPlaceC (cS:Addr)(cs:List Addr):DSpX:=fun ds μ K Kx=>match ds with
 | [x,.int p]=>(∃ m,μ[0]?=some m)/\∃ S,x=sdD cS S/\orX cs K Kx (placeW S p) .non μ
 | _=>False
theorem fPlaceC_len {cS:Addr}{cs:List Addr}{ds:List D}{μ:MS}{K:DK}{Kx:DX}(h:fPlaceC cS cs ds μ K Kx):ds.length=2/\∃ m,μ[0]?=some m:=by
 unfold fPlaceC at h
 split at h
 ·exact⟨rfl,h.1⟩
 ·exact h.elim
theorem calv_nil {P:Program}{w:World}{K:PySem.W.Frag}{mg:Str->Option Value}{base:Heap}{k:Nat}{ps:List Str}:CalV P w K mg base [] k ps:=⟨fun _ h=>nomatch h⟩
theorem calv_cons {P:Program}{w:World}{K:PySem.W.Frag}{mg:Str->Option Value}{base:Heap}{x:Str}{k:Nat}{ps:List Str}{f:DSpX}{a:Addr}{T:List (Addr×DSpX)}(C:CalX P w K mg base x k ps (spX f))(hm:mg x=some (.ref a))(R:CalV P w K mg base T k ps):CalV P w K mg base ((a,f)::T) k ps:=⟨fun p hp=>by
 rcases List.mem_cons.mp hp with rfl | q
 ·obtain⟨f',fd,F,hm',hk,hb⟩:=C.ex
  rw[hm]at hm'
  cases hm'
  exact⟨fd,F,hk,hb⟩
 ·exact R.ex p q⟩
theorem end_at {μ:MS}{x:MO}:(μ++[x])[μ.length]?=some x:=by rw[gxG (Nat.le_refl _),Nat.sub_self];rfl
theorem mrL_mem {n:Nat}:∀ {ds:List D} {d:D},mrL n ds->d∈ds->mrB n d
 | _::_,d,h,hd=>by
  rcases List.mem_cons.mp hd with rfl | q
  ·exact h.1
  ·exact mrL_mem h.2 q
theorem dput_mem {kd:List (Key×D)}{k:Key}{v d:D}(h:d∈(dput kd k v).map (·.2)):d∈kd.map (·.2)\/d=v:=by
 unfold dput at h
 split at h
 ·rw[List.map_map]at h
  obtain⟨p,hp,rfl⟩:=List.mem_map.mp h
  simp only[Function.comp]
  split
  ·exact .inr rfl
  ·exact .inl (List.mem_map.mpr ⟨p,hp,rfl⟩)
 ·rw[List.map_append]at h
  rcases List.mem_append.mp h with q | q
  ·exact .inl q
  ·exact .inr (List.mem_singleton.mp q)
theorem mr_dput {n:Nat}{kd:List (Key×D)}{k:Key}{v:D}(h:mrL n (kd.map (·.2)))(hv:mrB n v):mrL n ((dput kd k v).map (·.2)):=mr_all fun d hd=>by
 rcases dput_mem hd with q | q
 ·exact mrL_mem h q
 ·rw[q];exact hv
theorem dput_new {kd:List (Key×D)}{k:Key}{v:D}(h:k∉kd.map (·.1)):dput kd k v=kd++[(k,v)]:=by
 unfold dput
 rw[if_neg]
 intro z
 obtain⟨p,hp,e⟩:=List.any_eq_true.mp z
 exact h (List.mem_map.mpr ⟨p,hp,of_decide_eq_true e⟩)
theorem items_map {kd:List (Key×D)}:List.zipWith (fun k d=>D.tup [keyV k,d]) (kd.map (·.1)) (kd.map (·.2))=kd.map fun p=>D.tup [keyV p.1,p.2]:=by
 induction kd with
 | nil=>rfl
 | cons p kd ih=>rw[List.map_cons,List.map_cons,List.zipWith_cons_cons,ih];rfl
theorem dcompX_filter {it:D->MS->(Option (Key×D)->MS->Prop)->Prop}{μ:MS}(t:Key×D->Bool):∀(kd acc:List (Key×D)) (K:List (Key×D)->Prop),((acc++kd).map (·.1)).Nodup ->
 (∀ p∈kd,∀(μ':MS) (K':Option (Key×D)->MS->Prop),K' (if t p=true then some p else none) μ'->it (.tup [keyV p.1,p.2]) μ' K')->K (acc++kd.filter t)->dcompX it (fun _=>True) μ (kd.map fun p=>D.tup [keyV p.1,p.2]) acc K
 | [],acc,K,_,_,k=>by rw[List.filter_nil,List.append_nil]at k;exact⟨trivial,k⟩
 | p::kd,acc,K,nd,h,k=>by
  refine⟨trivial,h p List.mem_cons_self _ _ ⟨rfl,?_⟩⟩
  rw[List.filter_cons]at k
  have nd2:((acc++kd).map (·.1)).Nodup:=nd.sublist (List.Sublist.map _ (List.Sublist.append_left (List.sublist_cons_self _ _) _))
  by_cases q:t p=true
  ·rw[if_pos q]at k ⊢
   have hn:p.1∉acc.map (·.1):=fun z=>by
    rw[List.map_append,List.nodup_append]at nd
    exact nd.2.2 p.1 z p.1 (List.mem_map.mpr ⟨p,List.mem_cons_self,rfl⟩) rfl
   show dcompX it _ μ _ (dput acc p.1 p.2) K
   rw[dput_new hn]
   exact dcompX_filter t kd (acc++[p]) K (by rw[List.append_assoc];exact nd) (fun p' hp'=>h p' (gxI _ hp')) (by rw[List.append_assoc];exact k)
  ·rw[if_neg q]at k ⊢
   exact dcompX_filter t kd acc K nd2 (fun p' hp'=>h p' (gxI _ hp')) k
theorem cnt_ox:∀ l:List Nat,l.count 111+l.count 120=l.length↔(l.all fun c=>decide (c=111)||decide (c=120))=true
 | []=>by simp
 | c::l=>by
  have ih:=cnt_ox l
  have le:l.count 111+l.count 120<=l.length:=by
   clear ih
   induction l with
   | nil=>simp
   | cons d l ih2 =>
    rw[List.count_cons,List.count_cons,List.length_cons]
    by_cases e1:d=111
    ·subst e1;simp;omega
    ·by_cases e2:d=120
     ·subst e2;simp;omega
     ·rw[if_neg (by simpa using e1),if_neg (by simpa using e2)];omega
  rw[List.count_cons,List.count_cons,List.length_cons,List.all_cons]
  by_cases e1:c=111
  ·subst e1
   rw[Bool.and_eq_true_iff,<- ih]
   simp
   omega
  ·by_cases e2:c=120
   ·subst e2
    rw[Bool.and_eq_true_iff,<- ih]
    simp
    omega
   ·rw[if_neg (by simpa using e1),if_neg (by simpa using e2),decide_eq_false e1,decide_eq_false e2]
    simp
    omega
theorem firsts_cons (p:Str×Pt)(l:List (Str×Pt)):firsts (p::l)=match fstOf p with | some q=>q::firsts l | none=>firsts l:=by
 unfold firsts
 rw[List.filterMap_cons]
 cases fstOf p <;> rfl
theorem firsts_get {l:List (Str×Pt)}{nm:Str}(nd:(l.map (·.1)).Nodup):aget (firsts l) nm=match aget l nm with | some (.fst b a)=>some (b,a) | _=>none:=by
 induction l with
 | nil=>rfl
 | cons p l ih =>
  obtain⟨z,x⟩:=p
  rw[List.map_cons,List.nodup_cons]at nd
  have ih:=ih nd.2
  rw[firsts_cons,aget_cons]
  by_cases e:z=nm
  ·rw[if_pos e]
   have hn:aget l nm=none:=by
    cases q:aget l nm with
    | none=>rfl
    | some y=>exact absurd (aget_some.mp (show(aget l nm).isSome=true by rw[q];rfl)) (by rw[<- e];exact nd.1)
   cases x with
   | fst b a=>show aget ((z,(b,a))::firsts l) nm=_;rw[aget_cons,if_pos e]
   | jn a b p=>show aget (firsts l) nm=_;rw[ih,hn]
  ·rw[if_neg e]
   cases x with
   | fst b a=>show aget ((z,(b,a))::firsts l) nm=_;rw[aget_cons,if_neg e,ih]
   | jn a b p=>show aget (firsts l) nm=_;rw[ih]
theorem firsts_sub {l:List (Str×Pt)}:((firsts l).map (·.1)).Sublist (l.map (·.1)):=by
 induction l with
 | nil=>exact .slnil
 | cons p l ih =>
  obtain⟨z,x⟩:=p
  rw[firsts_cons]
  cases x with
  | fst b a=>exact ih.cons₂ _
  | jn a b q=>exact ih.cons _
theorem firsts_drop {l:List (Str×Pt)}{nm:Str}:firsts (adrop l nm)=adrop (firsts l) nm:=by
 unfold adrop
 induction l with
 | nil=>rfl
 | cons p l ih =>
  obtain⟨z,x⟩:=p
  rw[List.filter_cons,firsts_cons]
  by_cases e:z=nm
  ·rw[if_neg (by simp[e]),ih]
   cases x with
   | fst b a=>show _=List.filter _ ((z,(b,a))::firsts l);rw[List.filter_cons,if_neg (by simp[e])]
   | jn a b q=>rfl
  ·rw[if_pos (by simp[e]),firsts_cons,ih]
   cases x with
   | fst b a=>show _=List.filter _ ((z,(b,a))::firsts l);rw[List.filter_cons,if_pos (by simp[e])];rfl
   | jn a b q=>rfl
theorem firsts_app {l m:List (Str×Pt)}:firsts (l++m)=firsts l++firsts m:=List.filterMap_append
theorem firsts_jn {l:List (Str×Pt)}{nm a b:Str}{p:Int}(h:aget l nm=none):firsts (aput l nm (.jn a b p))=firsts l:=by
 rw[aput_new h,firsts_app]
 exact List.append_nil _
theorem firsts_new {l:List (Str×Pt)}{nm:Str}{b:List Nat}{a:Int}(nd:(l.map (·.1)).Nodup)(h:aget l nm=none):firsts (aput l nm (.fst b a))=aput (firsts l) nm (b,a):=by
 rw[aput_new h,aput_new (by rw[firsts_get nd,h]),firsts_app]
 rfl
theorem aput_nil {α β:Type}[DecidableEq α]{l:List (α×β)}{k:α}{v:β}(h:k∉l.map (·.1)):(l.map fun p=>if p.1=k then(p.1,v)else p)=l:=by
 conv=>rhs;rw[<- List.map_id l]
 refine List.map_congr_left fun p hp=>?_
 rw[if_neg]
 ·rfl
 ·exact fun e=>h (List.mem_map.mpr ⟨p,hp,e⟩)
theorem firsts_old {l:List (Str×Pt)}{nm:Str}{b b0:List Nat}{a a0:Int}(nd:(l.map (·.1)).Nodup)(h:aget l nm=some (.fst b0 a0)):firsts (aput l nm (.fst b a))=aput (firsts l) nm (b,a):=by
 have h2:aget (firsts l) nm=some (b0,a0):=by rw[firsts_get nd,h]
 unfold aput
 rw[if_pos (by rw[aget_any,h];rfl),if_pos (by rw[aget_any,h2];rfl)]
 clear h2
 induction l with
 | nil=>cases h
 | cons p l ih =>
  obtain⟨z,x⟩:=p
  rw[List.map_cons,List.nodup_cons]at nd
  rw[aget_cons]at h
  rw[List.map_cons]
  by_cases e:z=nm
  ·subst e
   rw[if_pos rfl]at h
   cases(show x=.fst b0 a0 from Option.some.inj h)
   rw[if_pos rfl,aput_nil (k:=z) nd.1,firsts_cons,firsts_cons]
   show(z,(b,a))::firsts l=List.map _ ((z,(b0,a0))::firsts l)
   rw[List.map_cons,if_pos rfl,aput_nil (k:=z) (fun q=>nd.1 (firsts_sub.subset q))]
  ·rw[if_neg (show ¬ z=nm from e)]at h
   rw[if_neg (show ¬ (z,x).1=nm from e),firsts_cons,firsts_cons,ih nd.2 h]
   cases x with
   | fst b1 a1=>show _=List.map _ ((z,(b1,a1))::firsts l);rw[List.map_cons,if_neg (show ¬ z=nm from e)];rfl
   | jn _ _ _=>rfl
theorem kd_of {α β:Type}(κ:α->Key)(f:β->D)(l:List (α×β)):(l.map fun p=>κ p.1)=(l.map fun p=>(κ p.1,f p.2)).map (·.1)/\(l.map fun p=>f p.2)=(l.map fun p=>(κ p.1,f p.2)).map (·.2):=by
 rw[List.map_map,List.map_map]
 exact⟨rfl,rfl⟩
theorem src_fstE {kept:List (Str×Pt)}{nm:Str}{b:List Nat}{a bar:Int}(e:aget kept nm=some (.fst b a)):srcOf kept nm bar=(nm,0):=by
 unfold srcOf
 rw[ev_fst e]
theorem src_jn {kept:List (Str×Pt)}(h:Kpt kept){nm l r:Str}{p:Int}(e:aget kept nm=some (.jn l r p))(bar:Int):srcOf kept nm bar=if bar<p then((srcOf kept l bar).1,(srcOf kept l bar).2+1)else((srcOf kept r bar).1,(srcOf kept r bar).2+1):=by
 unfold srcOf
 rw[ev_jn h e]
theorem mr_g {α β:Type}{n:Nat}{κ:α->Key}{f:β->D}(hf:∀ b,mrB n (f b))(l:List (α×β)):mrL n ((l.map fun p=>(κ p.1,f p.2)).map (·.2)):=mr_all fun d hd=>by
 rw[List.map_map]at hd
 obtain⟨p,_,rfl⟩:=List.mem_map.mp hd
 exact hf _
theorem pt_mr {n:Nat}:∀ x,mrB n (ptD x)
 | .fst _ _=>trivial
 | .jn _ _ _=>⟨trivial,trivial,trivial,trivial⟩
theorem tk_mr {n:Nat}(t:Tk):mrB n (tkD t):=⟨trivial,trivial,trivial⟩
theorem mr_dc {α β:Type}{n:Nat}{κ:α->Key}{f:β->D}(hf:∀ b,mrB n (f b))(l:List (α×β)):mrB n (dcG κ f l):=mr_all fun d hd=>by
 obtain⟨p,_,rfl⟩:=List.mem_map.mp hd
 exact hf _
theorem mr_sh {n:Nat}(l:List (Int×Unit)):mrB n (shD l):=mr_dc (n:=n) (f:=fun _:Unit=>D.bl true) (fun _=>True.intro) l
section
variable {α β:Type}[DecidableEq α]{κ:α->Key}(hi:∀ a b,κ a=κ b->a=b)(f:β->D)
include hi
theorem wput (k:α)(v:β)(l:List (α×β)):D.fdc ((dput (l.map fun p=>(κ p.1,f p.2)) (κ k) (f v)).map (·.1)) ((dput (l.map fun p=>(κ p.1,f p.2)) (κ k) (f v)).map (·.2))=dcG κ f (aput l k v):=by
 rw[dput_k hi f k v l,<- (kd_of κ f _).1,<- (kd_of κ f _).2]
 rfl
theorem wdrop (k:α)(l:List (α×β)):D.fdc (((l.map fun p=>(κ p.1,f p.2)).filter fun p=>decide (p.1≠κ k)).map (·.1)) (((l.map fun p=>(κ p.1,f p.2)).filter fun p=>decide (p.1≠κ k)).map (·.2))=dcG κ f (adrop l k):=by
 rw[dropF_k hi f k l,<- (kd_of κ f _).1,<- (kd_of κ f _).2]
 rfl
theorem kd_nd {l:List (α×β)}(nd:(l.map (·.1)).Nodup):((l.map fun p=>(κ p.1,f p.2)).map (·.1)).Nodup:=by
 rw[List.map_map]
 show(l.map (κ ∘ fun p=>p.1)).Nodup
 rw[<- List.map_map]
 exact nd.map (f:=κ) fun a b h z=>h (hi _ _ z)
end
theorem kd_len {α β:Type}{κ:α->Key}{f:β->D}{l:List (α×β)}:(l.map fun p=>(κ p.1,f p.2)).length=l.length:=gxC _
theorem iteNot {c:Prop}[Decidable c]{A B:Prop}(h1:¬ c->A)(h2:c->B):if(!decide c)=true then A else B:=by
 by_cases q:c
 ·rw[decide_eq_true q];exact h2 q
 ·rw[decide_eq_false q];exact h1 q
theorem cmp1 {a b:Nat}:decide (([a]:List Nat)<[b])=decide (a<b):=by
 by_cases h:a<b
 ·rw[decide_eq_true h,decide_eq_true (show([a]:List Nat)<[b]from List.Lex.rel h)]
 ·rw[decide_eq_false h,decide_eq_false]
  intro z
  cases z with
  | rel q=>exact h q
  | cons q=>cases q
theorem nameB_of {nm:Str}(h1:¬ ((nm.length:Nat):Int)<1)(h2:¬ (8:Int)<((nm.length:Nat):Int)):namedB nm=(nm.cps.toList.all fun c=>decide (97<=c)&&decide (c<=122)):=by
 unfold namedB
 rw[decide_eq_true (show 1<=nm.length by omega),decide_eq_true (show nm.length<=8 by omega)]
 rfl
theorem open_map (S:RS):(((List.range (S.n - 1).toNat).map fun i=>1+((i:Nat):Int)).filterMap fun p=>if(aget S.shut p).isSome=true then none else some (D.int p))=(openP S).map D.int:=by
 unfold openP
 generalize ((List.range (S.n - 1).toNat).map fun i=>1+((i:Nat):Int))=l
 induction l with
 | nil=>rfl
 | cons p l ih =>
  rw[List.filterMap_cons,List.filter_cons]
  cases(aget S.shut p).isSome with
  | true=>exact ih
  | false=>show D.int p::_=D.int p::_;rw[ih]
theorem pt_again {l:List (Str×Pt)}{nm:Str}{b b0:List Nat}{a a0:Int}(h:aget l nm=some (.fst b0 a0))(nd:(l.map (·.1)).Nodup:=by assumption):dcG skey ptD (aput l nm (.fst b a))=dcG skey ptD l:=by
 unfold dcG
 have k1:=(aput_old (v:=Pt.fst b a) h).1
 have e1:(aput l nm (.fst b a)).map (fun p=>skey p.1)=l.map fun p=>skey p.1:=by
  have:=congrArg (List.map skey) k1
  rw[List.map_map,List.map_map]at this
  exact this
 rw[e1]
 congr 1
 unfold aput
 rw[if_pos (by rw[aget_any,h];rfl),List.map_map]
 refine List.map_congr_left fun p hp=>?_
 simp only[Function.comp]
 by_cases e:p.1=nm
 ·rw[if_pos e]
  have:aget l nm=some p.2:=aget_of_mem nd (by rw[<- e];exact hp)
  rw[h]at this
  rw[<- Option.some.inj this]
  rfl
 ·rw[if_neg e]
theorem app_sg {l:List Nat}{sg:Str}:(⟨l.toArray⟩++sg:Str)=⟨(l++sg.cps.toList).toArray⟩:=app_str l sg.cps.toList
theorem iteNn {c1 c2:Prop}[Decidable c1][Decidable c2]{A B:Prop}(hB:c1\/c2->B)(hA:¬ (c1\/c2)->A):if(true != decide c1)=true then(if(true != decide c2)=true then A else B)else B:=by
 by_cases q1:c1
 ·rw[decide_eq_true q1];exact hB (.inl q1)
 ·by_cases q2:c2
  ·rw[decide_eq_false q1,decide_eq_true q2];exact hB (.inr q2)
  ·rw[decide_eq_false q1,decide_eq_false q2];exact hA fun z=>z.elim q1 q2
def roN:List Str:=["stands", "rows", "done"]
structure RoomAt (cR cS:Addr)(μ:MS)(k j1 j2:Nat)(ss:List RS)(rs:List Dd)(d:Nat):Prop where
 k0:k≠0
 a0:j1≠0
 b0:j2≠0
 ka:k≠j1
 kb:k≠j2
 ab:j1≠j2
 ins:μ[k]?=some (.ins cR roN [.mr j1,.mr j2,.int (d:Int)])
 l1:μ[j1]?=some (.lst (ss.map (sdD cS)))
 l2:μ[j2]?=some (.lst (rs.map ddD))
 len:ss.length=rs.length+1
 le:d<=rs.length
 wf:∀ i S,ss[i]?=some S->RWf S i
 few:rs.length<=900
def putR (cR cS:Addr)(μ:MS)(k j1 j2:Nat)(ss:List RS)(rs:List Dd)(d:Nat):MS:=((μ.set j1 (.lst (ss.map (sdD cS)))).set j2 (.lst (rs.map ddD))).set k (.ins cR roN [.mr j1,.mr j2,.int (d:Int)])
section
variable {cR cS:Addr}{μ:MS}{k j1 j2:Nat}{ss:List RS}{rs:List Dd}{d:Nat}
theorem RoomAt.lk (h:RoomAt cR cS μ k j1 j2 ss rs d):k<μ.length/\j1<μ.length/\j2<μ.length:=⟨(gxB h.ins).1,(gxB h.l1).1,(gxB h.l2).1⟩
theorem RoomAt.now (h:RoomAt cR cS μ k j1 j2 ss rs d):∃ S,ss[d]?=some S/\RWf S d:=by
 have:d<ss.length:=by have:=h.len;have:=h.le;omega
 exact⟨_,gxA this,h.wf d _ (gxA this)⟩
theorem RoomAt.other (h:RoomAt cR cS μ k j1 j2 ss rs d){i:Nat}{m:MO}(hk:i≠k)(h1:i≠j1)(h2:i≠j2):RoomAt cR cS (μ.set i m) k j1 j2 ss rs d :=
 ⟨h.k0,h.a0,h.b0,h.ka,h.kb,h.ab,by rw[List.getElem?_set_ne hk];exact h.ins,by rw[List.getElem?_set_ne h1];exact h.l1,by rw[List.getElem?_set_ne h2];exact h.l2,h.len,h.le,h.wf,h.few⟩
theorem RoomAt.gx (h:RoomAt cR cS μ k j1 j2 ss rs d){m:MO}:RoomAt cR cS (μ.set 0 m) k j1 j2 ss rs d:=h.other (Ne.symm h.k0) (Ne.symm h.a0) (Ne.symm h.b0)
theorem RoomAt.more (h:RoomAt cR cS μ k j1 j2 ss rs d){g:MS}:RoomAt cR cS (μ++g) k j1 j2 ss rs d:=by
 obtain⟨a,b,c⟩:=h.lk
 exact⟨h.k0,h.a0,h.b0,h.ka,h.kb,h.ab,by rw[gxF a];exact h.ins,by rw[gxF b];exact h.l1,by rw[gxF c];exact h.l2,h.len,h.le,h.wf,h.few⟩
theorem RoomAt.put (h:RoomAt cR cS μ k j1 j2 ss rs d){ss':List RS}{rs':List Dd}{d':Nat}(len:ss'.length=rs'.length+1)(le:d'<=rs'.length)(wf:∀ i S,ss'[i]?=some S->RWf S i)(few:rs'.length<=900):RoomAt cR cS (putR cR cS μ k j1 j2 ss' rs' d') k j1 j2 ss' rs' d':=by
 obtain⟨a,b,c⟩:=h.lk
 refine⟨h.k0,h.a0,h.b0,h.ka,h.kb,h.ab,?_,?_,?_,len,le,wf,few⟩
 ·unfold putR;rw[List.getElem?_set_self (by rw[List.length_set,List.length_set];exact a)]
 ·unfold putR;rw[List.getElem?_set_ne h.ka,List.getElem?_set_ne (Ne.symm h.ab),List.getElem?_set_self b]
 ·unfold putR;rw[List.getElem?_set_ne h.kb,List.getElem?_set_self (by rw[List.length_set];exact c)]
theorem set_same {μ:MS}{i:Nat}{m:MO}(h:μ[i]?=some m):μ.set i m=μ:=by
 refine List.ext_getElem? fun j=>?_
 by_cases e:i=j
 ·subst e;rw[List.getElem?_set_self (gxB h).1,h]
 ·rw[List.getElem?_set_ne e]
theorem putR_gx (h:RoomAt cR cS μ k j1 j2 ss rs d){m m0:MO}{ss':List RS}{rs':List Dd}{d':Nat}(em:μ[0]?=some m0):(putR cR cS (μ.set 0 m) k j1 j2 ss' rs' d').set 0 m0=putR cR cS μ k j1 j2 ss' rs' d'/\(putR cR cS (μ.set 0 m) k j1 j2 ss' rs' d')[0]?=some m:=by
 have h0:0<μ.length:=(gxB em).1
 unfold putR
 refine⟨?_,?_⟩
 ·rw[List.set_comm _ _ h.k0,List.set_comm _ _ h.b0,List.set_comm _ _ h.a0,List.set_set,set_same em]
 ·rw[List.getElem?_set_ne h.k0,List.getElem?_set_ne h.b0,List.getElem?_set_ne h.a0,List.getElem?_set_self h0]
theorem putR_len {ss':List RS}{rs':List Dd}{d':Nat}:(putR cR cS μ k j1 j2 ss' rs' d').length=μ.length:=by unfold putR;rw[List.length_set,List.length_set,List.length_set]
theorem putR_at {ss':List RS}{rs':List Dd}{d' i:Nat}(hk:i≠k)(h1:i≠j1)(h2:i≠j2):(putR cR cS μ k j1 j2 ss' rs' d')[i]?=μ[i]?:=by
 unfold putR;rw[List.getElem?_set_ne (Ne.symm hk),List.getElem?_set_ne (Ne.symm h2),List.getElem?_set_ne (Ne.symm h1)]
end
section
variable (cR cS:Addr)(cs:List Addr)
def fRoInit:DSpX:=fun ds μ K Kx=>match ds with
 | [.mr k,.int n]=>(∃ m,μ[0]?=some m)/\k≠0/\μ[k]?=some (.ins cR [] [])/\(if 1<=n/\n<=40 then K .non (μ.set k (.ins cR roN [.mr μ.length,.mr (μ.length+1),.int 0])++[.lst [sdD cS ⟨n,[],[]⟩],.lst []])else Kx (.ref (cs.getD 8 0)) μ)
 | _=>False
def fNow:DSp:=fun ds μ K=>match ds with
 | [.mr k]=>∃ j1 j2 ss rs d S,RoomAt cR cS μ k j1 j2 ss rs d/\ss[d]?=some S/\K (sdD cS S) μ
 | _=>False
def fDeedR:DSpX:=fun ds μ K Kx=>match ds with
 | [.mr k,y]=>(∃ m,μ[0]?=some m)/\∃ j1 j2 ss rs d S e,RoomAt cR cS μ k j1 j2 ss rs d/\ss[d]?=some S/\y=ddD e/\ddOk e/\rs.length<900/\(match refW S e with | some i=>Kx (.ref (cs.getD i 0)) μ | none=>K .non (putR cR cS μ k j1 j2 (ss.take (d+1)++[doD S e]) (rs.take d++[e]) (d+1)))
 | _=>False
def fRowsR (b:Bool):DSp:=fun ds μ K=>match ds with
 | [.mr k]=>∃ j1 j2 ss rs d,RoomAt cR cS μ k j1 j2 ss rs d/\K (.lst ((if b=true then rs.take d else rs.drop d).map ddD)) μ
 | _=>False
def fOfNow (g:RS->D):DSp:=fun ds μ K=>match ds with
 | [.mr k]=>∃ j1 j2 ss rs d S,RoomAt cR cS μ k j1 j2 ss rs d/\ss[d]?=some S/\K (g S) μ
 | _=>False
end
def gSize (S:RS):D:=.int S.n
def gCuts (S:RS):D:=.lst ((openP S).map D.int)
section
variable {cR cS:Addr}{cs:List Addr}{ds:List D}{μ:MS}{K:DK}{Kx:DX}
theorem fRoInit_len (h:fRoInit cR cS cs ds μ K Kx):ds.length=2/\∃ m,μ[0]?=some m:=by
 unfold fRoInit at h
 split at h
 ·exact⟨rfl,h.1⟩
 ·exact h.elim
theorem fDeedR_len (h:fDeedR cR cS cs ds μ K Kx):ds.length=2/\∃ m,μ[0]?=some m:=by
 unfold fDeedR at h
 split at h
 ·exact⟨rfl,h.1⟩
 ·exact h.elim
end
def ptL:Pt->D
 | .fst b a=>.tup [.str "first",.str (txt b),.int a]
 | .jn l r p=>.tup [.str "joined",.str l,.str r,.int p]
def slD (S:RS):D:=.tup [.int S.n,dcG skey ptL S.kept,shD S.shut]
theorem ptL_mr {n:Nat}:∀ x,mrB n (ptL x)
 | .fst _ _=>⟨trivial,trivial,trivial,trivial⟩
 | .jn _ _ _=>⟨trivial,trivial,trivial,trivial,trivial⟩
def poolOk (pool:List Str):Prop:=1<=pool.length/\pool.length<=50/\∀ z∈pool,namedB z=true
def strL (l:List Str):D:=.lst (l.map D.str)
def fNamesL:DSp:=fun ds μ K=>match ds with
 | [.mr k,.int many]=>μ[k]?=some .box/\1<=many/\many<=50/\∀ pool:List Str,(pool.length:Int)=many->poolOk pool->K (strL pool) μ
 | _=>False
def fBegun (cR cS:Addr):DSp:=fun ds μ K=>match ds with
 | [.mr k,.int most]=>(∃ m,μ[0]?=some m)/\μ[k]?=some .box/\k<μ.length/\1<=most/\most<=40/\∀(n:Int) (pool:List Str),1<=n->n<=most->poolOk pool->K (.tup [.mr μ.length,slD ⟨n,[],[]⟩,strL pool]) (μ++[.ins cR roN [.mr (μ.length+1),.mr (μ.length+2),.int 0],.lst [sdD cS ⟨n,[],[]⟩],.lst []])
 | _=>False
def fOrigin:DSp:=fun ds μ K=>match ds with
 | [x,.str nm,.int bar]=>∃ kept y,dcv μ x=some (kept.map (fun p=>skey p.1),kept.map fun p=>ptL p.2)/\Kpt kept/\aget kept nm=some y/\K (srcD (srcOf kept nm bar)) μ
 | _=>False
def agesR (kept:List (Str×Pt)):List (Str×Int):=kept.map fun p=>(p.1,(tkOf kept p.1).2)
def fAgesL:DSp:=fun ds μ K=>match ds with
 | [x]=>∃ S m,x=dcG skey ptL S.kept/\RWf S m/\K (dcG skey D.int (agesR S.kept)) μ
 | _=>False
def fOpenL:DSp:=fun ds μ K=>match ds with
 | [x]=>∃ S m,x=slD S/\RWf S m/\K (gCuts S) μ
 | _=>False
def fDoneL:DSp:=fun ds μ K=>match ds with
 | [x,y]=>∃ S d m,x=slD S/\y=ddD d/\RWf S m/\m<=1000/\refW S d=none/\K (slD (doD S d)) μ
 | _=>False
def loneR (kept:List (Str×Pt)):List Str:=(kept.map (·.1)).filter fun z=>!kept.any fun p=>isNeed z p.2
def fLone:DSp:=fun ds μ K=>match ds with
 | [x]=>∃ S m,x=dcG skey ptL S.kept/\RWf S m/\K (strL (loneR S.kept)) μ
 | _=>False
def fEasy:DSp:=fun ds μ K=>match ds with
 | [.mr k,x,y]=>μ[k]?=some .box/\∃ S m pool,x=slD S/\y=strL pool/\RWf S m/\poolOk pool/\∀ d,refW S d=none->ddOk d->K (ddD d) μ
 | _=>False
theorem RWf.new {n:Int}(h1:1<=n)(h2:n<=40):RWf ⟨n,[],[]⟩ 0 :=
 ⟨h1,h2,⟨.nil,fun _ _ _ _ e=>(by cases e)⟩,Nat.zero_le _,fun _ _ _ e=>(by cases e),fun _ _ _ _ e=>(by cases e),fun _ h=>(nomatch h),Nat.le_refl _,.nil⟩
theorem RoomAt.made {cR cS:Addr}{μ:MS}{n:Int}(h0:μ≠[])(h1:1<=n)(h2:n<=40):RoomAt cR cS (μ++[.ins cR roN [.mr (μ.length+1),.mr (μ.length+2),.int 0],.lst [sdD cS ⟨n,[],[]⟩],.lst []]) μ.length (μ.length+1) (μ.length+2) [⟨n,[],[]⟩] [] 0:=by
 have hl:0<μ.length:=List.length_pos_iff.mpr h0
 refine⟨by omega,by omega,by omega,by omega,by omega,by omega,?_,?_,?_,rfl,Nat.le_refl _,fun i S e=>?_,Nat.zero_le _⟩
 ·rw[gxG (Nat.le_refl _),Nat.sub_self];rfl
 ·rw[gxG (by omega),Nat.add_sub_cancel_left];rfl
 ·rw[gxG (by omega),Nat.add_sub_cancel_left];rfl
 ·cases i with
  | zero=>cases e;exact .new h1 h2
  | succ i=>cases e
end L2
namespace L2
open PySem PySem.Spec PyProof.Rows PyProof
section
variable {X:Cx}{pos:Pos}
def tPar3 (i j k:Nat)(ta:TA):TS:=fun D σ H=>ta σ H fun vs H1=>∃ v w u,vs=[v,w,u]/\D.nx (((σ.set i (some v)).set j (some w)).set k (some u)) H1
theorem ps_par3 {i j k:Nat}{x y z:Str}{a b c:Expr}{ta:TA}{px py pz pt:Pos}{kt k2 pt2}(hc:X.calm=true)(hN:X.N.Nodup)(hi:X.N[i]?=some x)(hj:X.N[j]?=some y)(hk:X.N[k]?=some z)(hij:i≠j)(hik:i≠k)(hjk:j≠k)
 (hx:X.env.scope.names.lookup x=some .local) (hy:X.env.scope.names.lookup y=some .local) (hz:X.env.scope.names.lookup z=some .local) (ha:PA X [a,b,c] ta)
 (hw:swappedStores [.Tuple [.Name x px,.Name y py,.Name z pz] kt pt] (.Tuple [a,b,c] k2 pt2) X.env=pure (some [x,y,z]))
 (hs:swapsWithSole [.Tuple [.Name x px,.Name y py,.Name z pz] kt pt] (.Tuple [a,b,c] k2 pt2) pos.line X.env=pure false:=by rfl) :
 PS X (.Assign [.Tuple [.Name x px,.Name y py,.Name z pz] kt pt] (.Tuple [a,b,c] k2 pt2) pos) (tPar3 i j k ta):=by
 intro pins s σ H D I h
 rw[exec_Assign_arm]
 refine gxM (wpAny_standAt ?_)
 rw[hs]
 refine gxM (wpAny_pure ?_)
 rw[if_neg (by decide)]
 refine gxM (Tuple_ (thn (ha _ pins s σ H _ I h) fun us s1 hq2=>?_))
 obtain⟨vs,H1,I1,r1,q1⟩:=hq2
 obtain⟨v,w,u,e1,q1⟩:=q1
 subst e1
 obtain⟨u1,u2,u3,rfl,rv,rw',ru⟩:∃ u1 u2 u3,us=[u1,u2,u3]/\RelV v u1/\RelV w u2/\RelV u u3:=by
  cases r1 with
  | cons p q =>
   cases q with
   | cons p' q' =>
    cases q' with
    | cons p'' q'' =>
     cases q''
     exact⟨_,_,_,rfl,p,p',p''⟩
 refine wpAny_newObj_type ?_ (by show 3<=sizeLine;decide)
 have I2:Inv X pins σ H1 { s1 with heap:=s1.heap.push { cls:=.type "tuple",data:=.seq [u1,u2,u3].toArray}}:=I1.kept (t':=s1.toks) fun b o e=>gxL _ e
 rw[hw]
 refine gxM (wpAny_pure ?_)
 show wpAny (model X.prog X.w) X.A (do rule "assign.swapped-stores";let items <- unpackItems (.ref s1.heap.objs.size) 3 none;assignInOrder [fun v=>bindName X.env z v,fun v=>bindName X.env y v,fun v=>bindName X.env x v] items.reverse;pure Flow.next) _ _ _
 refine gxM (wpAny_rule (gxM (unpackItems_tuple (items:=#[u1,u2,u3]) (I.ok.hd hc) (IsTup.new s1.heap _) fun h' hx'=>?_)))
 have I3:=I2.kept (h':=h') (t':=s1.toks) fun b o e=>hx' b o (Nat.ne_of_lt (gxN e)) e
 show wpAny _ _ (assignInOrder [fun v=>bindName X.env z v,fun v=>bindName X.env y v,fun v=>bindName X.env x v] [u3,u2,u1] >>= fun _=>pure Flow.next) _ _ _
 refine gxM (assignInOrder_cons (wpAny_bindName (store_ok I3 hN hk (.inl hz) ru (fun s2 I4=>?_) (.inr hz))))
 refine assignInOrder_cons (wpAny_bindName (store_ok I4 hN hj (.inl hy) rw' (fun s3 I5=>?_) (.inr hy)))
 refine assignInOrder_cons (wpAny_bindName (store_ok I5 hN hi (.inl hx) rv (fun s4 I6=>assignInOrder_nil (wpAny_pure ?_)) (.inr hx)))
 rw[List.set_comm _ _ (Ne.symm hjk),List.set_comm _ _ (Ne.symm hik),List.set_comm _ _ (Ne.symm hij)]at I6
 exact⟨_,H1,I6,q1⟩
def dPar3 (i j k:Nat)(w:DA):Ds:=fun N ρ μ=>w ρ μ fun ds μ1=>match ds with
 | [a,b,c]=>N.nx (((ρ.set i (some a)).set j (some b)).set k (some c)) μ1
 | _=>False
theorem s_par3 {i j k:Nat}{x y z:Str}{a b c:Expr}{w:DA}{px py pz pt:Pos}{kt k2 pt2}(hN:X.N.Nodup)(hi:X.N[i]?=some x)(hj:X.N[j]?=some y)(hk:X.N[k]?=some z)(hij:i≠j)(hik:i≠k)(hjk:j≠k)
 (hx:X.env.scope.names.lookup x=some .local) (hy:X.env.scope.names.lookup y=some .local) (hz:X.env.scope.names.lookup z=some .local) (ha:PDA X [a,b,c] w) (hc:X.calm=true:=by rfl)
 (hw:swappedStores [.Tuple [.Name x px,.Name y py,.Name z pz] kt pt] (.Tuple [a,b,c] k2 pt2) X.env=pure (some [x,y,z]):=by rfl)
 (hs:swapsWithSole [.Tuple [.Name x px,.Name y py,.Name z pz] kt pt] (.Tuple [a,b,c] k2 pt2) pos.line X.env=pure false:=by rfl) :
 PDS X (.Assign [.Tuple [.Name x px,.Name y py,.Name z pz] kt pt] (.Tuple [a,b,c] k2 pt2) pos) (dPar3 i j k w):=(ps_par3 hc hN hi hj hk hij hik hjk hx hy hz ha hw hs).imp fun E σ H ⟨φ,ρ,μ,N,A,M,w,L⟩ =>
 ⟨φ,ρ,μ,_,A,M,w,fun ds μ1 φ1 vs H1 k1 f1 M1 i1=>by
  split at k1
  ·obtain⟨v1,r1,rfl,g1,v2,r2,rfl,g2,v3,r3,rfl,g3,g4⟩:=i1
   cases(show r3=[]from g4)
   exact⟨_,_,_,rfl,L.nx _ μ1 φ1 _ H1 k1 f1 ((((A.mono f1).set g1 i).set g2 j).set g3 k) M1⟩
  ·exact k1.elim⟩
end
theorem at_mid {μ g:MS}{x:MO}:(μ++x::g)[μ.length]?=some x:=by rw[gxG (Nat.le_refl _),Nat.sub_self];rfl
theorem set_mid {μ g:MS}{x y:MO}:(μ++x::g).set μ.length y=μ++y::g:=by rw[List.set_append_right _ _ (Nat.le_refl _),Nat.sub_self];rfl
theorem named_of {cs:List Nat}(h1:1<=cs.length)(h2:cs.length<=8)(h:∀ c∈cs,97<=c/\c<=122):namedB (txt cs)=true:=by
 unfold namedB
 rw[show(txt cs).length=cs.length from lenS cs,decide_eq_true h1,decide_eq_true h2]
 show(cs.all _)=true
 rw[List.all_eq_true]
 intro c hc
 obtain⟨a,b⟩:=h c hc
 rw[decide_eq_true a,decide_eq_true b];rfl
theorem abc_at {v:Int}(h0:0<=v)(h1:v<26):∃ c,atI (Str.ofString "abcdefghijklmnopqrstuvwxyz").cps.toList v=some c/\97<=c/\c<=122:=by
 obtain⟨c,e,hc⟩:=atI_in (l:=(Str.ofString "abcdefghijklmnopqrstuvwxyz").cps.toList) h0 h1
 have:((Str.ofString "abcdefghijklmnopqrstuvwxyz").cps.toList.all fun c=>decide (97<=c)&&decide (c<=122))=true:=by decide +kernel
 have:=List.all_eq_true.mp this c hc
 simp only[Bool.and_eq_true,decide_eq_true_eq]at this
 exact⟨c,e,this⟩
theorem atI_ex {α:Type}{xs:List α}{v:Int}(h0:0<=v)(h1:v<(xs.length:Int)):∃ x∈xs,atI xs v=some x:=by
 obtain⟨n,rfl⟩:∃ n:Nat,v=(n:Int):=⟨v.toNat,by omega⟩
 have hn:n<xs.length:=by omega
 exact⟨xs[n],List.getElem_mem hn,atI_nat (gxA hn)⟩
theorem atI_mapx {α β:Type}{g:α->β}{xs:List α}{v:Int}(h0:0<=v)(h1:v<(xs.length:Int)):∃ x∈xs,atI (xs.map g) v=some (g x):=by
 obtain⟨n,rfl⟩:∃ n:Nat,v=(n:Int):=⟨v.toNat,by omega⟩
 have hn:n<xs.length:=by omega
 exact⟨xs[n],List.getElem_mem hn,atI_map (gxA hn)⟩
end L2
namespace L2
open PySem PySem.Spec PyProof.Rows PyProof
def TV (c:Dt)(ρ:DE)(μ:MS)(b:Bool):Prop:=∀ K:Bool->MS->Prop,K b μ->c ρ μ K
section
variable {a c:Dt}{t u:Ds}{N:DN}{ρ:DE}{μ:MS}{x y b:Bool}{e:De}
theorem TV.tst (h:∀ K:DK,K (.bl b) μ->e ρ μ K):TV (dTst e) ρ μ b:=fun K k=>h _ k
theorem TV.and (h1:TV a ρ μ x)(h2:x=true->TV c ρ μ y):TV (dtAnd a c) ρ μ (x&&y):=fun K k=>h1 _ (by
 cases x with
 | true=>rw[if_pos rfl];exact h2 rfl K k
 | false=>rw[if_neg (by decide)];exact k)
theorem TV.or (h1:TV a ρ μ x)(h2:x=false->TV c ρ μ y):TV (dtOr a c) ρ μ (x||y):=fun K k=>h1 _ (by
 cases x with
 | true=>rw[if_pos rfl];exact k
 | false=>rw[if_neg (by decide)];exact h2 rfl K k)
theorem TV.not (h1:TV a ρ μ x):TV (dtNot a) ρ μ (!x):=fun K k=>h1 _ k
theorem dIf_of (b:Bool)(h:TV c ρ μ b)(ht:b=true->t N ρ μ)(hu:b=false->u N ρ μ):dIfS c t u N ρ μ:=h _ (by
 cases b with
 | true=>rw[if_pos rfl];exact ht rfl
 | false=>rw[if_neg (by decide)];exact hu rfl)
end
theorem dNx_of {N:DN}{ρ:DE}{μ:MS}(h:N.nx ρ μ):dNx N ρ μ:=h
theorem dSet_of {i:Nat}{w:De}{N:DN}{ρ:DE}{μ μ':MS}{d:D}(h:∀ K:DK,K d μ'->w ρ μ K)(k:N.nx (ρ.set i (some d)) μ'):dSet i w N ρ μ:=h _ k
theorem two_1 {μ:MS}{a b:MO}:(μ++[a,b])[μ.length+1]?=some b:=by rw[gxG (by omega),Nat.add_sub_cancel_left];rfl
theorem set_two {μ:MS}{a b y:MO}:(μ++[a,b]).set (μ.length+1) y=μ++[a,y]:=by rw[List.set_append_right _ _ (by omega),Nat.add_sub_cancel_left];rfl
def dM {α β:Type}(κ:α->Key)(f:β->D)(l:List (α×β)):MO:=.dic (l.map fun p=>κ p.1) (l.map fun p=>f p.2)
section
variable {α β:Type}[DecidableEq α]{κ:α->Key}(hi:∀ a b,κ a=κ b->a=b){f:β->D}{μ:MS}{j:Nat}{l:List (α×β)}
include hi
theorem put_at (hj:μ[j]?=some (dM κ f l))(hl:l.length<sizeLine){i:D}{k:α}(hk:keyD i=some (κ k))(v:β){d:D}(hd:d=f v){P:MS->Prop}(h:P (μ.set j (dM κ f (aput l k v)))) :
 ∃ kd kd':List (Key×D),μ[j]?=some (.dic (kd.map (·.1)) (kd.map (·.2)))/\kd.length<sizeLine/\(keyD i).map (fun k=>dput kd k d)=some kd'/\P (μ.set j (.dic (kd'.map (·.1)) (kd'.map (·.2)))):=by
 subst hd
 obtain⟨e1,e2⟩:=kd_of κ f l
 refine⟨l.map fun p=>(κ p.1,f p.2),_,by rw[hj,<- e1,<- e2];rfl,by rw[kd_len];exact hl,by rw[hk];rfl,?_⟩
 show P (μ.set j (.dic ((dput _ (κ k) (f v)).map (·.1)) ((dput _ (κ k) (f v)).map (·.2))))
 rw[dput_k hi f k v l,<- (kd_of κ f _).1,<- (kd_of κ f _).2]
 exact h
theorem pop_at (hj:μ[j]?=some (dM κ f l)){i:D}{k:α}(hk:keyD i=some (κ k)){v:β}(he:aget l k=some v){P:D->MS->Prop}(h:P (f v) (μ.set j (dM κ f (adrop l k)))) :
 ∃(kd:List (Key×D)) (k':Key) (d:D),μ[j]?=some (.dic (kd.map (·.1)) (kd.map (·.2)))/\keyD i=some k'/\dval kd k'=some d/\P d (μ.set j (.dic ((kd.filter fun p=>decide (p.1≠k')).map (·.1)) ((kd.filter fun p=>decide (p.1≠k')).map (·.2)))):=by
 obtain⟨e1,e2⟩:=kd_of κ f l
 refine⟨l.map fun p=>(κ p.1,f p.2),κ k,f v,by rw[hj,<- e1,<- e2];rfl,hk,by rw[dval_k hi f k l,he];rfl,?_⟩
 rw[dropF_k hi f k l,<- (kd_of κ f _).1,<- (kd_of κ f _).2]
 exact h
end
theorem dicM_of {μ:MS}{j:Nat}{ks:List Key}{ds:List D}(h:μ[j]?=some (.dic ks ds)):dicM μ j=some (ks,ds):=by unfold dicM;rw[h]
theorem adrop_none {α β:Type}[DecidableEq α]{l:List (α×β)}{k:α}(h:aget l k=none):adrop l k=l:=by
 unfold adrop
 refine List.filter_eq_self.mpr fun p hp=>decide_eq_true fun e=>?_
 have:=aget_some.mpr (List.mem_map.mpr ⟨p,hp,rfl⟩:p.1∈l.map (·.1))
 rw[e,h]at this
 cases this
theorem aput_le {α β:Type}[DecidableEq α]{l:List (α×β)}{k:α}{v:β}:(aput l k v).length<=l.length+1:=by
 unfold aput
 split
 ·rw[gxC];omega
 ·rw[gxE,List.length_singleton];exact Nat.le_refl _
theorem all_self {n:Nat}{ds:List D}{R:D->D->Prop}(hR:∀ d,mrB n d->R d d)(h:mrL n ds):All2 R ds ds:=⟨rfl,fun i a b e1 e2=>by
 rw[e1]at e2;cases e2
 exact hR a (mrL_mem h (gxD e1))⟩
theorem frz_two {μ:MS}{n:Int}{o1 o2:Obj}{k1 k2:List (Key×V)}{d1 d2:List D}(h1:mrL μ.length d1)(h2:mrL μ.length d2):FrzQ μ.length (μ++[.fdic o1 k1 d1,.fdic o2 k2 d2]) 2 (.tup [.int n,.mr μ.length,.mr (μ.length+1)]) (.tup [.int n,.fdc (k1.map (·.1)) d1,.fdc (k2.map (·.1)) d2]):=by
 have slf:∀ d,mrB μ.length d->FrzQ μ.length (μ++[.fdic o1 k1 d1,.fdic o2 k2 d2]) 0 d d:=fun d h=>⟨rfl,h⟩
 refine .inr (.inr (.inr (.inl ⟨_,_,rfl,rfl,rfl,fun i a b e1 e2=>?_⟩)))
 match i with
 | 0=>cases e1;cases e2;exact .inl ⟨rfl,trivial⟩
 | 1=>cases e1;cases e2;exact .inr (.inr (.inr (.inr (.inl ⟨_,o1,k1,d1,d1,rfl,Nat.le_refl _,at_mid,rfl,all_self slf h1⟩))))
 | 2=>cases e1;cases e2;exact .inr (.inr (.inr (.inr (.inl ⟨_,o2,k2,d2,d2,rfl,Nat.le_succ _,two_1,rfl,all_self slf h2⟩))))
 | i+3=>cases e1
theorem lone_map (kept:List (Str×Pt)):(kept.filterMap fun p=>if(kept.any fun q=>isNeed p.1 q.2)=true then none else some (D.str p.1))=(loneR kept).map D.str:=by
 unfold loneR
 have key:∀ l:List (Str×Pt),(l.filterMap fun p=>if(kept.any fun q=>isNeed p.1 q.2)=true then none else some (D.str p.1))=((l.map (·.1)).filter fun z=>!kept.any fun p=>isNeed z p.2).map D.str:=by
  intro l
  induction l with
  | nil=>rfl
  | cons p l ih =>
   rw[List.filterMap_cons,List.map_cons,List.filter_cons]
   by_cases q:(kept.any fun q=>isNeed p.1 q.2)=true
   ·rw[if_pos q,if_neg (by rw[q];decide)];exact ih
   ·rw[if_neg q,if_pos (by rw[Bool.not_eq_true]at q;rw[q];rfl),List.map_cons,ih]
 exact key kept
def freshR (S:RS)(pool:List Str):List Str:=pool.filter fun z=>!(aget S.kept z).isSome&&decide (S.kept.length<20)
theorem fresh_map (S:RS)(pool:List Str):(pool.filterMap fun z=>if(!(aget S.kept z).isSome&&decide (S.kept.length<20))=true then some (D.str z)else none)=(freshR S pool).map D.str:=by
 unfold freshR
 induction pool with
 | nil=>rfl
 | cons z pool ih =>
  rw[List.filterMap_cons,List.filter_cons]
  by_cases q:(!(aget S.kept z).isSome&&decide (S.kept.length<20))=true
  ·rw[if_pos q,if_pos q,List.map_cons,ih]
  ·rw[if_neg q,if_neg q];exact ih
theorem fresh_new {S:RS}{pool:List Str}(h:poolOk pool){z:Str}(hz:z∈freshR S pool):newW S z=none/\z.length<=8:=by
 unfold freshR at hz
 obtain⟨hz,q⟩:=List.mem_filter.mp hz
 simp only[Bool.and_eq_true,Bool.not_eq_true',decide_eq_true_eq]at q
 have hn:=h.2.2 z hz
 refine⟨?_,?_⟩
 ·unfold newW hasN
  rw[hn,q.1,if_neg (by decide),if_neg (by decide),if_neg (by omega)]
 ·unfold namedB at hn
  simp only[Bool.and_eq_true,decide_eq_true_eq]at hn
  exact hn.1.2
theorem fresh_any {S:RS}{pool:List Str}(h:poolOk pool)(h0:S.kept=[]):0<(freshR S pool).length:=by
 unfold freshR
 rw[h0]
 have:(pool.filter fun z=>!(aget ([]:List (Str×Pt)) z).isSome&&decide (([]:List (Str×Pt)).length<20))=pool:=List.filter_eq_self.mpr fun z _=>rfl
 rw[this]
 have:=h.1
 omega
theorem or_no {a b:Option Nat}(h1:a=none)(h2:b=none):a.or b=none:=by rw[h1,h2];rfl
theorem has_of {S:RS}{p:Str×Pt}(hp:p∈S.kept):hasN S p.1=true:=aget_some.mpr (List.mem_map.mpr ⟨p,hp,rfl⟩)
theorem place_ok {S:RS}{p:Int}(h1:1<=p)(h2:p<S.n):placeW S p=none:=by unfold placeW;rw[if_pos ⟨h1,h2⟩]
theorem age_ok {a:Int}(h1:0<=a)(h2:a<=20):ageW a=none:=by unfold ageW;rw[if_pos ⟨h1,h2⟩]
theorem ref_put {S:RS}{z:Str}{l:List Nat}{a:Int}(h:newW S z=none)(hl:(l.length:Int)=S.n)(ho:OX l)(a0:0<=a)(a1:a<=20):refW S (.put z (txt l) a)=none:=by
 refine or_no h ?_
 have:oxB (txt l)=true:=by
  unfold oxB
  refine List.all_eq_true.mpr fun c hc=>?_
  rcases ho c hc with q | q <;> rw[q]<;> rfl
 show(if(((txt l).length:Nat):Int)=S.n/\oxB (txt l)=true then ageW a else some 0)=none
 rw[if_pos ⟨by rw[txt_len];exact hl,this⟩]
 exact age_ok a0 a1
theorem ref_join {S:RS}{z:Str}{p q:Str×Pt}{i:Int}(h:newW S z=none)(hp:p∈S.kept)(hq:q∈S.kept)(hi:i∈openP S):refW S (.join z p.1 q.1 i)=none:=by
 refine or_no h ?_
 unfold openP at hi
 obtain⟨hi,e⟩:=List.mem_filter.mp hi
 obtain⟨j,hj,rfl⟩:=List.mem_map.mp hi
 have hj:=List.mem_range.mp hj
 have e:(aget S.shut (1+(j:Int))).isSome=false:=by simpa using e
 show(if hasN S p.1=false then some 11 else if hasN S q.1=false then some 11 else(placeW S _).or (if(aget S.shut _).isSome=true then some 12 else none))=none
 rw[has_of hp,has_of hq,if_neg (by decide),if_neg (by decide),e,if_neg (by decide),place_ok (by omega) (by omega)]
 rfl
theorem ref_drop {S:RS}{z:Str}(h:z∈loneR S.kept):refW S (.drop z)=none:=by
 unfold loneR at h
 obtain⟨h1,h2⟩:=List.mem_filter.mp h
 have hh:hasN S z=true:=aget_some.mpr h1
 have hn:needN S z=false:=by unfold needN;simpa using h2
 show(if hasN S z=false then some 11 else if needN S z=true then some 14 else none)=none
 rw[hh,hn,if_neg (by decide),if_neg (by decide)]
theorem ref_found {S:RS}{p:Str×Pt}{bar:Int}{sg:Str}(hp:p∈S.kept)(h1:0<=bar)(h2:bar<S.n)(hs:sg = "o"\/sg = "x"):refW S (.found p.1 bar sg)=none:=by
 show(if hasN S p.1=false then some 11 else if 0<=bar/\bar<S.n then(if sg = "o"\/sg = "x" then none else some 0)else some 6)=none
 rw[has_of hp,if_neg (by decide),if_pos ⟨h1,h2⟩,if_pos hs]
def isFst:Pt->Bool
 | .fst _ _=>true
 | .jn _ _ _=>false
theorem compW_ch {it:D->MS->(Option D->MS->Prop)->Prop}{c:MS->Prop}{μ:MS}:∀(l:List Int),c μ->∀ {K:List D->MS->Prop},(∀ x∈l,∀(K':Option D->MS->Prop),(∀ a:Nat,97<=a/\a<=122->K' (some (.str ⟨#[a]⟩)) μ)->it (.int x) μ K')->(∀ cs:List Nat,cs.length=l.length->(∀ a∈cs,97<=a/\a<=122)->K (cs.map fun a=>.str ⟨#[a]⟩) μ)->compW it c (l.map D.int) μ K
 | [],hc,K,_,k=>⟨hc,k [] rfl fun _ h=>nomatch h⟩
 | x::l,hc,K,h,k=>⟨hc,h x List.mem_cons_self _ fun a ha=>compW_ch l hc (fun y hy=>h y (gxI _ hy)) fun cs cl cr=>k (a::cs) (by rw[List.length_cons,List.length_cons,cl]) fun b hb=>by
  rcases List.mem_cons.mp hb with q | q
  ·rw[q];exact ha
  ·exact cr b q⟩
end L2
namespace L2
open PySem PySem.W PyProof.Rows
noncomputable abbrev twStepT:=Fast.tw10156331382660048174
noncomputable abbrev twDen:=Fast.tw11892475500146522536
noncomputable def runT (p:Program)(w:World)(n₀:Nat)(ann:Option Value):Nat->SharedT->Thread->Option SharedT
 | 0,_,_=>none
 | n+1,s,t=>match through t with
  | true=>some s
  | false=>match stepOk n₀ ann t with
   | false=>none
   | true=>match twStepT (twDen twTab) p w s t with
    | some (s',t')=>runT p w n₀ ann n s' t'
    | none=>none
theorem runT_of {p:Program}{w:World}{n₀:Nat}{ann:Option Value}:∀ {n:Nat} {s s':SharedT} {t:Thread},runT p w n₀ ann n s t=some s'->topRun treeTable p w n₀ ann n s.abs t=some s'.abs
 | 0,_,_,_,h=>by cases h
 | n+1,s,s',t,h=>by
  unfold runT at h
  unfold topRun
  cases he:through t with
  | true=>rw[he]at h;cases h;rfl
  | false =>
   rw[he]at h
   cases hk:stepOk n₀ ann t with
   | false=>rw[hk]at h;cases h
   | true =>
    rw[hk]at h
    cases hs:twStepT (twDen twTab) p w s t with
    | none=>rw[hs]at h;cases h
    | some r =>
     obtain⟨s2,t2⟩:=r
     rw[hs]at h
     have hs':stepT (denote treeTable) p w s t=some (s2,t2):=by
      rw[show stepT=twStepT from Fast.te10156331382660048174,show denote=twDen from Fast.te11892475500146522536,show treeTable=twTab from Fast.te14364793385576792824];exact hs
     rw[stepT_spec hs'];exact runT_of h
noncomputable def boT (P:Params):BT:=(.node (boot_o_0 P) (.node (boot_o_1 P) (.node (boot_o_3 P) (.node (boot_o_7 P) .nil .nil) .nil) (.node (boot_o_5 P) (.node (boot_o_9 P) .nil .nil) .nil)) (.node (boot_o_2 P) (.node (boot_o_4 P) (.node (boot_o_8 P) .nil .nil) .nil) (.node (boot_o_6 P) (.node (boot_o_10 P) .nil .nil) .nil)))
noncomputable abbrev ST0 (w:World)(os:OsState):SharedT:=⟨boT w.params,11,(boot_heap w.params).life,#[],boot_drawn,boot_toks,os⟩
theorem boT_abs (w:World)(os:OsState):(ST0 w os).abs=S00 w os:=by kernel_rfl
end L2
namespace L2
open PySem PySem.Spec PyProof.Rows PyProof PySem.W
def LeftAt (p q:Program)(loose:List Str)(Xt:Shared->Bool){α:Type}(Yf:Shared->α)(Ya:World->α)(M:Nat)(row:String)(b:Bool):Prop:=∀(w:World) (os:OsState),(twRun twTab p (w.withFollow row b) 11 (some (.ref 6)) M (S00 w os) (topStub p)).map (fun s =>
 (W.staticsOk (importedModules p.main.body) (W.boot_heap w.params) s.heap&&W.namesBound p s.heap&&W.gensDone s&&W.laidKept (W.boot_heap w.params) s.heap,twSeen q loose (importedModules p.main.body) Xt true s,Yf s))=some (true,W.openGood q loose,Ya w)
theorem left_ofR {p q:Program}{loose:List Str}{Xt:Shared->Bool}{α:Type}{Yf:Shared->α}{Ya:World->α}{N M:Nat}{row:String}
 (e:W.opening p=W.plainProg p.main.scope.names) (hN:Nat.ble 600 N=true) (f:∀ s,fenceModules? p s=some s) (le:Nat.ble M N=true)
 (h0:LeftAt p q loose Xt Yf Ya M row false) (h1:LeftAt p q loose Xt Yf Ya M row true):W.LeftO p q loose Xt Yf Ya N:=left_of e hN f le fun w os=>by
 have h:∀ b,LeftAt p q loose Xt Yf Ya M row b:=fun b=>by cases b;exact h0;exact h1
 have:=h (w.params.followText row) w os
 rwa [World.withFollow_self]at this
def LeftT (p q:Program)(loose:List Str)(Xt:Shared->Bool){α:Type}(Yf:Shared->α)(Ya:World->α)(M:Nat)(row:String)(b:Bool):Prop:=∀(w:World) (os:OsState),(runT p (w.withFollow row b) 11 (some (.ref 6)) M (ST0 w os) (topStub p)).map (fun s =>
 (W.staticsOk (importedModules p.main.body) (W.boot_heap w.params) s.abs.heap&&W.namesBound p s.abs.heap&&W.gensDone s.abs&&W.laidKept (W.boot_heap w.params) s.abs.heap,twSeen q loose (importedModules p.main.body) Xt true s.abs,Yf s.abs))=some (true,W.openGood q loose,Ya w)
theorem LeftT.at {p q:Program}{loose:List Str}{Xt:Shared->Bool}{α:Type}{Yf:Shared->α}{Ya:World->α}{M:Nat}{row:String}{b:Bool}(h:LeftT p q loose Xt Yf Ya M row b):LeftAt p q loose Xt Yf Ya M row b:=fun w os=>by
 obtain⟨sT,r,e⟩:=Option.map_eq_some_iff.mp (h w os)
 have r2:=runT_of r
 rw[boT_abs,show topRun=twRun from Fast.te14082659384304107361,show treeTable=twTab from Fast.te14364793385576792824]at r2
 rw[r2]
 exact congrArg some e
theorem sm_dd {n:Nat}(e:Dd):smD (n+1) (ddD e):=by
 cases e <;> refine sm_tup (by simp only[List.length_cons,List.length_nil];omega) (fun d hd=>?_)<;> simp only[List.mem_cons,List.not_mem_nil,or_false]at hd
 ·rcases hd with rfl | rfl | rfl | rfl <;> first | exact sm_str | exact sm_int
 ·rcases hd with rfl | rfl | rfl | rfl | rfl <;> first | exact sm_str | exact sm_int
 ·rcases hd with rfl | rfl | rfl | rfl <;> first | exact sm_str | exact sm_int
 ·rcases hd with rfl | rfl | rfl <;> first | exact sm_str | exact sm_int
 ·rcases hd with rfl | rfl <;> first | exact sm_str | exact sm_int
 ·rcases hd with rfl | rfl <;> first | exact sm_str | exact sm_int
 ·rcases hd with rfl | rfl <;> first | exact sm_str | exact sm_int
theorem sm_dds {n:Nat}{rs:List Dd}(h:rs.length<=100000):smD (n+2) (.lst (rs.map ddD)):=sm_lst (by rw[gxC];exact h) fun d hd=>by
 obtain⟨q,_,rfl⟩:=List.mem_map.mp hd;exact sm_dd q
theorem room_recv {cR cS:Addr}{μ:MS}{k j1 j2 d:Nat}{ss:List RS}{rs:List Dd}(ra:RoomAt cR cS μ k j1 j2 ss rs d){nm:Str}(hn:lookN nm roN [.mr j1,.mr j2,.int (d:Int)]=none):recvD cR nm μ (.mr k):=by
 show(insM _ _ _).map _=_
 rw[insM_of ra.ins]
 exact congrArg some hn
end L2
namespace L2
open PySem PySem.Spec PyProof.Rows PyProof
end L2
namespace L2
open PySem PySem.Spec PyProof.Rows PyProof
end L2
namespace L2
open PySem PySem.Spec PyProof.Rows PyProof
def fUndoR (cR cS cN:Addr):DSpX:=fun ds μ K Kx=>match ds with
 | [.mr k]=>(∃ m,μ[0]?=some m)/\∃ j1 j2 ss rs d,RoomAt cR cS μ k j1 j2 ss rs d/\(match d with | 0=>Kx (.ref cN) μ | d'+1=>∀ e,rs[d']?=some e->K (ddD e) (putR cR cS μ k j1 j2 ss rs d'))
 | _=>False
theorem fUndoR_len {cR cS cN:Addr}{ds:List D}{μ:MS}{K:DK}{Kx:DX}(h:fUndoR cR cS cN ds μ K Kx):ds.length=1/\∃ m,μ[0]?=some m:=by
 unfold fUndoR at h
 split at h
 ·exact⟨rfl,h.1⟩
 ·exact h.elim
end L2
namespace L2
open PySem PySem.Spec PyProof.Rows PyProof
end L2
namespace L2
open PySem PySem.Spec PyProof.Rows PyProof
section
variable {kept:List (Str×Pt)}{z:Str}{b b':List Nat}{a:Int}(h:aget kept z=some (.fst b a))
include h
end
end L2
namespace L2
open PySem PySem.Spec PyProof.Rows PyProof
section
variable {X:Cx}{a b e e1 e2 e3:Expr}{wa wb w w1 w2 w3:De}{pos p:Pos}
theorem a1 (h:PD X e w)(s:starEach [e] X.env=(false,eval e X.env)::starEach [] X.env:=by rfl):PDA X [e] (dCons w dNil):=da_cons h da_nil s
theorem a2 (h:PD X e w)(h1:PD X e1 w1)(s:starEach [e,e1] X.env=(false,eval e X.env)::starEach [e1] X.env:=by rfl)(s1:starEach [e1] X.env=(false,eval e1 X.env)::starEach [] X.env:=by rfl):PDA X [e,e1] (dCons w (dCons w1 dNil)):=da_cons h (a1 h1 s1) s
theorem a3 (h:PD X e w)(h1:PD X e1 w1)(h2:PD X e2 w2)(s:starEach [e,e1,e2] X.env=(false,eval e X.env)::starEach [e1,e2] X.env:=by rfl)(s1:starEach [e1,e2] X.env=(false,eval e1 X.env)::starEach [e2] X.env:=by rfl)(s2:starEach [e2] X.env=(false,eval e2 X.env)::starEach [] X.env:=by rfl):PDA X [e,e1,e2] (dCons w (dCons w1 (dCons w2 dNil))):=da_cons h (a2 h1 h2 s1 s2) s
theorem dIX (ha:PD X a wa)(hb:PD X b wb)(hs:PlainIx b:=by exact fun _ _=>rfl):PD X (.Subscript a b pos) (dOp dIx wa wb):=d_ix ixC so_ix ha hb hs
theorem dPl (ha:PD X a wa)(hb:PD X b wb):PD X (.BinOp a .Add b pos) (dOp (dAdd false) wa wb):=d_op addC so_add ha hb
theorem dMi (ha:PD X a wa)(hb:PD X b wb):PD X (.BinOp a .Sub b pos) (dOp (dI2' fun i j=>.int (i - j)) wa wb):=d_op subC so_i2' ha hb
theorem qLt (ha:PD X a wa)(hb:PD X b wb):PT X (.Compare a [.Lt] [b] pos) (tDT (dTst (dOp (dI2' fun i j=>.bl (decide (i<j))) wa wb))):=d_testC ltC so_b2' ha hb (nomark _)
theorem qGt (ha:PD X a wa)(hb:PD X b wb):PT X (.Compare a [.Gt] [b] pos) (tDT (dTst (dOp (dI2' fun i j=>.bl (decide (j<i))) wa wb))):=d_testC gtC so_b2' ha hb (nomark _)
theorem qGe (ha:PD X a wa)(hb:PD X b wb):PT X (.Compare a [.GtE] [b] pos) (tDT (dTst (dOp (dI2' fun i j=>.bl (decide (j<=i))) wa wb))):=d_testC geC so_b2' ha hb (nomark _)
theorem qEq (ha:PD X a wa)(hb:PD X b wb):PT X (.Compare a [.Eq] [b] pos) (tDT (dTst (dOp (dEqS false) wa wb))):=d_testC eqC so_eqS ha hb (nomark _)
theorem qNe (ha:PD X a wa)(hb:PD X b wb):PT X (.Compare a [.NotEq] [b] pos) (tDT (dTst (dOp (dEqS true) wa wb))):=d_testC neC so_eqS ha hb (nomark _)
theorem dLn (T:Bi2 X.mg)(h:PD X e w)(hg:Gl X "len":=by rfl)(he:starEach [e] X.env=(false,eval e X.env)::starEach [] X.env:=by rfl)(hpl:(backTo pos (starEach [] X.env)).any (·.1)=false:=by rfl):PD X (.Call (.Name "len" p) [e] [] pos) (dCall fLen (dCons w dNil)):=d_blt lenC so_len hg T.len PySem.boot_len (a1 h he) (by decide) (by decide) he hpl
section
variable {es:List Expr}{x:Str}{k k0:Nat}{ps:List Str}{f:DSp}{fx:DSpX}{u:DA}
theorem qC (C:Cal X.prog X.w X.K X.mg X.base x k ps (spD f))(hr:Room k0 X.A)(ha:PDA X (e::es) u)(hk:k<=k0:=by first | decide | exact Nat.le_refl _ | omega)(hg:Gl X x:=by rfl)(hdb:(x==("__debug__" : Str))=false:=by decide)(he:starEach (e::es) X.env=(false,eval e X.env)::starEach es X.env:=by rfl)(hpl:(backTo pos (starEach es X.env)).any (·.1)=false:=by rfl) :
 PD X (.Call (.Name x p) (e::es) [] pos) (dCall f u):=d_call C (hr.mono hk) hg ha hdb he hpl
end
theorem qS (i:Nat){x:Str}{pos':Pos}(hN:X.N.Nodup)(he:PD X e w)(hi:X.N[i]?=some x:=by rfl)(hx:Loc X.env.scope x:=by first | exact Or.inl rfl | exact Or.inr rfl)(hf:X.fn x=true\/X.env.scope.names.lookup x=some .local:=by first | exact .inl rfl | exact .inr rfl | assumption)
 (hsw:swapsWith e (some (.Name x pos')) pos.line X.env=pure false:=by rfl):PDS X (.Assign [.Name x pos'] e pos) (dSet i w):=s_set hN hi hx he hf hsw
theorem qN (i:Nat){x:Str}(hN:X.N.Nodup)(hi:X.N[i]?=some x:=by rfl)(hx:Loc X.env.scope x:=by first | exact Or.inl rfl | exact Or.inr rfl)(hf:X.fn x=true\/X.env.scope.names.lookup x=some .local:=by first | exact .inl rfl | exact .inr rfl | assumption):PG X (.Name x pos) (gName i):=pg_name hN hi hx hf
theorem qT (i:Nat){x:Str}(hN:X.N.Nodup)(hi:X.N[i]?=some x:=by rfl)(hx:Loc X.env.scope x:=by first | exact Or.inl rfl | exact Or.inr rfl)(hf:X.fn x=true\/X.env.scope.names.lookup x=some .local:=by first | exact .inl rfl | exact .inr rfl | assumption):Tg X (.Name x pos) (gName i) (dgName i) [i]:=⟨pg_name hN hi hx hf,so_name i,mo_name i⟩
theorem cOk {N0 ps N:List Str}{js:List (Option Nat)}{sc sc0:Scope}(S:FnScope N0 ps sc0)(h:compChk N0 sc0 N js sc=true)(hN:X.N=N0:=by rfl)(hs:X.env.scope=sc0:=by rfl):CompOk X N js sc:=compOk h hN hs
section
variable {tg iter elt:Expr}{ifs:List Expr}{sc:Scope}{N:List Str}{js:List (Option Nat)}{g:TG}{y:DG}{S:List Nat}{t:Dt}{wi:DI}
theorem sCp (i:Nat)(m:Bool){pos' spos:Pos}{x:Str}(hN:X.N.Nodup)(hc:CompOk X N js sc)(so:SoG g y S)(mo:MonoG g)(hi:PDI X tg iter wi)(hg:∀ fp s H,N.Nodup->PG (cxC X N sc fp s H) tg g)
 (ht:∀ fp s H,PDTs (cxC X N sc fp s H) ifs t) (he:∀ fp s H,PD (cxC X N sc fp s H) elt w) (ho:ownJs S js=true:=by rfl) (calm:X.calm=true:=by rfl) (hx':X.N[i]?=some x:=by rfl) (hx:Loc X.env.scope x:=by first | exact Or.inl rfl | exact Or.inr rfl) (hsw:swapsWith (.ListComp elt [⟨tg,iter,ifs,0⟩] sc pos) (some (.Name x pos')) spos.line X.env=pure true:=by rfl)
 (hs:∀ x,foldedSetIterable iter X.env x=pure x:=by intro _;rfl) (hf:X.fn x=true\/X.env.scope.names.lookup x=some .local:=by first | exact .inl rfl | exact .inr rfl | assumption) :
 PDS X (.Assign [.Name x pos'] (.ListComp elt [⟨tg,iter,ifs,0⟩] sc pos) spos) (dSet i (dComp m wi js y t w)):=s_setComp m hc calm so mo ho hN hx' hx hi (fun fp s H=>hg fp s H hc.nd) ht he hsw hs hf
theorem dCp (m:Bool)(hc:CompOk X N js sc)(so:SoG g y S)(mo:MonoG g)(hi:PDI X tg iter wi)(hg:∀ fp s H,N.Nodup->PG (cxC X N sc fp s H) tg g)(ht:∀ fp s H,PDTs (cxC X N sc fp s H) ifs t)(he:∀ fp s H,PD (cxC X N sc fp s H) elt w)(ho:ownJs S js=true:=by rfl)(calm:X.calm=true:=by rfl)
 (hs:∀ x,foldedSetIterable iter X.env x=pure x:=by intro _;rfl):PD X (.ListComp elt [⟨tg,iter,ifs,0⟩] sc pos) (dComp m wi js y t w):=d_comp m hc calm so mo ho hi (fun fp s H=>hg fp s H hc.nd) ht he hs
theorem sC1 (i:Nat)(m:Bool){pos' spos:Pos}{x:Str}(hN:X.N.Nodup)(hc:CompOk X N js sc)(hi:PDI X tg iter wi)(hg:∀ fp s H,N.Nodup->PG (cxC X N sc fp s H) tg (gName 0))
 (ht:∀ fp s H,PDTs (cxC X N sc fp s H) ifs t) (he:∀ fp s H,PD (cxC X N sc fp s H) elt w) (ho:ownJs [0] js=true:=by rfl) (calm:X.calm=true:=by rfl) (hx':X.N[i]?=some x:=by rfl) (hx:Loc X.env.scope x:=by first | exact Or.inl rfl | exact Or.inr rfl) (hsw:swapsWith (.ListComp elt [⟨tg,iter,ifs,0⟩] sc pos) (some (.Name x pos')) spos.line X.env=pure true:=by rfl)
 (hs:∀ x,foldedSetIterable iter X.env x=pure x:=by intro _;rfl) (hf:X.fn x=true\/X.env.scope.names.lookup x=some .local:=by first | exact .inl rfl | exact .inr rfl | assumption) :
 PDS X (.Assign [.Name x pos'] (.ListComp elt [⟨tg,iter,ifs,0⟩] sc pos) spos) (dSet i (dComp m wi js (dgName 0) t w)):=sCp i m hN hc (so_name 0) (mo_name 0) hi hg ht he ho calm hx' hx hsw hs hf
theorem dC1 (m:Bool)(hc:CompOk X N js sc)(hi:PDI X tg iter wi)(hg:∀ fp s H,N.Nodup->PG (cxC X N sc fp s H) tg (gName 0))(ht:∀ fp s H,PDTs (cxC X N sc fp s H) ifs t)(he:∀ fp s H,PD (cxC X N sc fp s H) elt w)(ho:ownJs [0] js=true:=by rfl)(calm:X.calm=true:=by rfl)
 (hs:∀ x,foldedSetIterable iter X.env x=pure x:=by intro _;rfl):PD X (.ListComp elt [⟨tg,iter,ifs,0⟩] sc pos) (dComp m wi js (dgName 0) t w):=dCp m hc (so_name 0) (mo_name 0) hi hg ht he ho calm hs
end
end
end L2
namespace L2
open PySem PySem.Spec PyProof.Rows PyProof PySem.W
theorem mkSc {N P:List Str}{sc:Scope}(h1:sc.kind=.function:=by rfl)(h2:sc.isCoroutine=false:=by rfl)(h3:sc.isGenerator=false:=by rfl)(h4:N.Nodup:=by decide +kernel)(h5:N.take P.length=P:=by rfl)
 (h6:∀ x∈P,sc.names.lookup x=some .local\/sc.names.lookup x=some .cell:=by decide +kernel) (h7:∀ y∈sc.names,y.2≠.free:=by decide +kernel):FnScope N P sc:=⟨h1,h2,h3,h4,h5,h6,h7⟩
def kf (f c:Addr)(x q:Str)(s:Stmt)(pm:Value)(t l a r1 r2:Nat)(v1 v2:Value)(r3 t2:Nat):List (Addr×Obj):=[ko f (fnQ x q s pm c),ko c (coQ x q t l a r1 r2 v1 v2 r3 t2)]
def kx (P:Params)(a n h:Addr)(x:Str)(sl:Option Value)(t u:Nat)(m:Value)(i l:Nat)(st:Addr)(sub:List Value:=[])(bs:List Value:=[.ref h])(mro:List Value:=[.ref a,.ref h,.type "ValueError",.type "Exception",.type "BaseException",.type "object"]):List (Addr×Obj) :=
 [ko a ⟨.type "type",none,.cls ⟨x,bs,mro,n,x,true,[],sub,false,none,false⟩,#[sl,none,some (.str x t),some (.str x u),some (.builtin "ValueError.__new__"),some (.bool true)]⟩,
  ko n ⟨.type "dict",none,.dict #[enP P "__module__" i m,enP P "__firstlineno__" (i+4) (.int l (i+3)),enP P "__static_attributes__" (i+5) (.ref st),enP P "__doc__" (i+6) .none] 2,#[]⟩]
theorem fQ {K:Frag}(x q:Str)(s:Stmt)(f:Addr)(pm:Value)(c:Addr)(l:K.lookup f=some (fnQ x q s pm c):=by kernel_rfl)(c':codeIn K (.ref c) q=true:=by kernel_rfl)(k:keepIn K (.ref f)=true:=by kernel_rfl):Fun K x q s f (fnOf x q (defArgs s) (defBody s) (defScope s) .none .none .none pm none (.ref c) .none):=fun_of l c' k
section
variable {K:Frag}{x q:Str}{s:Stmt}{f:Addr}{fd:FuncData}{ps:List Str}(F:Fun K x q s f fd)
include F
theorem bd1 (hl:ps.length=1:=by rfl)(h:∀(kV doc pm:Value) (an:Option Addr) (cdv ct a:Value),bindArgs (fnOf x q (defArgs s) (defBody s) (defScope s) .none kV doc pm an cdv ct) ⟨[a],[]⟩=pure (ps.zip [a]):=by intros;rfl):Binds K fd ps []:=F.binds fun k d p n c t=>by rw[hl];exact bn1 fun a=>h k d p n c t a
theorem bd2 (hl:ps.length=2:=by rfl)(h:∀(kV doc pm:Value) (an:Option Addr) (cdv ct a b:Value),bindArgs (fnOf x q (defArgs s) (defBody s) (defScope s) .none kV doc pm an cdv ct) ⟨[a,b],[]⟩=pure (ps.zip [a,b]):=by intros;rfl):Binds K fd ps []:=F.binds fun k d p n c t=>by rw[hl];exact bnS fun a=>bn1 fun b=>h k d p n c t a b
theorem bd3 (hl:ps.length=3:=by rfl)(h:∀(kV doc pm:Value) (an:Option Addr) (cdv ct a b e:Value),bindArgs (fnOf x q (defArgs s) (defBody s) (defScope s) .none kV doc pm an cdv ct) ⟨[a,b,e],[]⟩=pure (ps.zip [a,b,e]):=by intros;rfl):Binds K fd ps []:=F.binds fun k d p n c t=>by rw[hl];exact bnS fun a=>bnS fun b=>bn1 fun e=>h k d p n c t a b e
theorem bd5 (hl:ps.length=5:=by rfl)(h:∀(kV doc pm:Value) (an:Option Addr) (cdv ct a b e g i:Value),bindArgs (fnOf x q (defArgs s) (defBody s) (defScope s) .none kV doc pm an cdv ct) ⟨[a,b,e,g,i],[]⟩=pure (ps.zip [a,b,e,g,i]):=by intros;rfl):Binds K fd ps []:=F.binds fun k d p n c t=>by rw[hl];exact bnS fun a=>bnS fun b=>bnS fun e=>bnS fun g=>bn1 fun i=>h k d p n c t a b e g i
end
end L2
namespace L2
open PySem PySem.Spec PyProof.Rows PyProof
section
variable {X:Cx}
def rStrC:List V->Hp->VK->Prop:=fun vs H Q=>match vs with
 | [.str z]=>Q (.str z) H
 | [.int i]=>i.natAbs<100000000/\Q (.str (toString i)) H
 | _=>False
theorem strC:CallR X (.type "str") rStrC:=by
 intro pins s σ H xs us Q I r h
 unfold rStrC at h
 split at h
 ·obtain⟨u,rfl,t,rfl⟩:=vals1 r
  exact PySem.P.str_of_str ⟨.str _,H,I,⟨_,rfl⟩,h⟩
 ·rename_i i
  obtain⟨u,rfl,t,rfl⟩:=vals1 r
  have hz:i.natAbs.log2<1920:=by
   refine Nat.lt_of_le_of_lt (m:=(100000000:Nat).log2) ?_ (by decide +kernel)
   by_cases e:i.natAbs=0
   ·rw[e];decide +kernel
   ·rw[Nat.le_log2 (by decide)]
    exact Nat.le_trans (Nat.log2_self_le e) (Nat.le_of_lt h.1)
  exact PySem.P.str_of_int hz ⟨.str _,H,I.tok _,⟨_,rfl⟩,h.2⟩
 ·exact h.elim
def rJoinS:V->List V->Hp->VK->Prop:=fun x vs H Q=>match x,vs with
 | .str z,[.ref l]=>∃ ys:List Str,H l=some (.lst (ys.map V.str))/\(ys.map (·.length)).sum+ys.length*z.length<=16777216/\Q (.str (Txt.join z ys)) H
 | _,_=>False
theorem joinS:MtR X "str.join" rJoinS:=by
 intro pins s σ H x vs v us Q I rx rv h
 unfold rJoinS at h
 split at h
 ·obtain⟨ys,hl,hs,q⟩:=h
  obtain⟨t,rfl⟩:=rx
  obtain⟨u,rfl,ru⟩:=rv.one
  cases ru
  obtain⟨its,r,p,_⟩:=I.list (SqL.of hl)
  exact join_list p.isList (ys:=ys) (by simpa using vals_strs r) hs fun t' k=>⟨.str _,H,I.tok _,⟨_,rfl⟩,q⟩
 ·exact h.elim
end
def fStr:DSp:=fun ds μ K=>match ds with
 | [.str z]=>K (.str z) μ
 | [.int i]=>i.natAbs<100000000/\K (.str (toString i)) μ
 | _=>False
theorem so_str:SoCall rStrC fStr:=fun φ H vs ds μ K Q M h k L=>by
 unfold fStr at k
 split at k
 ·obtain⟨v,r,rfl,h1,h2⟩:=h;cases(show r=[]from h2);cases(show v=_ from h1)
  exact L.val M k rfl
 ·obtain⟨v,r,rfl,h1,h2⟩:=h;cases(show r=[]from h2);cases(show v=_ from h1)
  exact⟨k.1,L.val M k.2 rfl⟩
 ·exact k.elim
def fJoinS:DMt:=fun d ds μ K=>match d,ds with
 | .str z,[x]=>∃ ys:List Str,lv μ x=some (ys.map D.str)/\(ys.map (·.length)).sum+ys.length*z.length<=16777216/\K (.str (Txt.join z ys)) μ
 | _,_=>False
theorem so_joinS {Kf:PySem.W.Frag}:SoMt Kf "str" rJoinS fJoinS:=fun φ H x vs d ds μ K Q M hx h k L=>by
 unfold fJoinS at k
 split at k
 ·cases(show x=_ from hx)
  obtain⟨v,r,rfl,h1,h2⟩:=h;cases(show r=[]from h2)
  obtain⟨ys,el,hs,k⟩:=k
  obtain⟨p,vs,rfl,hp,ha⟩:=lv_is M h1 el
  exact⟨ys,by rw[hp,ha.strs],hs,L.val M k rfl⟩
 ·exact k.elim
def intT (i:Int):Str:=toString i
def ddT:Dd->List Str
 | .put nm b a=>["put",nm,b,intT a]
 | .join nm l r p=>["join",nm,l,r,intT p]
 | .found nm bar sg=>["found",nm,intT bar,sg]
 | .aged nm a=>["aged",nm,intT a]
 | .drop nm=>["drop",nm]
 | .free p=>["free",intT p]
 | .shut p=>["shut",intT p]
def spc:Str := " "
def nln:Str := "\n"
def ddR (d:Dd):Str:=Txt.join spc (ddT d)
def songR (n:Int):Str:=Txt.join spc ["song",intT n]
def sheetT (n:Int)(ds:List Dd):Str:=Txt.join nln (songR n::ds.map ddR)
def ddS:Dd->Prop
 | .put nm b a=>nm.length<=100/\b.length<=100/\a.natAbs<=1000
 | .join nm l r p=>nm.length<=100/\l.length<=100/\r.length<=100/\p.natAbs<=1000
 | .found nm bar sg=>nm.length<=100/\bar.natAbs<=1000/\sg.length<=100
 | .aged nm a=>nm.length<=100/\a.natAbs<=1000
 | .drop nm=>nm.length<=100
 | .free p=>p.natAbs<=1000
 | .shut p=>p.natAbs<=1000
theorem intT_len {i:Int}(h:i.natAbs<=1000):(intT i).length<=100:=by
 have e:=int_text_length_le10 (a:=i) (k:=4) (by decide) (by omega)
 unfold intT
 rw[show(toString i:Str).length=(toString i:String).length from PySem.ofString_length _]
 omega
def thD:Dd->List D
 | .put nm b a=>[.str "put",.str nm,.str b,.int a]
 | .join nm l r p=>[.str "join",.str nm,.str l,.str r,.int p]
 | .found nm bar sg=>[.str "found",.str nm,.int bar,.str sg]
 | .aged nm a=>[.str "aged",.str nm,.int a]
 | .drop nm=>[.str "drop",.str nm]
 | .free p=>[.str "free",.int p]
 | .shut p=>[.str "shut",.int p]
theorem dd_th (d:Dd):ddD d=.tup (thD d):=by cases d <;> rfl
def tT:D->Str
 | .str z=>z
 | .int i=>intT i
 | _ => ""
def tOk:D->Prop
 | .str z=>z.length<=100
 | .int i=>i.natAbs<=1000
 | _=>False
theorem th_T (d:Dd):(thD d).map tT=ddT d:=by cases d <;> rfl
theorem th_ok {d:Dd}(h:ddS d):∀ x∈thD d,tOk x:=by
 have k:∀ z:Str,z∈(["put", "join", "found", "aged", "drop", "free", "shut"]:List Str)->z.length<=100:=by decide +kernel
 intro x hx
 cases d <;> simp only[thD,List.mem_cons,List.not_mem_nil,or_false]at hx
 ·obtain⟨a,b,c⟩:=h;rcases hx with rfl | rfl | rfl | rfl;exact k _ (by simp);exact a;exact b;exact c
 ·obtain⟨a,b,c,e⟩:=h;rcases hx with rfl | rfl | rfl | rfl | rfl;exact k _ (by simp);exact a;exact b;exact c;exact e
 ·obtain⟨a,b,c⟩:=h;rcases hx with rfl | rfl | rfl | rfl;exact k _ (by simp);exact a;exact b;exact c
 ·obtain⟨a,b⟩:=h;rcases hx with rfl | rfl | rfl;exact k _ (by simp);exact a;exact b
 ·rcases hx with rfl | rfl;exact k _ (by simp);exact h
 ·rcases hx with rfl | rfl;exact k _ (by simp);exact h
 ·rcases hx with rfl | rfl;exact k _ (by simp);exact h
theorem tT_len {x:D}(h:tOk x):(tT x).length<=100:=by
 cases x with
 | str z=>exact h
 | int i=>exact intT_len h
 | _=>exact h.elim
theorem th_len (d:Dd):(thD d).length<=5:=by cases d <;> (simp only[thD,List.length_cons,List.length_nil];omega)
theorem join_le {z:Str}{ys:List Str}{B n:Nat}(hz:z.length=1)(hB:∀ y∈ys,y.length<=B)(hn:ys.length<=n):(ys.map (·.length)).sum+ys.length*z.length<=n*(B+1)/\(Txt.join z ys).length<=n*(B+1):=by
 have e1:=StrLaws.sumLen_le ys hB
 have e2:(Txt.join z ys).length<=(ys.map (·.length)).sum+ys.length*z.length:=by
  unfold Txt.join
  rw[StrLaws.glued_eq_join]
  exact StrLaws.join_length_le z ys
 have e3:ys.length*B+ys.length<=n*(B+1):=by
  rw[<- Nat.mul_succ]
  exact Nat.mul_le_mul hn (Nat.le_refl _)
 rw[hz,Nat.mul_one]at e2 ⊢
 omega
theorem row_fits {xs:List D}(h:∀ x∈xs,tOk x)(hn:xs.length<=5):((xs.map tT).map (·.length)).sum+(xs.map tT).length*spc.length<=505/\(Txt.join spc (xs.map tT)).length<=505 :=
 join_le (B:=100) (n:=5) (by decide +kernel) (fun y hy=>by obtain⟨x,hx,rfl⟩:=List.mem_map.mp hy;exact tT_len (h x hx)) (by rw[gxC];exact hn)
theorem ddR_len {d:Dd}(h:ddS d):(ddR d).length<=505:=by
 have:=(row_fits (th_ok h) (th_len d)).2
 rw[th_T]at this
 exact this
theorem songR_len {n:Int}(h:n.natAbs<=1000):(songR n).length<=505:=by
 have e:("song" : Str).length<=100:=by decide +kernel
 exact(row_fits (xs:=[.str "song",.int n]) (fun x hx=>by simp only[List.mem_cons,List.not_mem_nil,or_false]at hx;rcases hx with rfl | rfl;exact e;exact h) (by simp only[List.length_cons,List.length_nil];omega)).2
theorem sheet_fits {n:Int}{ds:List Dd}(h:n.natAbs<=1000)(hd:∀ d∈ds,ddS d)(hl:ds.length<=900):(((songR n::ds.map ddR)).map (·.length)).sum+(songR n::ds.map ddR).length*nln.length<=16777216:=by
 refine Nat.le_trans (join_le (z:=nln) (B:=505) (n:=901) (by decide +kernel) (fun y hy=>?_) ?_).1 (by decide)
 ·rcases List.mem_cons.mp hy with rfl | hy
  ·exact songR_len h
  ·obtain⟨d,q,rfl⟩:=List.mem_map.mp hy
   exact ddR_len (hd d q)
 ·rw[List.length_cons,gxC];omega
theorem compW_things {it:D->MS->(Option D->MS->Prop)->Prop}{c:MS->Prop}{μ:MS}{xs:List D}(hc:c μ){K:List D->MS->Prop}(h:∀ x,tOk x->∀(K':Option D->MS->Prop),K' (some (.str (tT x))) μ->it x μ K')(hx:∀ x∈xs,tOk x)(k:K ((xs.map tT).map D.str) μ):compW it c xs μ K:=by
 have:=compW_gen (it:=it) (c:=c) (μ:=μ) (K:=K) (xs:=xs) hc (fun x:D=>x) (fun x=>some (.str (tT x))) (fun x q K' k'=>h x (hx x q) K' k') (by
  rw[show(fun x:D=>some (D.str (tT x)))=some ∘ (fun x=>D.str (tT x))from rfl,List.filterMap_eq_map]
  rw[List.map_map]at k
  exact k)
 rwa [List.map_id']at this
def fSheet (cR cS:Addr):DSp:=fun ds μ K=>match ds with
 | [.mr k]=>∃ j1 j2 ss rs d S,RoomAt cR cS μ k j1 j2 ss rs d/\ss[d]?=some S/\(∀ e∈rs.take d,ddS e)/\K (.str (sheetT S.n (rs.take d))) μ
 | _=>False
def fSheetL:DSp:=fun ds μ K=>match ds with
 | [.int n,.lst xs]=>∃ rs:List Dd,xs=rs.map ddD/\(∀ e∈rs,ddS e)/\rs.length<=900/\n.natAbs<=1000/\K (.str (sheetT n rs)) μ
 | _=>False
theorem named_len {z:Str}(h:namedB z=true):z.length<=100:=by
 unfold namedB at h
 rw[Bool.and_eq_true,Bool.and_eq_true,decide_eq_true_eq,decide_eq_true_eq]at h
 omega
theorem has_len {S:RS}{m:Nat}{nm:Str}(h:RWf S m)(q:¬ hasN S nm=false):nm.length<=100:=by
 obtain⟨x,e⟩:=hasN_yes q
 exact named_len (h.nms _ (aget_mem e))
theorem new_len {S:RS}{nm:Str}(h:newW S nm=none):nm.length<=100:=named_len (newW_none h).1
theorem small_of {S:RS}{m:Nat}{d:Dd}(h:RWf S m)(hr:refW S d=none):ddS d:=by
 have n2:=h.n2
 cases d with
 | put nm b a =>
  obtain⟨h1,h2⟩:=or_none hr
  split at h2
  ·rename_i q
   obtain⟨a0,a1⟩:=ageW_none h2
   exact⟨new_len h1,by omega,by omega⟩
  ·cases h2
 | join nm l r p =>
  obtain⟨h1,h2⟩:=or_none hr
  split at h2
  ·cases h2
  ·rename_i q1
   split at h2
   ·cases h2
   ·rename_i q2
    obtain⟨h3,_⟩:=or_none h2
    obtain⟨p1,p2⟩:=placeW_none h3
    exact⟨new_len h1,has_len h q1,has_len h q2,by omega⟩
 | found nm bar sg =>
  have hr:(if hasN S nm=false then some 11 else if 0<=bar/\bar<S.n then(if sg = "o"\/sg = "x" then none else some 0)else some 6)=(none:Option Nat):=hr
  split at hr
  ·cases hr
  ·rename_i q1
   split at hr
   ·rename_i q2
    split at hr
    ·rename_i q3
     refine⟨has_len h q1,by omega,?_⟩
     rcases q3 with rfl | rfl <;> decide +kernel
    ·cases hr
   ·cases hr
 | aged nm a =>
  have hr:(match aget S.kept nm with | none=>some 11 | some (.jn _ _ _)=>some 13 | some (.fst _ _)=>ageW a)=(none:Option Nat):=hr
  cases e:aget S.kept nm with
  | none=>rw[e]at hr;cases hr
  | some x =>
   rw[e]at hr
   cases x with
   | jn l r p=>cases hr
   | fst b a0 =>
    obtain⟨a1,a2⟩:=ageW_none hr
    exact⟨named_len (h.nms _ (aget_mem e)),by omega⟩
 | drop nm =>
  have hr:(if hasN S nm=false then some 11 else if needN S nm=true then some 14 else none)=(none:Option Nat):=hr
  split at hr
  ·cases hr
  ·rename_i q;exact has_len h q
 | free p=>obtain⟨a,b⟩:=placeW_none (S:=S) hr;show p.natAbs<=1000;omega
 | shut p=>obtain⟨a,b⟩:=placeW_none (S:=S) hr;show p.natAbs<=1000;omega
end L2
namespace L2
open PySem PySem.Spec PyProof.Rows PyProof
theorem dIf_any {c:Dt}{t u:Ds}{N:DN}{ρ:DE}{μ:MS}(B:Bool->Prop)(h:∀ K:Bool->MS->Prop,(∀ b,B b->K b μ)->c ρ μ K)(ht:B true->t N ρ μ)(hu:B false->u N ρ μ):dIfS c t u N ρ μ:=h _ fun b hb=>by
 cases b with
 | true=>rw[if_pos rfl];exact ht hb
 | false=>rw[if_neg (by decide)];exact hu hb
structure Past (S0:RS)(ps:List (RS×Dd))(ss:List RS)(rs:List Dd)(d:Nat):Prop where
 hs:ss.take (d+1)=S0::ps.map (·.1)
 hr:rs.take d=ps.map (·.2)
def curS (S0:RS)(ps:List (RS×Dd)):RS:=ps.foldl (fun _ p=>p.1) S0
def pD (p:RS×Dd):D:=.tup [slD p.1,ddD p.2]
def pastD (S0:RS)(ps:List (RS×Dd)):List D:=.tup [slD S0,.tup []]::ps.map pD
theorem curS_end {S0:RS}{ps:List (RS×Dd)}{x:RS×Dd}:curS S0 (ps++[x])=x.1:=by unfold curS;rw[List.foldl_append];rfl
theorem ends_or {α:Type}(l:List α):l=[]\/∃ a x,l=a++[x]:=by
 rcases List.eq_nil_or_concat l with h | ⟨a,x,h⟩
 ·exact .inl h
 ·exact .inr ⟨a,x,by rw[h,List.concat_eq_append]⟩
theorem pastD_end {S0:RS}{ps:List (RS×Dd)}{x:RS×Dd}:pastD S0 (ps++[x])=pastD S0 ps++[pD x]:=by unfold pastD;rw[List.map_append];rfl
theorem pastD_len (S0:RS)(ps:List (RS×Dd)):(pastD S0 ps).length=ps.length+1:=by unfold pastD;rw[List.length_cons,gxC]
theorem past_last (S0:RS)(ps:List (RS×Dd)):∃ x,atI (pastD S0 ps) (-1)=some (.tup [slD (curS S0 ps),x]):=by
 rcases ends_or ps with rfl | ⟨a,x,rfl⟩
 ·exact⟨_,atI_lastOf [] _⟩
 ·rw[pastD_end,curS_end];exact⟨_,atI_lastOf _ _⟩
theorem doD_n (S:RS)(e:Dd):(doD S e).n=S.n:=by
 cases e <;> first | rfl | (unfold doD;dsimp only;split <;> rfl)
section
variable {cR cS:Addr}{μ:MS}{k j1 j2:Nat}{ss:List RS}{rs:List Dd}{d:Nat}{S0 S:RS}{ps:List (RS×Dd)}
theorem Past.len (h:Past S0 ps ss rs d)(hle:d<=rs.length):ps.length=d:=by
 have:=congrArg List.length h.hr
 rw[List.length_take,gxC]at this
 omega
theorem Past.now (h:Past S0 ps ss rs d)(hle:d<=rs.length):ss[d]?=some (curS S0 ps):=by
 have e1:ss[d]?=(ss.take (d+1))[d]?:=by rw[List.getElem?_take_of_lt (by omega)]
 have hl:=h.len hle
 rw[e1,h.hs]
 rcases ends_or ps with rfl | ⟨a,x,rfl⟩
 ·subst hl;rfl
 ·rw[curS_end,List.map_append,<- List.cons_append,gxG (by rw[List.length_cons,gxC,<- hl,gxE];exact Nat.le_refl _)]
  rw[List.length_cons,gxC,<- hl,gxE,List.length_singleton,Nat.sub_self];rfl
theorem Past.start:Past S0 [] [S0] [] 0:=⟨rfl,rfl⟩
theorem Past.undo {x:RS×Dd}(h:Past S0 (ps++[x]) ss rs (d+1))(hle:d+1<=rs.length):Past S0 ps ss rs d:=by
 have hl:=h.len hle
 rw[gxE,List.length_singleton]at hl
 refine⟨?_,?_⟩
 ·have:=congrArg (List.take (d+1)) h.hs
  rw[List.take_take,Nat.min_eq_left (by omega),List.map_append,<- List.cons_append,List.take_left' (by rw[List.length_cons,gxC];omega)]at this
  exact this
 ·have:=congrArg (List.take d) h.hr
  rw[List.take_take,Nat.min_eq_left (by omega),List.map_append,List.take_left' (by rw[gxC];omega)]at this
  exact this
theorem Past.do {e:Dd}(h:Past S0 ps ss rs d)(hle:d<=rs.length)(hl:ss.length=rs.length+1):Past S0 (ps++[(doD S e,e)]) (ss.take (d+1)++[doD S e]) (rs.take d++[e]) (d+1):=by
 refine⟨?_,?_⟩
 ·rw[List.take_of_length_le (by rw[gxE,List.length_take];show _+1<=_;omega),h.hs,List.map_append];rfl
 ·rw[List.take_of_length_le (by rw[gxE,List.length_take];show _+1<=_;omega),h.hr,List.map_append];rfl
theorem RoomAt.growD {e:Dd}(ra:RoomAt cR cS μ k j1 j2 ss rs d)(es:ss[d]?=some S)(hr:refW S e=none)(few:rs.length<900):RoomAt cR cS (putR cR cS μ k j1 j2 (ss.take (d+1)++[doD S e]) (rs.take d++[e]) (d+1)) k j1 j2 (ss.take (d+1)++[doD S e]) (rs.take d++[e]) (d+1)/\(ss.take (d+1)++[doD S e])[d+1]?=some (doD S e):=by
 have hl:=ra.len
 have hle:=ra.le
 have tl:(ss.take (d+1)).length=d+1:=by rw[List.length_take];omega
 refine⟨ra.put ?_ ?_ (fun i T eT=>?_) ?_,?_⟩
 ·rw[gxE,gxE,tl,List.length_take];show d+1+1=_+1+1;omega
 ·rw[gxE,List.length_take];show d+1<=_+1;omega
 ·by_cases hi:i<d+1
  ·rw[gxF (by omega),List.getElem?_take_of_lt hi]at eT
   exact ra.wf i T eT
  ·rw[gxG (by omega),tl]at eT
   have:i=d+1:=by
    have:=(gxB eT).1
    rw[List.length_singleton]at this;omega
   subst this
   rw[Nat.sub_self]at eT
   cases eT
   exact(ra.wf d S es).do hr
 ·rw[gxE,List.length_take];show _+1<=_;omega
 ·rw[gxG (by omega),tl,Nat.sub_self];rfl
theorem past_cut (S0:RS)(ps:List (RS×Dd)):cutD (pastD S0 ps) (some 1) none=ps.map pD:=by
 have:=cutD_from (fun x:D=>x) (pastD S0 ps) 1
 rw[List.map_id']at this
 rw[show(1:Int)=((1:Nat):Int)from rfl,this,List.map_id']
 rfl
theorem past_deeds {it:D->MS->(Option D->MS->Prop)->Prop}{c:MS->Prop}{μ:MS}(hc:c μ){K:List D->MS->Prop}(h:Past S0 ps ss rs d)(hi:∀ p:RS×Dd,∀(K':Option D->MS->Prop),K' (some (ddD p.2)) μ->it (pD p) μ K')(k:K ((rs.take d).map ddD) μ):compW it c (ps.map pD) μ K:=by
 refine compW_gen hc pD (fun p=>some (ddD p.2)) (fun p _ K' k'=>hi p K' k') ?_
 rw[show(fun p:RS×Dd=>some (ddD p.2))=some ∘ (fun p=>ddD p.2)from rfl,List.filterMap_eq_map]
 rw[h.hr,List.map_map]at k
 exact k
end
end L2
namespace Pf
open PySem L2 PyProof.Rows
def top (i:Nat):Stmt:=PySem.Challenge.pw_hissroom_k45_sheets_written.main.body.getD i (.Pass ⟨0,0,0,0⟩)
def met (i j:Nat):Stmt:=(clsBody (top i)).getD j (.Pass ⟨0,0,0,0⟩)
abbrev s_box:Stmt:=top 44
abbrev s_take:Stmt:=top 45
abbrev s_bars:Stmt:=top 48
abbrev s_size:Stmt:=top 59
abbrev s_same:Stmt:=top 60
abbrev s_is_bars:Stmt:=top 17
abbrev s_joined:Stmt:=top 18
abbrev s_with_key:Stmt:=top 36
abbrev s_without_key:Stmt:=top 37
abbrev s_Stand___init__:Stmt:=met 23 0
abbrev s_Stand_check_there:Stmt:=met 23 1
abbrev s_Stand_parts:Stmt:=met 23 2
abbrev s_Stand_source:Stmt:=met 23 3
abbrev s_check_new:Stmt:=top 33
abbrev s_check_age:Stmt:=top 34
abbrev s_check_place:Stmt:=top 35
abbrev s_put:Stmt:=top 24
abbrev s_join:Stmt:=top 25
abbrev s_found:Stmt:=top 26
abbrev s_aged:Stmt:=top 27
abbrev s_drop:Stmt:=top 28
abbrev s_free:Stmt:=top 29
abbrev s_shut:Stmt:=top 30
abbrev s_stand_behind:Stmt:=top 32
abbrev s_Room___init__:Stmt:=met 40 0
abbrev s_Room_now:Stmt:=met 40 1
abbrev s_Room_deed:Stmt:=met 40 9
abbrev s_Room_deeds:Stmt:=met 40 12
abbrev s_Room_ahead:Stmt:=met 40 13
abbrev s_Room_size:Stmt:=met 40 14
abbrev s_Room_undo:Stmt:=met 40 10
abbrev s_names:Stmt:=top 46
abbrev s_begun:Stmt:=top 47
abbrev s_origin:Stmt:=top 49
abbrev s_open:Stmt:=top 53
abbrev s_done:Stmt:=top 54
abbrev s_lone:Stmt:=top 55
abbrev s_easy:Stmt:=top 56
abbrev s_sheet:Stmt:=top 42
abbrev s_lawsheet:Stmt:=top 58
abbrev s_law:Stmt:=top 61
structure ZStand (K:PySem.W.Frag)(C:Addr):Prop where
 cl:Cls K C
 n_length:PySem.W.findIn K (.ref C) "length"=some none
 n_made_of:PySem.W.findIn K (.ref C) "made_of"=some none
 n_firsts:PySem.W.findIn K (.ref C) "firsts"=some none
 n_closed:PySem.W.findIn K (.ref C) "closed"=some none
structure ZRoom (K:PySem.W.Frag)(C:Addr):Prop where
 cl:Cls K C
 n_stands:PySem.W.findIn K (.ref C) "stands"=some none
 n_rows:PySem.W.findIn K (.ref C) "rows"=some none
 n_done:PySem.W.findIn K (.ref C) "done"=some none
theorem sc_box:FnScope ["_law_script"] ["_law_script"] (defScope s_box):=mkSc
theorem sc_take:FnScope ["_law_box_here", "_law_many", "_law_rest", "_law_cell", "_law_one", "_law_two"] ["_law_box_here", "_law_many"] (defScope s_take):=mkSc
theorem sc_bars:FnScope ["_law_box_here", "_law_size_here", "_law_kind", "_law_first", "_law_behind"] ["_law_box_here", "_law_size_here"] (defScope s_bars):=mkSc
theorem sc_size:FnScope ["_law_box_here", "_law_small"] ["_law_box_here", "_law_small"] (defScope s_size):=mkSc
theorem sc_same:FnScope ["_law_found", "_law_due"] ["_law_found", "_law_due"] (defScope s_same):=mkSc
theorem sc_is_bars:FnScope ["size", "text"] ["size", "text"] (defScope s_is_bars):=mkSc
theorem sc_joined:FnScope ["one", "other", "place", "bars", "age", "other_bars", "other_age", "cut"] ["one", "other", "place"] (defScope s_joined):=mkSc
theorem sc_with_key:FnScope ["table", "key", "thing", "told"] ["table", "key", "thing"] (defScope s_with_key):=mkSc
theorem sc_without_key:FnScope ["table", "key"] ["table", "key"] (defScope s_without_key):=mkSc
theorem sc_Stand___init__:FnScope ["self", "length", "made_of", "firsts", "closed"] ["self", "length", "made_of", "firsts", "closed"] (defScope s_Stand___init__):=mkSc
theorem sc_Stand_check_there:FnScope ["self", "name"] ["self", "name"] (defScope s_Stand_check_there):=mkSc
theorem sc_Stand_parts:FnScope ["self", "name"] ["self", "name"] (defScope s_Stand_parts):=mkSc
theorem sc_Stand_source:FnScope ["self", "name", "bar", "parts", "copies", "left", "right", "place"] ["self", "name", "bar"] (defScope s_Stand_source):=mkSc
theorem sc_check_new:FnScope ["stand", "name"] ["stand", "name"] (defScope s_check_new):=mkSc
theorem sc_check_age:FnScope ["age"] ["age"] (defScope s_check_age):=mkSc
theorem sc_check_place:FnScope ["stand", "place"] ["stand", "place"] (defScope s_check_place):=mkSc
theorem sc_put:FnScope ["stand", "row", "word", "name", "bars", "age", "made_of"] ["stand", "row"] (defScope s_put):=mkSc
theorem sc_join:FnScope ["stand", "row", "word", "name", "left", "right", "place"] ["stand", "row"] (defScope s_join):=mkSc
theorem sc_found:FnScope ["stand", "row", "word", "name", "bar", "sign", "first", "copies", "bars", "age", "heard"] ["stand", "row"] (defScope s_found):=mkSc
theorem sc_aged:FnScope ["stand", "row", "word", "name", "age", "bars", "before"] ["stand", "row"] (defScope s_aged):=mkSc
theorem sc_drop:FnScope ["stand", "row", "word", "name", "made_of"] ["stand", "row"] (defScope s_drop):=mkSc
theorem sc_free:FnScope ["stand", "row", "word", "place"] ["stand", "row"] (defScope s_free):=mkSc
theorem sc_shut:FnScope ["stand", "row", "word", "place"] ["stand", "row"] (defScope s_shut):=mkSc
theorem sc_stand_behind:FnScope ["stand", "row", "deed"] ["stand", "row"] (defScope s_stand_behind):=mkSc
theorem sc_Room___init__:FnScope ["self", "size"] ["self", "size"] (defScope s_Room___init__):=mkSc
theorem sc_Room_now:FnScope ["self"] ["self"] (defScope s_Room_now):=mkSc
theorem sc_Room_deed:FnScope ["self", "row", "stand"] ["self", "row"] (defScope s_Room_deed):=mkSc
theorem sc_Room_deeds:FnScope ["self"] ["self"] (defScope s_Room_deeds):=mkSc
theorem sc_Room_ahead:FnScope ["self"] ["self"] (defScope s_Room_ahead):=mkSc
theorem sc_Room_size:FnScope ["self"] ["self"] (defScope s_Room_size):=mkSc
theorem sc_Room_undo:FnScope ["self"] ["self"] (defScope s_Room_undo):=mkSc
theorem sc_names:FnScope ["_law_box_here", "_law_many", "_law_letters", "_law_size_here", "_law_place", "_law_alike", "_law_first", "_law_rows", "_law_k", "_law_row"] ["_law_box_here", "_law_many"] (defScope s_names):=mkSc
theorem sc_begun:FnScope ["_law_box_here", "_law_most", "_law_size_here"] ["_law_box_here", "_law_most"] (defScope s_begun):=mkSc
theorem sc_origin:FnScope ["_law_kept", "_law_name", "_law_bar", "_law_copies", "_law_word", "_law_left", "_law_right", "_law_place"] ["_law_kept", "_law_name", "_law_bar"] (defScope s_origin):=mkSc
theorem sc_open:FnScope ["_law_state"] ["_law_state"] (defScope s_open):=mkSc
theorem sc_done:FnScope ["_law_state", "_law_deed", "_law_size_here", "_law_kept", "_law_shut", "_law_name", "_law_word", "_law_text", "_law_old"] ["_law_state", "_law_deed"] (defScope s_done):=mkSc
theorem sc_lone:FnScope ["_law_kept", "_law_used", "_law_part"] ["_law_kept"] (defScope s_lone):=mkSc
theorem sc_easy:FnScope ["_law_box_here", "_law_state", "_law_pool", "_law_names_here", "_law_fresh", "_law_places", "_law_way", "_law_old", "_law_some", "_law_other", "_law_place", "_law_lone_here"] ["_law_box_here", "_law_state", "_law_pool"] (defScope s_easy):=mkSc
theorem sc_sheet:FnScope ["room", "rows"] ["room"] (defScope s_sheet):=mkSc
theorem sc_lawsheet:FnScope ["_law_size_here", "_law_deeds", "_law_rows", "_law_deed"] ["_law_size_here", "_law_deeds"] (defScope s_lawsheet):=mkSc
theorem sc_law:FnScope ["_law_script", "_law_box_here", "_law_room", "_law_state", "_law_pool", "_law_past", "_law_gone", "_law_k", "_law_deed", "_law_deeds"] ["_law_script"] (defScope s_law):=mkSc
def cStand:Addr:=261
def cRoom:Addr:=557
def cJ:Addr:=128
def cE:Addr:=80
def cP:Addr:=56
def cH:Addr:=104
def cI:Addr:=116
def cD:Addr:=68
def cF:Addr:=92
def cA:Addr:=44
def cK:Addr:=140
def cL:Addr:=152
def cM:Addr:=164
def cG:Addr:=188
def cO:Addr:=176
def cHissError:Addr:=31
def a_put:Addr:=272
def a_join:Addr:=279
def a_found:Addr:=286
def a_aged:Addr:=293
def a_drop:Addr:=298
def a_free:Addr:=305
def a_shut:Addr:=312
abbrev c_box (P:Program)(w:World)(K:PySem.W.Frag)(mg:Str->Option Value)(base:Heap):Prop:=Cal P w K mg base "_law_box" 1 ["_law_script"] (spBoxQ K)
abbrev c_take (P:Program)(w:World)(K:PySem.W.Frag)(mg:Str->Option Value)(base:Heap):Prop:=Cal P w K mg base "_law_take" 1 ["_law_box_here", "_law_many"] (spD fTake)
abbrev c_bars (P:Program)(w:World)(K:PySem.W.Frag)(mg:Str->Option Value)(base:Heap):Prop:=Cal P w K mg base "_law_bars" 2 ["_law_box_here", "_law_size_here"] (spD fBars)
abbrev c_size (P:Program)(w:World)(K:PySem.W.Frag)(mg:Str->Option Value)(base:Heap):Prop:=Cal P w K mg base "_law_size" 2 ["_law_box_here", "_law_small"] (spD fSize)
abbrev c_same (P:Program)(w:World)(K:PySem.W.Frag)(mg:Str->Option Value)(base:Heap):Prop:=Cal P w K mg base "_law_same" 6 ["_law_found", "_law_due"] (spD fSame)
abbrev c_is_bars (P:Program)(w:World)(K:PySem.W.Frag)(mg:Str->Option Value)(base:Heap):Prop:=Cal P w K mg base "is_bars" 1 ["size", "text"] (spD fIsBars)
abbrev c_joined (P:Program)(w:World)(K:PySem.W.Frag)(mg:Str->Option Value)(base:Heap):Prop:=Cal P w K mg base "joined" 1 ["one", "other", "place"] (spD fJoined)
abbrev c_with_key (P:Program)(w:World)(K:PySem.W.Frag)(mg:Str->Option Value)(base:Heap):Prop:=Cal P w K mg base "with_key" 1 ["table", "key", "thing"] (spD fWith)
abbrev c_without_key (P:Program)(w:World)(K:PySem.W.Frag)(mg:Str->Option Value)(base:Heap):Prop:=Cal P w K mg base "without_key" 1 ["table", "key"] (spD fWithout)
abbrev c_Stand___init__ (P:Program)(w:World)(K:PySem.W.Frag)(mg:Str->Option Value)(base:Heap):Prop:=CalI P w K mg base "Stand" cStand 1 ["self", "length", "made_of", "firsts", "closed"] (spD (fStInit cStand))
abbrev c_Stand_check_there (P:Program)(w:World)(K:PySem.W.Frag)(mg:Str->Option Value)(base:Heap):Prop:=CalMX P w K mg base cStand "check_there" 1 ["self", "name"] (spX (fThere cStand [cA,0,0,0,cP,cD,cE,cF,cG,cH,cI,cJ,cK,cL,cM,0,0]))
abbrev c_Stand_parts (P:Program)(w:World)(K:PySem.W.Frag)(mg:Str->Option Value)(base:Heap):Prop:=CalMX P w K mg base cStand "parts" 2 ["self", "name"] (spX (fPartsS cStand [cA,0,0,0,cP,cD,cE,cF,cG,cH,cI,cJ,cK,cL,cM,0,0]))
abbrev c_Stand_source (P:Program)(w:World)(K:PySem.W.Frag)(mg:Str->Option Value)(base:Heap):Prop:=CalMX P w K mg base cStand "source" 3 ["self", "name", "bar"] (spX (fSourceS cStand [cA,0,0,0,cP,cD,cE,cF,cG,cH,cI,cJ,cK,cL,cM,0,0]))
abbrev c_check_new (P:Program)(w:World)(K:PySem.W.Frag)(mg:Str->Option Value)(base:Heap):Prop:=CalX P w K mg base "check_new" 1 ["stand", "name"] (spX (fNew cStand [cA,0,0,0,cP,cD,cE,cF,cG,cH,cI,cJ,cK,cL,cM,0,0]))
abbrev c_check_age (P:Program)(w:World)(K:PySem.W.Frag)(mg:Str->Option Value)(base:Heap):Prop:=CalX P w K mg base "check_age" 1 ["age"] (spX (fAgeC [cA,0,0,0,cP,cD,cE,cF,cG,cH,cI,cJ,cK,cL,cM,0,0]))
abbrev c_check_place (P:Program)(w:World)(K:PySem.W.Frag)(mg:Str->Option Value)(base:Heap):Prop:=CalX P w K mg base "check_place" 1 ["stand", "place"] (spX (fPlaceC cStand [cA,0,0,0,cP,cD,cE,cF,cG,cH,cI,cJ,cK,cL,cM,0,0]))
abbrev c_put (P:Program)(w:World)(K:PySem.W.Frag)(mg:Str->Option Value)(base:Heap):Prop:=CalX P w K mg base "put" 6 ["stand", "row"] (spX (fDeed1 cStand [cA,0,0,0,cP,cD,cE,cF,cG,cH,cI,cJ,cK,cL,cM,0,0] 0))
abbrev c_join (P:Program)(w:World)(K:PySem.W.Frag)(mg:Str->Option Value)(base:Heap):Prop:=CalX P w K mg base "join" 6 ["stand", "row"] (spX (fDeed1 cStand [cA,0,0,0,cP,cD,cE,cF,cG,cH,cI,cJ,cK,cL,cM,0,0] 1))
abbrev c_found (P:Program)(w:World)(K:PySem.W.Frag)(mg:Str->Option Value)(base:Heap):Prop:=CalX P w K mg base "found" 6 ["stand", "row"] (spX (fDeed1 cStand [cA,0,0,0,cP,cD,cE,cF,cG,cH,cI,cJ,cK,cL,cM,0,0] 2))
abbrev c_aged (P:Program)(w:World)(K:PySem.W.Frag)(mg:Str->Option Value)(base:Heap):Prop:=CalX P w K mg base "aged" 6 ["stand", "row"] (spX (fDeed1 cStand [cA,0,0,0,cP,cD,cE,cF,cG,cH,cI,cJ,cK,cL,cM,0,0] 3))
abbrev c_drop (P:Program)(w:World)(K:PySem.W.Frag)(mg:Str->Option Value)(base:Heap):Prop:=CalX P w K mg base "drop" 6 ["stand", "row"] (spX (fDeed1 cStand [cA,0,0,0,cP,cD,cE,cF,cG,cH,cI,cJ,cK,cL,cM,0,0] 4))
abbrev c_free (P:Program)(w:World)(K:PySem.W.Frag)(mg:Str->Option Value)(base:Heap):Prop:=CalX P w K mg base "free" 6 ["stand", "row"] (spX (fDeed1 cStand [cA,0,0,0,cP,cD,cE,cF,cG,cH,cI,cJ,cK,cL,cM,0,0] 5))
abbrev c_shut (P:Program)(w:World)(K:PySem.W.Frag)(mg:Str->Option Value)(base:Heap):Prop:=CalX P w K mg base "shut" 6 ["stand", "row"] (spX (fDeed1 cStand [cA,0,0,0,cP,cD,cE,cF,cG,cH,cI,cJ,cK,cL,cM,0,0] 6))
abbrev c_stand_behind (P:Program)(w:World)(K:PySem.W.Frag)(mg:Str->Option Value)(base:Heap):Prop:=CalX P w K mg base "stand_behind" 7 ["stand", "row"] (spX (fBehindS cStand [cA,0,0,0,cP,cD,cE,cF,cG,cH,cI,cJ,cK,cL,cM,0,0]))
abbrev c_Room___init__ (P:Program)(w:World)(K:PySem.W.Frag)(mg:Str->Option Value)(base:Heap):Prop:=CalIX P w K mg base "Room" cRoom 3 ["self", "size"] (spX (fRoInit cRoom cStand [cA,0,0,0,cP,cD,cE,cF,cG,cH,cI,cJ,cK,cL,cM,0,0]))
abbrev c_Room_now (P:Program)(w:World)(K:PySem.W.Frag)(mg:Str->Option Value)(base:Heap):Prop:=CalM P w K mg base cRoom "now" 1 ["self"] (spD (fNow cRoom cStand))
abbrev c_Room_deed (P:Program)(w:World)(K:PySem.W.Frag)(mg:Str->Option Value)(base:Heap):Prop:=CalMX P w K mg base cRoom "deed" 8 ["self", "row"] (spX (fDeedR cRoom cStand [cA,0,0,0,cP,cD,cE,cF,cG,cH,cI,cJ,cK,cL,cM,0,0]))
abbrev c_Room_deeds (P:Program)(w:World)(K:PySem.W.Frag)(mg:Str->Option Value)(base:Heap):Prop:=CalM P w K mg base cRoom "deeds" 1 ["self"] (spD (fRowsR cRoom cStand true))
abbrev c_Room_ahead (P:Program)(w:World)(K:PySem.W.Frag)(mg:Str->Option Value)(base:Heap):Prop:=CalM P w K mg base cRoom "ahead" 1 ["self"] (spD (fRowsR cRoom cStand false))
abbrev c_Room_size (P:Program)(w:World)(K:PySem.W.Frag)(mg:Str->Option Value)(base:Heap):Prop:=CalM P w K mg base cRoom "size" 2 ["self"] (spD (fOfNow cRoom cStand gSize))
abbrev c_Room_undo (P:Program)(w:World)(K:PySem.W.Frag)(mg:Str->Option Value)(base:Heap):Prop:=CalMX P w K mg base cRoom "undo" 2 ["self"] (spX (fUndoR cRoom cStand cO))
abbrev c_names (P:Program)(w:World)(K:PySem.W.Frag)(mg:Str->Option Value)(base:Heap):Prop:=Cal P w K mg base "_law_names" 2 ["_law_box_here", "_law_many"] (spD fNamesL)
abbrev c_begun (P:Program)(w:World)(K:PySem.W.Frag)(mg:Str->Option Value)(base:Heap):Prop:=Cal P w K mg base "_law_begun" 5 ["_law_box_here", "_law_most"] (spD (fBegun cRoom cStand))
abbrev c_origin (P:Program)(w:World)(K:PySem.W.Frag)(mg:Str->Option Value)(base:Heap):Prop:=Cal P w K mg base "_law_origin" 1 ["_law_kept", "_law_name", "_law_bar"] (spD fOrigin)
abbrev c_open (P:Program)(w:World)(K:PySem.W.Frag)(mg:Str->Option Value)(base:Heap):Prop:=Cal P w K mg base "_law_open" 1 ["_law_state"] (spD fOpenL)
abbrev c_done (P:Program)(w:World)(K:PySem.W.Frag)(mg:Str->Option Value)(base:Heap):Prop:=Cal P w K mg base "_law_done" 2 ["_law_state", "_law_deed"] (spD fDoneL)
abbrev c_lone (P:Program)(w:World)(K:PySem.W.Frag)(mg:Str->Option Value)(base:Heap):Prop:=Cal P w K mg base "_law_lone" 1 ["_law_kept"] (spD fLone)
abbrev c_easy (P:Program)(w:World)(K:PySem.W.Frag)(mg:Str->Option Value)(base:Heap):Prop:=Cal P w K mg base "_law_easy" 3 ["_law_box_here", "_law_state", "_law_pool"] (spD fEasy)
abbrev c_sheet (P:Program)(w:World)(K:PySem.W.Frag)(mg:Str->Option Value)(base:Heap):Prop:=Cal P w K mg base "sheet" 5 ["room"] (spD (fSheet cRoom cStand))
abbrev c_lawsheet (P:Program)(w:World)(K:PySem.W.Frag)(mg:Str->Option Value)(base:Heap):Prop:=Cal P w K mg base "_law_sheet" 1 ["_law_size_here", "_law_deeds"] (spD fSheetL)
section
variable {P:Program}{w:World}{K:PySem.W.Frag}{mg:Str->Option Value}{base:Heap}
theorem ok_box {f:Addr}{fd:FuncData}(F:Fun K "_law_box" "_law_box" s_box f fd)(T:Bi2 mg)  : FnOk P w K mg base CX0 1 f fd ["_law_script"] (spBoxQ K):=by
 refine F.ok sc_box (fun vs H Q E h=>?_) (fun cdv A outer s H vs Q E hr h=>?_)
 ·unfold spBoxQ at h;split at h
  ·rfl
  ·exact h.elim
 ·unfold spBoxQ at h;split at h
  ·rename_i a
   obtain⟨ns,hs,k⟩:=h
   refine⟨_,(pss_one (ps_ret (pe_lst (pa_cons (pe_callTy listC (by rfl) T.list PyProof.Rows.boot_list (pa_cons (pvC 0) pa_nil)) (pa_cons pe_int (pa_cons pe_int (pa_cons pe_int pa_nil))))))),?_⟩
   refine⟨_,hs,fun l hl=>?_⟩
   refine⟨(by show 4<=sizeLine;decide),fun b hb=>?_⟩
   have hlb:l≠b:=ne_of_none (o:=.lst (ns.map V.int)) upd_same hb
   have hb0:H b=none:=by rw[upd_ne hlb.symm]at hb;exact hb
   refine k b l _ ⟨ns,0,0,1,upd_same,by rw[upd_ne hlb];exact upd_same,hlb,by decide,by decide,by decide⟩ hb0 hl fun c o e=>?_
   rw[upd_ne (ne_of_none e hb0),upd_ne (ne_of_none e hl)]
   exact e
  ·exact h.elim
theorem ok_take {f:Addr}{fd:FuncData}(F:Fun K "_law_take" "_law_take" s_take f fd)(T:Bi2 mg)  : FnOk P w K mg base CX0 1 f fd ["_law_box_here", "_law_many"] (spD fTake):=by
 refine FnOk.imp (sp:=spTakeQ) ?_ fun vs H Q E h=>take_imp h
 refine F.ok sc_take (fun vs H Q E h=>?_) (fun cdv A outer s H vs Q E hr h=>?_)
 ·obtain⟨b,n,q,rfl,_⟩:=spTakeQ_inv h;rfl
 ·obtain⟨b,n,q,rfl,⟨ns,i,r,z,hb,hq,nqb,hi,hz,hz2⟩,hn,hn2,k⟩:=spTakeQ_inv h
  refine⟨_,(pss_cons (ps_if (pt_cmpC gtC (pe_ix ixC (pvC 0) pe_int (fun _ _=>rfl)) pe_int (nomark _))
   (pss_cons (ps_set (i:=2) sc_take.nd rfl (by first | exact Or.inl rfl | exact Or.inr rfl) (pe_ix ixC (pvC 0) pe_int (fun _ _=>rfl)))
   (pss_cons (ps_asg (pe_op divC (pvC 2) (pvC 1)) (pg_sub (pvC 0) pe_int setC))
   (pss_one (ps_ret (pe_op modC (pvC 2) (pvC 1))))))
   pss_nil)
   (pss_cons (ps_asg (pe_op modC (pe_op addC (pe_op mulC (pe_ix ixC (pvC 0) pe_int (fun _ _=>rfl)) pe_int) pe_int) pe_int) (pg_sub (pvC 0) pe_int setC))
   (pss_cut (ps_if (pt_cmpC ltC (pe_ix ixC (pvC 0) pe_int (fun _ _=>rfl)) (pe_callB lenC (by rfl) T.len PySem.boot_len (pa_cons (pe_ix ixC (pvC 0) pe_int (fun _ _=>rfl)) pa_nil)) (nomark _))
   (pss_cons (ps_set (i:=3) sc_take.nd rfl (by first | exact Or.inl rfl | exact Or.inr rfl) (pe_ix ixC (pe_ix ixC (pvC 0) pe_int (fun _ _=>rfl)) (pe_ix ixC (pvC 0) pe_int (fun _ _=>rfl)) (fun _ _=>rfl)))
   (pss_cons (ps_augS (pvC 0) pe_int getC pe_int ip_addC setC)
   (pss_cons (ps_if (pt_cmpC geC (pvC 3) (pe_op powC pe_int pe_int) (nomark _))
   (pss_cons (ps_asg (pe_op divC (pvC 3) (pvC 1)) (pg_sub (pvC 0) pe_int setC))
   (pss_one (ps_ret (pe_op modC (pvC 3) (pvC 1)))))
   pss_nil)
   (pss_one (ps_asg (pe_op modC (pe_op addC (pe_ix ixC (pvC 0) pe_int (fun _ _=>rfl)) (pe_op mulC (pvC 3) pe_int)) pe_int) (pg_sub (pvC 0) pe_int setC))))))
   pss_nil)
   (pss_cons (ps_set (i:=4) sc_take.nd rfl (by first | exact Or.inl rfl | exact Or.inr rfl) (pe_ix ixC (pvC 0) pe_int (fun _ _=>rfl)))
   (pss_cons (ps_set (i:=5) sc_take.nd rfl (by first | exact Or.inl rfl | exact Or.inr rfl) (pe_op modC (pe_op addC (pe_op mulC (pvC 4) (pvC 4)) (pe_op divC (pvC 4) pe_int)) pe_int))
   (pss_one (ps_ret (pe_op modC (pe_op modC (pe_op addC (pe_op mulC (pvC 5) pe_int) (pvC 4)) pe_int) (pvC 1))))))))),?_⟩
  have fin:∀(v:Int) (H':Hp) (i' r' z':Int),OB b H H'->H' b=some (.lst [.ref q,.int i',.int r',.int z'])->0<=i'->0<=z'->z'<2147483647->Q (.int (v%n)) H':=fun v H' i' r' z' ob hb' h1 h2 h3 =>
   k _ _ (Int.emod_nonneg _ (by omega)) (Int.emod_lt_of_pos _ hn) ⟨ns,i',r',z',hb',(ob q nqb).trans hq,nqb,h1,h2,h3⟩ ob
  have md:∀ x:Int,0<=x%2147483647/\x%2147483647<2147483647:=fun x=>⟨Int.emod_nonneg _ (by decide),Int.emod_lt_of_pos _ (by decide)⟩
  refine⟨_,.inl hb,?_⟩
  refine iteD (fun h1=>?_) (fun h1=>?_)
  ·refine⟨_,.inl hb,⟨hn,hn2⟩,_,hb,hn,?_⟩
   exact fin _ _ _ _ _ OB.refl.upd upd_same hi hz hz2
  ·refine⟨_,.inl hb,.inr ⟨by decide,by decide⟩,pM,_,hb,?_⟩
   have ob1:∀ o,OB b H (upd H b o):=fun o=>OB.refl.upd
   refine⟨fun σ' H'=>∃(c:Option V) (i' r' z':Int),σ'=[some (.ref b),some (.int n),none,c,none,none]/\OB b H H'/\H' b=some (.lst [.ref q,.int i',.int r',.int z'])/\0<=i'/\0<=z'/\z'<2147483647,?_,?_⟩
   ·refine⟨_,.inl upd_same,_,.inl upd_same,_,.inl ((ob1 _ q nqb).trans hq),?_⟩
    refine iteD (fun h2=>?_) (fun h2=>?_)
    ·have h2':i<(ns.length:Int):=by simpa using h2
     obtain⟨c,hc⟩:∃ c,ns[i.toNat]?=some c:=⟨ns[i.toNat]'(by omega),gxA _⟩
     have e:atI (ns.map V.int) i=some (.int c):=by
      have q:=atI_nat (xs:=ns.map V.int) (j:=i.toNat) (v:=.int c) (by rw[gxH,hc];rfl)
      rwa [Int.toNat_of_nonneg hi]at q
     refine⟨_,.inl upd_same,_,.inl upd_same,_,.inl ((ob1 _ q nqb).trans hq),opt_of e ?_⟩
     refine⟨_,upd_same,by decide,_,upd_same,?_⟩
     refine⟨⟨by decide,by decide,by decide⟩,?_⟩
     refine iteD (fun h3=>?_) (fun h3=>?_)
     ·refine⟨⟨hn,hn2⟩,_,upd_same,hn,?_⟩
      exact fin _ _ (i+1) _ _ OB.refl.upd.upd.upd upd_same (by omega) (md _).1 (md _).2
     ·refine⟨_,.inl upd_same,.inr ⟨by decide,by decide⟩,pM,_,upd_same,?_⟩
      exact⟨_,i+1,_,_,rfl,OB.refl.upd.upd.upd,upd_same,by omega,(md _).1,(md _).2⟩
    ·exact⟨_,i,_,_,rfl,OB.refl.upd,upd_same,hi,(md _).1,(md _).2⟩
   ·rintro σ' H' ⟨c,i',r',z',rfl,ob,hb',h1,h2,h3⟩
    refine⟨_,.inl hb',.inl ⟨by omega,by omega⟩,⟨by decide,by decide⟩,pN,.inr ⟨by decide,by decide⟩,pM,hn,?_⟩
    exact fin _ _ i' _ _ ob hb' h1 h2 h3
theorem bars_join {μ:MS}{n:Nat}{it:D->MS->(Option D->MS->Prop)->Prop}{K:DK}(hn:n<=1000)(hit:∀(d:D) (K':Option D->MS->Prop),(∀ c:Nat,(c=111\/c=120)->K' (some (.str ⟨#[c]⟩)) μ)->it d μ K')(k:∀ l:List Nat,l.length=n->OX l->K (.str (txt l)) μ) :
 compW it (fun _=>True) (rngD 0 n) μ fun ys μ2=>nL false ys μ2 fun x μ3=>fJoin (.str (Str.ofString "")) [x] μ3 K:=by
 refine compW_any (fun c:Nat=>D.str ⟨#[c]⟩) (fun c=>c=111\/c=120) trivial (fun d hd K' k'=>hit d K' k') fun l hl ho=>?_
 rw[rngD_len]at hl
 refine⟨rfl,l.map (fun c=>⟨#[c]⟩),by unfold lv;rw[List.map_map];rfl,by rw[sum_signs];omega,?_⟩
 rw[flat_signs]
 exact k l hl fun c hc=>ho c hc
theorem inv_bars {ds:List D}{μ:MS}{Kd:DK}(h:fBars ds μ Kd):∃ v0 v1,ds=[.mr v0,.int v1]:=by
 unfold fBars at h
 rcases ds with _ | ⟨z0,ds⟩
 ·exact False.elim h
 cases z0 <;> first | exact False.elim h | skip
 rcases ds with _ | ⟨z1,ds⟩
 ·exact False.elim h
 cases z1 <;> first | exact False.elim h | skip
 rcases ds with _ | ⟨zz,zs⟩
 ·exact⟨_,_,rfl⟩
 ·exact False.elim h
theorem ok_bars {f:Addr}{fd:FuncData}(F:Fun K "_law_bars" "_law_bars" s_bars f fd)(T:Bi2 mg)(C_take:c_take P w K mg base):FnOk P w K mg base CX0 2 f fd ["_law_box_here", "_law_size_here"] (spD fBars):=by
 refine F.okD sc_bars (fun ds μ Kd h=>by obtain⟨_,_,rfl⟩:=inv_bars h;rfl) (fun cdv A outer s H E hr=>⟨_,(b_cons (qS 2 sc_bars.nd (qC C_take hr (a2 (dv 0) d_int)))
  (b_cons (s_if (qEq (dv 2) d_int)
  (b_one (s_ret (d_mt PySem.F.plainAttrs_str PySem.F.slot_str_join PySem.F.type_str_join joinC so_join d_str (a1 (dC1 false (cOk (N:=["_law_k", "_law_box_here"]) (js:=[none,some 0]) sc_bars (by decide +kernel)) (i_range1 rfl T.range (a1 (dv 1))) (fun _ _ _ nd=>(qN 0 nd)) (fun _ _ _=>ts_nil) (fun _ _ _=>(dIX d_str (qC C_take hr (a2 (dv 1) d_int)))))))))
  b_nil)
  (b_cons (s_if (qEq (dv 2) d_int)
  (b_one (s_ret (d_mt PySem.F.plainAttrs_str PySem.F.slot_str_join PySem.F.type_str_join joinC so_join d_str (a1 (dC1 false (cOk (N:=["_law_k", "_law_box_here"]) (js:=[none,some 0]) sc_bars (by decide +kernel)) (i_range1 rfl T.range (a1 (dv 1))) (fun _ _ _ nd=>(qN 0 nd)) (fun _ _ _=>ts_nil) (fun _ _ _=>(dIX d_str (qC C_take hr (a2 (dv 1) d_int)))))))))
  b_nil)
  (b_cons (s_if (qEq (dv 2) d_int)
  (b_cons (qS 3 sc_bars.nd (qC C_take hr (a2 (dv 0) (dv 1))))
  (b_cons (qS 4 sc_bars.nd (dPl (dPl (dv 3) d_int) (qC C_take hr (a2 (dv 0) (dMi (dv 1) (dv 3))))))
  (b_one (s_ret (dPl (dPl (d_op mulC so_mul d_str (dv 3)) (d_op mulC so_mul d_str (dMi (dv 4) (dv 3)))) (d_op mulC so_mul d_str (dMi (dv 1) (dv 4))))))))
  b_nil)
  (b_cons (s_if (qEq (dv 2) d_int)
  (b_one (s_ret (d_mt PySem.F.plainAttrs_str PySem.F.slot_str_join PySem.F.type_str_join joinC so_join d_str (a1 (dC1 false (cOk (N:=["_law_k", "_law_box_here"]) (js:=[none,some 0]) sc_bars (by decide +kernel)) (i_range1 rfl T.range (a1 (dv 1))) (fun _ _ _ nd=>(qN 0 nd)) (fun _ _ _=>ts_nil) (fun _ _ _=>(dIX d_str (qC C_take hr (a2 (dv 1) d_int)))))))))
  b_nil)
  (b_one (s_ret (d_op mulC so_mul (dIX d_str (qC C_take hr (a2 (dv 0) d_int))) (dv 1))))))))),fun ds μ Kd hm hl h=>?_⟩)
 obtain⟨k,n,rfl⟩:=inv_bars h
 unfold fBars at h
 ·skip
  obtain⟨hb,h1,h2,kk⟩:=h
  refine⟨hb,by decide,by decide,fun v v0 v1=>?_⟩
  refine iteDf (fun hv=>?_) (fun hv=>?_)
  ·refine⟨rfl,by omega,by omega,sz (by rw[rngD_len];omega),?_⟩
   refine bars_join (n:=n.toNat) (by omega) (fun d K' k'=>?_) fun l hl ho=>.keep (kk l hl ho)
   refine⟨hb,by decide,by decide,fun v v0 v1=>⟨by decide,?_⟩⟩
   obtain⟨c,e,hc⟩:=atI_in (l:=(Str.ofString "ox").cps.toList) v0 v1
   exact opt_of e (k' c ((OX.of (l:=(Str.ofString "ox").cps.toList) (by decide +kernel)) c hc))
  refine iteDf (fun hv=>?_) (fun hv=>?_)
  ·refine⟨rfl,by omega,by omega,sz (by rw[rngD_len];omega),?_⟩
   refine bars_join (n:=n.toNat) (by omega) (fun d K' k'=>?_) fun l hl ho=>.keep (kk l hl ho)
   refine⟨hb,by decide,by decide,fun v v0 v1=>⟨by decide,?_⟩⟩
   obtain⟨c,e,hc⟩:=atI_in (l:=(Str.ofString "ooooox").cps.toList) v0 v1
   exact opt_of e (k' c ((OX.of (l:=(Str.ofString "ooooox").cps.toList) (by decide +kernel)) c hc))
  refine iteDf (fun hv=>?_) (fun hv=>?_)
  ·refine⟨hb,by omega,by omega,fun p p0 p1=>⟨hb,by omega,by omega,fun g g0 g1=>?_⟩⟩
   refine⟨120,rfl,by omega,by omega,111,rfl,by omega,by omega,?_,120,rfl,by omega,by omega,?_,?_⟩
   ·rw[lenS,lenS,List.length_replicate,List.length_replicate];exact sz (by omega)
   ·rw[app_str,lenS,lenS,gxE,List.length_replicate,List.length_replicate,List.length_replicate];exact sz (by omega)
   rw[app_str,app_str]
   refine .keep (kk _ ?_ (((OX.rep (.inr rfl)).app (OX.rep (.inl rfl))).app (OX.rep (.inr rfl))))
   rw[gxE,gxE,List.length_replicate,List.length_replicate,List.length_replicate];omega
  refine iteDf (fun hv=>?_) (fun hv=>?_)
  ·refine⟨rfl,by omega,by omega,sz (by rw[rngD_len];omega),?_⟩
   refine bars_join (n:=n.toNat) (by omega) (fun d K' k'=>?_) fun l hl ho=>.keep (kk l hl ho)
   refine⟨hb,by decide,by decide,fun v v0 v1=>⟨by decide,?_⟩⟩
   obtain⟨c,e,hc⟩:=atI_in (l:=(Str.ofString "xxxo").cps.toList) v0 v1
   exact opt_of e (k' c ((OX.of (l:=(Str.ofString "xxxo").cps.toList) (by decide +kernel)) c hc))
  refine⟨hb,by decide,by decide,fun p p0 p1=>⟨by decide,?_⟩⟩
  obtain⟨c,e,hc⟩:=atI_in (l:=(Str.ofString "ox").cps.toList) p0 p1
  exact opt_of e ⟨c,rfl,by omega,by omega,.keep (kk _ (List.length_replicate ..) (OX.rep ((OX.of (l:=(Str.ofString "ox").cps.toList) (by decide +kernel)) c hc)))⟩
theorem inv_size {ds:List D}{μ:MS}{Kd:DK}(h:fSize ds μ Kd):∃ v0 v1,ds=[.mr v0,.int v1]:=by
 unfold fSize at h
 rcases ds with _ | ⟨z0,ds⟩
 ·exact False.elim h
 cases z0 <;> first | exact False.elim h | skip
 rcases ds with _ | ⟨z1,ds⟩
 ·exact False.elim h
 cases z1 <;> first | exact False.elim h | skip
 rcases ds with _ | ⟨zz,zs⟩
 ·exact⟨_,_,rfl⟩
 ·exact False.elim h
theorem ok_size {f:Addr}{fd:FuncData}(F:Fun K "_law_size" "_law_size" s_size f fd)(T:Bi2 mg)(C_take:c_take P w K mg base):FnOk P w K mg base CX0 2 f fd ["_law_box_here", "_law_small"] (spD fSize):=by
 refine F.okD sc_size (fun ds μ Kd h=>by obtain⟨_,_,rfl⟩:=inv_size h;rfl) (fun cdv A outer s H E hr=>⟨_,(b_one (s_ret (dIX (d_lst false (da_cons (dv 1) (da_cons (dv 1) (da_cons (dv 1) (da_cons (dv 1) (da_cons (dv 1) (da_cons (dv 1) (da_cons (dv 1) (da_cons d_int da_nil))))))))) (qC C_take hr (a2 (dv 0) d_int))))),fun ds μ Kd hm hl h=>?_⟩)
 obtain⟨k,n,rfl⟩:=inv_size h
 unfold fSize at h
 ·skip
  obtain⟨hb,kk⟩:=h
  refine⟨by show 8<=sizeLine;decide,hb,by decide,by decide,fun v v0 v1=>?_⟩
  have q:∃ m,atI [D.int n,D.int n,D.int n,D.int n,D.int n,D.int n,D.int n,D.int 40] v=some (.int m)/\(m=n\/m=40):=by
   obtain⟨j,rfl⟩:∃ j:Nat,v=(j:Int):=⟨v.toNat,by omega⟩
   have hj:j<8:=by omega
   match j,hj with
   | 0,_=>exact⟨n,rfl,.inl rfl⟩
   | 1,_=>exact⟨n,rfl,.inl rfl⟩
   | 2,_=>exact⟨n,rfl,.inl rfl⟩
   | 3,_=>exact⟨n,rfl,.inl rfl⟩
   | 4,_=>exact⟨n,rfl,.inl rfl⟩
   | 5,_=>exact⟨n,rfl,.inl rfl⟩
   | 6,_=>exact⟨n,rfl,.inl rfl⟩
   | 7,_=>exact⟨40,rfl,.inr rfl⟩
  obtain⟨m,em,hm'⟩:=q
  exact opt_of em (.keep (kk m hm'))
theorem ok_same1 (n:Nat){f:Addr}{fd:FuncData}(F:Fun K "_law_same" "_law_same" s_same f fd)(T:Bi2 mg)(C_same:Cal P w K mg base "_law_same" n ["_law_found", "_law_due"] (spS n)):FnOk P w K mg base CX0 (n+1) f fd ["_law_found", "_law_due"] (spSame n):=by
 refine F.ok sc_same (fun vs H Q E h=>?_) (fun cdv A outer s H vs Q E hr h=>?_)
 ·unfold spSame at h;split at h
  ·rfl
  ·exact h.elim
 ·unfold spSame at h;split at h
  ·rename_i x y
   obtain⟨d,hd,hw,hx,hy,k⟩:=h
   refine⟨_,(pss_cons (ps_if (PW.pt (pw_or (pt_valC (pe_callB isiC (by rfl) T.isinstance PyProof.Rows.boot_isinstance (pa_cons (pvC 1) (pa_cons (pe_bltn (v:=.ty "bool") rfl T.bool PyProof.Rows.boot_bool rfl) pa_nil)))) (pw_or1 (pt_valC (pe_callB isiC (by rfl) T.isinstance PyProof.Rows.boot_isinstance (pa_cons (pvC 0) (pa_cons (pe_bltn (v:=.ty "bool") rfl T.bool PyProof.Rows.boot_bool rfl) pa_nil)))))))
   (pss_one (ps_ret (pe_andC (pe_callB isiC (by rfl) T.isinstance PyProof.Rows.boot_isinstance (pa_cons (pvC 1) (pa_cons (pe_bltn (v:=.ty "bool") rfl T.bool PyProof.Rows.boot_bool rfl) pa_nil))) (pe_andC (pe_callB isiC (by rfl) T.isinstance PyProof.Rows.boot_isinstance (pa_cons (pvC 0) (pa_cons (pe_bltn (v:=.ty "bool") rfl T.bool PyProof.Rows.boot_bool rfl) pa_nil))) (pe_one (pe_cmpR eqN (pvC 0) (pvC 1) (nomark _)))))))
   pss_nil)
   (pss_cons (ps_if (PW.pt (pw_or (pt_valC (pe_callB isiC (by rfl) T.isinstance PyProof.Rows.boot_isinstance (pa_cons (pvC 1) (pa_cons (pe_bltn (v:=.ty "list") rfl T.list PyProof.Rows.boot_list rfl) pa_nil)))) (pw_or1 (pt_valC (pe_callB isiC (by rfl) T.isinstance PyProof.Rows.boot_isinstance (pa_cons (pvC 1) (pa_cons (pe_bltn (v:=.ty "tuple") rfl T.tuple PyProof.Rows.boot_tuple rfl) pa_nil)))))))
   (pss_cons (ps_if (PW.pt (pw_or (pt_cmpC neC (pe_callB isiC (by rfl) T.isinstance PyProof.Rows.boot_isinstance (pa_cons (pvC 1) (pa_cons (pe_bltn (v:=.ty "list") rfl T.list PyProof.Rows.boot_list rfl) pa_nil))) (pe_callB isiC (by rfl) T.isinstance PyProof.Rows.boot_isinstance (pa_cons (pvC 0) (pa_cons (pe_bltn (v:=.ty "list") rfl T.list PyProof.Rows.boot_list rfl) pa_nil))) (nomark _)) (pw_or1 (pt_cmpC neC (pe_callB isiC (by rfl) T.isinstance PyProof.Rows.boot_isinstance (pa_cons (pvC 1) (pa_cons (pe_bltn (v:=.ty "tuple") rfl T.tuple PyProof.Rows.boot_tuple rfl) pa_nil))) (pe_callB isiC (by rfl) T.isinstance PyProof.Rows.boot_isinstance (pa_cons (pvC 0) (pa_cons (pe_bltn (v:=.ty "tuple") rfl T.tuple PyProof.Rows.boot_tuple rfl) pa_nil))) (nomark _)))))
   (pss_one (ps_ret pe_bl))
   pss_nil)
   (pss_one (ps_ret (pe_andC (pe_cmpR eqC (pe_callB lenC (by rfl) T.len PySem.boot_len (pa_cons (pvC 0) pa_nil)) (pe_callB lenC (by rfl) T.len PySem.boot_len (pa_cons (pvC 1) pa_nil)) (nomark _)) (pe_one (pe_callB (allC rfl) (by rfl) T.all PyProof.Rows.boot_all (pa_cons (pe_comp (compOk (XN:=["_law_found", "_law_due"]) (xsc:=(defScope s_same)) (N:=["_law_one", "_law_other"]) (js:=[none,none]) (by decide +kernel)) rfl (pi_zip rfl T.zip (pa_cons (pvC 0) (pa_cons (pvC 1) pa_nil))) (fun _ _ _=>(pg_tupC (n:=2) rfl (pgs_consC (pg_name (i:=0) (show List.Nodup (["_law_one", "_law_other"]:List Str) by decide +kernel) rfl (by first | exact Or.inl rfl | exact Or.inr rfl)) (pgs_consC (pg_name (i:=1) (show List.Nodup (["_law_one", "_law_other"]:List Str) by decide +kernel) rfl (by first | exact Or.inl rfl | exact Or.inr rfl)) pgs_nilC)))) (fun _ _ _=>pts_nil) (fun _ _ _=>(pe_callC C_same (hr.mono (by first | decide | exact Nat.le_refl _ | omega)) rfl (pa_cons (pvC 0) (pa_cons (pvC 1) pa_nil))))) pa_nil)))))))
   pss_nil)
   (pss_cons (ps_if (PW.pt (pw_or (pt_cmpC neC (pe_callB isiC (by rfl) T.isinstance PyProof.Rows.boot_isinstance (pa_cons (pvC 1) (pa_cons (pe_bltn (v:=.ty "str") rfl T.str PyProof.Rows.boot_str rfl) pa_nil))) (pe_callB isiC (by rfl) T.isinstance PyProof.Rows.boot_isinstance (pa_cons (pvC 0) (pa_cons (pe_bltn (v:=.ty "str") rfl T.str PyProof.Rows.boot_str rfl) pa_nil))) (nomark _)) (pw_or1 (pt_cmpC neC (pe_callB isiC (by rfl) T.isinstance PyProof.Rows.boot_isinstance (pa_cons (pvC 1) (pa_cons (pe_bltn (v:=.ty "int") rfl T.int PyProof.Rows.boot_int rfl) pa_nil))) (pe_callB isiC (by rfl) T.isinstance PyProof.Rows.boot_isinstance (pa_cons (pvC 0) (pa_cons (pe_bltn (v:=.ty "int") rfl T.int PyProof.Rows.boot_int rfl) pa_nil))) (nomark _)))))
   (pss_one (ps_ret pe_bl))
   pss_nil)
   (pss_one (ps_ret (pe_cmpR eqN (pvC 0) (pvC 1) (nomark _))))))),?_⟩
   cases d with
   | bl b =>
    obtain rfl:x=.bl b:=hx
    obtain rfl:y=.bl b:=hy
    refine⟨_,true,TyOf.bl b,kit_same K _,_,true,TyOf.bl b,kit_same K _,_,true,TyOf.bl b,kit_same K _,?_⟩
    show Q (.bl (decide (b=b))) H
    rw[decide_eq_true rfl]
    exact k H (Same.refl H)
   | int i =>
    obtain rfl:x=.int i:=hx
    obtain rfl:y=.int i:=hy
    refine⟨_,false,.int i,rfl,_,false,.int i,rfl,_,false,.int i,rfl,_,false,.int i,rfl,_,false,.int i,rfl,_,false,.int i,rfl,_,true,.int i,kit_same K _,_,true,.int i,kit_same K _,?_⟩
    show Q (.bl (decide (i=i))) H
    rw[decide_eq_true rfl]
    exact k H (Same.refl H)
   | str z =>
    obtain rfl:x=.str z:=hx
    obtain rfl:y=.str z:=hy
    refine⟨_,false,.str z,rfl,_,false,.str z,rfl,_,false,.str z,rfl,_,false,.str z,rfl,_,true,.str z,kit_same K _,_,true,.str z,kit_same K _,_,false,.str z,rfl,_,false,.str z,rfl,?_⟩
    show Q (.bl (decide (z=z))) H
    rw[decide_eq_true rfl]
    exact k H (Same.refl H)
   | non =>
    obtain rfl:x=.non:=hx
    obtain rfl:y=.non:=hy
    refine⟨_,false,.non,rfl,_,false,.non,rfl,_,false,.non,rfl,_,false,.non,rfl,_,false,.non,rfl,_,false,.non,rfl,_,false,.non,rfl,_,false,.non,rfl,?_⟩
    exact k H (Same.refl H)
   | lst ds =>
    obtain⟨p,vs,rfl,hp,qp⟩:=hx
    obtain⟨q,ws,rfl,hq,qq⟩:=hy
    obtain⟨m,rfl⟩:∃ m,n=m+1:=⟨n - 1,by unfold dep at hd;omega⟩
    have hd':depL ds<=m:=by unfold dep at hd;omega
    have hw1:ds.length<sizeLine:=by unfold wid at hw;omega
    have hw2:widL ds<sizeLine:=by unfold wid at hw;omega
    have len:vs.length=ws.length:=by rw[qp.len,qq.len]
    refine⟨_,false,TyOf.lst hq,rfl,_,false,TyOf.lst hp,rfl,_,true,TyOf.lst hq,kit_same K _,_,true,TyOf.lst hq,kit_same K _,_,true,TyOf.lst hp,kit_same K _,_,false,TyOf.lst hq,rfl,_,false,TyOf.lst hp,rfl,?_⟩
    refine⟨_,.inl hp,_,.inl hq,?_⟩
    refine iteDf (fun _=>?_) (fun h=>(h (by rw[len])).elim)
    refine⟨false,_,_,hp,hq,?_⟩
    refine compZip len (fun i ys H'=>ys=List.replicate i (V.bl true)/\Same H H') ⟨rfl,Same.refl H⟩ (fun i ys H' h=>⟨h.2 _ _ hp,h.2 _ _ hq⟩) ?_ ?_
    ·rintro i x' y' ys H' T' hi ex ey ⟨rfl,S⟩ hT
     refine⟨_,upd_same,rfl,Ext.own2,?_⟩
     obtain⟨d1,e1,i1⟩:=qp.get ex
     obtain⟨d2,e2,i2⟩:=qq.get ey
     rw[e1]at e2;cases e2
     have S2:Same H (upd H' T' (.tup [x',y'])):=S.trans (Same.upd hT)
     refine⟨d1,Nat.le_trans (depL_get e1) hd',Nat.lt_of_le_of_lt (widL_get e1) hw2,i1.mono S2 _ _,i2.mono S2 _ _,fun H3 S3=>?_⟩
     exact cnx hi (by rw[List.length_replicate];have:=qp.len;omega) ⟨by rw[List.replicate_succ'],S2.trans S3⟩
    ·rintro ys H' ⟨rfl,S⟩ D hD
     refine⟨List.replicate vs.length true,by rw[upd_same,List.map_replicate],?_⟩
     have e:(List.replicate vs.length true).all id=true:=by rw[List.all_eq_true];intro b hb;rw[(List.mem_replicate.mp hb).2];rfl
     show Q (.bl ((List.replicate vs.length true).all id)) (upd H' D (.lst (List.replicate vs.length (V.bl true))))
     rw[e]
     exact k _ (S.trans (Same.upd hD))
   | tup ds =>
    obtain⟨p,vs,rfl,hp,qp⟩:=hx
    obtain⟨q,ws,rfl,hq,qq⟩:=hy
    obtain⟨m,rfl⟩:∃ m,n=m+1:=⟨n - 1,by unfold dep at hd;omega⟩
    have hd':depL ds<=m:=by unfold dep at hd;omega
    have hw1:ds.length<sizeLine:=by unfold wid at hw;omega
    have hw2:widL ds<sizeLine:=by unfold wid at hw;omega
    have len:vs.length=ws.length:=by rw[qp.len,qq.len]
    refine⟨_,false,TyOf.tup hq,rfl,_,false,TyOf.tup hp,rfl,_,false,TyOf.tup hq,rfl,_,true,TyOf.tup hq,kit_same K _,_,false,TyOf.tup hq,rfl,_,false,TyOf.tup hp,rfl,_,true,TyOf.tup hq,kit_same K _,_,true,TyOf.tup hp,kit_same K _,?_⟩
    refine⟨_,.inr hp,_,.inr hq,?_⟩
    refine iteDf (fun _=>?_) (fun h=>(h (by rw[len])).elim)
    refine⟨true,_,_,hp,hq,?_⟩
    refine compZip len (fun i ys H'=>ys=List.replicate i (V.bl true)/\Same H H') ⟨rfl,Same.refl H⟩ (fun i ys H' h=>⟨h.2 _ _ hp,h.2 _ _ hq⟩) ?_ ?_
    ·rintro i x' y' ys H' T' hi ex ey ⟨rfl,S⟩ hT
     refine⟨_,upd_same,rfl,Ext.own2,?_⟩
     obtain⟨d1,e1,i1⟩:=qp.get ex
     obtain⟨d2,e2,i2⟩:=qq.get ey
     rw[e1]at e2;cases e2
     have S2:Same H (upd H' T' (.tup [x',y'])):=S.trans (Same.upd hT)
     refine⟨d1,Nat.le_trans (depL_get e1) hd',Nat.lt_of_le_of_lt (widL_get e1) hw2,i1.mono S2 _ _,i2.mono S2 _ _,fun H3 S3=>?_⟩
     exact cnx hi (by rw[List.length_replicate];have:=qp.len;omega) ⟨by rw[List.replicate_succ'],S2.trans S3⟩
    ·rintro ys H' ⟨rfl,S⟩ D hD
     refine⟨List.replicate vs.length true,by rw[upd_same,List.map_replicate],?_⟩
     have e:(List.replicate vs.length true).all id=true:=by rw[List.all_eq_true];intro b hb;rw[(List.mem_replicate.mp hb).2];rfl
     show Q (.bl ((List.replicate vs.length true).all id)) (upd H' D (.lst (List.replicate vs.length (V.bl true))))
     rw[e]
     exact k _ (S.trans (Same.upd hD))
  ·exact h.elim
theorem ok_same {f:Addr}{fd:FuncData}(F:Fun K "_law_same" "_law_same" s_same f fd)(T:Bi2 mg)(hm:mg "_law_same"=some (.ref f))(hk:PySem.W.keepIn K (.ref f)=true)(hb:Binds K fd ["_law_found", "_law_due"] []):∀ n,FnOk P w K mg base CX0 (n+1) f fd ["_law_found", "_law_due"] (spSame n)
 | 0=>ok_same1 0 F T ⟨f,fd,⟨fun _ _ _ _ h=>h.elim,fun _ _ _ _ _ _ _ _ _ _ _ _ _ h=>h.elim⟩,hm,hk,hb⟩
 | n+1=>ok_same1 (n+1) F T ⟨f,fd,ok_same F T hm hk hb n,hm,hk,hb⟩
theorem ok_joined {f:Addr}{fd:FuncData}(F:Fun K "joined" "joined" s_joined f fd)(T:Bi2 mg)  : FnOk P w K mg base CX0 1 f fd ["one", "other", "place"] (spD fJoined):=by
 refine F.okD sc_joined (fun ds μ Kd h=>by unfold fJoined at h;split at h <;> first | rfl | exact h.elim) (fun cdv A outer s H E hr=>⟨_,(b_cons (s_asg (dv 0) ⟨(pg_tupC (n:=2) rfl (pgs_consC (qN 3 sc_joined.nd) (pgs_consC (qN 4 sc_joined.nd) pgs_nilC))),(so_tup (so_cons (so_name 3) (mo_name 3) (so_cons (so_name 4) (mo_name 4) so_nil mo_nil) (mo_cons (mo_name 4) mo_nil))),(mo_tup (mo_cons (mo_name 3) (mo_cons (mo_name 4) mo_nil)))⟩)
  (b_cons (s_asg (dv 1) ⟨(pg_tupC (n:=2) rfl (pgs_consC (qN 5 sc_joined.nd) (pgs_consC (qN 6 sc_joined.nd) pgs_nilC))),(so_tup (so_cons (so_name 5) (mo_name 5) (so_cons (so_name 6) (mo_name 6) so_nil mo_nil) (mo_cons (mo_name 6) mo_nil))),(mo_tup (mo_cons (mo_name 5) (mo_cons (mo_name 6) mo_nil)))⟩)
  (b_cons (qS 7 sc_joined.nd (d_blt (maxC rfl) so_max (by rfl) T.max PyProof.Rows.boot_max (a2 (dv 2) d_int)))
  (b_one (s_ret (d_tup (a2 (dPl (d_slice false (dv 3) o_no (o_some (dv 7))) (d_slice false (dv 5) (o_some (dv 7)) o_no)) (dPl (d_blt (maxC rfl) so_max (by rfl) T.max PyProof.Rows.boot_max (a2 (dv 4) (dv 6))) d_int)))))))),fun ds μ Kd hm hl h=>?_⟩)
 unfold fJoined at h
 split at h
 ·rename_i z a y b p
  obtain⟨x,u,rfl,rfl,rfl,rfl,hp,hx,hu,kk⟩:=h
  have lz1:(txt x.1).length<=sizeLine:=by rw[txt_len];exact sz (by omega)
  have lz2:(txt u.1).length<=sizeLine:=by rw[txt_len];exact sz (by omega)
  have c1:=cutL_le x.1 none (some (max p 0))
  have c2:=cutL_le u.1 (some (max p 0)) none
  refine⟨rfl,rfl,lz1,lz2,?_,by show 2<=sizeLine;decide,.keep ?_⟩
  ·show(txt (cutL x.1 none (some (max p 0)))).length+(txt (cutL u.1 (some (max p 0)) none)).length<=sizeLine
   rw[txt_len,txt_len];exact sz (by omega)
  ·show Kd (.tup [.str (txt (cutL x.1 none (some (max p 0)))++txt (cutL u.1 (some (max p 0)) none)),.int (max x.2 u.2+1)]) μ
   rw[show max p 0=p by omega,app_str,cutL_to hp,cutL_from hp]
   exact kk
 ·exact h.elim
theorem inv_is_bars {ds:List D}{μ:MS}{Kd:DK}(h:fIsBars ds μ Kd):∃ v0 v1,ds=[.int v0,.str v1]:=by
 unfold fIsBars at h
 rcases ds with _ | ⟨z0,ds⟩
 ·exact False.elim h
 cases z0 <;> first | exact False.elim h | skip
 rcases ds with _ | ⟨z1,ds⟩
 ·exact False.elim h
 cases z1 <;> first | exact False.elim h | skip
 rcases ds with _ | ⟨zz,zs⟩
 ·exact⟨_,_,rfl⟩
 ·exact False.elim h
theorem ok_is_bars {f:Addr}{fd:FuncData}(F:Fun K "is_bars" "is_bars" s_is_bars f fd)(T:Bi2 mg)  : FnOk P w K mg base CX0 1 f fd ["size", "text"] (spD fIsBars):=by
 refine F.okD sc_is_bars (fun ds μ Kd h=>by obtain⟨_,_,rfl⟩:=inv_is_bars h;rfl) (fun cdv A outer s H E hr=>⟨_,(b_one (s_ret (d_and (d_cmp eqC so_eqS (dLn T (dv 1)) (dv 0) (nomark _)) (d_one (d_cmp eqC so_eqS (dPl (d_mt PySem.F.plainAttrs_str PySem.F.slot_str_count PySem.F.type_str_count countC so_count (dv 1) (a1 d_str)) (d_mt PySem.F.plainAttrs_str PySem.F.slot_str_count PySem.F.type_str_count countC so_count (dv 1) (a1 d_str))) (dv 0) (nomark _)))))),fun ds μ Kd hm hl h=>?_⟩)
 obtain⟨n,z,rfl⟩:=inv_is_bars h
 unfold fIsBars at h
 ·skip
  obtain⟨hz,kk⟩:=h
  refine⟨sz (by omega),?_⟩
  have ox:(((z.cps.toList.count 111:Nat):Int)+((z.cps.toList.count 120:Nat):Int)=n/\((z.length:Nat):Int)=n)↔(((z.length:Nat):Int)=n/\oxB z=true):=by
   have:=cnt_ox z.cps.toList
   have lz:z.length=z.cps.toList.length:=(Array.length_toList (xs:=z.cps)).symm
   constructor
   ·rintro⟨h1,h2⟩;exact⟨h2,this.mp (by omega)⟩
   ·rintro⟨h1,h2⟩;have:=this.mpr h2;exact⟨by omega,h1⟩
  refine iteDf (c:=((z.length:Nat):Int)=n) (fun e=>?_) (fun e=>?_)
  ·refine⟨rfl,111,rfl,rfl,120,rfl,?_⟩
   have:decide (((z.length:Nat):Int)=n/\oxB z=true)=decide (((z.cps.toList.count 111:Nat):Int)+((z.cps.toList.count 120:Nat):Int)=n):=by
    by_cases q:((z.cps.toList.count 111:Nat):Int)+((z.cps.toList.count 120:Nat):Int)=n
    ·rw[decide_eq_true q,decide_eq_true (ox.mp ⟨q,e⟩)]
    ·rw[decide_eq_false q,decide_eq_false fun y=>q (ox.mpr y).1]
   rw[this]at kk
   show Fz _ Kd (.bl (false != decide (((z.cps.toList.count 111:Nat):Int)+((z.cps.toList.count 120:Nat):Int)=n))) μ
   rw[fne]
   exact .keep kk
  ·rw[decide_eq_false (fun y=>e y.1)]at kk
   exact .keep kk
theorem inv_with_key {ds:List D}{μ:MS}{Kd:DK}(h:fWith ds μ Kd):∃ v0 v1 v2 v3,ds=[.fdc v0 v1,v2,v3]:=by
 unfold fWith at h
 rcases ds with _ | ⟨z0,ds⟩
 ·exact False.elim h
 cases z0 <;> first | exact False.elim h | skip
 rcases ds with _ | ⟨z1,ds⟩
 ·exact False.elim h
 rcases ds with _ | ⟨z2,ds⟩
 ·exact False.elim h
 rcases ds with _ | ⟨zz,zs⟩
 ·exact⟨_,_,_,_,rfl⟩
 ·exact False.elim h
theorem ok_with_key {f:Addr}{fd:FuncData}(F:Fun K "with_key" "with_key" s_with_key f fd)(T:Bi2 mg)  : FnOk P w K mg base CX0 1 f fd ["table", "key", "thing"] (spD fWith):=by
 refine F.okD sc_with_key (fun ds μ Kd h=>by obtain⟨_,_,_,_,rfl⟩:=inv_with_key h;rfl) (fun cdv A outer s H E hr=>⟨_,(b_cons (qS 3 sc_with_key.nd (d_ty dictC so_dictF (by rfl) T.dict PyProof.Rows.boot_dict (a1 (dv 0))))
  (b_cons (s_asgKM (hu_of hr) (dv 2) (dv 3) (dv 1))
  (b_one (s_ret (d_frz (dv 3)))))),fun ds μ Kd hm hl h=>?_⟩)
 obtain⟨ks,es,y,v,rfl⟩:=inv_with_key h
 unfold fWith at h
 ·skip
  obtain⟨kd,k,rfl,rfl,hl2,hk,kk⟩:=h
  refine opt_of rfl ?_
  refine⟨kd,dput kd k v,end_at,Nat.lt_of_le_of_lt hl2 (by decide),by rw[hk];rfl,?_⟩
  rw[set_end]
  refine⟨_,_,end_at,fun o kvs hks=>?_⟩
  rw[set_end]
  refine Fz.fdc (Nat.le_refl _) end_at (mr_dput hl.1 hl.2.2.1) (old_app hm) ?_
  rw[List.take_left,hks]
  exact kk
theorem inv_without_key {ds:List D}{μ:MS}{Kd:DK}(h:fWithout ds μ Kd):∃ v0 v1 v2,ds=[.fdc v0 v1,v2]:=by
 unfold fWithout at h
 rcases ds with _ | ⟨z0,ds⟩
 ·exact False.elim h
 cases z0 <;> first | exact False.elim h | skip
 rcases ds with _ | ⟨z1,ds⟩
 ·exact False.elim h
 rcases ds with _ | ⟨zz,zs⟩
 ·exact⟨_,_,_,rfl⟩
 ·exact False.elim h
theorem ok_without_key {f:Addr}{fd:FuncData}(F:Fun K "without_key" "without_key" s_without_key f fd)(T:Bi2 mg)  : FnOk P w K mg base CX0 1 f fd ["table", "key"] (spD fWithout):=by
 refine F.okD sc_without_key (fun ds μ Kd h=>by obtain⟨_,_,_,rfl⟩:=inv_without_key h;rfl) (fun cdv A outer s H E hr=>⟨_,(b_one (s_ret (d_frz (d_compM (cOk (N:=["other", "thing", "key"]) (js:=[none,none,some 1]) sc_without_key (by decide +kernel)) rfl (so_tup (so_cons (so_name 0) (mo_name 0) (so_cons (so_name 1) (mo_name 1) so_nil mo_nil) (mo_cons (mo_name 1) mo_nil))) (mo_tup (mo_cons (mo_name 0) (mo_cons (mo_name 1) mo_nil))) rfl (i_itemsF (dv 0)) (fun _ _ _=>(pg_tupC (n:=2) rfl (pgs_consC (qN 0 (show List.Nodup (["other", "thing", "key"]:List Str) by decide +kernel)) (pgs_consC (qN 1 (show List.Nodup (["other", "thing", "key"]:List Str) by decide +kernel)) pgs_nilC)))) (fun _ _ _=>(ts_one (qNe (dv 0) (dv 2)))) (fun _ _ _=>(dv 0)) (fun _ _ _=>(dv 1)))))),fun ds μ Kd hm hl h=>?_⟩)
 obtain⟨ks,es,y,rfl⟩:=inv_without_key h
 unfold fWithout at h
 ·skip
  obtain⟨kd,k,rfl,rfl,hl2,nd,hk,hs,kk⟩:=h
  intro hlen
  rw[items_map]
  refine⟨by rw[gxC];exact sz (by omega),?_⟩
  refine dcompX_filter (fun p=>decide (p.1≠k)) kd [] _ nd (fun p hp μ' K' k'=>?_) ?_
  ·refine⟨rfl,?_⟩
   rcases hs p hp with⟨i,j,e1,rfl⟩ | ⟨i,j,e1,rfl⟩
   ·obtain⟨pk,pv⟩:=p
    cases e1
    cases y with
    | int y =>
     cases hk
     refine iteDn (c:=i=j) (fun q=>?_) (fun q=>?_)
     ·have k':K' (if decide (ikey i≠ikey j)=true then some (ikey i,pv)else none) μ':=k'
      rw[decide_eq_true (show ikey i≠ikey j from fun z=>q (ikey_inj _ _ z))]at k';exact k'
     ·have k':K' (if decide (ikey i≠ikey j)=true then some (ikey i,pv)else none) μ':=k'
      rw[decide_eq_false (show ¬ ikey i≠ikey j from fun z=>z (by rw[q]))]at k';exact k'
    | _=>cases hk
   ·obtain⟨pk,pv⟩:=p
    cases e1
    cases y with
    | str y =>
     cases hk
     refine iteDn (c:=i=j) (fun q=>?_) (fun q=>?_)
     ·have k':K' (if decide (skey i≠skey j)=true then some (skey i,pv)else none) μ':=k'
      rw[decide_eq_true (show skey i≠skey j from fun z=>q (skey_inj _ _ z))]at k';exact k'
     ·have k':K' (if decide (skey i≠skey j)=true then some (skey i,pv)else none) μ':=k'
      rw[decide_eq_false (show ¬ skey i≠skey j from fun z=>z (by rw[q]))]at k';exact k'
    | _=>cases hk
  ·refine⟨_,_,end_at,fun o kvs hks=>?_⟩
   rw[set_end]
   refine Fz.fdc (Nat.le_refl _) end_at (mr_all fun d hd=>?_) (old_app hm) ?_
   ·obtain⟨p,hp,rfl⟩:=List.mem_map.mp hd
    exact mrL_mem hl.1 (List.mem_map.mpr ⟨p,(List.mem_filter.mp hp).1,rfl⟩)
   ·rw[List.take_left,hks]
    exact kk
theorem ok_Stand___init__ {f:Addr}{fd:FuncData}(F:Fun K "__init__" "Stand.__init__" s_Stand___init__ f fd)(T:Bi2 mg)(Z_Stand:ZStand K cStand):FnOk P w K mg base CX0 1 f fd ["self", "length", "made_of", "firsts", "closed"] (spD (fStInit cStand)):=by
 refine F.okD sc_Stand___init__ (fun ds μ Kd h=>by unfold fStInit at h;split at h <;> first | rfl | exact h.elim) (fun cdv A outer s H E hr=>⟨_,(b_cons (s_fld Z_Stand.cl Z_Stand.n_length (dv 1) (dv 0))
  (b_cons (s_fld Z_Stand.cl Z_Stand.n_made_of (dv 2) (dv 0))
  (b_cons (s_fld Z_Stand.cl Z_Stand.n_firsts (dv 3) (dv 0))
  (b_one (s_fld Z_Stand.cl Z_Stand.n_closed (dv 4) (dv 0)))))),fun ds μ Kd hm hl h=>?_⟩)
 unfold fStInit at h
 split at h
 ·rename_i k n a b c
  obtain⟨em,kk⟩:=h
  have hk:k<μ.length:=(gxB em).1
  have st:∀ ns ds,(μ.set k (.ins cStand ns ds))[k]?=some (.ins cStand ns ds):=fun ns ds=>List.getElem?_set_self hk
  refine⟨_,_,insM_of em,rfl,by decide,?_⟩
  refine⟨_,_,insM_of (st _ _),rfl,by show 1<1000;decide,?_⟩
  rw[List.set_set]
  refine⟨_,_,insM_of (st _ _),rfl,by show 2<1000;decide,?_⟩
  rw[List.set_set]
  refine⟨_,_,insM_of (st _ _),rfl,by show 3<1000;decide,?_⟩
  rw[List.set_set]
  exact .keep kk
 ·exact h.elim
theorem ok_Stand_check_there {f:Addr}{fd:FuncData}(F:Fun K "check_there" "Stand.check_there" s_Stand_check_there f fd)(T:Bi2 mg)(Z_Stand:ZStand K cStand)(O_NoTake:OwnCls "NoTake" cJ veB "ValueError.__new__" mg base):FnOk P w K mg base (CX1 P w) 1 f fd ["self", "name"] (spX (fThere cStand [cA,0,0,0,cP,cD,cE,cF,cG,cH,cI,cJ,cK,cL,cM,0,0])):=by
 refine F.okX sc_Stand_check_there (fun ds μ Kd Kx h=>fThere_len h) (fun cdv A outer s H E hr φ0 Kb Z=>⟨_,(b_one (s_if (t_notinF (hu_of hr) (dv 1) (d_fld Z_Stand.cl Z_Stand.n_made_of (dv 0)) (by with_unfolding_all rfl))
  (b_one (s_raise Z rfl O_NoTake PySem.F.excBase_ValueError (by decide) PySem.F.excBase_ValueError rfl (a1 d_str)))
  b_nil)),fun ds μ m Kd Kx hm hl em h hK=>?_⟩)
 unfold fThere at h
 split at h
 ·rename_i x nm
  obtain⟨_,S,rfl,kk⟩:=h
  refine⟨rfl,_,rfl,_,ixF_k skey_inj ptD nm S.kept rfl,?_⟩
  cases e:aget S.kept nm with
  | none=>rw[e]at kk;exact⟨by show 1<=sizeLine;decide,gX_of hK em kk⟩
  | some x=>rw[e]at kk;exact .keep (gK_of em kk)
 ·exact h.elim
theorem ok_Stand_parts {f:Addr}{fd:FuncData}(F:Fun K "parts" "Stand.parts" s_Stand_parts f fd)(T:Bi2 mg)(Z_Stand:ZStand K cStand)(C_Stand_check_there:c_Stand_check_there P w K mg base):FnOk P w K mg base (CX1 P w) 2 f fd ["self", "name"] (spX (fPartsS cStand [cA,0,0,0,cP,cD,cE,cF,cG,cH,cI,cJ,cK,cL,cM,0,0])):=by
 refine F.okX sc_Stand_parts (fun ds μ Kd Kx h=>fPartsS_len h) (fun cdv A outer s H E hr φ0 Kb Z=>⟨_,(b_cons (s_expr (d_methX Z.z C_Stand_check_there Z_Stand.cl hr.le (dv 0) (a1 (dv 1))))
  (b_one (s_ret (d_ixF (hu_of hr) (d_fld Z_Stand.cl Z_Stand.n_made_of (dv 0)) (dv 1) (fun _ _=>rfl))))),fun ds μ m Kd Kx hm hl em h hK=>?_⟩)
 unfold fPartsS at h
 split at h
 ·rename_i x nm
  obtain⟨_,S,rfl,kk⟩:=h
  refine⟨⟨rfl,rfl⟩,gx_at em,⟨_,gx_at em⟩,S,rfl,?_⟩
  cases e:aget S.kept nm with
  | none=>rw[e]at kk;exact(gX_of hK em kk).2
  | some x =>
   rw[e]at kk
   exact⟨rfl,_,rfl,ptD x,by rw[ixF_k skey_inj ptD nm S.kept rfl,e];rfl,.keep (gK_of em kk)⟩
 ·exact h.elim
theorem ok_Stand_source {f:Addr}{fd:FuncData}(F:Fun K "source" "Stand.source" s_Stand_source f fd)(T:Bi2 mg)(Z_Stand:ZStand K cStand)(O_BadBar:OwnCls "BadBar" cE veB "ValueError.__new__" mg base)(C_Stand_parts:c_Stand_parts P w K mg base):FnOk P w K mg base (CX1 P w) 3 f fd ["self", "name", "bar"] (spX (fSourceS cStand [cA,0,0,0,cP,cD,cE,cF,cG,cH,cI,cJ,cK,cL,cM,0,0])):=by
 refine F.okX sc_Stand_source (fun ds μ Kd Kx h=>fSourceS_len h) (fun cdv A outer s H E hr φ0 Kb Z=>⟨_,(b_cons (qS 3 sc_Stand_source.nd (d_methX Z.z C_Stand_parts Z_Stand.cl hr.le (dv 0) (a1 (dv 1))))
  (b_cons (s_if (PW.pt (t_or (qLt (dv 2) d_int) (t_or1 (qGe (dv 2) (d_fld Z_Stand.cl Z_Stand.n_length (dv 0))))))
  (b_one (s_raise Z rfl O_BadBar PySem.F.excBase_ValueError (by decide) PySem.F.excBase_ValueError rfl (a1 d_str)))
  b_nil)
  (b_cons (qS 4 sc_Stand_source.nd d_int)
  (b_cons (s_while PassesOwn.leaving (t_notN (dv 3))
  (b_cons (s_asg (dv 3) ⟨(pg_tupC (n:=3) rfl (pgs_consC (qN 5 sc_Stand_source.nd) (pgs_consC (qN 6 sc_Stand_source.nd) (pgs_consC (qN 7 sc_Stand_source.nd) pgs_nilC)))),(so_tup (so_cons (so_name 5) (mo_name 5) (so_cons (so_name 6) (mo_name 6) (so_cons (so_name 7) (mo_name 7) so_nil mo_nil) (mo_cons (mo_name 7) mo_nil)) (mo_cons (mo_name 6) (mo_cons (mo_name 7) mo_nil)))),(mo_tup (mo_cons (mo_name 5) (mo_cons (mo_name 6) (mo_cons (mo_name 7) mo_nil))))⟩)
  (b_cons (qS 1 sc_Stand_source.nd (d_if (qLt (dv 2) (dv 7)) (dv 5) (dv 6)))
  (b_cons (qS 3 sc_Stand_source.nd (d_ixF (hu_of hr) (d_fld Z_Stand.cl Z_Stand.n_made_of (dv 0)) (dv 1) (fun _ _=>rfl)))
  (b_one (s_aug (i:=4) sc_Stand_source.nd rfl lo d_int ip_addC so_ipI))))))
  (b_one (s_ret (d_tup (a2 (dv 1) (dv 4))))))))),fun ds μ m Kd Kx hm hl em h hK=>?_⟩)
 unfold fSourceS at h
 split at h
 ·rename_i x nm bar
  obtain⟨_,S,rfl,kp,kk⟩:=h
  refine⟨⟨rfl,rfl⟩,gx_at em,⟨_,gx_at em⟩,S,rfl,?_⟩
  cases e:aget S.kept nm with
  | none=>rw[e]at kk;exact(gX_of hK em kk).2
  | some x =>
   rw[e]at kk
   refine iteD (c:=bar<0) (fun q=>⟨by show 1<=sizeLine;decide,gX_of hK em ?_⟩) (fun q1=>⟨rfl,_,rfl,iteD (c:=S.n<=bar) (fun q=>⟨by show 1<=sizeLine;decide,gX_of hK em ?_⟩) (fun q2=>?_)⟩)
   ·have kk:(if 0<=bar/\bar<S.n then Kd (srcD (srcOf S.kept nm bar)) μ else _):=kk
    rw[if_neg (by omega)]at kk;exact kk
   ·have kk:(if 0<=bar/\bar<S.n then Kd (srcD (srcOf S.kept nm bar)) μ else _):=kk
    rw[if_neg (by omega)]at kk;exact kk
   ·have kk:(if 0<=bar/\bar<S.n then Kd (srcD (srcOf S.kept nm bar)) μ else _):=kk
    rw[if_pos (by omega)]at kk
    refine⟨fun i ρ μ'=>∃(z:Str) (y:Pt) (c:Nat) (v1 v2 v3:Option D),i=idxN S.kept z/\aget S.kept z=some y/\srcOf S.kept nm bar=((srcOf S.kept z bar).1,(srcOf S.kept z bar).2+c)/\ρ=[some (sdD cStand S),some (.str z),some (.int bar),some (ptD y),some (.int (c:Int)),v1,v2,v3]/\μ'=μ.set 0 (.gx φ0 H),⟨_,nm,x,0,none,none,none,rfl,e,rfl,rfl,rfl⟩,?_⟩
    rintro i ρ μ' ⟨z,y,c,v1,v2,v3,rfl,ez,es,rfl,rfl⟩
    cases y with
    | fst b a =>
     refine⟨by show 2<=sizeLine;decide,.keep (gK_of em ?_)⟩
     rw[es,src_fstE ez,Nat.zero_add]at kk
     exact kk
    | jn l r p =>
     obtain⟨⟨yl,el⟩,⟨yr,er⟩⟩:=kp.there ez
     obtain⟨i1,i2⟩:=kp.low z l r p ez
     refine⟨rfl,?_⟩
     have ej:=src_jn kp ez bar
     refine iteD (c:=bar<p) (fun q=>?_) (fun q=>?_)
     ·rw[if_pos q]at ej
      exact⟨rfl,_,rfl,ptD yl,by rw[ixF_k skey_inj ptD l S.kept rfl,el];rfl,idxN S.kept l,i1,l,yl,c+1,_,_,_,rfl,el,by rw[es,ej];congr 1;show _+1+c=_;omega,rfl,rfl⟩
     ·rw[if_neg q]at ej
      exact⟨rfl,_,rfl,ptD yr,by rw[ixF_k skey_inj ptD r S.kept rfl,er];rfl,idxN S.kept r,i2,r,yr,c+1,_,_,_,rfl,er,by rw[es,ej];congr 1;show _+1+c=_;omega,rfl,rfl⟩
 ·exact h.elim
theorem ok_check_age {f:Addr}{fd:FuncData}(F:Fun K "check_age" "check_age" s_check_age f fd)(T:Bi2 mg)(O_BadAge:OwnCls "BadAge" cD veB "ValueError.__new__" mg base)(G_OLDEST:GInt mg "OLDEST" 20):FnOk P w K mg base (CX1 P w) 1 f fd ["age"] (spX (fAgeC [cA,0,0,0,cP,cD,cE,cF,cG,cH,cI,cJ,cK,cL,cM,0,0])):=by
 refine F.okX sc_check_age (fun ds μ Kd Kx h=>fAgeC_len h) (fun cdv A outer s H E hr φ0 Kb Z=>⟨_,(b_one (s_if (PW.pt (t_or (qLt (dv 0) d_int) (t_or1 (qGt (dv 0) (d_gint rfl G_OLDEST)))))
  (b_one (s_raise Z rfl O_BadAge PySem.F.excBase_ValueError (by decide) PySem.F.excBase_ValueError rfl (a1 d_str)))
  b_nil)),fun ds μ m Kd Kx hm hl em h hK=>?_⟩)
 unfold fAgeC at h
 split at h
 ·rename_i a
  obtain⟨_,kk⟩:=h
  unfold ageW at kk
  refine iteD (c:=a<0) (fun q=>⟨by show 1<=sizeLine;decide,gX_of hK em (by rw[if_neg (by omega)]at kk;exact kk)⟩) (fun q1=>iteD (c:=20<a) (fun q=>⟨by show 1<=sizeLine;decide,gX_of hK em (by rw[if_neg (by omega)]at kk;exact kk)⟩) (fun q2=>.keep (gK_of em (by rw[if_pos (by omega)]at kk;exact kk))))
 ·exact h.elim
theorem ok_check_place {f:Addr}{fd:FuncData}(F:Fun K "check_place" "check_place" s_check_place f fd)(T:Bi2 mg)(Z_Stand:ZStand K cStand)(O_BadPlace:OwnCls "BadPlace" cF veB "ValueError.__new__" mg base):FnOk P w K mg base (CX1 P w) 1 f fd ["stand", "place"] (spX (fPlaceC cStand [cA,0,0,0,cP,cD,cE,cF,cG,cH,cI,cJ,cK,cL,cM,0,0])):=by
 refine F.okX sc_check_place (fun ds μ Kd Kx h=>fPlaceC_len h) (fun cdv A outer s H E hr φ0 Kb Z=>⟨_,(b_one (s_if (PW.pt (t_or (qLt (dv 1) d_int) (t_or1 (qGe (dv 1) (d_fld Z_Stand.cl Z_Stand.n_length (dv 0))))))
  (b_one (s_raise Z rfl O_BadPlace PySem.F.excBase_ValueError (by decide) PySem.F.excBase_ValueError rfl (a1 d_str)))
  b_nil)),fun ds μ m Kd Kx hm hl em h hK=>?_⟩)
 unfold fPlaceC at h
 split at h
 ·rename_i x p
  obtain⟨_,S,rfl,kk⟩:=h
  unfold placeW at kk
  refine iteD (c:=p<1) (fun q=>⟨by show 1<=sizeLine;decide,gX_of hK em (by rw[if_neg (by omega)]at kk;exact kk)⟩) (fun q1=>⟨rfl,_,rfl,iteD (c:=S.n<=p) (fun q=>⟨by show 1<=sizeLine;decide,gX_of hK em (by rw[if_neg (by omega)]at kk;exact kk)⟩) (fun q2=>.keep (gK_of em (by rw[if_pos (by omega)]at kk;exact kk)))⟩)
 ·exact h.elim
theorem ok_check_new {f:Addr}{fd:FuncData}(F:Fun K "check_new" "check_new" s_check_new f fd)(T:Bi2 mg)(Z_Stand:ZStand K cStand)(O_BadName:OwnCls "BadName" cP veB "ValueError.__new__" mg base)(O_Taken:OwnCls "Taken" cH veB "ValueError.__new__" mg base)(O_Full:OwnCls "Full" cI veB "ValueError.__new__" mg base)(G_MOST_TAKES:GInt mg "MOST_TAKES" 20)(G_MOST_LETTERS:GInt mg "MOST_LETTERS" 8):FnOk P w K mg base (CX1 P w) 1 f fd ["stand", "name"] (spX (fNew cStand [cA,0,0,0,cP,cD,cE,cF,cG,cH,cI,cJ,cK,cL,cM,0,0])):=by
 refine F.okX sc_check_new (fun ds μ Kd Kx h=>fNew_len h) (fun cdv A outer s H E hr φ0 Kb Z=>⟨_,(b_cons (s_if (PW.pt (t_or (qLt (dLn T (dv 1)) d_int) (t_or (qGt (dLn T (dv 1)) (d_gint rfl G_MOST_LETTERS)) (t_or1 (t_not (d_testV (d_blt (allC rfl) so_all (by rfl) T.all PyProof.Rows.boot_all (a1 (dC1 false (cOk (N:=["sign"]) (js:=[none]) sc_check_new (by decide +kernel)) (i_str (dv 1)) (fun _ _ _ nd=>(qN 0 nd)) (fun _ _ _=>ts_nil) (fun _ _ _=>(d_chain op_le_str op_le_str so_leS so_leS d_str (dv 0) d_str)))))))))))
  (b_one (s_raise Z rfl O_BadName PySem.F.excBase_ValueError (by decide) PySem.F.excBase_ValueError rfl (a1 d_str)))
  b_nil)
  (b_cons (s_if (t_inF (hu_of hr) (dv 1) (d_fld Z_Stand.cl Z_Stand.n_made_of (dv 0)) (by with_unfolding_all rfl))
  (b_one (s_raise Z rfl O_Taken PySem.F.excBase_ValueError (by decide) PySem.F.excBase_ValueError rfl (a1 d_str)))
  b_nil)
  (b_one (s_if (qGe (d_blt lenD so_lenD (by rfl) T.len PySem.boot_len (a1 (d_fld Z_Stand.cl Z_Stand.n_made_of (dv 0)))) (d_gint rfl G_MOST_TAKES))
  (b_one (s_raise Z rfl O_Full PySem.F.excBase_ValueError (by decide) PySem.F.excBase_ValueError rfl (a1 d_str)))
  b_nil)))),fun ds μ m Kd Kx hm hl em h hK=>?_⟩)
 unfold fNew at h
 split at h
 ·rename_i x nm
  obtain⟨_,hz,S,rfl,kk⟩:=h
  have sl:nm.length<=sizeLine:=sz (by omega)
  unfold newW at kk
  have bad:namedB nm=false->Kx (.ref cP) μ:=fun q=>by rw[if_pos q]at kk;exact kk
  refine⟨sl,iteD (c:=((nm.length:Nat):Int)<1) (fun q=>⟨by show 1<=sizeLine;decide,gX_of hK em (bad ?_)⟩) (fun q1=>⟨sl,iteD (c:=(8:Int)<((nm.length:Nat):Int)) (fun q=>⟨by show 1<=sizeLine;decide,gX_of hK em (bad ?_)⟩) (fun q2=>?_)⟩)⟩
  ·unfold namedB;rw[decide_eq_false (show ¬ 1<=nm.length by omega)];rfl
  ·unfold namedB;rw[decide_eq_false (show ¬ nm.length<=8 by omega),Bool.and_false];rfl
  refine⟨by rw[gxC];exact sl,?_⟩
  refine compW_all trivial (fun c:Nat=>D.str ⟨#[c]⟩) (fun c=>D.bl (decide (97<=c)&&decide (c<=122))) (fun c _ K' k'=>?_) ?_
  ·have e1:(!decide (([c]:List Nat)<[97]))=decide (97<=c):=by rw[cmp1];by_cases q:97<=c <;> simp[q]<;> omega
   have e2:(!decide (([122]:List Nat)<[c]))=decide (c<=122):=by rw[cmp1];by_cases q:c<=122 <;> simp[q]<;> omega
   show if(!decide (([c]:List Nat)<[97]))=true then K' (some (.bl (!decide (([122]:List Nat)<[c])))) _ else K' (some (.bl false)) _
   rw[e1,e2]
   cases q:decide (97<=c)with
   | true=>rw[q]at k';exact k'
   | false=>rw[q]at k';exact k'
  ·refine⟨nm.cps.toList.map fun c=>decide (97<=c)&&decide (c<=122),by rw[List.map_map];rfl,?_⟩
   have eb:((nm.cps.toList.map fun c=>decide (97<=c)&&decide (c<=122)).all id)=namedB nm:=by rw[nameB_of q1 q2,List.all_map];rfl
   show if(!((nm.cps.toList.map fun c=>decide (97<=c)&&decide (c<=122)).all id))=true then _ else _
   rw[eb]
   cases q3:namedB nm with
   | false=>exact⟨by show 1<=sizeLine;decide,gX_of hK em (bad q3)⟩
   | true =>
    rw[if_neg (by rw[q3];exact fun z=>nomatch z)]at kk
    refine⟨rfl,_,rfl,_,ixF_k skey_inj ptD nm S.kept rfl,?_⟩
    unfold hasN at kk
    cases e:aget S.kept nm with
    | some x=>rw[e]at kk;exact⟨by show 1<=sizeLine;decide,gX_of hK em kk⟩
    | none =>
     rw[e]at kk
     refine⟨rfl,_,rfl,opt_of rfl ?_⟩
     have kk:orX _ Kd Kx (if 20<=S.kept.length then some 10 else none) .non μ:=kk
     refine iteD (c:=(20:Int)<=((S.kept.map fun p=>skey p.1).length:Nat)) (fun q=>⟨by show 1<=sizeLine;decide,gX_of hK em ?_⟩) (fun q=>.keep (gK_of em ?_))
     ·rw[gxC]at q;rw[if_pos (by omega)]at kk;exact kk
     ·rw[gxC]at q;rw[if_neg (by omega)]at kk;exact kk
 ·exact h.elim
theorem ok_put {f:Addr}{fd:FuncData}(F:Fun K "put" "put" s_put f fd)(T:Bi2 mg)(Z_Stand:ZStand K cStand)(O_BadBars:OwnCls "BadBars" cA veB "ValueError.__new__" mg base)(C_check_new:c_check_new P w K mg base)(C_is_bars:c_is_bars P w K mg base)(C_check_age:c_check_age P w K mg base)(C_with_key:c_with_key P w K mg base)(C_Stand___init__:c_Stand___init__ P w K mg base):FnOk P w K mg base (CX1 P w) 6 f fd ["stand", "row"] (spX (fDeed1 cStand [cA,0,0,0,cP,cD,cE,cF,cG,cH,cI,cJ,cK,cL,cM,0,0] 0)):=by
 refine F.okX sc_put (fun ds μ Kd Kx h=>fDeed1_len h) (fun cdv A outer s H E hr φ0 Kb Z=>⟨_,(b_cons (s_asg (dv 1) ⟨(pg_tupC (n:=4) rfl (pgs_consC (qN 2 sc_put.nd) (pgs_consC (qN 3 sc_put.nd) (pgs_consC (qN 4 sc_put.nd) (pgs_consC (qN 5 sc_put.nd) pgs_nilC))))),(so_tup (so_cons (so_name 2) (mo_name 2) (so_cons (so_name 3) (mo_name 3) (so_cons (so_name 4) (mo_name 4) (so_cons (so_name 5) (mo_name 5) so_nil mo_nil) (mo_cons (mo_name 5) mo_nil)) (mo_cons (mo_name 4) (mo_cons (mo_name 5) mo_nil))) (mo_cons (mo_name 3) (mo_cons (mo_name 4) (mo_cons (mo_name 5) mo_nil))))),(mo_tup (mo_cons (mo_name 2) (mo_cons (mo_name 3) (mo_cons (mo_name 4) (mo_cons (mo_name 5) mo_nil)))))⟩)
  (b_cons (s_expr (d_callX Z.z C_check_new hr.le rfl (a2 (dv 0) (dv 3))))
  (b_cons (s_if (t_not (d_testV (qC C_is_bars hr (a2 (d_fld Z_Stand.cl Z_Stand.n_length (dv 0)) (dv 4)))))
  (b_one (s_raise Z rfl O_BadBars PySem.F.excBase_ValueError (by decide) PySem.F.excBase_ValueError rfl (a1 d_str)))
  b_nil)
  (b_cons (s_expr (d_callX Z.z C_check_age hr.le rfl (a1 (dv 5))))
  (b_cons (qS 6 sc_put.nd (qC C_with_key hr (a3 (d_fld Z_Stand.cl Z_Stand.n_made_of (dv 0)) (dv 3) d_non)))
  (b_one (s_ret (d_fz (d_make C_Stand___init__ hr.le rfl (da_cons (d_fld Z_Stand.cl Z_Stand.n_length (dv 0)) (da_cons (dv 6) (da_cons (qC C_with_key hr (a3 (d_fld Z_Stand.cl Z_Stand.n_firsts (dv 0)) (dv 3) (d_tup (a2 (dv 4) (dv 5))))) (da_cons (d_fld Z_Stand.cl Z_Stand.n_closed (dv 0)) da_nil))))))))))))),fun ds μ m Kd Kx hm hl em h hK=>?_⟩)
 unfold fDeed1 at h
 split at h
 ·rename_i x y
  obtain⟨_,S,d,m',rfl,rfl,hw,wf,hm',hok,kk⟩:=h
  obtain⟨nm,b,a,rfl⟩:∃ nm b a,d=.put nm b a:=by cases d <;> first | exact⟨_,_,_,rfl⟩ | cases hw
  have few:=wf.few
  refine⟨rfl,gx_at em,⟨_,gx_at em⟩,hok.1,S,rfl,?_⟩
  have kk:orX _ Kd Kx ((newW S nm).or (if((b.length:Nat):Int)=S.n/\oxB b=true then ageW a else some 0)) (sdD cStand (doD S (.put nm b a))) μ:=kk
  cases e:newW S nm with
  | some i=>rw[e]at kk;exact(gX_of hK em kk).2
  | none =>
   rw[e]at kk
   refine⟨rfl,_,rfl,hok.2,iteNot (c:=((b.length:Nat):Int)=S.n/\oxB b=true) (fun q=>⟨by show 1<=sizeLine;decide,gX_of hK em ?_⟩) (fun q=>?_)⟩
   ·have kk:orX _ Kd Kx (if((b.length:Nat):Int)=S.n/\oxB b=true then ageW a else some 0) (sdD cStand (doD S (.put nm b a))) μ:=kk
    rw[if_neg q]at kk;exact kk
   ·have kk:orX _ Kd Kx (if((b.length:Nat):Int)=S.n/\oxB b=true then ageW a else some 0) (sdD cStand (doD S (.put nm b a))) μ:=kk
    rw[if_pos q]at kk
    refine⟨gx_at em,⟨_,gx_at em⟩,?_⟩
    cases e2:ageW a with
    | some i=>rw[e2]at kk;exact(gX_of hK em kk).2
    | none =>
     rw[e2]at kk
     obtain⟨n1,n2,n3⟩:=newW_none e
     refine⟨rfl,_,rfl,_,_,(kd_of skey ptD S.kept).1,(kd_of skey ptD S.kept).2,by rw[kd_len];omega,rfl,?_⟩
     have lf:(firsts S.kept).length<=20:=Nat.le_trans (List.length_filterMap_le _ _) few
     refine⟨rfl,_,rfl,rfl,_,rfl,by show 2<=sizeLine;decide,_,_,(kd_of skey tkD (firsts S.kept)).1,(kd_of skey tkD (firsts S.kept)).2,by rw[kd_len];omega,rfl,rfl,_,rfl,end_at,rfl,?_⟩
     rw[set_end]
     refine Fz.obj (Nat.le_refl _) end_at ⟨trivial,mr_dput (mr_g pt_mr _) trivial,mr_dput (mr_g tk_mr _) (tk_mr (b.cps.toList,a)),mr_sh _,trivial⟩ (old_app hm) ?_
     rw[List.take_left]
     have kk:Kd (.obj cStand sdN [.int S.n,dcG skey ptD (aput S.kept nm (.fst b.cps.toList a)),dcG skey tkD (firsts (aput S.kept nm (.fst b.cps.toList a))),shD S.shut]) μ:=kk
     rw[firsts_new wf.kp.nd n2,<- wput skey_inj ptD,<- wput skey_inj tkD]at kk
     exact .keep (gK_of em kk)
 ·exact h.elim
theorem ok_join {f:Addr}{fd:FuncData}(F:Fun K "join" "join" s_join f fd)(T:Bi2 mg)(Z_Stand:ZStand K cStand)(O_Shut:OwnCls "Shut" cK veB "ValueError.__new__" mg base)(C_check_new:c_check_new P w K mg base)(C_Stand_check_there:c_Stand_check_there P w K mg base)(C_check_place:c_check_place P w K mg base)(C_with_key:c_with_key P w K mg base)(C_Stand___init__:c_Stand___init__ P w K mg base):FnOk P w K mg base (CX1 P w) 6 f fd ["stand", "row"] (spX (fDeed1 cStand [cA,0,0,0,cP,cD,cE,cF,cG,cH,cI,cJ,cK,cL,cM,0,0] 1)):=by
 refine F.okX sc_join (fun ds μ Kd Kx h=>fDeed1_len h) (fun cdv A outer s H E hr φ0 Kb Z=>⟨_,(b_cons (s_asg (dv 1) ⟨(pg_tupC (n:=5) rfl (pgs_consC (qN 2 sc_join.nd) (pgs_consC (qN 3 sc_join.nd) (pgs_consC (qN 4 sc_join.nd) (pgs_consC (qN 5 sc_join.nd) (pgs_consC (qN 6 sc_join.nd) pgs_nilC)))))),(so_tup (so_cons (so_name 2) (mo_name 2) (so_cons (so_name 3) (mo_name 3) (so_cons (so_name 4) (mo_name 4) (so_cons (so_name 5) (mo_name 5) (so_cons (so_name 6) (mo_name 6) so_nil mo_nil) (mo_cons (mo_name 6) mo_nil)) (mo_cons (mo_name 5) (mo_cons (mo_name 6) mo_nil))) (mo_cons (mo_name 4) (mo_cons (mo_name 5) (mo_cons (mo_name 6) mo_nil)))) (mo_cons (mo_name 3) (mo_cons (mo_name 4) (mo_cons (mo_name 5) (mo_cons (mo_name 6) mo_nil)))))),(mo_tup (mo_cons (mo_name 2) (mo_cons (mo_name 3) (mo_cons (mo_name 4) (mo_cons (mo_name 5) (mo_cons (mo_name 6) mo_nil))))))⟩)
  (b_cons (s_expr (d_callX Z.z C_check_new hr.le rfl (a2 (dv 0) (dv 3))))
  (b_cons (s_expr (d_methX Z.z C_Stand_check_there Z_Stand.cl hr.le (dv 0) (a1 (dv 4))))
  (b_cons (s_expr (d_methX Z.z C_Stand_check_there Z_Stand.cl hr.le (dv 0) (a1 (dv 5))))
  (b_cons (s_expr (d_callX Z.z C_check_place hr.le rfl (a2 (dv 0) (dv 6))))
  (b_cons (s_if (t_inF (hu_of hr) (dv 6) (d_fld Z_Stand.cl Z_Stand.n_closed (dv 0)) (by with_unfolding_all rfl))
  (b_one (s_raise Z rfl O_Shut PySem.F.excBase_ValueError (by decide) PySem.F.excBase_ValueError rfl (a1 d_str)))
  b_nil)
  (b_one (s_ret (d_fz (d_make C_Stand___init__ hr.le rfl (da_cons (d_fld Z_Stand.cl Z_Stand.n_length (dv 0)) (da_cons (qC C_with_key hr (a3 (d_fld Z_Stand.cl Z_Stand.n_made_of (dv 0)) (dv 3) (d_tup (a3 (dv 4) (dv 5) (dv 6))))) (da_cons (d_fld Z_Stand.cl Z_Stand.n_firsts (dv 0)) (da_cons (d_fld Z_Stand.cl Z_Stand.n_closed (dv 0)) da_nil)))))))))))))),fun ds μ m Kd Kx hm hl em h hK=>?_⟩)
 unfold fDeed1 at h
 split at h
 ·rename_i x y
  obtain⟨_,S,d,m',rfl,rfl,hw,wf,hm',hok,kk⟩:=h
  obtain⟨nm,l,r,p,rfl⟩:∃ nm l r p,d=.join nm l r p:=by cases d <;> first | exact⟨_,_,_,_,rfl⟩ | cases hw
  have few:=wf.few
  refine⟨rfl,gx_at em,⟨_,gx_at em⟩,hok,S,rfl,?_⟩
  have kk:orX _ Kd Kx ((newW S nm).or (if hasN S l=false then some 11 else if hasN S r=false then some 11 else(placeW S p).or (if(aget S.shut p).isSome=true then some 12 else none))) (sdD cStand (doD S (.join nm l r p))) μ:=kk
  cases e:newW S nm with
  | some i=>rw[e]at kk;exact(gX_of hK em kk).2
  | none =>
   rw[e]at kk
   have kk:orX _ Kd Kx (if hasN S l=false then some 11 else if hasN S r=false then some 11 else(placeW S p).or (if(aget S.shut p).isSome=true then some 12 else none)) (sdD cStand (doD S (.join nm l r p))) μ:=kk
   refine⟨⟨rfl,rfl⟩,gx_at em,⟨_,gx_at em⟩,S,rfl,?_⟩
   unfold hasN at kk
   cases el:aget S.kept l with
   | none=>rw[el]at kk;exact(gX_of hK em kk).2
   | some yl =>
    rw[el]at kk
    refine⟨⟨rfl,rfl⟩,gx_at em,⟨_,gx_at em⟩,S,rfl,?_⟩
    cases er:aget S.kept r with
    | none=>rw[er]at kk;exact(gX_of hK em kk).2
    | some yr =>
     rw[er]at kk
     have kk:orX _ Kd Kx ((placeW S p).or (if(aget S.shut p).isSome=true then some 12 else none)) (sdD cStand (doD S (.join nm l r p))) μ:=kk
     refine⟨gx_at em,⟨_,gx_at em⟩,S,rfl,?_⟩
     cases e2:placeW S p with
     | some i=>rw[e2]at kk;exact(gX_of hK em kk).2
     | none =>
      rw[e2]at kk
      refine⟨rfl,_,rfl,_,ixF_k ikey_inj (fun _=>.bl true) p S.shut rfl,?_⟩
      cases e3:aget S.shut p with
      | some u=>rw[e3]at kk;exact⟨by show 1<=sizeLine;decide,gX_of hK em kk⟩
      | none =>
       rw[e3]at kk
       obtain⟨n1,n2,n3⟩:=newW_none e
       refine⟨rfl,_,rfl,rfl,_,rfl,by show 3<=sizeLine;decide,_,_,(kd_of skey ptD S.kept).1,(kd_of skey ptD S.kept).2,by rw[kd_len];omega,rfl,rfl,_,rfl,rfl,_,rfl,end_at,rfl,?_⟩
       rw[set_end]
       refine Fz.obj (Nat.le_refl _) end_at ⟨trivial,mr_dput (mr_g pt_mr _) (pt_mr (.jn l r p)),mr_dc tk_mr _,mr_sh _,trivial⟩ (old_app hm) ?_
       rw[List.take_left]
       have kk:Kd (.obj cStand sdN [.int S.n,dcG skey ptD (aput S.kept nm (.jn l r p)),dcG skey tkD (firsts (aput S.kept nm (.jn l r p))),shD S.shut]) μ:=kk
       rw[firsts_jn n2,<- wput skey_inj ptD]at kk
       exact .keep (gK_of em kk)
 ·exact h.elim
theorem ok_found {f:Addr}{fd:FuncData}(F:Fun K "found" "found" s_found f fd)(T:Bi2 mg)(Z_Stand:ZStand K cStand)(O_BadBars:OwnCls "BadBars" cA veB "ValueError.__new__" mg base)(C_Stand_source:c_Stand_source P w K mg base)(C_with_key:c_with_key P w K mg base)(C_Stand___init__:c_Stand___init__ P w K mg base):FnOk P w K mg base (CX1 P w) 6 f fd ["stand", "row"] (spX (fDeed1 cStand [cA,0,0,0,cP,cD,cE,cF,cG,cH,cI,cJ,cK,cL,cM,0,0] 2)):=by
 refine F.okX sc_found (fun ds μ Kd Kx h=>fDeed1_len h) (fun cdv A outer s H E hr φ0 Kb Z=>⟨_,(b_cons (s_asg (dv 1) ⟨(pg_tupC (n:=4) rfl (pgs_consC (qN 2 sc_found.nd) (pgs_consC (qN 3 sc_found.nd) (pgs_consC (qN 4 sc_found.nd) (pgs_consC (qN 5 sc_found.nd) pgs_nilC))))),(so_tup (so_cons (so_name 2) (mo_name 2) (so_cons (so_name 3) (mo_name 3) (so_cons (so_name 4) (mo_name 4) (so_cons (so_name 5) (mo_name 5) so_nil mo_nil) (mo_cons (mo_name 5) mo_nil)) (mo_cons (mo_name 4) (mo_cons (mo_name 5) mo_nil))) (mo_cons (mo_name 3) (mo_cons (mo_name 4) (mo_cons (mo_name 5) mo_nil))))),(mo_tup (mo_cons (mo_name 2) (mo_cons (mo_name 3) (mo_cons (mo_name 4) (mo_cons (mo_name 5) mo_nil)))))⟩)
  (b_cons (s_asg (d_methX Z.z C_Stand_source Z_Stand.cl hr.le (dv 0) (a2 (dv 3) (dv 4))) ⟨(pg_tupC (n:=2) rfl (pgs_consC (qN 6 sc_found.nd) (pgs_consC (qN 7 sc_found.nd) pgs_nilC))),(so_tup (so_cons (so_name 6) (mo_name 6) (so_cons (so_name 7) (mo_name 7) so_nil mo_nil) (mo_cons (mo_name 7) mo_nil))),(mo_tup (mo_cons (mo_name 6) (mo_cons (mo_name 7) mo_nil)))⟩)
  (b_cons (s_if (PW.pt (t_and (qNe (dv 5) d_str) (t_and1 (qNe (dv 5) d_str))))
  (b_one (s_raise Z rfl O_BadBars PySem.F.excBase_ValueError (by decide) PySem.F.excBase_ValueError rfl (a1 d_str)))
  b_nil)
  (b_cons (s_asg (d_ixF (hu_of hr) (d_fld Z_Stand.cl Z_Stand.n_firsts (dv 0)) (dv 6) (fun _ _=>rfl)) ⟨(pg_tupC (n:=2) rfl (pgs_consC (qN 8 sc_found.nd) (pgs_consC (qN 9 sc_found.nd) pgs_nilC))),(so_tup (so_cons (so_name 8) (mo_name 8) (so_cons (so_name 9) (mo_name 9) so_nil mo_nil) (mo_cons (mo_name 9) mo_nil))),(mo_tup (mo_cons (mo_name 8) (mo_cons (mo_name 9) mo_nil)))⟩)
  (b_cons (qS 10 sc_found.nd (d_tup (a2 (dPl (dPl (d_slice false (dv 8) o_no (o_some (dv 4))) (dv 5)) (d_slice false (dv 8) (o_some (dPl (dv 4) d_int)) o_no)) (dv 9))))
  (b_one (s_ret (d_fz (d_make C_Stand___init__ hr.le rfl (da_cons (d_fld Z_Stand.cl Z_Stand.n_length (dv 0)) (da_cons (d_fld Z_Stand.cl Z_Stand.n_made_of (dv 0)) (da_cons (qC C_with_key hr (a3 (d_fld Z_Stand.cl Z_Stand.n_firsts (dv 0)) (dv 6) (dv 10))) (da_cons (d_fld Z_Stand.cl Z_Stand.n_closed (dv 0)) da_nil))))))))))))),fun ds μ m Kd Kx hm hl em h hK=>?_⟩)
 unfold fDeed1 at h
 split at h
 ·rename_i x y
  obtain⟨_,S,d,m',rfl,rfl,hw,wf,hm',hok,kk⟩:=h
  obtain⟨nm,bar,sg,rfl⟩:∃ nm bar sg,d=.found nm bar sg:=by cases d <;> first | exact⟨_,_,_,rfl⟩ | cases hw
  have few:=wf.few
  have n2:=wf.n2
  refine⟨rfl,⟨rfl,rfl⟩,gx_at em,⟨_,gx_at em⟩,S,rfl,wf.kp,?_⟩
  have kk:orX _ Kd Kx (if hasN S nm=false then some 11 else if 0<=bar/\bar<S.n then(if sg = "o"\/sg = "x" then none else some 0)else some 6) (sdD cStand (doD S (.found nm bar sg))) μ:=kk
  unfold hasN at kk
  cases e:aget S.kept nm with
  | none=>rw[e]at kk;exact(gX_of hK em kk).2
  | some x =>
   rw[e]at kk
   have kk:orX _ Kd Kx (if 0<=bar/\bar<S.n then(if sg = "o"\/sg = "x" then none else some 0)else some 6) (sdD cStand (doD S (.found nm bar sg))) μ:=kk
   by_cases hb:0<=bar/\bar<S.n
   ·rw[if_pos hb]at kk
    show(if 0<=bar/\bar<S.n then _ else _)
    rw[if_pos hb]
    refine⟨rfl,?_⟩
    by_cases hs:sg = "o"\/sg = "x"
    ·rw[if_pos hs]at kk
     obtain⟨b,a,ef⟩:=src_fst wf.kp bar nm x e
     obtain⟨f1,f2,f3,f4⟩:=wf.fs _ b a ef
     obtain⟨o1,o2⟩:=sgn_ox hs
     have lf:(firsts S.kept).length<=20:=Nat.le_trans (List.length_filterMap_le _ _) few
     have kk:Kd (.obj cStand sdN [.int S.n,dcG skey ptD (hear S.kept (srcOf S.kept nm bar).1 bar sg),dcG skey tkD (firsts (hear S.kept (srcOf S.kept nm bar).1 bar sg)),shD S.shut]) μ:=kk
     unfold hear at kk
     rw[ef]at kk
     dsimp only at kk
     rw[firsts_old wf.kp.nd ef,<- wput skey_inj tkD,pt_again ef wf.kp.nd]at kk
     have sl:sg.length=1:=o2
     have lb:(txt b).length<=sizeLine:=by rw[txt_len];exact sz (by omega)
     have c1:=cutL_le b none (some bar)
     have c2:=cutL_le b (some (bar+1)) none
     have eh:(⟨(cutL b none (some bar)).toArray⟩++sg++⟨(cutL b (some (bar+1)) none).toArray⟩:Str)=txt (hearB b bar sg):=by
      rw[cutL_to hb.1,cutL_from (show 0<=bar+1 by omega),show(bar+1).toNat=bar.toNat+1 by omega]
      rw[app_sg,app_str,List.append_assoc]
      rfl
     have l1:(⟨(cutL b none (some bar)).toArray⟩:Str).length+sg.length<=sizeLine:=by rw[sl];show(cutL b none (some bar)).length+1<=_;exact sz (by omega)
     have l2:(⟨(cutL b none (some bar)).toArray⟩++sg:Str).length+(⟨(cutL b (some (bar+1)) none).toArray⟩:Str).length<=sizeLine:=by
      rw[app_sg]
      show(cutL b none (some bar)++sg.cps.toList).length+(cutL b (some (bar+1)) none).length<=_
      rw[gxE,o2]
      exact sz (by omega)
     have eg:ixF ((firsts S.kept).map fun p=>skey p.1) ((firsts S.kept).map fun p=>tkD p.2) (.str (srcOf S.kept nm bar).1)=some (some (tkD (b,a))):=by rw[ixF_k skey_inj tkD _ (firsts S.kept) rfl,firsts_get wf.kp.nd,ef];rfl
     refine iteNn (c1:=sg = "o") (c2:=sg = "x") (fun _=>?_) (fun z=>absurd hs z)
     refine⟨rfl,_,rfl,tkD (b,a),eg,rfl,lb,l1,lb,l2,by show 2<=sizeLine;decide,?_⟩
     refine⟨rfl,_,rfl,rfl,_,rfl,rfl,_,rfl,_,_,(kd_of skey tkD (firsts S.kept)).1,(kd_of skey tkD (firsts S.kept)).2,by rw[kd_len];omega,rfl,rfl,_,rfl,end_at,rfl,?_⟩
     rw[set_end]
     refine Fz.obj (Nat.le_refl _) end_at ⟨trivial,mr_dc pt_mr _,mr_dput (mr_g tk_mr _) ⟨trivial,trivial,trivial⟩,mr_sh _,trivial⟩ (old_app hm) ?_
     rw[List.take_left]
     refine .keep (gK_of em ?_)
     show Kd (.obj cStand sdN [.int S.n,dcG skey ptD S.kept,.fdc ((dput _ _ (.tup [.str (⟨(cutL b none (some bar)).toArray⟩++sg++⟨(cutL b (some (bar+1)) none).toArray⟩),.int a])).map (·.1)) ((dput _ _ (.tup [.str (⟨(cutL b none (some bar)).toArray⟩++sg++⟨(cutL b (some (bar+1)) none).toArray⟩),.int a])).map (·.2)),shD S.shut]) μ
     rw[eh]
     exact kk
    ·rw[if_neg hs]at kk
     exact iteDn (c:=sg = "o") (fun q1=>iteDn (c:=sg = "x") (fun q2=>⟨by show 1<=sizeLine;decide,gX_of hK em kk⟩) (fun q2=>absurd (.inr q2) hs)) (fun q1=>absurd (.inl q1) hs)
   ·rw[if_neg hb]at kk
    show(if 0<=bar/\bar<S.n then _ else _)
    rw[if_neg hb]
    exact(gX_of hK em kk).2
 ·exact h.elim
theorem ok_aged {f:Addr}{fd:FuncData}(F:Fun K "aged" "aged" s_aged f fd)(T:Bi2 mg)(Z_Stand:ZStand K cStand)(O_Joined:OwnCls "Joined" cL veB "ValueError.__new__" mg base)(C_Stand_parts:c_Stand_parts P w K mg base)(C_check_age:c_check_age P w K mg base)(C_with_key:c_with_key P w K mg base)(C_Stand___init__:c_Stand___init__ P w K mg base):FnOk P w K mg base (CX1 P w) 6 f fd ["stand", "row"] (spX (fDeed1 cStand [cA,0,0,0,cP,cD,cE,cF,cG,cH,cI,cJ,cK,cL,cM,0,0] 3)):=by
 refine F.okX sc_aged (fun ds μ Kd Kx h=>fDeed1_len h) (fun cdv A outer s H E hr φ0 Kb Z=>⟨_,(b_cons (s_asg (dv 1) ⟨(pg_tupC (n:=3) rfl (pgs_consC (qN 2 sc_aged.nd) (pgs_consC (qN 3 sc_aged.nd) (pgs_consC (qN 4 sc_aged.nd) pgs_nilC)))),(so_tup (so_cons (so_name 2) (mo_name 2) (so_cons (so_name 3) (mo_name 3) (so_cons (so_name 4) (mo_name 4) so_nil mo_nil) (mo_cons (mo_name 4) mo_nil)) (mo_cons (mo_name 3) (mo_cons (mo_name 4) mo_nil)))),(mo_tup (mo_cons (mo_name 2) (mo_cons (mo_name 3) (mo_cons (mo_name 4) mo_nil))))⟩)
  (b_cons (s_if (t_notN (d_methX Z.z C_Stand_parts Z_Stand.cl hr.le (dv 0) (a1 (dv 3))))
  (b_one (s_raise Z rfl O_Joined PySem.F.excBase_ValueError (by decide) PySem.F.excBase_ValueError rfl (a1 d_str)))
  b_nil)
  (b_cons (s_expr (d_callX Z.z C_check_age hr.le rfl (a1 (dv 4))))
  (b_cons (s_asg (d_ixF (hu_of hr) (d_fld Z_Stand.cl Z_Stand.n_firsts (dv 0)) (dv 3) (fun _ _=>rfl)) ⟨(pg_tupC (n:=2) rfl (pgs_consC (qN 5 sc_aged.nd) (pgs_consC (qN 6 sc_aged.nd) pgs_nilC))),(so_tup (so_cons (so_name 5) (mo_name 5) (so_cons (so_name 6) (mo_name 6) so_nil mo_nil) (mo_cons (mo_name 6) mo_nil))),(mo_tup (mo_cons (mo_name 5) (mo_cons (mo_name 6) mo_nil)))⟩)
  (b_one (s_ret (d_fz (d_make C_Stand___init__ hr.le rfl (da_cons (d_fld Z_Stand.cl Z_Stand.n_length (dv 0)) (da_cons (d_fld Z_Stand.cl Z_Stand.n_made_of (dv 0)) (da_cons (qC C_with_key hr (a3 (d_fld Z_Stand.cl Z_Stand.n_firsts (dv 0)) (dv 3) (d_tup (a2 (dv 5) (dv 4))))) (da_cons (d_fld Z_Stand.cl Z_Stand.n_closed (dv 0)) da_nil)))))))))))),fun ds μ m Kd Kx hm hl em h hK=>?_⟩)
 unfold fDeed1 at h
 split at h
 ·rename_i x y
  obtain⟨_,S,d,m',rfl,rfl,hw,wf,hm',hok,kk⟩:=h
  obtain⟨nm,a,rfl⟩:∃ nm a,d=.aged nm a:=by cases d <;> first | exact⟨_,_,rfl⟩ | cases hw
  have few:=wf.few
  have lf:(firsts S.kept).length<=20:=Nat.le_trans (List.length_filterMap_le _ _) few
  refine⟨rfl,⟨rfl,rfl⟩,gx_at em,⟨_,gx_at em⟩,S,rfl,?_⟩
  have kk:orX _ Kd Kx (match aget S.kept nm with | none=>some 11 | some (.jn _ _ _)=>some 13 | some (.fst _ _)=>ageW a) (sdD cStand (match aget S.kept nm with | some (.fst b _)=>{ S with kept:=aput S.kept nm (.fst b a)} | _=>S)) μ:=kk
  cases e:aget S.kept nm with
  | none=>rw[e]at kk;exact(gX_of hK em kk).2
  | some x =>
   rw[e]at kk
   cases x with
   | jn l r p=>exact⟨by show 1<=sizeLine;decide,gX_of hK em kk⟩
   | fst b a0 =>
    refine⟨gx_at em,⟨_,gx_at em⟩,?_⟩
    have kk:orX _ Kd Kx (ageW a) (sdD cStand { S with kept:=aput S.kept nm (.fst b a)}) μ:=kk
    cases e2:ageW a with
    | some i=>rw[e2]at kk;exact(gX_of hK em kk).2
    | none =>
     rw[e2]at kk
     refine⟨rfl,_,rfl,tkD (b,a0),by rw[ixF_k skey_inj tkD nm (firsts S.kept) rfl,firsts_get wf.kp.nd,e];rfl,rfl,?_⟩
     refine⟨rfl,_,rfl,rfl,_,rfl,rfl,_,rfl,by show 2<=sizeLine;decide,_,_,(kd_of skey tkD (firsts S.kept)).1,(kd_of skey tkD (firsts S.kept)).2,by rw[kd_len];omega,rfl,rfl,_,rfl,end_at,rfl,?_⟩
     rw[set_end]
     refine Fz.obj (Nat.le_refl _) end_at ⟨trivial,mr_dc pt_mr _,mr_dput (mr_g tk_mr _) (tk_mr (b,a)),mr_sh _,trivial⟩ (old_app hm) ?_
     rw[List.take_left]
     have kk:Kd (.obj cStand sdN [.int S.n,dcG skey ptD (aput S.kept nm (.fst b a)),dcG skey tkD (firsts (aput S.kept nm (.fst b a))),shD S.shut]) μ:=kk
     rw[firsts_old wf.kp.nd e,<- wput skey_inj tkD,pt_again e wf.kp.nd]at kk
     exact .keep (gK_of em kk)
 ·exact h.elim
theorem ok_drop {f:Addr}{fd:FuncData}(F:Fun K "drop" "drop" s_drop f fd)(T:Bi2 mg)(Z_Stand:ZStand K cStand)(O_Needed:OwnCls "Needed" cM veB "ValueError.__new__" mg base)(C_Stand_check_there:c_Stand_check_there P w K mg base)(C_without_key:c_without_key P w K mg base)(C_Stand___init__:c_Stand___init__ P w K mg base):FnOk P w K mg base (CX1 P w) 6 f fd ["stand", "row"] (spX (fDeed1 cStand [cA,0,0,0,cP,cD,cE,cF,cG,cH,cI,cJ,cK,cL,cM,0,0] 4)):=by
 refine F.okX sc_drop (fun ds μ Kd Kx h=>fDeed1_len h) (fun cdv A outer s H E hr φ0 Kb Z=>⟨_,(b_cons (s_asg (dv 1) ⟨(pg_tupC (n:=2) rfl (pgs_consC (qN 2 sc_drop.nd) (pgs_consC (qN 3 sc_drop.nd) pgs_nilC))),(so_tup (so_cons (so_name 2) (mo_name 2) (so_cons (so_name 3) (mo_name 3) so_nil mo_nil) (mo_cons (mo_name 3) mo_nil))),(mo_tup (mo_cons (mo_name 2) (mo_cons (mo_name 3) mo_nil)))⟩)
  (b_cons (s_expr (d_methX Z.z C_Stand_check_there Z_Stand.cl hr.le (dv 0) (a1 (dv 3))))
  (b_cons (s_if (d_testV (d_blt (anyC rfl) so_all (by rfl) T.any PyProof.Rows.boot_any (a1 (dC1 false (cOk (N:=["parts", "name"]) (js:=[none,some 3]) sc_drop (by decide +kernel)) (i_valuesF (d_fld Z_Stand.cl Z_Stand.n_made_of (dv 0))) (fun _ _ _ nd=>(qN 0 nd)) (fun _ _ _=>ts_nil) (fun _ _ _=>(d_and (d_notN (dv 0)) (d_one (d_cmp inC so_inT (dv 1) (d_sliceT (dv 0) o_no (o_some d_int)) (by with_unfolding_all rfl)))))))))
  (b_one (s_raise Z rfl O_Needed PySem.F.excBase_ValueError (by decide) PySem.F.excBase_ValueError rfl (a1 d_str)))
  b_nil)
  (b_cons (qS 4 sc_drop.nd (qC C_without_key hr (a2 (d_fld Z_Stand.cl Z_Stand.n_made_of (dv 0)) (dv 3))))
  (b_one (s_ret (d_fz (d_make C_Stand___init__ hr.le rfl (da_cons (d_fld Z_Stand.cl Z_Stand.n_length (dv 0)) (da_cons (dv 4) (da_cons (qC C_without_key hr (a2 (d_fld Z_Stand.cl Z_Stand.n_firsts (dv 0)) (dv 3))) (da_cons (d_fld Z_Stand.cl Z_Stand.n_closed (dv 0)) da_nil)))))))))))),fun ds μ m Kd Kx hm hl em h hK=>?_⟩)
 unfold fDeed1 at h
 split at h
 ·rename_i x y
  obtain⟨_,S,d,m',rfl,rfl,hw,wf,hm',hok,kk⟩:=h
  obtain⟨nm,rfl⟩:∃ nm,d=.drop nm:=by cases d <;> first | exact⟨_,rfl⟩ | cases hw
  have few:=wf.few
  have lf:(firsts S.kept).length<=20:=Nat.le_trans (List.length_filterMap_le _ _) few
  refine⟨rfl,⟨rfl,rfl⟩,gx_at em,⟨_,gx_at em⟩,S,rfl,?_⟩
  have kk:orX _ Kd Kx (if hasN S nm=false then some 11 else if needN S nm=true then some 14 else none) (sdD cStand { S with kept:=adrop S.kept nm}) μ:=kk
  unfold hasN at kk
  cases e:aget S.kept nm with
  | none=>rw[e]at kk;exact(gX_of hK em kk).2
  | some x =>
   rw[e]at kk
   have kk:orX _ Kd Kx (if needN S nm=true then some 14 else none) (sdD cStand { S with kept:=adrop S.kept nm}) μ:=kk
   refine⟨rfl,_,rfl,fun _=>⟨by rw[gxC];exact sz (by omega),?_⟩⟩
   refine compW_all trivial (fun p:Str×Pt=>ptD p.2) (fun p=>D.bl (isNeed nm p.2)) (fun p _ K' k'=>?_) ?_
   ·obtain⟨z,y⟩:=p
    cases y with
    | fst b a=>exact k'
    | jn l r q =>
     refine⟨fun y=>absurd y.2 (show ¬ (2:Nat)=3 by decide),rfl,rfl,?_⟩
     have eb:(false != ([D.str l,D.str r].any fun d=>deq d (.str nm)))=isNeed nm (.jn l r q):=by
      rw[fne]
      simp only[List.any_cons,List.any_nil,deq,Bool.or_false]
      rfl
     show K' (some (.bl (false != ([D.str l,D.str r].any fun d=>deq d (.str nm))))) _
     rw[eb]
     exact k'
   ·refine⟨S.kept.map fun p=>isNeed nm p.2,by rw[List.map_map];rfl,?_⟩
    have eb:((S.kept.map fun p=>isNeed nm p.2).any id)=needN S nm:=by rw[List.any_map];rfl
    show if((S.kept.map fun p=>isNeed nm p.2).any id)=true then _ else _
    rw[eb]
    by_cases q:needN S nm=true
    ·rw[if_pos q]at kk ⊢
     exact⟨by show 1<=sizeLine;decide,gX_of hK em kk⟩
    ·rw[if_neg q]at kk ⊢
     have sk:∀ {β:Type} {f:β->D} {l:List (Str×β)},∀ p∈(l.map fun p=>(skey p.1,f p.2)),(∃ i j,p.1=ikey i/\skey nm=ikey j)\/∃ i j,p.1=skey i/\skey nm=skey j:=fun p hp=>by
      obtain⟨z,_,rfl⟩:=List.mem_map.mp hp;exact .inr ⟨_,_,rfl,rfl⟩
     have nf:((firsts S.kept).map (·.1)).Nodup:=wf.kp.nd.sublist firsts_sub
     refine⟨rfl,_,rfl,_,_,(kd_of skey ptD S.kept).1,(kd_of skey ptD S.kept).2,by rw[kd_len];omega,kd_nd skey_inj ptD wf.kp.nd,rfl,sk,?_⟩
     refine⟨rfl,_,rfl,rfl,_,rfl,_,_,(kd_of skey tkD (firsts S.kept)).1,(kd_of skey tkD (firsts S.kept)).2,by rw[kd_len];omega,kd_nd skey_inj tkD nf,rfl,sk,rfl,_,rfl,end_at,rfl,?_⟩
     rw[set_end]
     have mf:∀ {β:Type} {n:Nat} {f:β->D} (hf:∀ b,mrB n (f b)) (l:List (Str×β)),mrL n (((l.map fun p=>(skey p.1,f p.2)).filter fun p=>decide (p.1≠skey nm)).map (·.2)):=fun hf l=>mr_all fun d hd=>by
      obtain⟨z,hz,rfl⟩:=List.mem_map.mp hd
      obtain⟨z2,_,rfl⟩:=List.mem_map.mp (List.mem_filter.mp hz).1
      exact hf _
     refine Fz.obj (Nat.le_refl _) end_at ⟨trivial,mf pt_mr _,mf tk_mr _,mr_sh _,trivial⟩ (old_app hm) ?_
     rw[List.take_left]
     have kk:Kd (.obj cStand sdN [.int S.n,dcG skey ptD (adrop S.kept nm),dcG skey tkD (firsts (adrop S.kept nm)),shD S.shut]) μ:=kk
     rw[firsts_drop,<- wdrop skey_inj,<- wdrop skey_inj]at kk
     exact .keep (gK_of em kk)
 ·exact h.elim
theorem ok_free {f:Addr}{fd:FuncData}(F:Fun K "free" "free" s_free f fd)(T:Bi2 mg)(Z_Stand:ZStand K cStand)(C_check_place:c_check_place P w K mg base)(C_without_key:c_without_key P w K mg base)(C_Stand___init__:c_Stand___init__ P w K mg base):FnOk P w K mg base (CX1 P w) 6 f fd ["stand", "row"] (spX (fDeed1 cStand [cA,0,0,0,cP,cD,cE,cF,cG,cH,cI,cJ,cK,cL,cM,0,0] 5)):=by
 refine F.okX sc_free (fun ds μ Kd Kx h=>fDeed1_len h) (fun cdv A outer s H E hr φ0 Kb Z=>⟨_,(b_cons (s_asg (dv 1) ⟨(pg_tupC (n:=2) rfl (pgs_consC (qN 2 sc_free.nd) (pgs_consC (qN 3 sc_free.nd) pgs_nilC))),(so_tup (so_cons (so_name 2) (mo_name 2) (so_cons (so_name 3) (mo_name 3) so_nil mo_nil) (mo_cons (mo_name 3) mo_nil))),(mo_tup (mo_cons (mo_name 2) (mo_cons (mo_name 3) mo_nil)))⟩)
  (b_cons (s_expr (d_callX Z.z C_check_place hr.le rfl (a2 (dv 0) (dv 3))))
  (b_one (s_ret (d_fz (d_make C_Stand___init__ hr.le rfl (da_cons (d_fld Z_Stand.cl Z_Stand.n_length (dv 0)) (da_cons (d_fld Z_Stand.cl Z_Stand.n_made_of (dv 0)) (da_cons (d_fld Z_Stand.cl Z_Stand.n_firsts (dv 0)) (da_cons (qC C_without_key hr (a2 (d_fld Z_Stand.cl Z_Stand.n_closed (dv 0)) (dv 3))) da_nil)))))))))),fun ds μ m Kd Kx hm hl em h hK=>?_⟩)
 unfold fDeed1 at h
 split at h
 ·rename_i x y
  obtain⟨_,S,d,m',rfl,rfl,hw,wf,hm',hok,kk⟩:=h
  obtain⟨p,rfl⟩:∃ p,d=.free p:=by cases d <;> first | exact⟨_,rfl⟩ | cases hw
  have shl:=wf.shl
  refine⟨rfl,gx_at em,⟨_,gx_at em⟩,S,rfl,?_⟩
  have kk:orX _ Kd Kx (placeW S p) (sdD cStand { S with shut:=adrop S.shut p}) μ:=kk
  cases e:placeW S p with
  | some i=>rw[e]at kk;exact(gX_of hK em kk).2
  | none =>
   rw[e]at kk
   refine⟨rfl,_,rfl,rfl,_,rfl,rfl,_,rfl,rfl,_,rfl,_,_,(kd_of ikey (fun _=>.bl true) S.shut).1,(kd_of ikey (fun _=>.bl true) S.shut).2,by rw[gxC];omega,kd_nd ikey_inj (fun _:Unit=>D.bl true) wf.shn,rfl,fun q hq=>?_,end_at,rfl,?_⟩
   ·obtain⟨z,_,rfl⟩:=List.mem_map.mp hq;exact .inl ⟨_,_,rfl,rfl⟩
   rw[set_end]
   refine Fz.obj (Nat.le_refl _) end_at ⟨trivial,mr_dc pt_mr _,mr_dc tk_mr _,mr_all fun d hd=>?_,trivial⟩ (old_app hm) ?_
   ·obtain⟨z,hz,rfl⟩:=List.mem_map.mp hd
    obtain⟨z2,_,rfl⟩:=List.mem_map.mp (List.mem_filter.mp hz).1
    exact True.intro
   rw[List.take_left]
   have kk:Kd (.obj cStand sdN [.int S.n,dcG skey ptD S.kept,dcG skey tkD (firsts S.kept),dcG ikey (fun _=>.bl true) (adrop S.shut p)]) μ:=kk
   rw[<- wdrop ikey_inj]at kk
   exact .keep (gK_of em kk)
 ·exact h.elim
theorem ok_shut {f:Addr}{fd:FuncData}(F:Fun K "shut" "shut" s_shut f fd)(T:Bi2 mg)(Z_Stand:ZStand K cStand)(C_check_place:c_check_place P w K mg base)(C_with_key:c_with_key P w K mg base)(C_Stand___init__:c_Stand___init__ P w K mg base):FnOk P w K mg base (CX1 P w) 6 f fd ["stand", "row"] (spX (fDeed1 cStand [cA,0,0,0,cP,cD,cE,cF,cG,cH,cI,cJ,cK,cL,cM,0,0] 6)):=by
 refine F.okX sc_shut (fun ds μ Kd Kx h=>fDeed1_len h) (fun cdv A outer s H E hr φ0 Kb Z=>⟨_,(b_cons (s_asg (dv 1) ⟨(pg_tupC (n:=2) rfl (pgs_consC (qN 2 sc_shut.nd) (pgs_consC (qN 3 sc_shut.nd) pgs_nilC))),(so_tup (so_cons (so_name 2) (mo_name 2) (so_cons (so_name 3) (mo_name 3) so_nil mo_nil) (mo_cons (mo_name 3) mo_nil))),(mo_tup (mo_cons (mo_name 2) (mo_cons (mo_name 3) mo_nil)))⟩)
  (b_cons (s_expr (d_callX Z.z C_check_place hr.le rfl (a2 (dv 0) (dv 3))))
  (b_one (s_ret (d_fz (d_make C_Stand___init__ hr.le rfl (da_cons (d_fld Z_Stand.cl Z_Stand.n_length (dv 0)) (da_cons (d_fld Z_Stand.cl Z_Stand.n_made_of (dv 0)) (da_cons (d_fld Z_Stand.cl Z_Stand.n_firsts (dv 0)) (da_cons (qC C_with_key hr (a3 (d_fld Z_Stand.cl Z_Stand.n_closed (dv 0)) (dv 3) d_bl)) da_nil)))))))))),fun ds μ m Kd Kx hm hl em h hK=>?_⟩)
 unfold fDeed1 at h
 split at h
 ·rename_i x y
  obtain⟨_,S,d,m',rfl,rfl,hw,wf,hm',hok,kk⟩:=h
  obtain⟨p,rfl⟩:∃ p,d=.shut p:=by cases d <;> first | exact⟨_,rfl⟩ | cases hw
  have shl:=wf.shl
  refine⟨rfl,gx_at em,⟨_,gx_at em⟩,S,rfl,?_⟩
  have kk:orX _ Kd Kx (placeW S p) (sdD cStand { S with shut:=aput S.shut p ()}) μ:=kk
  cases e:placeW S p with
  | some i=>rw[e]at kk;exact(gX_of hK em kk).2
  | none =>
   rw[e]at kk
   refine⟨rfl,_,rfl,rfl,_,rfl,rfl,_,rfl,rfl,_,rfl,_,_,(kd_of ikey (fun _=>.bl true) S.shut).1,(kd_of ikey (fun _=>.bl true) S.shut).2,by rw[gxC];omega,rfl,end_at,rfl,?_⟩
   rw[set_end]
   refine Fz.obj (Nat.le_refl _) end_at ⟨trivial,mr_dc pt_mr _,mr_dc tk_mr _,mr_dput (mr_g (f:=fun _:Unit=>D.bl true) (fun _=>True.intro) _) True.intro,trivial⟩ (old_app hm) ?_
   rw[List.take_left]
   have kk:Kd (.obj cStand sdN [.int S.n,dcG skey ptD S.kept,dcG skey tkD (firsts S.kept),dcG ikey (fun _=>.bl true) (aput S.shut p ())]) μ:=kk
   rw[<- wput ikey_inj (fun _:Unit=>D.bl true)]at kk
   exact .keep (gK_of em kk)
 ·exact h.elim
theorem ok_stand_behind {f:Addr}{fd:FuncData}(F:Fun K "stand_behind" "stand_behind" s_stand_behind f fd)(T:Bi2 mg)(T_DEEDS:Tab P w K mg "DEEDS" [("put",a_put),("join",a_join),("found",a_found),("aged",a_aged),("drop",a_drop),("free",a_free),("shut",a_shut)])(M_put:mg "put"=some (.ref a_put))(M_join:mg "join"=some (.ref a_join))(M_found:mg "found"=some (.ref a_found))(M_aged:mg "aged"=some (.ref a_aged))(M_drop:mg "drop"=some (.ref a_drop))(M_free:mg "free"=some (.ref a_free))(M_shut:mg "shut"=some (.ref a_shut))(C_put:c_put P w K mg base)(C_join:c_join P w K mg base)(C_found:c_found P w K mg base)(C_aged:c_aged P w K mg base)(C_drop:c_drop P w K mg base)(C_free:c_free P w K mg base)(C_shut:c_shut P w K mg base):FnOk P w K mg base (CX1 P w) 7 f fd ["stand", "row"] (spX (fBehindS cStand [cA,0,0,0,cP,cD,cE,cF,cG,cH,cI,cJ,cK,cL,cM,0,0])):=by
 have CV:=calv_cons C_put M_put (calv_cons C_join M_join (calv_cons C_found M_found (calv_cons C_aged M_aged (calv_cons C_drop M_drop (calv_cons C_free M_free (calv_cons C_shut M_shut calv_nil))))))
 refine F.okX sc_stand_behind (fun ds μ Kd Kx h=>fBehindS_len h) (fun cdv A outer s H E hr φ0 Kb Z=>⟨_,(b_cons (qS 2 sc_stand_behind.nd (d_tab T_DEEDS rfl (dIX (dv 1) d_int) (fun _ _=>rfl)))
  (b_one (s_ret (d_callV (i:=2) Z.z CV hr.le rfl (by first | exact Or.inl rfl | exact Or.inr (Or.inl rfl) | exact Or.inr (Or.inr rfl)) (a2 (dv 0) (dv 1)))))),fun ds μ m Kd Kx hm hl em h hK=>?_⟩)
 unfold fBehindS at h
 split at h
 ·rename_i x y
  obtain⟨_,S,d,m',rfl,rfl,wf,hm',hok,kk⟩:=h
  have kk:orX [cA,0,0,0,cP,cD,cE,cF,cG,cH,cI,cJ,cK,cL,cM,0,0] (gK φ0 H m Kd) Kb (refW S d) (sdD cStand (doD S d)) (μ.set 0 (.gx φ0 H)):=by
   unfold orX at kk ⊢
   cases e:refW S d with
   | some i=>rw[e]at kk;exact(gX_of hK em kk).2
   | none=>rw[e]at kk;exact gK_of em kk
  have fin:∀ w,ddW d=w->fDeed1 cStand [cA,0,0,0,cP,cD,cE,cF,cG,cH,cI,cJ,cK,cL,cM,0,0] w [sdD cStand S,ddD d] (μ.set 0 (.gx φ0 H)) (retN (μ.set 0 (.gx φ0 H)).length (gK φ0 H m Kd)).rt Kb:=fun w hw=>⟨⟨_,gx_at em⟩,S,d,m',rfl,rfl,hw,wf,hm',hok,by
   unfold orX at kk ⊢
   cases e:refW S d with
   | some i=>rw[e]at kk;exact kk
   | none=>rw[e]at kk;exact .keep kk⟩
  cases d with
  | put nm b a=>exact opt_of rfl ⟨a_put,rfl,_,List.mem_cons_self,gx_at em,fin 0 rfl⟩
  | join nm l r p=>exact opt_of rfl ⟨a_join,rfl,_,gxI _ List.mem_cons_self,gx_at em,fin 1 rfl⟩
  | found nm b a=>exact opt_of rfl ⟨a_found,rfl,_,gxI _ (gxI _ List.mem_cons_self),gx_at em,fin 2 rfl⟩
  | aged nm b=>exact opt_of rfl ⟨a_aged,rfl,_,gxI _ (gxI _ (gxI _ List.mem_cons_self)),gx_at em,fin 3 rfl⟩
  | drop nm=>exact opt_of rfl ⟨a_drop,rfl,_,gxI _ (gxI _ (gxI _ (gxI _ List.mem_cons_self))),gx_at em,fin 4 rfl⟩
  | free nm=>exact opt_of rfl ⟨a_free,rfl,_,gxI _ (gxI _ (gxI _ (gxI _ (gxI _ List.mem_cons_self)))),gx_at em,fin 5 rfl⟩
  | shut nm=>exact opt_of rfl ⟨a_shut,rfl,_,gxI _ (gxI _ (gxI _ (gxI _ (gxI _ (gxI _ List.mem_cons_self))))),gx_at em,fin 6 rfl⟩
 ·exact h.elim
theorem ok_Room___init__ {f:Addr}{fd:FuncData}(F:Fun K "__init__" "Room.__init__" s_Room___init__ f fd)(T:Bi2 mg)(Z_Room:ZRoom K cRoom)(Z_Stand:ZStand K cStand)(O_BadSize:OwnCls "BadSize" cG veB "ValueError.__new__" mg base)(G_LONGEST:GInt mg "LONGEST" 40)(C_Stand___init__:c_Stand___init__ P w K mg base):FnOk P w K mg base (CX1 P w) 3 f fd ["self", "size"] (spX (fRoInit cRoom cStand [cA,0,0,0,cP,cD,cE,cF,cG,cH,cI,cJ,cK,cL,cM,0,0])):=by
 refine F.okX sc_Room___init__ (fun ds μ Kd Kx h=>fRoInit_len h) (fun cdv A outer s H E hr φ0 Kb Z=>⟨_,(b_cons (s_if (PW.pt (t_or (qLt (dv 1) d_int) (t_or1 (qGt (dv 1) (d_gint rfl G_LONGEST)))))
  (b_one (s_raise Z rfl O_BadSize PySem.F.excBase_ValueError (by decide) PySem.F.excBase_ValueError rfl (a1 d_str)))
  b_nil)
  (b_cons (s_fld Z_Room.cl Z_Room.n_stands (d_lst true (a1 (d_fz (d_make C_Stand___init__ hr.le rfl (da_cons (dv 1) (da_cons d_dnewF (da_cons d_dnewF (da_cons d_dnewF da_nil)))))))) (dv 0))
  (b_cons (s_fld Z_Room.cl Z_Room.n_rows (d_lst true da_nil) (dv 0))
  (b_one (s_fld Z_Room.cl Z_Room.n_done d_int (dv 0)))))),fun ds μ m Kd Kx hm hl em h hK=>?_⟩)
 unfold fRoInit at h
 split at h
 ·rename_i k n
  obtain⟨_,k0,ek,kk⟩:=h
  refine iteD (c:=n<1) (fun q=>⟨by show 1<=sizeLine;decide,gX_of hK em (by rw[if_neg (by omega)]at kk;exact kk)⟩) (fun q1=>iteD (c:=(40:Int)<n) (fun q=>⟨by show 1<=sizeLine;decide,gX_of hK em (by rw[if_neg (by omega)]at kk;exact kk)⟩) (fun q2=>?_))
  rw[if_pos (by omega)]at kk
  have hk:k<μ.length:=(gxB ek).1
  have hkg:k<(μ.set 0 (.gx φ0 H)).length:=by rw[List.length_set];exact hk
  have eg:(μ.set 0 (.gx φ0 H))[k]?=some (.ins cRoom [] []):=by rw[List.getElem?_set_ne (Ne.symm k0)];exact ek
  refine⟨end_at,rfl,?_⟩
  rw[set_end]
  refine Fz.obj (Nat.le_refl _) end_at ⟨trivial,trivial,trivial,trivial,trivial⟩ (old_app hm) ?_
  rw[List.take_left]
  refine⟨by show 1<=sizeLine;decide,?_⟩
  refine⟨_,_,insM_of (by rw[gxF hkg];exact eg),rfl,by decide,?_⟩
  rw[List.set_append_left _ _ hkg]
  refine⟨by show 0<=sizeLine;decide,?_⟩
  have hk2:∀ X:MO,k<((μ.set 0 (.gx φ0 H)).set k X).length:=fun X=>by rw[List.length_set];exact hkg
  refine⟨_,_,insM_of (by rw[List.append_assoc,gxF (hk2 _),List.getElem?_set_self hkg]),rfl,by show 1<1000;decide,?_⟩
  rw[List.append_assoc,List.set_append_left _ _ (hk2 _),List.set_set]
  refine⟨_,_,insM_of (by rw[gxF (hk2 _),List.getElem?_set_self hkg]),rfl,by show 2<1000;decide,.keep ?_⟩
  rw[List.set_append_left _ _ (hk2 _),List.set_set]
  have h0:0<μ.length:=(gxB em).1
  refine⟨by rw[gxF (by rw[List.length_set,List.length_set];exact h0),List.getElem?_set_ne k0,List.getElem?_set_self h0],?_⟩
  rw[List.set_append_left _ _ (by rw[List.length_set,List.length_set];exact h0),List.set_comm _ _ k0,gx_back em]
  have l0:(μ.set 0 (.gx φ0 H)).length=μ.length:=List.length_set
  show Kd .non (μ.set k (.ins cRoom roN [.mr (μ.set 0 (.gx φ0 H)).length,.mr ((μ.set 0 (.gx φ0 H)).set k _++[_]).length,.int 0])++[.lst [sdD cStand ⟨n,[],[]⟩],.lst []])
  simp only[gxE,List.length_set,List.length_singleton]
  exact kk
 ·exact h.elim
theorem ok_Room_now {f:Addr}{fd:FuncData}(F:Fun K "now" "Room.now" s_Room_now f fd)(T:Bi2 mg)(Z_Room:ZRoom K cRoom):FnOk P w K mg base CX0 1 f fd ["self"] (spD (fNow cRoom cStand)):=by
 refine F.okD sc_Room_now (fun ds μ Kd h=>by unfold fNow at h;split at h <;> first | rfl | exact h.elim) (fun cdv A outer s H E hr=>⟨_,(b_one (s_ret (dIX (d_fld Z_Room.cl Z_Room.n_stands (dv 0)) (d_fld Z_Room.cl Z_Room.n_done (dv 0))))),fun ds μ Kd hm hl h=>?_⟩)
 unfold fNow at h
 split at h
 ·rename_i k
  obtain⟨j1,j2,ss,rs,d,S,ra,es,kk⟩:=h
  exact⟨.mr j1,by rw[insM_of ra.ins];rfl,.int d,by rw[insM_of ra.ins];rfl,opt_of (lvM_of ra.l1) (opt_of (atI_maps es) (Fz.keep kk))⟩
 ·exact h.elim
theorem ok_Room_deed {f:Addr}{fd:FuncData}(F:Fun K "deed" "Room.deed" s_Room_deed f fd)(T:Bi2 mg)(Z_Room:ZRoom K cRoom)(C_Room_now:c_Room_now P w K mg base)(C_stand_behind:c_stand_behind P w K mg base):FnOk P w K mg base (CX1 P w) 8 f fd ["self", "row"] (spX (fDeedR cRoom cStand [cA,0,0,0,cP,cD,cE,cF,cG,cH,cI,cJ,cK,cL,cM,0,0])):=by
 refine F.okX sc_Room_deed (fun ds μ Kd Kx h=>fDeedR_len h) (fun cdv A outer s H E hr φ0 Kb Z=>⟨_,(b_cons (qS 2 sc_Room_deed.nd (d_callX Z.z C_stand_behind hr.le rfl (a2 (d_meth0 C_Room_now Z_Room.cl hr.le (dv 0)) (dv 1))))
  (b_cons (s_slE (d_fld Z_Room.cl Z_Room.n_stands (dv 0)) (dPl (d_fld Z_Room.cl Z_Room.n_done (dv 0)) d_int) (d_lst false (a1 (dv 2))))
  (b_cons (s_slE (d_fld Z_Room.cl Z_Room.n_rows (dv 0)) (d_fld Z_Room.cl Z_Room.n_done (dv 0)) (d_lst false (a1 (dv 1))))
  (b_one (s_augFA Z_Room.cl Z_Room.n_done (dv 0) d_int))))),fun ds μ m Kd Kx hm hl em h hK=>?_⟩)
 unfold fDeedR at h
 split at h
 ·rename_i k y
  obtain⟨_,j1,j2,ss,rs,d,S,e,ra,es,rfl,hok,few,kk⟩:=h
  have rg:=ra.gx (m:=.gx φ0 H)
  obtain⟨S',es',wf⟩:=ra.now
  rw[es]at es'
  cases es'
  have:=ra.le
  have:=ra.len
  have rc:recvD cRoom "now" (μ.set 0 (.gx φ0 H)) (.mr k):=by show(insM _ _ _).map _=_;rw[insM_of rg.ins];rfl
  refine⟨rc,j1,j2,ss,rs,d,S,rg,es,gx_at em,⟨_,gx_at em⟩,S,e,d,rfl,rfl,wf,by omega,hok,?_⟩
  unfold orX
  cases er:refW S e with
  | some i=>rw[er]at kk;exact(gX_of hK em kk).2
  | none =>
   rw[er]at kk
   obtain⟨lk,la,lb⟩:=rg.lk
   have few2:=ra.few
   have f1:∀ {ν:MS},ν[k]?=some (.ins cRoom roN [.mr j1,.mr j2,.int (d:Int)])->insM cRoom ν k=some (roN,[.mr j1,.mr j2,.int (d:Int)]):=fun h=>insM_of h
   refine⟨by show 1<=sizeLine;decide,.mr j1,by rw[f1 rg.ins];rfl,.int d,by rw[f1 rg.ins];rfl,_,lvM_of rg.l1,by omega,by rw[gxC];omega,by rw[gxC];exact sz (by show _+1<=_;omega),?_⟩
   have i1:∀ X,((μ.set 0 (.gx φ0 H)).set j1 X)[k]?=some (.ins cRoom roN [.mr j1,.mr j2,.int (d:Int)]):=fun X=>by rw[List.getElem?_set_ne (Ne.symm ra.ka)];exact rg.ins
   refine⟨by show 1<=sizeLine;decide,.mr j2,by rw[f1 (i1 _)];rfl,.int d,by rw[f1 (i1 _)];rfl,_,lvM_of (by rw[List.getElem?_set_ne ra.ab];exact rg.l2),by omega,by rw[gxC];omega,by rw[gxC];exact sz (by show _+1<=_;omega),?_⟩
   have i2:∀ X Y,(((μ.set 0 (.gx φ0 H)).set j1 X).set j2 Y)[k]?=some (.ins cRoom roN [.mr j1,.mr j2,.int (d:Int)]):=fun X Y=>by rw[List.getElem?_set_ne (Ne.symm ra.kb)];exact i1 X
   refine⟨d,by rw[f1 (i2 _ _)];rfl,_,_,f1 (i2 _ _),rfl,by show 3<1000;decide,.keep ?_⟩
   obtain⟨g1,g2⟩:=putR_gx ra (m:=.gx φ0 H) (ss':=ss.take (d+1)++[doD S e]) (rs':=rs.take d++[e]) (d':=d+1) em
   have eq:((((μ.set 0 (.gx φ0 H)).set j1 (.lst ((ss.map (sdD cStand)).take ((d:Int)+1).toNat++[sdD cStand (doD S e)]))).set j2 (.lst ((rs.map ddD).take (d:Int).toNat++[ddD e]))).set k (.ins cRoom roN [.mr j1,.mr j2,.int ((d:Int)+1)]))=putR cRoom cStand (μ.set 0 (.gx φ0 H)) k j1 j2 (ss.take (d+1)++[doD S e]) (rs.take d++[e]) (d+1):=by
    unfold putR
    rw[List.map_append,List.map_append,List.map_take,List.map_take,show((d:Int)+1).toNat=d+1 by omega,gxK]
    rfl
   show gK φ0 H m Kd .non ((((μ.set 0 (.gx φ0 H)).set j1 (.lst ((ss.map (sdD cStand)).take ((d:Int)+1).toNat++[sdD cStand (doD S e)]))).set j2 (.lst ((rs.map ddD).take (d:Int).toNat++[ddD e]))).set k (.ins cRoom roN [.mr j1,.mr j2,.int ((d:Int)+1)]))
   rw[eq]
   exact⟨g2,by rw[g1];exact kk⟩
 ·exact h.elim
theorem ok_Room_deeds {f:Addr}{fd:FuncData}(F:Fun K "deeds" "Room.deeds" s_Room_deeds f fd)(T:Bi2 mg)(Z_Room:ZRoom K cRoom):FnOk P w K mg base CX0 1 f fd ["self"] (spD (fRowsR cRoom cStand true)):=by
 refine F.okD sc_Room_deeds (fun ds μ Kd h=>by unfold fRowsR at h;split at h <;> first | rfl | exact h.elim) (fun cdv A outer s H E hr=>⟨_,(b_one (s_ret (d_slice false (d_fld Z_Room.cl Z_Room.n_rows (dv 0)) o_no (o_some (d_fld Z_Room.cl Z_Room.n_done (dv 0)))))),fun ds μ Kd hm hl h=>?_⟩)
 unfold fRowsR at h
 split at h
 ·rename_i k
  obtain⟨j1,j2,ss,rs,d,ra,kk⟩:=h
  refine⟨_,by rw[insM_of ra.ins];rfl,_,by rw[insM_of ra.ins];rfl,opt_of (lvM_of ra.l2) ?_⟩
  rw[cutD_to]
  rw[if_pos rfl]at kk
  exact .keep kk
 ·exact h.elim
theorem ok_Room_ahead {f:Addr}{fd:FuncData}(F:Fun K "ahead" "Room.ahead" s_Room_ahead f fd)(T:Bi2 mg)(Z_Room:ZRoom K cRoom):FnOk P w K mg base CX0 1 f fd ["self"] (spD (fRowsR cRoom cStand false)):=by
 refine F.okD sc_Room_ahead (fun ds μ Kd h=>by unfold fRowsR at h;split at h <;> first | rfl | exact h.elim) (fun cdv A outer s H E hr=>⟨_,(b_one (s_ret (d_slice false (d_fld Z_Room.cl Z_Room.n_rows (dv 0)) (o_some (d_fld Z_Room.cl Z_Room.n_done (dv 0))) o_no))),fun ds μ Kd hm hl h=>?_⟩)
 unfold fRowsR at h
 split at h
 ·rename_i k
  obtain⟨j1,j2,ss,rs,d,ra,kk⟩:=h
  refine⟨_,by rw[insM_of ra.ins];rfl,_,by rw[insM_of ra.ins];rfl,opt_of (lvM_of ra.l2) ?_⟩
  rw[cutD_from]
  rw[if_neg (by decide)]at kk
  exact .keep kk
 ·exact h.elim
theorem ok_Room_size {f:Addr}{fd:FuncData}(F:Fun K "size" "Room.size" s_Room_size f fd)(T:Bi2 mg)(Z_Room:ZRoom K cRoom)(Z_Stand:ZStand K cStand)(C_Room_now:c_Room_now P w K mg base):FnOk P w K mg base CX0 2 f fd ["self"] (spD (fOfNow cRoom cStand gSize)):=by
 refine F.okD sc_Room_size (fun ds μ Kd h=>by unfold fOfNow at h;split at h <;> first | rfl | exact h.elim) (fun cdv A outer s H E hr=>⟨_,(b_one (s_ret (d_fld Z_Stand.cl Z_Stand.n_length (d_meth0 C_Room_now Z_Room.cl hr.le (dv 0))))),fun ds μ Kd hm hl h=>?_⟩)
 unfold fOfNow at h
 split at h
 ·rename_i k
  obtain⟨j1,j2,ss,rs,d,S,ra,es,kk⟩:=h
  exact⟨by show(insM _ _ _).map _=_;rw[insM_of ra.ins];rfl,j1,j2,ss,rs,d,S,ra,es,rfl,_,rfl,.keep kk⟩
 ·exact h.elim
theorem inv_names {ds:List D}{μ:MS}{Kd:DK}(h:fNamesL ds μ Kd):∃ v0 v1,ds=[.mr v0,.int v1]:=by
 unfold fNamesL at h
 rcases ds with _ | ⟨z0,ds⟩
 ·exact False.elim h
 cases z0 <;> first | exact False.elim h | skip
 rcases ds with _ | ⟨z1,ds⟩
 ·exact False.elim h
 cases z1 <;> first | exact False.elim h | skip
 rcases ds with _ | ⟨zz,zs⟩
 ·exact⟨_,_,rfl⟩
 ·exact False.elim h
theorem ok_names {f:Addr}{fd:FuncData}(F:Fun K "_law_names" "_law_names" s_names f fd)(T:Bi2 mg)(C_take:c_take P w K mg base):FnOk P w K mg base CX0 2 f fd ["_law_box_here", "_law_many"] (spD fNamesL):=by
 refine F.okD sc_names (fun ds μ Kd h=>by obtain⟨_,_,rfl⟩:=inv_names h;rfl) (fun cdv A outer s H E hr=>⟨_,(b_cons (qS 2 sc_names.nd d_str)
  (b_cons (qS 3 sc_names.nd (dPl d_int (qC C_take hr (a2 (dv 0) d_int))))
  (b_cons (qS 4 sc_names.nd (qC C_take hr (a2 (dv 0) (dv 3))))
  (b_cons (qS 5 sc_names.nd (d_cmp eqC so_eqS (qC C_take hr (a2 (dv 0) d_int)) d_int (nomark _)))
  (b_cons (sC1 6 false sc_names.nd (cOk (N:=["_law_k", "_law_box_here"]) (js:=[none,some 0]) sc_names (by decide +kernel)) (i_range1 rfl T.range (a1 (dv 3))) (fun _ _ _ nd=>(qN 0 nd)) (fun _ _ _=>ts_nil) (fun _ _ _=>(qC C_take hr (a2 (dv 1) d_int))))
  (b_cons (qS 7 sc_names.nd (d_lst true da_nil))
  (b_cons (s_for PassesOwn.never rfl (i_range1 rfl T.range (a1 (dv 1))) (qT 8 sc_names.nd)
  (b_cons (qS 9 sc_names.nd (d_ty listC (so_list (m:=true)) (by rfl) T.list PyProof.Rows.boot_list (a1 (dv 6))))
  (b_cut (s_if (t_not (d_testV (dv 5)))
  (b_one (sC1 9 true sc_names.nd (cOk (N:=["_law_step", "_law_box_here"]) (js:=[none,some 0]) sc_names (by decide +kernel)) (i_range1 rfl T.range (a1 (dPl (dPl (dv 4) d_int) (qC C_take hr (a2 (dv 0) (dMi (dv 3) (dv 4))))))) (fun _ _ _ nd=>(qN 0 nd)) (fun _ _ _=>ts_nil) (fun _ _ _=>(qC C_take hr (a2 (dv 1) d_int)))))
  b_nil)
  (b_cons (s_asgS (d_op modC so_i2 (dPl (dIX (dv 6) (dv 4)) (d_op mulC so_mul d_int (dv 8))) d_int) (dv 9) (dv 4))
  (b_one (s_expr (d_mt PySem.F.plainAttrs_list PySem.F.slot_list_append PySem.F.type_list_append appendC so_append (dv 7) (a1 (d_mt PySem.F.plainAttrs_str PySem.F.slot_str_join PySem.F.type_str_join joinC so_join d_str (a1 (dC1 false (cOk (N:=["_law_one", "_law_letters"]) (js:=[none,some 2]) sc_names (by decide +kernel)) (i_list (dv 9)) (fun _ _ _ nd=>(qN 0 nd)) (fun _ _ _=>ts_nil) (fun _ _ _=>(dIX (dv 1) (dv 0))))))))))))))
  (b_one (s_ret (dv 7)))))))))),fun ds μ Kd hm hl h=>?_⟩)
 obtain⟨k,many,rfl⟩:=inv_names h
 unfold fNamesL at h
 ·skip
  obtain⟨hb,h1,h2,kk⟩:=h
  have hk:k<μ.length:=(gxB hb).1
  have hb2:∀ g:MS,(μ++g)[k]?=some .box:=fun g=>by rw[gxF hk];exact hb
  refine⟨hb,by decide,by decide,fun v v0 v1=>⟨hb,by omega,by omega,fun p p0 p1=>⟨hb,by decide,by decide,fun w w0 w1=>?_⟩⟩⟩
  refine⟨by omega,by omega,sz (by rw[rngD_len];omega),?_⟩
  refine compW_any D.int (fun i=>0<=i/\i<26) trivial (fun d hd K' k'=>⟨hb,by decide,by decide,fun x x0 x1=>k' x ⟨x0,x1⟩⟩) fun fi hfl hf=>?_
  rw[rngD_len]at hfl
  refine⟨by show 0<=sizeLine;decide,by omega,by omega,?_⟩
  refine forW_inv (fun ds ρ μ'=>∃(i j:Nat) (rows:List Str) (g:MS) (u v':Option D),ds=rngD i j/\i+j=many.toNat/\rows.length=i/\(∀ z∈rows,namedB z=true)/\ρ=[some (.mr k),some (.int many),some (.str (Str.ofString "abcdefghijklmnopqrstuvwxyz")),some (.int (1+v)),some (.int p),some (.bl (false != decide (w=0))),some (.lst (fi.map D.int)),some (.mr μ.length),u,v']/\μ'=μ++.lst (rows.map D.str)::g) ⟨0,many.toNat,[],[],none,none,rfl,by omega,rfl,fun _ h=>(nomatch h),rfl,rfl⟩ ?_ ?_
  ·rintro d ds' ρ μ' ⟨i,j,rows,g,u,v',e,hij,hrl,hr0,rfl,rfl⟩
   refine⟨trivial,fun nx hnx=>?_⟩
   cases j with
   | zero=>cases e
   | succ j =>
    rw[rngD_cons]at e
    cases e
    refine⟨fun ρ2 μ2=>∃(g2:MS) (l:List Int),ρ2=[some (.mr k),some (.int many),some (.str (Str.ofString "abcdefghijklmnopqrstuvwxyz")),some (.int (1+v)),some (.int p),some (.bl (false != decide (w=0))),some (.lst (fi.map D.int)),some (.mr μ.length),some (.int i),some (.mr (μ++.lst (rows.map D.str)::g2).length)]/\μ2=(μ++.lst (rows.map D.str)::g2)++[.lst (l.map D.int)]/\p<l.length/\l.length<=8/\∀ x∈l,0<=x/\x<26,?_,?_⟩
    ·refine dIf_of (!(false != decide (w=0))) (fun K k=>k) (fun _=>?_) (fun _=>⟨g,fi,rfl,rfl,by omega,by omega,hf⟩)
     refine⟨by rw[List.append_assoc];exact hb2 _,by omega,by omega,fun q q0 q1=>⟨by omega,by omega,sz (by rw[rngD_len];omega),?_⟩⟩
     refine compW_any D.int (fun i=>0<=i/\i<26) trivial (fun d hd K' k'=>⟨by rw[List.append_assoc];exact hb2 _,by decide,by decide,fun x x0 x1=>k' x ⟨x0,x1⟩⟩) fun l hl' hl2=>?_
     rw[rngD_len]at hl'
     exact⟨g++[.lst (fi.map D.int)],l,by rw[List.append_assoc];rfl,by simp only[List.append_assoc,List.cons_append,List.nil_append],by omega,by omega,hl2⟩
    ·rintro ρ2 μ2 ⟨g2,l,rfl,rfl,l1,l2,l3⟩
     obtain⟨n,rfl⟩:∃ n:Nat,p=(n:Int):=⟨p.toNat,by omega⟩
     obtain⟨a,ha⟩:∃ a,fi[n]?=some a:=⟨_,gxA (by omega)⟩
     have m26:0<=(a+7*(i:Int))%26/\(a+7*(i:Int))%26<26:=⟨Int.emod_nonneg _ (by decide),Int.emod_lt_of_pos _ (by decide)⟩
     have ixj:ixN (l.map D.int).length (n:Int)=some n:=by
      unfold ixN;rw[gxC,if_pos (by omega),if_pos (by omega),gxK]
     obtain⟨l',hl'⟩:∃ l',l'=l.set n ((a+7*(i:Int))%26):=⟨_,rfl⟩
     have ll:l'.length=l.length:=by rw[hl',List.length_set]
     have l4:∀ x∈l',0<=x/\x<26:=fun x hx=>by
      rw[hl']at hx
      rcases List.mem_or_eq_of_mem_set hx with q | q
      ·exact l3 x q
      ·rw[q];exact m26
     refine opt_of (atI_map ha) ⟨.inl (by omega),show(0:Int)<26 by decide,?_⟩
     refine opt_of lvM_new (opt_of ixj ?_)
     have es:(μ++MO.lst (rows.map D.str)::g2++[MO.lst (l.map D.int)]).set (μ++MO.lst (rows.map D.str)::g2).length (MO.lst ((l.map D.int).set n (.int ((a+7*(i:Int))%26))))=μ++MO.lst (rows.map D.str)::g2++[MO.lst (l'.map D.int)]:=by
      rw[set_end,hl',List.map_set]
     rw[es]
     refine⟨lvM_ty (ds:=rows.map D.str) (lvM_of (by rw[List.append_assoc];exact at_mid)),rfl,?_⟩
     refine opt_of lvM_new ⟨sz (by rw[gxC];omega),?_⟩
     refine compW_ch l' (c:=fun x=>lvM x (μ++.lst (rows.map D.str)::g2).length=some (l'.map D.int)) lvM_new (fun x hx K' k'=>?_) fun cs cl cr=>?_
     ·obtain⟨c,e,c1,c2⟩:=abc_at (l4 x hx).1 (l4 x hx).2
      exact⟨by show 26<=sizeLine;decide,opt_of e (k' c ⟨c1,c2⟩)⟩
     ·refine⟨rfl,cs.map (fun c=>⟨#[c]⟩),by unfold lv;rw[List.map_map];rfl,by rw[sum_signs];omega,?_⟩
      rw[flat_signs]
      refine opt_of (lvM_of (ds:=rows.map D.str) (by rw[List.append_assoc];exact at_mid)) ⟨by rw[gxC];exact Nat.lt_of_lt_of_le (m:=51) (by omega) (sz (by omega)),?_⟩
      rw[List.append_assoc,List.cons_append,set_mid]
      refine hnx _ _ ⟨i+1,j,rows++[txt cs],g2++[.lst (l'.map D.int)],_,_,by rw[Int.natCast_add];rfl,by omega,by rw[gxE,hrl];rfl,fun z hz=>?_,rfl,by rw[List.map_append];rfl⟩
      rcases List.mem_append.mp hz with q | q
      ·exact hr0 z q
      ·rw[List.mem_singleton.mp q]
       exact named_of (by omega) (by omega) cr
  ·rintro ρ μ' ⟨i,j,rows,g,u,v',e,hij,hrl,hr0,rfl,rfl⟩
   cases j with
   | succ j=>rw[rngD_cons]at e;cases e
   | zero =>
    refine⟨trivial,?_⟩
    refine Fz.lst (Nat.le_refl _) at_mid (mr_all fun d hd=>by obtain⟨q,_,rfl⟩:=List.mem_map.mp hd;exact trivial) (old_app hm) ?_
    rw[List.take_left]
    exact kk rows (by omega) ⟨by omega,by omega,hr0⟩
theorem ok_begun {f:Addr}{fd:FuncData}(F:Fun K "_law_begun" "_law_begun" s_begun f fd)(T:Bi2 mg)(Z_Room:ZRoom K cRoom)(C_take:c_take P w K mg base)(C_Room___init__:c_Room___init__ P w K mg base)(C_names:c_names P w K mg base):FnOk P w K mg base CX0 5 f fd ["_law_box_here", "_law_most"] (spD (fBegun cRoom cStand)):=by
 refine F.okD sc_begun (fun ds μ Kd h=>by unfold fBegun at h;split at h <;> first | rfl | exact h.elim) (fun cdv A outer s H E hr=>⟨_,(b_cons (qS 2 sc_begun.nd (dPl d_int (qC C_take hr (a2 (dv 0) (dv 1)))))
  (b_one (s_ret (d_tup (a3 (d_makeXc C_Room___init__ hr.le rfl (a1 (dv 2))) (d_tup (a3 (dv 2) d_dnewF d_dnewF)) (qC C_names hr (a2 (dv 0) (dIX (d_lst false (a3 d_int d_int d_int)) (qC C_take hr (a2 (dv 0) d_int)))))))))),fun ds μ Kd hm hl h=>?_⟩)
 unfold fBegun at h
 split at h
 ·rename_i k most
  obtain⟨⟨m0,em⟩,hb,hk,h1,h2,kk⟩:=h
  refine⟨hb,by omega,by omega,fun n n0 n1=>?_⟩
  have hne:μ≠[]:=fun e=>by rw[e]at hk;exact absurd hk (Nat.not_lt_zero _)
  have hl0:0<μ.length:=List.length_pos_iff.mpr hne
  refine⟨trivial,⟨m0,by rw[gxF hl0];exact em⟩,by omega,end_at,?_⟩
  rw[if_pos (by omega),set_end,List.append_assoc]
  have hb2:∀ g:MS,(μ++g)[k]?=some .box:=fun g=>by rw[gxF hk];exact hb
  refine⟨rfl,by show 3<=sizeLine;decide,by show 3<=sizeLine;decide,hb2 _,by decide,by decide,fun v v0 v1=>?_⟩
  have fin:∀ pool,poolOk pool->Fz μ.length Kd (.tup [.mr μ.length,slD ⟨1+n,[],[]⟩,strL pool]) (μ++([MO.ins cRoom roN [.mr (μ++[MO.ins cRoom [] []]).length,.mr ((μ++[MO.ins cRoom [] []]).length+1),.int 0]]++[MO.lst [sdD cStand ⟨1+n,[],[]⟩],MO.lst []])):=fun pool hp=>by
   rw[gxE]
   exact .keep (kk (1+n) pool (by omega) (by omega) hp)
  obtain rfl | rfl | rfl:v=0\/v=1\/v=2:=by omega
  ·exact⟨hb2 _,by decide,by decide,fun pool _ hp=>⟨by show 3<=sizeLine;decide,fin pool hp⟩⟩
  ·exact⟨hb2 _,by decide,by decide,fun pool _ hp=>⟨by show 3<=sizeLine;decide,fin pool hp⟩⟩
  ·exact⟨hb2 _,by decide,by decide,fun pool _ hp=>⟨by show 3<=sizeLine;decide,fin pool hp⟩⟩
 ·exact h.elim
theorem inv_origin {ds:List D}{μ:MS}{Kd:DK}(h:fOrigin ds μ Kd):∃ v0 v1 v2,ds=[v0,.str v1,.int v2]:=by
 unfold fOrigin at h
 rcases ds with _ | ⟨z0,ds⟩
 ·exact False.elim h
 rcases ds with _ | ⟨z1,ds⟩
 ·exact False.elim h
 cases z1 <;> first | exact False.elim h | skip
 rcases ds with _ | ⟨z2,ds⟩
 ·exact False.elim h
 cases z2 <;> first | exact False.elim h | skip
 rcases ds with _ | ⟨zz,zs⟩
 ·exact⟨_,_,_,rfl⟩
 ·exact False.elim h
theorem ok_origin {f:Addr}{fd:FuncData}(F:Fun K "_law_origin" "_law_origin" s_origin f fd)(T:Bi2 mg)  : FnOk P w K mg base CX0 1 f fd ["_law_kept", "_law_name", "_law_bar"] (spD fOrigin):=by
 refine F.okD sc_origin (fun ds μ Kd h=>by obtain⟨_,_,_,rfl⟩:=inv_origin h;rfl) (fun cdv A outer s H E hr=>⟨_,(b_cons (qS 3 sc_origin.nd d_int)
  (b_cons (s_while PassesOwn.never (qEq (dIX (d_ixF (hu_of hr) (dv 0) (dv 1) (fun _ _=>rfl)) d_int) d_str)
  (b_cons (s_asg (d_ixF (hu_of hr) (dv 0) (dv 1) (fun _ _=>rfl)) ⟨(pg_tupC (n:=4) rfl (pgs_consC (qN 4 sc_origin.nd) (pgs_consC (qN 5 sc_origin.nd) (pgs_consC (qN 6 sc_origin.nd) (pgs_consC (qN 7 sc_origin.nd) pgs_nilC))))),(so_tup (so_cons (so_name 4) (mo_name 4) (so_cons (so_name 5) (mo_name 5) (so_cons (so_name 6) (mo_name 6) (so_cons (so_name 7) (mo_name 7) so_nil mo_nil) (mo_cons (mo_name 7) mo_nil)) (mo_cons (mo_name 6) (mo_cons (mo_name 7) mo_nil))) (mo_cons (mo_name 5) (mo_cons (mo_name 6) (mo_cons (mo_name 7) mo_nil))))),(mo_tup (mo_cons (mo_name 4) (mo_cons (mo_name 5) (mo_cons (mo_name 6) (mo_cons (mo_name 7) mo_nil)))))⟩)
  (b_cons (qS 1 sc_origin.nd (d_if (qLt (dv 2) (dv 7)) (dv 5) (dv 6)))
  (b_one (qS 3 sc_origin.nd (dPl (dv 3) d_int))))))
  (b_one (s_ret (d_tup (a2 (dv 1) (dv 3))))))),fun ds μ Kd hm hl h=>?_⟩)
 obtain⟨x,nm,bar,rfl⟩:=inv_origin h
 unfold fOrigin at h
 ·skip
  obtain⟨kept,y,hx,kp,ey,kk⟩:=h
  cases x with
  | fdc ks ds =>
   cases hx
   refine⟨fun i ρ μ'=>∃(z:Str) (y:Pt) (c:Nat) (v1 v2 v3 v4:Option D),i=idxN kept z/\aget kept z=some y/\srcOf kept nm bar=((srcOf kept z bar).1,(srcOf kept z bar).2+c)/\ρ=[some (.fdc (kept.map fun p=>skey p.1) (kept.map fun p=>ptL p.2)),some (.str z),some (.int bar),some (.int (c:Int)),v1,v2,v3,v4]/\μ'=μ,⟨_,nm,y,0,none,none,none,none,rfl,ey,rfl,rfl,rfl⟩,?_⟩
   rintro i ρ μ' ⟨z,y,c,v1,v2,v3,v4,rfl,ez,es,rfl,rfl⟩
   have eg:ixF (kept.map fun p=>skey p.1) (kept.map fun p=>ptL p.2) (.str z)=some (some (ptL y)):=by rw[ixF_k skey_inj ptL z kept rfl,ez];rfl
   cases y with
   | fst b a =>
    refine⟨_,eg,?_⟩
    refine⟨by show 2<=sizeLine;decide,.keep ?_⟩
    rw[es,src_fstE ez,Nat.zero_add]at kk
    exact kk
   | jn l r p =>
    obtain⟨⟨yl,el⟩,⟨yr,er⟩⟩:=kp.there ez
    obtain⟨i1,i2⟩:=kp.low z l r p ez
    have ej:=src_jn kp ez bar
    refine⟨_,eg,⟨_,eg,?_⟩⟩
    refine⟨rfl,?_⟩
    refine iteD (c:=bar<p) (fun q=>?_) (fun q=>?_)
    ·rw[if_pos q]at ej
     exact⟨idxN kept l,i1,l,yl,c+1,_,_,_,_,rfl,el,by rw[es,ej];congr 1;show _+1+c=_;omega,rfl,rfl⟩
    ·rw[if_neg q]at ej
     exact⟨idxN kept r,i2,r,yr,c+1,_,_,_,_,rfl,er,by rw[es,ej];congr 1;show _+1+c=_;omega,rfl,rfl⟩
  | mr j =>
   have hx:dicM μ j=some (kept.map (fun p=>skey p.1),kept.map fun p=>ptL p.2):=hx
   refine⟨fun i ρ μ'=>∃(z:Str) (y:Pt) (c:Nat) (v1 v2 v3 v4:Option D),i=idxN kept z/\aget kept z=some y/\srcOf kept nm bar=((srcOf kept z bar).1,(srcOf kept z bar).2+c)/\ρ=[some (.mr j),some (.str z),some (.int bar),some (.int (c:Int)),v1,v2,v3,v4]/\μ'=μ,⟨_,nm,y,0,none,none,none,none,rfl,ey,rfl,rfl,rfl⟩,?_⟩
   rintro i ρ μ' ⟨z,y,c,v1,v2,v3,v4,rfl,ez,es,rfl,rfl⟩
   have eg:=(ixM_k (d:=.str z) skey_inj ptL z kept rfl hx).trans (by rw[ez];rfl:_=some (some (ptL y)))
   cases y with
   | fst b a =>
    refine⟨_,eg,?_⟩
    refine⟨by show 2<=sizeLine;decide,.keep ?_⟩
    rw[es,src_fstE ez,Nat.zero_add]at kk
    exact kk
   | jn l r p =>
    obtain⟨⟨yl,el⟩,⟨yr,er⟩⟩:=kp.there ez
    obtain⟨i1,i2⟩:=kp.low z l r p ez
    have ej:=src_jn kp ez bar
    refine⟨_,eg,⟨_,eg,?_⟩⟩
    refine⟨rfl,?_⟩
    refine iteD (c:=bar<p) (fun q=>?_) (fun q=>?_)
    ·rw[if_pos q]at ej
     exact⟨idxN kept l,i1,l,yl,c+1,_,_,_,_,rfl,el,by rw[es,ej];congr 1;show _+1+c=_;omega,rfl,rfl⟩
    ·rw[if_neg q]at ej
     exact⟨idxN kept r,i2,r,yr,c+1,_,_,_,_,rfl,er,by rw[es,ej];congr 1;show _+1+c=_;omega,rfl,rfl⟩
  | _=>cases hx
theorem inv_open {ds:List D}{μ:MS}{Kd:DK}(h:fOpenL ds μ Kd):∃ v0,ds=[v0]:=by
 unfold fOpenL at h
 rcases ds with _ | ⟨z0,ds⟩
 ·exact False.elim h
 rcases ds with _ | ⟨zz,zs⟩
 ·exact⟨_,rfl⟩
 ·exact False.elim h
theorem ok_open {f:Addr}{fd:FuncData}(F:Fun K "_law_open" "_law_open" s_open f fd)(T:Bi2 mg)  : FnOk P w K mg base CX0 1 f fd ["_law_state"] (spD fOpenL):=by
 refine F.okD sc_open (fun ds μ Kd h=>by obtain⟨_,rfl⟩:=inv_open h;rfl) (fun cdv A outer s H E hr=>⟨_,(b_one (s_ret (dC1 false (cOk (N:=["_law_place", "_law_state"]) (js:=[none,some 0]) sc_open (by decide +kernel)) (i_range2 rfl T.range (a2 d_int (dIX (dv 0) d_int))) (fun _ _ _ nd=>(qN 0 nd)) (fun _ _ _=>(ts_one (t_notinF (hu_of hr) (dv 0) (dIX (dv 1) d_int) (by with_unfolding_all rfl)))) (fun _ _ _=>(dv 0))))),fun ds μ Kd hm hl h=>?_⟩)
 obtain⟨x,rfl⟩:=inv_open h
 unfold fOpenL at h
 ·skip
  obtain⟨S,m,rfl,wf,kk⟩:=h
  have n1:=wf.n1
  have n2:=wf.n2
  refine opt_of rfl ⟨⟨by decide,by decide,by omega,by omega⟩,sz (by rw[rngD_len];omega),?_⟩
  rw[rngD_eq]
  refine compW_gen trivial D.int (fun p=>if(aget S.shut p).isSome=true then none else some (D.int p)) (fun p _ K' k'=>?_) ?_
  ·refine opt_of rfl ⟨_,ixF_k ikey_inj (fun _=>.bl true) p S.shut rfl,?_⟩
   cases e:aget S.shut p with
   | none=>rw[e]at k';exact k'
   | some x=>rw[e]at k';exact k'
  ·rw[open_map]
   exact .keep kk
theorem inv_done {ds:List D}{μ:MS}{Kd:DK}(h:fDoneL ds μ Kd):∃ v0 v1,ds=[v0,v1]:=by
 unfold fDoneL at h
 rcases ds with _ | ⟨z0,ds⟩
 ·exact False.elim h
 rcases ds with _ | ⟨z1,ds⟩
 ·exact False.elim h
 rcases ds with _ | ⟨zz,zs⟩
 ·exact⟨_,_,rfl⟩
 ·exact False.elim h
theorem ok_done {f:Addr}{fd:FuncData}(F:Fun K "_law_done" "_law_done" s_done f fd)(T:Bi2 mg)(C_origin:c_origin P w K mg base):FnOk P w K mg base CX0 2 f fd ["_law_state", "_law_deed"] (spD fDoneL):=by
 refine F.okD sc_done (fun ds μ Kd h=>by obtain⟨_,_,rfl⟩:=inv_done h;rfl) (fun cdv A outer s H E hr=>⟨_,(b_cons (s_par3 (i:=2) (j:=3) (k:=4) sc_done.nd rfl rfl rfl (by decide) (by decide) (by decide) rfl rfl rfl (a3 (dIX (dv 0) d_int) (d_ty dictC so_dictF (by rfl) T.dict PyProof.Rows.boot_dict (a1 (dIX (dv 0) d_int))) (d_ty dictC so_dictF (by rfl) T.dict PyProof.Rows.boot_dict (a1 (dIX (dv 0) d_int)))))
  (b_cut (s_if (qEq (dIX (dv 1) d_int) d_str)
  (b_one (s_asgKM (hu_of hr) (d_tup (a3 d_str (dIX (dv 1) d_int) (dIX (dv 1) d_int))) (dv 3) (dIX (dv 1) d_int)))
  (b_one (s_if (qEq (dIX (dv 1) d_int) d_str)
  (b_one (s_asgKM (hu_of hr) (d_tup (da_cons d_str (da_cons (dIX (dv 1) d_int) (da_cons (dIX (dv 1) d_int) (da_cons (dIX (dv 1) d_int) da_nil))))) (dv 3) (dIX (dv 1) d_int)))
  (b_one (s_if (qEq (dIX (dv 1) d_int) d_str)
  (b_cons (qS 5 sc_done.nd (dIX (qC C_origin hr (a3 (dv 3) (dIX (dv 1) d_int) (dIX (dv 1) d_int))) d_int))
  (b_cons (s_asg (d_ixF (hu_of hr) (dv 3) (dv 5) (fun _ _=>rfl)) ⟨(pg_tupC (n:=3) rfl (pgs_consC (qN 6 sc_done.nd) (pgs_consC (qN 7 sc_done.nd) (pgs_consC (qN 8 sc_done.nd) pgs_nilC)))),(so_tup (so_cons (so_name 6) (mo_name 6) (so_cons (so_name 7) (mo_name 7) (so_cons (so_name 8) (mo_name 8) so_nil mo_nil) (mo_cons (mo_name 8) mo_nil)) (mo_cons (mo_name 7) (mo_cons (mo_name 8) mo_nil)))),(mo_tup (mo_cons (mo_name 6) (mo_cons (mo_name 7) (mo_cons (mo_name 8) mo_nil))))⟩)
  (b_one (s_asgKM (hu_of hr) (d_tup (a3 (dv 6) (dPl (dPl (d_slice false (dv 7) o_no (o_some (dIX (dv 1) d_int))) (dIX (dv 1) d_int)) (d_slice false (dv 7) (o_some (dPl (dIX (dv 1) d_int) d_int)) o_no)) (dv 8))) (dv 3) (dv 5)))))
  (b_one (s_if (qEq (dIX (dv 1) d_int) d_str)
  (b_one (s_asgKM (hu_of hr) (d_tup (a3 d_str (dIX (d_ixF (hu_of hr) (dv 3) (dIX (dv 1) d_int) (fun _ _=>rfl)) d_int) (dIX (dv 1) d_int))) (dv 3) (dIX (dv 1) d_int)))
  (b_one (s_if (qEq (dIX (dv 1) d_int) d_str)
  (b_one (s_expr (d_popK (dv 3) (dIX (dv 1) d_int))))
  (b_one (s_if (qEq (dIX (dv 1) d_int) d_str)
  (b_one (s_asgKM (hu_of hr) d_bl (dv 4) (dIX (dv 1) d_int)))
  (b_one (s_if (t_inF (hu_of hr) (dIX (dv 1) d_int) (dv 4) (by with_unfolding_all rfl))
  (b_one (s_expr (d_popK (dv 4) (dIX (dv 1) d_int))))
  b_nil)))))))))))))
  (b_one (s_ret (d_tup (da_cons (dv 2) (da_cons (d_frz (dv 3)) (da_cons (d_frz (dv 4)) da_nil)))))))),fun ds μ Kd hm hl h=>?_⟩)
 obtain⟨x,y,rfl⟩:=inv_done h
 unfold fDoneL at h
 ·skip
  obtain⟨S,d,m,rfl,rfl,wf,hm',hr,kk⟩:=h
  have few:=wf.few
  have shl:=wf.shl
  have n2:=wf.n2
  have e2:(μ++[dM skey ptL S.kept]).length=μ.length+1:=by rw[gxE];rfl
  show dCut _ _ _ [some (slD S),some (ddD d),some (.int S.n),some (.mr μ.length),some (.mr (μ++[dM skey ptL S.kept]).length),none,none,none,none] (μ++[dM skey ptL S.kept]++[dM ikey (fun _=>.bl true) S.shut])
  rw[e2,List.append_assoc]
  have kl:S.kept.length<sizeLine:=Nat.lt_of_lt_of_le (m:=21) (by omega) (sz (by omega))
  have sl:S.shut.length<sizeLine:=Nat.lt_of_lt_of_le (m:=1001) (by omega) (sz (by omega))
  refine⟨fun ρ' μ'=>∃ v5 v6 v7 v8,ρ'=[some (slD S),some (ddD d),some (.int S.n),some (.mr μ.length),some (.mr (μ.length+1)),v5,v6,v7,v8]/\(doD S d).n=S.n/\μ'=μ++[dM skey ptL (doD S d).kept,dM ikey (fun _=>.bl true) (doD S d).shut],?_,?_⟩
  ·cases d with
   | put nm b a =>
    refine⟨by show 3<=sizeLine;decide,put_at skey_inj at_mid kl rfl (.fst b.cps.toList a) rfl ⟨none,none,none,none,rfl,rfl,?_⟩⟩
    exact set_mid
   | join nm l r p =>
    refine⟨by show 4<=sizeLine;decide,put_at skey_inj at_mid kl rfl (.jn l r p) rfl ⟨none,none,none,none,rfl,rfl,?_⟩⟩
    exact set_mid
   | found nm bar sg =>
    have hr:(if hasN S nm=false then some 11 else if 0<=bar/\bar<S.n then(if sg = "o"\/sg = "x" then none else some 0)else some 6)=(none:Option Nat):=hr
    by_cases q1:hasN S nm=false
    ·rw[if_pos q1]at hr;cases hr
    rw[if_neg q1]at hr
    by_cases hb:0<=bar/\bar<S.n
    ·rw[if_pos hb]at hr
     by_cases hs:sg = "o"\/sg = "x"
     ·obtain⟨y,ey⟩:=hasN_yes q1
      obtain⟨b,a,ef⟩:=src_fst wf.kp bar nm y ey
      obtain⟨f1,f2,f3,f4⟩:=wf.fs _ b a ef
      obtain⟨o1,o2⟩:=sgn_ox hs
      refine⟨S.kept,y,dicM_of at_mid,wf.kp,ey,?_⟩
      refine⟨_,(ixM_k skey_inj ptL (srcOf S.kept nm bar).1 S.kept rfl (dicM_of at_mid)).trans (by rw[ef];rfl:_=some (some (ptL (.fst b a)))),rfl,?_⟩
      have sl:sg.length=1:=o2
      have lb:(txt b).length<=sizeLine:=by rw[txt_len];exact sz (by omega)
      have c1:=cutL_le b none (some bar)
      have c2:=cutL_le b (some (bar+1)) none
      have eh:(⟨(cutL b none (some bar)).toArray⟩++sg++⟨(cutL b (some (bar+1)) none).toArray⟩:Str)=txt (hearB b bar sg):=by
       rw[cutL_to hb.1,cutL_from (show 0<=bar+1 by omega),show(bar+1).toNat=bar.toNat+1 by omega]
       rw[app_sg,app_str,List.append_assoc]
       rfl
      have l1:(⟨(cutL b none (some bar)).toArray⟩:Str).length+sg.length<=sizeLine:=by rw[sl];show(cutL b none (some bar)).length+1<=_;exact sz (by omega)
      have l2:(⟨(cutL b none (some bar)).toArray⟩++sg:Str).length+(⟨(cutL b (some (bar+1)) none).toArray⟩:Str).length<=sizeLine:=by
       rw[app_sg]
       show(cutL b none (some bar)++sg.cps.toList).length+(cutL b (some (bar+1)) none).length<=_
       rw[gxE,o2]
       exact sz (by omega)
      refine⟨lb,l1,lb,l2,by show 3<=sizeLine;decide,?_⟩
      refine put_at skey_inj at_mid kl rfl (.fst (hearB b bar sg) a) (by show D.tup _=D.tup _;rw[<- eh]) ⟨_,_,_,_,rfl,rfl,?_⟩
      rw[set_mid]
      show _=μ++[dM skey ptL (hear S.kept (srcOf S.kept nm bar).1 bar sg),_]
      unfold hear
      rw[ef]
      rfl
     ·rw[if_neg hs]at hr;cases hr
    ·rw[if_neg hb]at hr;cases hr
   | aged nm a =>
    have hr:(match aget S.kept nm with | none=>some 11 | some (.jn _ _ _)=>some 13 | some (.fst _ _)=>ageW a)=(none:Option Nat):=hr
    cases ey:aget S.kept nm with
    | none=>rw[ey]at hr;cases hr
    | some y =>
     rw[ey]at hr
     cases y with
     | jn _ _ _=>cases hr
     | fst b a0 =>
      refine⟨_,(ixM_k skey_inj ptL nm S.kept rfl (dicM_of at_mid)).trans (by rw[ey];rfl:_=some (some (ptL (.fst b a0)))),by show 3<=sizeLine;decide,?_⟩
      have ed:doD S (.aged nm a)={ S with kept:=aput S.kept nm (.fst b a)}:=by
       show(match aget S.kept nm with | some (.fst b _)=>{ S with kept:=aput S.kept nm (.fst b a)} | _=>S)=_
       rw[ey]
      refine put_at skey_inj at_mid kl rfl (.fst b a) rfl ⟨none,none,none,none,rfl,by rw[ed],?_⟩
      rw[ed]
      exact set_mid
   | drop nm =>
    have hr:(if hasN S nm=false then some 11 else if needN S nm=true then some 14 else none)=(none:Option Nat):=hr
    by_cases q1:hasN S nm=false
    ·rw[if_pos q1]at hr;cases hr
    obtain⟨y,ey⟩:=hasN_yes q1
    refine⟨⟨_,_,at_mid⟩,pop_at skey_inj at_mid rfl ey ⟨none,none,none,none,rfl,rfl,?_⟩⟩
    exact set_mid
   | shut p =>
    refine put_at ikey_inj (f:=fun _:Unit=>D.bl true) two_1 sl rfl () rfl ⟨none,none,none,none,rfl,rfl,?_⟩
    exact set_two
   | free p =>
    refine⟨_,ixM_k ikey_inj (fun _:Unit=>D.bl true) p S.shut rfl (dicM_of two_1),?_⟩
    cases ep:aget S.shut p with
    | none =>
     refine⟨none,none,none,none,rfl,rfl,?_⟩
     show _=μ++[dM skey ptL S.kept,dM ikey (fun _=>.bl true) (adrop S.shut p)]
     rw[adrop_none ep];rfl
    | some u =>
     refine⟨⟨_,_,two_1⟩,pop_at ikey_inj (f:=fun _:Unit=>D.bl true) two_1 rfl ep ⟨none,none,none,none,rfl,rfl,?_⟩⟩
     exact set_two
  ·rintro ρ' μ' ⟨v5,v6,v7,v8,rfl,en,rfl⟩
   refine⟨_,_,at_mid,fun o1 k1 hk1=>?_⟩
   rw[set_mid]
   refine⟨_,_,two_1,fun o2 k2 hk2=>?_⟩
   rw[set_two]
   refine⟨by show 3<=sizeLine;decide,Fz.deepQ (frz_two (mr_all fun d hd=>by obtain⟨q,_,rfl⟩:=List.mem_map.mp hd;exact ptL_mr _) (mr_all fun d hd=>by obtain⟨q,_,rfl⟩:=List.mem_map.mp hd;exact trivial)) (old_app hm) ?_⟩
   rw[List.take_left,hk1,hk2,<- en]
   exact kk
theorem inv_lone {ds:List D}{μ:MS}{Kd:DK}(h:fLone ds μ Kd):∃ v0,ds=[v0]:=by
 unfold fLone at h
 rcases ds with _ | ⟨z0,ds⟩
 ·exact False.elim h
 rcases ds with _ | ⟨zz,zs⟩
 ·exact⟨_,rfl⟩
 ·exact False.elim h
theorem ok_lone {f:Addr}{fd:FuncData}(F:Fun K "_law_lone" "_law_lone" s_lone f fd)(T:Bi2 mg)  : FnOk P w K mg base CX0 1 f fd ["_law_kept"] (spD fLone):=by
 refine F.okD sc_lone (fun ds μ Kd h=>by obtain⟨_,rfl⟩:=inv_lone h;rfl) (fun cdv A outer s H E hr=>⟨_,(b_cons (qS 1 sc_lone.nd d_dnew)
  (b_cons (s_for PassesOwn.never rfl (i_valuesF (dv 0)) (qT 2 sc_lone.nd)
  (b_one (s_if (qEq (dIX (dv 2) d_int) d_str)
  (b_cons (s_asgKM (hu_of hr) d_bl (dv 1) (dIX (dv 2) d_int))
  (b_one (s_asgKM (hu_of hr) d_bl (dv 1) (dIX (dv 2) d_int))))
  b_nil)))
  (b_one (s_ret (dC1 false (cOk (N:=["_law_name", "_law_used"]) (js:=[none,some 1]) sc_lone (by decide +kernel)) (i_dictF (dv 0)) (fun _ _ _ nd=>(qN 0 nd)) (fun _ _ _=>(ts_one (t_notinF (hu_of hr) (dv 0) (dv 1) (by with_unfolding_all rfl)))) (fun _ _ _=>(dv 0))))))),fun ds μ Kd hm hl h=>?_⟩)
 obtain⟨x,rfl⟩:=inv_lone h
 unfold fLone at h
 ·skip
  obtain⟨S,m,rfl,wf,kk⟩:=h
  have few:=wf.few
  intro _
  refine forW_inv (fun ds ρ μ'=>∃(pre post:List (Str×Pt)) (us:List (Str×Unit)) (v1:Option D),S.kept=pre++post/\ds=post.map (fun p=>ptL p.2)/\us.length<=2*pre.length/\(∀ z,(aget us z).isSome=pre.any fun p=>isNeed z p.2)/\ρ=[some (dcG skey ptL S.kept),some (.mr μ.length),v1]/\μ'=μ++[dM skey (fun _=>.bl true) us]) ⟨[],S.kept,[],none,rfl,rfl,Nat.le_refl _,fun _=>rfl,rfl,rfl⟩ ?_ ?_
  ·rintro d ds' ρ μ' ⟨pre,post,us,v1,hs,e1,hu,ha,rfl,rfl⟩
   refine⟨trivial,fun nx hnx=>?_⟩
   cases post with
   | nil=>cases e1
   | cons p post =>
    obtain⟨z,y⟩:=p
    cases e1
    have lp:pre.length<S.kept.length:=by rw[hs,gxE,List.length_cons];omega
    have anyE:∀ w,((pre++[(z,y)]).any fun p=>isNeed w p.2)=((pre.any fun p=>isNeed w p.2)||isNeed w y):=fun w=>by rw[List.any_append,List.any_cons,List.any_nil,Bool.or_false]
    cases y with
    | fst b a =>
     refine hnx _ _ ⟨pre++[(z,.fst b a)],post,us,_,by rw[hs,List.append_assoc];rfl,rfl,by rw[gxE];omega,fun w=>by rw[anyE,ha w];exact(Bool.or_false _).symm,rfl,rfl⟩
    | jn l r p =>
     have ul:us.length<sizeLine:=Nat.lt_of_lt_of_le (m:=50) (by omega) (sz (by omega))
     have la:=aput_le (l:=us) (k:=l) (v:=())
     have lb:=aput_le (l:=aput us l ()) (k:=r) (v:=())
     have ul2:(aput us l ()).length<sizeLine:=Nat.lt_of_lt_of_le (m:=50) (by omega) (sz (by omega))
     refine put_at skey_inj (f:=fun _:Unit=>D.bl true) end_at ul rfl () rfl ?_
     rw[set_end]
     refine put_at skey_inj (f:=fun _:Unit=>D.bl true) end_at ul2 rfl () rfl ?_
     rw[set_end]
     refine hnx _ _ ⟨pre++[(z,.jn l r p)],post,aput (aput us l ()) r (),_,by rw[hs,List.append_assoc];rfl,rfl,by rw[gxE,List.length_singleton];omega,fun w=>?_,rfl,rfl⟩
     rw[anyE,aget_put,aget_put,<- ha w]
     show _=(_||(decide (l=w)||decide (r=w)))
     by_cases q1:w=r
     ·subst q1;rw[if_pos rfl];simp
     ·rw[if_neg q1,decide_eq_false (Ne.symm q1)]
      by_cases q2:w=l
      ·subst q2;rw[if_pos rfl];simp
      ·rw[if_neg q2,decide_eq_false (Ne.symm q2)];simp
  ·rintro ρ μ' ⟨pre,post,us,v1,hs,e1,hu,ha,rfl,rfl⟩
   cases post with
   | cons p post=>cases e1
   | nil =>
    rw[List.append_nil]at hs
    refine⟨trivial,sz (by rw[gxC,gxC];omega),?_⟩
    rw[List.map_map]
    refine compW_gen trivial (keyV ∘ fun p:Str×Pt=>skey p.1) (fun p=>if(S.kept.any fun q=>isNeed p.1 q.2)=true then none else some (D.str p.1)) (fun p hp K' k'=>?_) ?_
    ·refine⟨_,ixM_k skey_inj (fun _:Unit=>D.bl true) p.1 us rfl (dicM_of end_at),?_⟩
     rw[<- hs]at ha
     have hw:=ha p.1
     cases eu:aget us p.1 with
     | none=>rw[eu]at hw;rw[<- hw]at k';exact k'
     | some u=>rw[eu]at hw;rw[<- hw]at k';exact k'
    ·rw[lone_map]
     refine Fz.drop (mr_all fun d hd=>by obtain⟨q,_,rfl⟩:=List.mem_map.mp hd;exact trivial) (old_app hm) ?_
     rw[List.take_left]
     exact kk
set_option maxHeartbeats 8000000 in
theorem inv_easy {ds:List D}{μ:MS}{Kd:DK}(h:fEasy ds μ Kd):∃ v0 v1 v2,ds=[.mr v0,v1,v2]:=by
 unfold fEasy at h
 rcases ds with _ | ⟨z0,ds⟩
 ·exact False.elim h
 cases z0 <;> first | exact False.elim h | skip
 rcases ds with _ | ⟨z1,ds⟩
 ·exact False.elim h
 rcases ds with _ | ⟨z2,ds⟩
 ·exact False.elim h
 rcases ds with _ | ⟨zz,zs⟩
 ·exact⟨_,_,_,rfl⟩
 ·exact False.elim h
theorem ok_easy {f:Addr}{fd:FuncData}(F:Fun K "_law_easy" "_law_easy" s_easy f fd)(T:Bi2 mg)(C_take:c_take P w K mg base)(C_open:c_open P w K mg base)(C_bars:c_bars P w K mg base)(C_lone:c_lone P w K mg base):FnOk P w K mg base CX0 3 f fd ["_law_box_here", "_law_state", "_law_pool"] (spD fEasy):=by
 refine F.okD sc_easy (fun ds μ Kd h=>by obtain⟨_,_,_,rfl⟩:=inv_easy h;rfl) (fun cdv A outer s H E hr=>⟨_,(b_cons (qS 3 sc_easy.nd (d_ty (listD rfl) (so_listD (m:=false)) (by rfl) T.list PyProof.Rows.boot_list (a1 (dIX (dv 1) d_int))))
  (b_cons (sC1 4 false sc_easy.nd (cOk (N:=["_law_name", "_law_state", "_law_names_here"]) (js:=[none,some 1,some 3]) sc_easy (by decide +kernel)) (i_list (dv 2)) (fun _ _ _ nd=>(qN 0 nd)) (fun _ _ _=>(ts_one (PW.pt (t_and (t_notinF (hu_of hr) (dv 0) (dIX (dv 1) d_int) (by with_unfolding_all rfl)) (t_and1 (qLt (dLn T (dv 2)) d_int)))))) (fun _ _ _=>(dv 0)))
  (b_cons (qS 5 sc_easy.nd (qC C_open hr (a1 (dv 1))))
  (b_cons (qS 6 sc_easy.nd (qC C_take hr (a2 (dv 0) d_int)))
  (b_cons (s_if (PW.pt (t_and (qGt (dLn T (dv 4)) d_int) (t_and1 (PW.pt (t_or (qEq (dLn T (dv 3)) d_int) (t_or1 (qLt (dv 6) d_int)))))))
  (b_cons (qS 7 sc_easy.nd (qC C_take hr (a2 (dv 0) (dIX (d_lst false (a2 d_int d_int)) (qC C_take hr (a2 (dv 0) d_int))))))
  (b_one (s_ret (d_tup (da_cons d_str (da_cons (dIX (dv 4) (qC C_take hr (a2 (dv 0) (dLn T (dv 4))))) (da_cons (qC C_bars hr (a2 (dv 0) (dIX (dv 1) d_int))) (da_cons (dv 7) da_nil))))))))
  b_nil)
  (b_cons (qS 8 sc_easy.nd (dIX (dv 3) (qC C_take hr (a2 (dv 0) (dLn T (dv 3))))))
  (b_cons (s_if (PW.pt (t_and (qLt (dv 6) d_int) (t_and (qGt (dLn T (dv 4)) d_int) (t_and1 (qGt (dLn T (dv 5)) d_int)))))
  (b_cons (qS 9 sc_easy.nd (dIX (dv 3) (qC C_take hr (a2 (dv 0) (dLn T (dv 3))))))
  (b_cons (qS 10 sc_easy.nd (dIX (dv 5) (qC C_take hr (a2 (dv 0) (dLn T (dv 5))))))
  (b_one (s_ret (d_tup (da_cons d_str (da_cons (dIX (dv 4) (qC C_take hr (a2 (dv 0) (dLn T (dv 4))))) (da_cons (dv 8) (da_cons (dv 9) (da_cons (dv 10) da_nil))))))))))
  b_nil)
  (b_cons (s_if (PW.pt (t_and (qEq (dv 6) d_int) (t_and1 (qEq (dIX (d_ixF (hu_of hr) (dIX (dv 1) d_int) (dv 8) (fun _ _=>rfl)) d_int) d_str))))
  (b_one (s_ret (d_tup (a3 d_str (dv 8) (qC C_take hr (a2 (dv 0) d_int))))))
  b_nil)
  (b_cons (qS 11 sc_easy.nd (qC C_lone hr (a1 (dIX (dv 1) d_int))))
  (b_cons (s_if (PW.pt (t_and (qEq (dv 6) d_int) (t_and1 (qGt (dLn T (dv 11)) d_int))))
  (b_one (s_ret (d_tup (a2 d_str (dIX (dv 11) (qC C_take hr (a2 (dv 0) (dLn T (dv 11)))))))))
  b_nil)
  (b_cons (s_if (PW.pt (t_and (qGt (dv 6) d_int) (t_and1 (qGt (dIX (dv 1) d_int) d_int))))
  (b_one (s_ret (d_tup (a2 (dIX (d_lst false (a2 d_str d_str)) (qC C_take hr (a2 (dv 0) d_int))) (dPl d_int (qC C_take hr (a2 (dv 0) (dMi (dIX (dv 1) d_int) d_int))))))))
  b_nil)
  (b_one (s_ret (d_tup (da_cons d_str (da_cons (dv 8) (da_cons (qC C_take hr (a2 (dv 0) (dIX (dv 1) d_int))) (da_cons (dIX d_str (qC C_take hr (a2 (dv 0) d_int))) da_nil)))))))))))))))))),fun ds μ Kd hm hl h=>?_⟩)
 obtain⟨k,x,y,rfl⟩:=inv_easy h
 unfold fEasy at h
 ·skip
  obtain⟨hb,S,m,pool,rfl,rfl,wf,hp,kk⟩:=h
  have few:=wf.few
  have n1:=wf.n1
  have n2:=wf.n2
  have pl:=hp.2.1
  have eN:(S.kept.map fun p=>skey p.1).map keyV=S.kept.map fun p=>D.str p.1:=List.map_map
  have fl:(freshR S pool).length<=50:=Nat.le_trans (List.length_filter_le _ _) pl
  have ol:(openP S).length<=40:=by
   unfold openP
   refine Nat.le_trans (List.length_filter_le _ _) ?_
   rw[gxC,gxJ];omega
  have ll:(loneR S.kept).length<=20:=by
   unfold loneR
   refine Nat.le_trans (List.length_filter_le _ _) ?_
   rw[gxC];exact few
  refine dSet_of (d:=.lst (S.kept.map fun p=>D.str p.1)) (μ':=μ) (fun K k=>by rw[<- eN]at k;exact k) ?_
  refine⟨sz (by rw[gxC];omega),?_⟩
  refine compW_gen trivial D.str (fun z=>if(!(aget S.kept z).isSome&&decide (S.kept.length<20))=true then some (D.str z)else none) (fun z hz K' k'=>?_) ?_
  ·refine⟨_,ixF_k skey_inj ptL z S.kept rfl,?_⟩
   cases e:aget S.kept z with
   | some y=>rw[e]at k';exact k'
   | none =>
    rw[e]at k'
    refine iteD (c:=(((S.kept.map fun p=>D.str p.1).length:Nat):Int)<20) (fun q=>?_) (fun q=>?_)
    ·rw[gxC]at q
     rw[decide_eq_true (show S.kept.length<20 by omega)]at k';exact k'
    ·rw[gxC]at q
     rw[decide_eq_false (show ¬ S.kept.length<20 by omega)]at k';exact k'
  rw[fresh_map]
  refine⟨S,m,rfl,wf,hb,by decide,by decide,fun way w0 w1=>?_⟩
  dsimp only
  refine dIf_of (decide ((0:Int)<(((freshR S pool).map D.str).length:Nat))&&((false != decide ((((S.kept.map fun p=>D.str p.1).length:Nat):Int)=0))||decide (way<3))) ?_ (fun q=>?_) (fun q=>?_)
  ·exact(.and (.tst fun K k=>k) fun _=>.or (.tst fun K k=>k) fun _=>.tst fun K k=>k)
  ·have f0:0<(freshR S pool).length:=by
    simp only[Bool.and_eq_true,decide_eq_true_eq,gxC]at q
    omega
   refine⟨by show 2<=sizeLine;decide,hb,by decide,by decide,fun t t0 t1=>?_⟩
   obtain rfl | rfl:t=0\/t=1:=by omega
   all_goals
    refine⟨hb,by decide,by decide,fun a a0 a1=>⟨hb,by rw[gxC];omega,by rw[gxC];omega,fun i i0 i1=>?_⟩⟩
    obtain⟨z,hz,e⟩:=atI_mapx (g:=D.str) (xs:=freshR S pool) i0 (by rw[gxC]at i1;exact i1)
    obtain⟨z1,z2⟩:=fresh_new hp hz
    refine opt_of e ⟨hb,n1,by omega,fun l hl ho=>⟨by show 4<=sizeLine;decide,.keep (kk (.put z (txt l) a) (ref_put z1 (by omega) ho a0 (by omega)) ⟨by omega,by rw[txt_len];omega⟩)⟩⟩
  have kne:0<S.kept.length:=by
   rcases Nat.eq_zero_or_pos S.kept.length with z | z
   ·have:=fresh_any hp (List.length_eq_zero_iff.mp z)
    rw[decide_eq_true (show(0:Int)<(((freshR S pool).map D.str).length:Nat) by rw[gxC];omega),decide_eq_true (show(((S.kept.map fun p=>D.str p.1).length:Nat):Int)=0 by rw[gxC];omega)]at q
    cases q
   ·exact z
  refine⟨hb,by rw[gxC];omega,by rw[gxC];omega,fun i i0 i1=>?_⟩
  obtain⟨⟨z8,y8⟩,hp8,e8⟩:=atI_mapx (g:=fun p:Str×Pt=>D.str p.1) (xs:=S.kept) i0 (by rw[gxC]at i1;exact i1)
  refine opt_of e8 ?_
  dsimp only
  refine dIf_of (decide (way<7)&&(decide ((0:Int)<(((freshR S pool).map D.str).length:Nat))&&decide ((0:Int)<(((openP S).map D.int).length:Nat)))) ?_ (fun q=>?_) (fun q=>?_)
  ·exact(.and (.tst fun K k=>k) fun _=>.and (.tst fun K k=>k) fun _=>.tst fun K k=>k)
  ·simp only[Bool.and_eq_true,decide_eq_true_eq,gxC]at q
   refine⟨hb,by rw[gxC];omega,by rw[gxC];omega,fun i i0 i1=>?_⟩
   obtain⟨p9,hp9,e9⟩:=atI_mapx (g:=fun p:Str×Pt=>D.str p.1) (xs:=S.kept) i0 (by rw[gxC]at i1;exact i1)
   refine opt_of e9 ⟨hb,by rw[gxC];omega,by rw[gxC];omega,fun i i0 i1=>?_⟩
   obtain⟨pl,hpl,e10⟩:=atI_mapx (g:=D.int) (xs:=openP S) i0 (by rw[gxC]at i1;exact i1)
   refine opt_of e10 ⟨hb,by rw[gxC];omega,by rw[gxC];omega,fun i i0 i1=>?_⟩
   obtain⟨z,hz,e⟩:=atI_mapx (g:=D.str) (xs:=freshR S pool) i0 (by rw[gxC]at i1;exact i1)
   obtain⟨z1,z2⟩:=fresh_new hp hz
   exact opt_of e ⟨by show 5<=sizeLine;decide,.keep (kk (.join z z8 p9.1 pl) (ref_join z1 hp8 hp9 hpl) (show z.length<=1000 by omega))⟩
  have a8:aget S.kept z8=some y8:=aget_of_mem wf.kp.nd hp8
  have eg:ixF (S.kept.map fun p=>skey p.1) (S.kept.map fun p=>ptL p.2) (.str z8)=some (some (ptL y8)):=by rw[ixF_k skey_inj ptL z8 S.kept rfl,a8];rfl
  refine dNx_of ?_
  dsimp only
  refine dIf_of ((false != decide (way=9))&&isFst y8) ?_ (fun q=>?_) (fun q=>?_)
  ·exact(.and (.tst fun K k=>k) fun _=>.tst fun K k=>by cases y8 <;> exact⟨_,eg,k⟩)
  ·cases y8 with
   | jn _ _ _=>rw[show isFst (.jn _ _ _)=false from rfl,Bool.and_false]at q;cases q
   | fst b a0 =>
    refine⟨hb,by decide,by decide,fun a a0' a1=>⟨by show 3<=sizeLine;decide,.keep (kk (.aged z8 a) ?_ trivial)⟩⟩
    show(match aget S.kept z8 with | none=>some 11 | some (.jn _ _ _)=>some 13 | some (.fst _ _)=>ageW a)=none
    rw[a8]
    exact age_ok a0' (by omega)
  refine⟨S,m,rfl,wf,?_⟩
  dsimp only
  refine dIf_of ((false != decide (way=10))&&decide ((0:Int)<(((loneR S.kept).map D.str).length:Nat))) ?_ (fun q=>?_) (fun q=>?_)
  ·exact(.and (.tst fun K k=>k) fun _=>.tst fun K k=>k)
  ·have l0:0<(loneR S.kept).length:=by
    have:=(Bool.and_eq_true_iff.mp q).2
    simp only[decide_eq_true_eq,gxC]at this
    omega
   refine⟨hb,by rw[gxC];omega,by rw[gxC];omega,fun i i0 i1=>?_⟩
   obtain⟨z,hz,e⟩:=atI_mapx (g:=D.str) (xs:=loneR S.kept) i0 (by rw[gxC]at i1;exact i1)
   exact opt_of e ⟨by show 2<=sizeLine;decide,.keep (kk (.drop z) (ref_drop hz) trivial)⟩
  refine dNx_of ?_
  dsimp only
  refine dIf_of (decide (10<way)&&decide (1<S.n)) ?_ (fun q=>?_) (fun q=>?_)
  ·exact(.and (.tst fun K k=>k) fun _=>.tst fun K k=>k)
  ·simp only[Bool.and_eq_true,decide_eq_true_eq]at q
   refine⟨by show 2<=sizeLine;decide,hb,by decide,by decide,fun t t0 t1=>?_⟩
   obtain rfl | rfl:t=0\/t=1:=by omega
   ·exact⟨hb,by omega,by omega,fun p p0 p1=>⟨by show 2<=sizeLine;decide,.keep (kk (.free (1+p)) (place_ok (by omega) (by omega)) trivial)⟩⟩
   ·exact⟨hb,by omega,by omega,fun p p0 p1=>⟨by show 2<=sizeLine;decide,.keep (kk (.shut (1+p)) (place_ok (by omega) (by omega)) trivial)⟩⟩
  refine⟨hb,by omega,by omega,fun bar b0 b1=>⟨hb,by decide,by decide,fun t t0 t1=>⟨by decide,?_⟩⟩⟩
  obtain rfl | rfl:t=0\/t=1:=by omega
  ·exact⟨by show 4<=sizeLine;decide,.keep (kk (.found z8 bar ⟨#[111]⟩) (ref_found hp8 b0 b1 (.inl rfl)) trivial)⟩
  ·exact⟨by show 4<=sizeLine;decide,.keep (kk (.found z8 bar ⟨#[120]⟩) (ref_found hp8 b0 b1 (.inr rfl)) trivial)⟩
theorem ok_Room_undo {f:Addr}{fd:FuncData}(F:Fun K "undo" "Room.undo" s_Room_undo f fd)(T:Bi2 mg)(Z_Room:ZRoom K cRoom)(O_NothingLeft:OwnCls "NothingLeft" cO veB "ValueError.__new__" mg base):FnOk P w K mg base (CX1 P w) 2 f fd ["self"] (spX (fUndoR cRoom cStand cO)):=by
 refine F.okX sc_Room_undo (fun ds μ Kd Kx h=>fUndoR_len h) (fun cdv A outer s H E hr φ0 Kb Z=>⟨_,(b_cons (s_if (qEq (d_fld Z_Room.cl Z_Room.n_done (dv 0)) d_int)
  (b_one (s_raise Z rfl O_NothingLeft PySem.F.excBase_ValueError (by decide) PySem.F.excBase_ValueError rfl (a1 d_str)))
  b_nil)
  (b_cons (s_augFS Z_Room.cl Z_Room.n_done (dv 0) d_int)
  (b_one (s_ret (dIX (d_fld Z_Room.cl Z_Room.n_rows (dv 0)) (d_fld Z_Room.cl Z_Room.n_done (dv 0))))))),fun ds μ m Kd Kx hm hl em h hK=>?_⟩)
 unfold fUndoR at h
 split at h
 ·rename_i k
  obtain⟨_,j1,j2,ss,rs,d,ra,kk⟩:=h
  have rg:=ra.gx (m:=.gx φ0 H)
  have f1:∀ {ν:MS} {n:Int},ν[k]?=some (.ins cRoom roN [.mr j1,.mr j2,.int n])->insM cRoom ν k=some (roN,[.mr j1,.mr j2,.int n]):=fun h=>insM_of h
  obtain⟨lk,la,lb⟩:=rg.lk
  cases d with
  | zero =>
   refine⟨.int ((0:Nat):Int),by rw[f1 rg.ins];rfl,?_⟩
   exact⟨by show 1<=sizeLine;decide,gX_of hK em kk⟩
  | succ d =>
   have hle:=ra.le
   have hd:d<rs.length:=by omega
   refine⟨.int ((d+1:Nat):Int),by rw[f1 rg.ins];rfl,?_⟩
   refine⟨((d+1:Nat):Int),by rw[f1 rg.ins];rfl,_,_,f1 rg.ins,rfl,by show 3<1000;decide,?_⟩
   have e1:((μ.set 0 (.gx φ0 H)).set k (.ins cRoom roN [.mr j1,.mr j2,.int (((d+1:Nat):Int) - 1)]))=putR cRoom cStand (μ.set 0 (.gx φ0 H)) k j1 j2 ss rs d:=by
    unfold putR
    rw[set_same rg.l1,set_same rg.l2,show((d+1:Nat):Int) - 1=(d:Int) by omega]
   have rp:RoomAt cRoom cStand (putR cRoom cStand (μ.set 0 (.gx φ0 H)) k j1 j2 ss rs d) k j1 j2 ss rs d:=rg.put ra.len (by omega) ra.wf ra.few
   have e0:putN (Str.ofString "done") (D.int (((d+1:Nat):Int) - 1)) roN [D.mr j1,D.mr j2,D.int ((d+1:Nat):Int)]=(roN,[D.mr j1,D.mr j2,D.int (((d+1:Nat):Int) - 1)]):=rfl
   dsimp only
   rw[e0]
   dsimp only
   rw[e1]
   refine⟨.mr j2,by rw[f1 rp.ins];rfl,.int d,by rw[f1 rp.ins];rfl,opt_of (lvM_of rp.l2) (opt_of (atI_map (gxA hd)) (.keep ?_))⟩
   obtain⟨g1,g2⟩:=putR_gx ra (m:=.gx φ0 H) (ss':=ss) (rs':=rs) (d':=d) em
   exact⟨g2,by rw[g1];exact kk _ (gxA hd)⟩
 ·exact h.elim
theorem ok_sheet {f:Addr}{fd:FuncData}(F:Fun K "sheet" "sheet" s_sheet f fd)(T:Bi2 mg)(Z_Room:ZRoom K cRoom)(C_Room_size:c_Room_size P w K mg base)(C_Room_deeds:c_Room_deeds P w K mg base):FnOk P w K mg base CX0 5 f fd ["room"] (spD (fSheet cRoom cStand)):=by
 refine F.okD sc_sheet (fun ds μ Kd h=>by unfold fSheet at h;split at h <;> first | rfl | exact h.elim) (fun cdv A outer s H E hr=>⟨_,(b_cons (qS 1 sc_sheet.nd (dPl (d_lst false (a1 (d_tup (a2 d_str (d_meth0 C_Room_size Z_Room.cl hr.le (dv 0)))))) (d_meth0 C_Room_deeds Z_Room.cl hr.le (dv 0))))
  (b_one (s_ret (d_mt PySem.F.plainAttrs_str PySem.F.slot_str_join PySem.F.type_str_join joinS so_joinS d_str (a1 (dC1 false (cOk (N:=["row"]) (js:=[none]) sc_sheet (by decide +kernel)) (i_list (dv 1)) (fun _ _ _ nd=>(qN 0 nd)) (fun _ _ _=>ts_nil) (fun _ _ _=>(d_mt PySem.F.plainAttrs_str PySem.F.slot_str_join PySem.F.type_str_join joinS so_joinS d_str (a1 (dC1 false (compOkN (xsc:=(defScope s_sheet)) (N:=["thing"]) (js:=[none]) rfl (by decide +kernel)) (i_tup (dv 0)) (fun _ _ _ nd=>(qN 0 nd)) (fun _ _ _=>ts_nil) (fun _ _ _=>(d_ty strC so_str (by rfl) T.str PyProof.Rows.boot_str (a1 (dv 0)))))))))))))),fun ds μ Kd hm hl h=>?_⟩)
 unfold fSheet at h
 split at h
 ·rename_i k
  obtain⟨j1,j2,ss,rs,d,S,ra,es,hs,kk⟩:=h
  have wf:=ra.wf _ S es
  have n1:=wf.n1
  have n2:=wf.n2
  have hle:=ra.le
  have few:=ra.few
  have tl:(rs.take d).length<=900:=by rw[List.length_take];omega
  refine⟨room_recv ra rfl,j1,j2,ss,rs,d,S,ra,es,?_⟩
  refine⟨by show 2<=sizeLine;decide,by show 1<=sizeLine;decide,room_recv ra rfl,j1,j2,ss,rs,d,ra,?_⟩
  rw[if_pos rfl]
  have e0:D.tup [D.str (Str.ofString "song"),gSize S]::(rs.take d).map ddD=(([D.str "song",D.int S.n]::(rs.take d).map thD)).map D.tup:=by
   rw[List.map_cons,List.map_map]
   exact congrArg _ (List.map_congr_left fun e _=>dd_th e)
  have e1:([D.str "song",D.int S.n]::(rs.take d).map thD).map (fun xs=>Txt.join spc (xs.map tT))=songR S.n::(rs.take d).map ddR:=by
   rw[List.map_cons,List.map_map]
   exact congrArg _ (List.map_congr_left fun e _=>congrArg (Txt.join spc) (th_T e))
  refine opt_of rfl (opt_of rfl ⟨sz (by rw[gxC];show 1+_<=_;omega),⟨rfl,opt_of rfl ⟨sz (by rw[gxE,gxC];show 1+_<=_;omega),?_⟩⟩⟩)
  rw[List.singleton_append,e0]
  refine compW_gen trivial D.tup (fun xs=>some (.str (Txt.join spc (xs.map tT)))) (fun xs hx K' k'=>?_) ?_
  ·have ok:(∀ x∈xs,tOk x)/\xs.length<=5:=by
    rcases List.mem_cons.mp hx with rfl | q
    ·refine⟨fun x hx=>?_,by simp only[List.length_cons,List.length_nil];omega⟩
     simp only[List.mem_cons,List.not_mem_nil,or_false]at hx
     rcases hx with rfl | rfl
     ·show Str.length _<=100;decide +kernel
     ·show Int.natAbs _<=1000;omega
    ·obtain⟨e,he,rfl⟩:=List.mem_map.mp q
     exact⟨th_ok (hs e he),th_len e⟩
   refine⟨rfl,sz (by omega),?_⟩
   refine compW_things trivial (fun x tx K2 k2=>?_) ok.1 ⟨xs.map tT,rfl,Nat.le_trans (row_fits ok.1 ok.2).1 (by decide),k'⟩
   cases x with
   | str z=>exact k2
   | int i=>exact⟨Nat.lt_of_le_of_lt tx (by decide),k2⟩
   | _=>exact tx.elim
  ·rw[show(fun xs:List D=>some (D.str (Txt.join spc (xs.map tT))))=some ∘ (fun xs=>D.str (Txt.join spc (xs.map tT)))from rfl,List.filterMap_eq_map]
   refine⟨songR S.n::(rs.take d).map ddR,?_,sheet_fits (by omega) hs tl,.keep kk⟩
   rw[<- e1,List.map_map];rfl
 ·exact h.elim
theorem ok_lawsheet {f:Addr}{fd:FuncData}(F:Fun K "_law_sheet" "_law_sheet" s_lawsheet f fd)(T:Bi2 mg)  : FnOk P w K mg base CX0 1 f fd ["_law_size_here", "_law_deeds"] (spD fSheetL):=by
 refine F.okD sc_lawsheet (fun ds μ Kd h=>by unfold fSheetL at h;split at h <;> first | rfl | exact h.elim) (fun cdv A outer s H E hr=>⟨_,(b_cons (qS 2 sc_lawsheet.nd (d_lst true (a1 (dPl d_str (d_ty strC so_str (by rfl) T.str PyProof.Rows.boot_str (a1 (dv 0)))))))
  (b_cons (s_for PassesOwn.never rfl (i_list (dv 1)) (qT 3 sc_lawsheet.nd)
  (b_one (s_expr (d_mt PySem.F.plainAttrs_list PySem.F.slot_list_append PySem.F.type_list_append appendC so_append (dv 2) (a1 (d_mt PySem.F.plainAttrs_str PySem.F.slot_str_join PySem.F.type_str_join joinS so_joinS d_str (a1 (dC1 false (cOk (N:=["_law_thing"]) (js:=[none]) sc_lawsheet (by decide +kernel)) (i_tup (dv 3)) (fun _ _ _ nd=>(qN 0 nd)) (fun _ _ _=>ts_nil) (fun _ _ _=>(d_ty strC so_str (by rfl) T.str PyProof.Rows.boot_str (a1 (dv 0))))))))))))
  (b_one (s_ret (d_mt PySem.F.plainAttrs_str PySem.F.slot_str_join PySem.F.type_str_join joinS so_joinS d_str (a1 (dv 2))))))),fun ds μ Kd hm hl h=>?_⟩)
 unfold fSheetL at h
 split at h
 ·rename_i n xs
  obtain⟨rs,rfl,hs,hl,hn,kk⟩:=h
  refine⟨by omega,?_⟩
  have l1:(intT n).length<=100:=intT_len hn
  have es:Str.ofString "song "++Str.ofString (toString n)=songR n:=by
   have e:(Str.ofString "song ").cps=("song" : Str).cps++spc.cps:=by decide +kernel
   show Str.mk ((Str.ofString "song ").cps++(intT n).cps)=Str.mk ((("song" : Str).cps++spc.cps)++(intT n).cps)
   rw[e]
  refine⟨Nat.le_trans (Nat.add_le_add (show Str.length (Str.ofString "song ")<=100 by decide +kernel) l1) (sz (by decide)),by show 1<=sizeLine;decide,?_⟩
  rw[es]
  have fin:∀ l:List Dd,(songR n::l.map ddR).length=l.length+1:=fun l=>by rw[List.length_cons,gxC]
  refine forW_inv (fun ds ρ μ'=>∃(a b:List Dd) (v3:Option D),rs=a++b/\ds=b.map ddD/\ρ=[some (.int n),some (.lst (rs.map ddD)),some (.mr μ.length),v3]/\μ'=μ++[.lst ((songR n::a.map ddR).map D.str)]) ⟨[],rs,none,rfl,rfl,rfl,rfl⟩ ?_ ?_
  ·rintro d' ds' ρ μ' ⟨a,b,v3,er,e1,rfl,rfl⟩
   refine⟨trivial,fun nx hnx=>?_⟩
   cases b with
   | nil=>cases e1
   | cons e b =>
    cases e1
    have he:ddS e:=hs e (by rw[er];exact List.mem_append_right _ List.mem_cons_self)
    have al:a.length+b.length+1<=900:=by rw[er,gxE,List.length_cons]at hl;omega
    have ok:=th_ok he
    have ok2:=th_len e
    refine⟨lvM_ty lvM_new,rfl,?_⟩
    rw[dd_th e]
    refine⟨sz (by omega),?_⟩
    refine compW_things trivial (fun x tx K2 k2=>?_) ok ⟨(thD e).map tT,rfl,Nat.le_trans (row_fits ok ok2).1 (by decide),?_⟩
    ·cases x with
     | str z=>exact k2
     | int i=>exact⟨Nat.lt_of_le_of_lt tx (by decide),k2⟩
     | _=>exact tx.elim
    ·refine opt_of lvM_new ⟨by rw[gxC,fin];exact Nat.lt_of_lt_of_le (m:=1000) (by omega) (sz (by omega)),?_⟩
     rw[set_end,th_T]
     refine hnx _ _ ⟨a++[e],b,_,by rw[er,List.append_assoc];rfl,rfl,by rw[<- dd_th e];rfl,?_⟩
     rw[List.map_append,<- List.cons_append,List.map_append];rfl
  ·rintro ρ μ' ⟨a,b,v3,er,e1,rfl,rfl⟩
   cases b with
   | cons e b=>cases e1
   | nil =>
    rw[List.append_nil]at er
    subst er
    refine⟨trivial,rfl,songR n::rs.map ddR,by show lvM _ _=_;rw[lvM_new],sheet_fits hn hs hl,?_⟩
    exact .drop trivial (fun j m hj e=>hm j m (by rw[gxF hj]at e;exact e)) (by rw[List.take_left];exact kk)
 ·exact h.elim
set_option maxHeartbeats 8000000 in
theorem ok_law {f:Addr}{fd:FuncData}(F:Fun K "law" "law" s_law f fd)(T:Bi2 mg)(Z_Room:ZRoom K cRoom)(C_box:c_box P w K mg base)(C_take:c_take P w K mg base)(C_size:c_size P w K mg base)(C_begun:c_begun P w K mg base)(C_Room_undo:c_Room_undo P w K mg base)(C_easy:c_easy P w K mg base)(C_Room_deed:c_Room_deed P w K mg base)(C_done:c_done P w K mg base)(C_same:c_same P w K mg base)(C_sheet:c_sheet P w K mg base)(C_lawsheet:c_lawsheet P w K mg base)(C_Room_deeds:c_Room_deeds P w K mg base)(C_Room_ahead:c_Room_ahead P w K mg base):FnOk P w K mg base CX0 12 f fd ["_law_script"] (spLaw K):=by
 refine F.ok sc_law (fun vs H Q E h=>?_) (fun cdv A outer s H vs Q E hr h=>?_)
 ·obtain⟨a,ns,rfl,_⟩:=h;rfl
 ·obtain⟨a,ns,rfl,hs,hl,k⟩:=h
  refine⟨_,pss_cons (ps_set (i:=1) sc_law.nd rfl (by first | exact Or.inl rfl | exact Or.inr rfl) (pe_callC C_box (hr.mono (by first | decide | exact Nat.le_refl _ | omega)) rfl (pa_cons (pvC 0) pa_nil))) (b_cons (s_asg (qC C_begun hr (a2 (dv 1) (qC C_size hr (a2 (dv 1) d_int)))) ⟨(pg_tupC (n:=3) rfl (pgs_consC (qN 2 sc_law.nd) (pgs_consC (qN 3 sc_law.nd) (pgs_consC (qN 4 sc_law.nd) pgs_nilC)))),(so_tup (so_cons (so_name 2) (mo_name 2) (so_cons (so_name 3) (mo_name 3) (so_cons (so_name 4) (mo_name 4) so_nil mo_nil) (mo_cons (mo_name 4) mo_nil)) (mo_cons (mo_name 3) (mo_cons (mo_name 4) mo_nil)))),(mo_tup (mo_cons (mo_name 2) (mo_cons (mo_name 3) (mo_cons (mo_name 4) mo_nil))))⟩)
   (b_cons (qS 5 sc_law.nd (d_lst true (a1 (d_tup (a2 (dv 3) (d_tup da_nil))))))
   (b_cons (qS 6 sc_law.nd d_int)
   (b_cons (s_for PassesOwn.never rfl (i_range1 rfl T.range (a1 (qC C_take hr (a2 (dv 1) d_int)))) (qT 7 sc_law.nd)
   (b_cut (s_if (PW.pt (t_and (qEq (qC C_take hr (a2 (dv 1) d_int)) d_int) (t_and1 (qGt (dLn T (dv 5)) d_int))))
   (b_cons (s_expr (d_meth0Xc C_Room_undo Z_Room.cl hr.le (dv 2)))
   (b_cons (s_expr (d_mt0 PySem.F.plainAttrs_list PySem.F.slot_list_pop PySem.F.type_list_pop popL so_pop (dv 5)))
   (b_one (qS 6 sc_law.nd (dPl (dv 6) d_int)))))
   (b_cons (qS 8 sc_law.nd (qC C_easy hr (a3 (dv 1) (dIX (dIX (dv 5) (d_neg d_int)) d_int) (dv 4))))
   (b_cons (s_expr (d_methXc C_Room_deed Z_Room.cl hr.le (dv 2) (a1 (dv 8))))
   (b_cons (s_expr (d_mt PySem.F.plainAttrs_list PySem.F.slot_list_append PySem.F.type_list_append appendC so_append (dv 5) (a1 (d_tup (a2 (qC C_done hr (a2 (dIX (dIX (dv 5) (d_neg d_int)) d_int) (dv 8))) (dv 8))))))
   (b_one (qS 6 sc_law.nd d_int))))))
   (b_cons (sC1 9 false sc_law.nd (cOk (N:=["_law_one"]) (js:=[none]) sc_law (by decide +kernel)) (i_list (d_slice false (dv 5) (o_some d_int) o_no)) (fun _ _ _ nd=>(qN 0 nd)) (fun _ _ _=>ts_nil) (fun _ _ _=>(dIX (dv 0) d_int)))
   (b_one (s_if (PW.pt (t_and (qEq (d_op modC so_i2 (dv 7) d_int) d_int) (t_and1 (t_not (d_testV (qC C_same hr (a2 (qC C_sheet hr (a1 (dv 2))) (qC C_lawsheet hr (a2 (dIX (dv 3) d_int) (dv 9))))))))))
   (b_one (s_ret d_bl))
   b_nil)))))
   (b_cons (sC1 9 false sc_law.nd (cOk (N:=["_law_one"]) (js:=[none]) sc_law (by decide +kernel)) (i_list (d_slice false (dv 5) (o_some d_int) o_no)) (fun _ _ _ nd=>(qN 0 nd)) (fun _ _ _=>ts_nil) (fun _ _ _=>(dIX (dv 0) d_int)))
   (b_cons (s_if (t_not (d_testV (qC C_same hr (a2 (qC C_sheet hr (a1 (dv 2))) (qC C_lawsheet hr (a2 (dIX (dv 3) d_int) (dv 9)))))))
   (b_one (s_ret d_bl))
   b_nil)
   (b_one (s_ret (d_and (qC C_same hr (a2 (d_meth0 C_Room_deeds Z_Room.cl hr.le (dv 2)) (dv 9))) (d_one (d_cmp eqC so_eqS (dLn T (d_meth0 C_Room_ahead Z_Room.cl hr.le (dv 2))) (dv 6) (nomark _)))))))))))),?_⟩
  refine⟨ns,hs,fun b q H0 B0 hb0 hq0 S0=>?_⟩
  refine law_go (m:=8) B0 ?_ k
  refine⟨rfl,fun most hmost=>⟨⟨_,rfl⟩,rfl,by decide,by omega,by omega,fun n pool h1 h2 hp=>?_⟩⟩
  have ra0:RoomAt cRoom cStand ([MO.box]++[.ins cRoom roN [.mr 2,.mr 3,.int 0],.lst [sdD cStand ⟨n,[],[]⟩],.lst []]) 1 2 3 [⟨n,[],[]⟩] [] 0:=RoomAt.made (by decide) h1 (by omega)
  obtain⟨R0,hR⟩:∃ R0:RS,R0=⟨n,[],[]⟩:=⟨_,rfl⟩
  rw[<- hR]at ra0 ⊢
  have Rn:R0.n=n:=by rw[hR]
  refine⟨rfl,by show 0<=sizeLine;decide,by show 2<=sizeLine;decide,by show 1<=sizeLine;decide,rfl,by decide,by decide,fun t t0 t1=>⟨by omega,by omega,?_⟩⟩
  refine forW_inv (fun ds ρ μ'=>∃(i j:Nat) (ps:List (RS×Dd)) (ss:List RS) (rs:List Dd) (d:Nat) (v7 v8 v9:Option D),ds=rngD i j/\i+j=t.toNat/\rs.length<=i/\RoomAt cRoom cStand μ' 1 2 3 ss rs d/\Past R0 ps ss rs d/\(∀ e∈rs,ddS e)/\(∀ S∈ss,S.n=n)/\μ'[0]?=some .box/\μ'[4]?=some (.lst (pastD R0 ps))/\ρ=[none,some (.mr 0),some (.mr 1),some (slD R0),some (strL pool),some (.mr 4),some (.int ((rs.length - d:Nat):Int)),v7,v8,v9]) ⟨0,t.toNat,[],[R0],[],0,none,none,none,rfl,by omega,Nat.le_refl _,ra0.more (g:=[.lst (pastD R0 [])]),.start,fun _ h=>(nomatch h),fun S hS=>by rw[List.mem_singleton.mp hS,Rn],rfl,rfl,rfl⟩ ?_ ?_
  ·rintro d' ds' ρ μ' ⟨i,j,ps,ss,rs,d,v7,v8,v9,e1,hij,hrl,ra,pa,sm,sn,hbox,hl4,rfl⟩
   refine⟨trivial,fun nx hnx=>?_⟩
   cases j with
   | zero=>cases e1
   | succ j =>
    rw[rngD_cons]at e1
    cases e1
    have hle:=ra.le
    have hlen:=ra.len
    have pl:=pa.len hle
    have l4:4<μ'.length:=(gxB hl4).1
    refine⟨fun ρ2 μ2=>∃(ps:List (RS×Dd)) (ss:List RS) (rs:List Dd) (d:Nat) (v8:Option D),rs.length<=i+1/\RoomAt cRoom cStand μ2 1 2 3 ss rs d/\Past R0 ps ss rs d/\(∀ e∈rs,ddS e)/\(∀ S∈ss,S.n=n)/\μ2[0]?=some .box/\μ2[4]?=some (.lst (pastD R0 ps))/\ρ2=[none,some (.mr 0),some (.mr 1),some (slD R0),some (strL pool),some (.mr 4),some (.int ((rs.length - d:Nat):Int)),some (.int i),v8,v9],?_,?_⟩
    ·dsimp only
     refine dIf_any (fun b=>b=true->0<ps.length) (fun K k=>⟨hbox,by decide,by decide,fun w w0 w1=>?_⟩) (fun q=>?_) (fun _=>?_)
     ·by_cases hw:w=0
      ·subst hw
       refine opt_of (lvM_of hl4) (k _ fun q=>?_)
       have:=of_decide_eq_true q
       rw[pastD_len]at this
       omega
      ·show(if(false != decide (w=0))=true then _ else _)
       rw[decide_eq_false hw]
       exact k _ (fun q=>by cases q)
     ·rcases ends_or ps with rfl | ⟨qs,x,rfl⟩
      ·exact absurd (q rfl) (by decide)
      obtain⟨d,rfl⟩:∃ d',d=d'+1:=⟨d - 1,by rw[gxE,List.length_singleton]at pl;omega⟩
      refine⟨room_recv ra rfl,trivial,⟨_,hbox⟩,2,3,ss,rs,d+1,ra,fun e he=>?_⟩
      have rp:RoomAt cRoom cStand (putR cRoom cStand μ' 1 2 3 ss rs d) 1 2 3 ss rs d:=ra.put hlen (by omega) ra.wf ra.few
      obtain⟨ν,hν⟩:∃ ν,ν=putR cRoom cStand μ' 1 2 3 ss rs d:=⟨_,rfl⟩
      have n4:ν[4]?=some (.lst (pastD R0 (qs++[x]))):=by rw[hν,putR_at (by decide) (by decide) (by decide)];exact hl4
      have n0:ν[0]?=some .box:=by rw[hν,putR_at (by decide) (by decide) (by decide)];exact hbox
      have nl:4<ν.length:=by rw[hν,putR_len];exact l4
      rw[<- hν]at rp ⊢
      refine⟨lvM_ty (lvM_of n4),opt_of (lvM_of n4) (opt_of (v:=pD x) ?_ ?_)⟩
      ·rw[pastD_end,gxE,List.length_singleton,Nat.add_sub_cancel,gxG (Nat.le_refl _),Nat.sub_self];rfl
      ·rw[pastD_end,List.dropLast_concat]
       refine⟨qs,ss,rs,d,v8,by omega,rp.other (by decide) (by decide) (by decide),pa.undo hle,sm,sn,by rw[List.getElem?_set_ne (by decide)];exact n0,by rw[List.getElem?_set_self nl],?_⟩
       rw[show((rs.length - d:Nat):Int)=((rs.length - (d+1):Nat):Int)+1 by omega];rfl
     ·have es:=pa.now hle
      obtain⟨S,hS⟩:∃ S,S=curS R0 ps:=⟨_,rfl⟩
      obtain⟨y,ey⟩:=past_last R0 ps
      rw[<- hS]at es ey
      have wf:=ra.wf _ S es
      refine opt_of (lvM_of hl4) (opt_of ey ⟨hbox,S,_,pool,rfl,rfl,wf,hp,fun e href hok=>?_⟩)
      refine⟨room_recv ra rfl,trivial,⟨_,hbox⟩,2,3,ss,rs,d,S,e,ra,es,rfl,hok,by omega,?_⟩
      rw[href]
      obtain⟨g3,g4⟩:=ra.growD es href (by omega)
      obtain⟨ν,hν⟩:∃ ν,ν=putR cRoom cStand μ' 1 2 3 (ss.take (d+1)++[doD S e]) (rs.take d++[e]) (d+1):=⟨_,rfl⟩
      have n4:ν[4]?=some (.lst (pastD R0 ps)):=by rw[hν,putR_at (by decide) (by decide) (by decide)];exact hl4
      have n0:ν[0]?=some .box:=by rw[hν,putR_at (by decide) (by decide) (by decide)];exact hbox
      have nl:4<ν.length:=by rw[hν,putR_len];exact l4
      rw[<- hν]at g3 ⊢
      refine⟨lvM_ty (lvM_of n4),opt_of (lvM_of n4) (opt_of ey ⟨S,e,_,rfl,rfl,wf,by omega,href,?_⟩)⟩
      refine⟨by show 2<=sizeLine;decide,opt_of (lvM_of n4) ⟨by rw[pastD_len];exact Nat.lt_of_lt_of_le (m:=1000) (by omega) (sz (by omega)),?_⟩⟩
      refine⟨ps++[(doD S e,e)],_,_,d+1,some (ddD e),?_,g3.other (by decide) (by decide) (by decide),pa.do hle hlen,fun z hz=>?_,fun z hz=>?_,by rw[List.getElem?_set_ne (by decide)];exact n0,by rw[List.getElem?_set_self nl,pastD_end];rfl,?_⟩
      ·rw[gxE,List.length_take];show _+1<=_;omega
      ·rcases List.mem_append.mp hz with q | q
       ·exact sm z (List.mem_of_mem_take q)
       ·rw[List.mem_singleton.mp q];exact small_of wf href
      ·rcases List.mem_append.mp hz with q | q
       ·exact sn z (List.mem_of_mem_take q)
       ·rw[List.mem_singleton.mp q,doD_n];exact sn S (gxD es)
      ·rw[show(rs.take d++[e]).length - (d+1)=0 by rw[gxE,List.length_take];show _+1 - _=0;omega];rfl
    ·rintro ρ2 μ2 ⟨ps,ss,rs,d,v8,hrl,ra,pa,sm,sn,hbox,hl4,rfl⟩
     have hle:=ra.le
     have es:=pa.now hle
     have pl:=pa.len hle
     have en:(curS R0 ps).n=n:=sn _ (gxD es)
     refine opt_of (lvM_of hl4) ?_
     rw[past_cut]
     refine⟨sz (by rw[gxC];omega),past_deeds trivial pa (fun p K' k'=>opt_of rfl k') (nLf ?_)⟩
     dsimp only
     refine dIf_of ((false != decide ((i:Int)%4=2))&&!true) ?_ (fun q=>?_) (fun _=>?_)
     ·refine .and (.tst fun K k=>⟨show(0:Int)<4 by decide,k⟩) fun _=>.not (x:=true) (.tst fun K k=>⟨2,3,ss,rs,d,_,ra,es,fun e he=>sm e (List.mem_of_mem_take he),?_⟩)
      rw[en]
      refine opt_of rfl ⟨rs.take d,rfl,fun e he=>sm e (List.mem_of_mem_take he),by rw[List.length_take];omega,by rw[Rn];omega,?_⟩
      exact⟨.str (sheetT n (rs.take d)),rfl,by rw[Rn];rfl,sm_str,k⟩
     ·rw[Bool.not_true,Bool.and_false]at q;cases q
     ·exact hnx _ _ ⟨i+1,j,ps,ss,rs,d,_,_,_,by rw[Int.natCast_add];rfl,by omega,hrl,ra,pa,sm,sn,hbox,hl4,rfl⟩
  ·rintro ρ μ' ⟨i,j,ps,ss,rs,d,v7,v8,v9,e1,hij,hrl,ra,pa,sm,sn,hbox,hl4,rfl⟩
   cases j with
   | succ j=>rw[rngD_cons]at e1;cases e1
   | zero =>
    have hle:=ra.le
    have es:=pa.now hle
    have pl:=pa.len hle
    have en:(curS R0 ps).n=n:=sn _ (gxD es)
    refine⟨trivial,?_⟩
    refine opt_of (lvM_of hl4) ?_
    rw[past_cut]
    refine⟨sz (by rw[gxC];omega),past_deeds trivial pa (fun p K' k'=>opt_of rfl k') (nLf ?_)⟩
    dsimp only
    refine dIf_of (!true) (.not (.tst fun K k=>⟨2,3,ss,rs,d,_,ra,es,fun e he=>sm e (List.mem_of_mem_take he),?_⟩)) (fun q=>?_) (fun _=>?_)
    ·rw[en]
     refine opt_of rfl ⟨rs.take d,rfl,fun e he=>sm e (List.mem_of_mem_take he),by rw[List.length_take];omega,by rw[Rn];omega,?_⟩
     exact⟨.str (sheetT n (rs.take d)),rfl,by rw[Rn];rfl,sm_str,k⟩
    ·cases q
    ·refine dNx_of ?_
     refine⟨room_recv ra rfl,2,3,ss,rs,d,ra,.lst ((rs.take d).map ddD),by rw[if_pos rfl];rfl,rfl,sm_dds (by rw[List.length_take];omega),?_⟩
     refine⟨room_recv ra rfl,2,3,ss,rs,d,ra,?_⟩
     rw[if_neg (by decide)]
     have el:(((rs.drop d).map ddD).length:Int)=((rs.length - d:Nat):Int):=by rw[gxC,List.length_drop]
     refine opt_of rfl ?_
     show lawN.rt (D.bl (false != decide ((((rs.drop d).map ddD).length:Int)=((rs.length - d:Nat):Int)))) μ'
     rw[decide_eq_true el]
     rfl
end
def kM0:Value:=(.str "hissroom.errors" 194)
def kM1:Value:=(.str "law_hissroom_k45_sheets_written" 950)
def kM2:Value:=(.str "hissroom.bars" 422)
def kM3:Value:=(.str "hissroom.stand" 446)
def kM4:Value:=(.str "hissroom.room" 689)
def kM5:Value:=(.str "hissroom.sheets" 942)
def kk (P:Params):PySem.W.Frag:=List.flatten [[ko 3 (mainO P "law_hissroom_k45_sheets_written" 950 [me "_wall" 193 (.ref 21),me "HissError" 213 (.ref 31),me "BadBars" 229 (.ref 44),me "BadName" 245 (.ref 56),me "BadAge" 261 (.ref 68),me "BadBar" 277 (.ref 80),me "BadPlace" 293 (.ref 92),me "Taken" 309 (.ref 104),me "Full" 325 (.ref 116),me "NoTake" 341 (.ref 128),me "Shut" 357 (.ref 140),me "Joined" 373 (.ref 152),me "Needed" 389 (.ref 164),me "NothingLeft" 405 (.ref 176),me "BadSize" 421 (.ref 188),me "is_bars" 431 (.ref 197),me "joined" 445 (.ref 204),me "MOST_LETTERS" 449 (.int 8 448),me "MOST_TAKES" 451 (.int 20 450),me "OLDEST" 453 (.int 20 452),me "Stand" 545 (.ref 261),me "put" 558 (.ref 272),me "join" 571 (.ref 279),me "found" 588 (.ref 286),me "aged" 601 (.ref 293),me "drop" 607 (.ref 298),me "free" 617 (.ref 305),me "shut" 627 (.ref 312),me "DEEDS" 642 (.ref 313),me "stand_behind" 651 (.ref 320),me "check_new" 657 (.ref 325),me "check_age" 664 (.ref 332),me "check_place" 672 (.ref 339),me "with_key" 682 (.ref 346),me "without_key" 688 (.ref 351),me "LONGEST" 692 (.int 40 691),me "Room" 941 (.ref 557),me "sheet" 949 (.ref 566),me "_law_box" 958 (.ref 573),me "_law_take" 970 (.ref 580),me "_law_names" 976 (.ref 585),me "_law_begun" 985 (.ref 592),me "_law_bars" 991 (.ref 597),me "_law_origin" 1005 (.ref 604),me "_law_ages" 1015 (.ref 611),me "_law_heard" 1021 (.ref 616),me "_law_takes" 1027 (.ref 621),me "_law_open" 1033 (.ref 626),me "_law_done" 1048 (.ref 633),me "_law_lone" 1054 (.ref 638),me "_law_easy" 1060 (.ref 643),me "_law_grown" 1074 (.ref 650),me "_law_sheet" 1080 (.ref 655),me "_law_size" 1088 (.ref 662),me "_law_same" 1094 (.ref 667),me "law" 1100 (.ref 672)])],[ko 261 ⟨.type "type",none,(.cls ⟨"Stand",[.type "object"],[.ref 261,.type "object"],260, "Stand",true,[],[],false,none,false⟩),#[none,none,(some (.str "Stand" 454)),(some (.str "Stand" 462)),(some (.builtin "object.__new__")),(some (.bool true))]⟩,ko 260 ⟨.type "dict",none,(.dict #[enP P "__module__" 461 (.str "hissroom.stand" 446),enP P "__firstlineno__" 465 (.int 45 464),enP P "__init__" 476 (.ref 218),enP P "check_there" 484 (.ref 225),enP P "parts" 492 (.ref 232),enP P "source" 506 (.ref 239),enP P "takes_by_names" 519 (.ref 246),enP P "take" 527 (.ref 253),enP P "shelf" 533 (.ref 258),enP P "__static_attributes__" 538 (.ref 259),enP P "__dict__" 540 (.ref 262),enP P "__weakref__" 542 (.ref 263),enP P "__doc__" 543 (.none)] 4),#[]⟩],[ko 557 ⟨.type "type",none,(.cls ⟨"Room",[.type "object"],[.ref 557,.type "object"],556, "Room",true,[],[],false,none,false⟩),#[none,none,(some (.str "Room" 693)),(some (.str "Room" 701)),(some (.builtin "object.__new__")),(some (.bool true))]⟩,ko 556 ⟨.type "dict",none,(.dict #[enP P "__module__" 700 (.str "hissroom.room" 689),enP P "__firstlineno__" 704 (.int 162 703),enP P "__init__" 712 (.ref 365),enP P "now" 719 (.ref 372),enP P "put" 729 (.ref 379),enP P "join" 740 (.ref 386),enP P "found" 750 (.ref 393),enP P "aged" 759 (.ref 400),enP P "drop" 767 (.ref 407),enP P "free" 775 (.ref 414),enP P "shut" 783 (.ref 421),enP P "deed" 792 (.ref 428),enP P "undo" 799 (.ref 435),enP P "redo" 806 (.ref 442),enP P "deeds" 813 (.ref 449),enP P "ahead" 820 (.ref 456),enP P "size" 827 (.ref 463),enP P "names" 834 (.ref 470),enP P "bars" 842 (.ref 477),enP P "age" 850 (.ref 484),enP P "parts" 858 (.ref 491),enP P "source" 867 (.ref 498),enP P "cuts" 877 (.ref 505),enP P "takes" 887 (.ref 512),enP P "answer" 894 (.ref 519),enP P "least" 901 (.ref 526),enP P "few" 908 (.ref 533),enP P "after" 916 (.ref 540),enP P "coming" 923 (.ref 547),enP P "twin" 930 (.ref 554),enP P "__static_attributes__" 934 (.ref 555),enP P "__dict__" 936 (.ref 558),enP P "__weakref__" 938 (.ref 559),enP P "__doc__" 939 (.none)] 4),#[]⟩],kx P 128 127 31 "NoTake" (some (.ref 119)) 326 334 kM0 333 21 126,kx P 80 79 31 "BadBar" (some (.ref 71)) 262 270 kM0 269 13 78,kx P 56 55 31 "BadName" (some (.ref 47)) 230 238 kM0 237 9 54,kx P 104 103 31 "Taken" (some (.ref 95)) 294 302 kM0 301 17 102,kx P 116 115 31 "Full" (some (.ref 107)) 310 318 kM0 317 19 114,kx P 68 67 31 "BadAge" (some (.ref 59)) 246 254 kM0 253 11 66,kx P 92 91 31 "BadPlace" (some (.ref 83)) 278 286 kM0 285 15 90,kx P 44 43 31 "BadBars" (some (.ref 35)) 214 222 kM0 221 7 42,kx P 140 139 31 "Shut" (some (.ref 131)) 342 350 kM0 349 23 138,kx P 152 151 31 "Joined" (some (.ref 143)) 358 366 kM0 365 25 150,kx P 164 163 31 "Needed" (some (.ref 155)) 374 382 kM0 381 27 162,kx P 188 187 31 "BadSize" (some (.ref 179)) 406 414 kM0 413 31 186,kx P 176 175 31 "NothingLeft" (some (.ref 167)) 390 398 kM0 397 29 174,[ko 31 ⟨.type "type",none,(.cls ⟨"HissError",[.type "ValueError"],[.ref 31,.type "ValueError",.type "Exception",.type "BaseException",.type "object"],30, "HissError",true,[],[.ref 44,.ref 56,.ref 68,.ref 80,.ref 92,.ref 104,.ref 116,.ref 128,.ref 140,.ref 152,.ref 164,.ref 176,.ref 188],false,none,false⟩),#[(some (.ref 22)),none,(some (.str "HissError" 196)),(some (.str "HissError" 204)),(some (.builtin "ValueError.__new__")),(some (.bool true))]⟩,ko 30 ⟨.type "dict",none,(.dict #[enP P "__module__" 203 (.str "hissroom.errors" 194),enP P "__firstlineno__" 207 (.int 5 206),enP P "__static_attributes__" 208 (.ref 29),enP P "__weakref__" 210 (.ref 32),enP P "__doc__" 211 (.none)] 3),#[]⟩],kf 573 572 "_law_box" "_law_box" s_box kM1 952 264 1 567 568 (.ref 569) (.ref 570) 571 956,kf 580 579 "_law_take" "_law_take" s_take kM1 959 266 2 574 575 (.ref 576) (.ref 577) 578 968,kf 597 596 "_law_bars" "_law_bars" s_bars kM1 986 299 2 593 594 .none .none 595 989,kf 662 661 "_law_size" "_law_size" s_size kM1 1081 393 2 656 657 (.ref 658) (.ref 659) 660 1086,kf 667 666 "_law_same" "_law_same" s_same kM1 1089 395 2 663 664 .none .none 665 1092,kf 197 196 "is_bars" "is_bars" s_is_bars kM2 424 34 2 191 192 (.ref 193) (.ref 194) 195 429,kf 204 203 "joined" "joined" s_joined kM2 432 36 3 198 199 (.ref 200) (.ref 201) 202 443,kf 346 345 "with_key" "with_key" s_with_key kM3 673 154 3 340 341 (.ref 342) (.ref 343) 344 680,kf 351 350 "without_key" "without_key" s_without_key kM3 683 158 2 347 348 .none .none 349 686,kf 218 217 "__init__" "Stand.__init__" s_Stand___init__ kM3 466 47 5 212 213 (.ref 214) (.ref 215) 216 474,kf 225 224 "check_there" "Stand.check_there" s_Stand_check_there kM3 477 53 2 219 220 (.ref 221) (.ref 222) 223 482,kf 232 231 "parts" "Stand.parts" s_Stand_parts kM3 485 57 2 226 227 (.ref 228) (.ref 229) 230 490,kf 239 238 "source" "Stand.source" s_Stand_source kM3 493 61 3 233 234 (.ref 235) (.ref 236) 237 504,kf 325 324 "check_new" "check_new" s_check_new kM3 652 141 2 321 322 .none .none 323 655,kf 332 331 "check_age" "check_age" s_check_age kM3 658 148 1 326 327 (.ref 328) (.ref 329) 330 662,kf 339 338 "check_place" "check_place" s_check_place kM3 665 151 2 333 334 (.ref 335) (.ref 336) 337 670,kf 272 271 "put" "put" s_put kM3 546 90 2 266 267 (.ref 268) (.ref 269) 270 556,kf 279 278 "join" "join" s_join kM3 559 98 2 273 274 (.ref 275) (.ref 276) 277 569,kf 286 285 "found" "found" s_found kM3 572 107 2 280 281 (.ref 282) (.ref 283) 284 586,kf 293 292 "aged" "aged" s_aged kM3 589 115 2 287 288 (.ref 289) (.ref 290) 291 599,kf 298 297 "drop" "drop" s_drop kM3 602 122 2 294 295 .none .none 296 605,kf 305 304 "free" "free" s_free kM3 608 129 2 299 300 (.ref 301) (.ref 302) 303 615,kf 312 311 "shut" "shut" s_shut kM3 618 133 2 306 307 (.ref 308) (.ref 309) 310 625,kf 320 319 "stand_behind" "stand_behind" s_stand_behind kM3 643 138 2 314 315 (.ref 316) (.ref 317) 318 649,kf 365 364 "__init__" "Room.__init__" s_Room___init__ kM4 705 164 2 359 360 (.ref 361) (.ref 362) 363 710,kf 372 371 "now" "Room.now" s_Room_now kM4 713 171 1 366 367 (.ref 368) (.ref 369) 370 717,kf 428 427 "deed" "Room.deed" s_Room_deed kM4 784 195 2 422 423 (.ref 424) (.ref 425) 426 790,kf 449 448 "deeds" "Room.deeds" s_Room_deeds kM4 807 210 1 443 444 (.ref 445) (.ref 446) 447 811,kf 456 455 "ahead" "Room.ahead" s_Room_ahead kM4 814 213 1 450 451 (.ref 452) (.ref 453) 454 818,kf 463 462 "size" "Room.size" s_Room_size kM4 821 216 1 457 458 (.ref 459) (.ref 460) 461 825,kf 435 434 "undo" "Room.undo" s_Room_undo kM4 793 201 1 429 430 (.ref 431) (.ref 432) 433 797,kf 585 584 "_law_names" "_law_names" s_names kM1 971 282 2 581 582 .none .none 583 974,kf 592 591 "_law_begun" "_law_begun" s_begun kM1 977 296 2 586 587 (.ref 588) (.ref 589) 590 983,kf 604 603 "_law_origin" "_law_origin" s_origin kM1 992 312 3 598 599 (.ref 600) (.ref 601) 602 1003,kf 626 625 "_law_open" "_law_open" s_open kM1 1028 331 1 622 623 .none .none 624 1031,kf 633 632 "_law_done" "_law_done" s_done kM1 1034 333 2 627 628 (.ref 629) (.ref 630) 631 1046,kf 638 637 "_law_lone" "_law_lone" s_lone kM1 1049 352 1 634 635 .none .none 636 1052,kf 643 642 "_law_easy" "_law_easy" s_easy kM1 1055 359 3 639 640 .none .none 641 1058,kf 566 565 "sheet" "sheet" s_sheet kM5 944 260 1 562 563 .none .none 564 947,kf 655 654 "_law_sheet" "_law_sheet" s_lawsheet kM1 1075 388 2 651 652 .none .none 653 1078,kf 672 671 "law" "law" s_law kM1 1095 405 1 668 669 .none .none 670 1098,[ko 313 ⟨.type "dict",none,(.dict #[enP P "put" 628 (.ref 272),enP P "join" 629 (.ref 279),enP P "found" 630 (.ref 286),enP P "aged" 631 (.ref 293),enP P "drop" 632 (.ref 298),enP P "free" 633 (.ref 305),enP P "shut" 634 (.ref 312)] 7),#[]⟩]]
def hk:PySem.W.Hook:=PySem.W.kHook kk [3,261,260,557,556,128,127,80,79,56,55,104,103,116,115,68,67,92,91,44,43,140,139,152,151,164,163,188,187,176,175,31,30,573,572,580,579,597,596,662,661,667,666,197,196,204,203,346,345,351,350,218,217,225,224,232,231,239,238,325,324,332,331,339,338,272,271,279,278,286,285,293,292,298,297,305,304,312,311,320,319,365,364,372,371,428,427,449,448,456,455,463,462,435,434,585,584,592,591,604,603,626,625,633,632,638,637,643,642,566,565,655,654,672,671,313] (fun _=>by kernel_rfl)
def lw:PySem.W.OpenLaw:=PySem.Challenge.rw_hissroom_k45_sheets_written
def qq:Program:={ lw.prog with main:={ lw.prog.main with body:=[s_law]}}
def ll:List Str:=[sS "_wall",sS "HissError",sS "BadBars",sS "BadName",sS "BadAge",sS "BadBar",sS "BadPlace",sS "Taken",sS "Full",sS "NoTake",sS "Shut",sS "Joined",sS "Needed",sS "NothingLeft",sS "BadSize",sS "is_bars",sS "joined",sS "MOST_LETTERS",sS "MOST_TAKES",sS "OLDEST",sS "Stand",sS "put",sS "join",sS "found",sS "aged",sS "drop",sS "free",sS "shut",sS "DEEDS",sS "stand_behind",sS "check_new",sS "check_age",sS "check_place",sS "with_key",sS "without_key",sS "LONGEST",sS "Room",sS "sheet",sS "_law_box",sS "_law_take",sS "_law_names",sS "_law_begun",sS "_law_bars",sS "_law_origin",sS "_law_ages",sS "_law_heard",sS "_law_takes",sS "_law_open",sS "_law_done",sS "_law_lone",sS "_law_easy",sS "_law_grown",sS "_law_sheet",sS "_law_size",sS "_law_same"]
def xt (s:Shared):Bool:=PySem.W.xlAt qq [] s&&PySem.W.recOk (PySem.W.RowW.records lw.row.toRowW) s
theorem left0:LeftT lw.prog qq ll xt hk.obs hk.val 5753 "special-get-raises" false:=fun w os=>by kernel_rfl
theorem left1:LeftT lw.prog qq ll xt hk.obs hk.val 5753 "special-get-raises" true:=fun w os=>by kernel_rfl
theorem left:PySem.W.LeftO lw.prog qq ll xt hk.obs hk.val 5753:=left_ofR (by kernel_rfl) rfl (fun s=>by kernel_rfl) rfl left0.at left1.at
theorem said:lw.wellSaid=true:=(congrFun PySem.W.Fast.te9446332074065402090 lw).trans (by kernel_rfl)
def dd:DefRec:=⟨"law",defArgs s_law,defBody s_law,defScope s_law,defPos s_law⟩
theorem holds (F:PySem.W.WalkO qq ll (PySem.W.XL qq []) hk.says lw.row.toRowW dd [] (fun f vs=>PySem.call f vs)):lw.Holds:=PySem.W.holds_law said fun k1=>PySem.W.holds_open (q:=qq) (loose:=ll) (Xt:=xt) (XP:=PySem.W.XL qq []) (d:=dd) (kwd:=[]) left hk.of hk.keeps (fun s e=>PySem.W.xl_of s (Bool.and_eq_true_iff.mp e).1) PySem.W.XL.keeps (by kernel_rfl) (by kernel_rfl) rfl (fun s e=>PySem.W.recFacts_of (Bool.and_eq_true_iff.mp e).2) rfl k1 (by kernel_rfl) ⟨rfl,rfl,rfl,rfl,rfl,by kernel_rfl⟩ ⟨[.list []],by kernel_rfl,by kernel_rfl⟩ F
set_option maxHeartbeats 40000000 in
theorem fin:PySem.W.WalkO qq ll (PySem.W.XL qq []) hk.says lw.row.toRowW dd [] (fun f vs=>PySem.call f vs):=by
 refine L2.walk_of (l:=lw) (d:=dd) (n:=63) (k:=12) (x := "_law_script") (K:=kk) (CX:=fun _=>CX0) (sp:=fun w=>spLaw (kk w.params)) rfl (by decide) rfl ⟨rfl,by decide,by decide⟩ (fun w h Y=>PySem.W.kIn_of Y) (fun w mg fa h X G hfa=>?_) (fun _ _ a ns hl _ hS=>⟨a,ns,rfl,hS,hl,fun _=>rfl⟩) fun _ _ _ _ _ z=>z
 have e:=hfa.symm.trans (PySem.W.mg_of X G (show PySem.W.nsIn (kk w.params) mainGlobals "law"=sr 672 by kernel_rfl))
 cases e
 have T:Bi2 mg:=⟨PySem.W.mg_none_of X G (by kernel_rfl),PySem.W.mg_none_of X G (by kernel_rfl),PySem.W.mg_none_of X G (by kernel_rfl),PySem.W.mg_none_of X G (by kernel_rfl),PySem.W.mg_none_of X G (by kernel_rfl),PySem.W.mg_none_of X G (by kernel_rfl),PySem.W.mg_none_of X G (by kernel_rfl),PySem.W.mg_none_of X G (by kernel_rfl),PySem.W.mg_none_of X G (by kernel_rfl),PySem.W.mg_none_of X G (by kernel_rfl),PySem.W.mg_none_of X G (by kernel_rfl),PySem.W.mg_none_of X G (by kernel_rfl),PySem.W.mg_none_of X G (by kernel_rfl),PySem.W.mg_none_of X G (by kernel_rfl),PySem.W.mg_none_of X G (by kernel_rfl),PySem.W.mg_none_of X G (by kernel_rfl),PySem.W.mg_none_of X G (by kernel_rfl)⟩
 have Z_Stand:ZStand (kk w.params) cStand:=⟨⟨by kernel_rfl,by kernel_rfl,by kernel_rfl,by kernel_rfl⟩,by kernel_rfl,by kernel_rfl,by kernel_rfl,by kernel_rfl⟩
 have Z_Room:ZRoom (kk w.params) cRoom:=⟨⟨by kernel_rfl,by kernel_rfl,by kernel_rfl,by kernel_rfl⟩,by kernel_rfl,by kernel_rfl,by kernel_rfl⟩
 have F0:=fQ (K:=kk w.params) "_law_box" "_law_box" s_box 573 kM1 572
 have F1:=fQ (K:=kk w.params) "_law_take" "_law_take" s_take 580 kM1 579
 have F2:=fQ (K:=kk w.params) "_law_bars" "_law_bars" s_bars 597 kM1 596
 have F3:=fQ (K:=kk w.params) "_law_size" "_law_size" s_size 662 kM1 661
 have F4:=fQ (K:=kk w.params) "_law_same" "_law_same" s_same 667 kM1 666
 have F5:=fQ (K:=kk w.params) "is_bars" "is_bars" s_is_bars 197 kM2 196
 have F6:=fQ (K:=kk w.params) "joined" "joined" s_joined 204 kM2 203
 have F7:=fQ (K:=kk w.params) "with_key" "with_key" s_with_key 346 kM3 345
 have F8:=fQ (K:=kk w.params) "without_key" "without_key" s_without_key 351 kM3 350
 have F9:=fQ (K:=kk w.params) "__init__" "Stand.__init__" s_Stand___init__ 218 kM3 217
 have F10:=fQ (K:=kk w.params) "check_there" "Stand.check_there" s_Stand_check_there 225 kM3 224
 have F11:=fQ (K:=kk w.params) "parts" "Stand.parts" s_Stand_parts 232 kM3 231
 have F12:=fQ (K:=kk w.params) "source" "Stand.source" s_Stand_source 239 kM3 238
 have F13:=fQ (K:=kk w.params) "check_new" "check_new" s_check_new 325 kM3 324
 have F14:=fQ (K:=kk w.params) "check_age" "check_age" s_check_age 332 kM3 331
 have F15:=fQ (K:=kk w.params) "check_place" "check_place" s_check_place 339 kM3 338
 have F16:=fQ (K:=kk w.params) "put" "put" s_put 272 kM3 271
 have F17:=fQ (K:=kk w.params) "join" "join" s_join 279 kM3 278
 have F18:=fQ (K:=kk w.params) "found" "found" s_found 286 kM3 285
 have F19:=fQ (K:=kk w.params) "aged" "aged" s_aged 293 kM3 292
 have F20:=fQ (K:=kk w.params) "drop" "drop" s_drop 298 kM3 297
 have F21:=fQ (K:=kk w.params) "free" "free" s_free 305 kM3 304
 have F22:=fQ (K:=kk w.params) "shut" "shut" s_shut 312 kM3 311
 have F23:=fQ (K:=kk w.params) "stand_behind" "stand_behind" s_stand_behind 320 kM3 319
 have F24:=fQ (K:=kk w.params) "__init__" "Room.__init__" s_Room___init__ 365 kM4 364
 have F25:=fQ (K:=kk w.params) "now" "Room.now" s_Room_now 372 kM4 371
 have F26:=fQ (K:=kk w.params) "deed" "Room.deed" s_Room_deed 428 kM4 427
 have F27:=fQ (K:=kk w.params) "deeds" "Room.deeds" s_Room_deeds 449 kM4 448
 have F28:=fQ (K:=kk w.params) "ahead" "Room.ahead" s_Room_ahead 456 kM4 455
 have F29:=fQ (K:=kk w.params) "size" "Room.size" s_Room_size 463 kM4 462
 have F30:=fQ (K:=kk w.params) "undo" "Room.undo" s_Room_undo 435 kM4 434
 have F31:=fQ (K:=kk w.params) "_law_names" "_law_names" s_names 585 kM1 584
 have F32:=fQ (K:=kk w.params) "_law_begun" "_law_begun" s_begun 592 kM1 591
 have F33:=fQ (K:=kk w.params) "_law_origin" "_law_origin" s_origin 604 kM1 603
 have F34:=fQ (K:=kk w.params) "_law_open" "_law_open" s_open 626 kM1 625
 have F35:=fQ (K:=kk w.params) "_law_done" "_law_done" s_done 633 kM1 632
 have F36:=fQ (K:=kk w.params) "_law_lone" "_law_lone" s_lone 638 kM1 637
 have F37:=fQ (K:=kk w.params) "_law_easy" "_law_easy" s_easy 643 kM1 642
 have F38:=fQ (K:=kk w.params) "sheet" "sheet" s_sheet 566 kM5 565
 have F39:=fQ (K:=kk w.params) "_law_sheet" "_law_sheet" s_lawsheet 655 kM1 654
 have F40:=fQ (K:=kk w.params) "law" "law" s_law 672 kM1 671
 refine⟨PySem.W.fnOf "law" "law" (defArgs s_law) (defBody s_law) (defScope s_law) .none .none .none kM1 none (.ref 671) .none,fun s v=>.of_eq rfl,fun base X0 G0=>?_⟩
 have O_NoTake:=own_of (x := "NoTake") (C:=cJ) (h:=base) X0 G0 (by kernel_rfl) (by kernel_rfl)
 have O_BadBar:=own_of (x := "BadBar") (C:=cE) (h:=base) X0 G0 (by kernel_rfl) (by kernel_rfl)
 have O_BadName:=own_of (x := "BadName") (C:=cP) (h:=base) X0 G0 (by kernel_rfl) (by kernel_rfl)
 have O_Taken:=own_of (x := "Taken") (C:=cH) (h:=base) X0 G0 (by kernel_rfl) (by kernel_rfl)
 have O_Full:=own_of (x := "Full") (C:=cI) (h:=base) X0 G0 (by kernel_rfl) (by kernel_rfl)
 have O_BadAge:=own_of (x := "BadAge") (C:=cD) (h:=base) X0 G0 (by kernel_rfl) (by kernel_rfl)
 have O_BadPlace:=own_of (x := "BadPlace") (C:=cF) (h:=base) X0 G0 (by kernel_rfl) (by kernel_rfl)
 have O_BadBars:=own_of (x := "BadBars") (C:=cA) (h:=base) X0 G0 (by kernel_rfl) (by kernel_rfl)
 have O_Shut:=own_of (x := "Shut") (C:=cK) (h:=base) X0 G0 (by kernel_rfl) (by kernel_rfl)
 have O_Joined:=own_of (x := "Joined") (C:=cL) (h:=base) X0 G0 (by kernel_rfl) (by kernel_rfl)
 have O_Needed:=own_of (x := "Needed") (C:=cM) (h:=base) X0 G0 (by kernel_rfl) (by kernel_rfl)
 have O_BadSize:=own_of (x := "BadSize") (C:=cG) (h:=base) X0 G0 (by kernel_rfl) (by kernel_rfl)
 have O_NothingLeft:=own_of (x := "NothingLeft") (C:=cO) (h:=base) X0 G0 (by kernel_rfl) (by kernel_rfl)
 have G_LONGEST:GInt mg "LONGEST" 40:=⟨691,PySem.W.mg_of X G (by kernel_rfl)⟩
 have G_MOST_LETTERS:GInt mg "MOST_LETTERS" 8:=⟨448,PySem.W.mg_of X G (by kernel_rfl)⟩
 have G_MOST_TAKES:GInt mg "MOST_TAKES" 20:=⟨450,PySem.W.mg_of X G (by kernel_rfl)⟩
 have G_OLDEST:GInt mg "OLDEST" 20:=⟨452,PySem.W.mg_of X G (by kernel_rfl)⟩
 have T_DEEDS:Tab lw.prog w (kk w.params) mg "DEEDS" [("put",a_put),("join",a_join),("found",a_found),("aged",a_aged),("drop",a_drop),("free",a_free),("shut",a_shut)]:=tab_of (x := "DEEDS") (d:=313) (n:=7) [("put",628,272),("join",629,279),("found",630,286),("aged",631,293),("drop",632,298),("free",633,305),("shut",634,312)] X G (by kernel_rfl) (by kernel_rfl) (by decide)
 have M_put:mg "put"=some (.ref a_put):=PySem.W.mg_of X G (by kernel_rfl)
 have M_join:mg "join"=some (.ref a_join):=PySem.W.mg_of X G (by kernel_rfl)
 have M_found:mg "found"=some (.ref a_found):=PySem.W.mg_of X G (by kernel_rfl)
 have M_aged:mg "aged"=some (.ref a_aged):=PySem.W.mg_of X G (by kernel_rfl)
 have M_drop:mg "drop"=some (.ref a_drop):=PySem.W.mg_of X G (by kernel_rfl)
 have M_free:mg "free"=some (.ref a_free):=PySem.W.mg_of X G (by kernel_rfl)
 have M_shut:mg "shut"=some (.ref a_shut):=PySem.W.mg_of X G (by kernel_rfl)
 have C0:c_box lw.prog w (kk w.params) mg base:=cal_of X G F0 (ok_box F0 T ) (bd1 F0)
 have C1:c_take lw.prog w (kk w.params) mg base:=cal_of X G F1 (ok_take F1 T ) (bd2 F1)
 have C2:c_bars lw.prog w (kk w.params) mg base:=cal_of X G F2 (ok_bars F2 T  C1) (bd2 F2)
 have C3:c_size lw.prog w (kk w.params) mg base:=cal_of X G F3 (ok_size F3 T  C1) (bd2 F3)
 have C4:c_same lw.prog w (kk w.params) mg base:=cal_of X G F4 ((ok_same F4 T  (PySem.W.mg_of X G (by kernel_rfl)) F4.kp (bd2 F4)  5).imp fun vs H Q E h=>same_imp h) (bd2 F4)
 have C5:c_is_bars lw.prog w (kk w.params) mg base:=cal_of X G F5 (ok_is_bars F5 T ) (bd2 F5)
 have C6:c_joined lw.prog w (kk w.params) mg base:=cal_of X G F6 (ok_joined F6 T ) (bd3 F6)
 have C7:c_with_key lw.prog w (kk w.params) mg base:=cal_of X G F7 (ok_with_key F7 T ) (bd3 F7)
 have C8:c_without_key lw.prog w (kk w.params) mg base:=cal_of X G F8 (ok_without_key F8 T ) (bd2 F8)
 have C9:c_Stand___init__ lw.prog w (kk w.params) mg base:=cali_of X G F9 (ok_Stand___init__ F9 T Z_Stand) (bd5 F9)
 have C10:c_Stand_check_there lw.prog w (kk w.params) mg base:=calmx_of F10 (ok_Stand_check_there F10 T Z_Stand O_NoTake) (bd2 F10)
 have C11:c_Stand_parts lw.prog w (kk w.params) mg base:=calmx_of F11 (ok_Stand_parts F11 T Z_Stand C10) (bd2 F11)
 have C12:c_Stand_source lw.prog w (kk w.params) mg base:=calmx_of F12 (ok_Stand_source F12 T Z_Stand O_BadBar C11) (bd3 F12)
 have C13:c_check_new lw.prog w (kk w.params) mg base:=calx_of X G F13 (ok_check_new F13 T Z_Stand O_BadName O_Taken O_Full G_MOST_TAKES G_MOST_LETTERS) (bd2 F13)
 have C14:c_check_age lw.prog w (kk w.params) mg base:=calx_of X G F14 (ok_check_age F14 T O_BadAge G_OLDEST) (bd1 F14)
 have C15:c_check_place lw.prog w (kk w.params) mg base:=calx_of X G F15 (ok_check_place F15 T Z_Stand O_BadPlace) (bd2 F15)
 have C16:c_put lw.prog w (kk w.params) mg base:=calx_of X G F16 (ok_put F16 T Z_Stand O_BadBars C13 C5 C14 C7 C9) (bd2 F16)
 have C17:c_join lw.prog w (kk w.params) mg base:=calx_of X G F17 (ok_join F17 T Z_Stand O_Shut C13 C10 C15 C7 C9) (bd2 F17)
 have C18:c_found lw.prog w (kk w.params) mg base:=calx_of X G F18 (ok_found F18 T Z_Stand O_BadBars C12 C7 C9) (bd2 F18)
 have C19:c_aged lw.prog w (kk w.params) mg base:=calx_of X G F19 (ok_aged F19 T Z_Stand O_Joined C11 C14 C7 C9) (bd2 F19)
 have C20:c_drop lw.prog w (kk w.params) mg base:=calx_of X G F20 (ok_drop F20 T Z_Stand O_Needed C10 C8 C9) (bd2 F20)
 have C21:c_free lw.prog w (kk w.params) mg base:=calx_of X G F21 (ok_free F21 T Z_Stand C15 C8 C9) (bd2 F21)
 have C22:c_shut lw.prog w (kk w.params) mg base:=calx_of X G F22 (ok_shut F22 T Z_Stand C15 C7 C9) (bd2 F22)
 have C23:c_stand_behind lw.prog w (kk w.params) mg base:=calx_of X G F23 (ok_stand_behind F23 T T_DEEDS M_put M_join M_found M_aged M_drop M_free M_shut C16 C17 C18 C19 C20 C21 C22) (bd2 F23)
 have C24:c_Room___init__ lw.prog w (kk w.params) mg base:=calix_of X G F24 (ok_Room___init__ F24 T Z_Room Z_Stand O_BadSize G_LONGEST C9) (bd2 F24)
 have C25:c_Room_now lw.prog w (kk w.params) mg base:=calm_of F25 (ok_Room_now F25 T Z_Room) (bd1 F25)
 have C26:c_Room_deed lw.prog w (kk w.params) mg base:=calmx_of F26 (ok_Room_deed F26 T Z_Room C25 C23) (bd2 F26)
 have C27:c_Room_deeds lw.prog w (kk w.params) mg base:=calm_of F27 (ok_Room_deeds F27 T Z_Room) (bd1 F27)
 have C28:c_Room_ahead lw.prog w (kk w.params) mg base:=calm_of F28 (ok_Room_ahead F28 T Z_Room) (bd1 F28)
 have C29:c_Room_size lw.prog w (kk w.params) mg base:=calm_of F29 (ok_Room_size F29 T Z_Room Z_Stand C25) (bd1 F29)
 have C30:c_Room_undo lw.prog w (kk w.params) mg base:=calmx_of F30 (ok_Room_undo F30 T Z_Room O_NothingLeft) (bd1 F30)
 have C31:c_names lw.prog w (kk w.params) mg base:=cal_of X G F31 (ok_names F31 T  C1) (bd2 F31)
 have C32:c_begun lw.prog w (kk w.params) mg base:=cal_of X G F32 (ok_begun F32 T Z_Room C1 C24 C31) (bd2 F32)
 have C33:c_origin lw.prog w (kk w.params) mg base:=cal_of X G F33 (ok_origin F33 T ) (bd3 F33)
 have C34:c_open lw.prog w (kk w.params) mg base:=cal_of X G F34 (ok_open F34 T ) (bd1 F34)
 have C35:c_done lw.prog w (kk w.params) mg base:=cal_of X G F35 (ok_done F35 T  C33) (bd2 F35)
 have C36:c_lone lw.prog w (kk w.params) mg base:=cal_of X G F36 (ok_lone F36 T ) (bd1 F36)
 have C37:c_easy lw.prog w (kk w.params) mg base:=cal_of X G F37 (ok_easy F37 T  C1 C34 C2 C36) (bd3 F37)
 have C38:c_sheet lw.prog w (kk w.params) mg base:=cal_of X G F38 (ok_sheet F38 T Z_Room C29 C27) (bd1 F38)
 have C39:c_lawsheet lw.prog w (kk w.params) mg base:=cal_of X G F39 (ok_lawsheet F39 T ) (bd2 F39)
 exact ok_law F40 T Z_Room C0 C1 C3 C32 C30 C37 C26 C35 C4 C38 C39 C27 C28
end Pf
theorem PySem.Challenge.cw_hissroom_k45_sheets_written_holds : PySem.Challenge.rw_hissroom_k45_sheets_written.Holds :=
 Pf.holds Pf.fin